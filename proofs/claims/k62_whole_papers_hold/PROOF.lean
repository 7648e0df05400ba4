import PyProof.Rows.All
import Wide.All
import OpenK.AllK
import Wide.FinOn
import Lean
import PyProof.EqAt
import PyProof.EqKinds
import PyProof.TupleCall
import PySem.Challenge.RW_zonewalk_k62_whole_papers_hold
set_option compiler.extract_closed false
set_option bootstrap.genMatcherCode false
set_option linter.all false
set_option tactic.hygienic false
def Á:=@List.getElem?_eq_getElem
def À:=@List.length_map
def Ê:=@List.getElem?_eq_some_iff
def Ë:=@List.mem_cons_of_mem
def È:=@Bool.and_eq_true
def É:=@List.getElem?_map
def Ì:=@List.mem_singleton
def Ó:=@PySem.Heap.get?_push_of_some
def Î:=@List.mem_cons_self
def Ã:=@Nat.le_refl
def Ç:=@PySem.Heap.lt_size
def Ø:=@Option.map_eq_some_iff
def Ñ:=@List.all_eq_true
def Ð:=@List.mem_cons
def â:=@List.getD_eq_getElem?_getD
def Ò:=@List.mem_map
def Ý:=@Nat.lt_of_lt_of_le
def Ô:=@Nat.ne_of_lt
def ã:=@List.mem_append_right
def ß:=@List.length_append
def á:=@PySem.Heap.get?_push_size
def Ú:=@List.mem_append
def é:=@List.getElem?_set_self
def Ù:=@List.map_cons
def Þ:=@Option.some.inj
def å:=@List.getElem?_set_ne
def Ö:=@Nat.le_trans
def à:=@List.map_append
def Û:=@Int.mul_assoc
def Í:=@Ne.symm
def ù:=@List.getElem?_append_left
def æ:=@List.lookup_cons
def ê:=@List.append_nil
def ö:=@List.contains_iff_mem
def ë:=@List.getElem_mem
def í:=@List.size_toArray
def ä:=@Nat.lt_irrefl
def î:=@List.length_take
def ï:=@List.length_cons
def Ģ:=@List.exists_cons_of_length_eq_add_one
def ð:=@List.append_assoc
def ú:=@List.mem_of_getElem?
def þ:=@List.getElem?_eq_none
def ñ:=@List.getElem_inj
def ç:=@Int.mul_comm
def è:=@List.map_map
def ÿ:=@Bool.and_eq_true_iff
def ģ:=@List.findIdx?_eq_some_iff_getElem
def ò:=@PySem.W.kia_one
def û:=@List.not_mem_nil
def Ā:=@List.getD_cons_succ
def ā:=@List.getD_cons_zero
def ĕ:=@PyProof.Rows.callWith_type1
def Ė:=@List.getElem?_append_right
def ì:=@Int.le_of_lt
def Ċ:=@PySem.Heap.get?_update_other
def Ć:=@List.map_congr_left
def ċ:=@List.getElem?_zipWith
def Ă:=@Option.map_some
def ć:=@Bool.false_ne_true
def Č:=@List.mem_append_left
def č:=@Bool.or_eq_false_iff
def ă:=@List.take_length
def į:=@List.take_succ_eq_append_getElem
def ó:=@Nat.succ.inj
def ė:=@Int.fmod_nonneg_of_pos
def Ď:=@Int.toNat_natCast
def ď:=@PySem.mem_of_lookup
def Ę:=@List.length_singleton
def Đ:=@List.length_set
def đ:=@List.length_nil
def ø:=@Nat.zero_le
def İ:=@Array.getElem?_eq_some_iff
def ı:=@List.drop_eq_getElem_cons
def Ĳ:=@Array.getElem?_eq_getElem
def Ē:=@Bool.or_eq_true
def Ň:=@Int.mul_le_mul_of_nonneg_right
def ĳ:=@List.take_append_getElem
def ň:=@List.getElem?_cons_succ
def Ĥ:=@PySem.W.hideAll_get
def ę:=@Nat.lt_succ_self
def Ě:=@List.any_eq_true
def ĥ:=@List.mem_filterMap
def Ħ:=@Nat.lt_succ_of_lt
def ě:=@List.mem_range
def Ĝ:=@PySem.Heap.size_push
def ħ:=@Nat.le_add_right
def ŉ:=@PySem.F.slot_str_getitem
def Ĩ:=@Option.bind_some
def Ŋ:=@PySem.F.plainAttrs_list
def ĝ:=@List.any_cons
def Ĵ:=@PySem.W.of_hideAll
def ĩ:=@List.nodup_cons
def ĵ:=@List.nil_append
def ŋ:=@Bool.false_eq_true
def Ō:=@PyProof.Rows.boot_list
def Ũ:=@Int.nonneg_of_mul_nonneg_left
def Ķ:=@Bool.not_eq_true'
def ķ:=@List.ext_getElem?
def ĸ:=@List.length_range
def Ğ:=@Nat.lt_trans
def ō:=@PySem.Heap.get?_update_self
def Ŏ:=@List.length_filter_le
def ŏ:=@List.cons_append
def Ő:=@List.mem_iff_getElem
def Ĺ:=@List.getElem_map
def ũ:=@Int.fdiv_eq_ediv_of_nonneg
def Ū:=@PySem.F.excBase_ValueError
def ĺ:=@Bool.false_or
def ū:=@Int.eq_of_mul_eq_mul_right
def ğ:=@Nat.le_succ
def ő:=@List.length_reverse
def Ļ:=@List.mem_filter
def ļ:=@Int.emod_two_eq
def Ŭ:=@List.mem_of_find?_eq_some
def ŭ:=@List.mem_take_iff_getElem
def Ī:=@Nat.succ_pos
def Ů:=@Option.isSome_iff_exists
def ů:=@List.getElem?_take_of_lt
def Œ:=@Int.fmod_lt_of_pos
def œ:=@PySem.Obj.data_mapFields
def Ŕ:=@PySem.W.callWith_K
def ŕ:=@List.getElem?_drop
def Ŗ:=@List.zip_cons_cons
def ī:=@PySem.F.called_set
def ŗ:=@Bool.false_and
def Ψ:=@PySem.F.slot_dict_itemiterator_iter
def Ľ:=@Int.mul_nonneg
def Ű:=@List.getElem?_replicate
def ű:=@PyProof.Rows.F.plain_set_update_loop
def Ų:=@List.length_eq_zero_iff
def ų:=@Option.bind_eq_some_iff
def Ŵ:=@Option.some.injEq
def Ř:=@List.getElem?_set
def ŵ:=@PyProof.V.reads_dictOf
def Ŷ:=@PySem.SeqAt.notIn_list_reads
def ŷ:=@List.forall_mem_append
def ř:=@Bool.not_true
def Ś:=@Bool.and_true
def ś:=@Option.getD_some
def Ŝ:=@List.filter_cons
def Ÿ:=@List.length_replicate
def Ź:=@PySem.Obj.isFreed_of_fields
def ź:=@List.getElem?_reverse
def Ż:=@PySem.W.hideAll_none
def ľ:=@Int.lt_or_le
def ŝ:=@Int.natCast_pos
def ż:=@PySem.W.plainGet_of
def Ž:=@PySem.SeqAt.in_list_reads
def ž:=@List.getElem?_range
def ſ:=@List.length_zipWith
def Α:=@List.mem_map_of_mem
def Ş:=@List.take_zero
def Ŀ:=@Int.mul_one
def ŀ:=@Int.mul_pos
def Ł:=@Int.sub_mul
def ł:=@Int.le_refl
def Β:=@Int.lt_of_le_of_lt
def Δ:=@Int.natCast_nonneg
def Ε:=@List.contains_cons
def Ζ:=@List.findIdx?_cons
def Η:=@Int.mul_right_comm
def ş:=@PySem.Paired.length
def Θ:=@Bool.true_and
def Ι:=@PySem.W.kitx_list
def Κ:=@PySem.W.kitx_dict
def Λ:=@List.getElem_take
def Μ:=@Int.mul_left_comm
def Ν:=@Nat.succ_le_succ
def Š:=@Int.ne_of_gt
def š:=@Nat.le_of_lt
def Ţ:=@List.all_map
def ţ:=@PySem.Txt.slice_le
def Ξ:=@List.mem_flatMap
def Õ:=@decide_eq_false
def ô:=@PySem.wpAny_mono
def Ĉ:=@PySem.wpAny_truthy_bool
def Ń:=@PySem.wpAny_execs_nil
def Ο:=@PyProof.Rows.assignInOrder_cons
def Â:=@PySem.wpAny_bind
def ĉ:=@PySem.wpAny_holding
def ń:=@PySem.wpAny_standAt
def Ï:=@PySem.wpAny_pure
def Ρ:=@PySem.wpAny_newObj_type
def Ġ:=@PySem.wpAny_passesOwn
def Τ:=@PySem.wpAny_pyIter_list
def Ą:=@PySem.sizeLine_eq
def Ĭ:=@PySem.wpAny_Call_Name_kw
def ĭ:=@PySem.typeIs_str
def Æ:=@if_true
def Ņ:=@PySem.call_meets
def ġ:=@PySem.codeAny_mono
def Ä:=@decide_eq_true
def Ť:=@PySem.wpAny_setField
def ē:=@PySem.wpAny_field
def ņ:=@PySem.wpAny_call
def Ĕ:=@beq_iff_eq
def ü:=@decide_eq_true_eq
def ý:=@or_false
def õ:=@beq_self_eq_true
def ť:=@PySem.pushCells_keeps
def Ü:=@of_decide_eq_true
def Å:=@if_false
def ą:=@PySem.wpAny_ite_false
def Į:=@PySem.wpAny_of_eq
def Υ:=@PySem.wpAny_isInstance
def Ŧ:=@PySem.wpAny_getItem_str_slice
def ŧ:=@PySem.post_val_or_str
def Φ:=@beq_eq_false_iff_ne
def Χ:=@not_false_eq_true
noncomputable section
abbrev kb:=List<|PySem.Str×List Int
abbrev kc:=List<|Nat×Nat
abbrev ke:=List PySem.Value
abbrev kg:=Option Int
abbrev kh:=List PySem.Expr
abbrev kj:=List PySem.Stmt
abbrev kq:=List PySem.Str
abbrev ku:=List Int
abbrev kz:=List Nat
local macro_rules|`(tactic|ext)=>`(tactic|kernel_rfl)
local macro_rules|`(tactic|change $e = $x)=>`(tactic|generalize $e = $(⟨x.raw⟩):ident at *)
set_option hygiene false
local macro_rules|`(tactic|symm)=>`(tactic|exact q.elim)
set_option hygiene true
def rcp:Nat->Lean.Syntax->Lean.MacroM (Lean.TSyntax `rcasesPat)
 |n+1,t=>do if t.getKind==`Lean.Parser.Term.tuple then let l<-((t[1][0]::t[1][2].getSepArgs.toList).toArray.mapM (rcp n));`(rcasesPat|⟨$l,*⟩) else if t.isIdent then `(rcasesPat|$(⟨t⟩):ident) else `(rcasesPat|_)
 |ϊ,ϋ=>Lean.Macro.throwUnsupported
theorem hld{g:Prop}(h:∀G:Prop,(g->G)->G):g:=h g id
local macro_rules
  |`(tactic|let $p:term $[:$t]? := $e)=>do
    if p.raw.getKind != `Lean.Parser.Term.tuple then Lean.Macro.throwUnsupported
    let q<-rcp 20 p.raw
    if p.raw[1][2].getSepArgs.size>1 then `(tactic|(refine hld fun G k=>?_;obtain $q:rcasesPat $[:$t]? := $e;refine k ?_;try clear k G)) else `(tactic|obtain $q:rcasesPat $[:$t]? := $e)
local macro_rules(kind:=Lean.Parser.Command.declaration)|s=>do
  let d:=s[1];let k:=d.getKind;let m:=s[0];let t:=s.setArg 1 (d.setArg 0 (.atom .none d[0].getAtomVal))
  if m[6].getNumArgs != 0 then let c:Lean.TSyntax `command:=⟨s.setArg 0 (m.setArg 6 (Lean.mkNullNode #[]))⟩;return (<-`(command|set_option tactic.hygienic true in $c))
  if m[4].getNumArgs != 0||(d[0].getHeadInfo matches .none) then Lean.Macro.throwUnsupported
  if k==`Lean.Parser.Command.definition&&(d[3][1].getKind==`Lean.Parser.Term.byTactic||[`«term_=_»,`«term_∧_»,`«term_∨_»,`«term∃_,_»,`«term_≤_»,`«term_<_»,`«term_<->_»,`«term_↔_»,`«term_≠_»,`«term_∈_»,`Lean.Parser.Term.forall].contains d[2][1][0][1].getKind) then return s.setArg 1 (.node .none `Lean.Parser.Command.theorem #[.atom .none "theorem",d[1],.node .none `Lean.Parser.Command.declSig #[d[2][0],d[2][1][0]],d[3]])
  else if k==`Lean.Parser.Command.definition||k==`Lean.Parser.Command.abbrev then return t.setArg 0 (m.setArg 4 (Lean.mkNullNode #[.node .none `Lean.Parser.Command.noncomputable #[.atom .none "noncomputable"]]))
  else if k==`Lean.Parser.Command.theorem then return t else Lean.Macro.throwUnsupported
local macro_rules|`({$x:term,*})=>`(⟨$x,*⟩)
local macro_rules|`(↑$x:term)=>`(some $x)
local macro_rules|`(tactic|erw [$rs,*] $[$l:location]?)=>do let ts:=rs.getElems.map fun r=>(⟨r.raw[1]⟩:Lean.TSyntax `term);`(tactic|simp only [$[$ts:term],*] $[$l]?)
abbrev ka:=PySem.W.Frag
set_option Elab.async false
set_option linter.all false
set_option maxRecDepth 100000
set_option genSizeOf false
set_option genInjectivity false
local macro_rules
  |`(tactic| lia)=>`(tactic| first
    |assumption
    |exact Ö (by assumption) (by decide +kernel)
    |exact Ý (by assumption) (by decide +kernel)
    |exact Nat.lt_of_le_of_lt (by assumption) (by decide +kernel)
    |exact Ī _
    |exact Ý (by assumption) (Ν (Ö (by assumption) (by decide +kernel)))
    |exact Ν (Ö (by assumption) (by decide +kernel))
    |exact Ğ (by assumption) (by assumption)
    |exact Ý (by assumption) (by assumption)
    |exact Int.lt_trans (b:=0) (by decide +kernel) (by assumption)
    |exact Int.lt_of_lt_of_le (b:=0) (by decide +kernel) (by assumption)
    |exact Β (by assumption) (by decide +kernel)
    |exact Int.le_trans (by assumption) (by decide +kernel)
    |exact ì (by assumption)
    |exact Š (by assumption)
    |lia +clean
    |fail)
local macro_rules|`(!$x)=>`(some $x)
local macro_rules|`(())=>`(none)
local macro_rules|`(tactic|show $e:term)=>`(tactic|refine $e)
local macro_rules(kind:=Lean.Parser.Tactic.tacticLet__)|s=>if s[2][0].getKind==`Lean.Parser.Term.letIdDecl then return (s.setArg 0<|.atom .none "have").setKind `Lean.Parser.Tactic.tacticHave__ else Lean.Macro.throwUnsupported
local macro_rules|`(⇑$x)=>`((($x).ws.length+1))
local macro_rules|`(↥$x)=>`((($x).ws.length))
def Zl.said:PySem.Challenge.rw_zonewalk_k62_whole_papers_hold.wellSaid=true:=(congrFun PySem.W.Fast.te9446332074065402090 _).trans<|by ext
namespace L2
open PySem PySem.Spec PyProof.Rows
abbrev Key:=Sum Int Str
def Hi:Key->Value->Bool
 |.inl k,v=>Value.isInt k v|.inr x,v=>Value.isStrOf x v
def keyH(w:World):Key->Int
 |.inl k=>hashInt k|.inr x=>hashStr w x
def F9:∀{k} {v},Hi k v=true->(∃i t,k=Sum.inl i/\v=Value.int i t)\/(∃x t,k=Sum.inr x/\v=Value.str x t)
 |.inl i,v,h=>by
  let(t,e):=Value.isInt_shape h;grind
 |.inr x,v,h=>by
  let(t,e):=Value.isStrOf_shape h;grind
def Ω(i)(t):Hi (.inl i) (.int i t)=true:=by simp[Hi,Value.isInt]
def zgn(x)(t):Hi (.inr x) (.str x t)=true:=by simp[Hi,Value.isStrOf]
def zqq(a b:Int):decide ((Sum.inl a:Key)=Sum.inl b)=(a == b):=by
 grind
def zqn(a b:Str):decide ((Sum.inr a:Key)=Sum.inr b)=decide (a=b):=by
 simp
def zqp(a:Int)(b:Str):decide (Sum.inl a=Sum.inr b)=false:=Õ<|λq=>nomatch q
def zqo(a:Str)(b:Int):decide (Sum.inr a=Sum.inl b)=false:=Õ<|λq=>nomatch q
def DQ(prog:Program)(w:World):PySem.KeyKind prog w Key where
 is:=Hi
 hash:=keyH w
 inj:=λv a b ha hb=>by
  rcases F9 ha with ⟨i,t,rfl,rfl⟩|⟨x,t,rfl,rfl⟩;rcases F9 hb with ⟨j,u,rfl,e⟩|⟨y,u,rfl,e⟩;injection e with c _;rw[c];show nomatch e;rcases F9 hb with ⟨j,u,rfl,e⟩|⟨y,u,rfl,e⟩;show nomatch e;injection e with c _;rw[c]
 byValue:=λk v h=>by
  rcases F9 h with ⟨i,t,rfl,rfl⟩|⟨x,t,rfl,rfl⟩<;>rfl
 pyHash:=λhv h=>by
  rcases F9 hv with ⟨i,t,rfl,rfl⟩|⟨x,t,rfl,rfl⟩;show wpAny_pyHash_int h;show wpAny_pyHash_str h
 eqBool:=λhu hv h=>by
  rcases F9 hu with ⟨i,t,rfl,rfl⟩|⟨x,t,rfl,rfl⟩;rcases F9 hv with ⟨j,u,rfl,rfl⟩|⟨y,u,rfl,rfl⟩;rw[zqq]at h;show wpAny_eqBool_int h;rw[zqp]at h;show SeqAt.EqAt.int_str i t y u _ _ _ _ h;rcases F9 hv with ⟨j,u,rfl,rfl⟩|⟨y,u,rfl,rfl⟩;rw[zqo]at h;show SeqAt.EqAt.str_int x t j u _ _ _ _ h;rw[zqn]at h;show wpAny_eqBool_str h
 «strs»:=λk x t v h=>by
  rcases F9 h with ⟨i,u,rfl,e⟩|⟨y,u,rfl,e⟩;show nomatch e;injection e with c _;subst c;cases v<;>rfl
def ze4(prog)(w)(i)(t):(DQ prog w).is (.inl i) (.int i t)=true:=Ω i t
def ze3(prog)(w)(x)(t):(DQ prog w).is (.inr x) (.str x t)=true:=zgn x t
set_option genInjectivity true in
inductive V where
 |non|bl (b:Bool)|int (i:Int)|str (x:Str)|byt (b:Array UInt8)|flt (b:UInt64)|ref (a:Addr)|ty (n:String)
 deriving DecidableEq
abbrev qC:=List V
def Ab:V->Value->Prop
 |.non,u=>u=Value.none|.bl b,u=>u=Value.bool b|.int i,u=>∃t,u=Value.int i t|.str x,u=>∃t,u=Value.str x t|.byt b,u=>∃t,u=Value.bytes b t|.flt b,u=>∃t,u=Value.float b t|.ref a,u=>u=Value.ref a|.ty n,u=>u=Value.type n
abbrev Ar:qC->ke->Prop:=Paired Ab
def Ar.length(r:Ar xs us):xs.length=us.length:=ş r
def Ar.get:∀{xs} {us} {i:Nat} {x},Ar xs us->xs[i]?=!x->∃u,us[i]?=!u/\Ab x u
 |_,_,_,_,.nil,e=>by simp at e|_,_,0,_,.cons r _,e=>by grind|_,_,i+1,x,.cons _ t,e=>by
  let(u,a,b):=Ar.get t<|by simpa using e
  grind
def Ar.set(r:Ab x u):∀{xs} {us} (i),Ar xs us->Ar (xs.set i x) (us.set i u)
 |_,_,_,.nil=>.nil|_,_,0,.cons _ t=>.cons r t|_,_,i+1,.cons q t=>.cons q<|Ar.set r i t
def Ar.append:∀{xs ys} {us ws},Ar xs us->Ar ys ws->Ar (xs++ys) (us++ws)
 |_,_,_,_,.nil,s=>s|_,_,_,_,.cons r t,s=>.cons r<|Ar.append t s
def Ar.take:∀{xs} {us} (n),Ar xs us->Ar (xs.take n) (us.take n)
 |_,_,0,_=>.nil|_,_,_+1,.nil=>.nil|_,_,n+1,.cons r t=>.cons r<|Ar.take n t
def Ar.drop:∀{xs} {us} (n),Ar xs us->Ar (xs.drop n) (us.drop n)
 |_,_,0,r=>r|_,_,_+1,.nil=>.nil|_,_,n+1,.cons _ t=>Ar.drop n t
def Ar.none_of:∀{i:Nat},Ar xs us->xs[i]?=()->us[i]?=():=λr e=>by
 let a:=r.length;grind
def E8:Option V->Option Value->Prop
 |some v,!u=>Ab v u|none,none=>True|z,y=>False
def KV{κ:Type}:List (κ×V)->List (κ×Value)->Prop:=Paired λ(p:κ×V) (q:κ×Value)=>p.1=q.1/\Ab p.2 q.2
def kV:Key->V
 |.inl i=>.int i|.inr x=>.str x
set_option genInjectivity true in
inductive HO where
 |lst (xs:List V)
 |tup (xs:List V)
 |dK (kvs:List<|Key×V)|dT (kvs:List<|List Key×V)
 |set (S:Int->Bool) (n:Nat)
 |ins (C dx:Addr) (fs:List<|Str×V)
 |own (x:Addr)
 |xd (fs:List<|Str×V)
 |met (f x:Addr)
 |rng (lo hi:Int)
 |frz (o:Obj) (u:HO)
 |tbl (ps:Array Value)
 |ext (φ:Heap->Prop)
abbrev Hp:=Addr->Option HO
def upd(H:Hp)(a:Addr)(o:HO):Hp:=λb=>if b=a then ↑o else H b
def CT{H:Hp}{a:Addr}{o:HO}:upd H a o a=!o:=by unfold upd;simp
def BF(h:b≠a):upd H a o b=H b:=by unfold upd;rw[if_neg h]
def ne_of{H:Hp}   (h:H a=!o)(h':H b=!u)(d:o≠u):a≠b:=by
 grind
def DP{H:Hp}(h:H a=!o)(h':H b=()):a≠b:=by
 grind
section
variable (P:Program)(w:World)
def DY(H:Hp)(h:Heap)(a:Addr):HO->Prop
 |.lst xs=>xs.length<=sizeLine/\∃(b:ke) (n:Nat),Ar xs b/\h.get? a=!{ cls:=.type "list",data:=.seq b.toArray n }|.tup xs=>xs.length<=sizeLine/\∃b:ke,Ar xs b/\IsTup h a b.toArray|.dK c=>c.length<=sizeLine/\(a == sysModules)=false/\∃k,KV c k/\h.DictOf (DQ P w) a k|.dT c=>c.length<=sizeLine/\(a == sysModules)=false/\∃xs:List (List Key×Addr×Value),
   Paired (λ(p:List Key×V) (q:List Key×Addr×Value)=>p.1=q.1/\H q.2.1=!(.tup<|p.1.map kV)/\Ab p.2 q.2.2) c xs /\
   ∃o g l,h.get? a=!o/\o.ExactDict/\o.data=.dict g l/\g.toList=xs.map (entryOfKey<|tupleKind<|DQ P w)/\(xs.map (·.1)).Nodup
 |.set S n=>h.SetOf (intKind P w) a S n|.ins C e fs=>H e=!(.own a)/\fs.length<=1000/\e≠a/\h.get? a=!(W.instObj C e) /\
   ∃d,h.Ns1 e d/\(∀f,E8 (fs.lookup f)<|d f)/\PySem.Within d (fs.map (·.1))
 |.own z=>∃o,h.get? a=!o|.xd fs=>∃d,h.Ns1 a d/\∀f,E8 (fs.lookup f) (d f)|.rng r m=>∃t u v,h.get? a=!{ cls:=.type "range",data:=.fields #[.int r t,.int m u,.int 1 v] }|.frz o u=>h.get? a=!o/\DY H h a u|.tbl ps=>h.get? a=!{ cls:=.none,data:=.fields ps }|.met f x=>h.get? a=!(W.methodObj (.ref f)<|.ref x)|.ext φ=>φ h/\(∃o,h.get? a=!o)/\∀i j:Heap,φ i->(∀o,i.get? a=!o->j.get? a=!o)->φ j
def HOk(H:Hp)(h:Heap):Prop:=∀a o,H a=!o->DY P w H h a o
end
section
variable {P:Program}{w:World}{H H':Hp}{h h':Heap}{a:Addr}{o:HO}
def DY.lt(x:DY P w H h a o):a<h.objs.size:=by
 cases o with
 |lst xs=>let(_,_,_,_,e):=x;show Ç e
 |tup xs=>let(_,_,_,p):=x;show p.lt
 |dK b=>let(_,_,_,_,o,_,_,e,_):=x;show Ç e
 |dT b=>let(_,_,_,_,o,_,_,e,_):=x;show Ç e
 |set S n=>let(o,_,_,_,e,_):=x;show Ç e
 |ins C c fs=>let(_,_,_,e,_):=x;show Ç e
 |own y=>let(_,e):=x;show Ç e
 |xd fs=>let(_,(_,_,_,e,_),_):=x;show Ç e
 |rng g d=>let(_,_,_,e):=x;show Ç e
 |frz ob u=>let(e,_):=x;show Ç e
 |tbl ps=>show Ç (x)|met f y=>show Ç (x)|ext φ=>let(_,(_,e),_):=x;show Ç e
def Paired.mapP:∀{l₁:List α} {l₂:List β},Paired F l₁ l₂->(∀a b,F a b->G a b)->Paired G l₁ l₂
 |_,_,.nil,_=>.nil|_,_,.cons r t,f=>.cons (f _ _ r)<|Paired.mapP t f
def DY.stay(x:DY P w H h a o)(k:∀b u,(b=a\/H b=!(.own a))->h.get? b=!u->h'.get? b=!u)
  (B:∀b,H b=!(.own a)->H' b=!(.own a)) (D:∀b xs,H b=!(.tup xs)->H' b=!(.tup xs)):DY P w H' h' a o:=by
 induction o with
 |lst xs=>let(z,j,n,r,e):=x;show{z,j,n,r,k _ _ (.inl rfl) e}
 |tup xs=>let(z,j,r,ob,e,c):=x;show{z,j,r,ob,k _ _ (.inl rfl) e,c}
 |dK l=>let(z,y,F,r,ob,i,g,e,c):=x;show{z,y,F,r,ob,i,g,k _ _ (.inl rfl) e,c}
 |dT l=>let(z,y,xs,r,ob,i,g,e,c):=x;show{z,y,xs,Paired.mapP r λp q z=>{z.1,D _ _ z.2.1,z.2.2},ob,i,g,k _ _ (.inl rfl) e,c}
 |set S n=>let(ob,i,g,t,e,c):=x;show{ob,i,g,t,k _ _ (.inl rfl) e,c}
 |ins C G fs=>let(d,z,ne,e,m,(s,i,g,A,c),r):=x;show{B _ d,z,ne,k _ _ (.inl rfl) e,m,{s,i,g,k _ _ (.inr d) A,c},r}
 |own y=>let(ob,e):=x;show{ob,k _ _ (.inl rfl) e}
 |xd fs=>let(m,(s,i,g,e,c),r):=x;show{m,{s,i,g,k _ _ (.inl rfl) e,c},r}
 |rng J I=>let(t,u,v,e):=x;show{t,u,v,k _ _ (.inl rfl) e}
 |frz ob u E=>let(e,q):=x;show{k _ _ (.inl rfl) e,E q}
 |tbl ps=>let e :=x;show k a _ (.inl rfl) e|met f y=>let e :=x;show k a _ (.inl rfl) e|ext φ=>let(p,(o,e),st):=x;show{st _ _ p λo q=>k _ _ (.inl rfl) q,{o,k _ _ (.inl rfl) e},st}
def HOk.lt(x:HOk P w H h)(e:H a=!o):a<h.objs.size:=(x a o e).lt
def HOk.fresh(x:HOk P w H h)(e:h.objs.size<=a):H a=():=by
 cases q:H a with
 |none=>rfl|some u=>show absurd (Ý (x.lt q) e)<|ä _
theorem HOk.kept(x:HOk P w H h)(k:∀b u,h.get? b=!u->h'.get? b=!u):HOk P w H h':=λa o e=>
 (x a o e).stay (λb u z q=>k b u q) (λϊ q=>q) λϊ z q=>q
theorem HOk.laid(x:HOk P w H h)(k:∀b u,h.get? b=!u->h'.get? b=!u)(d:h.objs.size<=a)(new:DY P w (upd H a o) h' a o):HOk P w (upd H a o) h':=λb u e=>by
 let hn:=x.fresh d;by_cases hb:b=a;subst hb;rw[CT]at e;grind;rw[BF hb]at e;show(x b u e).stay (λc v z q=>k c v q) (λc q=>by rw[BF<|DP q hn];show q) λc xs q=>by rw[BF<|DP q hn];show q
end
def Rd(H:Hp)(a:Addr)(u:HO):Prop:=H a=!u\/∃o,H a=!(.frz o u)
def Rd.ok(r:Rd H a u)(x:HOk P w H h):DY P w H h a u:=by
 rcases r with r|⟨o,r⟩;show x a u r;let(_,q):=x a _ r;show q
def MF:Option HO->Prop
 |some (.lst z)=>True|some (.dK z)=>True|some (.dT z)=>True|some (.set z y)=>True|some (.ins z y x)=>True|some (.ext z)=>True|z=>False
section
variable {P:Program}{w:World}{H:Hp}{h h':Heap}{x e:Addr}{o':HO}
theorem HOk.write(ok:HOk P w H h)(mu:MF<|H x)(he:e=x\/H e=!(.own x))(k:∀b u,b≠e->h.get? b=!u->h'.get? b=!u)(g:∃u,h'.get? e=!u)
  (new:DY P w (upd H x o') h' x o'):HOk P w (upd H x o') h':=λb u q=>by
 let a:∀c y,H c=!(.own y)->c≠x:=λc y r z=>by subst z;rw[r]at mu;show mu
 let d:∀c xs,H c=!(.tup xs)->c≠x:=λc xs r z=>by subst z;rw[r]at mu;show mu
 by_cases hb:b=x;subst hb;rw[CT]at q;cases q;show new;rw[BF hb]at q;by_cases f:b=e
 let i:H b=!(.own x):=by
  grind
 rw[q]at i;cases i;let(v,hv):=g;show{v,by rw[f];show hv}
 show(ok b u q).stay (λc v j r=>k c v ?_ r) (λc r=>by rw[BF<|a c b r];show r) λc xs r=>by rw[BF<|d c xs r];show r
 grind
end
structure Un(fs ex:List Addr)(H H':Hp)(h h':Heap):Prop where
 keep:∀b o,h.get? b=!o->H b=()->b∉fs->b∉ex->h'.get? b=!o
 slot:∀b o,h.get? b=!o->H b=()->b∈fs->b∉ex->∃sl,h'.get? b=!{ o with slots:=sl }
 free:∀b o,h.get? b=!o->H b=()->b∉ex->H' b=()
 there:∀b o,h.get? b=!o->b∉ex->∃o',h'.get? b=!o'
 tups:∀b xs,H b=!(.tup xs)->H' b=!(.tup xs)
 frzs:∀b o u,H b=!(.frz o u)->H' b=!(.frz o u)
 tbls:∀b ps,H b=!(.tbl ps)->∃more,H' b=!(.tbl<|ps++more)
section
variable {fs fs' ex ex':List Addr}{H H1 H2:Hp}{h h1 h2 h':Heap}{a x e:Addr}{o:HO}
def Un.any(u:Un fs ex H H1 h h1)(q:h.get? b=!ob)(n:H b=())(a:b∉ex):∃sl,h1.get? b=!{ ob with slots:=sl}:=by
 by_cases hb:b∈fs;show u.slot b ob q n hb a;show{ob.slots,u.keep b ob q n hb a}
theorem Un.kept(k:∀b u,h.get? b=!u->h'.get? b=!u):Un fs ex H H h h':=
 {λb ob q z z z=>k b ob q,λb ob q z z z=>{ob.slots,k b ob q},λϊ z z n z=>n,λb ob q z=>{ob,k b ob q},λϊ z q=>q,λϊ z z q=>q,λϊ ps q=>{#[],by rw[q];simp}}
theorem Un.refl:Un fs ex H H h h:=Un.kept λϊ z q=>q
theorem Un.laid(k:∀b u,h.get? b=!u->h'.get? b=!u)(c:h.objs.size<=a)(hn:H a=()):Un fs ex H (upd H a o) h h' where
 keep:=λb u q z z z=>k b u q
 slot:=λb u q z z z=>{u.slots,k b u q}
 free:=λb u q n z=>by rw[BF<|Ô<|Ý (Ç q) c];show n
 there:=λb u q z=>{u,k b u q}
 tups:=λb xs q=>by rw[BF<|DP q hn];show q
 frzs:=λb u xs q=>by rw[BF<|DP q hn];show q
 tbls:=λb ps q=>{#[],by rw[BF<|DP q hn,q];simp}
def Un.write(mu:MF<|H x)(he:e=x\/H e=!(.own x))(k:∀b u,b≠e->h.get? b=!u->h'.get? b=!u)(c:∃u,h'.get? e=!u):Un fs ex H (upd H x o) h h':=by
 let d:∀b,H b=()->b≠x:=λb n z=>by subst z;rw[n]at mu;show mu
 let hb:∀b,H b=()->b≠e:=λb n z=>by
  grind
 let a:∀b u,H b=!u->¬ MF !u->b≠x:=λb u q nm z=>by grind
 show{λb u q n y y=>k b u (hb b n) q,λb u q n y y=>{u.slots,k b u (hb b n) q},λb u q n y=>by rw[BF<|d b n];show n,λb u q y=>?_,
  λb xs q=>by rw[BF<|a b _ q λz=>z];show q,λb u xs q=>by rw[BF<|a b _ q λz=>z];show q,λb ps q=>{#[],by rw[BF<|a b _ q λz=>z,q];simp}}
 grind
end
def M8(h:Heap)(H:Hp):List Addr:=(List.range h.objs.size).filter λa=>(H a).isSome
def Hl(h:Heap)(H:Hp):Heap:=W.hideAll h<|M8 h H
def zgr(h)(H):(Hl h H).objs.size=h.objs.size:=W.hideAll_size _ _
def zjn(e:h.get? b=!o)(n:H b=()):(Hl h H).get? b=!o:=
 Ĥ _ e λa=>by
  let q :=(Ļ.mp a).2;grind
def zmb(e:(Hl h H).get? b=!o):h.get? b=!o/\H b=():=by
 let a :=Ĵ (M8 h H) e;show{a,?_};cases q:H b with
 |none=>rfl|some x=>
  let c:b∈M8 h H:=Ļ.mpr {ě.mpr<|Ç a,by simp[q]};let z:(Hl h H).get? b=():=Ż (M8 h H) c;grind
structure Mod(K:ka)(mg:Str->Option Value)(base:Heap):Prop where
 kin:K.In base
 glob:base.Ns mainGlobals mg
 blt:∃mb,base.Ns builtinsNs mb/\∀x:Str,x≠"__name__"->mb x=bootBuiltins x
 nolimit:base.NoLimit
structure Cx where
 prog:Program
 w:World
 K:ka
 mg:Str->Option Value
 base:Heap
 A:Around
 N:kq
 s₀:Shared
 H₀:Hp
 env:Env
 outer:List Env
 stack:List Env
 ex:List Addr
 fn:Str->Bool
 calm:Bool
 pn:List (Addr×Obj)
 xe:Value->Shared->Prop
def Br(l:List Env):List Addr:=l.filterMap (·.frame)
abbrev Cx.fs(X:Cx):List Addr:=Br X.outer
def EW(a:Scope)(x:Str):Prop:=a.names.lookup x=!.local\/a.names.lookup x=!.cell\/a.names.lookup x=!.free
def G2(a:Scope)(x:Str):Prop:=a.names.lookup x=!.local\/a.names.lookup x=!.cell
def Look(env:Env)(h:Heap)(m:Str->Option Value)(x:Str)(u:Value):Prop:=
 (env.kindOf x=!.local/\m x=!u)\/((env.kindOf x=!.cell\/env.kindOf x=!.free)/\∃c,env.cells.lookup x=!c/\h.IsCell c !u)
structure Cx.Ok(X:Cx):Prop where
 mod:Mod X.K X.mg X.base
 kind:X.env.scope.kind=.function
 glob:X.env.globals=mainGlobals
 blt:X.env.builtins=builtinsNs
 above:X.s₀.heap.objs.size<=X.env.locals
 inj:∀x y c,X.env.cells.lookup x=!c->X.env.cells.lookup y=!c->x=y
 has:∀x,(X.env.kindOf x=!.cell\/X.env.kindOf x=!.free)->∃c,X.env.cells.lookup x=!c
 cab:∀x c,X.fn x=true->X.env.cells.lookup x=!c->X.s₀.heap.objs.size<=c
 hd:X.calm=true->X.A.handled=()
 frames:X.A.frames=!X.stack
 stk:X.stack=X.outer\/(X.stack=X.env::X.outer/\X.env.frame=!X.env.locals)
 exf:∀b∈X.ex,b≠X.env.locals/\∀x c,X.env.cells.lookup x=!c->c≠b
 bs:∀b o,X.base.get? b=!o->X.s₀.heap.get? b=!o/\X.H₀ b=()
 bsz:X.base.objs.size<=X.s₀.heap.objs.size
 noex:∀b o,X.base.get? b=!o->b∉X.ex
 exfs:∀b∈X.ex,b∉X.fs
 funs:X.s₀.heap.FunFrames X.base X.outer
 frf:∀b∈X.fs,X.H₀ b=()
structure Inv(X:Cx)(pz:List<|Addr×Obj)(O:List<|Option V)(H:Hp)(s:Shared):Prop where
 ok:X.Ok
 os:s.os=X.s₀.os
 bare:AllBare s.gens
 base:Un X.fs X.ex X.H₀ H X.s₀.heap s.heap
 loc:∃m,s.heap.Ns X.env.locals m/\∀(i:Nat) (x:Str) (v:V),X.N[i]?=!x->O[i]?=↑!v->EW X.env.scope x->∃u,Ab v u/\Look X.env s.heap m x u
 cell:∀x c,X.env.cells.lookup x=!c->∃v,s.heap.IsCell c v
 free:H X.env.locals=()
 freeC:∀x c,X.env.cells.lookup x=!c->H c=()
 pin:∀p∈X.pn++pz,s.heap.get? p.1=!p.2/\H p.1=()/\p.1≠X.env.locals/\p.1∉X.fs/\∀v,p.2.data≠.cell v
 hok:HOk X.prog X.w H s.heap
 len:O.length=X.N.length
section
variable {X:Cx}{pz:List<|Addr×Obj}{O:List<|Option V}{H H':Hp}{s:Shared}{h':Heap}
theorem Cx.Ok.nofr(ok:X.Ok)(e:X.base.get? b=!o):b∉X.fs:=λhb=>by
 let:=(ok.funs.mem hb).1;grind
def Inv.bs(I:Inv X pz O H s):∀b o,X.base.get? b=!o->s.heap.get? b=!o/\H b=():=λb o e=>
 {I.base.keep b o (I.ok.bs b o e).1 (I.ok.bs b o e).2 (I.ok.nofr e) (I.ok.noex b o e),I.base.free b o (I.ok.bs b o e).1 (I.ok.bs b o e).2 (I.ok.noex b o e)}
def Inv.bk(I:Inv X pz O H s):∀b o,X.base.get? b=!o->s.heap.get? b=!o:=λb o e=>(I.bs b o e).1
theorem Inv.mod(I:Inv X pz O H s):Mod X.K X.mg X.base:=I.ok.mod
theorem Inv.kIn(I:Inv X pz O H s):X.K.In s.heap:=I.ok.mod.kin.keeps I.bk
def Inv.lt(I:Inv X pz O H s):X.env.locals<s.heap.objs.size:=let ⟨_,hn,_⟩:=I.loc;hn.lt
def Inv.sz(I:Inv X pz O H s):X.s₀.heap.objs.size<=s.heap.objs.size:=Ö I.ok.above<|š I.lt
theorem Inv.nofs(I:Inv X pz O H s){a:Addr}(h:s.heap.objs.size<=a):a∉X.fs:=λhb=>by
 let(_,o,b,_):=I.ok.funs.mem hb;show absurd (Ý (Ç b)<|Ö I.sz h)<|ä _
def Inv.cne(I:Inv X pz O H s):∀x c,X.env.cells.lookup x=!c->c≠X.env.locals:=λx c e z=>by
 let(v,o,g,hd):=I.cell x c e;let(m,(h,f,d,b,a,_),_):=I.loc
 grind
def Inv.funs(I:Inv X pz O H s):s.heap.FunFrames X.base X.outer:=by
 let all:∀(l ),(∀b∈Br l,b∈X.fs)->X.s₀.heap.FunFrames X.base l->s.heap.FunFrames X.base l:=by
  intro l
  induction l with
  |nil=>intro _ _;trivial|cons env r f=>
   intro hs hl;let(hk,(L,o,c,hn,d,hd),hr):=hl;let a :=hs L (by unfold Br;grind)
   let(g,e):=I.base.slot L o d (I.ok.frf L a) a λz=>I.ok.exfs L z a;show{hk,{L,_,c,hn,e,hd},f (λb hb=>hs b (by unfold Br;rw[List.filterMap_cons,c];show Ë _ hb)) hr}
 show all X.outer (λϊ hb=>hb) I.ok.funs
def Inv.stack(I:Inv X pz O H s):s.heap.FunFrames X.base X.stack:=by
 rcases I.ok.stk with e|⟨e,a⟩;rw[e];show I.funs;rw[e];let(m,hn,_):=I.loc;show .cons (by rw[I.ok.kind];decide) a hn ?_ I.funs
 show Heap.get?_none_of_le<|Ö I.ok.bsz I.ok.above
def Inv.stkSub(I:Inv X pz O H s):∀b∈Br X.stack,b∈X.env.locals::X.fs:=λb hb=>by
 rcases I.ok.stk with e|⟨e,a⟩;grind;rw[e]at hb;unfold Br at hb;rw[List.filterMap_cons,a]at hb;show hb
def Inv.stkFree(I:Inv X pz O H s):∀b∈Br X.stack,H b=():=λb hb=>by
 rcases Ð.mp (I.stkSub b hb) with e|hb;rw[e];show I.free;let(_,o,a,_):=I.ok.funs.mem hb;show I.base.free b o a (I.ok.frf b hb) λz=>I.ok.exfs b z hb
def Inv.step{t':Nat}{d':Drawn}{ch:List Addr}(I:Inv X pz O H s)
  (g:∀b∈ch,(b∈X.ex\/X.s₀.heap.objs.size<=b)/\b≠X.env.locals/\(∀x c,X.env.cells.lookup x=!c->c≠b)/\∀p∈X.pn++pz,p.1≠b)
  (keep:∀b o,b≠X.env.locals->b∉X.fs->b∉ch->s.heap.get? b=!o->H b=()->h'.get? b=!o)
  (slot:∀b o,b≠X.env.locals->b∈X.fs->b∉ch->s.heap.get? b=!o->H b=()->∃sl,h'.get? b=!{ o with slots:=sl }) (free:∀b o,b∉ch->s.heap.get? b=!o->H b=()->H' b=())
  (there:∀b o,b∉ch->s.heap.get? b=!o->∃o',h'.get? b=!o')
  (tups:∀b xs,H b=!(.tup xs)->H' b=!(.tup xs)) (frzs:∀b o u,H b=!(.frz o u)->H' b=!(.frz o u)) (tbls:∀b ps,H b=!(.tbl ps)->∃more,H' b=!(.tbl<|ps++more))
  (ns:∀m,s.heap.Ns X.env.locals m->h'.Ns X.env.locals m) (hok:HOk X.prog X.w H' h') (F:AllBare g') :
  Inv X pz O H' { s with heap:=h',gens:=g',drawn:=d',toks:=t' }:=by
 let A:∀b o,X.s₀.heap.get? b=!o->b≠X.env.locals:=λb o e=>Ô<|Ý (Ç e) I.ok.above
 let t:∀b o,X.s₀.heap.get? b=!o->b∉X.ex->b∉ch:=λb o e a hb=>by
  rcases(g b hb).1 with z|z;show a z;show absurd (Ý (Ç e) z)<|ä _
 let f:∀x c,X.env.cells.lookup x=!c->∀v,s.heap.IsCell c v->h'.IsCell c v:=λx c e v ⟨o,w,hd⟩=>by
  let h :=λz=>(g c z).2.2.1 x c e rfl;by_cases C:c∈X.fs;let(sl,q):=slot c o (I.cne x c e) C h w<|I.freeC x c e;show{_,q,hd}
  show{o,keep c o (I.cne x c e) C h w<|I.freeC x c e,hd}
 show{I.ok,I.os,F,{λb o e n hb a=>?_,λb o e n hb a=>?_,λb o e n a=>?_,λb o e a=>?_,λb xs e=>tups b xs<|I.base.tups b xs e,λb o xs e=>frzs b o xs<|I.base.frzs b o xs e,λb ps e=>?_},?_,λx c e=>?_,?_,λx c e=>?_,λp D=>?_,hok,I.len};show keep b o (A b o e) hb (t b o e a) (I.base.keep b o e n hb a)<|I.base.free b o e n a
 let(sl,j):=I.base.slot b o e n hb a;let(B,y):=slot b _ (A b o e) hb (t b o e a) j<|I.base.free b o e n a;show{(B),y}
 let(o',j):=I.base.there b o e a;show free b o' (t b o e a) j<|I.base.free b o e n a
 let(o',j):=I.base.there b o e a;show there b o' (t b o e a) j;let(m1,j):=I.base.tbls b ps e;let(m2,y):=tbls b _ j;show{m1++m2,by rw[y,Array.append_assoc]}
 let(m,hn,hl):=I.loc;show{m,ns m hn,λi x v j y E=>?_};let(u,r,l):=hl i x v j y E;show{u,r,?_};rcases l with l|⟨k,c,e,z⟩;show .inl l;show .inr {k,c,e,f x c e _ z};let(v,z):=I.cell x c e;show{v,f x c e v z};let(m,(o,_,_,w,_),_):=I.loc;show free _ o (λz=>(g _ z).2.1 rfl) w I.free;let(v,o,w,hd):=I.cell x c e;show free c o (λz=>(g c z).2.2.1 x c e rfl) w<|I.freeC x c e
 let(e,n,ne,nf,d):=I.pin p D;let h :=λz=>(g p.1 z).2.2.2 p D rfl
 show{keep p.1 p.2 ne nf h e n,free p.1 p.2 h e n,ne,nf,d}
def Inv.un(I:Inv X pz O H s)(u:Un X.fs [] H H' s.heap h')(hok:HOk X.prog X.w H' h'):Inv X pz O H' { s with heap:=h',toks:=t' }:=by
 let(m,(o,k,j,f,r),_):=id I.loc;let(q,g):=u.any f I.free<|by simp
 show I.step (ch:=[]) (λϊ z=>nomatch z) (λb o y hb y e n=>u.keep b o e n hb<|by simp) (λb o y hb y e n=>u.slot b o e n hb<|by simp) (λb o y e n=>u.free b o e n<|by simp) (λb o y e=>u.there b o e<|by simp) u.tups u.frzs u.tbls (λl h=>by
  let(p,d,c,a,i):=h;rw[f]at a;cases a;show{_,d,c,g,i}) hok I.bare
def Inv.call(I:Inv X pz O H s)(u:Un (Br X.stack) ch H H' s.heap h')(hok:HOk X.prog X.w H' h')(k:AllBare g')
  (d:∀b∈ch,(b∈X.ex\/X.s₀.heap.objs.size<=b)/\b≠X.env.locals/\(∀x c,X.env.cells.lookup x=!c->c≠b)/\∀p∈X.pn++pz,p.1≠b) :
  Inv X pz O H' { s with heap:=h',gens:=g',drawn:=d',toks:=t' }:=by
 let(m,(o,v,t,j,r),_):=id I.loc;let(A,i):=u.any j I.free λz=>(d _ z).2.1 rfl
 show I.step d (λb o i hb a e n=>u.keep b o e n (λz=>(Ð.mp<|I.stkSub b z).elim i hb) a) (λb o Z Z a e n=>u.any e n a) (λb o a e n=>u.free b o e n a) (λb o a e=>u.there b o e a) u.tups u.frzs u.tbls (λw l=>by
  let(y,h,g,f,q):=l;rw[j]at f;cases f;show{_,h,g,i,q}) hok k
def Inv.turned(I:Inv X pz O H s)(k:∀b o,b≠it->s.heap.get? b=!o->h'.get? b=!o)(hn:H it=())(g:it≠X.env.locals)
  (j:it∈X.ex\/X.s₀.heap.objs.size<=it) (l:∀x c,X.env.cells.lookup x=!c->c≠it) (t:∀p∈X.pn++pz,p.1≠it):Inv X pz O H { s with heap:=h',toks:=t' }:=by
 show I.step (ch:=[it]) (λb hb=>?_) (λb o y y a e y=>k b o (λz=>a<|by simp[z]) e) (λb o y y a e y=>{o.slots,k b o (λz=>a<|by simp[z]) e}) (λϊ y y y n=>n)
  (λb o a e=>{o,k b o (λz=>a<|by simp[z]) e}) (λϊ y e=>e) (λϊ y y e=>e) (λb ps e=>{#[],by rw[e];simp}) (λm h=>?_) (λb u e=>?_) I.bare
 grind;let(o,f,d,i,r):=h;show{o,f,d,k _ o (Í g) i,r};show(I.hok b u e).stay (λc v a q=>k c v ?_ q) (λϊ q=>q) λϊ y q=>q;grind
theorem Inv.tok(I:Inv X pz O H s)(t):Inv X pz O H { s with toks:=t}:=I.un Un.refl I.hok
theorem Inv.kept(I:Inv X pz O H s)(k:∀b u,s.heap.get? b=!u->h'.get? b=!u):Inv X pz O H { s with heap:=h',toks:=t' }:=I.un (Un.kept k)<|I.hok.kept k
theorem Inv.laid{a:Addr}   (I:Inv X pz O H s)(k:∀b u,s.heap.get? b=!u->h'.get? b=!u)(c:s.heap.objs.size<=a)(new:DY X.prog X.w (upd H a o) h' a o) :
  Inv X pz O (upd H a o) { s with heap:=h',toks:=t' }:=I.un (Un.laid k c<|I.hok.fresh c)<|I.hok.laid k c new
theorem Inv.write(I:Inv X pz O H s)(mu:MF<|H x)(he:e=x\/H e=!(.own x))(k:∀b u,b≠e->s.heap.get? b=!u->h'.get? b=!u)(a:∃u,h'.get? e=!u)
  (new:DY X.prog X.w (upd H x o) h' x o):Inv X pz O (upd H x o) { s with heap:=h',toks:=t' }:=I.un (Un.write mu he k a)<|I.hok.write mu he k a new
theorem Inv.pins_of(I:Inv X pz O H s)(h:∀p∈pins',s.heap.get? p.1=!p.2/\H p.1=()/\p.1≠X.env.locals/\p.1∉X.fs/\∀v,p.2.data≠.cell v):Inv X pins' O H s:=
 {I.ok,I.os,I.bare,I.base,I.loc,I.cell,I.free,I.freeC,λp a=>(Ú.mp a).elim (λz=>I.pin p<|Č _ z) (h p),I.hok,I.len}
def fJ{N:kq}(e:N.Nodup){i j:Nat}(a:N[i]?=!x)(b:N[j]?=!x):i=j:=by
 let(f,c):=Ê.mp a;let(g,d):=Ê.mp b;show(ñ e).mp (c.trans d.symm)
def Ye(I:Inv X pz O H s)(hN:X.N.Nodup)(N:X.N[i]?=!x)(t:G2 X.env.scope x)(r:Ab v u)
  (h:∀s',Inv X pz (O.set i !v) H s'->(∃a,Heap.SameBut a s.heap s'.heap/\(a=X.env.locals\/X.env.cells.lookup x=!a))->Q Unit.unit s') (hf:X.fn x=true\/X.env.scope.names.lookup x=!.local:=by first|show .inl rfl|show .inr rfl|assumption):wpAny M A (storeName X.env x u) Q E s:=by
 let(m,hn,hl):=id I.loc;let L:(X.env.scope.kind == .class || (X.env.scope.kind == .module && X.env.locals != X.env.globals))=false:=by rw[I.ok.kind];rfl
 let C:i<O.length:=by rw[I.len];show(Ê.mp N).1
 let cne:=I.cne
 let g:∀{a } {G },(∃o,s.heap.get? a=!o/\H a=())->Heap.SameBut a s.heap G->HOk X.prog X.w H G:=fun  ha hs b ob e=>by
  let(_,_,w):=ha;show(I.hok b ob e).stay (λc T l q=>(hs.2 c ?_).trans q) (λϊ q=>q) λϊ ϊ q=>q;rintro rfl;rcases l with rfl|l;rw[w]at e;cases e;rw[w]at l;cases l
 rcases t with hk|hk;show wpAny_storeName_local hk hn (λG V hs=>?_) L;let(oL,_,_,W,_):=id hn;show h _ {I.ok,I.os,I.bare,{λb o e n hb t=>?_,λb o e n hb t=>?_,I.base.free,λb o e t=>?_,I.base.tups,I.base.frzs,I.base.tbls},{_,V,λj y v' f B U=>?_},λy c e=>?_,I.free,I.freeC,λp Y=>?_,g {(oL),W,I.free} hs,by simpa using I.len} {_,hs,.inl rfl};show(hs.2 b<|Ô<|Ý (Ç e) I.ok.above).trans (I.base.keep b o e n hb t);let(sl,f):=I.base.slot b o e n hb t;show{sl,(hs.2 b<|Ô<|Ý (Ç e) I.ok.above).trans f};let(Z,f):=I.base.there b o e t;show{Z,(hs.2 b<|Ô<|Ý (Ç e) I.ok.above).trans f};by_cases F:j=i;subst F;rw[N]at f;cases f;rw[é C]at B;cases B;show{u,r,.inl {hk,by simp}};rw[å<|Í F]at B;let(u',r',q):=hl j y v' f B U;show{u',r',?_}
 rcases q with ⟨k,e⟩|⟨k,c,e,z⟩;show .inl {k,?_};let:y≠x:=λe=>F<|fJ hN f<|e▸N
 simp[this,e];show .inr {k,c,e,z.sameBut hs<|cne y c e};let(T,z):=I.cell y c e;show{T,z.sameBut hs<|cne y c e};let(e,n,ne,nf,d):=I.pin p Y;show{(hs.2 p.1 ne).trans e,n,ne,nf,d}
 let D:X.fn x=true:=by
  rcases hf with z|z;show z;rw[z]at hk;cases hk
 let(c,l):=I.ok.has x<|.inl hk;let(T,z):=I.cell x c l;show wpAny_storeName_cell I.ok.kind hk l z<|λG J hs=>?_
 let(oc,P,R):=id z;show h { s with heap:=G } {I.ok,I.os,I.bare,{λb o e n hb t=>?_,λb o e n hb t=>?_,I.base.free,λb o e t=>?_,I.base.tups,I.base.frzs,I.base.tbls},{m,hn.sameBut hs<|Í<|cne x c l,λj y v' f B U=>?_},λy S e=>?_,I.free,I.freeC,λp Y=>?_,g {oc,P,I.freeC x c l} hs,by simpa using I.len} {c,hs,.inr l};show(hs.2 b<|Ô<|Ý (Ç e)<|I.ok.cab x c D l).trans (I.base.keep b o e n hb t);let(sl,f):=I.base.slot b o e n hb t;show{sl,(hs.2 b<|Ô<|Ý (Ç e)<|I.ok.cab x c D l).trans f};let(Z,f):=I.base.there b o e t;show{Z,(hs.2 b<|Ô<|Ý (Ç e)<|I.ok.cab x c D l).trans f};by_cases F:j=i;subst F;rw[N]at f;cases f;rw[é C]at B;cases B;show{u,r,.inr {.inl hk,c,l,J}};rw[å<|Í F]at B;let(u',r',q):=hl j y v' f B U;show{u',r',?_}
 rcases q with q|⟨k,S,e,z'⟩;show .inl q;show .inr {k,S,e,z'.sameBut hs ?_};rintro rfl;show F<|fJ hN f<|I.ok.inj _ _ _ e l▸N
 by_cases K:S=c;subst K;show{_,J};let(w2,z2):=I.cell y S e;show{w2,z2.sameBut hs K};let(e,n,ne,nf,d):=I.pin p Y;show{(hs.2 p.1 ?_).trans e,n,ne,nf,d};intro q;rw[q,P]at e;let q' :=Þ e;show d T (by rw[<- q'];show R)
theorem K9(I:Inv X pz O H s)(b:X.N.Nodup)(d:X.N[i]?=!x)(e:G2 X.env.scope x)(r:Ab v u)
  (h:∀s',Inv X pz (O.set i !v) H s'->Q Unit.unit s') (c:X.fn x=true\/X.env.scope.names.lookup x=!.local):wpAny M A (storeName X.env x u) Q E s:=
 Ye I b d e r (λs' a z=>h s' a) c
def Inv.call'(I:Inv X pz O H s)(f:s'.os=s.os)(u:Un (Br X.stack) ch H H' s.heap s'.heap)(hok:HOk X.prog X.w H' s'.heap)(d:AllBare s'.gens)
  (a:∀b∈ch,(b∈X.ex\/X.s₀.heap.objs.size<=b)/\b≠X.env.locals/\(∀x c,X.env.cells.lookup x=!c->c≠b)/\∀p∈X.pn++pz,p.1≠b):Inv X pz O H' s':=by
 let(i,h,g,k,j):=s';let e :=f;subst e;show I.call u hok d a
end
abbrev XK:=Value->Option Addr->Hp->Prop
abbrev St:=List<|Option V
abbrev VK:=V->Hp->Prop
abbrev TE:=St->Hp->VK->Prop
abbrev TT:=St->Hp->(Bool->Hp->Prop)->Prop
abbrev TA:=St->Hp->(qC->Hp->Prop)->Prop
structure Ends where
 nx:St->Hp->Prop
 rt:VK
 bk:St->Hp->Prop:=λϊ z=>False
 ct:St->Hp->Prop:=λϊ z=>False
abbrev TS:=Ends->St->Hp->Prop
def EP(X:Cx)(b:List<|Addr×Obj)(O:St)(Q:VK)(u:Value)(s':Shared):Prop:=∃v a,Inv X b O a s'/\Ab v u/\Q v a
def TP(X:Cx)(c:List<|Addr×Obj)(O:St)(Q:Bool->Hp->Prop)(b:Bool)(s':Shared):Prop:=∃a,Inv X c O a s'/\Q b a
def AP(X:Cx)(c:List<|Addr×Obj)(O:St)(Q:qC->Hp->Prop)(us:ke)(s':Shared):Prop:=∃b a,Inv X c O a s'/\Ar b us/\Q b a
def SP(X:Cx)(c:List<|Addr×Obj)(D:Ends)(f:Flow)(s':Shared):Prop:=
 match f with
 |.next=>∃b a,Inv X c b a s'/\D.nx b a|.brk=>∃b a,Inv X c b a s'/\D.bk b a|.cont=>∃b a,Inv X c b a s'/\D.ct b a|.ret u=>∃v b a,Inv X c b a s'/\Ab v u/\D.rt v a
def PE(X:Cx)(e:Expr)(t:TE):Prop:=
 ∀(a:List<|Addr×Obj) (s:Shared) (O:St) (H:Hp) (Q:VK),Inv X a O H s->t O H Q->wpAny (model X.prog X.w) X.A (eval e X.env) (EP X a O Q) X.xe s
def PT(X:Cx)(e:Expr)(t:TT):Prop:=
 ∀(a:List<|Addr×Obj) (s:Shared) (O:St) (H:Hp) (Q:Bool->Hp->Prop),Inv X a O H s->t O H Q->wpAny (model X.prog X.w) X.A (isTrue e X.env<|eval e X.env) (TP X a O Q) X.xe s
def PW(X:Cx)(e:Expr)(t:TT):Prop:=
 ∀(a:Sem Value) (b:List<|Addr×Obj) (s:Shared) (O:St) (H:Hp) (Q:Bool->Hp->Prop),Inv X b O H s->t O H Q->wpAny (model X.prog X.w) X.A (isTrue e X.env a) (TP X b O Q) X.xe s
theorem PW.pt{X:Cx}{e:Expr}{t:TT}(h:PW X e t):PT X e t:=h _
def PA(X:Cx)(es:kh)(t:TA):Prop:=
 ∀(pos:Pos) (a:List<|Addr×Obj) (s:Shared) (O:St) (H:Hp) (Q:qC->Hp->Prop),Inv X a O H s->t O H Q->wpAny (model X.prog X.w) X.A (spliced<|backTo pos<|starEach es X.env) (AP X a O Q) X.xe s
def PS(X:Cx)(st:Stmt)(t:TS):Prop:=
 ∀(a:List<|Addr×Obj) (s:Shared) (O:St) (H:Hp) (D:Ends),Inv X a O H s->t D O H->wpAny (model X.prog X.w) X.A (exec st X.env) (SP X a D) X.xe s
def Bf(X:Cx)(st:kj)(t:TS):Prop:=
 ∀(a:List<|Addr×Obj) (s:Shared) (O:St) (H:Hp) (D:Ends),Inv X a O H s->t D O H->wpAny (model X.prog X.w) X.A (execs st X.env) (SP X a D) X.xe s
theorem A6{t:Sem α}      (h:wpAny M A t Q E s)(b:∀a s,Q a s->Q' a s):wpAny M A t Q' E s:=ô h b λϊ z x=>x
section
variable {X:Cx}
def YV(i:Nat):TE:=λO H Q=>∃v,O[i]?=↑!v/\Q v H
def tC(v:V):TE:=λϊ H Q=>Q v H
def Ge{pos}(f:X.N[i]?=!x)(hv:EW X.env.scope x)(hd:(x == "__debug__")=false)(b:(x == "__classdict__")=false):PE X (.Name x pos)<|YV i:=by
 intro j s O H Q I h;let(v,e,h):=h;let(m,hn,hl):=I.loc;let(u,r,l):=hl i x v f e hv;let B5:EP X j O Q u s:={(v),H,I,r,h}
 rcases l with ⟨hk,g⟩|⟨hk,c,d,a⟩;show wpAny_Name (wpAny_loadName_local I.ok.kind hk hn g B5) hd;rcases hk with hk|hk;show wpAny_Name (wpAny_loadName_cell I.ok.kind hk d a B5) hd;show wpAny_Name (wpAny_loadName_free I.ok.kind hk d a B5 b) hd
theorem zpj:PE X (.Constant (.int i) j pos)<|tC<|.int i:=λϊ z z H z I h=>wpAny_Constant_int {.int i,H,I.tok _,{_,rfl},h}
theorem pe_bl:PE X (.Constant (.bool b) j pos)<|tC<|.bl b:=λϊ z z H z I h=>Constant_bool {.bl b,H,I,rfl,h}
theorem Zs:PE X (.Constant .none j pos)<|tC .non:=λϊ z z H z I h=>Constant_none {.non,H,I,rfl,h}
theorem zpe:PE X (.Constant (.str x) j pos)<|tC<|.str x:=λϊ z z H z I h=>Calls.Constant_str {.str x,H,I.tok _,{_,rfl},h}
def Gl(X:Cx)(x:Str):Prop:=X.env.kindOf x=!.globalImplicit
theorem Je{O:St}(I:Inv X pz O H s)(a:Gl X x)(b:X.mg x=!u)(h:Q u s)
  (hd:(x == "__debug__")=false):wpAny (model X.prog X.w) X.A (eval (.Name x pos) X.env) Q E s:=
 Calls.Name_function_global I.ok.kind a (Calls.loadGlobal_global (by rw[I.ok.glob];show I.mod.glob.keeps I.bk) b h) hd
def Gq{E}{O:St}{pos}(I:Inv X pz O H s)(c:Gl X x)(d:X.mg x=())(hv:bootBuiltins x=!u)(h:Q u s)
  (hn:x≠"__name__":=by decide) (hd:(x == "__debug__")=false:=by decide):wpAny (model X.prog X.w) X.A (eval (.Name x pos) X.env) Q E s:=by
 let(e,a,b):=I.mod.blt;show Calls.Name_function_global I.ok.kind c (Calls.loadGlobal_builtin (by rw[I.ok.glob];show I.mod.glob.keeps I.bk) d (by rw[I.ok.blt];show a.keeps I.bk) ((b x hn).trans hv) h) hd
theorem Zt(a:Gl X x)(b:X.mg x=!u)(r:Ab v u)(hd:(x == "__debug__")=false):PE X (.Name x pos)<|tC v:=
 λϊ z z H z I h=>Je I a b {(v),H,I,r,h} hd
theorem zlx{x:Str}{v:V}{u:Value}{pos:Pos}(a:Gl X x)(b:X.mg x=())(hv:bootBuiltins x=!u)(r:Ab v u)(hn:x≠"__name__")(hd:(x == ("__debug__":Str))=false):PE X (.Name x pos)<|tC v:=
 λϊ z z H z I h=>Gq I a b hv {(v),H,I,r,h} hn hd
variable {a b:Expr}{ta tb:TE}{pos:Pos}
def tB(t:TE):TT:=λO H Q=>t O H λx a=>∃c,x=.bl c/\Q c a
def zox(h:PE X e t)(he:∀whole,isTrue e X.env whole=(do let v <- whole;standAt e.pos;holding [v] (truthy v))):PT X e<|tB t:=by
 intro f s O H Q I c;show isTrue_plain (A6 (h f s O H _ I c) λv k j=>?_)<|he _
 let(x,a,b,i,g):=j;let(d,rfl,q):=g;cases i;show Ĉ {(a),b,q}
variable {tA tB':TT}{rest:kh}
def tAnd(t u:TT):TT:=λO H Q=>t O H λc a=>if c=true then u O a Q else Q false a
def tOr(t u:TT):TT:=λO H Q=>t O H λc a=>if c=true then Q true a else u O a Q
def Y1(t:TT):TT:=λO H Q=>t O H λc a=>Q (not c) a
def zlf(ha:PT X a tA):PW X (.BoolOp .And [a] pos) tA:=by
 intro f b s O H Q I h;show isTrue_and<|A6 (ha b s O H Q I h) λc d e=>?_
 cases c with
 |true=>show isTrue_and_nil e|false=>show e
def zou(ha:PT X a tA):PW X (.BoolOp .Or [a] pos) tA:=by
 intro f b s O H Q I h;show isTrue_or<|A6 (ha b s O H Q I h) λc d e=>?_
 cases c with
 |false=>show isTrue_or_nil e|true=>show e
def zov(ha:PT X a tA)(hb:PW X (.BoolOp .And (b::rest) pos) tB'):PW X (.BoolOp .And (a::b::rest) pos)<|tAnd tA tB':=by
 intro j f s O H Q I h;show isTrue_and<|A6 (ha f s O H _ I h) λc i k=>?_
 let(d,e,g):=k;cases c with
 |true=>show hb j f i O d Q e g|false=>show{(d),e,g}
def pw_or(ha:PT X a tA)(hb:PW X (.BoolOp .Or (b::rest) pos) tB'):PW X (.BoolOp .Or (a::b::rest) pos)<|tOr tA tB':=by
 intro j f s O H Q I h;show isTrue_or<|A6 (ha f s O H _ I h) λc i k=>?_
 let(d,e,g):=k;cases c with
 |true=>show{(d),e,g}|false=>show hb j f i O d Q e g
def zoy(ha:PT X a tA):PT X (.UnaryOp .Not a pos)<|Y1 tA:=by
 intro d s O H Q I h;show isTrue_not<|ha d s O H (λc b=>Q (not c) b) I h
def tAndV(b d:TE):TE:=λO H Q=>b O H λx a=>∃c,x=.bl c/\if c=true then d O a Q else Q (.bl false) a
def tOrV(b d:TE):TE:=λO H Q=>b O H λx a=>∃c,x=.bl c/\if c=true then Q (.bl true) a else d O a Q
def Y0(b:TE):TE:=λO H Q=>b O H λx a=>∃c,x=.bl c/\Q (.bl<|(not c)) a
theorem zpf(h:PE X a t):PE X (.BoolOp op [a] pos) t:=λc s O H Q I b=>BoolOp_one<|h c s O H Q I b
def zpk(ha:PE X a ta)(hb:PE X (.BoolOp .And (b::rest) pos) tb):PE X (.BoolOp .And (a::b::rest) pos)<|tAndV ta tb:=by
 intro g s O H Q I h;show BoolOp_and<|A6 (ha g s O H _ I h) λv j k=>?_
 let(x,e,f,i,d):=k;let(c,rfl,d):=d;cases i;show Ĉ ?_;cases c with
 |true=>show hb g j O e Q f d|false=>show{.bl false,e,f,rfl,d}
def pe_or(ha:PE X a ta)(hb:PE X (.BoolOp .Or (b::rest) pos) tb):PE X (.BoolOp .Or (a::b::rest) pos)<|tOrV ta tb:=by
 intro g s O H Q I h;show BoolOp_or<|A6 (ha g s O H _ I h) λv j k=>?_
 let(x,e,f,i,d):=k;let(c,rfl,d):=d;cases i;show Ĉ ?_;cases c with
 |false=>show hb g j O e Q f d|true=>show{.bl true,e,f,rfl,d}
def zpg(ha:PE X a ta):PE X (.UnaryOp .Not a pos)<|Y0 ta:=by
 intro f s O H Q I h;show UnaryOp_<|A6 (ha f s O H _ I h) λv j i=>?_
 let(x,d,e,g,b):=i;let(c,rfl,b):=b;cases g;show not_of<|Ĉ {.bl<|(not c),d,e,rfl,b}
def tIf(t:TT)(b d:TE):TE:=λO H Q=>t O H λc a=>if c=true then b O a Q else d O a Q
def zj3(k:PT X c tA)(ha:PE X a ta)(hb:PE X b tb):PE X (.IfExp c a b pos)<|tIf tA ta tb:=by
 intro e s O H Q I h;show wpAny_IfExp<|A6 (k e s O H _ I h) λd j l=>?_
 let(f,g,i):=l;cases d with
 |true=>show ha e j O f Q g i|false=>show hb e j O f Q g i
end
def Ag(K:ka)(H:Hp)(a:Addr)(xs:qC):Prop:=
 Rd H a (.lst xs) \/
  ∃(o:Obj) (b:Array Value) (n:Nat),K.lookup a=!o/\o.cls=.type "list"/\o.dict=()/\o.data=.seq b n/\b.size<=sizeLine/\Ar xs b.toList
def CP(K:ka)(H:Hp)(a:Addr)(xs:qC):Prop:=
 Rd H a (.tup xs) \/
  ∃(o:Obj) (b:Array Value) (n:Nat),K.lookup a=!o/\o.cls=.type "tuple"/\o.data=.seq b n/\b.size<=sizeLine/\Ar xs b.toList
def absV:Value->Option V
 |.none=>!.non|.bool b=>!(.bl b)|.int i z=>!(.int i)|.str x z=>!(.str x)|.bytes b z=>!(.byt b)|.float b z=>!(.flt b)|.ref a=>!(.ref a)|.type n=>!(.ty n)|z=>()
def Ab.abs(r:Ab x u):absV u=!x:=by
 cases x with
 |non=>cases r;rfl|bl z=>cases r;rfl|int z=>let(t,rfl):=r;rfl
 |str z=>let(t,rfl):=r;rfl
 |byt z=>let(t,rfl):=r;rfl
 |flt z=>let(t,rfl):=r;rfl
 |ref z=>cases r;rfl|ty z=>cases r;rfl
def Ab.inj(r:Ab x u)(q:Ab y u):x=y:=Þ<|r.abs.symm.trans q.abs
def Ar.inj:∀{xs ys} {us},Ar xs us->Ar ys us->xs=ys
 |_,_,_,.nil,.nil=>rfl|_,_,_,.cons r t,.cons a b=>by rw[r.inj a,Ar.inj t b]
section
variable {X:Cx}{pz:List<|Addr×Obj}{O:St}{H:Hp}{s:Shared}{a:Addr}{xs ys:qC}
theorem Ag.of{K:ka}(h:H a=!(.lst xs)):Ag K H a xs:=.inl<|.inl h
theorem CP.of{K:ka}(h:H a=!(.tup xs)):CP K H a xs:=.inl<|.inl h
def Inv.list(I:Inv X pz O H s)(h:Ag X.K H a xs):∃its ,Ar xs its/\PlainL s.heap a its.toArray/\xs.length<=sizeLine:=by
 rcases h with h|⟨o,its,n,hk,b,hd,hs,hz,r⟩;let(z,its,n,r,e):=h.ok I.hok;show{its,r,{_,n,e,rfl,rfl,rfl},z};show{its.toList,r,{o,n,I.kIn a o hk,b,hd,by lia},?_};let e:=r.length;grind
def Inv.tuple(I:Inv X pz O H s)(h:CP X.K H a xs):∃its ,Ar xs its/\IsTup s.heap a its.toArray/\xs.length<=sizeLine:=by
 rcases h with h|⟨o,its,n,hk,b,hs,hz,r⟩;let(z,its,r,p):=h.ok I.hok;grind;show{its.toList,r,{o,I.kIn a o hk,b,n,by lia},?_};let e:=r.length;grind
def Inv.list_inj(I:Inv X pz O H s)(h:Ag X.K H a xs)(h':Ag X.K H a ys):xs=ys:=by
 let(c,r,(o,n,e,_,_,d),_):=I.list h;let(b,f,(k,j,i,_,_,g),_):=I.list h';let:c=b:=by grind
 subst this;show r.inj f
def Inv.tuple_inj(I:Inv X pz O H s)(h:CP X.K H a xs)(h':CP X.K H a ys):xs=ys:=by
 let(c,r,(o,e,_,n,d),_):=I.tuple h;let(b,f,(k,i,_,j,g),_):=I.tuple h';let:c=b:=by grind
 subst this;show r.inj f
variable {E:Value->Shared->Prop}
end
section
variable {X:Cx}{st:Stmt}{rest:kj}{t u:TS}{e:Expr}{te:TE}{pos:Pos}
def Y3:TS:=λD O H=>D.nx O H
def YY(t u:TS):TS:=λD O H=>t { D with nx:=u D } O H
theorem zlk:Bf X [] Y3:=λϊ z O H z I h=>Ń {(O),H,I,h}
def zix(e:PS X st t)(g:Bf X rest u):Bf X (st::rest)<|YY t u:=by
 intro a s O H D I h;show wpAny_execs_cons<|A6 (e a s O H { D with nx:=u D } I h) λf i q=>?_
 cases f with
 |next=>let(d,b,c,q):=q;show g a i d b D c q
 |ret v=>show q|brk=>show q|cont=>show q
def zlj(a:PS X st t):Bf X [st] t:=by
 intro b s O H D I h;show wpAny_execs_cons<|A6 (a b s O H D I h) λf c q=>?_
 cases f with
 |next=>show Ń q|ret v=>show q|brk=>show q|cont=>show q
def znq:TS:=λD O H=>D.bk O H
def tCont:TS:=λD O H=>D.ct O H
theorem zln:PS X (.Pass pos) Y3:=λϊ z O H z I h=>wpAny_Pass {(O),H,I,h}
theorem zj0:PS X (.Break pos) znq:=λϊ z O H z I h=>wpAny_Break {(O),H,I,h}
theorem ze2:PS X (.Continue pos) tCont:=λϊ z O H z I h=>wpAny_Continue {(O),H,I,h}
def Inv.quiet{O:St}   (I:Inv X pz O H s):interactive X.env=false:=by simp[interactive,I.ok.kind]
def tDrop(b:TE):TS:=λD O H=>b O H λϊ a=>D.nx O a
def NA(he:PE X e te)(hs:swapsWith e () pos.line X.env=pure false):PS X (.Expr e pos)<|tDrop te:=by
 intro a s O H D I h;show wpAny_Expr_any (A6 (he a s O H _ I h) λv b ⟨x,H1,I1,r1,q1⟩=>{(O),H1,I1,q1}) I.quiet hs
def tRet(a:TE):TS:=λD O H=>a O H D.rt
def zoz(he:PE X e te):PS X (.Return ↑e pos)<|tRet te:=by
 intro a s O H D I h;show wpAny_Return_some<|A6 (he a s O H _ I h) λv b ⟨x,H1,I1,r1,q1⟩=>{(x),O,H1,I1,r1,q1}
def tRetN:TS:=λD z H=>D.rt .non H
theorem zlm:PS X (.Return () pos) tRetN:=λϊ z O H z I h=>wpAny_Return_none {.non,O,H,I,rfl,h}
def tIfS(c:TT)(t u:TS):TS:=λD O H=>c O H λb a=>if b=true then t D O a else u D O a
def ps_if(k:PT X c tc)(ha:Bf X a t)(hb:Bf X b u):PS X (.If c a b pos)<|tIfS tc t u:=by
 intro e s O H D I h;show wpAny_If<|A6 (k e s O H _ I h) λd j l=>?_
 let(f,g,i):=l;cases d with
 |true=>show ha e j O f D g i|false=>show hb e j O f D g i
end
abbrev TG:=V->St->Hp->(St->Hp->Prop)->Prop
abbrev Jx:=qC->St->Hp->(St->Hp->Prop)->Prop
def PG(X:Cx)(a:Expr)(t:TG):Prop:=
 ∀(d:List<|Addr×Obj) (s:Shared) (O:St) (H:Hp) (v:V) (u:Value) (Q:St->Hp->Prop),Inv X d O H s->Ab v u->t v O H Q ->
  wpAny (model X.prog X.w) X.A (assign a X.env u) (λϊ e=>∃c b,Inv X d c b e/\Q c b) X.xe s
def Ea(X:Cx)(ts:kh)(t:Jx):Prop:=
 ∀(c:List<|Addr×Obj) (s:Shared) (O:St) (H:Hp) (e:qC) (d:ke) (Q:St->Hp->Prop),Inv X c O H s->Ar e d->t e O H Q ->
  wpAny (model X.prog X.w) X.A (assignInOrder ((assignEach ts X.env).map (·.2)) d) (λϊ f=>∃b a,Inv X c b a f/\Q b a) X.xe s
abbrev XY:=V->V->V->Hp->(Hp->Prop)->Prop
def X9(X:Cx)(t:XY):Prop:=
 ∀(d:List<|Addr×Obj) (s:Shared) (O:St) (H:Hp) (o i v:V) (c b u:Value) (Q:Hp->Prop),Inv X d O H s->Ab o c->Ab i b->Ab v u->t o i v H Q ->
  wpAny (model X.prog X.w) X.A (setItem c b u) (λϊ e=>∃a,Inv X d O a e/\Q a) X.xe s
abbrev PC:=V->V->Hp->VK->Prop
def nU(X:Cx)(b:Operator)(t:PC):Prop:=
 ∀(a:List<|Addr×Obj) (s:Shared) (O:St) (H:Hp) (x y:V) (v u:Value) (Q:VK),Inv X a O H s->Ab x v->Ab y u->t x y H Q ->
  wpAny (model X.prog X.w) X.A (inplaceOp b v u) (EP X a O Q) X.xe s
section
variable {X:Cx}{pos:Pos}
def LV(i:Nat):TG:=λv O H Q=>Q (O.set i !v) H
def zlu{i:Nat}{x:Str}(b:X.N.Nodup)(d:X.N[i]?=!x)(e:G2 X.env.scope x)(c:X.fn x=true\/X.env.scope.names.lookup x=!.local):PG X (.Name x pos)<|LV i:=by
 intro f s O H v u Q I r h;show wpAny_assign_Name<|K9 I b d e r (λg a=>{_,H,a,h}) c
def gNil:Jx:=λa O H Q=>a=[]/\Q O H
def gCons(t:TG)(u:Jx):Jx:=λc O H Q=>∃v r,c=v::r/\t v O H λb a=>u r b a Q
def zlt:Ea X [] gNil:=by
 intro a s O H c b Q I r h;let(e,h):=h;show assignInOrder_nil {(O),H,I,h}
def zj2(g:PG X e t)(i:Ea X es u)
  (hs:(assignEach (e::es) X.env).map (·.2)=assign e X.env::(assignEach es X.env).map (·.2)):Ea X (e::es)<|gCons t u:=by
 intro a s O H p n Q I r h;let(v,o,f,h):=h;subst f;cases r with
 |cons r k=>
  rw[hs];show Ο<|A6 (g a s O H _ _ _ I r h) λϊ l m=>?_
  let(d,b,c,j):=m;show i a l d b _ _ Q c k j
def V3(K:ka)(n:Nat)(t:Jx):TG:=λv O H Q=>∃a xs,v=.ref a/\CP K H a xs/\xs.length=n/\t xs O H Q
def zpb{k}(i:X.calm=true)(h:Ea X es t)
  (hn:(assignEach es X.env).length=n) (c:(assignEach es X.env).findIdx? (·.1)=()):PG X (.Tuple es k pos)<|V3 X.K n t:=by
 intro q s O H v u Q I r d;let(a,xs,g,j,hl,d):=d;subst g;cases r;let(p,w,l,hz):=I.tuple j;show assign_Tuple_tuple (I.ok.hd i) l (by simp[hn,<- hl,w.length]) c λx m=>?_
 let f :=I.kept (t':=s.toks) λb o e=>m b o (Ô<|Ç e) e;show h q _ O H xs _ Q f (by lia) d
def gSub(d ti:TE)(t:XY):TG:=λv O H Q=>d O H λo a=>ti O a λi b=>t o i v b λc=>Q O c
def ND(l:PE X o to)(k:PE X i ti)(hs:X9 X t)
  (ha : ∀ v, assign (.Subscript o i pos) X.env v = (do
   let ov <- holding [v]<|eval o X.env;let iv <- holding [v,ov] (eval i X.env)
   standAt pos
   holding [v,ov,iv] (setItem ov iv v)
   release [v,ov,iv] []):=by rfl):PG X (.Subscript o i pos)<|gSub to ti t:=by
 intro b s O H v u Q I r h;show Â<|ĉ<|A6 (l b s O H _ I h) λov z a=>?_
 let(x,c,f,q,m):=a;show Â<|ĉ<|A6 (k b z O c _ f m) λiv A a=>?_
 let(y,d,g,w,n):=a;show Â<|ń<|Â<|ĉ<|A6 (hs b A O d x y v ov iv u _ g q w r n) λϊ B a=>?_
 let(e,j,p):=a;show wpAny_release {(O),e,j,p}
def Mb(b:TE)(g:TG):TS:=λD O H=>b O H λx a=>g x O a D.nx
def Kk{a e:Expr}{c:TE}{g:TG}(he:PE X e c)(j:PG X a g)(hs:swapsWithSole [a] e pos.line X.env=pure false)(k:swappedStores [a] e X.env=pure ())
  (i:(assignEach [a] X.env).map (·.2)=[assign a X.env]):PS X (.Assign [a] e pos)<|Mb c g:=by
 intro b s O H D I h;show wpAny_Assign_stores (A6 (he b s O H _ I h) λv n o=>?_) hs k;let(x,d,f,m,l):=o;rw[i];show A6 (j b n O d x v _ f m l) λϊ p q=>q
def Zo(d:X.N.Nodup)(g:X.N[i]?=!x)(j:G2 X.env.scope x)(he:PE X e te)(hs:swapsWith e (!(.Name x pos')) pos.line X.env=pure false)(f:X.fn x=true\/X.env.scope.names.lookup x=!.local) :
  PS X (.Assign [.Name x pos'] e pos) (Mb te<|LV i):=by
 intro k s O H D I h;show wpAny_Assign_Name (A6 (he k s O H _ I h) λv o n=>?_) hs;let(y,a,b,m,l):=n;show K9 b d g j m (λp c=>{_,a,c,l}) f
def tPar(i j:Nat)(b:TA):TS:=λD O H=>b O H λc a=>∃v w,c=[v,w]/\D.nx ((O.set i !v).set j !w) a
def zp0(K:X.calm=true)(u:X.N.Nodup)(L:X.N[i]?=!x)(hj:X.N[j]?=!y)(k:i≠j)
  (z:X.env.scope.names.lookup x=!.local) (A:X.env.scope.names.lookup y=!.local) (ha:PA X [a,b] ta)
  (M:swappedStores [.Tuple [.Name x px,.Name y py] kt pt] (.Tuple [a,b] k2 pt2) X.env=pure (![x,y]))
  (hs:swapsWithSole [.Tuple [.Name x px,.Name y py] kt pt] (.Tuple [a,b] k2 pt2) pos.line X.env=pure false) :
  PS X (.Assign [.Tuple [.Name x px,.Name y py] kt pt] (.Tuple [a,b] k2 pt2) pos) (tPar i j ta):=by
 intro B s O H D I h;rw[exec_Assign_arm];show Â<|ń ?_;rw[hs];show Â<|Ï ?_;rw[if_neg<|by decide]
 show Â<|Tuple_<|A6 (ha _ B s O H _ I h) λS g T=>?_
 let(Y,r,C,Q,m):=T;let(v,w,J,m):=m;subst J
 let(d,f,rfl,R,n):∃d f,S=[d,f]/\Ab v d/\Ab w f:=by
  cases Q with
  |cons p q=>
   cases q with
   |cons N P=>cases P;show{_,_,rfl,p,N}
 show Ρ ?_ (by show(?_:2<=sizeLine);decide);have E:Inv X B O r { g with heap:=g.heap.push { cls:=.type "tuple",data:=.seq [d,f].toArray } }:=C.kept λb o e=>Ó _ e;rw[M];show Â<|Ï ?_;show(show wpAny (model X.prog X.w) X.A (do rule "assign.swapped-stores";let c <- unpackItems (.ref g.heap.objs.size) 2 ();assignInOrder [λv=>bindName X.env y v,λv=>bindName X.env x v] c.reverse;pure Flow.next) _ _ _ from ?_)
 show Â<|wpAny_rule<|Â<|unpackItems_tuple (items:=#[d,f]) (I.ok.hd K) (IsTup.new g.heap _) λU l=>?_
 have F:=E.kept (t':=g.toks) λb o e=>l b o (Ô<|Ç e) e;show(show wpAny _ _ (assignInOrder [λv=>bindName X.env y v,λv=>bindName X.env x v] [f,d] >>= λϊ=>pure Flow.next) _ _ _ from ?_);show Â<|Ο<|wpAny_bindName<|K9 F u hj (.inl A) n (λV G=>?_)<|.inr A
 show Ο<|wpAny_bindName<|K9 G u L (.inl z) R (λW t=>assignInOrder_nil<|Ï ?_)<|.inr z
 rw[List.set_comm _ _<|Í k]at t;show{_,r,t,m}
def tAug(i:Nat)(c:TE)(ti:PC):TS:=λD O H=>∃x,O[i]?=↑!x/\c O H λy a=>ti x y a λz b=>D.nx (O.set i !z) b
def zp3{i:Nat}{x:Str}{e:Expr}{q:TE}{j:Operator}{ti:PC}{b:Pos}(G:X.N.Nodup)(p:X.N[i]?=!x)(g:G2 X.env.scope x)(he:PE X e q)(M:nU X j ti)(K:X.fn x=true\/X.env.scope.names.lookup x=!.local:=by first|show .inl rfl|show .inr rfl|assumption) :
  PS X (.AugAssign (.Name x b) j e pos) (tAug i q ti):=by
 intro n s O H D I h;let(v,F,h):=h;let(m,hn,hl):=I.loc;let vis:EW X.env.scope x:=by rcases g with k|k;show .inl k;show .inr<|.inl k
 let(u,r,l):=hl i x v p F vis;show wpAny_AugAssign_Name ?_
 let go:wpAny (model X.prog X.w) X.A (eval e X.env) (λw d=>wpAny (model X.prog X.w) X.A (inplaceOp j u w) (λr f=>wpAny (model X.prog X.w) X.A (storeName X.env x r) (λϊ=>SP X n D .next) X.xe f) X.xe d) X.xe s:=by
  show A6 (he n s O H _ I h) λw S o=>?_;let(y,t,B,Q,N):=o;show A6 (M n S O t v y u w _ B r Q N) λz T o=>?_;let(V,A,C,R,P):=o;show K9 C G p g R (λU E=>{_,A,E,P}) K
 rcases l with ⟨hk,L⟩|⟨hk,c,J,a⟩;show wpAny_loadName_local I.ok.kind hk hn L go;rcases hk with hk|hk;show wpAny_loadName_cell I.ok.kind hk J a go;rcases g with k|k;let:X.env.scope.names.lookup x=!.free:=hk;rw[k]at this;cases this;let:X.env.scope.names.lookup x=!.free:=hk;rw[k]at this;cases this
def ipI(f:Int->Int->Int):PC:=λx y H Q=>∃i j,x=.int i/\y=.int j/\Q (.int<|f i j) H
def zqx:nU X .Add<|ipI λi j=>i+j:=by
 intro e s O H x y v u Q I c d h;let(i,j,a,b,q):=h;subst a;subst b;let(t,rfl):=c;let(f,rfl):=d;show iadd_int {.int _,H,I.tok _,{_,rfl},q}
def znj(c:TT)(g:TS):TS:=λD O H=>∃W:Nat->St->Hp->Prop,(∃m,W m O H)/\∀m O H,W m O H ->
 c O H λb d=>if b=true then ∃N:St->Hp->Prop,(∀e a,N e a->∃f,f<m/\W f e a)/\g { D with nx:=N,ct:=N,bk:=D.nx } O d else D.nx O d
def ziy(q:PassesOwn (model X.prog X.w) X.A X.env X.xe)(w:PT X c tc)(hb:Bf X body tb):PS X (.While c body [] pos)<|znj tc tb:=by
 intro i s O H D I h;let(W,(x,C),a):=h;show wpAny_While<|codeAny_whileLoop (λn z=>∃p k,Inv X i p k z/\W n p k) ?_ x {(O),H,I,C}
 rintro n A ⟨d,l,t,E⟩;show Ġ q<|A6 (w i A d l _ t<|a n d l E) λb B F=>?_
 let(m,o,e):=F;cases b with
 |true=>
  let(N,G,e):=e;rw[if_pos rfl];show Ġ q<|A6 (hb i B d m _ o e) λf J g=>?_
  cases f with
  |next=>
   let(j,r,u,y):=g;grind
  |cont=>
   let(j,r,u,y):=g;grind
  |brk=>show g|ret v=>show g
 |false=>rw[if_neg ć];show Ń {(d),m,o,e}
end
structure It where
 go:Nat->Hp->Prop
 yld:Nat->Hp->V->Hp->Prop
 stop:Nat->Hp->Prop
def Cs(X:Cx)(a:List<|Addr×Obj)(H:Hp)(b:Addr):Prop:=
 H b=()/\b≠X.env.locals/\b∉X.fs/\(b∈X.ex\/X.s₀.heap.objs.size<=b)/\(∀x c,X.env.cells.lookup x=!c->c≠b)/\∀p∈X.pn++a,p.1≠b
def Inv.fpOk{X:Cx}{O:St}{b:Addr}(I:Inv X pz O H s)(hb:s.heap.objs.size<=b)(hn:H' b=()):Cs X pz H' b:=by
 show{hn,Nat.ne_of_gt<|Ý I.lt hb,I.nofs hb,.inr<|Ö I.sz hb,λx c e z=>?_,λp a z=>?_};let(v,q):=I.cell x c e;show absurd (Ý q.lt<|by grind)<|ä _
 show absurd (Ý (Ç (I.pin p a).1)<|by grind)<|ä _
structure Turn(P:Program)(w:World)(K:ka)(tg:Expr)(Γ:It)(fp:List Addr)(it:Addr)(tn:Nat->Heap->Prop):Prop where
 mem:it∈fp
 obj:∀i h,tn i h->∀b∈fp,∃o,h.get? b=!o/\∀v,o.data≠.cell v
 keep:∀i h h',tn i h->(∀b∈fp,∀o,h.get? b=!o->h'.get? b=!o)->tn i h'
 item:∀(X:Cx),X.prog=P->X.w=w->X.K=K->X.calm=true->∀(i:Nat) (pz:List<|Addr×Obj) (s:Shared) (O:St) (H:Hp) (E:Value->Shared->Prop),Inv X pz O H s->(∀b∈fp,Cs X pz H b)->tn i s.heap->Γ.go i H ->
  wpAny (model P w) X.A (pyNext<|.ref it) (λr s1=>∃u,r=!u /\
   wpAny (model P w) X.A (letOwnedTupleGo tg (.ref it) u) (λϊ s2=>∃x H',Inv X pz O H' s2/\Ab x u/\Γ.yld i H x H'/\tn (i+1) s2.heap/\∀b∈fp,H' b=()) E s1) E s
 done:∀(X:Cx),X.prog=P->X.w=w->X.K=K->X.calm=true->∀(i:Nat) (pz:List<|Addr×Obj) (s:Shared) (O:St) (H:Hp) (E:Value->Shared->Prop),Inv X pz O H s->(∀b∈fp,Cs X pz H b)->tn i s.heap->Γ.stop i H ->
  wpAny (model P w) X.A (pyNext<|.ref it) (λr s1=>r=()/\Inv X pz O H s1) E s
 self:∀(A:Around) (i:Nat) (s:Shared) (Q:Value->Shared->Prop) (E:Value->Shared->Prop),tn i s.heap->Q (.ref it) s->wpAny (model P w) A (pyIter<|.ref it) Q E s
abbrev TI:=St->Hp->(It->Hp->Prop)->Prop
def nV(X:Cx)(e:List<|Addr×Obj)(O:St)(g:Expr)(R:It->Hp->Prop)(c:Value)(f:Shared):Prop:=
 ∃(it:Addr) (d:List Addr) (tn:Nat->Heap->Prop) (Γ:It) (a:Hp),c=.ref it/\Inv X e O a f/\Turn X.prog X.w X.K g Γ d it tn/\tn 0 f.heap/\(∀b∈d,Cs X e a b)/\R Γ a
def PI(X:Cx)(d a:Expr)(e:TI):Prop:=
 ∀(b:List<|Addr×Obj) (s:Shared) (O:St) (H:Hp) (R:It->Hp->Prop),Inv X b O H s->e O H R ->
  wpAny (model X.prog X.w) X.A (eval a X.env) (λv c=>wpAny (model X.prog X.w) X.A (pyIter v) (nV X b O d R) X.xe c) X.xe s
def LP(c:s.heap.get? it=!o)(b:o.cls=.type n)(hd:o.data=.fields vs)
    (hn:["enumerate","zip","dict_itemiterator","dict_reverseitemiterator","odict_iterator","itertools.zip_longest","itertools.pairwise"].contains n=false) (a:Q Unit.unit s):wpAny M A (letOwnedTupleGo tg (.ref it) u) Q E s:=by
  unfold letOwnedTupleGo
  cases tg<;>first
    |show Ï a
    |(cases u<;>first
        |show Ï a
        | (show Â<|wpAny_load c ?_
           rw[b,hd];show(show wpAny M A (if (["enumerate","zip","dict_itemiterator","dict_reverseitemiterator","odict_iterator","itertools.zip_longest","itertools.pairwise"].contains n && vs[0]? == !(rawInt _))=true then _ else _) Q E s from ?_)
           rw[if_neg (by intro h;rw[hn,ŗ]at h;cases h)]
           show Ï a))
def Xf(K:ka)(a:Addr):It:=
 {λi H=>∃xs x,Ag K H a xs/\xs[i]?=!x,λi H x b=>b=H/\∀xs,Ag K H a xs->xs[i]?=!x,λi H=>∃xs,Ag K H a xs/\xs.length<=i}
def Xe(K:ka)(a:Addr):It:=
 {λi H=>∃xs x,CP K H a xs/\xs[i]?=!x,λi H x b=>b=H/\∀xs,CP K H a xs->xs[i]?=!x,λi H=>∃xs,CP K H a xs/\xs.length<=i}
def MG(b:Int)(n:Nat):It:={λi z=>i<n,λi H x a=>a=H/\x=.int (b+i),λi z=>n<=i}
def zg4{K}(a it):Turn P w K tg (Xf K a) [it] it (λi h=>h.IsListIter it a i) where
 mem:=by simp
 obj:=λi h st b hb=>by
  let e :=by simpa using hb
  subst e;let(o,e,c,d):=st;show{o,e,λv z=>by rw[d]at z;cases z}
 keep:=λi h A st k=>st.at λo e=>k it (by simp) o e
 item:=by
  intro X m q l B i F s O H E I g st n;subst m q l;let(xs,x,j,r):=n;let(t,y,p,hz):=I.list j;let(u,hu,G):=y.get r;let(f0,f1,f2,f3,f4,f5):=g it<|by simp
  show wpAny_pyNext_list_item st p.isList (by simpa using hu) λA f sb=>?_;let C :=I.turned (t':=s.toks) (λb o hb e=>(sb.2 b hb).trans e) f0 f1 f3 f4 f5;let(o,e,c,d):=id f;show{u,rfl,LP e c d (by decide) {x,H,C,G,{rfl,λJ D=>by rw[I.list_inj D j];show r},f,λb hb=>(g b hb).1}}
 done:=by
  intro X m q l B i F s O H E I g st n;subst m q l;let(xs,j,r):=n;let(t,y,p,hz):=I.list j;let(f0,f1,f2,f3,f4,f5):=g it<|by simp
  let hl:=y.length;show wpAny_pyNext_list_end (I.ok.hd B) st p.isList (by simp;lia) λA eb=>{rfl,I.turned (λb o hb e=>eb b o hb e) f0 f1 f3 f4 f5}
 self:=λϊ v v v v st h=>wpAny_pyIter_listiter st h
def zf0{K}(a it):Turn P w K tg (Xe K a) [it] it (λi h=>h.IsTupleIter it a i) where
 mem:=by simp
 obj:=λi h st b hb=>by
  let e :=by simpa using hb
  subst e;let(o,e,c,d):=st;show{o,e,λv z=>by rw[d]at z;cases z}
 keep:=λi h A st k=>st.at λo e=>k it (by simp) o e
 item:=by
  intro X m q l B i F s O H E I g st n;subst m q l;let(xs,x,j,r):=n;let(t,y,p,hz):=I.tuple j;let(u,hu,G):=y.get r;let(f0,f1,f2,f3,f4,f5):=g it<|by simp
  show wpAny_pyNext_tuple_item st (p) (by simpa using hu) λA f sb=>?_;let C :=I.turned (t':=s.toks) (λb o hb e=>(sb.2 b hb).trans e) f0 f1 f3 f4 f5;let(o,e,c,d):=id f;show{u,rfl,LP e c d (by decide) {x,H,C,G,{rfl,λJ D=>by rw[I.tuple_inj D j];show r},f,λb hb=>(g b hb).1}}
 done:=by
  intro X m q l B i F s O H E I g st n;subst m q l;let(xs,j,r):=n;let(t,y,p,hz):=I.tuple j;let(f0,f1,f2,f3,f4,f5):=g it<|by simp
  let hl:=y.length;show wpAny_pyNext_tuple_end (I.ok.hd B) st (p) (by simp;lia) λA eb=>{rfl,I.turned (λb o hb e=>eb b o hb e) f0 f1 f3 f4 f5}
 self:=λϊ v v v v st h=>wpAny_pyIter_tupleiter st h
def zf1{K}(it)(lo)(n):Turn P w K tg (MG lo n) [it] it (λi h=>IsRangeIter h it (lo+i * 1) (n - i) 1) where
 mem:=by simp
 obj:=λi h st b hb=>by
  let e :=by simpa using hb
  subst e
  show{_,st,λv z=>by
   let u :=z;cases u}
 keep:=λi h d st k=>k it (by simp) _ st
 item:=by
  intro X g m f j i p s O H E I c st l;subst g m f;let(f0,f1,f2,f3,f4,f5):=c it<|by simp
  let W:=Walks.range (prog:=X.prog) (w:=X.w) (I.ok.hd j) it lo 1 n;show W.item i s _ _ l st λv d tk hv a r=>?_;let(t,rfl):=hv;let q:Inv X p O H { s with heap:=d,toks:=tk }:=I.turned (λb o hb e=>r b o (by simpa using hb) e) f0 f1 f3 f4 f5
  show{_,rfl,LP a rfl rfl (by decide) {.int<|lo+i,H,q,{t,?_},{(rfl),rfl},a,λb hb=>(c b hb).1}};rw[Ŀ]
 done:=by
  intro X g m f j i p s O H E I c st l;subst g m f;let(f0,f1,f2,f3,f4,f5):=c it<|by simp
  show wpAny_pyNext_range_end (I.ok.hd j) st (by let:n<=i:=l;lia) λd eb=>{rfl,I.turned (λb o hb e=>eb b o hb e) f0 f1 f3 f4 f5}
 self:=λϊ y y y y st h=>wpAny_pyIter_rangeiter st h
section
variable {X:Cx}{tg:Expr}
def iList(K:ka)(c:TE):TI:=λO H R=>c O H λx b=>∃a,x=.ref a/\(∃xs,Ag K b a xs)/\R (Xf K a) b
def iTup(K:ka)(c:TE):TI:=λO H R=>c O H λx b=>∃a,x=.ref a/\(∃xs,CP K b a xs)/\R (Xe K a) b
def zlr(hl:PE X l tl):PI X tg l<|iList X.K tl:=by
 intro j s O H R I h;show A6 (hl j s O H _ I h) λv d n=>?_;let(x,f,c,m,k):=n;let(a,e,(xs,g),q):=k;subst e;cases m;let(i,r,p,hz):=c.list g;show Τ p.isList ?_;show{d.heap.objs.size,[d.heap.objs.size],_,_,f,rfl,c.kept λb o e=>Ó _ e,zg4 a _,{_,á _ rfl,rfl,rfl},λb hb=>?_,q}
 let e:b=d.heap.objs.size:=by grind
 subst e;show c.fpOk (Ã _)<|c.hok.fresh<|Ã _
def zp8(hl:PE X l tl):PI X tg l<|iTup X.K tl:=by
 intro j s O H R I h;show A6 (hl j s O H _ I h) λv d n=>?_;let(x,f,c,m,k):=n;let(a,e,(xs,g),q):=k;subst e;cases m;let(i,r,p,hz):=c.tuple g;show wpAny_pyIter_tuple (p) ?_;show{d.heap.objs.size,[d.heap.objs.size],_,_,f,rfl,c.kept λb o e=>Ó _ e,zf0 a _,{_,á _ rfl,rfl,rfl},λb hb=>?_,q}
 let e:b=d.heap.objs.size:=by grind
 subst e;show c.fpOk (Ã _)<|c.hok.fresh<|Ã _
def ZX{O:St}{H:Hp}    {a c:Int}   (I:Inv X pz O H s)(h:-(2 ^ 62)<=a)(i:a<2 ^ 62)(j:-(2 ^ 62)<=c)(k:c<2 ^ 62)
  (q:R (MG a (c - a).toNat) H):wpAny (model X.prog X.w) X.A (pyIter<|.ref s.heap.objs.size) (nV X pz O tg R) E { s with heap:=s.heap.push { cls:=.type "range",data:=.fields #[.int a t,.int c u,.int 1 v] },toks:=tk }:=by
 show wpAny_pyIter_range (IsRange.new ..) (small_one h i j k) ?_;let d:Inv X pz O H { s with heap:=s.heap.push { cls:=.type "range",data:=.fields #[.int a t,.int c u,.int 1 v] },toks:=tk }:=I.kept λb o e=>Ó _ e
 show{(s.heap.push { cls:=.type "range",data:=.fields #[.int a t,.int c u,.int 1 v] }).objs.size,[(s.heap.push { cls:=.type "range",data:=.fields #[.int a t,.int c u,.int 1 v] }).objs.size],_,_,H,rfl,
  d.kept λb o e=>Ó _ e,zf1 _ a (c - a).toNat,?_,λb hb=>?_,q}
 let f:a+(0:Nat) * 1=a:=by simp
 let g:(c - a).toNat - (0:Nat)=Builtin.Range.rangeSize a c 1:=by rw[rangeSize_one];grind
 rw[f,g];show á _ rfl;let e:b=(s.heap.push { cls:=.type "range",data:=.fields #[.int a t,.int c u,.int 1 v] }).objs.size:=by grind
 subst e;show d.fpOk (Ã _)<|d.hok.fresh<|Ã _
def iRng1(b:TA):TI:=λO H R=>b O H λc a=>∃j:Int,c=[.int j]/\-(2 ^ 62)<=j/\j<2 ^ 62/\R (MG 0 j.toNat) a
def iRng2(b:TA):TI:=λO H R=>b O H λc a=>∃i j:Int,c=[.int i,.int j]/\(-(2 ^ 62)<=i/\i<2 ^ 62/\-(2 ^ 62)<=j/\j<2 ^ 62)/\R (MG i (j - i).toNat) a
def zgc(d:Gl X "range")(f:X.mg "range"=())(ha:PA X [a] ta)(hs:starEach [a] X.env=[(false,eval a X.env)]):PI X tg (.Call (.Name "range" p) [a] [] pos)<|iRng1 ta:=by
 intro g s O H R I h;show Call_<|Gq I d f boot_range<|ĕ (A6 (ha pos g s O H _ I h) λu o m=>?_) hs rfl
 let(v,n,c,k,b):=m;let(j,e,b,i,q):=b;subst e;cases k with
 |cons r l=>cases l;let(t,rfl):=r;show call_range_1<|ZX c (by lia) (by lia) b i<|by simpa using q
def zgb{p pos}(k:Gl X "range")(l:X.mg "range"=())(ha:PA X [a,b] ta)(hs:starEach [a,b] X.env=[(false,eval a X.env),(false,eval b X.env)])(c:starEach [b] X.env=[(false,eval b X.env)]) :
  PI X tg (.Call (.Name "range" p) [a,b] [] pos) (iRng2 ta):=by
 intro m s O H R I h;show Call_<|Gq I k l boot_range<|ĕ (A6 (ha pos m s O H _ I h) λB z x=>?_) (by rw[hs,c]) (by rw[c];rfl)
 let(C,y,g,w,d):=x;let(i,j,e,(d,n,o,u),q):=d;subst e;cases w with
 |cons r f=>
  cases f with
  |cons v f=>cases f;let(t,rfl):=r;let(A,rfl):=v;show call_range_2<|ZX g d n o u q
def tFor(j:TI)(g:TG)(h:TS):TS:=λD O H=>j O H λΓ d=>∃W:Nat->Nat->St->Hp->Prop,(∃m,W 0 m O d)/\∀i m O H,W i m O H ->
 (Γ.stop i H/\D.nx O H)\/(Γ.go i H/\∃N:St->Hp->Prop,(∀b a,N b a->∃c,c<m/\W (i+1) c b a)/\∀x a,Γ.yld i H x a->g x O a λf e=>h { D with nx:=N,ct:=N,bk:=D.nx } f e)
def IY(fp:List Addr)(h:Heap):List<|Addr×Obj:=fp.filterMap λb=>(h.get? b).map λo=>(b,o)
def Ib(hb:b∈fp)(e:h.get? b=!o):(b,o)∈IY fp h:=ĥ.mpr {b,hb,by rw[e];rfl}
def aJ(a:p∈IY fp h):p.1∈fp/\h.get? p.1=!p.2:=by
 let(b,hb,e):=ĥ.mp a;cases q:h.get? b with
 |none=>grind|some o=>grind
theorem Inv.pinned{O:St}(I:Inv X pz O H s)(a:∀b∈fp,Cs X pz H b)(d:∀b∈fp,∃o,s.heap.get? b=!o/\∀v,o.data≠.cell v):Inv X (pz++IY fp s.heap) O H s:=
 I.pins_of λp c=>(Ú.mp c).elim (λz=>I.pin p<|ã _ z) λz=>by
  let(hb,e):=aJ z;let(f0,f1,f2,_):=a p.1 hb
  grind
theorem Inv.unpinned{O:St}(I:Inv X (pz++pl) O H s):Inv X pz O H s:=I.pins_of λp a=>I.pin p<|ã _<|Č _ a
def zp1(E:PassesOwn (model X.prog X.w) X.A X.env X.xe)(V:X.calm=true)(hi:PI X tg iter wi)(hg:PG X tg g)(hb:Bf X body tb)
  (hs:∀x,foldedSetIterable iter X.env x=pure x:=by intro _;rfl):PS X (.For tg iter body [] pos)<|tFor wi g tb:=by
 intro w s O H D I h;show wpAny_For (A6 (hi w s O H _ I h) λv s1 h1=>A6 h1 λitv s2 h2=>?_) hs;let(it,B,tn,Γ,H2,e,I2,T,Q,f2,W,(m0,w0),J):=h2;subst e;let l:∀{q },(∀b∈B,q b=())->∀b∈B,Cs X w q b:=λhn b hb=>{hn b hb,(f2 b hb).2}
 show codeAny_forLoop_any (λn Y=>∃i A q,Inv X w A q Y/\tn i Y.heap/\(∀b∈B,q b=())/\W i n A q) ?_ m0 {0,O,H2,I2,Q,λb hb=>(f2 b hb).1,w0};rintro n Z ⟨i,p,K,U,G,C,w3⟩;rcases J i n p K w3 with ⟨stop,qn⟩|⟨go,N,hN,step⟩
 .refine Ġ E<|A6 (T.done X rfl rfl rfl V i w Z p K X.xe U (l C) G stop) λr s4 z=>?_
  let(hr,I4):=z;subst hr;show Ń {(p),K,I4,qn}
 .refine Ġ E<|A6 (T.item X rfl rfl rfl V i w Z p K X.xe U (l C) G go) λr s4 z=>?_
  let(u,hr,h4):=z;subst hr;show Ġ E<|A6 h4 λϊ s5 z=>?_
  let(x,S,I5,r5,y5,y,M):=z;let L:=I5.pinned (l M)<|T.obj _ _ y;show Ġ E<|A6 (hg _ s5 p S x u _ L r5<|step x S y5) λϊ s6 z=>?_
  let(R,H6,I6,q6):=z;show Ġ E<|A6 (hb _ s6 R H6 _ I6 q6) λf P t=>?_
  let k:∀{a } {c },Inv X (w++IY B s5.heap) a c P->N a c->∃m,m<n/\∃i A q,Inv X w A q P/\tn i P.heap/\(∀b∈B,q b=())/\W i m A q:=λ{a c} j F=>by
   let(m',hm,w7):=hN a c F;show{m',hm,i+1,a,c,j.unpinned,T.keep _ _ _ y λb hb o e=>(j.pin (b,o)<|ã _<|ã _<|Ib hb e).1,λb hb=>?_,w7};let(o,e,d):=T.obj _ _ y b hb;show(j.pin (b,o)<|ã _<|ã _<|Ib hb e).2.1
  cases f with
  |next=>let(a,c,j,F):=t;show k j F
  |cont=>let(a,c,j,F):=t;show k j F
  |brk=>let(a,c,j,t):=t;show{(a),c,j.unpinned,t}
  |ret v=>let(x7,a,c,j,r7,t):=t;show{(x7),a,c,j.unpinned,r7,t}
end
abbrev R2:=V->V->Hp->VK->Prop
def Ay(X:Cx)(f:Value->Value->Sem Value)(r:R2):Prop:=
 ∀(a:List<|Addr×Obj) (s:Shared) (O:St) (H:Hp) (x y:V) (v u:Value) (Q:VK),Inv X a O H s->Ab x v->Ab y u->r x y H Q ->
  wpAny (model X.prog X.w) X.A (f v u) (EP X a O Q) X.xe s
def Lf(X:Cx)(f:Value->Sem Value)(r:V->Hp->VK->Prop):Prop:=
 ∀(a:List<|Addr×Obj) (s:Shared) (O:St) (H:Hp) (x:V) (v:Value) (Q:VK),Inv X a O H s->Ab x v->r x H Q ->
  wpAny (model X.prog X.w) X.A (f v) (EP X a O Q) X.xe s
def CQ(X:Cx)(f:Value)(r:qC->Hp->VK->Prop):Prop:=
 ∀(a:List<|Addr×Obj) (s:Shared) (O:St) (H:Hp) (xs:qC) (b:ke) (Q:VK),Inv X a O H s->Ar xs b->r xs H Q ->
  wpAny (model X.prog X.w) X.A (call f b) (EP X a O Q) X.xe s
def JX(r:R2)(c d:TE):TE:=λO H Q=>c O H λx a=>d O a λy b=>r x y b Q
def YW(r:V->Hp->VK->Prop)(b:TE):TE:=λO H Q=>b O H λx a=>r x a Q
def rI(C:Int->Int->Prop)(g:Int->Int->V):R2:=λx y H Q=>∃i j,x=.int i/\y=.int j/\C i j/\Q (g i j) H
def FR(g:Int->Int->V):R2:=λx y H Q=>∃i j,x=.int i/\y=.int j/\Q (g i j) H
def rU(g:Int->V):V->Hp->VK->Prop:=λx H Q=>∃i,x=.int i/\Q (g i) H
section
variable {X:Cx}{a b c:Expr}{ta tb tc:TE}{pos:Pos}
def XJ(ha:PE X a ta)(hb:PE X b tb){O:St}{R:V->V->Hp->Prop}(I:Inv X pz O H s)
  (h:ta O H λx H1=>tb O H1 λy H2=>R x y H2)  {f:Value->Value->Sem Value}
  (j:∀v u s2 x y H2,Inv X pz O H2 s2->Ab x v->Ab y u->R x y H2->wpAny (model X.prog X.w) X.A (f v u) Q X.xe s2) :
  wpAny (model X.prog X.w) X.A (eval a X.env) (λv s₁=>wpAny (model X.prog X.w) X.A (eval b X.env) (λu s₂=>wpAny (model X.prog X.w) X.A (f v u) Q X.xe s₂) X.xe s₁) X.xe s:=by
 show A6 (ha pz s O H _ I h) λv g c=>?_;let(x,H1,d,l,e):=c;show A6 (hb pz g O H1 _ d e) λu s2 c=>?_;let(y,H2,i,m,k):=c;grind
def pe_op(e:Ay X (binaryOp op) r)(ha:PE X a ta)(hb:PE X b tb):PE X (.BinOp a op b pos)<|JX r ta tb:=by
 intro f s O H Q I h;show wpAny_BinOp<|XJ ha hb I h λv u j x y c d g i q=>e f j O c x y v u Q d g i q
def pe_un(c:Lf X (unaryOp op) r)(ha:PE X a ta):PE X (.UnaryOp op a pos)<|YW r ta:=by
 intro b s O H Q I h;show UnaryOp_<|A6 (ha b s O H _ I h) λv d ⟨x,H1,I1,r1,q1⟩=>c b d O H1 x v Q I1 r1 q1
def Km{g:Int->Int->Int}
  (a:∀(i j ) (t u ) (s ) (Q ) (E ),C i j->Q (.int (g i j) s.toks) { s with toks:=s.toks+1 }->wpAny (model X.prog X.w) X.A (f (.int i t)<|.int j u) Q E s) :
  Ay X f (rI C λi j=>.int<|g i j):=by
 intro k s O H x y v u Q I c d h;let(i,j,rfl,rfl,b,q):=h;let(t,rfl):=c;let(e,rfl):=d;show a i j t e s _ _ b {.int<|g i j,H,I.tok _,{_,rfl},q}
def NN{g:Int->Int->Int}
  (a:∀(i j ) (t u ) (s ) (Q ) (E ),Q (.int (g i j) s.toks) { s with toks:=s.toks+1 }->wpAny (model X.prog X.w) X.A (f (.int i t)<|.int j u) Q E s) :
  Ay X f (FR λi j=>.int<|g i j):=by
 intro e s O H x y v u Q I b c h;let(i,j,rfl,rfl,q):=h;let(t,rfl):=b;let(d,rfl):=c;show a i j t d s _ _ {.int<|g i j,H,I.tok _,{_,rfl},q}
def NP{g:Int->Int->Bool}
  (a:∀(i j ) (t u ) (s ) (Q ) (E ),Q (.bool<|g i j) s->wpAny (model X.prog X.w) X.A (f (.int i t)<|.int j u) Q E s) :
  Ay X f (FR λi j=>.bl<|g i j):=by
 intro e s O H x y v u Q I b c h;let(i,j,rfl,rfl,q):=h;let(t,rfl):=b;let(d,rfl):=c;show a i j t d s _ _ {.bl<|g i j,H,I,rfl,q}
def CPow(i j:Int):Prop:=0<=j/\j<=1000000/\i.natAbs<2 ^ 64
def Xs(i j:Int):Prop:=(-(2 ^ 64)<i/\i<2 ^ 64)\/(-(2 ^ 64)<j/\j<2 ^ 64)
def Xs.ok(h:Xs i j):IntMulOk i j:=by
 rcases h with ⟨a,b⟩|⟨a,b⟩;show .of_left<|intBits_le_64 a b
 show .of_right<|intBits_le_64 a b
theorem zps:Ay X (binaryOp .Add)<|FR λi j=>.int<|i+j:=NN λϊ z z z z z z q=>add_int q
theorem zpl:Ay X (binaryOp .Sub)<|FR λi j=>.int<|i - j:=NN λϊ z z z z z z q=>sub_int q
theorem aD:Ay X (binaryOp .Mult)<|rI Xs λi j=>.int<|i * j:=Km λϊ z z z z z z a q=>mul_int q a.ok
theorem zm3:Ay X (binaryOp .Mod)<|rI (λϊ j=>j≠0) λi j=>.int<|i.fmod j:=Km λϊ z z z z z z a q=>mod_int' a q
theorem zpn:Ay X (binaryOp .Pow)<|rI CPow λi j=>.int<|i ^ j.toNat:=Km λϊ z z z z z z a q=>pow_int_small a.1 a.2.1 a.2.2 q
theorem zpr:Ay X (binaryOp .BitAnd)<|FR λi j=>.int<|Builtin.bitAnd i j:=NN λϊ z z z z z z q=>and_int q
theorem op_or:Ay X (binaryOp .BitOr)<|FR λi j=>.int<|Builtin.bitOr i j:=NN λϊ z z z z z z q=>or_int q
def unI{g:Int->Int}
  (a:∀(i ) (t ) (s ) (Q ) (E ),Q (.int (g i) s.toks) { s with toks:=s.toks+1 }->wpAny (model X.prog X.w) X.A (f<|.int i t) Q E s) :
  Lf X f (rU λi=>.int<|g i):=by
 intro c s O H x v Q I b h;let(i,rfl,q):=h;let(t,rfl):=b;show a i t s _ _ {.int<|g i,H,I.tok _,{_,rfl},q}
theorem znh:Lf X (unaryOp .USub)<|rU λi=>.int<|-i:=unI λϊ z z z z q=>neg_int q
def LY{O:St}(I:Inv X pz O H s)(q:Q (.bl k) H)(e:k=k'):EP X pz O Q (.bool k') s:=by
 subst e;show{.bl k,H,I,rfl,q}
theorem op_lt:Ay X (compareOp .Lt)<|FR λi j=>.bl<|decide (i<j):=NP λϊ z z z z z z q=>lt_int q
theorem aE:Ay X (compareOp .LtE)<|FR λi j=>.bl<|decide (i<=j):=NP λϊ z z z z z z q=>le_int q
theorem op_gt:Ay X (compareOp .Gt)<|FR λi j=>.bl<|decide (j<i):=NP λϊ z z z z z z q=>gt_int q
theorem op_ge:Ay X (compareOp .GtE)<|FR λi j=>.bl<|decide (j<=i):=NP λϊ z z z z z z q=>ge_int q
def zgd:Ay X (compareOp .In) (λx y H Q=>∃i j,x=.str i/\y=.str j/\Q (.bl<|(not (Builtin.Str.occurrences j i 0 j.length 1).isEmpty)) H):=by
 intro c s O H x y v u Q I a b h;let(i,j,rfl,rfl,q):=h;let(t,rfl):=a;let(d,rfl):=b;show in_str<|LY I q rfl
def zpo:Ay X (compareOp .Is)<|λx y H Q=>y=.non/\Q (.bl<|decide (x=.non)) H:=by
 intro c s O H x y v u Q I a b h;let(rfl,q):=h;cases b;show is_none_gen<|LY I q ?_
 cases x<;>first
  |rfl
  |(let(t,rfl):=a;rfl)
def zm0:Ay X (compareOp .IsNot)<|λx y H Q=>y=.non/\Q (.bl<|(not (decide (x=.non)))) H:=by
 intro c s O H x y v u Q I a b h;let(rfl,q):=h;cases b;show isnot_none_gen<|LY I q ?_
 cases x<;>first
  |rfl
  |(let(t,rfl):=a;rfl)
def zlw(f:Ay X (compareOp op) r)(ha:PE X a ta)(hb:PE X b tb)(e:behindInMarks op b=false):PE X (.Compare a [op] [b] pos)<|JX r ta tb:=by
 intro g s O H Q I h;show wpAny_Compare1 (XJ ha hb I h λv u k x y c d i j q=>f g k O c x y v u Q d i j q) e
def YX(t:TE):TT:=λO H Q=>t O H λx a=>∃k,x=.bl k/\Q k a
def zli(g:Ay X (compareOp op) r)(ha:PE X a ta)(hb:PE X b tb)(f:behindInMarks op b=false):PT X (.Compare a [op] [b] pos)<|YX<|JX r ta tb:=by
 intro d s O H Q I h
 show wpAny_isTrue_Compare1 (A6 (ha d s O H _ I h) λv i ⟨x,H1,I1,r1,q1⟩=>A6 (hb d i O H1 _ I1 q1) λu j ⟨y,H2,I2,r2,q2⟩=>
  A6 (g d j O H2 x y v u _ I2 r1 r2 q2) λc l ⟨z,H3,I3,r3,k,e,q3⟩=>?_) f
 subst e;cases r3;show Ĉ {(H3),I3,q3}
def Qh(r e:R2)(f g h:TE):TE:=λO H Q=>f O H λx b=>g O b λy c=>r x y c λz a=>∃k,z=.bl k /\
 (if k=true then h O a λi d=>e y i d Q else Q (.bl false) a)
def zj4(l:Ay X (compareOp op) r)(g:Ay X (compareOp op') r')(ha:PE X a ta)(hb:PE X b tb)(i:PE X c tc)
  (j:lastMarks [op,op'] [b,c]=false):PE X (.Compare a [op,op'] [b,c] pos)<|Qh r r' ta tb tc:=by
 intro f s O H Q I h
 show Compare_chain (A6 (ha f s O H _ I h) λv m ⟨x,H1,I1,r1,q1⟩=>chain_link (A6 (hb f m O H1 _ I1 q1) λu n ⟨y,H2,I2,r2,q2⟩=>
  A6 (l f n O H2 x y v u _ I2 r1 r2 q2) λd o ⟨z,H3,I3,r3,k,e,q3⟩=>?_)) j
 subst e;cases r3;show Ĉ ?_;cases k with
 |false=>show ite_ff {.bl false,H3,I3,rfl,q3}|true=>show ite_tt<|chain_last<|A6 (i f o O H3 _ I3 q3) λq p ⟨t,H4,I4,r4,q4⟩=>g f p O H4 y t u q Q I4 r2 r4 q4
def ziw(p:Ay X (compareOp op) r)(g:Ay X (compareOp op') r')(ha:PE X a ta)(hb:PE X b tb)(n:PE X c tc)
  (o:lastMarks [op,op'] [b,c]=false):PT X (.Compare a [op,op'] [b,c] pos)<|YX<|Qh r r' ta tb tc:=by
 intro f s O H Q I h
 show isTrue_chain (A6 (ha f s O H _ I h) λv A ⟨x,H1,I1,r1,q1⟩=>test_link (A6 (hb f A O H1 _ I1 q1) λu B ⟨y,H2,I2,r2,q2⟩=>
  A6 (p f B O H2 x y v u _ I2 r1 r2 q2) λd C ⟨z,H3,I3,r3,k,e,q3⟩=>?_)) o
 subst e;cases r3;show Ĉ ?_;cases k with
 |false=>let(K,l,q):=q3;cases l;show ite_ff {(H3),I3,q}
 |true=>
  show ite_tt<|test_last<|A6 (n f C O H3 _ I3 q3) λE D ⟨F,H4,I4,r4,q4⟩=>A6 (g f D O H4 y F u E _ I4 r2 r4 q4) λJ M G=>?_
  let(N,i,j,w,L,m,t):=G;subst m;cases w;show Ĉ {(i),j,t}
def LB:(sizeLine:Nat)<2 ^ 63:=by rw[Ą];decide
def zf7:Ay X (binaryOp .Add) (λx y H Q=>∃i j,x=.str i/\y=.str j/\i.length+j.length<=sizeLine/\Q (.str<|i++j) H):=by
 intro d s O H x y v u Q I a b h;let(i,j,rfl,rfl,hz,q):=h;let(t,rfl):=a;let(c,rfl):=b;show add_str (λc tk=>{.str<|i++j,H,I.tok _,{_,rfl},q}) hz
def Fw(r:Ar [x] us):∃u,us=[u]/\Ab x u:=by
 cases r with
 |cons b a=>cases a;grind
def IH(r:Ar [x,y] us):∃u w',us=[u,w']/\Ab x u/\Ab y w':=by
 cases r with
 |cons c a=>
  cases a with
  |cons d b=>cases b;grind
def zkd:CQ X (.builtin "abs") (λxs H Q=>∃i,xs=[.int i]/\Q (.int (if i<0 then -i else i)) H):=by
 intro a s O H xs b Q I r h;let(i,rfl,q):=h;let(u,rfl,t,rfl):=Fw r;show call_abs_int λu tk=>{.int (if i<0 then -i else i),H,I.tok _,{_,rfl},q}
def zhx(b:X.calm=true):CQ X (.builtin "max") (λxs H Q=>∃i j,xs=[.int i,.int j]/\Q (.int (if j > i then j else i)) H):=by
 intro d s O H xs f Q I r h;let(i,j,rfl,q):=h;let(u,g,rfl,(t,rfl),(e,rfl)):=IH r;show max_two_ints (I.ok.hd b) λc tk k=>{_,H,I.kept k,?_,q}
 by_cases a:j > i;rw[if_pos a,if_pos a];show{_,rfl};rw[if_neg a,if_neg a];show{_,rfl}
def zhw(b:X.calm=true):CQ X (.builtin "min") (λxs H Q=>∃i j,xs=[.int i,.int j]/\Q (.int (if j<i then j else i)) H):=by
 intro d s O H xs f Q I r h;let(i,j,rfl,q):=h;let(u,g,rfl,(t,rfl),(e,rfl)):=IH r;show min_two_ints (I.ok.hd b) λc tk k=>{_,H,I.kept k,?_,q}
 by_cases a:j<i;rw[if_pos a,if_pos a];show{_,rfl};rw[if_neg a,if_neg a];show{_,rfl}
def LenV(K:ka)(x:V)(H:Hp)(n:Nat):Prop:=
 match x with
 |.str y=>y.length<=sizeLine/\n=y.length|.byt y=>y.size<=sizeLine/\n=y.size|.ref p=>(∃xs,Ag K H p xs/\n=xs.length)\/∃xs,CP K H p xs/\n=xs.length|z=>False
def mW:CQ X (.builtin "len") (λxs H Q=>∃x n,xs=[x]/\LenV X.K x H n/\Q (.int n) H):=by
 intro k s O H xs l Q I r h;let(x,n,rfl,e,q):=h;let(u,rfl,i):=Fw r;have hl:=LB;have hs :=Ą;cases x with
 |str y=>let(t,rfl):=i;let(j,b):y.length<=sizeLine/\n=y.length:=e;subst b;show len_str (by lia) {.int _,H,I.tok _,{_,rfl},q}
 |byt y=>let(t,rfl):=i;let(j,b):y.size<=sizeLine/\n=y.size:=e;subst b;show W.len_bytes (by lia) {.int _,H,I.tok _,{_,rfl},q}
 |ref p=>
  cases i;have b :=e
  rcases b with ⟨xs,c,b⟩|⟨xs,c,b⟩;subst b;let(d,g,f,hz):=I.list c;have a:=g.length;show Calls.call_len_list f.isList (by erw[í];lia) {.int xs.length,H,I.tok _,{_,by erw[í];rw[a]},q}
  subst b;let(d,g,f,hz):=I.tuple c;have a:=g.length;show len_tuple f (by grind) {.int xs.length,H,I.tok _,{_,by erw[í];rw[a]},q}
 |_=>show(e).elim
end
structure ObjM(h:Heap)(x dx C:Addr)(mA:Str->Option Value):Prop where
 obj:h.get? x=!(W.instObj C dx)
 ns:h.Ns1 dx mA
 ne:dx≠x
def zgl{h:Heap}(n:h.Ns1 dx mA):∃od,h.get? dx=!od/\∀name,W.lookIn name od=!(mA name):=by
 let(o,c,i,f,hd,hk,_,d):=n;show{o,f,λname=>?_};let e:=d name;unfold nsFind findBy at e;rw[<- Array.find?_toList]at e;unfold W.lookIn;rw[hd];dsimp only;split;grind
 let a:c.toList.any (·.refKey)=false:=by
  rw[List.any_eq_false];intro y g;let(z,t,b):=hk y<|Array.mem_toList_iff.mp g;simp[DictEntry.refKey,b]
 grind
def ObjM.look(I:ObjM h x dx C mA):∃od,PySem.W.InstAt h x (W.instObj C dx) C !od/\∀name,W.lookIn name od=!(mA name):=
 let ⟨od,ho,hl⟩:=zgl I.ns
 {od,{(I.obj),rfl,rfl,ho},hl}
section
variable {prog:Program}{w:World}{A:Around}{E:Value->Shared->Prop}{s:Shared}{K:ka}{x dx C f:Addr}{mA:Str->Option Value}{name:Str}{v:Value}
def zmx(X:K.In s.heap)(I:ObjM s.heap x dx C mA)(b:W.plainGet K C name=true)(hh:W.hasDictIn K C=true)
  (ha:W.findIn K (.ref C) name=!()) (hv:mA name=!v) (a:W.handedIn v=true) (h:Q v { s with toks:=s.toks+1 }) :
  wpAny (model prog w) A (getAttr (.ref x) name expr) Q E s:=by
 let(c,Γ,hl):=I.look;show W.get_value X Γ (ż b).1 (W.findObj_own hh ha rfl<|by rw[hl,hv]) a h
def zjw(X:K.In s.heap)(I:ObjM s.heap x dx C mA)(a:W.plainGet K C name=true)
  (b:W.findIn K (.ref C) name=!(!(.ref f))) (c:W.isFn K (.ref f)=true) (hv:mA name=()) (h:Q (.ref f,[.ref x]) s) :
  wpAny (model prog w) A (getMethod (.ref x) name pl) Q E s:=by
 let(d,Γ,hl):=I.look;show W.method_fn X Γ (ż a).1 (ż a).2 b (beq_iff_eq.mp c) (by show(?_:(W.lookIn name d).map (·.isSome)=!false);grind) h
def zl0(X:K.In s.heap)(I:ObjM s.heap x dx C mA)
  (hs:W.findIn K (.ref C) "__setattr__"=!(!(.builtin "object.__setattr__"))) (l:W.plainOver K C=true) (n:W.takerIn K C name=!()) (hh:W.hasDictIn K C=true)
  (o:PySem.Within mA ns) (m:ns.length<=sizeLine)
  (h:∀h',ObjM h' x dx C (λy=>if y=name then ↑v else mA y)->Heap.SameBut dx s.heap h'->Q Unit.unit { s with heap:=h',toks:=s.toks+2 }) :
  wpAny (model prog w) A (setAttr (.ref x) name v) Q E s:=by
 let(r,Γ,hl):=I.look;show W.set_plain X Γ hs<|W.osa_open X Γ l n λb=>?_
 let(cd,k,e):=W.any_some hh;let p :=I.obj;show Â<|Ï<|Â<|Â<|wpAny_loadPart p<|Â<|PySem.W.Looks.here (W.looks_clsIn X k) ?_;rw[e];show Ï<|Â<|Ï<|Â ?_;show wpAny_nsSet1 I.ns λh' a c=>?_
 let(q,j,i,g,f,d):=a.count<|PySem.Within.cons name v o;show Â<|wpAny_lookBehind g (by rw[f];show pastItsLine_dict<|Ö d<|by grind) ?_
 show Ï<|h _ {(c.2 _<|Í I.ne).trans I.obj,a,I.ne} c
def zjg(X:K.In s.heap)(c:W.makesIn K C=true)
  (b:W.findIn K (.ref C) "__init__"=!(!(.ref f))) (a:W.typeIn K (.ref f)=!(.type "function"))
  (h : codeAny (model prog w) (A.under<|.builtin "type.__call__" {.ref C :: vs, kw}) (.call (.ref f) {.ref (s.heap.objs.size + 1) :: vs, kw}) (PySem.W.InitBack (s.heap.objs.size + 1) R)
   { s with heap:=(s.heap.push W.emptyDict).push (W.instObj C s.heap.objs.size) }) :
  codeAny (model prog w) A (.call (.ref C) {(vs),kw}) R s:=by
 show W.make_core (W.makes_of X c) (W.looks_findIn X b) (λself=>W.bind_fn X self a) (.inl rfl) h
end
def Dz(f:Str)(v:V):List (Str×V)->List (Str×V)
 |[]=>[(f,v)]|(g,x)::r=>if g=f then (g,v)::r else (g,x)::Dz f v r
theorem gS(f g)(v):∀fs ,(Dz f v fs).lookup g=if g=f then ↑v else fs.lookup g
 |[]=>by
  show(show List.lookup g [(f,v)]=_ from ?_);grind
 |(k,x)::r=>by
  let a:=gS f g v r;rw[show Dz f v ((k,x)::r)=(if k=f then (k,v)::r else (k,x)::Dz f v r) from rfl];grind
def VD(f)(v):∀fs ,f∈(Dz f v fs).map (·.1)/\∀g,g∈fs.map (·.1)->g∈(Dz f v fs).map (·.1)
 |[]=>{by simp[Dz],λg h=>by simp at h}|(k,x)::r=>by
  let(a,b):=VD f v r;rw[show Dz f v ((k,x)::r)=(if k=f then (k,v)::r else (k,x)::Dz f v r) from rfl];grind
def gY(f)(v):∀fs ,(Dz f v fs).length<=fs.length+1
 |[]=>by simp[Dz]|(k,x)::r=>by
  let a:=gY f v r;rw[show Dz f v ((k,x)::r)=(if k=f then (k,v)::r else (k,x)::Dz f v r) from rfl];grind
def E8.some_of(r:E8 ↑v o):∃u,o=!u/\Ab v u:=by
 cases o with
 |none=>show(r).elim|some u=>show{(u),rfl,r}
def E8.none_of(r:E8 () o):o=():=by
 cases o with
 |none=>rfl|some u=>show(r).elim
def zgs(r:Ab v u):W.handedIn u=true:=by
 cases v with
 |non=>cases (r);rfl|bl b=>cases (r);rfl|int i=>let(t,e):=(r);cases e;rfl
 |str x=>let(t,e):=(r);cases e;rfl
 |byt b=>let(t,e):=(r);cases e;rfl
 |flt b=>let(t,e):=(r);cases e;rfl
 |ref a=>cases (r);rfl|ty n=>cases (r);rfl
section
variable {P:Program}{w:World}{H H':Hp}{h h':Heap}{a C dx:Addr}{fs fs':List<|Str×V}
def OB(hok:HOk P w H h)(e:H a=!(.ins C dx fs)):∃mA,ObjM h a dx C mA/\(∀f,E8 (fs.lookup f)<|mA f)/\PySem.Within mA (fs.map (·.1))/\fs.length<=1000/\H dx=!(.own a):=by
 let(d,z,ne,ob,mA,n,r,q):=(hok a _ e);show{mA,{(ob),n,ne},r,q,z,d}
end
structure Cls(K:ka)(C:Addr):Prop where
 pg:W.plainGet K C Str.empty=true
 hd:W.hasDictIn K C=true
 po:W.plainOver K C=true
 sa:W.findIn K (.ref C) "__setattr__"=!(!(.builtin "object.__setattr__"))
def Cls.get{K}(c:Cls K C)(f):W.plainGet K C f=true:=c.pg
def Bn(K:ka)(C:Addr)(f:Str):Prop:=W.findIn K (.ref C) f=!()
def Bn.taker{K}(n:Bn K C f):W.takerIn K C f=!():=by
 unfold W.takerIn;rw[n];rfl
structure Meth(K:ka)(C:Addr)(m:Str)(f:Addr):Prop where
 at_:W.findIn K (.ref C) m=!(!(.ref f))
 fn:W.isFn K (.ref f)=true
 kp:W.keepIn K (.ref f)=true
section
variable {X:Cx}{pz:List<|Addr×Obj}{O:St}{H:Hp}{s:Shared}{a C dx:Addr}{fs:List<|Str×V}{f:Str}{v:V}{A:Around}{E:Value->Shared->Prop}
def zfm(I:Inv X pz O H s)(e:H a=!(.ins C dx fs))(c:Cls X.K C)(n:Bn X.K C f)(l:fs.lookup f=!v)
  (h:∀u s',Inv X pz O H s'->Ab v u->Q u s'):wpAny (model X.prog X.w) A (getAttr (.ref a) f b) Q E s:=by
 let(g,σ,r,_,_,_):=OB I.hok e;let(u,hu,d):=E8.some_of (v:=v) (o:=g f)<|by grind
 show zmx I.kIn σ (c.get f) c.hd n hu (zgs d)<|h u _ (I.tok _) d
def i6(I:Inv X pz O H s)(e:H a=!(.ins C dx fs))(c:Cls X.K C)(k:Meth X.K C m g)(l:fs.lookup m=())
  (h:Q (.ref g,[.ref a]) s):wpAny (model X.prog X.w) A (getMethod (.ref a) m pl) Q E s:=by
 let(b,σ,r,_,_,_):=OB I.hok e;let hn:b m=():=E8.none_of<|by grind
 show zjw I.kIn σ (c.get m) k.at_ k.fn hn h
def zf4(I:Inv X pz O H s)(e:H a=!(.ins C dx fs))(c:Cls X.K C)(n:Bn X.K C f)(hl:fs.length<1000)(m:Ab y u)
  (h:∀s',Inv X pz O (upd H a<|.ins C dx<|Dz f y fs) s'->Q Unit.unit s'):wpAny (model X.prog X.w) A (setAttr (.ref a) f u) Q E s:=by
 let(p,σ,r,j,_,i):=OB I.hok e;let hz:(fs.map (·.1)).length<=sizeLine:=by rw[À,Ą];lia
 show zl0 I.kIn σ c.sa c.po n.taker c.hd j hz λk d sb=>h _ ?_;let hd:∃o,k.get? dx=!o:=let ⟨o,_,_,e',_⟩:=d.ns;{(o),e'};show I.write (by rw[e];show True.intro) (.inr i) (λb q hb z=>(sb.2 b hb).trans z) hd ?_
 show{by rw[BF σ.ne];show i,?_,σ.ne,d.obj,_,d.ns,λg=>?_,λg l=>?_};let:=gY f y fs;lia;rw[gS];by_cases q:g=f;rw[if_pos q,if_pos q];show m;rw[if_neg q,if_neg q];show r g;by_cases q:g=f;rw[q];show(VD f y fs).1;show(VD f y fs).2 g (j g λz=>l ?_);grind
def Inv.made(I:Inv X pz O H s):Inv X pz O (upd (upd H s.heap.objs.size<|.own<|s.heap.objs.size+1) (s.heap.objs.size+1)<|.ins C s.heap.objs.size [])
  { s with heap:=(s.heap.push W.emptyDict).push (W.instObj C s.heap.objs.size) }:=by
 let a:(s.heap.push W.emptyDict).get? s.heap.objs.size=!W.emptyDict:=á s.heap rfl
 let d:((s.heap.push W.emptyDict).push (W.instObj C s.heap.objs.size)).get? (s.heap.objs.size+1)=!(W.instObj C s.heap.objs.size):=by
  let:=á (s.heap.push W.emptyDict) (o:=W.instObj C s.heap.objs.size) rfl;simp_all
 let f:(s.heap.push W.emptyDict).Ns s.heap.objs.size (λϊ=>()):={W.emptyDict,#[],_,a,rfl,(λe he=>absurd he<|by simp),λϊ=>rfl};let c:=I.laid (o:=.own<|s.heap.objs.size+1) (t':=s.toks) (λb u q=>Ó _ q) (Ã _) {_,a};show c.laid (λb u q=>Ó _ q) (Nat.le_of_eq<|Ĝ _ _) ?_;let ne:s.heap.objs.size≠s.heap.objs.size+1:=Ô<|ę _;show{by rw[BF ne,CT],ø _,ne,d,λϊ=>(),(Heap.Ns1.of_empty f).at λo q=>Ó _ q,λϊ=>True.intro,λy g=>absurd rfl g}
theorem zn9(hb:attributeBase e f env (eval e env)=eval e env)
  (h:wpAny (model prog w) A (eval e env) (λo s₁=>wpAny (model prog w) A (getAttr o f true) Q E s₁) E s):wpAny (model prog w) A (eval (.Attribute e f pos) env) Q E s:=
 Attribute_any_ h (by rw[arm_eval_Attribute,hb])
end
def tFld(K:ka)(d:TE)(f:Str):TE:=λO H Q=>d O H λx b=>∃a C c fs v,x=.ref a/\b a=!(.ins C c fs)/\Cls K C/\Bn K C f/\fs.lookup f=!v/\Q v b
def sFld(K:ka)(e g:TE)(f:Str):TS:=λD O H=>g O H λy d=>e O d λx b=>∃a C c fs,x=.ref a/\b a=!(.ins C c fs)/\Cls K C/\Bn K C f/\fs.length<1000 /\
 D.nx O (upd b a<|.ins C c<|Dz f y fs)
section
variable {X:Cx}{o e value:Expr}{f:Str}{pos pos' tpos:Pos}{ta tv:TE}
def Zu(he:PE X e ta)(hb:attributeBase e f X.env (eval e X.env)=eval e X.env):PE X (.Attribute e f pos)<|tFld X.K ta f:=by
 intro j s O H Q I h;show zn9 hb<|A6 (he j s O H _ I h) λu r o=>?_
 let(x,b,d,m,a,C,p,fs,v,ex,i,c,n,l,q):=o;subst ex;obtain rfl:u=Value.ref a:=m;show zfm d i c n l λw t g k=>{(v),b,g,k,q}
def zp2(ha:PE X o ta)(hv:PE X value tv)(hs:swapsWith value (!(.Attribute o f pos')) pos.line X.env=pure false):PS X (.Assign [.Attribute o f pos'] value pos)<|sFld X.K ta tv f:=by
 intro b s O H D I h;show plainObj_wpAny_Assign_Attribute (A6 (hv b s O H _ I h) λu m ⟨y,H1,I1,ry,q⟩=>A6 (ha b m O H1 _ I1 q) λi v p=>?_) hs;let(x,r,d,k,a,C,t,fs,ex,g,c,n,l,j):=p;subst ex;obtain rfl:i=Value.ref a:=k;show zf4 d g c n l ry λw e=>{O,_,e,j}
end
section
variable {X:Cx}{pz:List<|Addr×Obj}{O:St}{H:Hp}{s:Shared}{A:Around}{E:Value->Shared->Prop}{Q:Value->Shared->Prop}{c:Value}{b:Bool}
inductive TyOf(K:ka)(H:Hp):V->Value->Prop where
 |non:TyOf K H .non<|.type "NoneType"
 |bl (x:Bool):TyOf K H (.bl x)<|.type "bool"
 |int (i:Int):TyOf K H (.int i)<|.type "int"
 |str (x:Str):TyOf K H (.str x)<|.type "str"
 |flt (x:UInt64):TyOf K H (.flt x)<|.type "float"
 |lst {a:Addr} {xs:List V} (e:H a=!(.lst xs)):TyOf K H (.ref a)<|.type "list"
 |frz {a:Addr} {o:Obj} {xs:List V} (e:H a=!(.frz o<|.lst xs)):TyOf K H (.ref a)<|.type "list"
 |tup {a:Addr} {xs:List V} (e:H a=!(.tup xs)):TyOf K H (.ref a)<|.type "tuple"
 |dK {a:Addr} {kvs:List<|Key×V} (e:H a=!(.dK kvs)):TyOf K H (.ref a)<|.type "dict"
 |dT {a:Addr} {kvs:List<|List Key×V} (e:H a=!(.dT kvs)):TyOf K H (.ref a)<|.type "dict"
 |ins {a C dx:Addr} {fs:List<|Str×V} (e:H a=!(.ins C dx fs)) (cl:Cls K C) (ha:W.findIn K (.ref C) "__class__"=!(!(.builtin "object.__class__")))
   (hn:W.specialIn K (.builtin "object.__class__") "__get__"=!(!(.builtin "getset_descriptor.__get__"))) (htk:W.takesIn K (.builtin "object.__class__")=!true)
   (hm:W.mroIn K C (.type "object")=!true):TyOf K H (.ref a)<|.ref C
def VM{x:V}  (I:Inv X pz O H s)(f:Ab x u)(ty:TyOf X.K H x t)(e:W.kitOne X.K t c=!b)(h:∀tk,Q (.bool b) { s with toks:=tk }) :
  wpAny (model X.prog X.w) A (call (.builtin "isinstance") [u,c]) Q E s:=by
 cases ty with
 |non=>cases (f);show ò W.kitx_none I.kIn True.intro e (λz=>nomatch z) h
 |bl y=>cases (f);show ò W.kitx_bool I.kIn True.intro e (λz=>nomatch z) h
 |int i=>let(t,q):=(f);cases q;show ò W.kitx_int I.kIn True.intro e (λz=>nomatch z) h
 |str y=>let(t,q):=(f);cases q;show ò W.kitx_str I.kIn True.intro e (λz=>nomatch z) h
 |flt y=>let(t,q):=(f);cases q;show ò W.kitx_float I.kIn True.intro e (λz=>nomatch z) h
 |@lst a xs d=>cases (f);let(_,_,n,_,g):=(I.hok a _ d);show ò Ι I.kIn {_,g,rfl} e (λz=>nomatch z) h
 |@frz a ob xs d=>cases (f);let(_,_,_,n,_,g):=(I.hok a _ d);show ò Ι I.kIn {_,g,rfl} e (λz=>nomatch z) h
 |@tup a xs d=>cases (f);let(_,_,_,p):=(I.hok a _ d);let(o,g,j,_):=p;show ò W.kitx_tuple I.kIn {(o),g,j} e (λz=>nomatch z) h
 |@dK a l d=>cases (f);let(_,_,F,_,p):=(I.hok a _ d);let(o,r,m,g,j,_):=p;show ò Κ I.kIn {(o),g,j.1} e (λz=>nomatch z) h
 |@dT a l d=>cases (f);let(_,_,xs,_,o,r,m,g,j,_):=(I.hok a _ d);show ò Κ I.kIn {(o),g,j.1} e (λz=>nomatch z) h
 |@ins a C w fs d cl ha hn k v=>cases (f);let(B,σ,_):=OB I.hok d;let(D,Γ,_):=σ.look;show ò (W.kitx_own (cl.get _) cl.hd ha hn k v) I.kIn Γ e (λz=>nomatch z) h
end
structure Room(k:Nat)(A:Around):Prop where
 hd:A.handled=()
 dp:A.depth+3 * k+5<recursionLimit
 un:A.units+16 * k+200<cLine
theorem Room.mono(r:Room k A)(h:j<=k):Room j A:={r.hd,by let:=r.dp;lia,by let:=r.un;lia}
theorem Room.deeper(r:Room (k+1) A)(env):Room k<|A.deeper env:=
 {r.hd,by let:=r.dp;show(show A.depth+1+3 * k+5<_ from ?_);lia,by let:=r.un;show(show A.units+3+16 * k+200<_ from ?_);lia}
def zfa{A:Around}:(A.under<|.builtin "type.__call__" {.ref C::us,kw}).depth=A.depth+1:=by
 rfl
def zf9{A:Around}:(A.under<|.builtin "type.__call__" {.ref C::us,kw}).units=A.units+1:=by
 rfl
theorem Room.make(r:Room (k+1) A)(C)(us)(kw):Room k<|A.under<|.builtin "type.__call__" {.ref C::us,kw}:=
 {r.hd,by let:=r.dp;rw[zfa];lia,by let:=r.un;rw[zf9];lia}
def Room.depth(r:Room k A):A.depth<recursionLimit:=by let:=r.dp;lia
def Room.units(r:Room k A):A.units+64<cLine:=by let:=r.un;lia
def Y2:TA:=λϊ H Q=>Q [] H
def tCons(c:TE)(tr:TA):TA:=λO H Q=>c O H λx a=>tr O a λxs b=>Q (x::xs) b
section
variable {X:Cx}{e:Expr}{es:kh}{te:TE}{t:TA}{pos:Pos}
theorem GB:PA X [] Y2:=λϊ z z z H Q I h=>Calls.spliced_nil {[],H,I,.nil,h}
def FW(ha:PE X e te)(hr:PA X es t)(hs:starEach (e::es) X.env=(false,eval e X.env)::starEach es X.env:=by rfl):PA X (e::es)<|tCons te t:=by
 intro pos a s O H Q I h;rw[hs];show Calls.spliced_cons<|A6 (ha a s O H _ I h) λu g i=>?_
 let(x,b,c,f,d):=i;show A6 (hr pos a g O b _ c d) λk j ⟨xs,H2,I2,r2,q2⟩=>{x::xs,H2,I2,.cons f r2,q2}
def tTup(t:TA):TE:=λO H Q=>t O H λxs a=>xs.length<=sizeLine/\∀p,a p=()->Q (.ref p) (upd a p<|.tup xs)
def tLst(t:TA):TE:=λO H Q=>t O H λxs a=>xs.length<=sizeLine/\∀p,a p=()->Q (.ref p) (upd a p<|.lst xs)
def zpd(h:PA X es t):PE X (.Tuple es x1 pos)<|tTup t:=by
 intro f s O H Q I d;show wpAny_Tuple_spliced<|A6 (h pos f s O H _ I d) λg a ⟨xs,H1,I1,r,z,q⟩=>{by rw[<- r.length];show z,?_}
 let c :=I1.hok.fresh<|Ã _;show{.ref a.heap.objs.size,upd H1 a.heap.objs.size<|.tup xs,I1.laid (λb u e=>Ó _ e) (Ã _) ?_,rfl,q _ c}
 show{z,g,r,{_,á _ rfl,rfl,_,rfl}}
def zph(h:PA X es t):PE X (.List es pos)<|tLst t:=by
 intro f s O H Q I d;show wpAny_List_spliced<|A6 (h pos f s O H _ I d) λg a ⟨xs,H1,I1,r,z,q⟩=>{by rw[<- r.length];show z,?_}
 let c :=I1.hok.fresh<|Ã _;show{.ref a.heap.objs.size,upd H1 a.heap.objs.size<|.lst xs,I1.laid (λb u e=>Ó _ e) (Ã _) ?_,rfl,q _ c}
 show{z,g,0,r,á _ rfl}
end
abbrev Sp:=qC->Hp->VK->XK->Prop
abbrev G4:=List Env->Hp->Shared->XK->Value->Shared->Prop
structure Env0(P:Program)(w:World)(K:ka)(mg:Str->Option Value)(base:Heap)(A:Around)(outer:List Env)(s:Shared)(H:Hp):Prop where
 frames:A.frames=!outer
 mod:Mod K mg base
 bs:∀b o,base.get? b=!o->s.heap.get? b=!o/\H b=()
 bsz:base.objs.size<=s.heap.objs.size
 funs:s.heap.FunFrames base outer
 frf:∀b∈Br outer,H b=()
 hok:HOk P w H s.heap
 bare:AllBare s.gens
def CE(outer:List Env)(P:Program)(w:World)(H:Hp)(s:Shared)(Q:VK)(u:Value)(s':Shared):Prop:=
 ∃v a,s'.os=s.os/\AllBare s'.gens/\Un (Br outer) [] H a s.heap s'.heap/\HOk P w a s'.heap/\Ab v u/\Q v a
def CR(CX:G4)(outer:List Env)(P:Program)(w:World)(H:Hp)(s:Shared)(Q:VK)(E:XK)(r:Result)(s':Shared):Prop:=
 match r with
 |.ok (.ret u)=>CE outer P w H s Q u s'|.ok z=>False|.error e=>CX outer H s E e s'
structure FnOk(P:Program)(w:World)(K:ka)(mg:Str->Option Value)(base:Heap)(CX:G4)(k:Nat)(f:Addr)(fd:FuncData)(ps:kq)(sp:Sp):Prop where
 len:∀vs H Q E,sp vs H Q E->vs.length=ps.length
 run:∀(A:Around) (outer:List Env) (s:Shared) (H:Hp) (args:Args) (us:ke) (vs:qC) (Q:VK) (E:XK),Room k A->Env0 P w K mg base A outer s H->BindsTo s fd args (ps.zip us)->Ar vs us->sp vs H Q E ->
  codeAny (model P w) A (.call (.ref f) args) (CR CX outer P w H s Q E) s
theorem Env0.make{w:World}{K}{s:Shared}{H:Hp}(e:Env0 P w K mg base A outer s H)(C:Addr)(us)(kw) :
  Env0 P w K mg base (A.under<|.builtin "type.__call__" {.ref C::us,kw}) outer s H:={by first|show e.frames|rfl,e.mod,e.bs,e.bsz,e.funs,e.frf,e.hok,e.bare}
section
variable {X:Cx}{pz:List<|Addr×Obj}{O:St}{H:Hp}{s s':Shared}
theorem Inv.env0(I:Inv X pz O H s):Env0 X.prog X.w X.K X.mg X.base X.A X.stack s H:=
 {I.ok.frames,I.ok.mod,I.bs,Ö I.ok.bsz I.sz,I.stack,I.stkFree,I.hok,I.bare}
def Inv.after(I:Inv X pz O H s)(h:CE X.stack X.prog X.w H s Q u s'):EP X pz O Q u s':=by
 let(v,c,os,bare,un,hok,r,q):=h;let(hh,g,d,t,a):=s';obtain rfl:a=s.os:=os;show{v,c,I.call un hok bare<|λb z=>absurd z<|by simp,r,q}
end
def Ct(K:ka)(fd:FuncData)(ps:kq)(ds:ke):Prop:=
 ∀(s:Shared) (a:ke),K.In s.heap->(a++ds).length=ps.length->BindsTo s fd {a,[]} (ps.zip<|a++ds)
theorem Ct.all{K }   (h:∀us ,us.length=ps.length->bindArgs fd {us,[]}=pure (ps.zip us)):Ct K fd ps []:=λs us z hl=>by
 rw[ê]at hl ⊢;show .of_eq<|h us hl
section
variable {X:Cx}{CX:G4}{k:Nat}{f C:Addr}{fd:FuncData}{ps:kq}{sp:Sp}{dvs:qC}{ds:ke}{E:XK}{x m:Str}{p pos apos:Pos}{e o:Expr}{es:kh}{ta:TE}{t:TA}
structure Mk(K:ka)(C f:Addr):Prop where
 makes:W.makesIn K C=true
 init:W.findIn K (.ref C) "__init__"=!(!(.ref f))
 fn:W.isFn K (.ref f)=true
 kp:W.keepIn K (.ref C)=true
end
section
variable {X:Cx}{CX:G4}{k:Nat}{f C:Addr}{fd:FuncData}{ps ks:kq}{sp:Sp}{E:XK}{x m:Str}{p pos apos kpos:Pos}{e o:Expr}{es:kh}{kws:List Keyword}{te ta:TE}{t tk:TA}{nm:Option Str}
variable {g:ke->ke->ke}{gV:qC->qC->qC}
end
structure FnScope(N P:kq)(sc:Scope):Prop where
 kind:sc.kind=.function
 co:sc.isCoroutine=false
 gen:sc.isGenerator=false
 nd:N.Nodup
 pre:N.take P.length=P
 par:∀x∈P,sc.names.lookup x=!.local\/sc.names.lookup x=!.cell
 nofree:∀y∈sc.names,y.2≠.free
def nG{kindOf}:∀{binds} {m},(∀v,(x,v)∉binds)->bindL kindOf binds m x=m x
 |[],z,y=>rfl|(n,v)::r,m,h=>by
  unfold bindL;rw[nG λw a=>h w<|Ë _ a];split;grind;rfl
def nI{kindOf}:∀{binds} {m},(∀v,(x,v)∉binds)->bindC kindOf binds m x=m x
 |[],z,y=>rfl|(n,v)::r,m,h=>by
  unfold bindC;rw[nI λw a=>h w<|Ë _ a];split;rfl;grind
def nH{kindOf}{x:Str}{v}:∀{P:kq} {vs} {i:Nat} {m},P.Nodup->P[i]?=!x->vs[i]?=!v->kindOf x=!.local ->
  bindL kindOf (P.zip vs) m x=!v
 |[],z,y,u,t,h,ώ,Ϗ=>by simp at h|z::y,[],u,t,ώ,Ϗ,h,ϐ=>by simp at h|p::P,w::vs,0,m,nd,a,b,hk=>by
  simp at a b;subst a;subst b;show(show bindL kindOf ((p,w)::P.zip vs) m p=_ from ?_);unfold bindL;rw[nG λv hv=>(ĩ.mp nd).1 (List.of_mem_zip hv).1,if_pos hk]
  simp
 |p::P,w::vs,i+1,m,nd,a,b,hk=>by
  unfold bindL;show nH (i:=i) (ĩ.mp nd).2 (by grind) (by grind) hk
def nJ{kindOf}{x:Str}{v}:∀{P:kq} {vs} {i:Nat} {m},P.Nodup->P[i]?=!x->vs[i]?=!v->kindOf x≠!.local ->
  bindC kindOf (P.zip vs) m x=!v
 |[],z,y,u,t,h,ώ,Ϗ=>by simp at h|z::y,[],u,t,ώ,Ϗ,h,ϐ=>by simp at h|p::P,w::vs,0,m,nd,a,b,hk=>by
  simp at a b;subst a;subst b;show(show bindC kindOf ((p,w)::P.zip vs) m p=_ from ?_);unfold bindC;rw[nI λv hv=>(ĩ.mp nd).1 (List.of_mem_zip hv).1,if_neg hk]
  simp
 |p::P,w::vs,i+1,m,nd,a,b,hk=>by
  unfold bindC;show nJ (i:=i) (ĩ.mp nd).2 (by grind) (by grind) hk
def start(N:kq)(vs:qC):St:=vs.map some++List.replicate (N.length - vs.length) ()
def GV(CX:G4)(P:Program)(w:World)(K:ka)(mg:Str->Option Value)(base:Heap)(N:kq)(b:Str)(a:Scope)(f:Addr)(cd:Value)(A:Around)(outer:List Env)(s:Shared)(H:Hp)(E:XK):Cx where
 prog:=P
 w:=w
 K:=K
 mg:=mg
 base:=base
 A:=A.deeper (envOfC b a s.heap.objs.size f cd)
 N:=N
 s₀:=s
 H₀:=H
 env:=envOfC b a s.heap.objs.size f cd
 outer:=outer
 stack:=envOfC b a s.heap.objs.size f cd::outer
 ex:=[]
 calm:=true
 fn:=λϊ=>true
 pn:=[]
 xe:=λe g=>wpAny (model P w) (A.deeper<|envOfC b a s.heap.objs.size f cd) (leaving (envOfC b a s.heap.objs.size f cd) e) (λϊ c=>CX outer H s E e c) (λd c=>CX outer H s E d c) g
def mS{a:Scope}(h:a.names.lookup x=!.cell):∃c,(cellsFrom n a.names []).lookup x=!c:=by
 let q:=W.cellsFrom_some a.names n []<|.inl h;show Ů.mp q
def zgq{CX:G4}{P:Program}{w:World}{K:ka}{base:Heap}{N ps:kq}{g:Str}{d:Scope}{f:Addr}{cd:Value}{A:Around}{s D:Shared}{H:Hp}{E:XK}{vs:qC}
  (S:FnScope N ps d) (hd:A.handled=()) (l:Env0 P w K mg base A outer s H) (hl:vs.length=ps.length) (r:Ar vs us)
  (x:InCallC s s.heap.objs.size (bindL (envOfC g d s.heap.objs.size f cd).kindOf (ps.zip us) λϊ=>()) (cellsFrom (s.heap.objs.size+1) d.names []) (bindC (envOfC g d s.heap.objs.size f cd).kindOf (ps.zip us) λϊ=>()) D) :
  Inv (GV CX P w K mg base N g d f cd A outer s H E) [] (start N vs) H D:=by
 let F :=by let:=congrArg List.length S.pre;rw[î]at this;lia
 let(B,tk,rfl,hk):=x.done;let n:∀b ,b∉(GV CX P w K mg base N g d f cd A outer s H E).ex:=λb z=>absurd (show b∈[] from z)<|by simp
 show{{l.mod,S.kind,rfl,rfl,Ã _,λy z c B j=>?_,λy m=>?_,λy c Z h=>?_,λϊ=>hd,Around.frames_deeper l.frames,.inr {(rfl),rfl},λb z=>absurd z<|n b,l.bs,l.bsz,λb Z Z=>n b,λb z=>absurd z<|n b,l.funs,l.frf},
  rfl,l.bare,Un.kept hk,{_,x.toInCall.ns,λi y v B j I=>?_},λy c h=>{_,x.cell y c h},l.hok.fresh<|Ã _,λy c h=>?_,λp o=>absurd (show p∈[] from o) (by simp),l.hok.kept hk,?_}
 show name_of_addr x.apart (ď B)<|ď j
 let m :=m;rcases m with m|m;show mS m;show absurd rfl<|S.nofree _<|ď m
 show š<|x.above y c<|ď h
 let C:i<vs.length:=by
  unfold start at j;by_cases C:i<vs.length;show C;rw[Ė<|by simpa using C]at j;rw[Ű]at j;split at j<;>cases j
 let ha:vs[i]?=!v:=by
  unfold start at j;rw[ù (by simpa using C),É]at j;cases e:vs[i]? with
  |none=>rw[e]at j;cases j|some a=>rw[e]at j;cases j;rfl
 let(u,hu,G):=r.get ha
 let o:ps[i]?=!y:=by
  rw[<- S.pre,ů<|by lia];show B
 let t:ps.Nodup:=by rw[<- S.pre];show S.nd.sublist<|List.take_sublist _ _
 show{u,G,?_};rcases S.par y (ú o) with k|k;show .inl {k,nH t o hu k};let(c,e):=mS k;show .inr {.inl k,c,e,?_};let q:=x.cell y c e;rw[nJ t o hu (by show(show d.names.lookup y≠_ from ?_);rw[k];decide)]at q
 show q;show l.hok.fresh<|š<|x.above y c<|ď h
 unfold start;show(show _=N.length from ?_);rw[ß,À,Ÿ]
 lia
def fn_of{CX:G4}   {K }   {k:Nat}{f:Addr}     {C kV g D a ct L:Value}
   {sp:Sp} (lk:K.lookup f=!{L,od,.func<|W.fnOf name qual params body scope C kV g D an a ct,osl}) (l:W.codeIn K a qual=true) (S:FnScope N ps scope)
  (len:∀vs H Q E,sp vs H Q E->vs.length=ps.length)
  (c : ∀ (A : Around) (outer ) (s : Shared) (H : Hp) (vs : qC) (Q : VK) (E : XK), Room k (A.deeper<|envOfC qual scope s.heap.objs.size f a) -> sp vs H Q E ->
   ∃t,Bf (GV CX P w K mg base N qual scope f a A outer s H E) body t/\t { nx:=λϊ H'=>Q .non H',rt:=Q } (start N vs) H) :
  FnOk P w K mg base CX (k+1) f (W.fnOf name qual params body scope C kV g D an a ct) ps sp:=by
 show{len,λA outer s H B M vs Q E hr h hb r i=>?_};let hl:=len _ _ _ _ i;let z :=h.mod.kin.keeps λb o e=>(h.bs b o e).1
 let BN :=h.mod.nolimit.keeps λb o e=>(h.bs b o e).1
 let d:∀y∈ps.zip M,scope.names.lookup y.1=!.local\/(scope.names.lookup y.1=!.cell/\((cellsFrom (s.heap.objs.size+1) scope.names []).lookup y.1).isSome=true):=λ⟨n,v⟩ hy=>by
  rcases S.par n (List.of_mem_zip hy).1 with q|q;show .inl q;show .inr {q,W.cellsFrom_some _ _ _<|.inl q}
 show codeAny_call_function hr.depth (z _ _ lk) rfl S.co S.gen rfl (W.codeRec_of z l)<|hb _ _ _ _ ?_;show wpAny_newFunctionEnv_cells S.kind d λenv he F x=>?_
 subst he;show{BN.keeps x.toInCall.keep,codeAny_func ?_};let(t,J,G):=c A outer s H vs Q E (hr.deeper _) i;let I:Inv (GV CX P w K mg base N qual scope f a A outer s H E) [] (start N vs) H F:=zgq S hr.hd h hl r x;show ô (J [] F (start N vs) H _ I G) (λfl p hs=>?_) λe p hs=>hs
 let B5:∀{j } {H' } {v } {u },Inv (GV CX P w K mg base N qual scope f a A outer s H E) [] j H' p->Ab v u->Q v H'->CE outer P w H s Q u p:=
  λ{j H' v u} Γ m q=>{(v),H',Γ.os,Γ.bare,Γ.base,Γ.hok,m,q}
 cases fl with
 |ret u=>let(v,j,H',Γ,m,q):=hs;show B5 Γ m q
 |next=>let(j,H',Γ,q):=hs;show B5 (v:=V.non) Γ rfl q
 |brk=>let(_,_,_,q):=hs;show False.elim q
 |cont=>let(_,_,_,q):=hs;show False.elim q
section
variable {X:Cx}{x:Str}{p pos:Pos}{e:Expr}{es:kh}{t:TA}{id T:String}{r:qC->Hp->VK->Prop}
def Yc(r:qC->Hp->VK->Prop)(t:TA):TE:=λO H Q=>t O H λb a=>r b a Q
def NG(d:CQ X (.builtin id) r)(f:Gl X x)(g:X.mg x=())(hv:bootBuiltins x=!(.builtin id))(ha:PA X (e::es) t)(hn:x≠"__name__")(a:(x == "__debug__")=false)
  (he:starEach (e::es) X.env=(false,eval e X.env)::starEach es X.env) (b:(backTo pos<|starEach es X.env).any (·.1)=false):PE X (.Call (.Name x p) (e::es) [] pos)<|Yc r t:=by
 intro c s O H Q I h;show Ĭ<|Gq I f g hv ?_ hn a;show PyProof.Rows.callWith_builtin1 (A6 (ha pos c s O H _ I h) λj i ⟨k,H1,I1,r1,q1⟩=>d c i O H1 k j Q I1 r1 q1) he b
def Zv(d:CQ X (.type T) r)(f:Gl X x)(g:X.mg x=())(hv:bootBuiltins x=!(.type T))(ha:PA X (e::es) t)(hn:x≠"__name__")(a:(x == "__debug__")=false)
  (he:starEach (e::es) X.env=(false,eval e X.env)::starEach es X.env) (b:(backTo pos<|starEach es X.env).any (·.1)=false):PE X (.Call (.Name x p) (e::es) [] pos)<|Yc r t:=by
 intro c s O H Q I h;show Ĭ<|Gq I f g hv ?_ hn a;show ĕ (A6 (ha pos c s O H _ I h) λj i ⟨k,H1,I1,r1,q1⟩=>d c i O H1 k j Q I1 r1 q1) he b
end
end L2
namespace HT
open PySem PyProof.Rows
section
open PySem.SeqAt
open PySem.AutoSeq1 (wpAny_loadPart')
open PySem.MeetsSeq PySem.MeetsSeq2 PySem.MeetsSeq3
end
section
variable {prog:Program}{w:World}{A:Around}{E:Value->Shared->Prop}{s:Shared}
def sIx(n d:Nat):kg->Nat
 |none=>d|some v=>if v<0 then (v+(n:Int)).toNat else min v.toNat n
end
end HT
namespace L2
open PySem PySem.Spec PyProof.Rows
abbrev TO:=St->Hp->(kg->Hp->Prop)->Prop
def PO(X:Cx)(e:Option Expr)(t:TO):Prop:=
 ∀(b:List<|Addr×Obj) (s:Shared) (O:St) (H:Hp) (Q:kg->Hp->Prop),Inv X b O H s->t O H Q ->
  wpAny (model X.prog X.w) X.A (evalPart e X.env) (λu c=>∃o a,Inv X b O a c/\IsPart u o/\Q o a) X.xe s
def zkq:TO:=λϊ H Q=>Q () H
def tPart(t:TE):TO:=λO H Q=>t O H λx a=>∃i,x=.int i/\Q ↑i a
section
variable {X:Cx}{e:Expr}{te:TE}{lo hi:Option Expr}{tl th:TO}{pos p2:Pos}
def zlp:PO X () zkq:=by
 intro a s O H Q I h;show Ï {(),H,I,.none,h}
def zlo(h:PE X e te):PO X !e<|tPart te:=by
 intro d s O H Q I c;show A6 (h d s O H _ I c) λu k j=>?_;let(x,a,b,g,f):=j;let(i,rfl,q):=f;let(t,rfl):=g;show{!i,a,b,.int i t,q}
def XZ(X:Cx)(r:V->kg->kg->Hp->VK->Prop):Prop:=
 ∀(c:List<|Addr×Obj) (s:Shared) (O:St) (H:Hp) (x:V) (v vl e:Value) (b a:kg) (d:Addr) (Q:VK),Inv X c O H s->Ab x v->s.heap.IsSliceOf d vl e .none->IsPart vl b->IsPart e a->r x b a H Q ->
  ∃T id,typeLookup (.type T) "__getitem__"=pure (!(.builtin id))/\s.TypeIs v T/\wpAny (model X.prog X.w) X.A (getItem v<|.ref d) (EP X c O Q) X.xe s
def tSl(r:V->kg->kg->Hp->VK->Prop)(d:TE)(f e:TO):TE:=λO H Q=>d O H λx a=>f O a λl b=>e O b λu c=>r x l u c Q
def Zr(hr:XZ X r)(he:PE X e te)(hl:PO X lo tl)(hu:PO X hi th):PE X (.Subscript e (.Slice lo hi () p2) pos)<|tSl r te tl th:=by
 intro a s O H Q I h;show Subscript_<|A6 (he a s O H _ I h) λv A f=>?_
 let(x,i,j,z,w):=f;show wpAny_Slice<|A6 (hl a A O i _ j w) λvl B ⟨l,H2,I2,pl,q2⟩=>A6 (hu a B O H2 _ I2 q2) λd c f=>?_
 let(u,g,k,t,y):=f;show Ï ?_;let m:Inv X a O g { c with heap:=c.heap.push { cls:=.type "slice",data:=.fields #[vl,d,.none] } }:=k.kept λb ob q=>Ó _ q
 let(T,id,n,p,o):=hr a { c with heap:=c.heap.push { cls:=.type "slice",data:=.fields #[vl,d,.none] } } O g x v vl d l u c.heap.objs.size Q m z (Heap.IsSliceOf.new ..) pl t y;show tail_any p n o<|by rfl
def L6(xs:qC)(a b:kg):qC:=(xs.drop<|HT.sIx xs.length 0 a).take (HT.sIx xs.length xs.length b - HT.sIx xs.length 0 a)
def zel(xs)(lo hi):(L6 xs lo hi).length<=xs.length:=by
 unfold L6;grind
end
def CY(n:Nat)(i:Int):Option Nat:=if 0<=i then (if i<n then ↑i.toNat else ()) else if -(n:Int)<=i then ↑(i+n).toNat else ()
def A9{α:Type}(xs:List α)(i:Int):Option α:=(CY xs.length i).bind λj=>xs[j]?
def LH(h:CY n i=!j):seqIndex? i n=!j/\j<n/\-n<=i/\i<n:=by
 unfold CY at h;by_cases b:0<=i;rw[if_pos b]at h;by_cases a:i<n;rw[if_pos a]at h;let e :=Þ h;show{by rw[seqIndex_of b a,e],by lia,by lia,a}
 grind;rw[if_neg b]at h;by_cases a:-n<=i;rw[if_pos a]at h;let e :=Þ h;show{by rw[seqIndex_neg (by lia) a,e],by lia,a,by lia}
 grind
def XT(h:A9 xs i=!v):∃j,seqIndex? i xs.length=!j/\xs[j]?=!v/\j<xs.length/\-xs.length<=i/\i<xs.length:=by
 unfold A9 at h;cases e:CY xs.length i with
 |none=>grind|some j=>
  let(a,b,c,d):=LH e;grind
def Fq{j:Nat}{v}(h:xs[j]?=!v):A9 xs j=!v:=by
 let a :=(Ê.mp h).1
 let e:CY xs.length j=!j:=by
  unfold CY;grind
 unfold A9;grind
def KR(b:Expr):Prop:=∀o i,subscripted b false o i=operate [o,i] (getItem o i)
def G3(X:Cx)(r:R2):Prop:=
 ∀(b a:Expr) (c:List<|Addr×Obj) (s:Shared) (O:St) (H:Hp) (x y:V) (v u:Value) (Q:VK),Inv X c O H s->Ab x v->Ab y u->r x y H Q ->
  subscripted a false v u=operate [v,u] (getItem v u)->wpAny (model X.prog X.w) X.A (subscriptTail b a v u) (EP X c O Q) X.xe s
def MtR(X:Cx)(id:String)(r:V->qC->Hp->VK->Prop):Prop:=
 ∀(a:List<|Addr×Obj) (s:Shared) (O:St) (H:Hp) (x:V) (xs:qC) (v:Value) (b:ke) (Q:VK),Inv X a O H s->Ab x v->Ar xs b->r x xs H Q ->
  wpAny (model X.prog X.w) X.A (call (.builtin id)<|v::b) (EP X a O Q) X.xe s
section
variable {X:Cx}{a b:Expr}{ta tb:TE}{pos:Pos}
def G3.or(h:G3 X r)(h':G3 X r'):G3 X<|λx y H Q=>r x y H Q\/r' x y H Q:=by
 intro b a c s O H x y v u Q I d e q hs;rcases q with q|q;show h b a c s O H x y v u Q I d e q hs;show h' b a c s O H x y v u Q I d e q hs
def NF(hr:G3 X r)(ha:PE X a ta)(hb:PE X b tb)(hs:KR b):PE X (.Subscript a b pos)<|JX r ta tb:=by
 intro e s O H Q I h;show Subscript_<|XJ ha hb I h λv u i x y c d f g q=>hr a b e i O c x y v u Q d f g q<|hs _ _
def Zh(K:ka):R2:=λx y H Q=>∃p xs i v,x=.ref p/\y=.int i/\Ag K H p xs/\A9 xs i=!v/\Q v H
def Zf(K:ka):R2:=λx y H Q=>∃p xs i v,x=.ref p/\y=.int i/\CP K H p xs/\A9 xs i=!v/\Q v H
def Zg:R2:=λx y H Q=>∃z i c,x=.str z/\y=.int i/\z.length<=sizeLine/\A9 z.cps.toList i=!c/\Q (.str {#[c]}) H
def iE:G3 X<|Zh X.K:=by
 intro g f B s O H x y v u Q I C D h hs;let(p,xs,i,z,rfl,rfl,A,he,q):=h;cases C;let(t,rfl):=D;let(c,r,d,hz):=I.list A;let(j,a,m,E,n,o):=XT he;let(w,k,e):=r.get m;let hl:=r.length;let hn:=LB;let B5:EP X B O Q w s:={(z),H,I,e,q}
 by_cases l:0<=i
 let b :=by
  rw[seqIndex_of l o]at a;show Þ a
 show item_listR d.isList l (by lia) (by rw[b];simpa using k) B5 hs
 let b:(i+c.toArray.size).toNat=j:=by
  rw[seqIndex_neg (by lia) n]at a;grind
 show subscriptTail_builtinR d.isList.typeIs slot_list_getitem.lookup
  (wpAny_getItem_list_neg d.isList (by lia) (by rw[í]<;>lia) (by lia) (by rw[b];simpa using k) {(rfl),B5}) hs
def zqs:G3 X<|Zf X.K:=by
 intro c b k s O H x y v u Q I l m h hs;let(p,xs,i,z,rfl,rfl,f,he,q):=h;cases l;let(t,rfl):=m;let(g,r,d,hz):=I.tuple f;let(j,o,e,A,B,C):=XT he;let(w,n,a):=r.get e;let hl:=r.length;let hn:=LB;let B5:EP X k O Q w s:={(z),H,I,a,q}
 show subscriptTail_builtinR d.typeIs slot_tuple_getitem.lookup
  (getItem_tuple (j:=j) d (by lia) (by lia) (by grind) (by grind) {(rfl),B5}) hs
def zqt:G3 X Zg:=by
 intro b a n s O H x y v u Q I g k h hs;let(z,i,c,rfl,rfl,hz,he,q):=h;let(t,rfl):=g;let(o,rfl):=k;let(j,d,l,m,e,f):=XT he;let hl:z.cps.toList.length=z.length:=by simp[Str.length]
 rw[hl]at d e f;let hn:=LB
 show tail_any (ĭ s z t) slot_str_getitem.lookup (getItem_str (by
  grind) (by grind) {.str {#[c]},H,I.tok _,{_,rfl},q}) hs
def Zi(K:ka):R2:=λx y H Q=>Zh K x y H Q\/Zf K x y H Q\/Zg x y H Q
theorem zqu:G3 X<|Zi X.K:=iE.or<|zqs.or zqt
def zf8(a:ke)(n j )(u ):Obj.mapSeq (·.setIfInBounds j u) { cls:=.type "list",data:=.seq a.toArray n }={ cls:=.type "list",data:=.seq (a.set j u).toArray n }:=by
 simp[Obj.mapSeq]
def Inv.lst{a:List<|Addr×Obj}{O:St}{H:Hp}{s:Shared}{p:Addr}{xs:qC}(I:Inv X a O H s)(h:H p=!(.lst xs)) :
  ∃(its:ke) (n:Nat),Ar xs its/\s.heap.get? p=!{ cls:=.type "list",data:=.seq its.toArray n }/\xs.length<=sizeLine:=by
 let(z,its,n,r,e):=I.hok p _ h;grind
def Inv.lstUpd{O:St}     {c a:ke}   (I:Inv X pz O H s)(h:H p=!(.lst xs))
  (g:s.heap.get? p=!{ cls:=.type "list",data:=.seq c.toArray n }) (d:f { cls:=.type "list",data:=.seq c.toArray n }={ cls:=.type "list",data:=.seq a.toArray n' }) (r:Ar ys a) (hz:ys.length<=sizeLine) (t:Nat) :
  Inv X pz O (upd H p<|.lst ys) { s with heap:=s.heap.update p f,toks:=t }:=by
 let e:(s.heap.update p f).get? p=!{ cls:=.type "list",data:=.seq a.toArray n' }:=by
  rw[ō f g (by rw[d]<;>rfl),d]
 show I.write (by rw[h];trivial) (.inl rfl) (λb u hb q=>(Ċ _ _<|Í hb).trans q) {_,e} ?_;show{(hz),a,n',r,e}
def rSetL:V->V->V->Hp->(Hp->Prop)->Prop:=λo i v H Q=>∃p xs k j,o=.ref p/\i=.int k/\H p=!(.lst xs)/\CY xs.length k=!j/\Q (upd H p<|.lst<|xs.set j v)
def Yn:X9 X rSetL:=by
 intro C s O H o i v B A u Q I x w y h;let(p,xs,k,j,rfl,rfl,f,m,q):=h;cases x;let(t,rfl):=w;let(a,n,r,c,hz):=I.lst f;let(b,z,g,l):=LH m;let hl:=r.length;let hn:=LB
 let d :=
  I.lstUpd f c (zf8 a n j u) (r.set y j) (by rw[Đ];show hz) s.toks
 by_cases e:0<=k
 let hk :=by
  rw[seqIndex_of e l]at b;show Þ b
 show W.ki_setAt c e (by lia) (by grind) (by rw[hk];show{_,d,q})
 let hk:(k+a.toArray.size).toNat=j:=by
  rw[seqIndex_neg (by lia) g]at b;grind
 show W.ki_setBack c (by lia) (by grind) (by lia) (by rw[hk];show{_,d,q})
def zcy(lo hi)(n):(sliceBounds lo hi () n).1=HT.sIx n 0 lo/\(sliceBounds lo hi () n).2.1=HT.sIx n n hi/\(sliceBounds lo hi () n).2.2=1:=by
 show{?_,?_,rfl};cases lo with
 |none=>simp[sliceBounds,HT.sIx]|some i=>
  erw[sliceBounds,HT.sIx,Option.getD_none,Æ];grind
 cases hi with
 |none=>simp[sliceBounds,HT.sIx]|some i=>
  erw[sliceBounds,HT.sIx,Option.getD_none,Æ];grind
def zcg(a:ke)(lo hi):slicePick a.toArray lo hi ()=((a.drop<|HT.sIx a.length 0 lo).take (HT.sIx a.length a.length hi - HT.sIx a.length 0 lo)).toArray:=by
 let(b,c,d):=zcy lo hi a.toArray.size;unfold slicePick;rw[b,c,d];erw[sliceRange_one,pick_run]<;>rfl
def Ze(K:ka):V->kg->kg->Hp->VK->Prop:=λx c b H Q=>∃a xs,x=.ref a/\Ag K H a xs/\∀p,H p=()->Q (.ref p) (upd H p<|.lst<|L6 xs c b)
def zkv:XZ X<|Ze X.K:=by
 intro m s O H x v vl o d e n Q I l hs j k h;let(a,xs,rfl,g,q):=h;cases l;let(i,r,f,hz):=I.list g;let c:=r.length;show{"list",_,slot_list_getitem.lookup,f.isList.typeIs,?_};show wpAny_getItem_list_slice f.isList hs j k .none (by simp) ?_<|by grind
 rw[zcg,<- c];show{.ref s.heap.objs.size,_,I.laid (λb ob q=>Ó _ q) (Ã _) ?_,rfl,q _<|I.hok.fresh<|Ã _};show{Ö (zel xs d e) hz,_,0,(r.drop<|HT.sIx xs.length 0 d).take (HT.sIx xs.length xs.length e - HT.sIx xs.length 0 d),á _ rfl}
def ze1:CQ X (.type "list") (λxs H Q=>∃p ys,xs=[.ref p]/\(Ag X.K H p ys\/CP X.K H p ys)/\∀l,H l=()->Q (.ref l) (upd H l<|.lst ys)):=by
 intro v s O H xs x Q I r h;let(p,ys,rfl,i,q):=h;let(u,rfl,w):=Fw r;cases w
 have B5:∀(a ),Ar ys a->ys.length<=sizeLine->∀(c ) (d ),(∀b t,s.heap.get? b=!t->c.get? b=!t) ->
   c.get? s.heap.objs.size=!{ cls:=.type "list",dict:=(),data:=.seq a.toArray d,slots:=#[] }->EP X v O Q (.ref s.heap.objs.size) { s with heap:=c }:=λa f hz c d kp e=>
  {.ref s.heap.objs.size,_,I.laid kp (Ã _) (show DY X.prog X.w _ c _ (.lst ys) from{(hz),a,d,f,e}),rfl,q _<|I.hok.fresh<|Ã _}
 rcases i with i|i;let(a,f,m,hz):=I.list i;have g:=f.length;let(o,k,j,n,hd):=m.isList;show call_list_seq p (.inl rfl) k j hd (λc d kp e=>B5 a f hz c d kp e)<|by grind
 let(a,f,m,hz):=I.tuple i;have g:=f.length;let(o,k,j,n,hd):=m;show call_list_seq p (.inr rfl) k j hd (λc d kp e=>B5 a f hz c d kp e)<|by grind
def YQ(K:ka)(T:String)(x:V)(H:Hp):Prop:=match x with
 |.str z=>T="str"|.int z=>T="int"|.ref p=>(T="list"/\∃xs,Ag K H p xs)\/(T="tuple"/\∃o,K.lookup p=!o/\o.cls=.type "tuple"/\o.dict=()) \/
   (T="dict"/\((∃a,H p=!(.dK a))\/∃a,H p=!(.dT a)))\/(T="set"/\∃S n,H p=!(.set S n))
 |z=>False
def zni{O:St}{x:V}(I:Inv X pz O H s)(r:Ab x v)(ty:YQ X.K T x H) :
  s.TypeIs v T/\∀a,v=.ref a->∃ob,s.heap.get? a=!ob/\ob.dict=():=by
 cases x with
 |str z=>let(t,rfl):=r;cases (ty);show{ĭ s z t,λϊ e=>nomatch e}
 |int i=>let(t,rfl):=r;cases (ty);show{typeIs_int s i t,λϊ e=>nomatch e}
 |ref p=>
  cases r;rcases ty with ⟨rfl,xs,h⟩|⟨rfl,o,hk,g,hd⟩|⟨rfl,hk⟩|⟨rfl,S,n,hk⟩;let(j,_,f,_):=I.list h;show{f.isList.typeIs,λa e=>?_};cases e;let(o,n,e,c,hd,_):=f;show{(o),e,hd}
  show{{o,I.kIn p o hk,g},λa e=>?_};cases e;show{o,I.kIn _ o hk,hd}
  have z:∃o,s.heap.get? p=!o/\o.ExactDict:=by
   rcases hk with ⟨d,hk⟩|⟨d,hk⟩;let(_,_,_,_,o,_,_,e,ex,_):=I.hok p _ hk;show{(o),e,ex};let(_,_,_,_,o,_,_,e,ex,_):=I.hok p _ hk;show{(o),e,ex}
  let(o,e,ex):=z;show{{(o),e,ex.1},λa b=>?_};cases b;show{(o),e,ex.2.1};let(o,_,_,_,e,ex,_):=I.hok p _ hk;show{{(o),e,ex.1},λa b=>?_};cases b;show{(o),e,ex.2.1}
 |_=>show False.elim ty
def tBM(K:ka)(T:String)(r:V->qC->Hp->VK->Prop)(c:TE)(t:TA):TE:=λO H Q=>c O H λx a=>YQ K T x a/\t O a λxs b=>r x xs b Q
variable {o e:Expr}{es:kh}{to:TE}{t:TA}{name:Str}{apos cpos:Pos}{T id:String}{r:V->qC->Hp->VK->Prop}
def NH(u:PlainAttrs T)(slot:Slot T name id)(f:typeOf (.builtin id)=pure (.type "method_descriptor"))(p:MtR X id r)(q:PE X o to)(ha:PA X (e::es) t)
  (a:attributeBase o name X.env (eval o X.env)=eval o X.env)
  (c : ((backTo cpos<|starEach (e :: es) X.env).all (fun x => (not x.1)) && (backToKw cpos<|keywordEach [] X.env).all (fun x => x.1.isSome)
   && decide ((e::es).length+([]:List Keyword).length+(if ([]:List Keyword).isEmpty then 0 else 1)<30))=true:=by rfl)
  (b:(apos.endLine == cpos.line)=true) (hs:starEach (e::es) X.env=(false,eval e X.env)::starEach es X.env) (d:(backTo cpos<|starEach es X.env).any (·.1)=false) :
  PE X (.Call (.Attribute o name apos) (e::es) [] cpos) (tBM X.K T r to t):=by
 intro g s O H Q I h;show wpAny_Call_method_late a c b rfl<|A6 (q g s O H _ I h) λv y C=>?_
 let(x,l,i,k,ty,w):=C;let(m,n):=zni i k ty;show{T,id,u,slot,f,m,n,?_};let j:=ha cpos g y O l _ i w;rw[hs]at j ⊢;show Calls.callWith_builtin (by grind)<|Calls.evalArgs_plain ?_
 show A6 j λA z ⟨B,H2,I2,r2,q2⟩=>p g z O H2 x B v A Q I2 k r2 q2
end
def Xa(X:Cx)(id:String)(r:V->qC->Hp->VK->Prop):Prop:=
 ∀(a:List<|Addr×Obj) (s:Shared) (O:St) (H:Hp) (x:V) (xs:qC) (v:Value) (b:ke) (Q:VK),Inv X a O H s->Ab x v->Ar xs b->r x xs H Q ->
  wpAny (model X.prog X.w) X.A (call (.builtin id)<|v::b) (EP X a O Q) X.xe s
def Ar.one:∀{x} {us},Ar [x] us->∃u,us=[u]/\Ab x u
 |_,_,.cons r .nil=>{_,rfl,r}
def Ar.rep(h:Ar xs us):∀k ,Ar (List.replicate k xs).flatten (List.replicate k us).flatten
 |0=>.nil|k+1=>by
  show Ar.append h<|Ar.rep h k
def jH(its):∀(k) (acc:ke),
  List.foldl (λx1 x2=>x1++x2) acc.toArray (List.replicate k its.toArray)=(acc++(List.replicate k its).flatten).toArray
 |0,acc=>by simp|k+1,acc=>by
  let e:acc.toArray++its.toArray=(acc++its).toArray:=by simp
  let a:(acc++its)++(List.replicate k its).flatten=acc++(List.replicate (k+1) its).flatten:=by
   grind
  rw[<- a,<- jH its k<|acc++its,<- e,List.replicate_succ,List.foldl_cons]
section
variable {X:Cx}{pz:List<|Addr×Obj}{O:St}{H:Hp}{s:Shared}{l b:Addr}{xs ys zs:qC}
def Inv.lset{b a:ke}(I:Inv X pz O H s)(c:H l=!(.lst xs))
  (e:s.heap.get? l=!{ cls:=.type "list",data:=.seq b.toArray n }) (d:f b.toArray=a.toArray) (hv:Ar ys a) (hz:ys.length<=sizeLine) :
  Inv X pz O (upd H l<|.lst ys) { s with heap:=s.heap.update l<|Obj.mapSeq f,toks:=t' }:=by
 let q:=PySem.IsL.update e f;rw[d]at q;show I.write (by rw[c];show trivial) (.inl rfl) (λg u hb hu=>(Ċ s.heap (Obj.mapSeq f)<|Í hb).trans hu) {_,q} ?_;show{hz,a,_,hv,q}
theorem Inv.lnew(I:Inv X pz O H s)(hv:Ar ys its)(hz:ys.length<=sizeLine) :
  Inv X pz O (upd H s.heap.objs.size<|.lst ys) { s with heap:=s.heap.push { cls:=.type "list",data:=.seq its.toArray },toks:=t' }:=
 I.laid (λϊ z q=>Ó _ q) (Ã _) {hz,its,0,hv,á _ rfl}
def Inv.fresh(I:Inv X pz O H s):H s.heap.objs.size=():=I.hok.fresh<|Ã _
def Inv.lstM(I:Inv X pz O H s)(a:H l=!(.lst xs)):xs.length<=sizeLine/\∃(its:ke) (n:Nat),Ar xs its/\xs.length=its.length/\s.heap.get? l=!{ cls:=.type "list",data:=.seq its.toArray n }:=by
 let(z,its,n,r,e):=I.hok l _ a;show{(z),its,n,r,r.length,e}
def fH(h:n<=sizeLine):Builtin.List.listTooLong n=false:=by
 show Õ<|by lia
end
section
variable {X:Cx}
def zle:V->qC->Hp->VK->Prop:=λx a H Q=>∃l xs y,x=.ref l/\a=[y]/\H l=!(.lst xs)/\xs.length<sizeLine/\Q .non (upd H l<|.lst<|xs++[y])
def fQ:Xa X "list.append" zle:=by
 intro g s O H x j v i Q I f d h;let(l,xs,y,rfl,rfl,b,hz,q):=h;cases f;let(u,rfl,c):=d.one;let(z,a,n,r,hl,e):=I.lstM b;show Ņ F.slot_list_append {_,e,rfl} F.entry_list_append (F.args_list_append_2 _ _) (PySem.list_append l a.toArray n u<|by grind) {e,?_}
 show{.non,_,I.lset b e (by simp) (r.append<|.cons c .nil) ?_,rfl,q};grind
def zld:V->qC->Hp->VK->Prop:=λx c H Q=>∃l b xs a,x=.ref l/\c=[.ref b]/\H l=!(.lst xs)/\H b=!(.lst a)/\xs.length+a.length<=sizeLine/\Q .non (upd H l<|.lst<|xs++a)
def zgi:Xa X "list.extend" zld:=by
 intro w s O H x A v y Q I t p h;let(l,b,xs,C,rfl,rfl,g,j,hz,q):=h;cases t;let(u,rfl,o):=p.one;cases o;let(z,c,n,r,hl,e):=I.lstM g;let(B,a,n2,m,k,i):=I.lstM j;let f:c.toArray.size+a.toArray.size<=sizeLine:=by grind
 let d:¬ ((not c.toArray.isEmpty) && Builtin.List.listTooLong (c.toArray.size+a.toArray.size))=true:=by
  rw[fH f];simp
 show Ņ F.slot_list_extend {_,e,rfl} F.entry_list_extend (F.args_list_extend_2 _ _)
  (AutoSeq1.list_extend_list_list_0 l c.toArray n b a.toArray n2 d (by lia)<|by lia) {e,i,?_}
 show{.non,_,I.lset g e (by simp) (r.append m) ?_,rfl,q};grind
def rCat:R2:=λx y H Q=>∃l b xs a,x=.ref l/\y=.ref b/\H l=!(.lst xs)/\H b=!(.lst a)/\xs.length+a.length<=sizeLine/\∀p,H p=()->Q (.ref p) (upd H p<|.lst<|xs++a)
def zpq:Ay X (binaryOp .Add) rCat:=by
 intro p s O H x y v u Q I m o h;let(l,b,xs,w,rfl,rfl,i,g,hz,q):=h;cases m;cases o;let(z,c,n,r,hl,e):=I.lstM i;let(t,a,n2,k,j,d):=I.lstM g;show PySem.P.add_list e d ?_<|by grind
 let f:c.toArray++a.toArray=(c++a).toArray:=by simp
 rw[f];show{.ref _,_,I.lnew (r.append k) (by grind),rfl,q _ I.fresh}
def rRep:R2:=λx y H Q=>∃l k xs,x=.ref l/\y=.int k/\H l=!(.lst xs)/\-(2 ^ 63)<=k/\k<2 ^ 63/\xs.length * k.toNat<=sizeLine /\
 ∀p,H p=()->Q (.ref p) (upd H p<|.lst (List.replicate k.toNat xs).flatten)
def zml{α:Type}(xs:List α)(k):(List.replicate k xs).flatten.length=k * xs.length:=by
 simp
def zpm:Ay X (binaryOp .Mult) rRep:=by
 intro D s O H x y v u Q I w A h;let(l,k,xs,rfl,rfl,p,j,o,hz,q):=h;cases w;let(t,rfl):=A;let(z,b,n,r,hl,e):=I.lstM p;let g:b.toArray.size * k.toNat<=sizeLine:=by rw[í,<- hl];show hz
 let d:¬ b.toArray.size * k.toNat > (2 ^ 63 - 1) / 8:=by
  let:sizeLine<=(2 ^ 63 - 1) / 8:=by decide
  lia
 let f:¬ (not (Builtin.List.listFitsIndex k))=true:=by
  rw[fitsIndex_both j o];show ć
 let c:¬ Builtin.List.listTooLong (b.toArray.size * k.toNat)=true:=by
  rw[fH g];show ć
 let i:List.foldl (λC x2=>C++x2) #[] (List.replicate (if b.toArray.isEmpty=true then 0 else k.toNat) b.toArray)=(List.replicate k.toNat b).flatten.toArray:=by
  let f0 :=λm=>by
   let:=jH b m [];rw[ĵ]at this;show this
  rw[f0];cases b with
  |nil=>simp|cons a E=>rw[if_neg<|by simp]
 show wpAny_binaryOp_repeat_ref (by decide) {_,e,rfl} (λB=>typeIs_int B k t) noFill_list_mul F.fills_int_mul F.slot_int_rmul repeat_list F.slot_int_index.lookup
  (Ņ F.slot_int_rmul (typeIs_int s k t) F.entry_int_rmul (F.args_int_rmul_2 _ _) (int___rmul___int_list k t l b.toArray n)
   {e,rfl,{_,e,rfl},Ņ F.slot_list_mul {_,e,rfl} F.entry_list_mul (F.args_list_mul_2 _ _) (AutoListH.list___mul___list_int_3 l b.toArray n k t f d c) {e,?_}})
 rw[i];show{.ref _,_,I.lnew (r.rep k.toNat) (by rw[zml,Nat.mul_comm];show hz),rfl,q _ I.fresh}
variable {prog:Program}{w:World}{A:Around}{E:Value->Shared->Prop}{s:Shared}
end
section
variable {X:Cx}
end
end L2
namespace Att
open PySem PySem.W PySem.Calls PyProof.Rows
def zbj:∀(ns) (vs),WellAll P h vs (ns.map WData.int)->IntsAre vs ns:=by
 intro ns
 induction ns with
 |nil=>intro vs w;cases w;show .nil|cons n ns c=>
  intro vs w;cases w with
  |cons a b=>cases a;show .cons _ _<|c _ b
def zg9{l:OpenLaw}(hn:l.most=!n)
  (b:l.row.toRowW.claim.pre args=true) (g:WellAll P h vals args) :
  ∃a vs ns,vals=[Value.ref a]/\args=[WData.list<|ns.map WData.int]/\h.get? a=!{ cls:=.type "list",data:=.seq vs.toArray }/\IntsAre vs ns/\ns.length<=n:=by
 let f :=(pre_splitW b).1;let o:l.pre.holds [] { args:=args }=true:=(pre_splitW b).2;let(d,r,rfl,j,k):=hasAllW_cons f;obtain rfl:=hasAllW_nil k;let(xs,rfl,m):=hasW_list j;let(ns,rfl):=items_int m
 let e:ns.length<=n:=by
  let i:(WTm.not<|.lt (.lit<|.int n)<|.len<|.arg 0).holds [] { args:=[.list<|ns.map .int] }=true:=by
   let i:=(holds_andW o).1;grind
  let t:=condW_of i<|w_not<|w_lt w_lit<|w_len_list<|w_arg rfl
  grind
 cases g with
 |cons q s=>
  cases s;cases q with
  |list p c=>show{_,_,ns,rfl,rfl,p,zbj ns _ c,e}
def zga(l:OpenLaw)(args):l.row.toRowW.claim.post args (.bool true) args=true:=
 postW_of
  (by rfl)
  (w_eq_bool (w_res rfl) w_lit) rfl
def attach_call{l:OpenLaw}
  (hn:l.most=!n) (i:d.params.defaults=[])
  (call : ∀ (w ) (s₀ s₁ ) (mg mb ) (fa ) (o ) (pm cd doc ) (a ) (vs ) (ns ),
   Ground q loose [] XP w s₀ mg mb s₁.heap->YP w s₁.heap ->
   s₁.heap.get? fa=!o->o.data=.func (docDef d.name d.params d.body d.scope pm cd doc)->s₁.heap.CodeRec cd d.name->mg d.name=!(.ref fa) ->
   s₁.heap.get? a=!{ cls:=.type "list",data:=.seq vs.toArray }->IntsAre vs ns->ns.length<=n->s₁.gens=#[] ->
   codeAny (model l.prog w) callerA (.call (.ref fa) {[.ref a],[]}) (λr s'=>r=.ok (.ret<|.bool true)/\OldK s₁.heap s'.heap/\s'.os=s₁.os/\AllBare s'.gens) s₁) :
  WalkO q loose XP YP l.row.toRowW d [] (λf vs=>PySem.call f vs):=by
 intro w s₀ s₁ mg mb G τ fa o pm cd doc u kV C hd h p j z m t F g s E k A;obtain rfl:u=.none:=Dflts.none p i;obtain rfl:kV=.none:=Dflts.noKw p;let(a,vs,ns,rfl,rfl,e,b,c):=zg9 hn g k;show enter_call<|ġ (call w s₀ s₁ mg mb fa o pm cd doc a vs ns G τ C (fd_plain hd) h j e b c z) λr s' D=>?_
 let(rfl,v,x,y):=D;show{.inl {.bool true,.bool true,[],rfl,λϊ=>rfl,.bool true,zga l _,λϊ=>{List.Pairwise.nil,λϊ B=>(nomatch B)}},v,x,y}
section
variable {prog:Program}{w:World}{A:Around}{E:Value->Shared->Prop}{s:Shared}{K:Frag}
end
end Att
namespace L2
open PySem PySem.Spec PyProof.Rows
def YJ:∀{vs} {ns},IntsAre vs ns->Ar (ns.map V.int) vs
 |_,_,.nil=>.nil|_,_,.cons n t h=>.cons {(t),rfl}<|YJ h
def Pq(H:Hp):Prop:=∀b,H b=()\/∃o xs,H b=!(.frz o<|.lst xs)
def zji{K }   {k:Nat}   {x:Str}{sp:Sp}
  (G:K.In s₁.heap) (l:s₁.heap.Ns mainGlobals mg) (hb:s₁.heap.Ns builtinsNs mb) (D:∀x:Str,x≠"__name__"->mb x=bootBuiltins x) (j:s₁.heap.NoLimit) (U:s₁.gens=#[])
  (ha:s₁.heap.get? a=!{ cls:=.type "list",data:=.seq vs.toArray }) (hi:IntsAre vs ns) (hl:ns.length<=sizeLine) (hr:Room k callerA)
  (F:∀base:Heap,K.In base->base.Ns mainGlobals mg->FnOk P w K mg base CX k fa fd [x] sp) (hbind:∀(s:Shared) (u:Value),BindsTo s fd {[u],[]} [(x,u)])
  (hsp:∀H:Hp,Pq H->Ag K H a (ns.map V.int)->sp [.ref a] H (λv ϊ=>v=.bl true) λϊ ϊ ϊ=>False)
  (hCX:∀H e s',CX [] H s₁ (λϊ ϊ ϊ=>False) e s'->False) :
  codeAny (model P w) callerA (.call (.ref fa) {[.ref a],[]}) (λr s'=>r=.ok (.ret<|.bool true)/\OldK s₁.heap s'.heap/\s'.os=s₁.os/\AllBare s'.gens) s₁:=by
 let M:=YJ hi;let t:=hi.length
 let g:∀H ,Pq H->Ag K H a (ns.map V.int)->HOk P w H s₁.heap->(∀b,H b≠()->b=a)->(H a≠()->K.lookup a=()) ->
   codeAny (model P w) callerA (.call (.ref fa) {[.ref a],[]}) (λr s'=>r=.ok (.ret<|.bool true)/\OldK s₁.heap s'.heap/\s'.os=s₁.os/\AllBare s'.gens) s₁:=by
  intro H L T hok J R;let c:∀{b } {o },s₁.heap.get? b=!o->H b=()->(Hl s₁.heap H).get? b=!o:=λe n=>zjn e n
  let E:∀{b } {o } {B } {A },s₁.heap.get? b=!o->o.data=.dict B A->H b=():=λ{b o B A} e d=>by
   cases q:H b with
   |none=>rfl|some u=>
    let C :=J b (by rw[q];simp);subst C;rw[ha]at e;cases e;let N :=d;cases N
  let f:∀{b } {m },s₁.heap.Ns b m->(Hl s₁.heap H).Ns b m:=λ{b m} ⟨o,B,A,e,d,r⟩=>{o,B,A,c e<|E e d,d,r}
  let i :=λb o e=>c (G b o e) (by
   cases q:H b with
   |none=>rfl|some u=>
    let C :=J b (by rw[q];simp)
    subst C;rw[R (by rw[q];simp)]at e;cases e)
  let S:Mod K mg<|Hl s₁.heap H:={i,f l,{mb,f hb,D},let ⟨mc,h1,h2⟩:=j;{mc,f h1,h2}};let O:Env0 P w K mg (Hl s₁.heap H) callerA [] s₁ H:={rfl,S,λb o e=>zmb e,Nat.le_of_eq<|zgr _ _,trivial,λb hb=>absurd (show b∈[] from hb) (by simp),hok,.of_eq U}
  show ġ ((F _ i<|f l).run callerA [] s₁ H {[.ref a],[]} [.ref a] [.ref a] _ _ hr O (hbind s₁<|.ref a) (.cons rfl .nil) (hsp H L T)) λr s' h=>?_;cases r with
  |error e=>show(hCX H e s' h).elim|ok fl=>
   cases fl with
   |next=>show False.elim h|brk=>show False.elim h|cont=>show False.elim h|ret u=>
    let(v,Z,os,bare,un,p,X,q):=h;let W :=q;subst W;obtain rfl:u=Value.bool true:=X;show{rfl,OldK.of_keep λb o e=>?_,os,bare}
    cases q:H b with
    |none=>show un.keep b o e q (by intro z;show absurd (show b∈[] from z)<|by simp) (by simp)|some u=>
     rcases L b with z|⟨ob,xs,z⟩;rw[q]at z;cases z;let Y:=un.frzs b ob _ z;let(I,_):=hok b _ z;let(Q,_):=p b _ Y;rw[e]at I;cases I;show Q
 cases hk:K.lookup a with
 |some o=>let e:=G a o hk;rw[ha]at e;cases e;show g (λϊ=>()) (λϊ=>.inl rfl) (.inr {_,vs.toArray,_,hk,rfl,rfl,rfl,by rw[í,t];show hl,by simpa using M}) (λb u z=>by let y :=z;cases y) (λb z=>absurd rfl z) λz=>absurd rfl z|none=>
  show g (λb=>if b=a then ↑(.frz { cls:=.type "list",data:=.seq vs.toArray }<|.lst<|ns.map V.int) else ()) (λb=>?_) (.inl<|.inr {{ cls:=.type "list",data:=.seq vs.toArray },if_pos rfl}) (λb u z=>?_) (λb z=>?_) λϊ=>hk;by_cases hb:b=a;show .inr {_,_,if_pos hb};show .inl<|if_neg hb
  by_cases hb:b=a;let y:=(if_pos hb).symm.trans z;cases y;subst hb;show{ha,by rw[À];show hl,vs,_,M,ha};let y:=(if_neg hb).symm.trans z;cases y;by_cases hb:b=a;show hb;show absurd (if_neg hb) z
def walk_of{l:PySem.W.OpenLaw}{n k:Nat}     {d:DefRec}{K:Params->ka}{CX:World->G4}{sp:World->Sp}{x:Str}
  (hn:l.most=!n) (r:n<=sizeLine) (m:d.params.defaults=[]) (hr:Room k callerA)
  (D:∀(w:World) (h:Heap),YP w h->(K w.params).In h)
  (F : ∀ (w : World) (mg ) (fa : Addr) (h : Heap), (K w.params).In h -> h.Ns mainGlobals mg -> mg d.name = !(.ref fa) ->
   ∃fd:FuncData,(∀(s:Shared) (u:Value),BindsTo s fd {[u],[]} [(x,u)]) /\
    ∀base:Heap,(K w.params).In base->base.Ns mainGlobals mg->FnOk l.prog w (K w.params) mg base (CX w) k fa fd [x] (sp w))
  (t:∀(w:World) (H:Hp) (a:Addr) (ns:ku),ns.length<=n->Pq H->Ag (K w.params) H a (ns.map V.int)->sp w [.ref a] H (λv Z=>v=.bl true) λϊ Z Z=>False)
  (j:∀(w:World) (H:Hp) (s:Shared) (e:Value) (s':Shared),CX w [] H s (λϊ Z Z=>False) e s'->False) :
  PySem.W.WalkO q loose XP YP l.row.toRowW d [] (λf vs=>PySem.call f vs):=by
 show Att.attach_call hn m λw s₀ i mg L fa o M cd z a vs ns G τ J hd E p g c b I=>?_;let y:=D w _ τ;let(fd,hb,A):=F w mg fa _ y G.T.g p;show zji y G.T.g G.T.b G.T.builtins G.T.nolimit I g c (Ö b r) hr A hb (λH B C=>t w H a ns b B C) λH e s'=>j w H i e s'
def O8(s:Stmt):Arguments:=match s with
 |.FunctionDef z a y x w ώ Ϗ ϐ ϑ ϒ=>a|z=>{ posonlyargs:=[],args:=[],vararg:=(),kwonlyargs:=[],kw_defaults:=[],kwarg:=(),defaults:=[] }
def Hq(s:Stmt):kj:=match s with
 |.FunctionDef z y b x w ώ Ϗ ϐ ϑ ϒ=>b|z=>[]
def Ds(s:Stmt):Scope:=match s with
 |.FunctionDef z y x w ώ Ϗ a ϐ ϑ ϒ=>a|z=>{ kind:=.function,names:=[],isGenerator:=false,isCoroutine:=false }
abbrev MH:G4:=λϊ z z z z z=>False
abbrev E0:XK:=λϊ z z=>False
section
variable {P:Program}{w:World}{K:ka}{mg:Str->Option Value}{base:Heap}
variable {X:Cx}
end
def LJ{A B:Prop}(h:B):if false=true then A else B:=by
 grind
def LI{A B:Prop}(h:A):if true=true then A else B:=by
 rw[if_pos rfl];show h
def Ah(H H':Hp):Prop:=∀b o,H b=!o->H' b=!o
theorem Ah.refl(H:Hp):Ah H H:=λϊ z h=>h
theorem Ah.trans(a:Ah H H1)(b:Ah H1 H2):Ah H H2:=λc o h=>b c o<|a c o h
def Ah.seq{K}(e:Ah H H')(h:Ag K H a xs):Ag K H' a xs:=by
 rcases h with (h|⟨o,h⟩)|h;show .inl<|.inl<|e _ _ h
 show .inl<|.inr {o,e _ _ h}
 show .inr h
section
variable {κ:Type} [DecidableEq κ]
def Et(a:List<|κ×V)(k:κ):Option V:=(a.find? λb=>decide (b.1=k)).map (·.2)
def EH(a:List<|κ×V)(k:κ)(v:V):List<|κ×V:=
 if (a.any λb=>decide (b.1=k))=true then a.map (λb=>if b.1=k then (b.1,v) else b) else a++[(k,v)]
def MZ{k:κ}(e:p.1=k):Et (p::r) k=!p.2:=by simp[Et,e]
def M0{k:κ}(e:¬ p.1=k):Et (p::r) k=Et r k:=by simp[Et,e]
def YK(k:κ):∀kvs ,(kvs.any λkv=>decide (kv.1=k))=(Et kvs k).isSome
 |[]=>rfl|p::r=>by
  rw[ĝ];by_cases e:p.1=k;erw[MZ e,Ä e,Bool.true_or,Option.isSome_some];rw[M0 e,Õ e];show YK k r
def gX(kvs)(k:κ)(v):(EH kvs k v).length<=kvs.length+1:=by
 unfold EH;grind
def E8.isSome_eq(r:E8 o u):o.isSome=u.isSome:=by
 cases o with
 |none=>cases u with
  |none=>rfl|some z=>show(r).elim
 |some z=>cases u with
  |none=>show(r).elim|some z=>rfl
def KV.val(r:KV kvs vs)(k:κ):E8 (Et kvs k)<|valueAt vs k:=by
 induction r with
 |nil=>show True.intro|@cons p q ps c h t g=>
  let(d,f):=h;by_cases e:p.1=k;let a :=d.symm.trans e;let b:valueAt (q::c) k=!q.2:=by simp[valueAt,a]
  rw[MZ e,b];show f;let a:¬ q.1=k:=λz=>e<|d.trans z
  let b:valueAt (q::c) k=valueAt c k:=by simp[valueAt,a]
  rw[M0 e,b];show g
def KV.any(r:KV kvs vs)(k:κ):(kvs.any λkv=>decide (kv.1=k))=vs.any λkv=>decide (kv.1=k):=by
 induction r with
 |nil=>rfl|cons h t a=>grind
def KV.repl(r:KV kvs vs)(k:κ)(c:Ab y u) :
  KV (kvs.map λkv=>if kv.1=k then (kv.1,y) else kv) (vs.map λkv=>if kv.1=k then (kv.1,u) else kv):=by
 induction r with
 |nil=>show .nil|@cons p q ps b h t a=>
  show .cons ?_ a;grind
def KV.put(r:KV kvs vs)(k:κ)(a:Ab y u):KV (EH kvs k y)<|stored vs k u:=by
 unfold EH stored;rw[r.any k];by_cases e:(vs.any λb=>decide (b.1=k))=true;rw[if_pos e,if_pos e];show r.repl k a;rw[if_neg e,if_neg e];show Paired.snoc r {(rfl),a}
def KV.length{a:List<|κ×V}(r:KV a vs):a.length=vs.length:=ş r
end
def VG(r:Ab (kV k) u):(DQ P w).is k u=true:=by
 cases k with
 |inl i=>let(t,e):=(r);subst e;show ze4 P w i t
 |inr x=>let(t,e):=(r);subst e;show ze3 P w x t
def iK:∀{ks} {us},Ar (ks.map kV) us->ItemsAre (DQ P w) ks us
 |[],z,r=>by cases r;show .nil|k::ks,z,r=>by
  cases r with
  |cons h t=>show .cons (VG h)<|iK t
abbrev KT(H:Hp):List (List Key×V)->List (List Key×Addr×Value)->Prop:=Paired λp q=>p.1=q.1/\H q.2.1=!(.tup<|p.1.map kV)/\Ab p.2 q.2.2
def KT.val(r:KT H kvs xs)(k):E8 (Et kvs k) ((atKey xs k).map (·.2)):=by
 induction r with
 |nil=>show True.intro|@cons p q ps c h t g=>
  let(d,_,f):=h;by_cases e:p.1=k;let a :=d.symm.trans e;let b:atKey (q::c) k=!q.2:=by simp[atKey,a]
  rw[MZ e,b];show f;let a:¬ q.1=k:=λz=>e<|d.trans z
  let b:atKey (q::c) k=atKey c k:=by simp[atKey,a]
  rw[M0 e,b];show g
def KT.repl(r:KT H kvs xs)(k)(c:Ab y u) :
  KT H (kvs.map λkv=>if kv.1=k then (kv.1,y) else kv) (xs.map<|putAt k u):=by
 induction r with
 |nil=>show .nil|@cons p q ps b h t a=>
  show .cons ?_ a;unfold putAt;grind
def KT.put{H:Hp}(r:KT H kvs xs)(k:List Key){y:V}(hb:H b=!(.tup<|k.map kV))(a:Ab y u) :
  KT H (EH kvs k y) (storedH xs k b u):=by
 let e:(kvs.any λc=>decide (c.1=k))=(atKey xs k).isSome:=by
  rw[YK,(r.val k).isSome_eq,Option.isSome_map]
 unfold EH storedH;rw[e];by_cases q:(atKey xs k).isSome=true;rw[if_pos q,if_pos q];show r.repl k a;rw[if_neg q,if_neg q];show Paired.snoc r {(rfl),hb,a}
theorem KT.keeps(r:KT H kvs xs)(a:∀b ys,H b=!(.tup ys)->H' b=!(.tup ys)):KT H' kvs xs:=
 Paired.mapP r λϊ y z=>{z.1,a _ _ z.2.1,z.2.2}
section
variable {P:Program}{w:World}{H:Hp}{h:Heap}{a:Addr}
theorem ZU{u:HO}(ok:HOk P w H h)(e:Rd H a u):DY P w H h a u:=e.ok ok
theorem O5(ok:HOk P w H h)(e:Rd H a<|.dK kvs):kvs.length<=sizeLine/\(a == sysModules)=false/\∃vs,KV kvs vs/\h.DictOf (DQ P w) a vs:=
 ZU ok e
theorem mB(ok:HOk P w H h)(e:H a=!(.dK kvs)):kvs.length<=sizeLine/\(a == sysModules)=false/\∃vs,KV kvs vs/\h.DictOf (DQ P w) a vs:=O5 ok<|.inl e
def VF(ok:HOk P w H h)(e:H a=!(.tup<|ks.map kV)):(tupleKind<|DQ P w).is h ks a:=by
 let(_,b,r,o,c,d,n,f):=(ok a _ e);show{o,b.toArray,n,c,d,f,by simpa using iK r}
def l8(ok:HOk P w H h)(e:Rd H a<|.dT kvs):kvs.length<=sizeLine/\(a == sysModules)=false /\
  ∃xs,KT H kvs xs/\h.DictOfH (tupleKind<|DQ P w) a xs:=by
 let(z,y,xs,r,o,d,c,f,g,i,j,k):=(ZU ok e);show{z,y,xs,r,o,d,c,f,g,i,j,λx b=>?_,k}
 have all:∀{l } {m },KT H l m->∀x∈m,(tupleKind<|DQ P w).is h x.1 x.2.1:=by
  intro l m q
  induction q with
  |nil=>simp|@cons p q ps u n t s=>
   intro x b;rcases(Ð.mp b) with e|b;show VF ok<|by grind
   grind
 grind
theorem dt_of(ok:HOk P w H h)(e:H a=!(.dT kvs)):kvs.length<=sizeLine/\(a == sysModules)=false /\
  ∃xs,KT H kvs xs/\h.DictOfH (tupleKind<|DQ P w) a xs:=l8 ok<|.inl e
end
def nX(H:Hp)(a:Addr)(y:V)(r:Option V):Prop:=
 (∃c k,Rd H a (.dK c)/\y=kV k/\r=Et c k)\/∃c k b,Rd H a (.dT c)/\y=.ref b/\H b=!(.tup<|k.map kV)/\r=Et c k
def Px(H:Hp)(a:Addr)(y v:V)(H':Hp):Prop:=
 (∃c k,H a=!(.dK c)/\y=kV k/\c.length<sizeLine/\H'=upd H a (.dK<|EH c k v)) \/
 ∃c k b,H a=!(.dT c)/\y=.ref b/\H b=!(.tup<|k.map kV)/\c.length<sizeLine/\H'=upd H a (.dT<|EH c k v)
theorem Px.k{k}(e:H a=!(.dK kvs))(hl:kvs.length<sizeLine):Px H a (kV k) v<|upd H a<|.dK<|EH kvs k v:=.inl {(kvs),k,e,rfl,hl,rfl}
section
variable {X:Cx}{pz:List<|Addr×Obj}{O:St}{H:Hp}{s:Shared}{a:Addr}{y v:V}{u r:Value}{o:Option V}{A:Around}{E:Value->Shared->Prop}
def Inv.big(I:Inv X pz O H s):sysModules<s.heap.objs.size:=by
 let h :=(I.mod.glob.keeps I.bk).lt;show Ğ (by decide) h
def zhg(hu:A.units+1<cLine)(I:Inv X pz O H s)(g:nX H a y !v)(o:Ab y u)(h:∀w' s',Inv X pz O H s'->Ab v w'->Q w' s') :
  wpAny (model X.prog X.w) A (getItem (.ref a) u) Q E s:=by
 rcases g with ⟨n,k,e,i,l⟩|⟨n,k,b,e,i,eb,l⟩;subst i;let(z,hd,r,c,f):=O5 I.hok e;let(w',m,d):=E8.some_of (by rw[l];show c.val k)
 show wpAny_getItem_of (VG o) f.mapOf m<|h w' _ (I.tok _) d
 subst i;cases (o);let(z,hd,xs,c,f):=l8 I.hok e;let(w',m,d):=E8.some_of (by rw[l];show c.val k)
 let(p,q,j):=Ø.mp m;show wpAny_getItem_heap (tupleKind_room_in1 hu) (VF I.hok eb) f q ?_;rw[j];show h w' _ (I.tok _) d
theorem WM(I:Inv X pz O H s)(mu:MF<|H a)(hs:Heap.SameBut a s.heap h')(he:∃q,h'.get? a=!q)(new:DY X.prog X.w (upd H a ob) h' a ob) :
  Inv X pz O (upd H a ob) { s with heap:=h',toks:=t' }:=
 I.write mu (.inl rfl) (λb q hb z=>(hs.2 b hb).trans z) he new
theorem WJ(z:kvs.length<=sizeLine)(hd:(a == sysModules)=false)(b:KV kvs vs)(dd:h'.DictOf (DQ P w) a vs) :
  DY P w H' h' a (.dK kvs):={(z),hd,vs,b,dd}
def zhf(hu:A.units+1<cLine)(I:Inv X pz O H s)(g:Px H a y v H')(x:Ab y u)(w:Ab v r)(h:∀s',Inv X pz O H' s'->Q Unit.unit s') :
  wpAny (model X.prog X.w) A (setItem (.ref a) u r) Q E s:=by
 rcases g with ⟨d,k,e,o,l,n⟩|⟨d,k,b,e,o,eb,l,n⟩;subst o n;let(z,hd,K,f,m):=mB I.hok e;let hz:K.length<=sizeLine:=by rw[<- f.length];show z
 let hl:(EH d k v).length<=sizeLine:=by let:=gX d k v;lia
 show wpAny_setItem_pairs (VG x) m λt i hs=>h _ ?_;let he:∃q,t.get? a=!q:=let ⟨q,_,_,j,_⟩:=i;{(q),j};show WM I (by rw[e];show True.intro) hs he<|WJ hl hd (f.put k w) i
 subst o n;cases (x);let(z,hd,xs,f,m):=dt_of I.hok e;let hz:xs.length<=sizeLine:=by rw[<- ş f];show z
 let hl:(EH d k v).length<=sizeLine:=by let:=gX d k v;lia
 show wpAny_setItem_heap (tupleKind_room_in1 hu) (VF I.hok eb) m λt i hs=>h _ ?_;let(q,C,B,j,D,F,G,_,J):=i;show WM I (by rw[e];show True.intro) hs {(q),j} {hl,hd,_,(f.put k eb w).keeps λc L p=>?_,q,C,B,j,D,F,G,J};rw[BF<|ne_of p e<|λz=>nomatch z];show p
variable {kvs:List<|Key×V}{k:Key}
end
section
variable {X:Cx}{o i e value:Expr}{pos pos' tpos:Pos}{td ty tv:TE}
end
theorem zjz(h:Heap)(hb:sysModules<h.objs.size):DY P w H (h.push { cls:=.type "dict",data:=.dict #[]}) h.objs.size<|.dK []:=
 {ø _,beq_eq_false_iff_ne.mpr<|Í<|Ô hb,[],.nil,Heap.DictOf.new h}
section
variable {X:Cx}{pos:Pos}
variable {pz:List<|Addr×Obj}{O:St}{H:Hp}{s:Shared}{a:Addr}{y d:V}{u r:Value}{o:Option V}{A:Around}{E:Value->Shared->Prop}
end
section
variable {X:Cx}{o e f:Expr}{apos cpos:Pos}{td ty tx:TE}
end
section
variable {X:Cx}{pz:List<|Addr×Obj}{O:St}{H:Hp}{s:Shared}{a:Addr}{kvs:List<|Key×V}{A:Around}{E:Value->Shared->Prop}
def zk0(I:Inv X pz O H s)(e:Rd H a<|.dK kvs)(h:∀p s',H p=()->Inv X pz O (upd H p<|.dK kvs) s'->Q (.ref p) s'):wpAny (model X.prog X.w) A (call (.type "dict") [.ref a]) Q E s:=by
 let(z,hd,j,c,g):=O5 I.hok e;show kt_call_dict hd g (by rw[<- c.length];show z) λi d hs=>?_;show h _ _ (I.hok.fresh<|Ã _)<|I.laid (λb q f=>?_) (Ã _)<|WJ z (beq_eq_false_iff_ne.mpr<|Í<|Ô I.big) c d
 show(hs.2 b<|Ô<|Ç f).trans (Ó _ f)
variable {y:V}{u:Value}
end
end L2
namespace Zm
def zjx(a b):Int.gcd b (a.fmod b)=Int.gcd a b:=by
 rw[Int.fmod_def,Int.gcd_comm a b];simp
def fmod_less(a:Int)(h:b≠0):(a.fmod b).natAbs<b.natAbs:=by
 rcases Int.lt_or_gt_of_ne h with hb|hb;let e:a.fmod b=-((-a).fmod (-b)):=by rw[Int.neg_fmod_neg,Int.neg_neg]
 let c:=ė (-a)<|show 0 < -b by lia
 let d:=Œ (-a)<|show 0 < -b by lia
 lia;let c:=ė a hb;let d:=Œ a hb
 lia
def gd(a b:Int):Int:=(Int.gcd a b:Nat)
def gd_end(c:gd a b=gd a0 b0)(hb:b=0):(if a<0 then -a else a)=gd a0 b0:=by
 subst hb;rw[<- c];unfold gd;rw[Int.gcd_zero_right];lia
def gd_turn(c:gd a b=gd a0 b0):gd b (a.fmod b)=gd a0 b0:=by
 rw[<- c];unfold gd;rw[zjx]
def gd_abs(a b):gd (if a<0 then -a else a) (if b<0 then -b else b)=gd a b:=by
 unfold gd
 let c:Int.gcd (if a<0 then -a else a) (if b<0 then -b else b)=Int.gcd a b:=by
  split<;>split<;>simp[Int.gcd_neg]
 rw[c]
def gd_pos{a b:Int}(h:b≠0):0<gd a b:=by
 unfold gd;simp_all
def gd_le(h:0<b):gd a b<=b:=by
 show Int.le_of_dvd h<|Int.gcd_dvd_right a b
def lt(t b:Int):Int:=t.fdiv<|gd t b
def lb(t b:Int):Int:=b.fdiv<|gd t b
def lN{x g:Int}(a:g≠0)(h:g ∣ x):x.fdiv g * g=x:=by
 rw[ç];show Int.mul_fdiv_cancel' h
def lt_mul(h:b≠0):lt t b * gd t b=t:=by
 show lN (by let:=gd_pos (a:=t) h;lia)<|Int.gcd_dvd_left t b
def lb_mul(h:b≠0):lb t b * gd t b=b:=by
 show lN (by let:=gd_pos (a:=t) h;lia)<|Int.gcd_dvd_right t b
def lb_pos(h:0<b):0<lb t b:=by
 let d:=lb_mul (t:=t)<|show b≠0 by lia
 let c:=gd_pos (a:=t)<|show b≠0 by lia
 rcases ľ 0 (lb t b) with q|q;show q;let:=Int.mul_nonpos_of_nonpos_of_nonneg q<|ì c
 lia
def zfz{x g:Int}(h:0<g):x.natAbs<=(x * g).natAbs:=by
 rw[Int.natAbs_mul];show Nat.le_mul_of_pos_right _<|by lia
def lb_le(h:0<b):lb t b<=b:=by
 let c:=lb_mul (t:=t)<|show b≠0 by lia
 let d:=zfz (x:=lb t b)<|gd_pos (a:=t)<|show b≠0 by lia
 grind
def gd_low(h:b≠0):gd (lt t b) (lb t b)=1:=by
 let d:=gd_pos (a:=t) h;unfold lt lb gd;let c:0<Int.gcd t b:=by unfold gd at d;lia
 let e:=Int.gcd_ediv_gcd_ediv_gcd c;rw[ũ _<|Δ _,ũ _<|Δ _,e];rfl
end Zm
namespace Zw
open PySem PySem.Spec PyProof.Rows L2
def Sm(i:Int):Prop:=-(10 ^ 70)<i/\i<10 ^ 70
def Sm.nat{i:Int}(h:Sm i):i.natAbs<10 ^ 70:=by
 unfold Sm at h;lia
def zp6:10 ^ 70<=2 ^ 300:=by decide +kernel
def Sm.log(h:Sm i):i.natAbs.log2<300:=by
 by_cases z:i.natAbs=0;simp_all;show(Nat.log2_lt z).mpr (Ý h.nat zp6)
def Sm.bits(h:Sm i):Builtin.Int.intBits i<=2 ^ 20:=by
 let q:=h.log;unfold Builtin.Int.intBits;grind
section
variable {X:Cx}
theorem zm2:Ay X (binaryOp .Mult)<|rI (λi j=>Sm i/\Sm j) λi j=>.int<|i * j:=Km λϊ z z z z z z a q=>mul_int q<|.of_bits a.1.bits a.2.bits
theorem zj6:Ay X (binaryOp .FloorDiv)<|rI (λϊ j=>j≠0/\Sm j) λi j=>.int<|i.fdiv j:=
 Km λϊ z z z z z z a q=>floordiv_int a.1 q<|.inl<|PyProof.noPylong_of_log2<|Ğ a.2.log<|by decide
def iN(r:Ab x v):PySem.plainIs v (.bool b)=true/\(v == Value.bool b)=decide (x=V.bl b):=by
 cases x with
 |non=>cases r;show{rfl,by simp}|bl c=>cases r;show{rfl,by grind}|int i=>let(t,rfl):=r;show{rfl,by simp}
 |str i=>let(t,rfl):=r;show{rfl,by simp}
 |byt i=>let(t,rfl):=r;show{rfl,by simp}
 |flt i=>let(t,rfl):=r;show{rfl,by simp}
 |ref i=>cases r;show{rfl,by simp}|ty i=>cases r;show{rfl,by simp}
def zpp:Ay X (compareOp .Is) (λx y H Q=>∃b,y=.bl b/\Q (.bl<|decide (x=.bl b)) H):=by
 intro f s O H x y v u Q I d e h;let(b,rfl,q):=h;cases e;let(a,c):=iN d;show wpAny_is_plain a<|LY I q c.symm
def zm1:Ay X (compareOp .IsNot) (λx y H Q=>∃b,y=.bl b/\Q (.bl<|(not (decide (x=.bl b)))) H):=by
 intro f s O H x y v u Q I d e h;let(b,rfl,q):=h;cases e;let(a,c):=iN d;show wpAny_isNot_plain a<|LY I q<|by rw[c]
def zkb:CQ X (.builtin "isinstance") (λxs H Q=>∃x t b,xs=[x,.ty c]/\TyOf X.K H x t/\W.kitOne X.K t (.type c)=!b/\Q (.bl b) H):=by
 intro f s O H xs g Q I r h;let(x,t,b,rfl,ty,e,q):=h;let(u,i,rfl,a,d):=IH r;cases d;show VM I a ty e λtk=>{.bl b,H,I.tok _,rfl,q}
variable {pos:Pos}
end
section
variable {X:Cx}
end
def ze6:W.kitMeta "int"=true:=by decide +kernel
def zd1:W.kitMeta "bool"=true:=by decide +kernel
def zch:W.kitMeta "tuple"=true:=by decide +kernel
def zjj(K)(c):W.kitOne K (.type c) (.type c)=!true:=by
 unfold W.kitOne;simp
def zqm(K){l:ke}(h:t≠c)(a:W.kitMeta c=true)(hl:(fastBuiltinMro t).map (·.contains (Value.type c))=!b):W.kitOne K (.type t) (.type c)=!b:=by
 unfold W.kitOne;rw[if_neg<|by simpa using h];show(?_:(if W.kitMeta c=true then W.subIn K (.type t) (.type c) else ())=!b);rw[if_pos a];show hl
structure FunD(K:ka)(x qual:Str)(st:Stmt)(f:Addr)(fd:FuncData):Prop where
 ex:∃(oc:Value) (od:Option Addr) (dV kV doc pm:Value) (an:Option Addr) (cdv ct:Value) (osl:Array<|Option Value),
  fd=W.fnOf x qual (O8 st) (Hq st) (Ds st) dV kV doc pm an cdv ct/\K.lookup f=!{oc,od,.func fd,osl}/\W.codeIn K cdv qual=true
 kp:W.keepIn K (.ref f)=true
theorem zmy{K}{st}{dV kV doc pm cdv ct}(l:K.lookup f=!{oc,od,.func<|W.fnOf x qual (O8 st) (Hq st) (Ds st) dV kV doc pm an cdv ct,osl})
  (c:W.codeIn K cdv qual=true) (k:W.keepIn K (.ref f)=true):FunD K x qual st f<|W.fnOf x qual (O8 st) (Hq st) (Ds st) dV kV doc pm an cdv ct:={{(oc),od,dV,kV,doc,pm,an,cdv,ct,osl,rfl,l,c},k}
structure Tx(K:ka)(mg:Str->Option Value)(x:Str)(st:Stmt)(ps:kq) where
 f:Addr
 fd:FuncData
 F:FunD K x x st f fd
 m:mg x=!(.ref f)
 b:Ct K fd ps []
section
variable {X:Cx}{k j:Nat}{x:Str}{ps:kq}{sp:Sp}{p pos:Pos}{e:Expr}{es:kh}{t:TA}
end
theorem Mp(h:H p=())(o):Ah H<|upd H p o:=λb u q=>by
 rw[BF<|DP q h];show q
def zri(X:Cx)(a:Scope)(cl:List<|Str×Addr)(b:kq)(C:Addr)(s₀:Shared)(H₀:Hp)(ex:List Addr):Cx:=
 { X with N:=b,s₀:=s₀,H₀:=H₀,env:=compEnvC a cl C X.env,outer:=X.stack,ex:=ex,fn:=λϊ=>false,xe:=λϊ z=>False }
theorem HOk.adopt(x:HOk P w H h)(hn:H a=())(new:DY P w (upd H a o) h a o):HOk P w (upd H a o) h:=λb u e=>by
 by_cases hb:b=a;subst hb;rw[CT]at e;grind;rw[BF hb]at e;show(x b u e).stay (λc v z q=>q) (λc q=>by rw[BF<|DP q hn];show q) λc xs q=>by rw[BF<|DP q hn];show q
section
variable {X:Cx}{elt iter tg:Expr}{scope:Scope}{pos:Pos}{cl:List<|Str×Addr}{N':kq}{wi:TI}{g:TG}{te:TE}
end
end Zw
namespace Zx
open PySem PySem.Spec PyProof.Rows L2 Zw
def PB(h B:Heap)(a:Addr)(b:Value×Option Addr)(fl:Value):Prop:=
 ∃oe c T oT d,h.get? a=!oe/\((oe.cls,oe.dict)=b/\c[2]?=!.none)/\oe.data=.fields c/\c[1]?=!(.ref T)/\B.get? T=()/\T≠a/\h.get? T=!oT/\oT.data=.fields d/\d[3]?=!fl
def Fu(B:Heap)(l:List Env)(a:Addr)(b:Value×Option Addr)(h:Heap):Prop:=B.StaysIn h/\B.get? a=()/\h.FunFrames B l/\PB h B a b .none
def Xi(B:Heap)(l:List Env)(a:Addr)(b:Value×Option Addr)(L:Addr)(h:Heap):Prop:=B.StaysIn h/\B.get? a=()/\h.FunFrames B l/\PB h B a b (rawInt L)
def Fu.first(x:Fu B l a cls h):∃oe vs,h.get? a=!oe/\(oe.cls,oe.dict)=cls/\oe.data=.fields vs/\vs[2]?=!.none:=
 let ⟨_,_,_,oe,vs,_,_,_,he,hc,hd,_⟩:=x;{(oe),vs,he,hc.1,hd,hc.2}
def Fu.there(x:Fu B l a cls h):∃ob,h.get? a=!ob/\ob.cls=cls.1:=
 let ⟨oe,_,he,hc,_⟩:=x.first;{oe,he,congrArg Prod.fst hc}
def zgk(f)(o):((Obj.mapFields f o).cls,(Obj.mapFields f o).dict)=(o.cls,o.dict):=by
 unfold Obj.mapFields;split<;>rfl
section
variable {M:Model}{A:Around}{E:Value->Shared->Prop}{s:Shared}{B:Heap}{env v:Env}{l:List Env}{L a:Addr}{cls:Value×Option Addr}{Q:Unit->Shared->Prop}
def lW(j:A.frames=!(v::l))(hl:s.heap.FunFrames B<|v::l)(y:v.frame=!L)(he:s.heap.get? a=!oe)(hk:B.StaysIn s.heap)(ha:B.get? a=())
  (hd:oe.data=.fields vs) (g:1<vs.size) (x:vs[2]?=!.none) (h:∀h',Xi B (v::l) a (oe.cls,oe.dict) L h'->s.heap.UpToSlots h'->Q Unit.unit { s with heap:=h' }) :
  wpAny M A (do let f <- frameOf v;let pl <- entryPlaceOf L hn;let b <- EntryCells.newEntry head f .none (rawInt L) .none pl;setField (.ref a) 1 b) Q E s:=by
 let m:a∉(v::l).filterMap (·.frame):=λz=>by
  let(_,o,t,n):=hl.mem z;rw[he]at t;cases t;show n vs hd
 show Â<|wpAny_frameOf_fun j hl y λc k=>?_
 show Â<|wpAny_entryPlaceOf λpl e=>?_
 unfold EntryCells.newEntry newFields;show Â<|Ρ ?_<|e.sizeOk5 _ _ _ _ _;let i :=(k.2.1 a m).trans he;let r:B.StaysIn c:=λb o q=>(k.2.1 b λz=>by rw[(hl.mem z).1]at q;cases q).trans (hk b o q)
 let ne :=Nat.ne_of_gt<|Ç i;show Ť (Ó _ i) hd g ?_;let d:=œ hd (·.setIfInBounds 1 (Value.ref c.objs.size));let kp:∀nw b o,b≠a->c.get? b=!o->((c.push nw).update a (Obj.mapFields (·.setIfInBounds 1 (Value.ref c.objs.size)))).get? b=!o:=λnw b o n q=>(Ċ _ _<|Í n).trans (Ó _ q)
 let nr:∀b o,s.heap.get? b=!o->(∀ws,o.data≠.fields ws)->b≠a:=λb o q n z=>by
  rw[z,he]at q;cases q;show n vs hd
 let w:∀nw,s.heap.UpToSlots ((c.push nw).update a (Obj.mapFields (·.setIfInBounds 1 (Value.ref c.objs.size)))):=λnw b o q n=>by
  let(u,p):=k.2.2 b o q;show{u,kp nw b _ (nr b o q n) p}
 show h _ {λb o q=>kp _ b o (λz=>by rw[z,ha]at q;cases q)<|r b o q,ha,hl.of_keeps λb o q n=>?_,_,_,c.objs.size,_,_,ō _ (Ó _ i)<|Ź d,{by rw[zgk],?_},d,by simp[g],r.fresh,ne,
  (Ċ _ _<|Í ne).trans (á c rfl),rfl,?_}<|w _
 let(u,p):=w _ b o q n;show{_,p,rfl};rw[Array.getElem?_setIfInBounds_ne<|by decide];show x
 .first|(simp;done)|(rcases e with rfl|⟨_,_,_,_,_,_,_,rfl⟩<;>simp)
def lC(hk:B.StaysIn s.heap)(ha:B.get? a=())(hl:s.heap.FunFrames B l)(m:PB s.heap B a cls fl)(h:∀h',Fu B l a cls h'->s.heap.UpToSlots h'->Q Unit.unit { s with heap:=h' }):wpAny M A (setFlight (.ref a) ()) Q E s:=by
 let(oe,p,T,oT,i,he,k,hd,g1,nT,d,e,dT,j):=m;let g:3<i.size:=(İ.mp j).1;let c:∀b,b≠T->(s.heap.update T (Obj.mapFields (·.setIfInBounds 3 ((():Option Addr).elim Value.none λf=>rawInt f)))).get? b=s.heap.get? b:=λb hb=>Ċ _ _<|Í hb
 let nr:∀b o,s.heap.get? b=!o->(∀ws,o.data≠.fields ws)->b≠T:=λb o q n z=>by
  rw[z,e]at q;cases q;show n i dT
 unfold setFlight;show Â<|ē he hd g1 ?_;rw[if_pos<|by simp]
 show Ť e dT g (h _ {λb o q=>(c b λz=>by rw[z,nT]at q;cases q).trans (hk b o q),ha,hl.of_keeps λb o q n=>{o,(c b<|nr b o q n).trans q,rfl},
  oe,p,T,_,_,(c a<|Í d).trans he,k,hd,g1,nT,d,ō _ e<|Ź<|œ dT _,œ dT _,by simp[g]} λb o q n=>{o.slots,(c b<|nr b o q n).trans q})
theorem VC(hh:Xi B l a cls L s.heap)(b:∀h',Fu B l a cls h'->s.heap.UpToSlots h'->Q Unit.unit { s with heap:=h' }):wpAny M A (setFlight (.ref a) ()) Q E s:=
 lC hh.1 hh.2.1 hh.2.2.1 hh.2.2.2 b
theorem zrw(hh:Fu B l a cls s.heap)(b:∀h',Fu B l a cls h'->s.heap.UpToSlots h'->Q Unit.unit { s with heap:=h' }):wpAny M A (setFlight (.ref a) ()) Q E s:=
 lC hh.1 hh.2.1 hh.2.2.1 hh.2.2.2 b
structure MadeO(h h':Heap)(a:Addr)(cls:Value×Option Addr):Prop where
 keeps:∀b o,h.get? b=!o->h'.get? b=!o
 new:h.get? a=()
 there:∃oe t,h'.get? a=!oe/\(oe.cls,oe.dict)=cls/\oe.data=.fields #[.ref t,.none,.none,.none,.bool false,.none]
theorem madeO(b:Heap.MadeExcOf h h' a c args):MadeO h h' a (c,()):=
 {b.keeps,b.new,let ⟨t,he,_,_⟩:=b.there;{_,t,he,rfl,rfl}}
def madeX(d:A.frames=!(v::l))(i:v.frame=!L)(hk:B.StaysIn h)(hl:h.FunFrames B<|v::l)(c:MadeO h s.heap a cls)
  (k:∀h',Fu B l a cls h'->s.heap.UpToSlots h'->Q Unit.unit { s with heap:=h' }):wpAny M A (leaving v<|.ref a) Q E s:=by
 let(oe,t,he,rfl,hd):=c.there
 let fr:B.get? a=():=by
  cases q:B.get? a with
  |none=>rfl|some o=>let:=hk a o q;rw[c.new]at this;cases this
 unfold leaving noteFrame;erw[i];show Â<|Â<|ē he hd rfl ?_;show lW d (hl.of_keeps λb o q z=>{o,c.keeps b o q,rfl}) i he (λb o q=>c.keeps b o<|hk b o q) fr hd (by simp) rfl λr e p=>VC e λj f g=>?_
 let(e,f,(_,_,m),n):=f;show k j {(e),f,m,n}<|p.trans g
end
def Pw(B:Heap)(l:List Env)(a:Addr)(b:Value×Option Addr)(h:Heap):Prop:=∃fl,B.StaysIn h/\B.get? a=()/\h.FunFrames B l/\PB h B a b fl
theorem lB(x:Fu B l a cls h):Pw B l a cls h:={.none,x}
section
variable {M:Model}{A:Around}{E:Value->Shared->Prop}{s:Shared}{B:Heap}{env v:Env}{l:List Env}{L a:Addr}{cls:Value×Option Addr}{Q:Unit->Shared->Prop}
def T6(m:A.frames=!(v::l))(hv:env.frame=v.frame)(j:v.frame=!L)(r:Pw B (v::l) a cls s.heap)(n:∀h',Xi B (v::l) a cls L h'->s.heap.UpToSlots h'->Q Unit.unit { s with heap:=h' }):wpAny M A (noteFrame (.ref a) env) Q E s:=by
 let en:noteFrame (.ref a) env=noteFrame (.ref a) v:=by
  unfold noteFrame PySem.frameOf;rw[hv]
 rw[en];let(fl,f1,f2,f3,f4):=r
 by_cases e:fl=rawInt L;subst e;let(oe,ws,f,oT,p,ha,_,hd,g1,_,_,d,dT,g):=id f4;unfold noteFrame;erw[j];show Â<|ē ha hd g1 ?_;rw[if_pos<|by simp]
 show Â<|ē d dT g ?_;rw[if_pos<|by simp]
 show Ï<|n _ {(f1),f2,f3,f4}<|.refl _
 let(oe,ws,f,oT,p,ha,(rfl,q),hd,g1,nT,h,d,dT,g):=f4;let i:=(İ.mp g).1;let c:∀b,b≠f->(s.heap.update f (Obj.mapFields (·.setIfInBounds 3 Value.none))).get? b=s.heap.get? b:=λb hb=>Ċ _ _<|Í hb
 let nr:∀b o,s.heap.get? b=!o->(∀u,o.data≠.fields u)->b≠f:=λb o hb hn z=>by
  rw[z,d]at hb;cases hb;show hn p dT
 unfold noteFrame;erw[j];show Â<|ē ha hd g1 ?_;rw[if_pos<|by simp]
 show Â<|ē d dT g ?_;rw[if_neg<|λz=>e<|beq_iff_eq.mp z]
 show Â<|Ť d dT i ?_;show lW m (f3.of_keeps λb o hb hn=>{o,(c b<|nr b o hb hn).trans hb,rfl}) j ((c a<|Í h).trans ha) (λb o hb=>(c b λz=>by rw[z,nT]at hb;cases hb).trans (f1 b o hb)) f2 hd (İ.mp g1).1 q λh' k t=>?_
 show n h' k λb o hb hn=>t b o ((c b<|nr b o hb hn).trans hb) hn
def leavX(b:A.frames=!(v::l))(f:v.frame=!L)(i:Pw B (v::l) a cls s.heap)(g:∀h',Fu B l a cls h'->s.heap.UpToSlots h'->Q Unit.unit { s with heap:=h' }):wpAny M A (leaving v<|.ref a) Q E s:=by
 show Â<|T6 b rfl f i λo hh c=>VC hh λe h d=>?_
 let(j,k,(_,_,m),n):=h;show g e {(j),k,m,n}<|c.trans d
end
def Dx(P:Program)(w:World):G4:=λouter H s E e d=>∃(a:Addr) (c:Value×Option Addr) (f:Hp) (B:Heap),
 e=.ref a/\d.os=s.os/\AllBare d.gens/\Un (Br outer) [] H f s.heap d.heap/\HOk P w f B/\(∀b o,s.heap.get? b=!o->H b=()->b∉Br outer->B.get? b=!o) /\
 (∀b o,s.heap.get? b=!o->b∉Br outer->∃g,B.get? b=!g)/\Pw B outer a c d.heap/\E c.1 c.2 f
def Cb(X:Cx)(E:L2.St->XK):Prop:=∀(b:List<|Addr×Obj) (O:L2.St) (H:Hp) (s:Shared) (e:Value) (a:Shared),Inv X b O H s->Dx X.prog X.w X.stack H s (E O) e a->X.xe e a
def Xb(X:Cx)(E:L2.St->XK):Prop:=∀(d:List<|Addr×Obj) (O:L2.St) (H:Hp) (s:Shared) (a:Addr) (b:Value) (e:ke) (c:Heap),Inv X d O H s->Heap.MadeExcOf s.heap c a b e->E O b () H->X.xe (.ref a) { s with heap:=c }
section
variable {X:Cx}{pz:List<|Addr×Obj}{O:L2.St}{H:Hp}{s:Shared}
theorem NV(I:Inv X pz O H s)(e:X.s₀.heap.get? b=!o)(hb:b∉Br X.outer):b∉Br X.stack:=λz=>by
 rcases Ð.mp (I.stkSub b z) with q|q;show absurd (Ý (Ç e) I.ok.above) (by rw[q];show ä _);show hb q
def zg8(a:X.stack=X.env::X.outer)(hb:b∈Br X.outer):b∈Br X.stack:=by
 rw[a];let(v,c,d):=ĥ.mp hb;show ĥ.mpr {v,Ë _ c,d}
theorem zr3(I:Inv X pz O H s):HOk X.prog X.w H<|W.hideAll s.heap<|Br X.stack:=λb u e=>(I.hok b u e).stay (λc v a q=>Ĥ _ q λz=>by
  let f:=I.stkFree c z
  grind) (λϊ q=>q) λϊ y q=>q
def zmg(g:X.stack=X.env::X.outer)(u:X.env.frame=!X.env.locals)(hex:X.ex=[])       (I:Inv X pz O H s)(j:Heap.MadeExcOf s.heap h' a cls vs)(he:E cls () H) :
  wpAny (model X.prog X.w) X.A (leaving X.env<|.ref a) (λϊ s2=>Dx X.prog X.w X.outer X.H₀ X.s₀ E (.ref a) s2) Ex { s with heap:=h' }:=by
 let c:∀b ,b∉X.ex:=λb z=>by grind
 let h :=g▸I.ok.frames
 let m:s.heap.FunFrames (W.hideAll s.heap<|Br X.stack)<|X.env::X.outer:=by
  rw[<- g];show W.funFrames_hide I.stack λv hv b hb=>ĥ.mpr {(v),hv,hb}
 show madeX h u (λb o q=>Ĵ _ q) m (madeO j) λt fl w=>?_;let k :=λb o e n hb=>Ĥ _ (I.base.keep b o e n hb<|c b)<|NV I e hb
 let tB:∀b o,X.s₀.heap.get? b=!o->b∉Br X.outer->∃d,(W.hideAll s.heap<|Br X.stack).get? b=!d:=λb o e hb=>by
  let(d,p):=I.base.there b o e<|c b;show{d,Ĥ _ p<|NV I e hb}
 let l:∀b o,X.s₀.heap.get? b=!o->X.H₀ b=()->b∈Br X.outer->∃z,t.get? b=!{ o with slots:=z }:=λb o e n hb=>by
  let(z,i):=I.base.slot b o e n hb<|c b;let(_,y,f,hd):=I.funs.mem hb;rw[i]at f;cases f;let(x,r):=w b { o with slots:=z } (j.keeps b _ i) hd
  show{(x),r}
 show{a,(cls,()),H,_,rfl,I.os,I.bare,{λb o e n hb Z=>fl.1 b o<|k b o e n hb,λb o e n hb Z=>l b o e n hb,λb o e n Z=>I.base.free b o e n<|c b,λb o e Z=>?_,I.base.tups,I.base.frzs,I.base.tbls},zr3 I,k,tB,lB fl,he};by_cases hb:b∈Br X.outer;let(z,q):=l b o e (I.ok.frf b hb) hb;show{_,q};let(d,q):=tB b o e hb;show{d,fl.1 b d q}
def zly(f:X.stack=X.env::X.outer)(D:X.env.frame=!X.env.locals)(hex:X.ex=[])     (I:Inv X pz O H s)(h:Dx X.prog X.w X.stack H s E e s') :
  wpAny (model X.prog X.w) X.A (leaving X.env e) (λϊ s2=>Dx X.prog X.w X.outer X.H₀ X.s₀ E e s2) Ex s':=by
 let(a,j,y,B,rfl,os,bare,un,hok,t,v,m,he):=h;let c:∀b ,b∉X.ex:=λb z=>by rw[hex]at z;cases z
 let r :=f▸I.ok.frames;let p :=f▸m;show leavX r D p λC fl F=>?_
 let w :=λb o e n hb=>t b o (I.base.keep b o e n hb<|c b) (I.base.free b o e n<|c b)<|NV I e hb
 let tB:∀b o,X.s₀.heap.get? b=!o->b∉Br X.outer->∃d,B.get? b=!d:=λb o e hb=>by
  let(d,k):=I.base.there b o e<|c b;show v b d k<|NV I e hb
 let x:∀b o,X.s₀.heap.get? b=!o->X.H₀ b=()->b∈Br X.outer->∃z,C.get? b=!{ o with slots:=z }:=λb o e n hb=>by
  let(z,i):=I.base.slot b o e n hb<|c b;let(_,K,g,hd):=I.funs.mem hb;rw[i]at g;cases g;let(G,l):=un.slot b { o with slots:=z } i (I.base.free b o e n<|c b) (zg8 f hb)<|by simp
  let(J,A):=F b { o with slots:=G } l hd;show{(J),A}
 show{a,j,y,B,rfl,os.trans I.os,bare,{λb o e n hb Z=>fl.1 b o<|w b o e n hb,λb o e n hb Z=>x b o e n hb,λb o e n Z=>?_,λb o e Z=>?_,λb xs e=>un.tups b xs<|I.base.tups b xs e,λb o u e=>un.frzs b o u<|I.base.frzs b o u e,λb ps e=>?_},hok,w,tB,lB fl,he};let(d,k):=I.base.there b o e<|c b;show un.free b d k (I.base.free b o e n<|c b)<|by simp
 by_cases hb:b∈Br X.outer;let(z,q):=x b o e (I.ok.frf b hb) hb;show{_,q};let(d,q):=tB b o e hb;show{d,fl.1 b d q};let(m1,i):=I.base.tbls b ps e;let(m2,l):=un.tbls b _ i;show{m1++m2,l.trans<|by rw[Array.append_assoc]}
end
section
variable {P:Program}{w:World}{K:ka}{mg:Str->Option Value}{base:Heap}
theorem Zz:Cb (GV (Dx P w) P w K mg base N qual sc f cd A outer s H E)<|λϊ=>E:=
 λϊ z z z z z I h=>zly rfl rfl rfl I h
theorem gB:Xb (GV (Dx P w) P w K mg base N qual sc f cd A outer s H E)<|λϊ=>E:=
 λϊ z z z z z z z I a he=>zmg rfl rfl rfl I a he
def aG{st }      (F:FunD K x qual st f fd)(S:FnScope N ps<|Ds st)(len:∀vs H Q E,sp vs H Q E->vs.length=ps.length)
  (a : ∀ (cdv ) (A ) (outer ) (s ) (H ) (vs ) (Q ) (E ), Room k (A.deeper<|envOfC qual (Ds st) s.heap.objs.size f cdv) -> sp vs H Q E ->
   ∃t,Bf (GV (Dx P w) P w K mg base N qual (Ds st) f cdv A outer s H E) (Hq st) t/\t { nx:=λϊ H'=>Q .non H',rt:=Q } (start N vs) H):FnOk P w K mg base (Dx P w) (k+1) f fd ps sp:=by
 let(i,j,h,kV,d,l,g,cdv,ct,e,rfl,lk,b):=F.ex;show fn_of lk b S len λA outer s H vs Q E hr c=>a cdv A outer s H vs Q E hr c
end
structure DefX(P:Program)(w:World)(K:ka)(mg:Str->Option Value)(base:Heap)(k:Nat)(x:Str)(ps:kq)(sp:Sp) where
 f:Addr
 fd:FuncData
 ok:FnOk P w K mg base (Dx P w) k f fd ps sp
 m:mg x=!(.ref f)
 kp:W.keepIn K (.ref f)=true
 b:Ct K fd ps []
structure DefsX(K:ka)(fd:FuncData)(ps:kq)(dvs:qC):Prop where
 ex:∃ds,Ct K fd ps ds/\Ar dvs ds
section
variable {X:Cx}{k j:Nat}{f:Addr}{fd:FuncData}{x:Str}{ps:kq}{sp:Sp}{p pos:Pos}{e:Expr}{es:kh}{t:TA}{E:L2.St->XK}{dvs:qC}
def Mu{O:L2.St}      (F:FnOk X.prog X.w X.K X.mg X.base (Dx X.prog X.w) k f fd ps sp)(hr:Room k X.A)(hb:Ct X.K fd ps ds)(hd:Ar dvs ds)(c:Cb X E)
  (I:Inv X pz O H s) (r:Ar vs us) (h:sp (vs++dvs) H Q<|E O):wpAny (model X.prog X.w) X.A (call (.ref f) us) (EP X pz O Q) X.xe s:=by
 let b :=r.append hd;let hl :=b.length.symm.trans<|F.len _ _ _ _ h;show ņ<|ġ (F.run X.A X.stack s H {us,[]} (us++ds) (vs++dvs) Q (E O) hr I.env0 (hb s us I.kIn hl) b h) λr d a=>?_
 cases r with
 |error v=>show c pz O H s v d I a|ok fl=>
  cases fl with
  |ret u=>show I.after a|_=>show False.elim a
def Qi(sp:Sp)(dvs:qC)(E:L2.St->XK)(t:TA):TE:=λO H Q=>t O H λb a=>sp (b++dvs) a Q<|E O
def px(D:DefX X.prog X.w X.K X.mg X.base k x ps sp)(hr:Room j X.A)(d:Cb X E)(ha:PA X (e::es) t)(hk:k<=j)(c:Gl X x)(a:(x == "__debug__")=false)
  (he:starEach (e::es) X.env=(false,eval e X.env)::starEach es X.env) (b:(backTo pos<|starEach es X.env).any (·.1)=false):PE X (.Call (.Name x p) (e::es) [] pos)<|Qi sp [] E t:=by
 intro f s O H Q I h;show Ĭ<|Je I c D.m ?_ a;show Ŕ I.ok.mod.kin D.kp (A6 (ha pos f s O H _ I h) λi g ⟨l,H1,I1,r,q⟩=>{I1.kIn,?_}) he b
 show Mu D.ok (hr.mono hk) D.b .nil d I1 r q
def pxd(D:DefX X.prog X.w X.K X.mg X.base k x ps sp)(c:DefsX X.K D.fd ps dvs)(hr:Room j X.A)(f:Cb X E)(ha:PA X (e::es) t)(hk:k<=j)(d:Gl X x)(a:(x == "__debug__")=false)
  (he:starEach (e::es) X.env=(false,eval e X.env)::starEach es X.env) (b:(backTo pos<|starEach es X.env).any (·.1)=false):PE X (.Call (.Name x p) (e::es) [] pos)<|Qi sp dvs E t:=by
 intro g s O H Q I h;let(ds,hb,hd):=c.ex;show Ĭ<|Je I d D.m ?_ a;show Ŕ I.ok.mod.kin D.kp (A6 (ha pos g s O H _ I h) λl i ⟨m,H1,I1,r,q⟩=>{I1.kIn,?_}) he b
 show Mu D.ok (hr.mono hk) hb hd f I1 r q
end
abbrev Q6:ke:=[.type "ValueError",.type "Exception",.type "BaseException",.type "object"]
def TF:Value->Bool
 |.type s=>s == "type"|z=>false
def TJ:Data->Option ClassData
 |.cls k=>!k|z=>()
def TH:Value->Option Addr
 |.ref D=>!D|z=>()
def TK:Value->Bool
 |.builtin n=>n == "ValueError.__new__"|z=>false
def L1(K:ka)(C:Addr):Bool:=match K.lookup C with
 |some o=>(match TJ o.data with
  |some k=>TF o.cls && (o.slots.toList.length == 6 && ((o.slots.toList.getD 4 ()).elim false TK && ((not k.hasDel) && (k.mro.head?.bind TH == ↑C && (W.tailIn K Q6 k.mro.tail && W.nsOkIn K k.ns)))))|none=>false)
 |none=>false
def EO(K:ka)(C:Addr):Option<|Option Value:=(W.clsIn K C).bind λk=>W.nsIn K k.ns "__init__"
structure ExcK(K:ka)(C:Addr):Prop where
 q:L1 K C=true
 self:W.subIn K (.ref C) (.ref C)=!true
 cd:∃cd,W.clsIn K C=!cd
 ty:W.typeIn K (.ref C)=!(.type "type")
 ga:W.findIn K (.ref C) "__getattribute__"=!(!(.builtin "BaseException.__getattribute__"))
 gt:W.findIn K (.ref C) "__getattr__"=!()
 ca:W.findIn K (.ref C) "__class__"=!(!(.builtin "object.__class__"))
 ob:W.mroIn K C (.type "object")=!true
 be:W.mroIn K C (.type "BaseException")=!true
 gs:W.specialIn K (.builtin "object.__class__") "__get__"=!(!(.builtin "getset_descriptor.__get__"))
 tk:W.takesIn K (.builtin "object.__class__")=!true
structure ECls(K:ka)(mg:Str->Option Value)(x:Str) where
 C:Addr
 m:mg x=!(.ref C)
 k:ExcK K C
def zod{c:Value}(h:TF c=true):c=.type "type":=by
 cases c<;>first|show congrArg _ (eq_of_beq h)|cases h
def zof{d:Data}{k:ClassData}(h:TJ d=!k):d=.cls k:=by
 cases d<;>cases h;rfl
def zoe{l:ke}{C:Addr}(h:l.head?.bind TH=!C):∃bm,l=.ref C::bm:=by
 cases l with
 |nil=>cases h|cons w bm=>show{bm,congrArg (·::bm) ?_};cases w<;>cases h;rfl
def zog{o:Option Value}(h:o.elim false TK=true):o=!(.builtin "ValueError.__new__"):=by
 cases o with
 |none=>cases h|some v=>cases v<;>first|show congrArg (λn=>!(Value.builtin n)) (eq_of_beq h)|cases h
def six{l:List<|Option Value}(h:l.length=6):l=[l.getD 0 (),l.getD 1 (),l.getD 2 (),l.getD 3 (),l.getD 4 (),l.getD 5 ()]:=by
 let(a,l,rfl):=Ģ h;let(b,l,rfl):=Ģ<|ó h;let(c,l,rfl):=Ģ<|ó<|ó h;let h:l.length=3:=ó<|ó<|ó h;let(d,l,rfl):=Ģ h;let(e,l,rfl):=Ģ<|ó h;let(f,l,rfl):=Ģ<|ó<|ó h;rw[List.eq_nil_of_length_eq_zero<|ó<|ó<|ó h]
 rfl
def zmz{K:ka}{C:Addr}(q:L1 K C=true):∃c dd sl k,K.lookup C=!{c,dd,.cls k,sl}/\TF c=true/\sl.toList.length=6/\(sl.toList.getD 4 ()).elim false TK=true/\k.hasDel=false/\k.mro.head?.bind TH=!C/\W.tailIn K Q6 k.mro.tail=true/\W.nsOkIn K k.ns=true:=by
 unfold L1 at q;cases a:K.lookup C with
 |none=>rw[a]at q;show absurd q ć|some o=>
  rw[a]at q;let(c,dd,b,sl):=o;dsimp only at q;cases hk:TJ b with
  |none=>rw[hk]at q;show absurd q ć|some k=>rw[hk]at q;cases zof hk;erw[È,Ĕ,Ķ]at q;show{(c),dd,sl,k,rfl,q}
def lT{K}(X:K.In h)(q:L1 K C=true):∃(k:ClassData) (bm:ke) (dd:Option Addr) (f:Nat->Option Value) (mN:Str->Option Value),h.get? C=!(excClassObj k.name k.qualname C k.ns k.bases bm k.hasDict k.slotNames k.subclasses k.abstract k.collection dd (f 0) (f 1) (f 2) (f 3) (f 5) "ValueError.__new__")/\h.Ns k.ns mN/\(W.clsIn K C=!k/\k.mro=.ref C::bm)/\OwnTail h Q6 bm:=by
 let(c,dd,a,k,e,j,l,m,n,o,g,hok):=zmz q;let(bm,b):=zoe o
 let hs:a=#[a.toList.getD 0 (),a.toList.getD 1 (),a.toList.getD 2 (),a.toList.getD 3 (),!(.builtin "ValueError.__new__"),a.toList.getD 5 ()]:=by
  rw[<- zog m];show congrArg List.toArray<|six l
 let d:h.get? C=!{c,dd,.cls {(k.name),k.bases,k.mro,k.ns,k.qualname,k.hasDict,k.slotNames,k.subclasses,k.abstract,k.collection,k.hasDel},a}:=X _ _ e;rw[zod j,b,n,hs]at d;rw[b]at g;show{k,bm,dd,λi=>a.toList.getD i (),_,d,.of_isNs<|W.isNs_of_in X hok,{by unfold W.clsIn;rw[e],b},W.tail_of_in X g}
def zjl{K}(X:K.In h)(G:h.Ns N mN)(a:W.clsIn K C=!cd)(hn:cd.ns=N)(q:EO K C=!()):mN "__init__"=():=by
 unfold EO at q;rw[a]at q;subst hn;show W.ns_none_of X G q
section
variable {X:Cx}{x:Str}{p cpos pos:Pos}{e:Expr}{es:kh}{t:TA}{E:L2.St->XK}
def znm(C:Addr)(E:L2.St->XK)(t:TA):TS:=λϊ O H=>t O H λb a=>b.length<=sizeLine/\E O (.ref C) () a
def ziz(T:ECls X.K X.mg x)(b:EO X.K T.C=!())(v:X.calm=true)(A:Xb X E)(ha:PA X (e::es) t)(w:Gl X x)(f:(x == ("__debug__":Str))=false)
  (he:starEach (e::es) X.env=(false,eval e X.env)::starEach es X.env) (i:(backTo cpos<|starEach (e::es) X.env).any (·.1)=false) :
  PS X (.Raise (!(.Call (.Name x p) (e::es) [] cpos)) () pos) (znm T.C E t):=by
 intro n s O H D I h;let(cd,F,k,c,G,u,m,(d,_),j):=lT I.mod.kin T.k.q;let g:=zjl I.mod.kin m d rfl b
 show wpAny_Raise_call_subT (nm:=cd.name) (q:=cd.qualname) (N:=cd.ns) (bs:=cd.bases) (hdct:=cd.hasDict) (sn:=cd.slotNames) (sub:=cd.subclasses) (ab:=cd.abstract) (col:=cd.collection) (dd:=k) (k0:=c 0) (k1:=c 1) (k2:=c 2) (k3:=c 3) (k5:=c 5)
  Ū (j.hasType Ū.hasBase) (I.ok.hd v) i g (Je I w T.m {rfl,?_} f)
 let l:=ha cpos n s O H _ I h;rw[he]at l ⊢;show Calls.evalArgs_plain<|A6 l λC B ⟨J,H1,I1,r,z,q1⟩=>{rfl,r.length▸z,I1.bk _ _ u,m.keeps I1.bk,j.keeps I1.bk,λo a y=>A n O H1 B a _ C o I1 y q1}
end
def IsX(H:Hp)(a C:Addr):Prop:=∃ob,H a=!(.frz ob<|.own 0)/\ob.cls=.ref C/\∃b,ob.data=.fields b/\b[2]?=!.none
def Pt(H:Hp)(a C:Addr)(c:Option Addr):Prop:=∃ob,H a=!(.frz ob<|.own 0)/\(ob.cls,ob.dict)=(.ref C,c)/\∃b,ob.data=.fields b/\b[2]?=!.none
theorem Pt.of(x:Pt H a C dx)(e:∀u,H a=!u->F a=!u):Pt F a C dx:=
 let ⟨ob,y,r⟩:=x;{ob,e _ y,r}
section
variable {K:ka}{a C:Addr}
variable {X:Cx}
end
abbrev Ff(X:Cx)(a:List<|Addr×Obj)(xe:Value->Shared->Prop):Cx:={ X with pn:=X.pn++a,xe:=xe }
abbrev L5(X:Cx)(a:Addr):Cx:={ X with A:=X.A.mark<|!(.ref a),calm:=false,xe:=λϊ z=>False }
section
variable {X:Cx}{pz:List<|Addr×Obj}{O:L2.St}{H:Hp}{s:Shared}{xe:Value->Shared->Prop}
theorem zpy(ok:X.Ok):(Ff X pz xe).Ok:={(ok.mod),ok.kind,ok.glob,ok.blt,ok.above,ok.inj,ok.has,ok.cab,ok.hd,ok.frames,ok.stk,ok.exf,ok.bs,ok.bsz,ok.noex,ok.exfs,ok.funs,ok.frf}
theorem zj9(ok:X.Ok):(L5 X a).Ok:={ok.mod,ok.kind,ok.glob,ok.blt,ok.above,ok.inj,ok.has,ok.cab,λz=>Bool.noConfusion z,ok.frames,ok.stk,ok.exf,ok.bs,ok.bsz,ok.noex,ok.exfs,ok.funs,ok.frf}
theorem zqy(I:Inv X pz O H s):Inv (Ff X pz xe) [] O H s:={zpy I.ok,I.os,I.bare,I.base,I.loc,I.cell,I.free,I.freeC,λp a=>I.pin p (by simpa using a),I.hok,I.len}
theorem aI{ok:X.Ok}(I:Inv (Ff X pz xe) pn2 O H s):Inv X pz O H s:={ok,I.os,I.bare,I.base,I.loc,I.cell,I.free,I.freeC,λp a=>I.pin p<|Č _ a,I.hok,I.len}
theorem iR{a:Addr}(I:Inv X pz O H s):Inv (L5 X a) pz O H s:={zj9 I.ok,I.os,I.bare,I.base,I.loc,I.cell,I.free,I.freeC,I.pin,I.hok,I.len}
theorem NR(ok:X.Ok)(I:Inv (L5 X a) pz O H s):Inv X pz O H s:={(ok),I.os,I.bare,I.base,I.loc,I.cell,I.free,I.freeC,I.pin,I.hok,I.len}
variable {A:Around}{E:Value->Shared->Prop}{M:Model}
def exm{h:Heap}{d:Drawn}{t:Nat}{os:OsState}{a C W N:Addr}{oe:Obj}{nm q:Str}{hdct:Bool}{sn:kq}{ab:Bool}
     {b:String} (i:h.get? W=!(excClassObj nm q W N bs bm hdct sn sub ab col dd k0 k1 k2 k3 k5 b)) (he:h.get? a=!oe) (c:oe.cls=.ref C) (hb:bm.contains (.type "BaseException")=true)
    (j:PySem.W.Looks M h (isSubtype (.ref C)<|.ref W) true) (k:Q true {(h),g,d,t,os}):wpAny M A (excMatches (.ref a)<|.ref W) Q E {(h),g,d,t,os}:=by
  let e:(Value.ref W::bm).contains (.type "BaseException")=true:=by
    rw[Ε,hb];show Bool.or_true _
  let f:=tc_notTuple;unfold excMatches
  repeat (first|(with_reducible show wpAny_loadPart_at he ?_;rw[c])|with_reducible show wpAny_loadPart_at i ?_|(with_reducible show wpAny_isSubtype_exc i ?_;rw[e])|with_reducible show PySem.W.Looks.at j ?_|wp_step)
  show k
end
section
variable {X:Cx}{i:Nat}{x n:Str}{np pos hpos:Pos}{body suite:kj}{b₀:Stmt}{tb th:TS}{E:L2.St->XK}
end
end Zx
namespace Pu
open PySem PySem.Spec PyProof.Rows L2 Zw Zx
abbrev Rg:=Addr->Prop
def R0:Rg:=λϊ=>False
set_option genInjectivity true in
inductive Kd where
 |lst|rl|tup|rt|pin (p:Addr)
set_option genInjectivity true in
inductive Ob where
 |ins (C:Addr) (fs:List Str)|exn (C:Addr)|sdc (ks:List Str)|lab (p:Addr)
 |fdc (ks:List Str)
set_option genInjectivity true in
inductive T where
 |non|bl (b:Bool)|int (i:Int)|str (x:Str)|nd (o:Bool) (k:Kd) (l:List T)|dic (ks:List Int) (l:List T)|pdc (ks:List Int) (l:List T)|odc (ks:List Int) (l:List T)
 |obj (k:Ob) (l:List T)|oob (p C:Addr) (fs:List Str) (l:List T)|osd (ks:List Str) (l:List T)
abbrev q9:=Option T
abbrev qD:=List T
abbrev T.lst(l:qD):T:=.nd false .lst l
abbrev T.own(l:qD):T:=.nd true .lst l
abbrev T.tup(l:qD):T:=.nd false .tup l
mutual
noncomputable def T.share:T->T
 |.nd z k l=>.nd false k (BA l)|.dic a l=>.dic a (BA l)|.pdc a l=>.pdc a (BA l)|.odc a l=>.pdc a (BA l)|.obj k l=>.obj k (BA l)|.oob z C fs l=>.obj (.ins C fs) (BA l)|.osd a l=>.obj (.sdc a) (BA l)|.non=>.non|.bl b=>.bl b|.int i=>.int i|.str x=>.str x
noncomputable def BA:List T->List T
 |[]=>[]|t::r=>t.share::BA r
end
mutual
noncomputable def T.sh:T->Bool
 |.nd o z l=>(not o) && AZ l|.dic z l=>AZ l|.pdc z l=>AZ l|.odc z y=>false|.obj z l=>AZ l|.oob z y x w=>false|.osd z y=>false|.non=>true|.bl z=>true|.int z=>true|.str z=>true
noncomputable def AZ:List T->Bool
 |[]=>true|t::r=>t.sh && AZ r
end
def T.flat:T->Bool
 |.nd z y x=>false|.dic z y=>false|.pdc z y=>false|.odc z y=>false|.obj z y=>false|.oob z y x w=>false|.osd z y=>false|.non=>true|.bl z=>true|.int z=>true|.str z=>true
def Cw:∀l ,BA l=l.map T.share
 |[]=>rfl|t::r=>by rw[BA,Cw r];rfl
def Cz:∀l ,AZ l=l.all T.sh
 |[]=>rfl|t::r=>by rw[AZ,Cz r];rfl
mutual
theorem Ak:∀t:T,t.sh=true->t.share=t
 |.nd o k l,h=>by
  rw[T.sh,È]at h;let b:o=false:=by simpa using h.1
  subst b;rw[T.share,A8 l h.2]
 |.dic a l,h=>by
  rw[T.sh]at h;rw[T.share,A8 l h]
 |.pdc a l,h=>by
  rw[T.sh]at h;rw[T.share,A8 l h]
 |.odc a l,h=>by
  rw[T.sh]at h;cases h
 |.obj k l,h=>by
  rw[T.sh]at h;rw[T.share,A8 l h]
 |.oob p C fs l,h=>by
  rw[T.sh]at h;cases h
 |.osd a l,h=>by
  rw[T.sh]at h;cases h
 |.non,z=>rfl|.bl z,y=>rfl|.int z,y=>rfl|.str z,y=>rfl
theorem A8:∀l:List T,AZ l=true->BA l=l
 |[],z=>rfl|t::r,h=>by
  rw[AZ,È]at h;rw[BA,Ak t h.1,A8 r h.2]
end
mutual
theorem zim:∀t:T,t.share.sh=true
 |.nd o k l=>by
  rw[T.share,T.sh,Gb l];rfl
 |.dic a l=>by rw[T.share,T.sh,Gb l]|.pdc a l=>by rw[T.share,T.sh,Gb l]|.odc a l=>by rw[T.share,T.sh,Gb l]|.obj k l=>by rw[T.share,T.sh,Gb l]|.oob p C fs l=>by rw[T.share,T.sh,Gb l]|.osd a l=>by rw[T.share,T.sh,Gb l]|.non=>rfl|.bl z=>rfl|.int z=>rfl|.str z=>rfl
theorem Gb:∀l:List T,AZ (BA l)=true
 |[]=>rfl|t::r=>by rw[BA,AZ,zim t,Gb r];rfl
end
def HG(K:ka)(F:Hp)(p:Addr)(xs:qC):Prop:=(∃o,F p=!(.frz o<|.lst xs))\/∃(o:Obj) (a:Array Value) (n:Nat),K.lookup p=!o/\o.cls=.type "list"/\o.dict=()/\o.data=.seq a n/\a.size<=sizeLine/\Ar xs a.toList
theorem HG.l{K}(h:HG K F p xs):Ag K F p xs:=h.elim (λz=>.inl<|.inr z) .inr
def G0(K:ka)(F:Hp)(k:Kd)(p:Addr)(xs:qC):Prop:=match k with
 |.lst=>F p=!(.lst xs)|.rl=>HG K F p xs|.tup=>F p=!(.tup xs)|.rt=>CP K F p xs|.pin z=>F p=!(.lst xs)
def HP{K}(s:Ah F F')(h:CP K F p xs):CP K F' p xs:=by
 rcases h with (h|⟨o,h⟩)|h;show .inl<|.inl<|s _ _ h
 show .inl<|.inr {o,s _ _ h}
 show .inr h
def G0.same{K}(h:G0 K F k p xs)(s:Ah F F'):G0 K F' k p xs:=by
 cases k with
 |lst=>show s _ _ h|rl=>show h.elim (λ⟨o,z⟩=>.inl {o,s _ _ z}) .inr|tup=>show s _ _ h|rt=>show HP s h|pin q=>show s _ _ h
def Kd.isT:Kd->Bool
 |.tup=>true|z=>false
def ME(k:Kd)(p:Addr):Prop:=match k with
 |.lst=>True|.pin q=>q=p|.tup=>True|z=>False
def VX:Kd->qC->HO
 |.tup,xs=>.tup xs|z,xs=>.lst xs
def iX(h:k.isT=false):VX k xs=.lst xs:=by cases k<;>first|rfl|cases h
def ME.node{K}(hk:ME k p)(h:F p=!(VX k xs)):G0 K F k p xs:=by
 cases k with
 |lst=>show h|pin q=>show h|tup=>show h|_=>show hk.elim
def Jg(a:ku)(xs:qC):List<|Key×V:=List.zipWith (λk x=>(Sum.inl k,x)) a xs
def Be(a:kq)(xs:qC):List<|Key×V:=List.zipWith (λk x=>(Sum.inr k,x)) a xs
def Lg(F:Hp)(b:Option Addr)(v:V):Prop:=∃d a u,b=!d/\F d=!(.frz a<|.own 0)/\Ab v u/\W.lookIn "step" a=↑!u
theorem Lg.of(h:Lg F dx v)(s:∀a u,F a=!u->F' a=!u):Lg F' dx v:=
 let ⟨d,od,u,e,h1,r⟩:=h;{d,od,u,e,s _ _ h1,r}
def KS(F:Hp)(k:Ob)(p:Addr)(xs:qC):Prop:=match k with
 |.ins C fs=>∃b,F p=!(.ins C b<|fs.zip xs)|.exn C=>∃b,Pt F p C b/\∀v∈xs,Lg F b v|.sdc a=>a.length=xs.length/\F p=!(.dK<|Be a xs)|.lab q=>q=p/\xs=[.ref p]|.fdc a=>a.length=xs.length/\∃ob,F p=!(.frz ob<|.dK<|Be a xs)
def KS.same(h:KS F k p xs)(s:Ah F F'):KS F' k p xs:=by
 cases k with
 |ins C fs=>show h.elim λa e=>{a,s _ _ e}|exn C=>show h.elim λa e=>{a,e.1.of λu=>s p u,λv hv=>(e.2 v hv).of s}|sdc b=>show{h.1,s _ _ h.2}|lab q=>show h|fdc b=>show{h.1,h.2.elim λob e=>{ob,s _ _ e}}
inductive Rp(K:ka)(F H:Hp):T->V->Rg->Prop where
 |non:Rp K F H .non .non R0
 |bl (b:Bool):Rp K F H (.bl b) (.bl b) R0
 |int (i:Int):Rp K F H (.int i) (.int i) R0
 |str (x:Str):Rp K F H (.str x) (.str x) R0
 |shr {k:Kd} {p:Addr} {xs:List V} {l:List T} (h:G0 K F k p xs) (e:l.length=xs.length) (c:∀(i:Nat) (t:T) (x:V),l[i]?=!t->xs[i]?=!x->Rp K F H t x R0):Rp K F H (.nd false k l) (.ref p) R0
 |dic {p:Addr} {ob:Obj} {ks:List Int} {xs:List V} {l:List T} (h:F p=!(.frz ob<|.dK<|Jg ks xs)) (e:l.length=xs.length) (ek:ks.length=xs.length) (c:∀(i:Nat) (t:T) (x:V),l[i]?=!t->xs[i]?=!x->Rp K F H t x R0):Rp K F H (.dic ks l) (.ref p) R0
 |pdc {p:Addr} {ks:List Int} {xs:List V} {l:List T} (h:F p=!(.dK<|Jg ks xs)) (e:l.length=xs.length) (ek:ks.length=xs.length) (c:∀(i:Nat) (t:T) (x:V),l[i]?=!t->xs[i]?=!x->Rp K F H t x R0):Rp K F H (.pdc ks l) (.ref p) R0
 |odc {p:Addr} {ks:List Int} {xs:List V} {l:List T} (f:F p=()) (h:H p=!(.dK<|Jg ks xs)) (e:l.length=xs.length) (ek:ks.length=xs.length) (c:∀(i:Nat) (t:T) (x:V),l[i]?=!t->xs[i]?=!x->Rp K F H t x R0):Rp K F H (.odc ks l) (.ref p)<|λa=>a=p
 |obj {k:Ob} {p:Addr} {xs:List V} {l:List T} (h:KS F k p xs) (e:l.length=xs.length) (c:∀(i:Nat) (t:T) (x:V),l[i]?=!t->xs[i]?=!x->Rp K F H t x R0):Rp K F H (.obj k l) (.ref p) R0
 |oob {C p dx:Addr} {fs:List Str} {xs:List V} {l:List T} (R:Nat->Rg) (f:F p=()) (h:H p=!(.ins C dx<|fs.zip xs)) (e:l.length=xs.length) (c:∀(i:Nat) (t:T) (x:V),l[i]?=!t->xs[i]?=!x->Rp K F H t x (R i))
   (d:∀i j a,i≠j->R i a->¬ R j a) (dp:∀i,¬ R i p) (o:∀i a,R i a->i<l.length):Rp K F H (.oob p C fs l) (.ref p) (λa=>a=p\/∃i,R i a)
 |osd {p:Addr} {ks:List Str} {xs:List V} {l:List T} (R:Nat->Rg) (f:F p=()) (h:H p=!(.dK<|Be ks xs)) (e:l.length=xs.length) (ek:ks.length=xs.length) (c:∀(i:Nat) (t:T) (x:V),l[i]?=!t->xs[i]?=!x->Rp K F H t x (R i))
   (d:∀i j a,i≠j->R i a->¬ R j a) (dp:∀i,¬ R i p) (o:∀i a,R i a->i<l.length):Rp K F H (.osd ks l) (.ref p) (λa=>a=p\/∃i,R i a)
 |own {k:Kd} {p:Addr} {xs:List V} {l:List T} (hk:ME k p) (R:Nat->Rg) (f:F p=()) (h:H p=!(VX k xs)) (e:l.length=xs.length) (c:∀(i:Nat) (t:T) (x:V),l[i]?=!t->xs[i]?=!x->Rp K F H t x (R i))
   (d:∀i j a,i≠j->R i a->¬ R j a) (dp:∀i,¬ R i p) (o:∀i a,R i a->i<l.length):Rp K F H (.nd true k l) (.ref p) (λa=>a=p\/∃i,R i a)
theorem reg0{p:Addr}:(λa=>a=p\/∃_:Nat,R0 a)=λa=>a=p:=funext λϊ=>propext {λz=>z.elim id λ⟨_,w⟩=>w.elim,.inl}
def Rp.osd0{K}{F H:Hp}{p:Addr}{b:kq}{xs:qC}{l:qD}(f:F p=())(h:H p=!(.dK<|Be b xs))(e:l.length=xs.length)(d:b.length=xs.length)(c:∀(i:Nat) (t:T) (x:V),l[i]?=!t->xs[i]?=!x->Rp K F H t x R0):Rp K F H (.osd b l) (.ref p)<|λa=>a=p:=by
 let r:Rp K F H (.osd b l) (.ref p) (λa=>a=p\/∃_:Nat,R0 a):=.osd (λϊ=>R0) f h e d c (λϊ y y y z=>z.elim) (λϊ z=>z)<|λϊ y z=>z.elim
 rwa[reg0]at r
section
variable {K:ka}{F F' H H':Hp}{t:T}{x:V}{A:Rg}
def Rp.frame(h:Rp K F H t x A)(s:Ah F F')(k:∀a,A a->H' a=H a/\F' a=()):Rp K F' H' t x A:=by
 induction h with
 |non=>show .non|bl b=>show .bl b|int i=>show .int i|str y=>show .str y|shr h e c l=>show .shr (h.same s) e λi t x g j=>l i t x g j λa z=>z.elim|dic h e m c l=>show .dic (s _ _ h) e m λi t x g j=>l i t x g j λa z=>z.elim|pdc h e m c l=>show .pdc (s _ _ h) e m λi t x g j=>l i t x g j λa z=>z.elim|odc f h e m c l=>let q:=k _ rfl;show .odc q.2 (q.1.trans h) e m λi t x g j=>l i t x g j λa z=>z.elim|obj h e c l=>show .obj (h.same s) e λi t x g j=>l i t x g j λa z=>z.elim|oob R f h e c d dp o l=>let q:=k _<|.inl rfl;show .oob R q.2 (q.1.trans h) e (λi t x g j=>l i t x g j λa z=>k a<|.inr {(i),z}) d dp o|osd R f h e m c d dp o l=>let q:=k _<|.inl rfl;show .osd R q.2 (q.1.trans h) e m (λi t x g j=>l i t x g j λa z=>k a<|.inr {(i),z}) d dp o|own hk R f h e c d dp o l=>let q:=k _<|.inl rfl;show .own hk R q.2 (q.1.trans h) e (λi t x g j=>l i t x g j λa z=>k a<|.inr {(i),z}) d dp o
def Rp.dom(h:Rp K F H t x A)(ha:A a):F a=()/\∃u,H a=!u:=by
 induction h with
 |non=>show ha.elim|bl b=>show ha.elim|int i=>show ha.elim|str y=>show ha.elim|shr h e c g=>show ha.elim|dic h e m c g=>show ha.elim|pdc h e m c g=>show ha.elim|odc f h e m c g=>grind|obj h e c g=>show ha.elim|@osd p r xs l R f h e m c d dp o g=>
  rcases ha with rfl|⟨i,z⟩;grind;let j:=o i a z;let k:i<xs.length:=by lia
  show g i _ _ (Á j) (Á k) z
 |@oob C p n fs xs l R f h e c d dp o g=>
  rcases ha with rfl|⟨i,z⟩;grind;let j:=o i a z;let k:i<xs.length:=by lia
  show g i _ _ (Á j) (Á k) z
 |@own q p xs l hk R f h e c d dp o g=>
  rcases ha with rfl|⟨i,z⟩;grind;let j:=o i a z;let k:i<xs.length:=by lia
  show g i _ _ (Á j) (Á k) z
def Rp.share(h:Rp K F H t x A)(s:Ah F F')(k:∀a u,A a->H a=!u->F' a=!u):Rp K F' H' t.share x R0:=by
 induction h with
 |non=>show .non|bl b=>show .bl b|int i=>show .int i|str y=>show .str y|@shr w p xs l h e c m=>
  rw[T.share,Cw];show .shr (h.same s) (by rw[À];show e) λi t x g j=>?_;rw[É]at g;let(q,n,rfl):=Ø.mp g;show m i q x n j λa u z=>z.elim
 |@dic p ob v xs l h e r c m=>
  rw[T.share,Cw];show .dic (s _ _ h) (by rw[À];show e) r λi t x g j=>?_;rw[É]at g;let(q,n,rfl):=Ø.mp g;show m i q x n j λa u z=>z.elim
 |@pdc p v xs l h e r c m=>
  rw[T.share,Cw];show .pdc (s _ _ h) (by rw[À];show e) r λi t x g j=>?_;rw[É]at g;let(q,n,rfl):=Ø.mp g;show m i q x n j λa u z=>z.elim
 |@odc p v xs l f h e r c m=>
  rw[T.share,Cw];show .pdc (k _ _ rfl h) (by rw[À];show e) r λi t x g j=>?_;rw[É]at g;let(q,n,rfl):=Ø.mp g;show m i q x n j λa u z=>z.elim
 |@obj w p xs l h e c m=>
  rw[T.share,Cw];show .obj (h.same s) (by rw[À];show e) λi t x g j=>?_;rw[É]at g;let(q,n,rfl):=Ø.mp g;show m i q x n j λa u z=>z.elim
 |@oob C p B fs xs l R f h e c d dp o m=>
  rw[T.share,Cw];show .obj {B,k _ _ (.inl rfl) h} (by rw[À];show e) λi t x g j=>?_;grind
 |@osd p v xs l R f h e r c d dp o m=>
  rw[T.share,Cw];show .obj {r,k _ _ (.inl rfl) h} (by rw[À];show e) λi t x g j=>?_;grind
 |@own w p xs l hk R f h e c d dp o m=>
  rw[T.share,Cw];show .shr (hk.node<|k _ _ (.inl rfl) h) (by rw[À];show e) λi t x g j=>?_;grind
def Rp.r0(h:Rp K F H t x A)(s:t.sh=true):A=R0:=by
 cases h with
 |own hk R f h e c d dp o=>cases s|odc f h e a c=>cases s|oob R f h e c d dp o=>cases s|osd R f h e a c d dp o=>cases s|_=>rfl
def Rp.move(h:Rp K F H t x A)(s:t.sh=true)(q:Ah F F'):Rp K F' H' t x R0:=by
 let e:=h.r0 s;subst e;show h.frame q λa z=>z.elim
def Rp.flat_any(h:Rp K F H t x A)(s:t.flat=true):Rp K F' H' t x R0:=by
 cases h with
 |non=>show .non|bl b=>show .bl b|int i=>show .int i|str y=>show .str y|shr h e c=>cases s|dic h e a c=>cases s|pdc h e a c=>cases s|odc f h e a c=>cases s|obj h e c=>cases s|oob R f h e c d dp o=>cases s|osd R f h e a c d dp o=>cases s|own hk R f h e c d dp o=>cases s
def Rp.int_inv{i:Int}(h:Rp K F H (.int i) x A):x=.int i:=by cases h;rfl
def Rp.bl_inv{b:Bool}(h:Rp K F H (.bl b) x A):x=.bl b:=by cases h;rfl
def Rp.non_inv(h:Rp K F H .non x A):x=.non:=by cases h;rfl
def Rp.str_inv{y:Str}(h:Rp K F H (.str y) x A):x=.str y:=by cases h;rfl
end
def As(K:ka)(F:Hp)(ts:qD)(xs:qC):Prop:=ts.length=xs.length/\∀(i:Nat) (t:T) (x:V),ts[i]?=!t->xs[i]?=!x->Rp K F F t x R0
theorem As.nil{K}:As K F [] []:={rfl,λi t x h=>by simp at h}
theorem Rp.any{K}(h:Rp K F H t x R0):Rp K F H' t x R0:=h.frame (Ah.refl F) λa z=>z.elim
def As.cons{K:ka}{F H:Hp}{t:T}{x:V}{ts:qD}{xs:qC}(h:Rp K F H t x R0)(r:As K F ts xs):As K F (t::ts)<|x::xs:=by
 show{by simp[r.1],λi c d a b=>?_};cases i with
 |zero=>simp at a b;subst a;subst b;show h.any|succ j=>show r.2 j c d (by simpa using a)<|by simpa using b
def As.inv{K}(r:As K F (t::ts) xs):∃x xs',xs=x::xs'/\Rp K F F t x R0/\As K F ts xs':=by
 let(e,h):=r;cases xs with
 |nil=>simp at e|cons x xs'=>show{x,xs',rfl,h 0 t x rfl rfl,by simpa using e,λi c d a b=>h (i+1) c d (by simpa using a)<|by simpa using b}
def As.inv0{K}(r:As K F [] xs):xs=[]:=by
 let(e,h):=r;grind
theorem As.same{K}(r:As K F ts xs)(s:Ah F F'):As K F' ts xs:={r.1,λi t x b c=>((r.2 i t x b c).frame s λa z=>z.elim)}
def As.node{K}(h:Rp K F H (.nd false k l) (.ref p) A):∃xs,G0 K F k p xs/\As K F l xs:=by
 cases h with
 |shr h e c=>show{_,h,e,λi t x a b=>(c i t x a b).any}
def Rp.ref_inv{K}(h:Rp K F H (.nd o k l) x A):∃p,x=.ref p:=by
 cases h with
 |shr h e c=>show{_,rfl}|own hk R f h e c d dp o=>show{_,rfl}
theorem As.of_node{K}(h:G0 K F k p xs)(r:As K F l xs):Rp K F H (.nd false k l) (.ref p) R0:=.shr h r.1 λi t x a b=>(r.2 i t x a b).any
structure Ext(F H F' H':Hp)(B:Rg):Prop where
 hh:Ah H H'
 ff:Ah F F'
 fh:Ah F' H'
 nb:∀b,B b->H b=()
 nf:∀b u,F' b=!u->F b=!u\/H b=()
def HZ(s:Ah H H')(h:H' b=()):H b=():=by
 cases e:H b with
 |none=>rfl|some u=>rw[s b u e]at h;cases h
section
variable {F H F1 H1 F2 H2:Hp}{B C:Rg}
theorem Ext.refl(s:Ah F H):Ext F H F H R0:={.refl _,.refl _,s,λϊ z=>z.elim,λϊ y e=>.inl e}
theorem Ext.trans(a:Ext F H F1 H1 B)(b:Ext F1 H1 F2 H2 C):Ext F H F2 H2 (λx=>B x\/C x) where
 hh:=a.hh.trans b.hh
 ff:=a.ff.trans b.ff
 fh:=b.fh
 nb:=λx z=>z.elim (a.nb x) λz=>HZ a.hh (b.nb x z)
 nf:=λx u e=>(b.nf x u e).elim (a.nf x u) λz=>.inr<|HZ a.hh z
theorem Ext.mono(a:Ext F H F1 H1 B)(h:∀x,C x->B x):Ext F H F1 H1 C:={a.hh,a.ff,a.fh,λx z=>a.nb x<|h x z,a.nf}
theorem Ext.trans0(a:Ext F H F1 H1 R0)(b:Ext F1 H1 F2 H2 C):Ext F H F2 H2 C:=(a.trans b).mono λx z=>.inr z
open Classical in
def frz(F H:Hp)(A:Rg):Hp:=λb=>if A b then H b else F b
def HE{A:Rg}{b:Addr}(h:A b):frz F H A b=H b:=by unfold frz;rw[if_pos h]
def Fl{A:Rg}{b:Addr}(h:¬ A b):frz F H A b=F b:=by unfold frz;rw[if_neg h]
theorem Fd(n:∀a,A a->F a=()):Ah F<|frz F H A:=λb u e=>by
 by_cases h:A b;grind;rw[Fl h];show e
theorem Il(s:Ah F H):Ah (frz F H A) H:=λb u e=>by
 by_cases h:A b;rw[HE h]at e;show e;rw[Fl h]at e;show s b u e
theorem Ext.frz(a:Ext F H F1 H1 B)(n:∀b,B b->F1 b=()):Ext F H (frz F1 H1 B) H1 R0 where
 hh:=a.hh
 ff:=a.ff.trans (Fd n)
 fh:=Il a.fh
 nb:=λϊ z=>z.elim
 nf:=λb u e=>by
  by_cases h:B b;show .inr<|a.nb b h
  rw[Fl h]at e;show a.nf b u e
theorem Rp.ext{K }    (h:Rp K F H t x A)(a:Ext F H F1 H1 B):Rp K F1 H1 t x A:=h.frame a.ff λb z=>by
 let(f,u,e):=h.dom z;show{(a.hh b u e).trans e.symm,?_};cases q:F1 b with
 |none=>rfl|some c=>
  rcases a.nf b c q with z|z;grind;grind
theorem Rp.apart{K}(h:Rp K F H t x A)(a:Ext F H F1 H1 B)(hb:B b):¬ A b:=λz=>by
 let(f,u,e):=h.dom z;rw[a.nb b hb]at e;cases e
theorem Ext.new(s:Ah F H)(h:H p=()):Ext F H (upd F p o) (upd H p o) R0 where
 hh:=Mp h o
 ff:=Mp (HZ s h) o
 fh:=λb u e=>by
  by_cases hb:b=p;subst hb;rw[CT]at e ⊢;show e;rw[BF hb]at e ⊢;show s b u e
 nb:=λϊ z=>z.elim
 nf:=λb u e=>by
  by_cases hb:b=p;grind;rw[BF hb]at e;show .inl e
theorem Ext.newO(s:Ah F H)(h:H p=()):Ext F H F (upd H p o) (λa=>a=p) where
 hh:=Mp h o
 ff:=.refl _
 fh:=λb u e=>Mp h o b u (s b u e)
 nb:=λb z=>by grind
 nf:=λb u e=>.inl e
end
abbrev AL:=List<|q9
structure StR(K:ka)(F H:Hp)(O:L2.St)(Y:AL)(R:Nat->Rg):Prop where
 fh:Ah F H
 len:O.length=Y.length
 rep:∀i t,Y[i]?=↑!t->∃x,O[i]?=↑!x/\Rp K F H t x (R i)
 out:∀i a,R i a->∃t,Y[i]?=↑!t
 dis:∀i j a,i≠j->R i a->¬ R j a
section
variable {K:ka}{F H F1 H1:Hp}{O:L2.St}{Y:AL}{R:Nat->Rg}{B:Rg}
def StR.dom(h:StR K F H O Y R)(ha:R i a):F a=()/\∃u,H a=!u:=by
 let(t,e):=h.out i a ha;let(x,_,r):=h.rep i t e;show r.dom ha
theorem StR.ext(h:StR K F H O Y R)(a:Ext F H F1 H1 B):StR K F1 H1 O Y R where
 fh:=a.fh
 len:=h.len
 rep:=λi t e=>by
  let(x,b,r):=h.rep i t e;show{x,b,r.ext a}
 out:=h.out
 dis:=h.dis
theorem StR.apart(h:StR K F H O Y R)(a:Ext F H F1 H1 B)(hb:B b)(i):¬ R i b:=λz=>by
 let(f,u,e):=h.dom z;rw[a.nb b hb]at e;cases e
end
def iB:Key->PyData
 |.inl i=>.int i|.inr x=>.str x
mutual
noncomputable def T.data:T->PyData
 |.non=>.none|.bl b=>.bool b|.int i=>.int i|.str x=>.str x|.nd z .lst l=>.list (Bs l)|.nd z .rl l=>.list (Bs l)|.nd z .tup l=>.tuple (Bs l)|.nd z .rt l=>.tuple (Bs l)|.nd z (.pin y) l=>.list (Bs l)|.dic a l=>.dict ((a.map PyData.int).zip (Bs l))|.pdc a l=>.dict ((a.map PyData.int).zip (Bs l))|.odc a l=>.dict ((a.map PyData.int).zip (Bs l))|.obj z y=>.none|.oob z y w v=>.none|.osd z y=>.none
noncomputable def Bs:List T->List PyData
 |[]=>[]|t::r=>t.data::Bs r
end
mutual
noncomputable def T.pln:T->Bool
 |.nd z y l=>FC l|.dic z l=>FC l|.pdc z l=>FC l|.odc z l=>FC l|.obj z y=>false|.oob z y x w=>false|.osd z y=>false|.non=>true|.bl z=>true|.int z=>true|.str z=>true
noncomputable def FC:List T->Bool
 |[]=>true|t::r=>t.pln && FC r
end
def FV:∀{l},FC l=true->∀{i:Nat} {t},l[i]?=!t->t.pln=true
 |[],z,i,t,e=>by simp at e|a::r,h,i,t,e=>by
  rw[FC,È]at h;cases i with
  |zero=>simp at e;subst e;show h.1|succ i=>show FV h.2<|by simpa using e
def ZT:∀{l} {us},l.length=us.length->(∀(i:Nat) (t) (u),l[i]?=!t->us[i]?=!u->∃as,Reads h u t.data as)->∃as,ReadsAll h us (Bs l) as
 |[],[],z,y=>{_,.nil}|[],z::y,e,x=>by simp at e|z::y,[],e,x=>by simp at e|t::l,u::us,e,f=>by
  let(k,c):=f 0 t u rfl rfl;let(m,d):=ZT (l:=l) (us:=us) (by simpa using e) λi g j a b=>f (i+1) g j (by simpa using a)<|by simpa using b
  show{_,.cons c d}
def VE(e:(DQ P w).is k v=true):Reads h v (iB k) []:=by
 rcases F9 (e) with ⟨i,t,rfl,rfl⟩|⟨x,t,rfl,rfl⟩;show .int i t;show .str x t
def NJ:∀(ks) (xs) (l) (vs),KV (Jg ks xs) vs->l.length=xs.length->ks.length=xs.length->(∀(i:Nat) (t) (x),l[i]?=!t->xs[i]?=!x->∀{u},Ab x u->∃as,Reads h u t.data as) ->
  ∃bs,PyProof.V.PairsRead h iB vs ((ks.map PyData.int).zip (Bs l)) bs
 |[],xs,l,vs,r,Z,Y,X=>by
  have b:Paired _ [] vs:=(show Paired _ (Jg [] xs) vs from r);cases b;show{_,.nil}
 |k::ks,[],l,vs,r,Z,a,Y=>by simp at a|k::ks,x::xs,[],vs,r,e,Z,Y=>by simp at e|k::ks,x::xs,t::l,vs,r,e,a,f=>by
  have b:Paired (λ(p:Key×V) (q:Key×Value)=>p.1=q.1/\Ab p.2 q.2) ((Sum.inl k,x)::Jg ks xs) vs:=r;cases b with
  |@cons Z q Y j hd s=>
   let(w,m):=f 0 t x rfl rfl hd.2;let(y,n):=NJ ks xs l j s (by simpa using e) (by simpa using a) λi o v c d=>f (i+1) o v (by simpa using c)<|by simpa using d
   let(g,z):=q;cases (show Sum.inl k=g from hd.1);show{_,.cons m n}
section
variable {X:Cx}{pz:List<|Addr×Obj}{O:L2.St}{F H:Hp}{s:Shared}
def HR(I:Inv X pz O H s)(fh:Ah F H)(h:Rp X.K F H t x A)(g:t.pln=true):∀{u},Ab x u->∃as,Reads s.heap u t.data as:=by
 let D:∀{l } {xs } {B },Ar xs B->l.length=xs.length->(∀(i:Nat) (t ) (x ),l[i]?=!t->xs[i]?=!x->∀{u },Ab x u->∃as,Reads s.heap u t.data as)->∃as,ReadsAll s.heap B (Bs l) as:=by
  intro l xs B r e j;show ZT (e.trans r.length) λi t u a m=>?_
  let T:i<xs.length:=by
   let:=(Ê.mp a).1;lia
  let(Z,E,V):=r.get<|Á T;rw[m]at E;cases E;show j i t _ a (Á T) V
 let w:∀{p } {l } {xs },Ag X.K H p xs->l.length=xs.length->(∀(i:Nat) (t ) (x ),l[i]?=!t->xs[i]?=!x->∀{u },Ab x u->∃as,Reads s.heap u t.data as)->∃as,Reads s.heap (.ref p) (.list<|Bs l) as:=by
  intro p l xs Q e j;let(B,r,(o,n,E,N,W,P),_):=I.list Q;let(as,S):=D r e j;show{_,.list E N P<|by simpa using S}
 let tups:∀{p } {l } {xs },CP X.K H p xs->l.length=xs.length->(∀(i:Nat) (t ) (x ),l[i]?=!t->xs[i]?=!x->∀{u },Ab x u->∃as,Reads s.heap u t.data as)->∃as,Reads s.heap (.ref p) (.tuple<|Bs l) as:=by
  intro p l xs Q e j;let(B,r,(o,E,N,n,P),_):=I.tuple Q;let(as,S):=D r e j;show{_,.tuple E N P<|by simpa using S}
 induction h with
 |non=>intro u r;cases r;show{_,.none}|bl b=>intro u r;cases r;show{_,.bool b}|int i=>intro u r;let(t,rfl):=r;show{_,.int i t}
 |str y=>intro u r;let(t,rfl):=r;show{_,.str y t}
 |@shr k p xs l h e c j=>
  intro u r;cases r;cases k with
  |lst=>show w (Ag.of<|fh _ _ h) e λi t x a m=>j i t x a m (FV g a)|rl=>show w (fh.seq h.l) e λi t x a m=>j i t x a m (FV g a)|tup=>show tups (CP.of<|fh _ _ h) e λi t x a m=>j i t x a m (FV g a)|rt=>show tups (HP fh h) e λi t x a m=>j i t x a m (FV g a)|pin q=>show w (Ag.of<|fh _ _ h) e λi t x a m=>j i t x a m<|FV g a
 |@dic p ob K xs l h e G c j=>
  intro u r;cases r;let(Y,z,hd,M,C,J):=(I.hok p _<|fh _ _ h);let(bs,L):=NJ K xs l M C e G λi t x a m=>j i t x a m<|FV g a
  show{_,ŵ (λk v q=>VE q) J L}
 |@pdc p K xs l h e G c j=>
  intro u r;cases r;let(z,hd,M,C,J):=(I.hok p _<|fh _ _ h);let(bs,L):=NJ K xs l M C e G λi t x a m=>j i t x a m<|FV g a
  show{_,ŵ (λk v q=>VE q) J L}
 |@odc p K xs l f h e G c j=>
  intro u r;cases r;let(z,hd,M,C,J):=(I.hok p _ h);let(bs,L):=NJ K xs l M C e G λi t x a m=>j i t x a m<|FV g a
  show{_,ŵ (λk v q=>VE q) J L}
 |obj h e c j=>cases g|oob R f h e c d dp o j=>cases g|osd R f h e G c d dp o j=>cases g|@own U p xs l hk R f h e c d dp o j=>
  intro u r;cases r;cases U with
  |lst=>show w (Ag.of h) e λi t x a m=>j i t x a m (FV g a)|pin q=>show w (Ag.of h) e λi t x a m=>j i t x a m (FV g a)|tup=>show tups (CP.of h) e λi t x a m=>j i t x a m (FV g a)|_=>show hk.elim
end
def Em(t:T):Bool:=t.pln && t.data.canLay0
def L3(t u:T):Bool:=PyData.eqv t.data u.data
def Ip(t u:T):Bool:=Em t && Em u && decide (min t.data.depth u.data.depth<=60)
def BS(t u:T):q9:=if Ip t u then ↑(.bl<|L3 t u) else ()
def Cm(t u:T):q9:=if Ip t u then ↑(.bl<|(not (L3 t u))) else ()
def GP(t:T)(l:qD):Bool:=Em t && (FC l && PyData.canLayAll0 (Bs l)) && decide (min (PyData.depthAll<|Bs l) t.data.depth<=60)
def Ij(t:T)(l:qD):Bool:=(Bs l).any λy=>PyData.eqv y t.data
def iS(t:T)(y:Str):q9:=match t with
 |.str x=>!(.bl<|(not (Builtin.Str.occurrences y x 0 y.length 1).isEmpty))|z=>()
def ES(t c:T):q9:=match c with
 |.nd z x l=>if GP t l then ↑(.bl<|Ij t l) else ()
 |.str y=>iS t y|z=>()
def FX(t c:T):q9:=match c with
 |.nd z y l=>if GP t l then ↑(.bl<|(not (Ij t l))) else ()
 |z=>()
def Dw(K:ka)(F H:Hp)(v:T)(Q:VK):Prop:=∀b a z C,Ext F H b a C->Rp K b a v z C->Q z a
def CA(K:ka)(g:T->T->q9):R2:=λx y H Q=>∃F t u v,Ah F H/\Rp K F F t x R0/\Rp K F F u y R0/\g t u=!v/\Dw K F H v Q
def Mz(K:ka)(g:T->q9):V->Hp->VK->Prop:=λx H Q=>∃F t v,Ah F H/\Rp K F F t x R0/\g t=!v/\Dw K F H v Q
def Di(K:ka)(g:qD->q9):qC->Hp->VK->Prop:=λxs H Q=>∃F a v,Ah F H/\As K F a xs/\g a=!v/\Dw K F H v Q
section
variable {K:ka}{F H:Hp}{Q:VK}
theorem Dw.int(q:Dw K F H (.int i) Q)(s:Ah F H):Q (.int i) H:=q F H _ _ (Ext.refl s)<|.int i
theorem Dw.bl(q:Dw K F H (.bl b) Q)(s:Ah F H):Q (.bl b) H:=q F H _ _ (Ext.refl s)<|.bl b
theorem Dw.str(q:Dw K F H (.str x) Q)(s:Ah F H):Q (.str x) H:=q F H _ _ (Ext.refl s)<|.str x
def Dw.list(q:Dw K F H (.own l) Q)(s:Ah F H)(r:As K F l xs)  (b:H p=()):Q (.ref p)<|upd H p<|.lst xs:=by
 show q F (upd H p<|.lst xs) (.ref p) _ ((Ext.newO s b).mono ?_)<|.own (k:=.lst) trivial (λϊ=>R0) (HZ s b) CT r.1 (λi t x c d=>?_) (λϊ y y y z=>z.elim) (λϊ z=>z) (λϊ y z=>z.elim)
 rintro a (z|⟨i,z⟩);show z;show z.elim;show(r.2 i t x c d).any
def Dw.tuple(q:Dw K F H (.tup l) Q)(s:Ah F H)(r:As K F l xs)(a:H p=()):Q (.ref p)<|upd H p<|.tup xs:=by
 let e:=Ext.new (o:=.tup xs) s a;show q _ _ _ _ e<|As.of_node CT<|r.same e.ff
end
def Ey(i:Int):Bool:=@decide (-(2 ^ 64)<i/\i<2 ^ 64) (Classical.propDecidable _)
def DB(i:Int):Bool:=@decide (-(10 ^ 70)<i/\i<10 ^ 70) (Classical.propDecidable _)
def VI(k:Int):Bool:=@decide (k<2 ^ 63/\-(2 ^ 63)<=k) (Classical.propDecidable _)
def B9(i j:Int):Bool:=Ey i || Ey j || (DB i && DB j)
def BN:Nat:=16777216
def BW:T->T->q9
 |.int i,.int j=>!(.int<|i+j)|.str x,.str y=>if x.length+y.length<=BN then ↑(.str<|x++y) else ()
 |.nd z .lst l,.nd w .lst m=>if l.length+m.length<=BN then ↑(.own<|l++m) else ()
 |z,w=>()
def FL:T->T->q9
 |.int i,.int j=>!(.int<|i - j)|z,y=>()
def Bi:T->T->q9
 |.int i,.int j=>if B9 i j then ↑(.int<|i * j) else ()
 |.nd z .lst l,.int k=>if VI k=true/\l.length * k.toNat<=BN then ↑(.own (List.replicate k.toNat l).flatten) else ()
 |.str x,.int k=>if 0<=k/\k<=1000000/\x.length<=16 then ↑(.str<|Txt.mul x k) else ()
 |z,y=>()
def Ba:T->T->q9
 |.int i,.int j=>if j≠0 then ↑(.int<|i.fmod j) else ()
 |z,y=>()
def Co:T->T->q9
 |.int i,.int j=>if j≠0/\DB j then ↑(.int<|i.fdiv j) else ()
 |z,y=>()
def FU:T->T->q9
 |.int i,.int j=>if 0<=j/\j<=1000000/\Ey i then ↑(.int<|i ^ j.toNat) else ()
 |z,y=>()
def L9:T->T->q9
 |.int i,.int j=>!(.int<|Builtin.bitOr i j)|z,y=>()
def Lb:T->T->q9
 |.int i,.int j=>!(.int<|Builtin.bitAnd i j)|z,y=>()
def CD(f:Int->Int->Bool):T->T->q9
 |.int i,.int j=>!(.bl<|f i j)|z,y=>()
def Ej:T->q9
 |.int i=>!(.int<|-i)|z=>()
def Sy(h:Ey i=true):-(2 ^ 64)<i/\i<2 ^ 64:=@of_decide_eq_true _ (Classical.propDecidable _) h
theorem Sx(h:DB i=true):Sm i:=@of_decide_eq_true _ (Classical.propDecidable _) h
def iD(h:VI k=true):k<2 ^ 63/\-(2 ^ 63)<=k:=@of_decide_eq_true _ (Classical.propDecidable _) h
def GN:BN=sizeLine:=by rw[Ą];rfl
def Mw{K}{F}:∀{l m} {xs ys},As K F l xs->As K F m ys->As K F (l++m) (xs++ys)
 |[],m,xs,ys,r,q=>by rw[r.inv0];show q|t::l,m,xs,ys,r,q=>by
  let(x,c,rfl,a,b):=r.inv;show .cons a<|Mw b q
def ZK{K}(r:As K F l xs):∀n ,As K F (List.replicate n l).flatten (List.replicate n xs).flatten
 |0=>.nil|n+1=>by
  show Mw r<|ZK r n
section
variable {X:Cx}
def E2{K}(h:Rp K F H (.nd o k l) x R0):∃p xs,x=.ref p/\o=false/\G0 K F k p xs/\As K F l xs:=by
 generalize a:R0=A at h;cases h with
 |shr h e c=>show{_,_,rfl,rfl,h,e,λi t x b g=>(a▸c i t x b g).any}|@own j p xs l hk R f h e c d dp o=>
  exfalso;let z:=congrFun a p;let:R0 p:=by rw[z];show .inl rfl
  show this
nonrec def zma:Ay X (binaryOp .Add)<|CA X.K BW:=by
 intro d s O H x y v u Q I b c h;let(F,n,o,r,fh,f,g,e,q):=h;unfold BW at e;split at e
 cases e;rw[f.int_inv]at b;rw[g.int_inv]at c;show zps d s O H _ _ v u Q I b c {_,_,rfl,rfl,q.int fh};split at e;cases e;rename_i hz;rw[f.str_inv]at b;rw[g.str_inv]at c;show zf7 d s O H _ _ v u Q I b c {_,_,rfl,rfl,by rw[<- GN];show hz,q.str fh};cases e;split at e;cases e;rename_i hz;let(p,xs,rfl,rfl,k,i):=E2 f;let(l,m,rfl,rfl,n2,j):=E2 g;show zpq d s O H _ _ v u Q I b c {p,l,xs,m,rfl,rfl,fh _ _ k,fh _ _ n2,?_,λa ha=>q.list fh (Mw i j) ha}
 rw[<- i.1,<- j.1,<- GN];show hz;cases e;cases e
def IZ(m:Ay X f<|rI C g)(l:∀t u v,gT t u=!v->∃i j,t=.int i/\u=.int j/\C i j/\((∃k,v=.int k/\g i j=.int k)\/∃k,v=.bl k/\g i j=.bl k)):Ay X f<|CA X.K gT:=by
 intro n s O H x y v u Q I b c h;let(F,w,z,r,fh,o,p,e,q):=h;let(i,j,rfl,rfl,d,hv):=l _ _ _ e;rw[o.int_inv]at b;rw[p.int_inv]at c;show m n s O H _ _ v u Q I b c {i,j,rfl,rfl,d,?_}
 rcases hv with ⟨k,rfl,a⟩|⟨k,rfl,a⟩;rw[a];show q.int fh;rw[a];show q.bl fh
theorem Ay.weak(h:Ay X f r)(w:∀x y H Q,r' x y H Q->r x y H Q):Ay X f r':=λa s O H x y v u Q I b c q=>h a s O H x y v u Q I b c<|w x y H Q q
theorem Mx(h:Ay X f<|FR g):Ay X f<|rI (λϊ z=>True) g:=Ay.weak h λx y H Q ⟨i,j,a,b,_,q⟩=>{(i),j,a,b,q}
theorem zm4:Ay X (binaryOp .Sub)<|CA X.K FL:=IZ (Mx zpl) λt u v h=>by
 unfold FL at h;split at h;cases h;show{_,_,rfl,rfl,trivial,.inl {_,rfl,rfl}};cases h
theorem zm9:Ay X (binaryOp .BitOr)<|CA X.K L9:=IZ (Mx op_or) λt u v h=>by
 unfold L9 at h;split at h;cases h;show{_,_,rfl,rfl,trivial,.inl {_,rfl,rfl}};cases h
theorem zj8:Ay X (binaryOp .BitAnd)<|CA X.K Lb:=IZ (Mx zpr) λt u v h=>by
 unfold Lb at h;grind
theorem zm7:Ay X (binaryOp .Mod)<|CA X.K Ba:=IZ zm3 λt u v h=>by
 unfold Ba at h;split at h;split at h;cases h;show{_,_,rfl,rfl,by assumption,.inl {_,rfl,rfl}};cases h;cases h
nonrec theorem zj7:Ay X (binaryOp .FloorDiv)<|CA X.K Co:=IZ zj6 λt u v h=>by
 unfold Co at h;split at h;split at h;cases h;rename_i a;show{_,_,rfl,rfl,{a.1,Sx a.2},.inl {_,rfl,rfl}};cases h;cases h
nonrec theorem zm5:Ay X (binaryOp .Pow)<|CA X.K FU:=IZ zpn λt u v h=>by
 unfold FU at h;split at h;split at h;cases h;rename_i a;let q:=Sy a.2.2;show{_,_,rfl,rfl,{a.1,a.2.1,by lia},.inl {_,rfl,rfl}}
 cases h;cases h
theorem NM(a:Ay X (compareOp op)<|FR λi j=>.bl<|g i j):Ay X (compareOp op)<|CA X.K<|CD g:=IZ (Mx a) λt u v h=>by
 unfold CD at h;grind
nonrec def zm6:Ay X (binaryOp .Mult)<|CA X.K Bi:=by
 intro f s O H x y v u Q I d c h;let(F,o,t,r,fh,g,l,e,q):=h;unfold Bi at e;split at e
 rename_i i j;split at e;cases e;rename_i b;rw[g.int_inv]at d;rw[l.int_inv]at c;unfold B9 at b;rw[Ē,Ē,È]at b;rcases b with (b|b)|b;show aD f s O H _ _ v u Q I d c {i,j,rfl,rfl,.inl<|Sy b,q.int fh};show aD f s O H _ _ v u Q I d c {i,j,rfl,rfl,.inr<|Sy b,q.int fh};show zm2 f s O H _ _ v u Q I d c {i,j,rfl,rfl,{Sx b.1,Sx b.2},q.int fh};cases e;split at e;cases e;rename_i b;let(p,xs,rfl,rfl,n,m):=E2 g;rw[l.int_inv]at c;show zpm f s O H _ _ v u Q I d c {p,_,xs,rfl,rfl,fh _ _ n,(iD b.1).2,(iD b.1).1,?_,λa ha=>q.list fh (ZK m _) ha}
 rw[<- m.1,<- GN];show b.2;cases e;split at e;cases e;rename_i b;rw[g.str_inv]at d;rw[l.int_inv]at c;let(o,rfl):=d;let(t,rfl):=c;show SB.mul (mulOk_of 16 1048576 b.2.2 (by lia) (by lia) (by decide)<|by decide) λw k=>{.str _,H,I.tok _,{_,rfl},q.str fh}
 cases e;cases e
def zko:Lf X (unaryOp .USub)<|Mz X.K Ej:=by
 intro b s O H x v Q I a h;let(F,t,r,fh,c,e,q):=h;unfold Ej at e;split at e
 cases e;rw[c.int_inv]at a;show znh b s O H _ v Q I a {_,rfl,q.int fh};cases e
def mD{A:Around}(hu:A.units+64<cLine)(h:n<=60):A.units+n<cLine:=by lia
nonrec def zpw(hu:X.A.units+64<cLine):Ay X (compareOp .Eq)<|CA X.K BS:=by
 intro l s O H x y v u Q I g i h;let(F,m,n,r,fh,d,f,e,q):=h;unfold BS at e;split at e
 cases e;rename_i a;unfold Ip Em at a;rw[È,È,È,È,ü]at a;let(j,b):=HR I fh (d.any) a.1.1.1 g;let(k,c):=HR I fh (f.any) a.1.2.1 i;show SeqAt.compareEq_reads b c a.1.1.2 a.1.2.2 (mD hu a.2) {.bl _,H,I,rfl,q.bl fh}
 cases e
nonrec def zpv(hu:X.A.units+64<cLine):Ay X (compareOp .In)<|CA X.K ES:=by
 intro j s O H x y v u Q I d f h;let(F,m,t,r,fh,g,i,e,q):=h;unfold ES at e;split at e
 rename_i o k l;split at e;cases e;rename_i a;unfold GP Em at a;rw[È,È,È,È,ü]at a;let(n,b):=HR I fh (g.any) a.1.1.1 d;let(p,c):=HR I fh (i.any) (a.1.2.1) f;let hd:X.A.units+1+min (PyData.depthAll<|Bs l) m.data.depth<cLine:=by lia
 cases k with
 |lst=>show Ž c b a.1.2.2 a.1.1.2 hd {.bl _,H,I,rfl,q.bl fh}|rl=>show Ž c b a.1.2.2 a.1.1.2 hd {.bl _,H,I,rfl,q.bl fh}|tup=>show SeqAt.in_tuple_reads c b a.1.2.2 a.1.1.2 hd {.bl _,H,I,rfl,q.bl fh}|rt=>show SeqAt.in_tuple_reads c b a.1.2.2 a.1.1.2 hd {.bl _,H,I,rfl,q.bl fh}|pin z=>show Ž c b a.1.2.2 a.1.1.2 hd {.bl _,H,I,rfl,q.bl fh}
 cases e;unfold iS at e;split at e;cases e;rw[g.str_inv]at d;rw[i.str_inv]at f;show zgd j s O H _ _ v u Q I d f {_,_,rfl,rfl,q.bl fh};cases e;cases e
nonrec def zge(hu:X.A.units+64<cLine):Ay X (compareOp .NotIn)<|CA X.K FX:=by
 intro p s O H x y v u Q I g i h;let(F,j,t,r,fh,d,f,e,q):=h;unfold FX at e;split at e
 rename_i o k l;split at e;cases e;rename_i a;unfold GP Em at a;rw[È,È,È,È,ü]at a;let(m,b):=HR I fh (d.any) a.1.1.1 g;let(n,c):=HR I fh (f.any) (a.1.2.1) i;let hd:X.A.units+1+min (PyData.depthAll<|Bs l) j.data.depth<cLine:=by lia
 cases k with
 |lst=>show Ŷ c b a.1.2.2 a.1.1.2 hd {.bl _,H,I,rfl,q.bl fh}|rl=>show Ŷ c b a.1.2.2 a.1.1.2 hd {.bl _,H,I,rfl,q.bl fh}|tup=>show SeqAt.notIn_tuple_reads c b a.1.2.2 a.1.1.2 hd {.bl _,H,I,rfl,q.bl fh}|rt=>show SeqAt.notIn_tuple_reads c b a.1.2.2 a.1.1.2 hd {.bl _,H,I,rfl,q.bl fh}|pin z=>show Ŷ c b a.1.2.2 a.1.1.2 hd {.bl _,H,I,rfl,q.bl fh}
 cases e;cases e
def isT(b:T)(a:Bool)(t c:T):q9:=!(.bl (if a then (not (decide (t.data.depth=0) && eqIs t b)) else eqIs t b))
where eqIs:T->T->Bool
  |.non,.non=>true|.bl x,.bl y=>x == y|z,w=>false
end
set_option genInjectivity true in
inductive Rs where
 |v (t:T) (b:Bool)|x (c:Str)
abbrev AH:=AL->Option Rs
set_option genInjectivity true in
inductive RsL where
 |v (ts:List T) (b:Bool)|x (c:Str)
abbrev BM:=AL->Option RsL
def tot(R:Nat->Rg):Rg:=λa=>∃i,R i a
def EY(K:ka)(F H:Hp)(R:Nat->Rg)(v:T)(b:Bool)(x:V)(B:Rg):Prop:=match b with
 |true=>B=R0/\∃A,(∀a,A a->tot R a)/\Rp K F H v x A|false=>Rp K F H v x B
def Gz(b:Bool)(F H:Hp)(R:Nat->Rg):Hp:=match b with
 |true=>frz F H (tot R)|false=>F
section
variable {K:ka}{F H F1 H1:Hp}{O:L2.St}{Y:AL}{R:Nat->Rg}{B:Rg}{b c:Bool}{v:T}{x:V}
def StR.tot(S:StR K F H O Y R)(h:tot R a):F a=()/\∃u,H a=!u:=by
 let(i,z):=h;show S.dom z
def OI(S:StR K F H O Y R):Ah F<|Gz b F H R:=by
 cases b with
 |true=>show Fd λa z=>(S.tot z).1|false=>show .refl _
def VZ(S:StR K F H O Y R):Ah (Gz b F H R) H:=by
 cases b with
 |true=>show Il S.fh|false=>show S.fh
def zmu(S:StR K F H O Y R)(e:Ext F H F1 H1 B)(h:b=true->c=true):Ah (Gz b F H R)<|Gz c F1 H1 R:=by
 let f:=S.ext e;cases b with
 |false=>show e.ff.trans (OI f)|true=>
  rw[h rfl];intro a u q;show(?_:frz F1 H1 (Pu.tot R) a=!u)
  by_cases z:Pu.tot R a;rw[HE z];let d:frz F H (Pu.tot R) a=!u:=q;rw[HE z]at d;show e.hh _ _ d
  rw[Fl z];let d:frz F H (Pu.tot R) a=!u:=q;rw[Fl z]at d;show e.ff _ _ d
def EY.frz(S:StR K F H O Y R)(e:Ext F H F1 H1 B)(g:EY K F1 H1 R v b x B):∃F2,Ext F H F2 H1 R0/\Ah F1 F2/\Rp K (Gz b F2 H1 R) (Gz b F2 H1 R) v.share x R0:=by
 let d:=S.ext e;cases b with
 |true=>
  let(rfl,A,f,r):=g
  show{F1,e,.refl _,r.share (OI d) λa u z q=>by
   show(?_:Pu.frz F1 H1 (Pu.tot R) a=!u);rw[HE<|f a z];show q}
 |false=>
  let c :=g;let n:∀a,B a->F1 a=():=λa z=>(c.dom z).1
  show{_,e.frz n,Fd n,c.share (Fd n) λa u z q=>by
   show(?_:Pu.frz F1 H1 B a=!u);rw[HE z];show q}
theorem Ext.grow(e:Ext F H F1 H1 R0)(s:Ah H1 H2):Ext F H F1 H2 R0:={e.hh.trans s,e.ff,e.fh.trans s,λϊ z=>z.elim,e.nf}
end
def Gf(c:Str):Option Nat:=match c.cps.toList with
 |[78,111,82,117,110,n]=>!n|z=>()
def HV(c:Str):Str:=match Gf c with
 |some z=>"NoRun"|none=>c
def TU(c:Str):qC:=match Gf c with
 |some n=>[.int n]|none=>[]
def X8(F:Hp)(c:Str)(a:Option Addr):Prop:=∀v∈TU c,Lg F a v
def XE(E:XK)(ca:Str->Value)(c:Str)(F H:Hp):Prop:=∀a,X8 F c a->E (ca<|HV c) a H
def XE.plain(h:XE E ca c F H)(a:Gf c=()):E (ca c) () H:=by
 let:=h () (by unfold X8 TU;grind);unfold HV at this;grind
theorem XE.any(h:XE E ca c F H)(b:Gf c=()):XE E ca c F' H:=λa z=>h a (by unfold X8 TU;grind)
def pM(K:ka)(E:L2.St->XK)(ca:Str->Value)(O:L2.St)(Q:VK)(F H:Hp)(R:Nat->Rg):Option Rs->Prop
 |some (.v v b)=>∀d a x B,Ext F H d a B->EY K d a R v b x B->Q x a|some (.x c)=>∀d a,Ext F H d a R0->XE (E O) ca c d a|none=>False
def tM(K:ka)(E:L2.St->XK)(ca:Str->Value)(m:AH):TE:=λO H Q=>∃F Y R,StR K F H O Y R/\pM K E ca O Q F H R (m Y)
def pMs(K:ka)(E:L2.St->XK)(ca:Str->Value)(O:L2.St)(Q:qC->Hp->Prop)(F H:Hp)(R:Nat->Rg):Option RsL->Prop
 |some (.v e b)=>∀d a xs,Ext F H d a R0->As K (Gz b d a R) e xs->Q xs a|some (.x c)=>∀d a,Ext F H d a R0->XE (E O) ca c d a|none=>False
def CI(K:ka)(E:L2.St->XK)(ca:Str->Value)(m:BM):TA:=λO H Q=>∃F Y R,StR K F H O Y R/\pMs K E ca O Q F H R (m Y)
def pMB(K:ka)(E:L2.St->XK)(ca:Str->Value)(O:L2.St)(Q:Bool->Hp->Prop)(F H:Hp):Option Rs->Prop
 |some (.v (.bl c) z)=>∀b a,Ext F H b a R0->Q c a|some (.v z y)=>False|some (.x c)=>∀b a,Ext F H b a R0->XE (E O) ca c b a|none=>False
def B7(K:ka)(E:L2.St->XK)(ca:Str->Value)(m:AH):TT:=λO H Q=>∃F Y R,StR K F H O Y R/\pMB K E ca O Q F H (m Y)
def AA(i:Nat):AH:=λY=>match Y[i]? with
 |some !t=>!(.v t<|(not t.sh))|z=>()
def mC(t:T):AH:=λϊ=>!(.v t false)
def AE:BM:=λϊ=>!(.v [] false)
def AB(m:AH)(ms:BM):BM:=λY=>match m Y with
 |some (.v t b)=>(match ms Y with
  |some (.v d a)=>!(.v (t.share::d)<|b || a)|r=>r)
 |some (.x c)=>!(.x c)|none=>()
def B5(b:Bool)(v:T):Option Rs:=if b && (not v.flat) then () else !(.v v false)
def Bk(g:qD->q9)(ms:BM):AH:=λY=>match ms Y with
 |some (.v a b)=>(match g a with
  |some v=>B5 b v|none=>())
 |some (.x c)=>!(.x c)|none=>()
def g2(g:T->T->q9):qD->q9
 |[t,u]=>g t u|z=>()
def g1(g:T->q9):qD->q9
 |[t]=>g t|z=>()
abbrev m1(g:T->q9)(a:AH):AH:=Bk (g1 g)<|AB a AE
abbrev m2(g:T->T->q9)(a b:AH):AH:=Bk (g2 g)<|AB a<|AB b AE
def DU(c:AH)(a b:AH):AH:=λY=>match c Y with
 |some (.v (.bl true) z)=>a Y|some (.v (.bl false) z)=>b Y|some (.x c)=>!(.x c)|z=>()
def BJ(c:AH):AH:=λY=>match c Y with
 |some (.v (.bl b) z)=>!(.v (.bl<|(not b)) false)|some (.x c)=>!(.x c)|z=>()
def Bq(a b:AH):AH:=DU a b<|mC<|.bl false
def Bu(a b:AH):AH:=DU a (mC<|.bl true) b
section
variable {X:Cx}{E:L2.St->XK}{ca:Str->Value}{O:L2.St}{H:Hp}{m ma mb mc:AH}{ms:BM}{K:ka}{a b c e:Expr}{es:kh}{pos:Pos}
theorem PE.weak(h:PE X e t)(w:∀O H Q,t' O H Q->t O H Q):PE X e t':=λa s O H Q I q=>h a s O H Q I<|w O H Q q
theorem PT.weak(h:PT X e t)(w:∀O H Q,t' O H Q->t O H Q):PT X e t':=λa s O H Q I q=>h a s O H Q I<|w O H Q q
theorem PA.weak(h:PA X es t)(w:∀O H Q,t' O H Q->t O H Q):PA X es t':=λpos a s O H Q I q=>h pos a s O H Q I<|w O H Q q
def tM.mono(h:tM K E ca m O H Q)(w:∀x H',Q x H'->Q' x H'):tM K E ca m O H Q':=by
 let(F,Y,R,S,q):=h;show{F,Y,R,S,?_};cases a:m Y with
 |none=>rw[a]at q;show q|some r=>
  rw[a]at q;cases r with
  |v v b=>show λd H' x B e g=>w _ _ (q d H' x B e g)|x c=>show q
def CI.mono(h:CI K E ca ms O H Q)(w:∀x H',Q x H'->Q' x H'):CI K E ca ms O H Q':=by
 let(F,Y,R,S,q):=h;show{F,Y,R,S,?_};cases a:ms Y with
 |none=>rw[a]at q;show q|some r=>
  rw[a]at q;cases r with
  |v v b=>show λd H' x e g=>w _ _ (q d H' x e g)|x c=>show q
def IJ(h:CI K E ca AE O H Q):Q [] H:=by
 let(F,Y,R,S,q):=h;show q F H [] (Ext.refl S.fh) .nil
def IK(h:CI K E ca (AB m ms) O H Q):tM K E ca m O H λx H1=>CI K E ca ms O H1 λxs H2=>Q (x::xs) H2:=by
 let(F,Y,R,S,q):=h;show{F,Y,R,S,?_};unfold AB at q;cases l:m Y with
 |none=>rw[l]at q;show q|some r=>
  rw[l]at q;cases r with
  |x c=>show q|v t b=>
   intro s u x B e g;let(n,k,_,p):=EY.frz S e g;have j:=S.ext k;show{n,Y,R,j,?_};cases hs:ms Y with
   |none=>rw[hs]at q;symm|some r=>
    erw[hs]at q;cases r with
    |x c=>show λi f d=>q i f (k.trans0 d)|v w o=>
     intro i f xs d rs;show q i f (x::xs) (k.trans0 d) ?_;show .cons (H:=f) ((p.frame (zmu j d<|by grind) λa z=>z.elim)) ?_;cases o with
     |true=>grind|false=>
      cases b with
      |false=>show rs|true=>show rs.same<|OI<|j.ext d
def IL(h:tM K E ca (Bk g ms) O H Q):CI K E ca ms O H λxs H1=>Di K g xs H1 Q:=by
 let(F,Y,R,S,q):=h;show{F,Y,R,S,?_};unfold Bk at q;cases hs:ms Y with
 |none=>rw[hs]at q;symm|some r=>
  erw[hs]at q;cases r with
  |x c=>show q|v l b=>
   intro f H1 xs a rs;have n:=S.ext a;cases e:g l with
   |none=>erw[e]at q;symm|some v=>
    erw[e]at q;show{Gz b f H1 R,l,v,VZ n,rs,e,λm i z C j k=>?_};unfold B5 at q;cases b with
    |false=>show q m i z C (a.trans0 j) k|true=>
     cases d:v.flat with
     |false=>rw[d]at q;show False.elim q|true=>rw[d]at q;show q f i z R0 (a.grow j.hh)<|k.flat_any d
def rTn2(h:Di K (g2 g) [x,y] H Q):CA K g x y H Q:=by
 let(F,l,v,fh,rs,e,q):=h;unfold g2 at e;split at e;let(m,j,b,d,a):=rs.inv;let(x2,k,c,f,i):=a.inv;cases b;cases c;show{F,_,_,v,fh,d,f,e,q}
 cases e
def rTn1(h:Di K (g1 g) [x] H Q):Mz K g x H Q:=by
 let(F,f,v,fh,rs,e,q):=h;unfold g1 at e;split at e;let(i,d,a,b,c):=rs.inv;cases a;show{F,_,v,fh,b,e,q};cases e
theorem Qf(h:tM K E ca (Bk (g2 g)<|AB ma<|AB mb AE) O H Q):JX (CA K g) (tM K E ca ma) (tM K E ca mb) O H Q:=
 (IK<|IL h).mono λx c a=>(IK a).mono λy d b=>rTn2<|IJ b
theorem zno(h:tM K E ca (Bk (g1 g)<|AB ma AE) O H Q):YW (Mz K g) (tM K E ca ma) O H Q:=
 (IK<|IL h).mono λx b a=>rTn1<|IJ a
nonrec def znf(h:tM K E ca (AA i) O H Q):YV i O H Q:=by
 let(F,Y,R,S,q):=h;unfold AA at q;split at q;rename_i t b;let(x,e,r):=S.rep i t b;show{x,e,q F H x R0 (Ext.refl S.fh) ?_};cases hs:t.sh with
 |true=>show r.move hs (.refl _)|false=>show{rfl,R i,λa z=>{(i),z},r}
 show False.elim q
theorem Z0(b:X.N[i]?=!x)(hv:EW X.env.scope x)(hd:(x == "__debug__")=false)(a:(x == "__classdict__")=false):PE X (.Name x pos)<|tM X.K E ca<|AA i:=PE.weak (Ge b hv hd a) λϊ z z h=>znf h
theorem Kj(h:PE X e<|tC v)(r:∀F H,Rp X.K F H t v R0):PE X e<|tM X.K E ca<|mC t:=PE.weak h λO H Q h=>by
 let(F,Y,R,S,q):=h;show q F H v R0 (Ext.refl S.fh)<|r _ _
theorem Z6:PA X []<|CI X.K E ca AE:=PA.weak GB λO H Q h=>IJ h
theorem Zc(ha:PE X e<|tM X.K E ca m)(hr:PA X es<|CI X.K E ca ms)(hs:starEach (e::es) X.env=(false,eval e X.env)::starEach es X.env):PA X (e::es)<|CI X.K E ca<|AB m ms:=
 PA.weak (FW ha hr hs) λO H Q h=>IK h
theorem r_bin(c:Ay X (binaryOp op)<|CA X.K g)(ha:PE X a<|tM X.K E ca ma)(hb:PE X b<|tM X.K E ca mb):PE X (.BinOp a op b pos)<|tM X.K E ca<|Bk (g2 g)<|AB ma<|AB mb AE:=
 PE.weak (pe_op c ha hb) λO H Q h=>Qf h
theorem r_un(b:Lf X (unaryOp op)<|Mz X.K g)(ha:PE X a<|tM X.K E ca ma):PE X (.UnaryOp op a pos)<|tM X.K E ca<|Bk (g1 g)<|AB ma AE:=
 PE.weak (pe_un b ha) λO H Q h=>zno h
theorem r_cmp(d:Ay X (compareOp op)<|CA X.K g)(ha:PE X a<|tM X.K E ca ma)(hb:PE X b<|tM X.K E ca mb)(c:behindInMarks op b=false):PE X (.Compare a [op] [b] pos)<|tM X.K E ca<|Bk (g2 g)<|AB ma<|AB mb AE:=
 PE.weak (zlw d ha hb c) λO H Q h=>Qf h
def M9(h:B7 K E ca m O H Q):tM K E ca m O H λx H1=>∃k,x=.bl k/\Q k H1:=by
 let(F,Y,R,S,q):=h;show{F,Y,R,S,?_};cases a:m Y with
 |none=>rw[a]at q;show q|some r=>
  rw[a]at q;cases r with
  |x c=>show q|v v b=>
   cases v with
   |bl k=>
    intro d f x B e g
    have i:x=.bl k:=by
     cases b with
     |true=>let(_,A,_,r):=g;show r.bl_inv
     |false=>show(g).bl_inv
    show{k,i,q d f<|e.mono λϊ z=>z.elim}
   |_=>symm
theorem zoj(d:Ay X (compareOp op)<|CA X.K g)(ha:PE X a<|tM X.K E ca ma)(hb:PE X b<|tM X.K E ca mb)(c:behindInMarks op b=false):PT X (.Compare a [op] [b] pos)<|B7 X.K E ca<|Bk (g2 g)<|AB ma<|AB mb AE:=
 PT.weak (zli d ha hb c) λO H Q h=>Qf<|M9 h
theorem TM(h:PE X e<|tM X.K E ca m)(he:∀whole,isTrue e X.env whole=(do let v <- whole;standAt e.pos;holding [v] (truthy v))):PT X e<|B7 X.K E ca m:=PT.weak (zox h he) λO H Q h=>M9 h
def Yb(h:B7 K E ca (DU mc ma mb) O H Q):B7 K E ca mc O H λk H1=>if k=true then B7 K E ca ma O H1 Q else B7 K E ca mb O H1 Q:=by
 let(F,Y,R,S,q):=h;show{F,Y,R,S,?_};unfold DU at q;cases j:mc Y with
 |none=>rw[j]at q;symm|some r=>
  erw[j]at q;cases r with
  |x c=>show q|v v b=>
   cases v with
   |bl k=>
    intro l H1 i;have m:=S.ext i
    have f:∀{g },(match g Y with
      |some (.v (.bl c) z)=>∀d a,Ext F H d a R0->Q c a|some (.v z y)=>False|some (.x c)=>∀d a,Ext F H d a R0->XE (E O) ca c d a|none=>False)->B7 K E ca g O H1 Q:=λ{g} q=>by
     show{l,Y,R,m,?_};cases hr:g Y with
     |none=>grind|some r=>
      erw[hr]at q;cases r with
      |x c=>show λd a e=>q d a (i.trans0 e)|v v b=>
       cases v with
       |bl k=>show λd a e=>q d a (i.trans0 e)|_=>symm
    cases k with
    |true=>show LI (f q)|false=>show LJ<|f q
   |_=>symm
def Y7(h:tM K E ca (DU mc ma mb) O H Q):B7 K E ca mc O H λk H1=>if k=true then tM K E ca ma O H1 Q else tM K E ca mb O H1 Q:=by
 let(F,Y,R,S,q):=h;show{F,Y,R,S,?_};unfold DU at q;cases l:mc Y with
 |none=>rw[l]at q;symm|some r=>
  erw[l]at q;cases r with
  |x c=>show q|v v b=>
   cases v with
   |bl k=>
    intro m H1 j;have n:=S.ext j
    have f:∀{i },(match i Y with
      |some (.v v b)=>∀d a x B,Ext F H d a B->EY K d a R v b x B->Q x a|some (.x c)=>∀d a,Ext F H d a R0->XE (E O) ca c d a|none=>False)->tM K E ca i O H1 Q:=λ{i} q=>by
     show{m,Y,R,n,?_};cases hr:i Y with
     |none=>grind|some r=>
      erw[hr]at q;cases r with
      |x c=>show λd a e=>q d a (j.trans0 e)|v v b=>show λd a x B e g=>q d a x B (j.trans0 e) g
    cases k with
    |true=>show LI (f q)|false=>show LJ<|f q
   |_=>symm
theorem r_ife(d:PT X c<|B7 X.K E ca mc)(ha:PE X a<|tM X.K E ca ma)(hb:PE X b<|tM X.K E ca mb):PE X (.IfExp c a b pos)<|tM X.K E ca<|DU mc ma mb:=PE.weak (zj3 d ha hb) λO H Q h=>Y7 h
def zkr(h:B7 K E ca (BJ mc) O H Q):Y1 (B7 K E ca mc) O H Q:=by
 let(F,Y,R,S,q):=h;show{F,Y,R,S,?_};unfold BJ at q;cases a:mc Y with
 |none=>rw[a]at q;symm|some r=>
  erw[a]at q;cases r with
  |x c=>show q|v v b=>
   cases v with
   |bl k=>show q|_=>symm
theorem zoi(a:PT X c<|B7 X.K E ca mc):PT X (.UnaryOp .Not c pos)<|B7 X.K E ca<|BJ mc:=PT.weak (zoy a) λO H Q h=>zkr h
def znp(h:tM K E ca (BJ mc) O H Q):Y0 (tM K E ca mc) O H Q:=by
 let(F,Y,R,S,q):=h;show{F,Y,R,S,?_};unfold BJ at q;cases a:mc Y with
 |none=>rw[a]at q;symm|some r=>
  erw[a]at q;cases r with
  |x c=>show q|v v b=>
   cases v with
   |bl k=>
    intro d f x B e g
    have i:x=.bl k:=by
     cases b with
     |true=>let(_,A,_,r):=g;show r.bl_inv
     |false=>show(g).bl_inv
    show{k,i,q d f _ R0 (e.mono λϊ z=>z.elim)<|.bl _}
   |_=>symm
theorem r_not(ha:PE X a<|tM X.K E ca ma):PE X (.UnaryOp .Not a pos)<|tM X.K E ca<|BJ ma:=PE.weak (zpg ha) λO H Q h=>znp h
theorem Y6(h:tM K E ca (DU mc ma mb) O H Q):tM K E ca mc O H λx H1=>∃k,x=.bl k/\if k=true then tM K E ca ma O H1 Q else tM K E ca mb O H1 Q:=M9<|Y7 h
def Y9(r:∀F H,Rp K F H t v R0)(h:tM K E ca (mC t) O H Q):Q v H:=by
 let(F,Y,R,S,q):=h;show q F H v R0 (Ext.refl S.fh)<|r _ _
theorem r_and{rest}(ha:PE X a<|tM X.K E ca ma)(hb:PE X (.BoolOp .And (b::rest) pos)<|tM X.K E ca mb):PE X (.BoolOp .And (a::b::rest) pos)<|tM X.K E ca<|Bq ma mb:=
 PE.weak (zpk ha hb) λO H Q h=>(Y6 h).mono λx c ⟨k,e,q⟩=>{k,e,by
  cases k with
  |true=>show q|false=>show Y9 (λϊ z=>.bl _) q}
theorem r_or{rest}(ha:PE X a<|tM X.K E ca ma)(hb:PE X (.BoolOp .Or (b::rest) pos)<|tM X.K E ca mb):PE X (.BoolOp .Or (a::b::rest) pos)<|tM X.K E ca<|Bu ma mb:=
 PE.weak (pe_or ha hb) λO H Q h=>(Y6 h).mono λx c ⟨k,e,q⟩=>{k,e,by
  cases k with
  |true=>show Y9 (λϊ z=>.bl _) q|false=>show q}
theorem r_one(ha:PE X a<|tM X.K E ca ma):PE X (.BoolOp op [a] pos)<|tM X.K E ca ma:=zpf ha
def B7.mono(h:B7 K E ca m O H Q)(w:∀x H',Q x H'->Q' x H'):B7 K E ca m O H Q':=by
 let(F,Y,R,S,q):=h;show{F,Y,R,S,?_};cases a:m Y with
 |none=>rw[a]at q;show q|some r=>
  rw[a]at q;cases r with
  |v v b=>
   cases v with
   |bl k=>show λd H' e=>w _ _ (q d H' e)|_=>symm
  |x c=>show q
def Qg(h:B7 K E ca (mC<|.bl k) O H Q):Q k H:=by
 let(F,Y,R,S,q):=h;show q F H<|Ext.refl S.fh
theorem PW.weak(h:PW X e t)(w:∀O H Q,t' O H Q->t O H Q):PW X e t':=λb a s O H Q I q=>h b a s O H Q I<|w O H Q q
theorem zoh{rest}(ha:PT X a<|B7 X.K E ca ma)(hb:PW X (.BoolOp .And (b::rest) pos)<|B7 X.K E ca mb):PW X (.BoolOp .And (a::b::rest) pos)<|B7 X.K E ca<|Bq ma mb:=
 PW.weak (zov ha hb) λO H Q h=>(Yb h).mono λk c q=>by
  cases k with
  |true=>show q|false=>show Qg q
theorem r_wor{rest}(ha:PT X a<|B7 X.K E ca ma)(hb:PW X (.BoolOp .Or (b::rest) pos)<|B7 X.K E ca mb):PW X (.BoolOp .Or (a::b::rest) pos)<|B7 X.K E ca<|Bu ma mb:=
 PW.weak (pw_or ha hb) λO H Q h=>(Yb h).mono λk c q=>by
  cases k with
  |true=>show Qg q|false=>show q
theorem zl8(ha:PT X a<|B7 X.K E ca ma):PW X (.BoolOp .And [a] pos)<|B7 X.K E ca ma:=zlf ha
theorem zl7(ha:PT X a<|B7 X.K E ca ma):PW X (.BoolOp .Or [a] pos)<|B7 X.K E ca ma:=zou ha
end
section
variable {X:Cx}{pz:List<|Addr×Obj}{O:L2.St}{H:Hp}{s:Shared}{h':Heap}
def G6{ch:List Addr}(I:Inv X pz O H s)(k:∀b o,b∉ch->s.heap.get? b=!o->h'.get? b=!o)(f:∀b∈ch,Cs X pz H b):Inv X pz O H { s with heap:=h',toks:=t'}:=by
 let d:∀b u,H b=!u->b∉ch:=λb u e z=>by rw[(f b z).1]at e;cases e
 show I.step (g':=s.gens) (d':=s.drawn) (ch:=ch) (λb hb=>?_) (λb o y y a e y=>k b o a e) (λb o y y a e y=>{o.slots,k b o a e}) (λϊ y y y n=>n)
  (λb o a e=>{o,k b o a e}) (λϊ y e=>e) (λϊ y y e=>e) (λb ps e=>{#[],by rw[e];simp}) (λm i=>?_) (λb u e=>?_) I.bare
 let(_,f1,f2,f3,f4,f5):=f b hb;show{(f3),f1,f4,f5};let(o,h,g,j,r):=i;show{o,h,g,k _ o (λz=>(f _ z).2.1 rfl) j,r};show(I.hok b u e).stay (λc v a q=>k c v ?_ q) (λϊ q=>q) λϊ y q=>q;rcases a with z|z;rw[z];show d b u e;show d c _ z
def Qb{ch:List Addr}{p:Addr}(I:Inv X pz O H s)(k:∀b o,b∉ch->s.heap.get? b=!o->h'.get? b=!o)(f:∀b∈ch,Cs X pz H b)(g:s.heap.objs.size<=p)(new:DY X.prog X.w (upd H p o) h' p o) :
  Inv X pz O (upd H p o) { s with heap:=h',toks:=t' }:=by
 let hn :=I.hok.fresh g;let t:∀b u,H b=!u->b∉ch:=λb u e z=>by rw[(f b z).1]at e;cases e
 let d:∀b ob,s.heap.get? b=!ob->b≠p:=λb ob e z=>by
  subst z;show absurd (Ç e)<|Nat.not_lt.mpr g
 show I.step (λb hb=>?_) (λb o y y a e y=>k b o a e) (λb o y y a e y=>{o.slots,k b o a e}) (λb ob a e n=>by rw[BF<|d b ob e];show n)
  (λb o a e=>{o,k b o a e}) (λb xs e=>by rw[BF<|DP e hn];show e) (λb o u e=>by rw[BF<|DP e hn];show e) (λb ps e=>{#[],by rw[BF<|DP e hn,e];simp}) (λm j=>?_) (λb u e=>?_) I.bare
 let(_,f1,f2,f3,f4,f5):=f b hb;show{(f3),f1,f4,f5};let(o,i,h,l,r):=j;show{o,i,h,k _ o (λz=>(f _ z).2.1 rfl) l,r};by_cases hb:b=p;subst hb;rw[CT]at e;cases e;show new;rw[BF hb]at e;show(I.hok b u e).stay (λc v a q=>k c v ?_ q) (λc q=>by rw[BF<|DP q hn];show q) λc xs q=>by rw[BF<|DP q hn];show q
 grind
theorem V7(f:Cs X pz H b)(h:b≠p):Cs X pz (upd H p o) b:={by rw[BF h];show f.1,f.2}
end
def Xh(K:ka)(k:Nat)(l:Addr):It:=
 {λi H=>∃xs x,Ag K H l xs/\xs[i]?=!x,λi H x a=>∃p y,x=.ref p/\H p=()/\a=upd H p (.tup [.int ((k+i:Nat):Int),y])/\∀xs,Ag K H l xs->xs[i]?=!y,λi H=>∃xs,Ag K H l xs/\xs.length<=i}
theorem drw{w:World}    {n:Nat}  {St }(D:Draws P w A it fp n Q St)(k:Nat):Draws P w A it fp (k+n) (λj x=>∃i,j=k+i/\Q i x) (λj h=>∃i,j=k+i/\St i h) where
 live:=λ_ h ⟨i,_,st⟩=>D.live i h st
 frame:=λ_ h a ⟨i,e,st⟩ c=>{i,e,D.frame i h a st c}
 item:=λj s R E d ⟨i,e,st⟩ hQ=>D.item i s R E (by lia) st λx a tk q b sb=>hQ x a tk {(i),e,q} {i+1,by lia,b} sb
 done:=λs R E ⟨i,e,st⟩ hE=>D.done s R E (by grind) hE
def zn0(he:IsEnum h e it i old)(a:h.IsListIter it l j)(hl:h.IsList l its):l≠it/\l≠e:=by
 let(o,b,c1,_):=hl;let(d,c,c2,_):=a
 grind
theorem drw0(hh:A.handled=())(d:its[i]?=()):Draws P w A it [it,l] i (λϊ z=>True) (λj h=>j=i/\h.IsListIter it l i/\h.IsList l its) where
 live:=λ_ _ ⟨_,⟨o,ho,_⟩,_⟩=>{(o),ho}
 frame:=λ_ _ _ ⟨e,a,b⟩ c=>{e,a.at λo q=>c it (by simp) o q,b.at λo q=>c l (by simp) o q}
 item:=λj _ _ _ f ⟨e,_⟩=>absurd f<|by lia
 done:=λ_ _ _ ⟨_,a,b⟩ hE=>wpAny_nextOf_list_end hh a b d hE
def zg5{K}(k:Nat)(l e it:Addr)(d:e≠it) :
  Turn P w K (.Tuple elts kk tpos) (Xh K k l) [e,it] e (λi h=>(∃old,IsEnum h e it (k+i:Nat) old)/\h.IsListIter it l i) where
 mem:=by simp
 obj:=λi h st b hb=>by
  let((old,he),o,J,n,hd):=st;obtain rfl|hb:=Ð.mp hb
  show{_,he,λv z=>by
   let z' :=z;cases z'}
  let q :=by simpa using hb
  subst q;show{o,J,λv z=>by rw[hd]at z;cases z}
 keep:=λi h B st k=>by
  let((old,he),J):=st;show{{old,k e (by simp) _ he},J.at λo q=>k it (by simp) o q}
 item:=by
  intro X D L C n i Q s O H E I r st G;subst D L C;let((old,he),hit):=st;let(xs,x,t,M):=G;let(j,R,p,hz):=I.list t;let(u,hu,ru):=R.get M;let y :=Ç he;let N:it<s.heap.objs.size:=by let(o,q,_):=hit;show Ç q
  let hn :=I.hok.fresh<|Ã _;let(n1,n2):=zn0 he hit p.isList;let V:i<j.toArray.size:=by simpa using (Ê.mp hu).1
  show wpAny_pyNext_enum_itemD (drw (Draws.list (A:=X.A.in1) (I.ok.hd n) it l n1 _) k) he {(i),rfl,hit,p.isList} (by lia) d (by simp[d,Í n2]) λx' B tk c W a U Y hk=>?_;let(g,S,c):=c;let S:g=i:=by lia
  subst S
  let m :=by
   rw[List.getElem?_toArray,hu]at c;show(Þ c).symm
  subst m;let(i2,m,a,_):=a;let m:i2=g+1:=by lia
  subst m
  let T:Inv X Q O (upd H s.heap.objs.size<|.tup [.int<|k+g,x]) { s with heap:=B,toks:=tk+1 }:=by
   show Qb I (λb o hb q=>hk b o (λz=>hb<|by simp[z]) (λz=>hb<|by simp[z]) q) r (Ã _) ?_;show{by erw[ï,đ];rw[Ą];decide,[.int (k+g) tk,x'],.cons {_,rfl}<|.cons ru .nil,_,U,rfl,0,rfl}
  let f1:∀b∈[e,it],Cs X Q (upd H s.heap.objs.size<|.tup [.int (k+g:Nat),x]) b:=λb hb=>V7 (r b hb) (by
   obtain rfl|hb:=Ð.mp hb
   show Ô y;let q :=by simpa using hb
   subst q;show Ô N)
  show{.ref s.heap.objs.size,rfl,wpAny_letOwnedTupleGo_enum W λh2 F f=>?_};show{.ref s.heap.objs.size,_,G6 (ch:=[e]) T (λb o hb q=>f.extBut b o (λz=>hb<|by simp[z]) q)<|λb hb=>f1 b (by simp at hb;simp[hb]),rfl,{_,x,rfl,hn,rfl,λys Z=>by rw[I.list_inj Z t];show M},{{_,by simpa[Int.add_assoc] using F},a.extBut f.extBut d.symm},λb hb=>(f1 b hb).1}
 done:=by
  intro X D L C n i Q s O H E I r st G;subst D L C;let((old,he),hit):=st;let(xs,t,M):=G;let(j,R,p,hz):=I.list t;let hl:=R.length;show wpAny_pyNext_enum_endD (drw0 (I.ok.hd n) (by simp;lia)) he {(rfl),hit,p.isList} λB eb=>{rfl,G6 (ch:=[it]) I (λb o hb q=>eb b o (λz=>hb<|by simp[z]) q)<|λb hb=>r b (by simp at hb;simp[hb])}
 self:=λϊ v v v v st h=>wpAny_pyIter_enum st.1.choose_spec h
def Xc(K:ka)(l1 b:Addr):It:=
  {λi H=>∃xs x a y,Ag K H l1 xs/\xs[i]?=!x/\Ag K H b a/\a[i]?=!y,
   λi H x c=>∃p y z,x=.ref p/\H p=()/\c=upd H p (.tup [y,z])/\(∀xs,Ag K H l1 xs->xs[i]?=!y)/\∀xs,Ag K H b xs->xs[i]?=!z,
   λi H=>∃xs a,Ag K H l1 xs/\Ag K H b a/\(xs.length<=i\/a.length<=i)}
def zie{K}(z TI TO i1 i2 l1 l2)(D:ZipApart z TI TO i1 i2 l1 l2) :
  Turn P w K (.Tuple elts kk tpos) (Xc K l1 l2) [z,TI,TO,i1,i2] z (λi h=>IsZip h z TI TO .none/\IsPair h TI (.ref i1) (.ref i2)/\(∃a b,IsPair h TO a b)/\h.IsListIter i1 l1 i/\h.IsListIter i2 l2 i) where
 mem:=by simp
 obj:=λi h st b hb=>by
  let(hz,d,(a,c,e),(o1,e1,_,d1),(o2,e2,_,d2)):=st;erw[Ð,û,ý]at hb;rcases hb with rfl|rfl|rfl|rfl|rfl
  show{_,hz,λv z=>by
   let B :=z;cases B}
  show{_,d,λv z=>by
   let B :=z;cases B}
  show{_,e,λv z=>by
   let B :=z;cases B}
  show{o1,e1,λv z=>by rw[d1]at z;cases z};show{o2,e2,λv z=>by rw[d2]at z;cases z}
 keep:=λi h G st k=>by
  let(hz,d,(a,c,e),m,n):=st;show{k z (by simp) _ hz,k TI (by simp) _ d,{a,c,k TO (by simp) _ e},m.at λo q=>k i1 (by simp) o q,n.at λo q=>k i2 (by simp) o q}
 item:=by
  intro X L Q J Z i V s O H E I C st M;subst L Q J;let(hz,d,(a,c,e),m,n):=st;let(xs,x,ys,y,F,r,g,hy):=M;let(T,Y,p,S):=I.list F;let(A,l,U,t):=I.list g;let(u,hu,ru):=Y.get r;let(u2,N,W):=l.get hy;let hn :=I.hok.fresh<|Ã _
  let lt:∀b∈[z,TI,TO,i1,i2],b≠s.heap.objs.size:=λb hb=>by
   erw[Ð,û,ý]at hb;rcases hb with rfl|rfl|rfl|rfl|rfl
   show Ô<|Ç hz
   show Ô<|Ç d
   show Ô<|Ç e
   let(o,q,_):=m;show Ô<|Ç q
   let(o,q,_):=n;show Ô<|Ç q
  show wpAny_pyNext_zip_item D hz d e m n p.isList U.isList (by simpa using hu) (by simpa using N) λG a1 a2 a3 a4 a5 a6 hk=>?_
  let I1:Inv X V O (upd H s.heap.objs.size<|.tup [x,y]) { s with heap:=G,toks:=s.toks }:=by
   show Qb I (λb o hb q=>hk b o (λz=>hb<|by simp[z]) (λz=>hb<|by simp[z]) (λz=>hb<|by simp[z]) (λz=>hb<|by simp[z]) q) C (Ã _) ?_;show{by erw[ï,đ];rw[Ą];decide,[u,u2],.cons ru<|.cons W .nil,_,a5,rfl,0,rfl}
  let f1:∀b∈[z,TI,TO,i1,i2],Cs X V (upd H s.heap.objs.size<|.tup [x,y]) b:=λb hb=>V7 (C b hb)<|lt b hb
  show{.ref s.heap.objs.size,rfl,wpAny_letOwnedTupleGo_zip a1 λh3 R f=>?_};show{.ref s.heap.objs.size,_,G6 (ch:=[z]) I1 (λb o hb q=>f.extBut b o (λz=>hb<|by simp[z]) q)<|λb hb=>f1 b (by simp at hb;simp[hb]),rfl,{_,x,y,rfl,hn,rfl,(λzs j=>by rw[I.list_inj j F];show r),λzs j=>by rw[I.list_inj j g];show hy},?_,λb hb=>(f1 b hb).1};show{R,f.extBut _ _ D.TIz<|hk _ _ D.TIz D.TITO D.TIi1 D.TIi2 d,{_,_,f.extBut _ _ D.TOz a2},a3.extBut f.extBut D.i1z,a4.extBut f.extBut D.i2z}
 done:=by
  intro X L Q J Z i V s O H E I C st M;subst L Q J;let(hz,d,(a,c,e),m,n):=st;let(xs,ys,F,g,r):=M;let(T,Y,p,S):=I.list F;let(A,l,U,t):=I.list g;let hl:=Y.length;let hl2:=l.length;show wpAny_pyNext_zip_end (I.ok.hd Z) D hz d e m n p.isList U.isList ?_ λG hk=>{rfl,G6 I (λb o hb q=>hk b o (λz=>hb<|by simp[z]) (λz=>hb<|by simp[z]) (λz=>hb<|by simp[z]) (λz=>hb<|by simp[z]) q) C}
  rcases r with r|r;show .inl (by simp;lia);show .inr (by simp;lia)
 self:=λϊ v v v v st h=>wpAny_pyIter_zip st.1 h
section
variable {X:Cx}{elts:kh}{kk:Nat}{tpos:Pos}
def iEnum(K:ka)(c:TA):TI:=λO H R=>c O H λd b=>∃a,d=[.ref a]/\(∃xs,Ag K b a xs)/\R (Xh K 0 a) b
def zls(m:Gl X "enumerate")(n:X.mg "enumerate"=())(ha:PA X [a] ta)(hs:starEach [a] X.env=[(false,eval a X.env)]):PI X (.Tuple elts kk tpos) (.Call (.Name "enumerate" p) [a] [] pos)<|iEnum X.K ta:=by
 intro i s O H R I h;show Call_<|Gq I m n boot_enumerate<|ĕ (A6 (ha pos i s O H _ I h) λB c z=>?_) hs rfl
 let(C,g,f,x,w):=z;let(l,e,(xs,o),q):=w;subst e;let(u,rfl,y):=Fw x;cases y;let(t,A,v,hz):=f.list o;show call_enumerate_list v.isList λk he hit r hk=>?_
 let j:Inv X i O g { c with heap:=k,toks:=c.toks }:=f.kept hk;show wpAny_pyIter_enum he {c.heap.objs.size+1,[c.heap.objs.size+1,c.heap.objs.size],_,_,g,rfl,j,zg5 0 l _ _ (by simp),{{_,by simpa using he},hit},λb hb=>?_,q}
 let d:c.heap.objs.size<=b:=by
  grind
 show f.fpOk d<|f.hok.fresh d
def iZip(K:ka)(d:TA):TI:=λO H R=>d O H λe c=>∃a b,e=[.ref a,.ref b]/\(∃xs,Ag K c a xs)/\(∃xs,Ag K c b xs)/\R (Xc K a b) c
def zp7(L:Gl X "zip")(M:X.mg "zip"=())(ha:PA X [a,b] ta)(hs:starEach [a,b] X.env=[(false,eval a X.env),(false,eval b X.env)])(g:starEach [b] X.env=[(false,eval b X.env)]):PI X (.Tuple elts kk tpos) (.Call (.Name "zip" p) [a,b] [] pos)<|iZip X.K ta:=by
 intro B s O H R I h;show Call_<|Gq I L M boot_zip<|ĕ (A6 (ha pos B s O H _ I h) λus c W=>?_) (by rw[hs,g]) (by rw[g];rfl)
 let(vs,w,d,T,S):=W;let(l1,l,e,(xs,N),(ys,r),q):=S;subst e;let(u,u2,rfl,U,v):=IH T;cases U;cases v;let(Q,Z,A,hz):=d.list N;let(y,V,j,P):=d.list r;let t:l1<c.heap.objs.size:=by let(o,n,e,_):=A;show Ç e
 let i:l<c.heap.objs.size:=by let(o,n,e,_):=j;show Ç e
 show call_zip_2 A.isList j.isList λK x E F G J Y hk=>?_;let C:Inv X B O w { c with heap:=K,toks:=c.toks }:=d.kept hk
 let D:ZipApart (c.heap.objs.size+4) (c.heap.objs.size+2) (c.heap.objs.size+3) c.heap.objs.size (c.heap.objs.size+1) l1 l:=by
  let m:∀k:Nat,l1≠c.heap.objs.size+k:=λk z=>ä _<|Ý t<|z▸ħ _ _
  let n2:∀k:Nat,l≠c.heap.objs.size+k:=λk z=>ä _<|Ý i<|z▸ħ _ _
  show{?_,?_,?_,?_,?_,?_,?_,?_,?_,?_,m 4,m 3,m 0,m 1,n2 4,n2 3,n2 0,n2 1}<;>intro z<;>simp at z
 show wpAny_pyIter_zip x {_,[c.heap.objs.size+4,c.heap.objs.size+2,c.heap.objs.size+3,c.heap.objs.size,c.heap.objs.size+1],_,_,w,rfl,C,zie _ _ _ _ _ l1 l D,{x,E,{_,_,F},G,J},λb hb=>?_,q}
 let f:c.heap.objs.size<=b:=by
  erw[Ð,û,ý]at hb;rcases hb with rfl|rfl|rfl|rfl|rfl
  show ħ _ _;show ħ _ _;show ħ _ _;show Ã _;show ħ _ _
 show d.fpOk f<|d.hok.fresh f
end
def HF(o:Obj):Nat:=match o.data with
 |.dict z a=>a|z=>0
section
variable {X:Cx}{pz:List<|Addr×Obj}{O:L2.St}{H:Hp}{s:Shared}{a:Addr}{o:Obj}{kvs:List<|Key×V}
def O6(I:Inv X pz O H s)(h:H a=!(.frz o<|.dK kvs)):kvs.length<=sizeLine/\(a == sysModules)=false/\∃vs,KV kvs vs/\s.heap.DictAt (DQ X.prog X.w) a vs (HF o):=by
 let(d,z,hd,vs,c,i,g,f,b,r):=(show DY X.prog X.w H s.heap a (.frz o<|.dK kvs) from I.hok a _ h);rw[d]at b;cases b;show{z,hd,vs,c,o,g,d,?_}
 let e:HF o=f:=by
  unfold HF;rw[r.2.1]
 rw[e];show r
def zql(r:KV kvs vs){i:Nat}(h:kvs[i]?=!(k,x)):∃u,vs[i]?=!(k,u)/\Ab x u:=by
 let d:Paired (λ(p:Key×V) (q:Key×Value)=>p.1=q.1/\Ab p.2 q.2) kvs vs:=r
 induction d generalizing i with
 |nil=>simp at h|@cons p q l m hd e c=>
  cases i with
  |zero=>simp at h;subst h;let(a,b):=hd;show{q.2,by rw[List.getElem?_cons_zero];cases q;simp at a ⊢;show a.symm,b}
  |succ i=>show c e<|by simpa using h
def Jf(r:KV kvs vs):kvs.length=vs.length:=ş<|r
def zmp(h:(DQ X.prog X.w).is k v=true):Ab (kV k) v:=by
 rcases F9 (h) with ⟨i,t,rfl,rfl⟩|⟨x,t,rfl,rfl⟩;show{(t),rfl};show{(t),rfl}
end
def zbh(h:IsItemIter s.heap it d i n ep ok ov)(b:Q (.ref it) s):wpAny (model prog w) A (pyIter<|.ref it) Q E s:=by
 let a:s.TypeIs (.ref it) "dict_itemiterator":={_,h,rfl};show wpAny_pyIter_slot a Ψ<|wpAny_call_entry Ψ a (entryFor_alias (id':="dict_keyiterator.__iter__") (by ext) rfl (by decide +kernel) (by ext):entryFor table "dict_itemiterator.__iter__"=↑Builtin.«dict_keyiterator.__iter__») ?_<|PySem.F.args_dict_itemiterator_iter_1 _
 show Ï {_,rfl,"dict_itemiterator",_,a,PySem.F.slot_dict_itemiterator_next.lookup,b}
def Xg(d:Addr)(n b:Nat):It:=
  {λi H=>∃o a k x,H d=!(.frz o<|.dK a)/\HF o=b/\a.length=n/\a[i]?=!(k,x),λi H x c=>∃p k y,x=.ref p/\H p=()/\c=upd H p (.tup [kV k,y])/\∀o a,H d=!(.frz o<|.dK a)->a[i]?=!(k,y),
   λi H=>∃o a,H d=!(.frz o<|.dK a)/\HF o=b/\a.length=n/\a.length<=i}
def zf2{K}(d it)(n ep) :
  Turn P w K (.Tuple elts kk tpos) (Xg d n ep) [it] it (λi h=>∃ok ov,IsItemIter h it d i n ep ok ov) where
 mem:=by simp
 obj:=λi h st b hb=>by
  let(ok,ov,st):=st;let q :=by simpa using hb
  subst q
  show{_,st,λv z=>by
   let T :=z;cases T}
 keep:=λi h l st k=>by
  let(ok,ov,st):=st;show{ok,ov,k it (by simp) _ st}
 item:=by
  intro X p A m J i G s O H E I j st t;subst p A m;let(ok,ov,hit):=st;let(o,F,k,x,hd,rfl,rfl,B):=t;let(z,hs,S,a,c):=O6 I hd;let(u,hu,R):=zql a B;rw[Jf a]at hit;let C :=Ç hit;let hn :=I.hok.fresh<|Ã _;show wpAny_pyNext_items_item hit c hu λD l f g N Q hk=>?_
  let M:Inv X G O (upd H s.heap.objs.size<|.tup [kV k,x]) { s with heap:=l,toks:=s.toks }:=by
   show Qb I (λb o hb q=>hk b o (λz=>hb<|by simp[z]) q) j (Ã _) ?_;show{by erw[ï,đ];rw[Ą];decide,[D,u],.cons (zmp f)<|.cons R .nil,_,N,rfl,0,rfl}
  let f1:∀b∈[it],Cs X G (upd H s.heap.objs.size<|.tup [kV k,x]) b:=λb hb=>V7 (j b hb) (by
   let q :=by simpa using hb
   subst q;show Ô C)
  show{.ref s.heap.objs.size,rfl,wpAny_letOwnedTupleGo_items g λU r y=>?_};show{.ref s.heap.objs.size,_,G6 M (λb o hb q=>y.extBut b o (λz=>hb<|by simp[z]) q) f1,rfl,{_,k,x,rfl,hn,rfl,λV L e=>?_},{_,_,by rw[Jf a];show r},λb hb=>(f1 b hb).1};rw[hd]at e;cases e;show B
 done:=by
  intro X p A m J i G s O H E I j st t;subst p A m;let(ok,ov,hit):=st;let(o,F,hd,rfl,rfl,B):=t;let(z,hs,S,a,c):=O6 I hd;rw[Jf a]at hit;show wpAny_pyNext_items_end (I.ok.hd J) hit c (by rw[þ];let:=Jf a;lia) λl eb=>{rfl,G6 I (λb o hb q=>eb b o (λz=>hb<|by simp[z]) q) j}
 self:=λϊ v v v v st h=>by
  let(ok,ov,st):=st;show zbh st h
section
variable {X:Cx}{o:Expr}{to:TE}{ap cp:Pos}{elts:kh}{kk:Nat}{tpos:Pos}
def zn3{O:L2.St}(I:Inv X pz O H s)(h:H a=!(.frz ob<|.dK kvs)):s.TypeIs (.ref a) "dict"/\∀b,(Value.ref a)=.ref b->∃ob,s.heap.get? b=!ob/\ob.dict=():=by
 let(z,hs,j,f,i,g,c,d,r):=O6 I h;show{{_,c,d.1},λb e=>by cases e;show{_,c,d.2.1}}
def zqz(d:TE):TI:=λO H R=>d O H λx c=>∃a ob b,x=.ref a/\c a=!(.frz ob<|.dK b)/\R (Xg a b.length<|HF ob) c
def zj1(w:PE X o to)(c:attributeBase o "items" X.env (eval o X.env)=eval o X.env)(d:(ap.endLine == cp.line)=true):PI X (.Tuple elts kk tpos) (.Call (.Attribute o "items" ap) [] [] cp)<|zqz to:=by
 intro p s O H R I h;show wpAny_Call_method0_late c d<|A6 (w p s O H _ I h) λv g B=>?_
 let(x,m,i,A,y):=B;let(a,ob,k,rfl,hd,q):=y;cases A;let(n,u):=zn3 i hd;let(z,hs,r,l,f):=O6 i hd;show{"dict","dict.items",PySem.F.plainAttrs_dict,PySem.F.slot_dict_items,PySem.F.type_dict_items,n,u,Calls.callWith_builtin rfl<|PySem.evalArgs_none ?_};show call_meetsIn PySem.F.slot_dict_items n PySem.F.entry_dict_items (PySem.F.args_dict_items_1 _) (meets_dict_items (DQ X.prog X.w) a hs) {{(r),f.dictOf},?_};let j:Inv X p O m { g with heap:=g.heap.push { cls:=.type "dict_items",data:=.fields #[.ref a] },toks:=g.toks }:=i.kept λb o e=>Ó _ e
 show wpAny_pyIter_items {_,á _ rfl,rfl,rfl} (f.push _) ?_;let t:=j.kept (t':=g.toks) (h':=(g.heap.push { cls:=.type "dict_items",data:=.fields #[.ref a] }).push { cls:=.type "dict_itemiterator",data:=.fields #[.none,.bool false,.ref a,.int 0 0,.int r.length 0,.int (HF ob) 0,.none,.none] }) λb o e=>Ó _ e
 show{_,[_],_,_,m,rfl,t,zf2 a _ k.length<|HF ob,{_,_,by rw[Jf l];show á _ rfl},λb hb=>?_,q};let e:=Ì.mp hb;subst e;show j.fpOk (Ã _)<|j.hok.fresh<|Ã _
end
def K6(a:kh)(env:Env):Sem Bool:=forIn a true λc r=>if r=true then do let ok <- isTrue c env<|eval c env;pure (ForInStep.yield ok) else pure (ForInStep.yield r)
def IB(X:Cx)(a:kh)(t:TT):Prop:=
 ∀(b:List<|Addr×Obj) (s:Shared) (O:L2.St) (H:Hp) (Q:Bool->Hp->Prop),Inv X b O H s->t O H Q->wpAny (model X.prog X.w) X.A (K6 a X.env) (TP X b O Q) X.xe s
theorem zlh:IB X []<|λϊ H Q=>Q true H:=λa s O H Q I h=>Ï {(H),I,h}
theorem zlg(h:PT X c t):IB X [c] t:=λd s O H Q I q=>by
 let e:K6 [c] X.env=(isTrue c X.env (eval c X.env) >>= λok=>pure ok):=by
  unfold K6;simp
 rw[e];show Â<|ô (h d s O H Q I q) (λb f a=>Ï a) λϊ y z=>z
def zfn:compTurn (.ListComp elt [{target,iter,ifs,0}] scope pos) 0 it acc env=(standAt iter.pos >>= λϊ=>pyNext it >>= λr=>match r with
  |none=>pure (.done .next)|some u=>letOwnedTupleGo target it u >>= λϊ=>assign target env u >>= λϊ=>K6 ifs env >>= λok=>
   if ok=true then ((eval elt env >>= λx=>call (.builtin "list.append") [acc,x] >>= λϊ=>pure Unit.unit) >>= λϊ=>again<|.compLoop (.ListComp elt [{target,iter,ifs,0}] scope pos) 0 it acc env)
   else again (.compLoop (.ListComp elt [{target,iter,ifs,0}] scope pos) 0 it acc env)):=by rfl
def zfo(j:NE=notedBy (model prog w) A env λe s'=>R (.error e) s')(I:Nat->Shared->Prop)
  (c : ∀ n s, I n s -> wpAny (model prog w) A (pyNext it) (fun r s₁ => match r with
   |none=>R (.ok .next) s₁|some v=>wpAny (model prog w) A (letOwnedTupleGo target it v) (λϊ s₁'=>wpAny (model prog w) A (assign target env v) (λϊ s₂=>wpAny (model prog w) A (K6 ifs env) (λok s₂'=>if ok=true then wpAny (model prog w) A (eval elt env) (λx s₃=>
     wpAny (model prog w) A (call (.builtin "list.append") [acc,x]) (λϊ s₄=>∃m,m<n/\I m s₄) NE s₃)
     NE s₂' else ∃m,m<n/\I m s₂') NE s₂) NE s₁') NE s₁) NE s)
  (k ) (hk:I k s):codeAny (model prog w) A (.compLoop (.ListComp elt [{target,iter,ifs,0}] scope pos) 0 it acc env) R s:=by
 subst j;show codeAny_loop rfl I (λn s i=>?_) k hk;show wpAny_noted ?_;rw[zfn];show Â<|ń<|Â<|ô (c n s i) (λr s₁ b=>?_) λϊ y z=>z
 cases r with
 |none=>show Ï b|some v=>
  show Â<|ô b (λϊ s₁' d=>?_) λϊ y z=>z
  show Â<|ô d (λϊ s₂ f=>Â<|ô f (λok s₂' a=>?_) λϊ y z=>z) λϊ y z=>z
  cases ok with
  |false=>
   rw[if_neg<|by decide]at a ⊢;show Ï {(rfl),a}
  |true=>rw[if_pos rfl]at a ⊢;show Â<|Â<|ô a (λx s₃ g=>Â<|ô g (λϊ s₄ h=>Ï<|Ï {(rfl),h}) λϊ y z=>z) λϊ y z=>z
def WO(env ):∀(names:List<|Str×NameKind),(∀y∈names,y.2=.free->∃c,env.cells.lookup y.1=!c)->∀acc ,∃cl ,
  (forIn names acc λ(x:Str×NameKind) r=>if (x.2 == NameKind.free)=true then do let a <- cellOf env x.1;pure (ForInStep.yield<|(x.1,a)::r) else pure (ForInStep.yield r))=pure cl /\
  (∀y c,cl.lookup y=!c->acc.lookup y=!c\/env.cells.lookup y=!c)/\(∀y∈names,y.2=.free->∃c,cl.lookup y.1=!c)/\∀y c,acc.lookup y=!c->∃c',cl.lookup y=!c'
 |[],w,acc=>{acc,rfl,λϊ w e=>.inl e,(λϊ z=>by cases z),λϊ c e=>{(c),e}}|(n,k)::r,h,acc=>by
  rw[List.forIn_cons];by_cases hk:k=.free;subst hk;let(c,l):=h (n,.free) (Î ..) rfl;let m:cellOf env n=pure c:=by unfold cellOf;rw[l]
  let(cl,e,g,i,d):=WO env r (λy b=>h y<|Ë _ b)<|(n,c)::acc
  show{cl,?_,λy c' q=>?_,λy b f=>?_,λy c' q=>?_};erw[õ,Æ,m,pure_bind];show e;rcases g y c' q with z|z;rw[æ]at z;cases b:y == n with
  |true=>rw[b]at z;cases z;show .inr (by rw[eq_of_beq b];show l)|false=>rw[b]at z;show .inl z
  show .inr z;obtain rfl|b:=Ð.mp b
  show d n c<|by simp
  show i y b f;by_cases b:y=n;subst b;show d y c<|by simp
  show d y c' (by rw[æ,beq_eq_false_iff_ne.mpr b];show q);let j:(k == NameKind.free)=false:=beq_eq_false_iff_ne.mpr hk;let(cl,e,g,i,d):=WO env r (λy b=>h y<|Ë _ b) acc
  show{cl,?_,g,λy b f=>?_,d};erw[j,pure_bind];show e;obtain rfl|b:=Ð.mp b
  show absurd f hk;show i y b f
def zem(scope)(env)(h:∀y∈scope.names,y.2=.free->∃c,env.cells.lookup y.1=!c):∃cl,closureFor scope env=pure cl/\(∀y c,cl.lookup y=!c->env.cells.lookup y=!c)/\∀y∈scope.names,y.2=.free->∃c,cl.lookup y.1=!c:=by
 let(cl,e,d,f,_):=WO env scope.names h [];show{cl,?_,λy c q=>?_,f};let b:closureFor scope env=(forIn scope.names [] λ(x:Str×NameKind) (r:List<|Str×Addr)=>(if (x.2 == NameKind.free)=true then do let a <- cellOf env x.1;pure (ForInStep.yield<|(x.1,a)::r) else pure (ForInStep.yield r):Sem<|ForInStep<|List<|Str×Addr)) >>= pure:=rfl;rw[b,e,pure_bind];rcases d y c q with z|z;cases z;show z
nonrec def WR:∀(names ) (h:Heap) (acc ) (y ) (c ),(cellsFrom h.objs.size names acc).lookup y=!c->acc.lookup y=!c\/(h.objs.size<=c/\(pushCells h names).IsCell c ()/\(y,NameKind.cell)∈names)
 |[],h,acc,y,c,e=>.inl e|(n,k)::r,h,acc,y,c,e=>by
  unfold cellsFrom at e;unfold pushCells;split at e;rename_i hk;rw[if_pos hk];let g:(h.push { cls:=.type "cell",data:=.cell () }).objs.size=h.objs.size+1:=Ĝ ..;rw[<- g]at e
  rcases WR r _ _ y c e with q|⟨a,d,f⟩;rw[æ]at q;cases b:y == n with
  |true=>rw[b]at q;cases q;let i:y=n:=eq_of_beq b;subst i;show .inr {Ã _,{_,ť _ _ _ _<|á _ rfl,rfl},by rw[eq_of_beq hk];show Î ..}|false=>rw[b]at q;show .inl q
  show .inr {by rw[g]at a;show Ö (ğ _) a,d,Ë _ f};rename_i hk;rw[if_neg hk];rcases WR r h acc y c e with q|⟨a,d,f⟩;show .inl q;show .inr {a,d,Ë _ f}
def WU:∀(names) (h:Heap) (acc:List<|Str×Addr),(∀y z c,acc.lookup y=!c->acc.lookup z=!c->y=z)->(∀y c,acc.lookup y=!c->c<h.objs.size) ->
  ∀y z c,(cellsFrom h.objs.size names acc).lookup y=!c->(cellsFrom h.objs.size names acc).lookup z=!c->y=z
 |[],h,acc,e,x=>e|(n,k)::r,h,acc,e,hl=>by
  unfold cellsFrom;split;have f:(h.push { cls:=.type "cell",data:=.cell () }).objs.size=h.objs.size+1:=Ĝ ..;rw[<- f];show WU r _ _ (λy z c a b=>?_)<|λy c a=>?_
  rw[æ]at a b;cases d:y == n with
  |true=>
   rw[d]at a;cases a;cases hz:z == n with
   |true=>rw[eq_of_beq d,eq_of_beq hz]|false=>rw[hz]at b;show absurd (hl z _ b)<|ä _
  |false=>
   rw[d]at a;cases hz:z == n with
   |true=>rw[hz]at b;cases b;show absurd (hl y _ a) (ä _)|false=>rw[hz]at b;show e y z c a b
  rw[æ]at a;rw[f];cases d:y == n with
  |true=>rw[d]at a;cases a;show ę _|false=>rw[d]at a;show Ħ<|hl y c a
  show WU r h acc e hl
nonrec def WQ:∀(names) (n lo:Nat) (acc:List<|Str×Addr) (y) (c),lo<=n->((y,NameKind.cell)∈names\/∃c0,acc.lookup y=!c0/\lo<=c0)->(cellsFrom n names acc).lookup y=!c->lo<=c
 |[],n,lo,acc,y,c,hn,h,e=>by
  rcases h with h|⟨c0,a,b⟩;cases h;let f:acc.lookup y=!c:=e;rw[a]at f;cases f;show b
 |(m,k)::r,n,lo,acc,y,c,hn,h,e=>by
  unfold cellsFrom at e;split at e;show WQ r (n+1) lo _ y c (Nat.le_succ_of_le hn) ?_ e;by_cases d:y=m;subst d;show .inr {n,by simp,hn};rcases h with h|⟨c0,a,b⟩;rcases Ð.mp h with z|z;cases z;show absurd rfl d;show .inl z;show .inr {c0,by rw[æ,beq_eq_false_iff_ne.mpr d];show a,b};rename_i hk;show WQ r n lo acc y c hn ?_ e;rcases h with h|h;rcases Ð.mp h with z|z;cases z;show absurd rfl hk;show .inl z;show .inr h
def zcz{code}
  (c:Q (newEnv scope s.heap.objs.size globals (cellsFrom (s.heap.objs.size+1) scope.names cl) qual func code ↑outer builtins) { s with heap:=pushCells (s.heap.push { cls:=.type "dict",data:=.dict #[] }) scope.names }) :
  wpAny M A (newFunctionEnv scope globals cl [] qual func code ↑outer builtins) Q E s:=by
 erw[newFunctionEnv,Option.isSome_some,Æ];show Â<|wpAny_alloc ?_;show Â<|wpAny_layCells _ (λb kind a=>by rfl) _ _ _ _ ?_;rw[Ĝ ..]
 show Â<|Ï<|Ï c
abbrev EF(X:Cx)(a:Scope)(cl:List<|Str×Addr)(b:kq)(C:Addr)(s₀:Shared)(H₀:Hp)(ex:List Addr)(c:Value->Shared->Prop):Cx:={ zri X a cl b C s₀ H₀ ex with fn:=λx=>decide (a.names.lookup x=!.cell),xe:=c }
def lM{h h' B a:Heap}(k:∀b o,B.get? b=()->h.get? b=!o->(∀us,o.data≠.fields us)->a.get? b=()/\∃o',h'.get? b=!o'/\∀us,o'.data≠.fields us):∀{l},h.FunFrames B l->h'.FunFrames a l
 |[],z=>trivial|_::_,{x,{(L),o,c,d,e,f},r}=>by
  let(g,o',i,j):=k L o d e f;show{x,{(L),o',c,g,i,j},lM k r}
def JL(X:Cx):Prop:=∃v l,X.stack=v::l/\X.env.frame=v.frame
def zhh{X:Cx}   {O:L2.St}{H:Hp}        (hx:Cb X E)(hst:JL X)(I:Inv X pz O H s)(Y:Cs X pz H C)(hC:∃m,s.heap.Ns C m)(nC:C∉Br X.stack)
  (hb:benv.frame=X.env.frame) (h:Dx X.prog X.w X.stack H s (E O) e s'):wpAny (model X.prog X.w) X.A (noteFrame e benv) (λϊ s2=>compPost (model X.prog X.w) X.A X.xe use QQ acc C (.error e) s2) EE s':=by
 let(v,l,st,hv):=hst;let(a,U,H',B,rfl,os,bare,un,hok,kB,tB,Z,he):=h;let F :=st▸Z
 let(L,hL):∃L,v.frame=!L:=by
  let(_,_,_,(_,(L,_,y,_),_),_):=F;show{(L),y}
 show T6 (st▸I.ok.frames) (hb.trans hv) hL F λh4 M sm=>?_;let(m,S,es,ep,G,dC,rC):=hC;let bC :=kB C S G Y.1 nC;let(f1,f2,f3,oe,ws,Q,oT,ts,ha,hcl,hd,g1,nT,A,hT,dT,g3):=M
 let r:∀{b },B.get? b=()->b≠C:=λz w=>by
  rw[w,bC]at z;cases z
 let key:∃m,h4.Ns C m/\∀h',Heap.SameBut C h4 h'->∀i ,i.locals=C->wpAny (model X.prog X.w) X.A (PySem.passOn "comprehension.variables-let-go" (.ref a) i:Sem Value) (λϊ c=>False) X.xe { s' with heap:=h' }:=by
  show{m,{S,es,ep,f1 C S bC,dC,rC},λh5 sb i c=>?_};let p :=(sb.2 a<|r f2).trans ha;let J :=(sb.2 Q<|r nT).trans hT;unfold PySem.passOn;show Â<|ē p hd g1 ?_;rw[if_neg<|by simp]
  show Â ?_;unfold setFlight;show Â<|ē p hd g1 ?_;rw[if_pos<|by simp]
  show Ť J dT (İ.mp g3).1 (wpAny_throw ?_);generalize hfl:(i.frame.elim Value.none λf=>rawInt f)=fl;let D:=œ dT (·.setIfInBounds 3 fl);let K:=ō (Obj.mapFields (·.setIfInBounds 3 fl)) J<|Ź D;generalize N:h5.update Q (Obj.mapFields (·.setIfInBounds 3 fl))=h6 at K ⊢
  let t:∀b o,b≠C->b≠Q->h4.get? b=!o->h6.get? b=!o:=λb o n1 n2 e=>by
   rw[<- N,Ċ _ _<|Í n2];show(sb.2 b n1).trans e
  let T :=λb o n e=>t b o n (λz=>by rw[z,nT]at e;cases e)<|f1 b o e
  let g:∀{b } {o },(W.hideAll s.heap [C]).get? b=!o->s.heap.get? b=!o/\b≠C:=λ{b o} e=>{Ĵ _ e,λz=>by
   rw[z,Ż [C]<|Ì.mpr rfl]at e;cases e}
  let j:∀{b } {o },b≠C->B.get? b=!o->(W.hideAll B [C]).get? b=!o:=λ{b o} n e=>Ĥ _ e<|λz=>n<|Ì.mp z
  let k:∀{b },B.get? b=()->(W.hideAll B [C]).get? b=():=λ{b} e=>by
   cases q:(W.hideAll B [C]).get? b with
   |none=>rfl|some o=>rw[Ĵ _ q]at e;cases e
  let IX :=G6 (t':=s.toks) I (λb o n e=>Ĥ _ e n) λb z=>by
   rw[Ì.mp z];show Y
  let slot:∀b o,s.heap.get? b=!o->H b=()->b∈Br X.stack->∃z,h6.get? b=!{ o with slots:=z }:=λb o e n z=>by
   let(_,o2,P,d2):=I.stack.mem z;rw[e]at P;cases P;let(z2,e2):=un.slot b o e n z<|by simp
   let(z3,V):=sm b _ e2 d2;show{z3,t b _ (λw=>nC<|w▸z) (λw=>?_) V};rw[w,hT]at V;cases V;show d2 _ dT
  let HC :=un.free C S G Y.1<|by simp
  show hx pz O H _ _ _ IX {a,U,H',W.hideAll B [C],rfl,os,bare,{λb o e n z c=>?_,λb o e n z c=>slot b o (g e).1 n z,λb o e n z=>un.free b o (g e).1 n z,λb o e c=>?_,un.tups,un.frzs,un.tbls},?_,λb o e n z=>j (g e).2 (kB b o (g e).1 n z),λb o e z=>?_,{fl,λb o e=>?_,k f2,?_,?_},he};show T b o (g e).2 (kB b o (g e).1 n z);by_cases z:b∈Br X.stack;let(w,q):=slot b o (g e).1 (I.stkFree b z) z;show{_,q};let(R,q):=tB b o (g e).1 z;show{R,T b R (g e).2 q};intro b u e;show(hok b u e).stay (λc x hc q=>j (λw=>?_) q) (λϊ q=>q) λϊ c q=>q;rcases hc with y|y;rw[<- y,w,HC]at e;cases e;rw[w,HC]at y;cases y;let(R,q):=tB b o (g e).1 z;show{R,j (g e).2 q};let e':=Ĵ _ e;show T b o (λw=>?_) e';rw[w,Ż [C]<|Ì.mpr rfl]at e;cases e;rw[st];show lM (λb o n e d=>{k n,o,t b o (r n) (λw=>?_) e,d}) f3;rw[w,hT]at e;cases e;show d _ dT;show{oe,ws,Q,_,_,?_,hcl,hd,g1,k nT,A,K,D,?_};rw[<- N,Ċ _ _ A];show p;simp[Array.getElem?_setIfInBounds,(İ.mp g3).1]
 cases use<;>show key
structure TurnG(cq:Cx->Prop)(P:Program)(w:World)(K:ka)(tg:Expr)(Γ:It)(fp:List Addr)(it:Addr)(tn:Nat->Heap->Prop):Prop where
 obj:∀i h,tn i h->∀b∈fp,∃o,h.get? b=!o/\∀v,o.data≠.cell v
 keep:∀i h h',tn i h->(∀b∈fp,∀o,h.get? b=!o->h'.get? b=!o)->tn i h'
 item:∀(X:Cx),X.prog=P->X.w=w->X.K=K->cq X->∀(i:Nat) (pz:List<|Addr×Obj) (s:Shared) (O:L2.St) (H:Hp) (E:Value->Shared->Prop),Inv X pz O H s->(∀b∈fp,Cs X pz H b)->tn i s.heap->Γ.go i H ->
  wpAny (model P w) X.A (pyNext<|.ref it) (λr s1=>∃u,r=!u/\wpAny (model P w) X.A (letOwnedTupleGo tg (.ref it) u) (λϊ s2=>∃x H',Inv X pz O H' s2/\Ab x u/\Γ.yld i H x H'/\tn (i+1) s2.heap/\∀b∈fp,H' b=()) E s1) E s
 done:∀(X:Cx),X.prog=P->X.w=w->X.K=K->cq X->∀(i:Nat) (pz:List<|Addr×Obj) (s:Shared) (O:L2.St) (H:Hp) (E:Value->Shared->Prop),Inv X pz O H s->(∀b∈fp,Cs X pz H b)->tn i s.heap->Γ.stop i H ->
  wpAny (model P w) X.A (pyNext<|.ref it) (λr s1=>r=()/\Inv X pz O H s1) E s
 self:∀(A:Around) (i:Nat) (s:Shared) (Q:Value->Shared->Prop) (E:Value->Shared->Prop),tn i s.heap->Q (.ref it) s->wpAny (model P w) A (pyIter<|.ref it) Q E s
def PJ(cq:Cx->Prop)(X:Cx)(i a:Expr)(j:TI):Prop:=
 ∀(e:List<|Addr×Obj) (s:Shared) (O:L2.St) (H:Hp) (R:It->Hp->Prop),Inv X e O H s->j O H R ->
  wpAny (model X.prog X.w) X.A (eval a X.env) (λv h=>wpAny (model X.prog X.w) X.A (pyIter v) (λd g=>∃(it:Addr) (f:List Addr) (tn:Nat->Heap->Prop) (Γ:It) (c:Hp),d=.ref it/\Inv X e O c g/\TurnG cq X.prog X.w X.K i Γ f it tn/\tn 0 g.heap/\(∀b∈f,Cs X e c b)/\R Γ c) X.xe h) X.xe s
theorem Zq(h:PI X tg iter wi):PJ (λX=>X.calm=true) X tg iter wi:=λb s O H R I q=>
 A6 (h b s O H R I q) λϊ z a=>A6 a λ_ _ ⟨it,fp,tn,Γ,H',e,I2,T,r⟩=>{it,fp,tn,Γ,H',e,I2,{(T.obj),T.keep,T.item,T.done,T.self},r}
section
variable {X:Cx}{elt iter tg:Expr}{ifs:kh}{scope:Scope}{pos pos2:Pos}{cl:List<|Str×Addr}{N':kq}{wi:TI}{g:TG}{tt:TT}{te:TE}
def Ma(j:L2.St->L2.St)(o:TI)(g:TG)(m:TT)(l:TE):TE:=λO H Q=>o O H λΓ e=>∃(W:Nat->qC->L2.St->Hp->Prop) (n:Nat),n<=sizeLine/\W 0 [] (j O) e/\∀i b Y H,W i b Y H->b.length<=i/\i<=n /\
 ((Γ.stop i H/\∀p,H p=()->Q (.ref p) (upd H p<|.lst b))\/(i<n/\Γ.go i H/\∀x c,Γ.yld i H x c->g x Y c λa f=>m a f λk d=>if k=true then l a d λy h=>W (i+1) (b++[y]) a h else W (i+1) b a d))
def AC(X:Cx)(a:Scope)(b:kq)(E:L2.St->XK)(F:Cx->Prop):Prop:=∀cl C s₀ H₀ ex c,Cb (EF X a cl b C s₀ H₀ ex c) E->F (EF X a cl b C s₀ H₀ ex c)
structure BlkC(X:Cx)(scope:Scope)(N':kq)(O':L2.St->L2.St)(cl:List<|Str×Addr):Prop where
 clos:closureFor scope X.env=pure cl
 kind:scope.kind=.function
 names:∀y∈scope.names,y.2=.local->scope.names.lookup y.1=!.local
 sub:∀y c,cl.lookup y=!c->X.env.cells.lookup y=!c
 has:∀y,(relabel scope X.env).names.lookup y=!.cell\/(relabel scope X.env).names.lookup y=!.free->(y,NameKind.cell)∈scope.names\/∃c,cl.lookup y=!c
 cap:∀(O:L2.St) (i:Nat) (y:Str) (v:V),N'[i]?=!y->(O' O)[i]?=↑!v->(y,NameKind.cell)∉scope.names
 len:∀O:L2.St,O.length=X.N.length->(O' O).length=N'.length
 vis:∀(O:L2.St) (i:Nat) (y:Str) (v:V),N'[i]?=!y->(O' O)[i]?=↑!v->((relabel scope X.env).names.lookup y=!.cell\/(relabel scope X.env).names.lookup y=!.free)/\∃j:Nat,X.N[j]?=!y/\O[j]?=↑!v/\EW X.env.scope y/\X.env.kindOf y≠!.local
nonrec def g9{O':L2.St->L2.St}(L:BlkC X scope N' O' cl){cq:Cx->Prop}(hc:∀V O H s cl C ex xb,Inv X V O H s->cq (EF X scope cl N' C s H ex xb))(hi:PJ cq X tg iter wi){E:L2.St->XK}(hps:Cb X E)(hst:JL X){O:L2.St}(hg:AC X scope N' (λϊ=>E O) λτ=>PG τ tg g/\IB τ ifs tt/\PE τ elt te)
  (hs:∀x,foldedSetIterable iter X.env x=pure x) {use:Option<|Value->Sem Unit} {V:List<|Addr×Obj} {s:Shared} {H:Hp} {Q:VK} {QQ:Value->Shared->Prop} (I:Inv X V O H s) (h:Ma O' wi g tt te O H Q)
  (hend:∀(D C:Addr) (s5:Shared) (H5:Hp),Inv X V O H5 s5->Q (.ref D) H5->(∃m,s5.heap.Ns C m)->Cs X V H5 C->compPost (model X.prog X.w) X.A X.xe use QQ (.ref D) C (.ok .next) s5) :
  wpAny (model X.prog X.w) X.A (comprehension (.ListComp elt [{tg,iter,ifs,0}] scope pos) scope X.env pos2 (newList []) false (eval iter X.env) use) QQ X.xe s:=by
 let(hclos,hkind,hnames,hcl,hhas,hcap,hσ,hvis):=L;show wpAny_comprehension_free (use:=use) rfl hs hclos hkind hnames<|A6 (hi V s O H _ I h) λv s1 h1=>A6 h1 λitv a h2=>?_
 let(it,F,tn,Γ,N,e,f,T,st2,f2,W,n,hn,w0,turn):=h2;subst e;show Ρ<|zcz ?_;dsimp only;generalize hHp:a.heap.push { cls:=.type "list",dict:=(),data:=.seq ([]:ke).toArray }=P2;generalize M:cellsFrom (P2.objs.size+1) scope.names cl=cl';generalize hh1:pushCells (P2.push { cls:=.type "dict",data:=.dict #[] }) scope.names=h₁;let hC:P2.objs.size=a.heap.objs.size+1:=by rw[<- hHp,Ĝ]
 let hP3:(P2.push { cls:=.type "dict",data:=.dict #[] }).objs.size=P2.objs.size+1:=Ĝ ..;let hDC:a.heap.objs.size≠P2.objs.size:=by rw[hC];show Ô<|ę _
 let G:∀b,b<a.heap.objs.size->b≠P2.objs.size/\b≠a.heap.objs.size:=λb hb=>{by rw[hC];show Ô<|Ħ hb,Ô hb}
 let U:∀b o,a.heap.get? b=!o->h₁.get? b=!o:=λb o e=>by
  rw[<- hh1];show ť _ _ _ _<|Ó _<|hHp▸Ó _ e
 let hacc:h₁.PlainList a.heap.objs.size #[]:={_,by
  rw[<- hh1];show ť _ _ _ _<|Ó _<|hHp▸á _ rfl}
 let hns₁:h₁.Ns P2.objs.size<|λϊ=>():=by
  rw[<- hh1];show(Heap.Ns.new P2<|.type "dict").keeps (ť _ _)
 let J:∀y c,cl'.lookup y=!c->X.env.cells.lookup y=!c\/(P2.objs.size<c/\h₁.IsCell c ()/\(y,NameKind.cell)∈scope.names):=λy c e=>by
  rw[<- M,<- hP3]at e;rcases WR _ _ _ y c e with q|⟨q1,q2,q3⟩;show .inl<|hcl y c q
  rw[hP3]at q1;rw[hh1]at q2;show .inr {(q1),q2,q3}
 let has':∀y,(y,NameKind.cell)∈scope.names\/(∃c,cl.lookup y=!c)->∃c,cl'.lookup y=!c:=λy hy=>by
  rw[<- M]
  let go:∀(names:List<|Str×NameKind) (n:Nat) (acc:List<|Str×Addr),((y,NameKind.cell)∈names\/∃c,acc.lookup y=!c)->∃c,(cellsFrom n names acc).lookup y=!c:=by
   intro names
   induction names with
   |nil=>
    intro n acc h;rcases h with h|h;cases h;show h
   |cons x r ih=>
    let(m,k):=x;intro n acc h;unfold cellsFrom;split;show ih _ _ ?_;by_cases hm:y=m;subst hm;show .inr {n,by simp};rcases h with h|⟨c,h⟩;rcases Ð.mp h with z|z;cases z;show absurd rfl hm;show .inl z;show .inr {c,by rw[æ,beq_eq_false_iff_ne.mpr hm];show h};rename_i hk;show ih _ _ ?_;rcases h with h|h;rcases Ð.mp h with z|z;cases z;show absurd rfl hk;show .inl z;show .inr h
  show go _ _ _ hy
 let fsub:∀b∈Br X.stack,b∈X.env.locals::X.fs:=f.stkSub
 let fpfs:∀b∈F,b∉Br X.stack:=λb hb z=>by
  let(_,h2,h3,_):=f2 b hb;rcases Ð.mp (fsub b z) with q|q;show h2 q;show h3 q
 let A:∀b∈F,b<a.heap.objs.size:=λb hb=>by
  let(o,e,_):=T.obj 0 _ st2 b hb;show Ç e
 let cold:∀y c,cl'.lookup y=!c->c<a.heap.objs.size\/P2.objs.size<c:=λy c e=>by
  rcases J y c e with q|q;let(v,z):=f.cell y c q;show .inl z.lt;show .inr q.1
 let cneD:∀y c,cl'.lookup y=!c->c≠a.heap.objs.size:=λy c e z=>by
  rcases cold y c e with q|q;rw[z]at q;show ä _ q;rw[z,hC]at q;show absurd q<|Nat.not_lt.mpr<|ğ _
 let cneF:∀b,b<a.heap.objs.size->(∀y c,X.env.cells.lookup y=!c->c≠b)->∀y c,cl'.lookup y=!c->c≠b:=λb hb hx y c e z=>by
  rcases J y c e with q|q;show hx y c q z;let:=q.1;rw[z,hC]at this;show absurd (Ğ hb<|Nat.lt_of_succ_lt this)<|ä _
 let t:∀b,a.heap.objs.size<=b->N b=():=λb hb=>f.hok.fresh hb;let CS:a.heap.objs.size<=P2.objs.size:=by rw[hC];show ğ _
 let(xb,hxb):∃xb,xb=notedBy (model X.prog X.w) X.A (compEnvC scope cl' P2.objs.size X.env) λe s'=>compPost (model X.prog X.w) X.A X.xe use QQ (.ref a.heap.objs.size) P2.objs.size (.error e) s':={_,rfl}
 let hpb:Cb (EF X scope cl' N' P2.objs.size a N F xb)<|λϊ=>E O:=by
  subst hxb;intro pins4 σ4 H4 s4 e s' I4 hcx
  let IX:Inv X V O H4 s4:=f.call' (s':=s4) (ch:=F) I4.os I4.base I4.hok I4.bare λb hb=>by
   let(g1,g2,g3,g4,g5,g6):=f2 b hb;show{(g4),g2,g5,g6}
  let(m4,hm4,_):=I4.loc
  show zhh hps hst IX {I4.free,(f.fpOk (H':=N) CS<|t _ CS).2} {(m4),hm4} (λz=>by
   let(o,ho,_):=(f.stack.mem z).2;show absurd (Ç ho)<|Nat.not_lt.mpr CS) rfl hcx
 let(hg,ht,he):=hg _ _ _ _ _ _ hpb
 let ok':(EF X scope cl' N' P2.objs.size a N F xb).Ok:=by
  show{f.ok.mod,hkind,f.ok.glob,f.ok.blt,CS,?inj,λy hy=>has' y<|hhas y hy,?cab,f.ok.hd,f.ok.frames,.inl rfl,λb hb=>{(G b<|A b hb).1,cneF b (A b hb) λy c e=>(f2 b hb).2.2.2.2.1 y c e},
   λb o e=>f.bs b o e,Ö f.ok.bsz f.sz,λb o e hb=>?_,λb hb=>fpfs b hb,f.stack,f.stkFree}
  case inj=>
   intro y z c h1 h2;let h1':(cellsFrom (P2.push { cls:=.type "dict",data:=.dict #[] }).objs.size scope.names cl).lookup y=!c:=by rw[hP3,M];show h1
   let h2':(cellsFrom (P2.push { cls:=.type "dict",data:=.dict #[] }).objs.size scope.names cl).lookup z=!c:=by rw[hP3,M];show h2
   show WU scope.names _ cl (λy z c g1 g2=>f.ok.inj y z c (hcl y c g1)<|hcl z c g2) (λy c g=>?_) y z c h1' h2';let(v,q):=f.cell y c<|hcl y c g;rw[hP3,hC];show Ħ<|Ħ q.lt
  case cab=>
   intro y c hy e;let hy':scope.names.lookup y=!.cell:=Ü hy;let e':(cellsFrom (P2.objs.size+1) scope.names cl).lookup y=!c:=by rw[M];show e
   show Ö CS<|Ö (ğ _)<|WQ scope.names _ (P2.objs.size+1) cl y c (Ã _) (.inl<|ď hy') e'
  let(_,_,_,q,_):=f2 b hb;rcases q with q|q;show f.ok.noex b o e q;show absurd (Ý (Ç e)<|Ö f.ok.bsz q)<|ä _
 let I':Inv (EF X scope cl' N' P2.objs.size a N F xb) V (O' O) N { a with heap:=h₁ }:=by
  show{ok',rfl,f.bare,Un.kept U,{_,hns₁,λi y v h1 h2 h3=>?_},λy c e=>?_,t _ CS,?fc,λp hp=>?_,f.hok.kept U,hσ O f.len}
  case fc=>
   intro y c e;rcases J y c e with q|q;show f.freeC y c q;show t c<|Ö CS<|š q.1
  let(hk,j,h4,h5,h6,h7):=hvis O i y v h1 h2;let hno:=hcap O i y v h1 h2;let(m,hn',hl):=f.loc;let(u,r,l):=hl j y v h4 h5 h6;let(c,hcc):=has' y<|hhas y hk;show{u,r,.inr {hk,c,hcc,?_}}
  rcases l with ⟨k1,_⟩|⟨_,c',e',z⟩;show absurd k1 h7;rcases J y c hcc with w|w;rw[w]at e';cases e';let(o,ho,hd):=z;show{o,U _ _ ho,hd}
  show absurd w.2.2 hno;rcases J y c e with w|w;let(v,o,ho,hd):=f.cell y c w;show{v,o,U _ _ ho,hd};show{(()),w.2.1};let(K,e2,e3,e4,e5):=f.pin p hp;show{U _ _ K,e2,(G _<|Ç K).1,λz=>?_,e5};rcases Ð.mp (fsub _ z) with q|q;show e3 q;show e4 q
 let stat:∀{P:Hp},(∀b∈F,P b=())->∀b∈F,Cs (EF X scope cl' N' P2.objs.size a N F xb) V P b:=λhn' b hb=>
  {hn' b hb,(G b<|A b hb).1,fpfs b hb,.inl hb,cneF b (A b hb) λy c e=>(f2 b hb).2.2.2.2.1 y c e,(f2 b hb).2.2.2.2.2}
 let Dok:∀{P:Hp},P a.heap.objs.size=()->Cs (EF X scope cl' N' P2.objs.size a N F xb) V P a.heap.objs.size:=λhn'=>
  {hn',hDC,(λz=>by
   let(o,ho,_):=(f.stack.mem z).2;show absurd (Ç ho)<|ä _),.inr<|Ã _,cneD,λp hp z=>absurd (Ç (f.pin p hp).1) (by rw[z];show ä _)}
 let loop:∀s3:Shared,s3={ a with heap:=h₁ } ->
   codeAny (model X.prog X.w) X.A (.compLoop (.ListComp elt [{tg,iter,ifs,0}] scope pos) 0 (.ref it) (.ref a.heap.objs.size)<|compEnvC scope cl' P2.objs.size X.env)
    (compPost (model X.prog X.w) X.A X.xe use QQ (.ref a.heap.objs.size) P2.objs.size) s3:=by
  rintro s3 rfl
  show zfo hxb (λm s'=>∃i ys Y P,m=n - i/\Inv (EF X scope cl' N' P2.objs.size a N F xb) V Y P s'/\tn i s'.heap/\(∀b∈F,P b=())/\P a.heap.objs.size=()/\(∃S:ke,Ar ys S/\s'.heap.PlainList a.heap.objs.size S.toArray)/\W i ys Y P)
   ?_ n {0,[],O' O,N,rfl,I',T.keep _ _ _ st2 λb ϊ o e=>U b o e,λb hb=>(f2 b hb).1,t _<|Ã _,{[],.nil,hacc},w0}
  rintro m s4 ⟨i,ys,Y,H4,rfl,I4,st4,fr4,R,⟨S,rv,hpl⟩,w4⟩;let(hly,hin,c):=turn i ys Y H4 w4
  let Z:∀{P:Hp},(∀b∈F,P b=())->∀b∈F,Cs (EF X scope cl' N' P2.objs.size a N F xb) (V++IY [a.heap.objs.size] s4.heap) P b:=λ{P} fr' b hb=>by
    let(g1,g2,g3,g4,g5,g6):=stat fr' b hb;show{g1,g2,g3,g4,g5,λp hp z=>?_};rcases Ú.mp hp with y|y;show g6 p (Č _ y) z;rcases Ú.mp y with y|y;show g6 p (ã _ y) z;let(hb',_):=aJ y;rw[z,Ì]at hb';show absurd (A b hb) (by rw[hb'];show ä _)
  rcases c with ⟨stop,q⟩|⟨hlt,go,step⟩
  .let(k,hDo):=hpl;let I4p:=I4.pinned (fp:=[a.heap.objs.size]) (λb hb=>by rw[Ì.mp hb];show Dok R) (λb hb=>by rw[Ì.mp hb];show{_,hDo,λv z=>(by cases z)})
   show A6 (T.done (EF X scope cl' N' P2.objs.size a N F xb) rfl rfl rfl (hc _ _ _ _ _ _ _ _ f) i _ s4 Y H4 _ I4p (Z fr4) st4 stop) λr s5 zz=>?_;let(hr,I5):=zz;subst hr;let hD5 :=(I5.pin (a.heap.objs.size,_)<|ã _<|ã _<|Ib (Ì.mpr rfl) hDo).1;let(m5,hn5,_):=I5.loc;let fC:H4 P2.objs.size=():=I5.free
   let U5:Un (Br X.stack) F N (upd H4 a.heap.objs.size<|.lst ys) a.heap s5.heap:=by
    let B:=I5.base;show{λb o K e2 e3 e4=>B.keep b o K e2 e3 e4,λb o K e2 e3 e4=>B.slot b o K e2 e3 e4,λb o K e2 e4=>?_,λb o K e4=>B.there b o K e4,λb xs K=>?_,λb o u K=>?_,λb ps K=>?_};rw[BF (G b<|Ç K).2];show B.free b o K e2 e4;let q':=B.tups b xs K;rw[BF<|DP q' R];show q';let q':=B.frzs b o u K;rw[BF<|DP q' R];show q';let(more,q'):=B.tbls b ps K;show{more,by rw[BF<|DP q' R];show q'}
   let hzy:ys.length<=sizeLine:=Ö hly<|Ö hin hn;let HK:HOk X.prog X.w (upd H4 a.heap.objs.size<|.lst ys) s5.heap:=Zw.HOk.adopt I5.hok R {(hzy),S,k,rv,hD5};let os5:s5.os=a.os:=I5.os
   let IX:Inv X V O (upd H4 a.heap.objs.size<|.lst ys) s5:=f.call' (s':=s5) (ch:=F) os5 U5 HK I5.bare (λb hb=>by
    let(g1,g2,g3,g4,g5,g6):=f2 b hb;show{(g4),g2,g5,g6})
   show hend a.heap.objs.size P2.objs.size s5 _ IX (q _ R) {(m5),hn5} ?_;let CL:a.heap.objs.size<=P2.objs.size:=CS;let fp0:Cs X V N P2.objs.size:=f.fpOk CS<|t _ CS;show{by rw[BF<|Í hDC];show fC,fp0.2}
  let(k,hDo):=hpl;let I4p:=I4.pinned (fp:=[a.heap.objs.size]) (λb hb=>by rw[Ì.mp hb];show Dok R) (λb hb=>by rw[Ì.mp hb];show{_,hDo,λv z=>(by cases z)})
  show A6 (T.item (EF X scope cl' N' P2.objs.size a N F xb) rfl rfl rfl (hc _ _ _ _ _ _ _ _ f) i _ s4 Y H4 _ I4p (Z fr4) st4 go) λr s5 zz=>?_;let(u,hr,h5):=zz;subst hr;show A6 h5 λϊ s6 zz=>?_;let(x,H6,I6,r6,y6,st6,fr6):=zz;let I6':=I6.pinned (Z fr6)<|T.obj _ _ st6;show A6 (hg _ s6 Y H6 x u _ I6' r6<|step x H6 y6) λϊ s7 zz=>?_
  let(τ7,H7,I7,q7):=zz;show A6 (ht _ s7 τ7 H7 _ I7 q7) λok s7b zz=>?_
  let(H7b,I7b,q7b):=zz;let B5:∀{H8:Hp} {s8:Shared} {τ8:L2.St},Inv (EF X scope cl' N' P2.objs.size a N F xb) (V++IY [a.heap.objs.size] s4.heap++IY F s6.heap) τ8 H8 s8->∀h9:Heap,(∀b o,b≠a.heap.objs.size->s8.heap.get? b=!o->h9.get? b=!o)->tn (i+1) h9/\∀b∈F,H8 b=():=λ{H8 s8 τ8} I8 h9 sb=>by
   show{T.keep _ _ _ st6 λb hb o e=>?_,λb hb=>?_};show sb b o (G b<|A b hb).2 (I8.pin (b,o)<|ã _<|ã _<|Ib hb e).1;let(o,e,d):=T.obj _ _ st6 b hb;show(I8.pin (b,o)<|ã _<|ã _<|Ib hb e).2.1
  cases ok with
  |false=>
   rw[if_neg<|by decide]at q7b ⊢;let hD8:=I7b.pin (a.heap.objs.size,_)<|ã _<|Č _<|ã _<|Ib (Ì.mpr rfl) hDo;let(t9,f9):=B5 I7b s7b.heap λb o ϊ e=>e
   show{n - (i+1),by lia,i+1,ys,τ7,H7b,rfl,I7b.unpinned.unpinned,t9,f9,hD8.2.1,{(S),rv,k,hD8.1},q7b}
  |true=>
   rw[if_pos rfl]at q7b ⊢;show A6 (he _ s7b τ7 H7b _ I7b q7b) λuy s8 zz=>?_;let(y,H8,I8,ry,w8):=zz;let hD8:=I8.pin (a.heap.objs.size,_)<|ã _<|Č _<|ã _<|Ib (Ì.mpr rfl) hDo;let P8:s8.heap.PlainList a.heap.objs.size S.toArray:={(k),hD8.1};let hlen:=rv.length;show wpAny_list_append_plain P8 (λh' pl' sb=>?_) (by rw[í,<- hlen];lia)
   let I8u :=I8.unpinned.unpinned;let(d1,d2,d3,d4,d5,d6):=Dok hD8.2.1;let I9 :=I8u.turned (t':=s8.toks) (λb o hb e=>(sb.2 b hb).trans e) d1 d2 d4 d5 d6
   let(t9,f9):=B5 I8 h' λb o hb e=>(sb.2 b hb).trans e;show{n - (i+1),by lia,i+1,ys++[y],τ7,H8,rfl,I9,t9,f9,hD8.2.1,{S++[uy],rv.append<|.cons ry .nil,by simpa using pl'},w8}
 show codeAny_compStart_list (loop _ rfl)<|T.self _ 0 _ _ _ (T.keep _ _ _ st2 λb ϊ o e=>U b o e)<|loop _ rfl
def zqh(L:BlkC X scope N' O' cl)(j:∀pz O H s cl C ex xb,Inv X pz O H s->cq (EF X scope cl N' C s H ex xb))(l:PJ cq X tg iter wi)(a:Cb X E)(c:JL X){O:L2.St}(k:AC X scope N' (λϊ=>E O) λτ=>PG τ tg g/\IB τ ifs tt/\PE τ elt te)
  (hs:∀x,foldedSetIterable iter X.env x=pure x)   {H:Hp} {Q:VK} (I:Inv X pz O H s) (h:Ma O' wi g tt te O H Q) :
  wpAny (model X.prog X.w) X.A (eval (.ListComp elt [{tg,iter,ifs,0}] scope pos) X.env) (EP X pz O Q) X.xe s:=by
 show g9 L j l a c k hs I h λD C q d i n ⟨m,hm⟩ f=>{m,hm,λp sb=>?_};show{.ref D,d,G6 (ch:=[C]) i (λb o hb e=>(sb.2 b<|λz=>hb<|by simp[z]).trans e) (λb hb=>by grind),rfl,n}
def zqi(L:BlkC X scope N' O' cl)(w:X.calm=true)(B:PI X tg iter wi)(j:Cb X E)(k:JL X)(y:AC X scope N' (λϊ=>E O) λτ=>PG τ tg g/\IB τ ifs tt/\PE τ elt te)
  (hs:∀x,foldedSetIterable iter X.env x=pure x)   {H:Hp} {D:Ends} {i:Nat} {x:Str}  (u:X.N.Nodup) (d:X.N[i]?=!x) (p:X.env.scope.names.lookup x=!.local)
  (l:swapsWith (.ListComp elt [{tg,iter,ifs,0}] scope pos) (!(.Name x pos')) pos2.line X.env=pure true)
  (I:Inv X pz O H s) (h:Ma O' wi g tt te O H λv H1=>D.nx (O.set i !v) H1) :
  wpAny (model X.prog X.w) X.A (exec (.Assign [.Name x pos'] (.ListComp elt [{tg,iter,ifs,0}] scope pos) pos2) X.env) (SP X pz D) X.xe s:=by
 rw[exec_Assign_Name_used _ _ _ _ l];show Â<|ń<|Â ?_;show Â<|ô (g9 L (λϊ Z Z Z Z Z Z Z Z=>w) (Zq B) j k y hs I h λA C N q r G ⟨m,hm⟩ f=>?_) (λϊ M F=>Ï<|Ï F) λϊ Z e=>e
 show(show wpAny _ X.A (assign (.Name x pos') X.env<|.ref A) _ _ _ from ?_);show wpAny_assign_Name<|Ye r u d (.inl p) (v:=.ref A) rfl (λP t J=>?_)<|.inr p
 let(a,sb,ha):=J;let c:C≠a:=by
  rcases ha with rfl|ha;show f.2.1;show λz=>f.2.2.2.2.1 x a ha z.symm
 show{m,hm.sameBut sb c,λK n=>{_,q,G6 (ch:=[C]) t (λb o hb e=>(n.2 b<|λz=>hb<|by simp[z]).trans e) (λb hb=>by rw[Ì.mp hb];show f),G}}
end
structure RpO(K:ka)(F H:Hp)(l:qD)(xs:qC)(R:Nat->Rg):Prop where
 len:l.length=xs.length
 rep:∀(i:Nat) (t:T) (x:V),l[i]?=!t->xs[i]?=!x->Rp K F H t x (R i)
 dis:∀i j a,i≠j->R i a->¬ R j a
 out:∀i a,R i a->i<l.length
section
variable {K:ka}{F H F1 H1:Hp}{l:qD}{xs:qC}{R:Nat->Rg}{B:Rg}
theorem RpO.nil:RpO K F H [] []<|λϊ=>R0:={rfl,λi t x h=>by simp at h,λϊ y y y z=>z.elim,λϊ y z=>z.elim}
def RpO.dom(h:RpO K F H l xs R)(z:R i a):F a=()/\∃u,H a=!u:=by
 let b:=h.out i a z;let c:i<xs.length:=by let:=h.len;lia
 show(h.rep i _ _ (Á b)<|Á c).dom z
theorem RpO.ext(h:RpO K F H l xs R)(e:Ext F H F1 H1 B):RpO K F1 H1 l xs R:={h.len,λi t x a b=>(h.rep i t x a b).ext e,h.dis,h.out}
theorem RpO.apart(h:RpO K F H l xs R)(e:Ext F H F1 H1 B)(hb:B b)(i):¬ R i b:=λz=>by
 let(f,u,q):=h.dom z;rw[e.nb b hb]at q;cases q
def RpO.snoc(h:RpO K F H l xs R)   (r:Rp K F H t x B)(d:∀i a,R i a->¬ B a):RpO K F H (l++[t]) (xs++[x]) (λj=>if j=l.length then B else R j):=by
 let hl:=h.len;show{by simp[hl],λi o p g k=>?_,λi j a e f c=>?_,λi a z=>?_};by_cases b:i=l.length;subst b;rw[if_pos rfl];let q:t=o:=by simpa using g
 let s:x=p:=by rw[hl]at k;simpa using k
 subst q;subst s;show r;rw[if_neg b]
 let n:i<l.length:=by
  let:=(Ê.mp g).1;simp at this;lia
 rw[ù n]at g;rw[ù<|by lia]at k;show h.rep i o p g k;by_cases b:i=l.length;erw[b,Æ]at f;let m:¬ j=l.length:=λz=>e<|b.trans z.symm
 erw[m,Å]at c;show d j a c f;erw[b,Å]at f;by_cases m:j=l.length;erw[m,Æ]at c;show d i a f c;erw[m,Å]at c;show h.dis i j a e f c;by_cases b:i=l.length;simp[b];erw[b,Å]at z;let:=h.out i a z;simp
 lia
def RpO.cons(h:RpO K F H l xs R)   (r:Rp K F H t x B)(d:∀i a,R i a->¬ B a):RpO K F H (t::l) (x::xs) (λj=>match j with|0=>B|j+1=>R j):=by
 show{by simp[h.len],λi k m c e=>?_,λi j a b f g=>?_,λi a z=>?_};cases i with
 |zero=>simp at c e;subst c;subst e;show r|succ i=>show h.rep i k m (by simpa using c)<|by simpa using e
 cases i with
 |zero=>
  cases j with
  |zero=>show b rfl|succ j=>show d j a g f
 |succ i=>
  cases j with
  |zero=>show d i a f g|succ j=>show h.dis i j a (λz=>b<|by rw[z]) f g
 cases i with
 |zero=>simp|succ i=>have:=h.out i a z;simp;lia
def RpO.list(h:RpO K F H l xs R)(s:Ah F H)  (b:H p=()):Rp K F (upd H p<|.lst xs) (.own l) (.ref p) (λa=>a=p\/∃i,R i a)/\Ext F H F (upd H p<|.lst xs) (λa=>a=p):=by
 let e:=Ext.newO (o:=.lst xs) s b;let c:=h.ext e;show{.own (k:=.lst) trivial R (HZ s b) CT h.len c.rep h.dis (λi z=>h.apart e rfl i z) h.out,e}
end
def AM(ma mk:AH):AH:=λY=>match ma Y with
 |some (.v t b)=>(match mk Y with
  |some (.v (.int i) y)=>(match t with
   |.nd y x l=>(match A9 l i with
    |some c=>!(.v c<|b && (not c.sh))|none=>())
   |.str z=>if z.length<=BN then (match A9 z.cps.toList i with
    |some c=>!(.v (.str {#[c]}) false)|none=>()) else ()
   |y=>())
  |some (.v y x)=>none|r=>r)
 |r=>r
def zna{c:α}(e:l.length=m.length)(h:A9 l i=!c):∃(j:Nat) (d:β),l[j]?=!c/\m[j]?=!d/\A9 m i=!d:=by
 unfold A9 at h ⊢;rw[<- e];cases q:CY l.length i with
 |none=>rw[q]at h;cases h|some j=>
  rw[q]at h;have a:l[j]?=!c:=h
  have b:j<m.length:=by
   have:=(Ê.mp a).1;lia
  show{j,m[j],a,Á b,Á b}
section
variable {K:ka}{F H:Hp}
def Rp.seq(s:Ah F H)(h:Rp K F H (.nd o k l) x A):∃p xs,x=.ref p/\(Ag K H p xs\/CP K H p xs)/\l.length=xs.length/\∀(i:Nat) (t ) (x ),l[i]?=!t->xs[i]?=!x->∃B,(∀a,B a->A a)/\Rp K F H t x B:=by
 cases h with
 |@shr k p xs l h e c=>
  show{p,xs,rfl,?_,e,λi t x b g=>{R0,λϊ z=>z.elim,c i t x b g}};cases k with
  |lst=>show .inl (Ag.of<|s _ _ h)|rl=>show .inl (s.seq h.l)|tup=>show .inr (CP.of<|s _ _ h)|rt=>show .inr (HP s h)|pin q=>show .inl<|Ag.of<|s _ _ h
 |@own j p xs l hk R f h e c d dp o=>
  show{p,xs,rfl,?_,e,λi t x b g=>{R i,λa z=>.inr {(i),z},c i t x b g}};cases k with
  |tup=>show .inr (CP.of h)|_=>show .inl<|Ag.of h
end
section
variable {X:Cx}{E:L2.St->XK}{ca:Str->Value}{O:L2.St}{H:Hp}{m ma mb mc:AH}{ms:BM}{K:ka}{a b c e:Expr}{es:kh}{pos:Pos}
def tM_ix(h:tM K E ca (AM ma mb) O H Q):JX (Zi K) (tM K E ca ma) (tM K E ca mb) O H Q:=by
 let(F,Y,R,S,q):=h;show{F,Y,R,S,?_};unfold AM at q;cases V:ma Y with
 |none=>erw[V]at q<;>symm|some r=>
  erw[V]at q;cases r with
  |x c=>show q|v t n=>
   intro Z H1 x B J g1;have T:=S.ext J;show{Z,Y,R,T,?_};cases hk:mb Y with
   |none=>erw[hk]at q<;>symm|some r=>
    erw[hk]at q;cases r with
    |x c=>show λX H' e=>q X H' ((J.trans e).mono λϊ z=>z.elim)|v tk bk=>
     cases tk with
     |int i=>
      intro g m y C G g2
      have hy:y=.int i:=by
       cases bk with
       |true=>let(_,A,_,r):=g2;show r.int_inv
       |false=>show(g2).int_inv
      subst hy;have b :=(J.trans G).mono λϊ z=>.inl z
      have S2:=T.ext G;cases t with
      |nd o k l=>
       simp only at q;cases f:A9 l i with
       |none=>erw[f]at q<;>symm|some D=>
        erw[f]at q
        have node:∃w,(n=true->∀a,w a->tot R a)/\(n=false->∀a,w a->B a)/\Rp K g m (.nd o k l) x w:=by
         cases n with
         |true=>let(_,A,I,r):=g1;show{A,λϊ=>I,(λz=>by cases z),r.ext G}
         |false=>show{B,(λz=>by cases z),λϊ ϊ z=>z,(g1).ext G}
        let(w,L,M,rn):=node;let(p,xs,rfl,s,hl,u):=Rp.seq S2.fh rn;let(j,d,h1,h2,U):=zna hl f;let(P,I,N):=u j D d h1 h2
        have W :=by
         cases n with
         |false=>show q g m d P (b.mono λa z=>M rfl a<|I a z) N|true=>
          cases hs:D.sh with
          |true=>rw[hs]at q;show q g m d R0 (b.mono λϊ z=>z.elim) (N.move hs<|.refl _)|false=>rw[hs]at q;show q g m d R0 (b.mono λϊ z=>z.elim) {rfl,P,λa z=>L rfl a<|I a z,N}
        rcases s with s|s;show .inl {(p),xs,i,d,rfl,rfl,s,U,W};show .inr<|.inl {(p),xs,i,d,rfl,rfl,s,U,W}
      |str z=>
       by_cases hz:z.length<=BN;erw[hz,Æ]at q;cases f:A9 z.cps.toList i with
       |none=>erw[f]at q<;>symm|some D=>
        erw[f]at q
        have hx:x=.str z:=by
         cases n with
         |true=>let(_,A,_,r):=g1;show r.str_inv
         |false=>show(g1).str_inv
        subst hx;show .inr<|.inr {z,i,D,rfl,rfl,by rw[<- GN];show hz,f,q g m _ R0 (b.mono λϊ z=>z.elim)<|.str _}
       erw[hz,Å]at q<;>symm
      |_=>symm
     |_=>symm
theorem r_ix(ha:PE X a<|tM X.K E ca ma)(hb:PE X b<|tM X.K E ca mb)(hs:KR b):PE X (.Subscript a b pos)<|tM X.K E ca<|AM ma mb:=PE.weak (NF zqu ha hb hs) λO H Q h=>tM_ix h
def CM{α:Type}(l:List α)(a b:kg):List α:=(l.drop<|HT.sIx l.length 0 a).take (HT.sIx l.length l.length b - HT.sIx l.length 0 a)
def FE(m:Option<|AH):AL->Option (kg):=λY=>match m with
 |none=>!none|some m=>match m Y with
  |some (.v (.int i) z)=>↑!i|z=>()
def DC(ma:AH)(d c:Option<|AH):AH:=λY=>match ma Y with
 |some (.v t false)=>(match FE d Y with
  |some b=>(match FE c Y with
   |some a=>(match t with
    |.nd z .lst l=>!(.v (.own<|CM (BA l) b a) false)|.nd z .rl l=>!(.v (.own<|CM (BA l) b a) false)|z=>())
   |none=>())
  |none=>())
 |some (.v z true)=>none|r=>r
def HL(K:ka)(m:Option<|AH):TO:=λO H Q=>∃F Y R o,StR K F H O Y R/\FE m Y=!o/\∀b a,Ext F H b a R0->Q o a
theorem r_po0:PO X ()<|HL X.K ():=λa s O H Q I h=>by
 let(F,Y,R,o,S,e,q):=h;cases e;show zlp a s O H Q I<|q F H<|Ext.refl S.fh
theorem Z4(ha:PE X e<|tM X.K E ca m):PO X !e<|HL X.K !m:=λl s O H Q I h=>by
 let(F,Y,R,o,S,a,q):=h;show zlo ha l s O H Q I {F,Y,R,S,?_};unfold FE at a;simp only at a;cases j:m Y with
 |none=>grind|some r=>
  rw[j]at a;cases r with
  |x c=>cases a|v v b=>
   cases v with
   |int i=>
    cases a;intro d f x B e g
    let k:x=.int i:=by
     cases b with
     |true=>let(_,A,_,r):=g;show r.int_inv
     |false=>show(g).int_inv
    show{i,k,q d f<|e.mono λϊ z=>z.elim}
   |_=>cases a
nonrec def zk2(r:As K F l xs)(lo hi):As K F (CM l lo hi)<|L6 xs lo hi:=by
 let hl:=r.1;unfold CM L6;rw[hl];show{by simp[hl],λi t x a b=>?_};rw[List.getElem?_take]at a b;split at a;rename_i c;rw[if_pos c,ŕ]at b;rw[ŕ]at a;show r.2 _ t x a b;cases a
def Z3{lo hi}(ha:PE X a<|tM X.K E ca ma)(hl:PO X lo<|HL X.K ml)(hh:PO X hi<|HL X.K mh):PE X (.Subscript a (.Slice lo hi () p2) pos)<|tM X.K E ca<|DC ma ml mh:=by
 show PE.weak (Zr zkv ha hl hh) λO H Q h=>?_;let(F,Y,R,S,q):=h;show{F,Y,R,S,?_};unfold DC at q;cases M:ma Y with
 |none=>erw[M]at q<;>symm|some r=>
  erw[M]at q;cases r with
  |x c=>show q|v t V=>
   cases V with
   |true=>symm|false=>
    intro F1 H1 x B W g1;let(n,i,_,r1):=EY.frz S W g1;have K:=S.ext i;simp only at q;cases G:FE ml Y with
    |none=>erw[G]at q<;>symm|some d=>
     erw[G]at q;show{n,Y,R,d,K,G,λU H2 A=>?_};have L:=K.ext A;cases I:FE mh Y with
     |none=>erw[I]at q<;>symm|some b=>
      erw[I]at q;show{U,Y,R,b,L,I,λs u D=>?_};have w:=L.ext D;have y:=i.trans0<|A.trans0 D;have P:Rp X.K s s t.share x R0:=(r1).frame (A.ff.trans D.ff) λϊ z=>z.elim
      have j:∀{o } {k } {l },t=.nd o k l->(k=.lst\/k=.rl)->(∀m f x B,Ext F H m f B->Rp X.K m f (.own<|CM (BA l) d b) x B->Q x f)->Ze X.K x d b u Q:=by
       intro o k l Z hk qq;subst Z;rw[T.share]at P;let(p,xs,rfl,_,N,k3):=E2 P
       have sq:Ag X.K u p xs:=by
        rcases hk with rfl|rfl;show Ag.of<|w.fh _ _ N
        show w.fh.seq N.l
       show{p,xs,rfl,sq,λp' J=>?_};have gg:Dw X.K s u (.own<|CM (BA l) d b) Q:=λm f z C e g=>qq m f z C (y.trans0 e) g;show gg.list w.fh (zk2 k3 d b) J
      cases t with
      |nd o k l=>
       cases k with
       |lst=>show j rfl (.inl rfl) q|rl=>show j rfl (.inr rfl) q|tup=>symm|rt=>symm|pin O=>symm
      |_=>symm
def pMo(K:ka)(E:L2.St->XK)(ca:Str->Value)(O:L2.St)(Q:qC->Hp->Prop)(F H:Hp):Option RsL->Prop
 |some (.v e z)=>∀b a xs (d:Nat->Rg),Ext F H b a (tot d)->RpO K b a e xs d->Q xs a|some (.x c)=>∀b a,Ext F H b a R0->XE (E O) ca c b a|none=>False
def JY(K:ka)(E:L2.St->XK)(ca:Str->Value)(m:BM):TA:=λO H Q=>∃F Y R,StR K F H O Y R/\pMo K E ca O Q F H (m Y)
def BK(m:AH)(ms:BM):BM:=λY=>match m Y with
 |some (.v t false)=>(match ms Y with
  |some (.v a z)=>!(.v (t::a) false)|r=>r)
 |some (.v z true)=>none|some (.x c)=>!(.x c)|none=>()
theorem Z5:PA X []<|JY X.K E ca AE:=PA.weak GB λO H Q h=>by
 let(F,Y,R,S,q):=h;show q F H [] (λϊ=>R0) ((Ext.refl S.fh).mono λa ⟨i,z⟩=>z.elim) .nil
def Zb(ha:PE X e<|tM X.K E ca m)(hr:PA X es<|JY X.K E ca ms)(hs:starEach (e::es) X.env=(false,eval e X.env)::starEach es X.env):PA X (e::es)<|JY X.K E ca<|BK m ms:=by
 show PA.weak (FW ha hr hs) λO H Q h=>?_;let(F,Y,R,S,q):=h;show{F,Y,R,S,?_};unfold BK at q;cases g:m Y with
 |none=>erw[g]at q<;>symm|some r=>
  erw[g]at q;cases r with
  |x c=>show q|v t u=>
   cases u with
   |true=>symm|false=>
    intro l y x B d g1;have s:=S.ext d;show{l,Y,R,s,?_};cases hs:ms Y with
    |none=>erw[hs]at q<;>symm|some r=>
     erw[hs]at q;cases r with
     |x c=>show λk o e=>q k o ((d.trans e).mono λϊ z=>z.elim)|v D C=>
      intro n p xs A f w;have b :=g1;show q n p (x::xs) _ ((d.trans f).mono ?_)<|w.cons (b.ext f) λi a z=>?_
      rintro a ⟨j,z⟩;cases j with
      |zero=>show .inl z|succ j=>show .inr {(j),z}
      show b.apart f {(i),z}
def BQ(ms:BM):AH:=λY=>match ms Y with
 |some (.v a z)=>if a.length<=BN then ↑(.v (.own a) false) else ()
 |some (.x c)=>!(.x c)|none=>()
def Z7(h:PA X es<|JY X.K E ca ms):PE X (.List es pos)<|tM X.K E ca<|BQ ms:=by
 show PE.weak (zph h) λO H Q h=>?_;let(F,Y,R,S,q):=h;show{F,Y,R,S,?_};unfold BQ at q;cases e:ms Y with
 |none=>erw[e]at q<;>symm|some r=>
  erw[e]at q;cases r with
  |x c=>show q|v l b=>
   intro g m xs n d f;by_cases hz:l.length<=BN;erw[hz]at q;show{by rw[<- f.len];show hz,λp k=>?_};let(r,j):=f.list d.fh k;show q g _ _ _ ((d.trans j).mono ?_) r;rintro a (z|⟨i,z⟩);show .inr z;show .inl {(i),z};erw[hz]at q<;>symm
def BP(ms:BM):AH:=λY=>match ms Y with
 |some (.v a false)=>if a.length<=BN then ↑(.v (.tup a) false) else ()
 |some (.v z true)=>none|some (.x c)=>!(.x c)|none=>()
def r_tup(h:PA X es<|CI X.K E ca ms):PE X (.Tuple es k pos)<|tM X.K E ca<|BP ms:=by
 show PE.weak (zpd h) λO H Q h=>?_;let(F,Y,R,S,q):=h;show{F,Y,R,S,?_};unfold BP at q;cases d:ms Y with
 |none=>erw[d]at q<;>symm|some r=>
  erw[d]at q;cases r with
  |x c=>show q|v f b=>
   cases b with
   |true=>symm|false=>
    intro j m xs a rs;by_cases hz:f.length<=BN;erw[hz]at q;show{by rw[<- rs.1];show hz,λp o=>?_};have n:Dw X.K j m (.tup f) Q:=λi l z C e g=>q i l z C (a.trans0 e) g;show n.tuple a.fh rs o;erw[hz]at q<;>symm
theorem zoo{id}(c:CQ X (.builtin id)<|Di X.K g)(d:Gl X x)(f:X.mg x=())(hv:bootBuiltins x=!(.builtin id))(ha:PA X (e::es)<|CI X.K E ca ms)(hn:x≠"__name__")(a:(x == "__debug__")=false)
  (he:starEach (e::es) X.env=(false,eval e X.env)::starEach es X.env) (b:(backTo pos<|starEach es X.env).any (·.1)=false):PE X (.Call (.Name x p) (e::es) [] pos)<|tM X.K E ca<|Bk g ms:=
 PE.weak (NG c d f hv ha hn a he b) λO H Q h=>IL h
theorem Zd(c:CQ X (.type T')<|Di X.K g)(d:Gl X x)(f:X.mg x=())(hv:bootBuiltins x=!(.type T'))(ha:PA X (e::es)<|CI X.K E ca ms)(hn:x≠"__name__")(a:(x == "__debug__")=false)
  (he:starEach (e::es) X.env=(false,eval e X.env)::starEach es X.env) (b:(backTo pos<|starEach es X.env).any (·.1)=false):PE X (.Call (.Name x p) (e::es) [] pos)<|tM X.K E ca<|Bk g ms:=
 PE.weak (Zv c d f hv ha hn a he b) λO H Q h=>IL h
end
def Bd:T->q9
 |.nd y x l=>!(.int l.length)|.str z=>if z.length<=BN then ↑(.int z.length) else ()
 |y=>()
def DF:T->q9
 |.nd z y l=>!(.own l)|z=>()
def Hw:T->q9
 |.int i=>!(.int (if i<0 then -i else i))
 |z=>()
def Ku:T->T->q9
 |.int i,.int j=>!(.int (if j<i then j else i))
 |z,y=>()
def N1:T->T->q9
 |.int i,.int j=>!(.int (if j > i then j else i))
 |z,y=>()
def OA:qD->Option (ku)
 |[]=>![]|.int i::r=>(OA r).map (i::·)|z=>()
def maxL(ns:ku):Int:=ns.getD (argBest (λi j=>decide (ns.getD i 0 > ns.getD j 0))<|ns.length - 1) 0
def LW:qD->q9
 |[.nd z .lst l]=>(match OA l with
  |some (i::r)=>!(.int<|maxL<|i::r)|z=>())
 |[t,u]=>N1 t u|z=>()
def Fo:qD->Option (List Bool)
 |[]=>![]|.bl b::r=>(match Fo r with
  |some l=>!(b::l)|none=>())
 |z::y=>()
def EV:T->q9
 |.nd z .lst l=>(match Fo l with
  |some bs=>!(.bl<|bs.all id)|none=>())
 |z=>()
def Hv:T->q9
 |.nd z .lst l=>(match Fo l with
  |some bs=>!(.bl<|bs.any id)|none=>())
 |z=>()
def YT:Kd->Option String
 |.lst=>↑"list"|.tup=>↑"tuple"|.rl=>↑"list"|.rt=>none|.pin z=>()
def M6:T->Option String
 |.non=>↑"NoneType"|.bl z=>↑"bool"|.int z=>↑"int"|.str z=>↑"str"|.nd z k y=>YT k|.dic z y=>↑"dict"|.pdc z y=>↑"dict"|.odc z y=>none|.obj z y=>none|.oob z y x w=>none|.osd z y=>()
def JT:List String:=["int","bool","str","list","tuple"]
def Mg(a c:String):Bool:=a == c || (a == "bool" && c == "int")
def DH(c:String)(t:T):q9:=match M6 t with
 |some a=>if c∈JT then ↑(.bl<|Mg a c) else ()
 |none=>()
def ze5:W.kitMeta "str"=true:=by decide +kernel
def zd0:W.kitMeta "list"=true:=by decide +kernel
def iA(K)(ha:a∈["NoneType","bool","int","str","list","tuple","dict"])(b:c∈JT):W.kitOne K (.type a) (.type c)=!(Mg a c):=by
 let d:W.kitMeta c=true:=by
  erw[JT,Ð,û,ý]at b;rcases b with rfl|rfl|rfl|rfl|rfl;show ze6;show zd1;show ze5;show zd0;show zch
 by_cases h:a=c;subst h;rw[zjj];simp[Mg];show zqm K (l:=[]) h d ?_;erw[JT,Ð,û,ý]at b ha;rcases ha with rfl|rfl|rfl|rfl|rfl|rfl|rfl<;>rcases b with rfl|rfl|rfl|rfl|rfl<;>first|show absurd rfl h|decide +kernel
section
variable {X:Cx}
nonrec def zi2:CQ X (.builtin "len")<|Di X.K<|g1 Bd:=by
 intro d s O H xs g Q I r h;let(F,j,v,fh,rs,e,q):=h;unfold g1 at e;split at e
 let(k,i,rfl,f,b):=rs.inv;cases b.inv0;unfold Bd at e;split at e;cases e;let(p,c,rfl,a,hl,_):=Rp.seq fh<|f.any;show mW d s O H _ g Q I r {_,c.length,rfl,?_,by rw[<- hl];show q.int fh}
 rcases a with a|a;show .inl {(c),a,rfl};show .inr {(c),a,rfl};split at e;cases e;rename_i hz;rw[f.str_inv]at r;show mW d s O H _ g Q I r {_,_,rfl,{by show hz,rfl},q.int fh};cases e;cases e;cases e
def zgh{K}(s:Ah F H)(h:G0 K F k p xs):Ag K H p xs\/CP K H p xs:=by
 cases k with
 |lst=>show .inl (Ag.of<|s _ _ h)|rl=>show .inl (s.seq h.l)|tup=>show .inr (CP.of<|s _ _ h)|rt=>show .inr (HP s h)|pin q=>show .inl<|Ag.of<|s _ _ h
def mY:CQ X (.type "list")<|Di X.K<|g1 DF:=by
 intro f s O H xs i Q I r h;let(F,m,v,fh,rs,e,q):=h;unfold g1 at e;split at e
 let(n,j,rfl,g,a):=rs.inv;cases a.inv0;unfold DF at e;split at e;cases e;let(p,k,rfl,rfl,d,c):=E2 g;let b :=zgh fh d;show ze1 f s O H _ i Q I r {p,k,rfl,b,λl hl=>q.list fh c hl}
 cases e;cases e
def zi6:CQ X (.builtin "abs")<|Di X.K<|g1 Hw:=by
 intro b s O H xs d Q I r h;let(F,g,v,fh,rs,e,q):=h;unfold g1 at e;split at e
 let(i,f,rfl,c,a):=rs.inv;cases a.inv0;unfold Hw at e;split at e;cases e;rw[c.int_inv]at r;show zkd b s O H _ d Q I r {_,rfl,q.int fh};cases e;cases e
def mX{c:Int->Int->Int}(d:CQ X (.builtin f) (λxs H Q=>∃i j,xs=[.int i,.int j]/\Q (.int<|c i j) H))(k:∀t u v,g t u=!v->∃i j,t=.int i/\u=.int j/\v=.int (c i j)):CQ X (.builtin f)<|Di X.K<|g2 g:=by
 intro l s O H xs o Q I r h;let(F,x,v,fh,rs,e,q):=h;unfold g2 at e;split at e
 let(y,p,rfl,m,a):=rs.inv;let(x2,w,rfl,n,b):=a.inv;cases b.inv0;let(i,j,rfl,rfl,rfl):=k _ _ _ e;rw[m.int_inv,n.int_inv]at r;show d l s O H _ o Q I r {_,_,rfl,q.int fh}
 cases e
theorem zi0(a:X.calm=true):CQ X (.builtin "min")<|Di X.K<|g2 Ku:=mX (zhw a) λt u v h=>by
 unfold Ku at h;split at h;cases h;show{_,_,rfl,rfl,rfl};cases h
theorem zi1(a:X.calm=true):CQ X (.builtin "max")<|Di X.K<|g2 N1:=mX (zhx a) λt u v h=>by
 unfold N1 at h;split at h;cases h;show{_,_,rfl,rfl,rfl};cases h
def iP:∀{l} {ns} {ys} {its},OA l=!ns->As X.K F l ys->Ar ys its->∃xs:List (Int×Tok),its=xs.map (λp=>.int p.1 p.2)/\xs.map (·.1)=ns
 |[],ns,ys,its,h,r,a=>by
  cases h;cases r.inv0;cases a;simp
 |t::l,ns,ys,its,h,r,a=>by
  cases t with
  |int i=>
   let(ms,b,rfl):=Ø.mp h;let(x,f,rfl,c,d):=r.inv;rw[c.int_inv]at a;cases a with
   |cons e a=>let(tk,rfl):=e;let(xs,rfl,rfl):=iP b d a;show{(i,tk)::xs,rfl,rfl}
  |_=>cases h
nonrec def zke(c:X.calm=true):CQ X (.builtin "max")<|Di X.K LW:=by
 intro y s O H xs C Q I r h;let(F,J,v,fh,rs,e,q):=h;unfold LW at e;split at e
 split at e;rename_i l i m g;cases e;let(K,D,rfl,z,b):=rs.inv;cases b.inv0;let(p,E,rfl,_,o,n):=E2 z;let(u,rfl,A):=Fw r;cases A;let(j,B,x,hz):=I.list (Ag.of (fh _ _ o):Ag X.K H p E);let(a,rfl,en):=iP g n B;let f:(a.map λp=>Value.int p.1 p.2).toArray=intItems a.toArray:=by simp[intItems]
 let d:a.length=(i::m).length:=by rw[<- en,À]
 let w:numAt a.toArray=λk=>(i::m).getD k 0:=funext λk=>by
  rw[<- en];simp[numAt]
 show max_intList (I.ok.hd c) (f▸x.isList) (by rw[í,d];simp) λv G tk hv hk=>?_;let(t,rfl):=intItems_at hv;rw[í,d,w];show{.int _,H,I.kept hk,{_,rfl},q.int fh};cases e;show zi1 c y s O H xs C Q I r {F,_,v,fh,rs,e,q};cases e
def nA:∀{l} {bs},Fo l=!bs->l.length=bs.length/\∀(i:Nat) (t),l[i]?=!t->∃b,bs[i]?=!b/\t=.bl b
 |[],bs,h=>by cases h;show{rfl,λi t e=>by simp at e}|t::r,bs,h=>by
  unfold Fo at h;cases t with
  |bl b=>
   simp only at h;cases hr:Fo r with
   |none=>erw[hr]at h;cases h|some l=>
    erw[hr]at h;cases h;let(a,c):=nA hr;show{by simp[a],λi t e=>?_}
    cases i with
    |zero=>simp at e;show{(b),rfl,e.symm}|succ i=>show c i t<|by simpa using e
  |_=>cases h
def ZY{bs:List Bool}(h:∀(i:Nat) (b:Bool),bs[i]?=!b->tr i=b):(List.range bs.length).all tr=bs.all id/\(List.range bs.length).any tr=bs.any id:=by
 let e:(List.range bs.length).map tr=bs:=by
  apply ķ;intro i;rw[É];by_cases a:i<bs.length;rw[ž a,Á a];erw[Ă];rw[h i _<|Á a];rw[þ (by simp;lia),þ<|by lia];rfl
 constructor;let:(List.range bs.length).all tr=((List.range bs.length).map tr).all id:=by rw[Ţ];rfl
 rw[this,e];let:(List.range bs.length).any tr=((List.range bs.length).map tr).any id:=by rw[List.any_map];rfl
 rw[this,e]
def YF(K:X.calm=true)   {O:L2.St}{H:Hp}{F:Hp}       (I:Inv X pz O H s)(fh:Ah F H)(N:Rp X.K F F (.nd o .lst l) (.ref p) R0)(hb:Fo l=!bs)
  (J : ∀ (I0 : Addr) (wr fp ) (St ) (PP ) (tr ) (s2 : Shared), Walks X.prog X.w X.A.in1 I0 fp wr bs.length PP St -> St 0 s2.heap -> TruthOf X.prog X.w X.A.in1 PP tr -> (∀ (i : Nat) (b : Bool), bs[i]? = !b -> tr i = b) ->
   (∀h' tk,(∀b o,b∉wr->s2.heap.get? b=!o->h'.get? b=!o)->Inv X pz O H { s2 with heap:=h',toks:=tk })->P (.ref I0) s2):wpAny (model X.prog X.w) X.A.in1 (pyIter<|.ref p) P E' s:=by
 let(S,Q,G,rfl,M,x):=E2 N;cases G;let(f,c):=nA hb;let(a,D,y,hz):=I.list<|Ag.of<|fh _ _ M;let hl:=D.length
 let r :=Ô (by
  let(o,n,e,_):=y;show Ç e)
 let hh:X.A.in1.handled=():=I.ok.hd K
 let val:∀(i:Nat) (v ),a[i]?=!v->∃b,bs[i]?=!b/\v=.bool b:=λi v hv=>by
  let q:i<Q.length:=by
   let:=(Ê.mp hv).1;lia
  let d:i<l.length:=by rw[x.1];show q
  let(b,g,h):=c i _<|Á d;let B:=x.2 i _ _ (Á d)<|Á q;rw[h]at B;let(u,A,C):=D.get<|Á q;rw[hv]at A;cases A;rw[B.bl_inv]at C;show{(b),g,C}
 let m:a.toArray.size=bs.length:=by rw[í,<- hl,<- x.1,f]
 show Τ y.isList ?_;let W:=Walks.list (prog:=X.prog) (w:=X.w) hh s.heap.objs.size p r a.toArray;rw[m]at W;show J s.heap.objs.size _ _ _ _ (λi=>bs.getD i false) _ W {{_,á _ rfl,rfl,rfl},?_} ?_ ?_ ?_
 let(o,L,hr):=y.isList;show{o,Ó _ L,hr};intro i v T R E hv t;let(b,g,h):=val i v<|by simpa using hv
 subst h;show Ĉ ?_;let e:bs.getD i false=b:=by rw[â,g];rfl
 rw[<- e];show t;intro i b j;show(?_:bs.getD i false=b);rw[â,j]
 rfl;intro h' tk k
 show I.kept λb o e=>k b o (λz=>by
  rw[Ì]at z;show absurd (Ç e) (by rw[z];show ä _))<|Ó _ e
nonrec def zi5(n:X.calm=true):CQ X (.builtin "all")<|Di X.K<|g1 EV:=by
 intro x s O H xs A Q I r h;let(F,z,v,fh,rs,e,q):=h;unfold g1 at e;split at e
 let(B,w,rfl,g,c):=rs.inv;cases c.inv0;unfold EV at e;split at e;split at e;cases e;rename_i bs a;let(p,rfl):=g.ref_inv;let(u,rfl,o):=Fw r;cases o;show call_all_walk<|YF n I fh g a λi t l St j tr y W d f b B5=>{i,l,t,bs.length,j,St,tr,rfl,W,d,f,λm tk k=>?_}
 rw[(ZY b).1];show{.bl _,H,B5 m tk k,rfl,q.bl fh};cases e;cases e;cases e
nonrec def zi4(n:X.calm=true):CQ X (.builtin "any")<|Di X.K<|g1 Hv:=by
 intro x s O H xs A Q I r h;let(F,z,v,fh,rs,e,q):=h;unfold g1 at e;split at e
 let(B,w,rfl,g,c):=rs.inv;cases c.inv0;unfold Hv at e;split at e;split at e;cases e;rename_i bs a;let(p,rfl):=g.ref_inv;let(u,rfl,o):=Fw r;cases o;show call_any_walk<|YF n I fh g a λi t l St j tr y W d f b B5=>{i,l,t,bs.length,j,St,tr,rfl,W,d,f,λm tk k=>?_}
 rw[(ZY b).2];show{.bl _,H,B5 m tk k,rfl,q.bl fh};cases e;cases e;cases e
def XX(K:ka)(H:Hp)(x:V)(a:String):Prop:=(a="dict"/\∃p ob b,x=.ref p/\H p=!(.frz ob<|.dK b))\/(a="list"/\∃p xs,x=.ref p/\Ag K H p xs)
def iL{O:L2.St}(I:Inv X pz O H s)(d:Ab x u)(ty:XX X.K H x a)(e:W.kitOne X.K (.type a) c=!b)(h:∀tk,Q (.bool b) { s with toks:=tk }) :
  wpAny (model X.prog X.w) A (call (.builtin "isinstance") [u,c]) Q E s:=by
 rcases ty with ⟨rfl,p,ob,t,rfl,i⟩|⟨rfl,p,xs,rfl,l⟩;cases d;let(_,_,_,C,_,q):=(I.hok p _ i);let(o,B,y,j,k,_):=q;show ò Κ I.kIn {(o),j,k.1} e (λz=>nomatch z) h
 cases d;let(m,r,(o,n,f,g,v,w),_):=I.list l;show ò Ι I.kIn {(o),f,g} e (λz=>nomatch z) h
def YR(fh:Ah F H)(r:Rp X.K F F t x R0)(h:M6 t=!a):(TyOf X.K H x (.type a)\/XX X.K H x a)/\a∈["NoneType","bool","int","str","list","tuple","dict"]:=by
 cases t with
 |non=>cases h;rw[r.non_inv];show{.inl .non,by simp}|bl b=>cases h;rw[r.bl_inv];show{.inl<|.bl b,by simp}|int i=>cases h;rw[r.int_inv];show{.inl<|.int i,by simp}|str y=>cases h;rw[r.str_inv];show{.inl<|.str y,by simp}|nd o k l=>
  let(p,xs,rfl,_,n,_):=E2 r;cases k with
  |lst=>cases h;show{.inl<|.lst<|fh _ _ n,by simp}|tup=>cases h;show{.inl<|.tup<|fh _ _ n,by simp}|rl=>cases h;show{.inr<|.inr {rfl,p,xs,rfl,fh.seq<|HG.l n},by simp}|rt=>cases h|pin z=>cases h
 |dic d l=>
  cases h;cases r with
  |dic h e f c=>show{.inr<|.inl {rfl,_,_,_,rfl,fh _ _ h},by simp}
 |pdc d l=>
  cases h;cases r with
  |pdc h e f c=>show{.inl<|.dK<|fh _ _ h,by simp}
 |odc d l=>cases h|obj k l=>cases h|oob p C fs l=>cases h|osd d l=>cases h
nonrec def zi3:CQ X (.builtin "isinstance") (λxs H Q=>∃x,xs=[x,.ty c]/\Di X.K (g1<|DH c) [x] H Q):=by
 intro i s O H xs n Q I r h;let(x,rfl,F,p,v,fh,rs,e,q):=h;unfold g1 at e;split at e
 let(w,o,f,j,k):=rs.inv;cases f;unfold DH at e;split at e;rename_i a ha;split at e;cases e;rename_i b;let(ty,d):=YR fh j ha
 rcases ty with ty|g;show zkb i s O H _ n Q I r {x,_,_,rfl,ty,iA X.K d b,q.bl fh};let(u,t,rfl,l,m):=IH r;cases m;show iL I l g (iA X.K d b) λtk=>{.bl _,H,I.tok _,rfl,q.bl fh};cases e;cases e;cases e
def T.isN:T->Bool
 |.non=>true|z=>false
def T.isB(b:Bool):T->Bool
 |.bl c=>c == b|z=>false
def BO(a:Bool)(t u:T):q9:=match u with
 |.non=>!(.bl<|a ^^ t.isN)|.bl b=>!(.bl<|a ^^ t.isB b)|z=>()
def mE{K}(r:Rp K F H t x A):decide (x=V.non)=t.isN:=by
 cases r<;>simp[T.isN]
def mF{K}(r:Rp K F H t x A):decide (x=V.bl b)=t.isB b:=by
 cases r<;>simp[T.isB];rfl
def zpu:Ay X (compareOp .Is)<|CA X.K<|BO false:=by
 intro b s O H x y v u Q I f a h;let(F,g,i,r,fh,c,d,e,q):=h;unfold BO at e;split at e
 cases e;rw[d.non_inv]at a;show zpo b s O H _ _ v u Q I f a {rfl,?_};rw[mE c];let:=q.bl fh
 simp_all;cases e;rw[d.bl_inv]at a;show zpp b s O H _ _ v u Q I f a {_,rfl,?_};rw[mF c];let:=q.bl fh
 simp_all;cases e
def zgf:Ay X (compareOp .IsNot)<|CA X.K<|BO true:=by
 intro b s O H x y v u Q I f a h;let(F,g,i,r,fh,c,d,e,q):=h;unfold BO at e;split at e
 cases e;rw[d.non_inv]at a;show zm0 b s O H _ _ v u Q I f a {rfl,?_};rw[mE c];let:=q.bl fh
 simp_all;cases e;rw[d.bl_inv]at a;show zm1 b s O H _ _ v u Q I f a {_,rfl,?_};rw[mF c];let:=q.bl fh
 simp_all;cases e
end
section
variable {X:Cx}{E:L2.St->XK}{ca:Str->Value}{O:L2.St}{H:Hp}{m ma mb mc:AH}{ms:BM}{K:ka}{a b c e:Expr}{es:kh}{pos p p2:Pos}
def r_isT{c}(hv:bootBuiltins cn=!(.type c))(f:Gl X "isinstance")(g:X.mg "isinstance"=())(a:Gl X cn)(b:X.mg cn=())(hn:cn≠"__name__")(hd:(cn == "__debug__")=false)(ha:PE X e<|tM X.K E ca m)(he:starEach [e,.Name cn p2] X.env=(false,eval e X.env)::starEach [.Name cn p2] X.env) :
  PE X (.Call (.Name "isinstance" p) [e,.Name cn p2] [] pos) (tM X.K E ca<|Bk (g1<|DH c)<|AB m AE):=by
 show PE.weak (NG (zi3 (c:=c)) f g PyProof.Rows.boot_isinstance (FW ha (FW (zlx (v:=.ty c) a b hv rfl hn hd) GB) he) (by decide) (by decide) he rfl) λO H Q h=>?_;show(IK<|IL h).mono λx i d=>{x,rfl,IJ d}
set_option genInjectivity true in
inductive Ru where
 |ok (t:T)|exc (c:Str)
def Bz(K:ka)(ca:Str->Value)(g:qD->Option Ru):Sp:=λe H Q E=>∃F d,Ah F H/\As K F d e/\match g d with
 |some (.ok v)=>Dw K F H v Q|some (.exc c)=>∀a b,Ext F H a b R0->XE E ca c a b|none=>False
def LZ:Bool->Str->Option Rs
 |false,c=>!(.x c)|true,c=>(match Gf c with
  |none=>!(.x c)|some z=>())
def AJ(g:qD->Option Ru)(ms:BM):AH:=λY=>match ms Y with
 |some (.v a b)=>(match g a with
  |some (.ok v)=>B5 b v|some (.exc c)=>LZ b c|none=>())
 |some (.x c)=>!(.x c)|none=>()
def mV(h:tM K E ca (AJ g ms) O H Q):Qi (Bz K ca g) [] E (CI K E ca ms) O H Q:=by
 let(F,Y,R,S,q):=h;show{F,Y,R,S,?_};unfold AJ at q;cases hs:ms Y with
 |none=>erw[hs]at q<;>symm|some r=>
  erw[hs]at q;cases r with
  |x c=>show q|v p b=>
   intro e t xs d rs;have u:=S.ext d;rw[ê];show{Gz b e t R,p,VZ u,rs,?_};cases m:g p with
   |none=>erw[m]at q<;>symm|some r=>
    erw[m]at q;cases r with
    |exc c=>
     cases b with
     |false=>show λk f a=>q k f (d.trans0 a)|true=>
      erw[LZ]at q;cases j:Gf c with
      |none=>rw[j]at q;show λk f a=>(q e f<|d.grow a.hh).any j|some n=>rw[j]at q;symm
    |ok v=>
     intro s l z C a o;simp only at q;unfold B5 at q;cases b with
     |false=>show q s l z C (d.trans0 a) o|true=>
      cases i:v.flat with
      |false=>rw[i]at q;cases q|true=>rw[i]at q;show q e l z R0 (d.grow a.hh)<|o.flat_any i
theorem zon(D:DefX X.prog X.w X.K X.mg X.base k x ps<|Bz X.K ca g)(hr:Room j X.A)(d:Cb X E)(ha:PA X (e::es)<|CI X.K E ca ms)(hk:k<=j)(c:Gl X x)(a:(x == "__debug__")=false)
  (he:starEach (e::es) X.env=(false,eval e X.env)::starEach es X.env) (b:(backTo pos<|starEach es X.env).any (·.1)=false):PE X (.Call (.Name x p) (e::es) [] pos)<|tM X.K E ca<|AJ g ms:=PE.weak (px D hr d ha hk c a he b) λϊ z z h=>mV h
end
def As.app{K}{F}:∀{ts us} {xs ys},As K F ts xs->As K F us ys->As K F (ts++us) (xs++ys)
 |[],us,xs,ys,h,r=>by
  rw[h.inv0];show r
 |t::ts,us,xs,ys,h,r=>by
  let(x,c,rfl,a,b):=h.inv;show .cons a<|As.app b r
def gD(a:qD)(g:qD->Option Ru):qD->Option Ru:=λb=>g<|b++a
section
variable {X:Cx}{E:L2.St->XK}{ca:Str->Value}{ms:BM}{e:Expr}{es:kh}{p pos:Pos}
theorem zlc(D:DefX X.prog X.w X.K X.mg X.base k x ps<|Bz X.K ca g)(d:DefsX X.K D.fd ps dvs)(b:∀F ,As X.K F dts dvs)(hr:Room j X.A)(i:Cb X E)(ha:PA X (e::es)<|CI X.K E ca ms)(hk:k<=j)(f:Gl X x)(a:(x == "__debug__")=false)
  (he:starEach (e::es) X.env=(false,eval e X.env)::starEach es X.env) (c:(backTo pos<|starEach es X.env).any (·.1)=false):PE X (.Call (.Name x p) (e::es) [] pos)<|tM X.K E ca<|AJ (gD dts g) ms:=PE.weak (pxd D d hr i ha hk f a he c) λO H Q h=>(mV h).mono λm l ⟨F,ts,s,r,q⟩=>by
 rw[ê]at r;show{F,ts++dts,s,r.app<|b F,q}
end
def Ft(K:ka)(Γ:It)(F:Hp)(ts:qD):Prop:=∀(i:Nat) (d c:Hp),Ah F d->Ah d c ->
 (∀t,ts[i]?=!t->Γ.go i c/\∀x a,Γ.yld i c x a->∃b,Ext d c b a R0/\Rp K b a t x R0)/\(i=ts.length->Γ.stop i c)
def pI(K:ka)(E:L2.St->XK)(ca:Str->Value)(O:L2.St)(P:It->Hp->Prop)(F H:Hp):Option RsL->Prop
 |some (.v d z)=>∀a b Γ,Ext F H a b R0->Ft K Γ a d->P Γ b|some (.x c)=>∀a b,Ext F H a b R0->XE (E O) ca c a b|none=>False
def tI(K:ka)(E:L2.St->XK)(ca:Str->Value)(m:BM):TI:=λO H P=>∃F Y R,StR K F H O Y R/\pI K E ca O P F H (m Y)
def Ji:T->Bool
 |.nd z .lst y=>true|.nd z .rl y=>true|.nd z (.pin y) x=>true|z=>false
def Ig(m:AH):BM:=λY=>match m Y with
 |some (.v (.nd z k l) false)=>!(.v (BA l) false)|some (.x c)=>!(.x c)|z=>()
def Ez(a:Int)(n:Nat):qD:=(List.range n).map λ(i:Nat)=>.int<|a+(i:Int)
def Cj(j:Int):Bool:=@decide (-(2 ^ 62)<=j/\j<2 ^ 62) (Classical.propDecidable _)
def Ld:qD->kg
 |[.int j]=>!j|z=>()
def Oz:qD->Option (Int×Int)
 |[.int i,.int j]=>!(i,j)|z=>()
def C9(ms:BM):BM:=λY=>match ms Y with
 |some (.v a z)=>(match Ld a with
  |some j=>if Cj j then ↑(.v (Ez 0 j.toNat) false) else ()
  |none=>())
 |r=>r
def Ih(ms:BM):BM:=λY=>match ms Y with
 |some (.v a z)=>(match Oz a with
  |some (i,j)=>if Cj i && Cj j then ↑(.v (Ez i (j - i).toNat) false) else ()
  |none=>())
 |r=>r
def En:Nat->qD->qD
 |z,[]=>[]|i,t::r=>.tup [.int (i:Int),t]::En (i+1) r
def Iw:qD->Option (qD)
 |[.nd o k l]=>if Ji (.nd o k l) then ↑l else ()
 |z=>()
def Oy:qD->Option (qD×qD)
 |[.nd o k l,.nd b a m]=>if Ji (.nd o k l) && Ji (.nd b a m) then ↑(l,m) else ()
 |z=>()
def Cf(ms:BM):BM:=λY=>match ms Y with
 |some (.v a false)=>(match Iw a with
  |some l=>!(.v (En 0 l) false)|none=>())
 |some (.v z true)=>none|r=>r
def ID(l m:qD):qD:=List.zipWith (λa b=>T.tup [a,b]) l m
def Gw(ms:BM):BM:=λY=>match ms Y with
 |some (.v a false)=>(match Oy a with
  |some (l,m)=>!(.v (ID l m) false)|none=>())
 |some (.v z true)=>none|r=>r
def lV:∀(l) (n i),(En n l)[i]?=(l[i]?).map λt=>T.tup [.int (n+i:Nat),t]
 |[],n,i=>by rfl|t::r,n,i=>by
  cases i with
  |zero=>rfl|succ i=>
   erw[En,ň];rw[lV r (n+1) i];grind
def zdn(l):∀n,(En n l).length=l.length:=by
 induction l with
 |nil=>intro n;rfl|cons t r a=>simp[En,a]
section
variable {X:Cx}{E:L2.St->XK}{ca:Str->Value}{O:L2.St}{H:Hp}{m ma mb mc:AH}{ms:BM}{K:ka}{a b c e tg:Expr}{es elts:kh}{pos p tpos:Pos}{kk:Nat}
def VL{p}(n:∀F' H' ,Ah F F'->Ah F' H'->Ag K H' p xs)(r:As K F l xs):Ft K (Xf K p) F l:=by
 intro i F' H' b c;let sq:=n F' H' b c;show{λt a=>?_,λe=>{xs,sq,by rw[e,r.1];simp}}
 let f:i<xs.length:=by
  let:=(Ê.mp a).1;let:=r.1
  lia
 show{{xs,xs[i],sq,Á f},λx d y=>?_};let(rfl,y):=y;let g:=y xs sq;show{F',Ext.refl c,((r.same b).2 i t x a g).any}
def iI{p}(n:∀F' H' ,Ah F F'->Ah F' H'->CP K H' p xs)(r:As K F l xs):Ft K (Xe K p) F l:=by
 intro i F' H' b c;let sq:=n F' H' b c;show{λt a=>?_,λe=>{xs,sq,by rw[e,r.1];simp}}
 let f:i<xs.length:=by
  let:=(Ê.mp a).1;let:=r.1
  lia
 show{{xs,xs[i],sq,Á f},λx d y=>?_};let(rfl,y):=y;let g:=y xs sq;show{F',Ext.refl c,((r.same b).2 i t x a g).any}
def iJ{lo}:Ft K (MG lo n) F<|Ez lo n:=by
 intro i d l m k;show{λt b=>?_,λe=>?_};unfold Ez at b;rw[É]at b;let(j,a,g):=Ø.mp b
 let c:i<n:=by
  let:=(Ê.mp a).1;simpa using this
 let h:i=j:=by rw[ž c]at a;show Þ a
 subst h;subst g;show{c,λx f y=>?_};let(rfl,rfl):=y;show{d,Ext.refl k,.int _};let:n<=i:=by rw[e];simp[Ez]
 show this
def zjk{p}(n:∀F' H' ,Ah F F'->Ah F' H'->Ag K H' p xs)(r:As K F l xs):Ft K (Xh K k p) F<|En k l:=by
 intro i F' H' c d;let sq:=n F' H' c d;show{λt b=>?_,λe=>{xs,sq,by rw[e,zdn,r.1];simp}}
 rw[lV]at b;let(s,a,rfl):=Ø.mp b
 let h:i<xs.length:=by
  let:=(Ê.mp a).1;let:=r.1
  lia
 show{{xs,xs[i],sq,Á h},λx g y=>?_};let(q,f,rfl,j,rfl,y):=y;let m:=y xs sq;let e:=Ext.new (o:=.tup [.int<|k+i,f]) d j;show{_,e,As.of_node CT ?_};show .cons (H:=H') (.int _)<|.cons (H:=H') (((r.same<|c.trans e.ff).2 i s f a m).any) .nil
def zmq{p p2}(n:∀F' H' ,Ah F F'->Ah F' H'->Ag K H' p xs)(n2:∀F' H' ,Ah F F'->Ah F' H'->Ag K H' p2 ys)(r:As K F l xs)(j:As K F l2 ys):Ft K (Xc K p p2) F<|ID l l2:=by
 intro i F' H' d h;let sq:=n F' H' d h;let b:=n2 F' H' d h;let l1:=r.1;let A:=j.1;show{λt a=>?_,λe=>{xs,ys,sq,b,?_}}
 unfold ID at a;rw[ċ]at a;cases c:l[i]? with
 |none=>rw[c]at a;cases a|some B=>
  cases f:l2[i]? with
  |none=>rw[c,f]at a;cases a|some C=>
   rw[c,f]at a;cases a;let s:i<xs.length:=by let:=(Ê.mp c).1;lia
   let g:i<ys.length:=by grind
   show{{xs,xs[i],ys,ys[i],sq,Á s,b,Á g},λx m y=>?_};let(q,k,z0,rfl,u,rfl,y,z):=y;let v:=y xs sq;let w:=z ys b;let e:=Ext.new (o:=.tup [k,z0]) h u;show{_,e,As.of_node CT ?_};show .cons (H:=H') (((r.same<|d.trans e.ff).2 i B k c v).any)<|.cons (H:=H') (((j.same<|d.trans e.ff).2 i C z0 f w).any) .nil
 let:i=min l.length l2.length:=by rw[e];simp[ID]
 lia
theorem PI.weak(h:PI X tg e t)(w:∀O H P,t' O H P->t O H P):PI X tg e t':=λa s O H P I q=>h a s O H P I<|w O H P q
theorem PI.or(h:PI X tg e t)(h':PI X tg e t'):PI X tg e<|λO H P=>t O H P\/t' O H P:=λa s O H P I q=>q.elim (h a s O H P I)<|h' a s O H P I
def Z8(ha:PE X e<|tM X.K E ca m):PI X tg e<|tI X.K E ca<|Ig m:=by
 show PI.weak (PI.or (zlr ha)<|zp8 ha) λO H P h=>?_;let(F,Y,R,S,q):=h;unfold Ig at q
 have j:∀{o } {k } {l },m Y=!(.v (.nd o k l) false)->(∀w y Γ,Ext F H w y R0->Ft X.K Γ w (BA l)->P Γ y)->∀g a x B,Ext F H g a B->EY X.K g a R (.nd o k l) false x B->∃(d:Hp) (p:Addr) (xs:qC),x=.ref p/\Ext F H d a R0/\G0 X.K d k p xs/\As X.K d (BA l) xs:=by
  intro o k l f q g a x B i g1;let(d,b,_,C):=EY.frz S i g1;have z :=C;rw[T.share]at z;let(p,xs,rfl,_,n,kd):=E2 z;show{(d),p,xs,rfl,b,n,kd}
 cases f:m Y with
 |none=>erw[f]at q<;>symm|some r=>
  erw[f]at q;cases r with
  |x c=>show .inl {F,Y,R,S,by rw[f];show q}|v t A=>
   cases t with
   |nd o k l=>
    cases A with
    |true=>symm|false=>
     simp only at q;cases k with
     |lst=>show .inl {F,Y,R,S,?_};rw[f];intro g a x B i g1;let(d,p,xs,rfl,b,n,kd):=j f q g a x B i g1;show{p,rfl,{xs,Ag.of<|b.fh _ _ n},q d a _ b<|VL (λw y s u=>Ag.of<|u _ _<|s _ _ n) kd}
     |pin Z=>show .inl {F,Y,R,S,?_};rw[f];intro g a x B i g1;let(d,p,xs,rfl,b,n,kd):=j f q g a x B i g1;show{p,rfl,{xs,Ag.of<|b.fh _ _ n},q d a _ b<|VL (λw y s u=>Ag.of<|u _ _<|s _ _ n) kd}
     |rl=>show .inl {F,Y,R,S,?_};rw[f];intro g a x B i g1;let(d,p,xs,rfl,b,n,kd):=j f q g a x B i g1;show{p,rfl,{xs,b.fh.seq n.l},q d a _ b<|VL (λw y s u=>u.seq<|s.seq n.l) kd}
     |tup=>show .inr {F,Y,R,S,?_};rw[f];intro g a x B i g1;let(d,p,xs,rfl,b,n,kd):=j f q g a x B i g1;show{p,rfl,{xs,CP.of<|b.fh _ _ n},q d a _ b<|iI (λw y s u=>CP.of<|u _ _<|s _ _ n) kd}
     |rt=>show .inr {F,Y,R,S,?_};rw[f];intro g a x B i g1;let(d,p,xs,rfl,b,n,kd):=j f q g a x B i g1;show{p,rfl,{xs,HP b.fh n},q d a _ b<|iI (λw y s u=>HP u<|HP s n) kd}
   |_=>symm
def K7{f:(BM)->BM}   (d:∀Y c,ms Y=!(.x c)->f ms Y=!(.x c))(hn:∀Y,ms Y=()->f ms Y=())
  (hv : ∀ F Y R ts b, StR K F H O Y R -> ms Y = !(.v ts b) -> (match f ms Y with
   |some (.v us z)=>∀F' H' Γ,Ext F H F' H' R0->Ft K Γ F' us->P Γ H'|some (.x c)=>∀F' H',Ext F H F' H' R0->XE (E O) ca c F' H'|none=>False)->∀F' H' xs,Ext F H F' H' R0->As K (Gz b F' H' R) ts xs->W xs H') (h:tI K E ca (f ms) O H P):CI K E ca ms O H W:=by
 let(F,Y,R,S,q):=h;show{F,Y,R,S,?_};cases a:ms Y with
 |none=>rw[hn Y a]at q;symm|some r=>
  cases r with
  |x c=>rw[d Y c a]at q;show q|v ts b=>show λF' H' xs e rs=>hv F Y R ts b S a q F' H' xs e rs
def TY(h:Cj j=true):-(2 ^ 62)<=j/\j<2 ^ 62:=@of_decide_eq_true _ (Classical.propDecidable _) h
def zit(n:Gl X "range")(o:X.mg "range"=())(ha:PA X [a]<|CI X.K E ca ms)(hs:starEach [a] X.env=[(false,eval a X.env)]):PI X tg (.Call (.Name "range" p) [a] [] pos)<|tI X.K E ca<|C9 ms:=by
 show PI.weak (zgc n o ha hs) λO H P h=>?_;show K7 (f:=C9) (λY c e=>by unfold C9;rw[e]) (λY e=>by unfold C9;rw[e]) (λF Y R s b S e q k l xs m rs=>?_) h;unfold C9 at q;rw[e]at q;simp only at q;cases d:Ld s with
 |none=>erw[d]at q<;>symm|some j=>
  erw[d]at q;by_cases g:Cj j=true;erw[g,Æ]at q;let(g1,g2):=TY g;unfold Ld at d;split at d
  cases d;let(u,t,rfl,r,i):=rs.inv;cases i.inv0;rw[r.int_inv];show{j,rfl,g1,g2,q k l _ m iJ}
  cases d;erw[g]at q;symm
def zis(t:Gl X "range")(u:X.mg "range"=())(ha:PA X [a,b]<|CI X.K E ca ms)(hs:starEach [a,b] X.env=[(false,eval a X.env),(false,eval b X.env)])(g:starEach [b] X.env=[(false,eval b X.env)]):PI X tg (.Call (.Name "range" p) [a,b] [] pos)<|tI X.K E ca<|Ih ms:=by
 show PI.weak (zgb t u ha hs g) λO H P h=>?_;show K7 (λY c e=>by unfold Ih;rw[e]) (λY e=>by unfold Ih;rw[e]) (λF Y R y b S e q m n xs o rs=>?_) h;unfold Ih at q;rw[e]at q;simp only at q;cases d:Oz y with
 |none=>erw[d]at q<;>symm|some v=>
  let(i,j):=v;erw[d]at q;by_cases f:(Cj i && Cj j)=true;erw[f,Æ]at q;rw[È]at f;let(g1,g2):=TY f.1;let(r,s):=TY f.2;unfold Oz at d;split at d
  cases d;let(B,z,rfl,w,k):=rs.inv;let(x2,A,rfl,x,l):=k.inv;cases l.inv0;rw[w.int_inv,x.int_inv];show{i,j,rfl,{(g1),g2,r,s},q m n _ o iJ}
  cases d;erw[f]at q;symm
def LM(h:Ji (.nd o k l)=true)(r:Rp K F F (.nd o k l) x R0):∃p xs,x=.ref p/\(∀F' H' ,Ah F F'->Ah F' H'->Ag K H' p xs)/\As K F l xs:=by
 let(p,xs,rfl,_,n,kd):=E2 r;show{p,xs,rfl,λF' H' a b=>?_,kd};cases k with
 |lst=>show Ag.of (b _ _<|a _ _ n)|rl=>show b.seq (a.seq n.l)|tup=>cases h|rt=>cases h|pin q=>show Ag.of<|b _ _<|a _ _ n
nonrec def Z9(n:Gl X "enumerate")(o:X.mg "enumerate"=())(ha:PA X [a]<|CI X.K E ca ms)(hs:starEach [a] X.env=[(false,eval a X.env)]):PI X (.Tuple elts kk tpos) (.Call (.Name "enumerate" p) [a] [] pos)<|tI X.K E ca<|Cf ms:=by
 show PI.weak (zls n o ha hs) λO H P h=>?_;show K7 (f:=Cf) (λY c e=>by unfold Cf;rw[e]) (λY e=>by unfold Cf;rw[e]) (λF Y R t b S e q i j xs k rs=>?_) h;unfold Cf at q;rw[e]at q;cases b with
 |true=>symm|false=>
  simp only at q;cases d:Iw t with
  |none=>erw[d]at q<;>symm|some l=>
   erw[d]at q;unfold Iw at d;split at d;split at d;cases d;rename_i m;let(w,u,rfl,s,g):=rs.inv;cases g.inv0;let(r,v,rfl,sq,kd):=LM m s;show{r,rfl,{v,sq i j (.refl _) k.fh},q i j _ k<|zjk sq kd}
   cases d;cases d
nonrec def r_zip(s:Gl X "zip")(t:X.mg "zip"=())(ha:PA X [a,b]<|CI X.K E ca ms)(hs:starEach [a,b] X.env=[(false,eval a X.env),(false,eval b X.env)])(m:starEach [b] X.env=[(false,eval b X.env)]):PI X (.Tuple elts kk tpos) (.Call (.Name "zip" p) [a,b] [] pos)<|tI X.K E ca<|Gw ms:=by
 show PI.weak (zp7 s t ha hs m) λO H P h=>?_;show K7 (λY c e=>by unfold Gw;rw[e]) (λY e=>by unfold Gw;rw[e]) (λF Y R z b S e q g i xs j rs=>?_) h;unfold Gw at q;rw[e]at q;cases b with
 |true=>symm|false=>
  simp only at q;cases d:Oy z with
  |none=>erw[d]at q<;>symm|some u=>
   let(l,G):=u;erw[d]at q;unfold Oy at d;split at d;split at d;cases d;rename_i k;rw[È]at k;let(I,A,rfl,x,o):=rs.inv;let(x2,B,rfl,y,r):=o.inv;cases r.inv0;let(v,C,rfl,sq,kd):=LM k.1 x;let(w,D,rfl,f,n):=LM k.2 y;show{v,w,rfl,{C,sq g i (.refl _) j.fh},{D,f g i (.refl _) j.fh},q g i _ j<|zmq sq f kd n}
   cases d;cases d
end
def StR.set{K}(S:StR K F H O Y R)(r:Rp K F H t x A)(d:∀j a,j≠i->R j a->¬ A a)(l:i<Y.length) :
  StR K F H (O.set i !x) (Y.set i !t) (λj=>if j=i then A else R j):=by
 let hl:=S.len;show{S.fh,by simp[hl],λj h e=>?_,λj a z=>?_,λj k a f g c=>?_};by_cases b:j=i;subst b;rw[é l]at e;cases e;show{x,é (by lia),by simpa using r};rw[å<|Í b]at e ⊢;let(y,m,n):=S.rep j h e;show{y,m,by simpa[b] using n}
 by_cases b:j=i;subst b;show{t,é l};erw[b,Å]at z;let(h,e):=S.out j a z;show{h,by rw[å<|Í b];show e}
 by_cases b:j=i;erw[b,Æ]at g;let hk:¬ k=i:=λz=>f<|b.trans z.symm
 erw[hk,Å]at c;show d k a hk c g;erw[b,Å]at g;by_cases hk:k=i;erw[hk,Æ]at c;show d j a b g c;erw[hk,Å]at c;show S.dis j k a f g c
def Ew(K:ka)(b:T->AL->Option AL):TG:=λv O H Q=>∃F Y R t e,StR K F H O Y R/\Rp K F H t v R0/\b t Y=!e/\∀c d,StR K F H c e d->(∀i a,d i a->R i a)->Q c H
def IM(K:ka)(b:qD->AL->Option AL):Jx:=λg O H Q=>∃F Y R f e,StR K F H O Y R/\As K F f g/\b f Y=!e/\∀c d,StR K F H c e d->(∀i a,d i a->R i a)->Q c H
def AD(i:Nat):T->AL->Option AL:=λt Y=>if i<Y.length then ↑(Y.set i !t) else ()
def An:qD->AL->Option AL
 |[],Y=>!Y|z::y,x=>()
def AI(b:T->AL->Option AL)(bs:qD->AL->Option AL):qD->AL->Option AL
 |t::c,Y=>(match b t Y with
  |some a=>bs c a|none=>())
 |[],z=>()
def Al(n:Nat)(bs:qD->AL->Option AL):T->AL->Option AL
 |.nd z .tup l,Y=>if l.length=n then bs l Y else ()
 |.nd z .rt l,Y=>if l.length=n then bs l Y else ()
 |.nd z .lst l,Y=>if l.length=n then bs l Y else ()
 |z,y=>()
def zpc(i:X.calm=true)(h:Ea X es t)(hn:(assignEach es X.env).length=n)(c:(assignEach es X.env).findIdx? (·.1)=()):PG X (.Tuple es k pos) (λv O H Q=>V3 X.K n t v O H Q\/∃a xs,v=.ref a/\Ag X.K H a xs/\xs.length=n/\t xs O H Q):=by
 intro j s O H v u Q I r d;rcases d with d|⟨a,xs,p,w,hl,d⟩;show zpb i h hn c j s O H v u Q I r d;subst p;cases r;let(g,y,(o,m,q,f,_,hd),hz):=I.list w;show Â<|ń ?_;unfold unpack;rw[c,hn,show n=g.toArray.size by simp[<- hl,y.length]]
 show Â<|ĉ<|W.kun_itemsOf (I.ok.hd i) {(o),q,f,m,hd} λz x=>?_
 let l :=I.kept (t':=s.toks) λb o e=>x b o (Ô<|Ç e) e;show h j _ O H xs _ Q l (by grind) d
section
variable {X:Cx}{e:Expr}{es:kh}{pos:Pos}{b:T->AL->Option AL}{bs:qD->AL->Option AL}
theorem PG.weak(h:PG X e t)(w:∀v O H Q,t' v O H Q->t v O H Q):PG X e t':=λa s O H v u Q I r q=>h a s O H v u Q I r<|w v O H Q q
theorem Ea.weak(h:Ea X es t)(w:∀v O H Q,t' v O H Q->t v O H Q):Ea X es t':=λa s O H v u Q I r q=>h a s O H v u Q I r<|w v O H Q q
nonrec def g_nm(b:X.N.Nodup)(d:X.N[i]?=!x)(g:G2 X.env.scope x)(c:X.fn x=true\/X.env.scope.names.lookup x=!.local):PG X (.Name x pos)<|Ew X.K<|AD i:=by
 show PG.weak (zlu b d g c) λv O H Q h=>?_;let(F,Y,R,t,k,S,r,e,q):=h;unfold AD at e;split at e;cases e;rename_i hl;show q _ _ (S.set r (λϊ y y y z=>z.elim) hl) λj a z=>?_;by_cases f:j=i;erw[f]at z;show z.elim;grind;cases e
theorem g_nil:Ea X []<|IM X.K An:=Ea.weak zlt λv O H Q h=>by
 let(F,Y,R,a,b,S,r,e,q):=h;cases a with
 |nil=>cases e;show{r.inv0,q O R S λϊ y z=>z}|cons y x=>cases e
def zr8(m:PG X e<|Ew X.K b)(n:Ea X es<|IM X.K bs)(hs:(assignEach (e::es) X.env).map (·.2)=assign e X.env::(assignEach es X.env).map (·.2)):Ea X (e::es)<|IM X.K<|AI b bs:=by
 show Ea.weak (zj2 m n hs) λv O H Q h=>?_;let(F,Y,R,d,l,S,r,e,q):=h;cases d with
 |nil=>cases e|cons t d=>
  let(x,xs,rfl,o,rs):=r.inv;unfold AI at e;simp only at e;cases hb:b t Y with
  |none=>grind|some c=>rw[hb]at e;show{x,xs,rfl,F,Y,R,t,c,S,o.any,hb,λu g j p=>{F,c,g,d,l,j,rs,e,λf R2 k s=>q f R2 k λi a z=>p i a<|s i a z}}
nonrec def g_tup(s:X.calm=true)(h:Ea X es<|IM X.K bs)(hn:(assignEach es X.env).length=n)(g:(assignEach es X.env).findIdx? (·.1)=()):PG X (.Tuple es k pos)<|Ew X.K<|Al n bs:=by
 show PG.weak (zpc s h hn g) λv O H Q h=>?_;let(F,Y,R,t,f,S,r,e,q):=h
 let c:∀{o:Bool} {kd:Kd} {l:qD},t=.nd o kd l->(kd=.tup\/kd=.rt\/kd=.lst)->(if l.length=n then bs l Y else ())=!f->(V3 X.K n (IM X.K bs) v O H Q\/∃a xs,v=.ref a/\Ag X.K H a xs/\xs.length=n/\IM X.K bs xs O H Q):=by
  intro o kd l m hk d;subst m;split at d;rename_i hl;let(p,xs,rfl,_,j,b):=E2<|r.any (H':=F);let i:xs.length=n:=by rw[<- b.1];show hl
  rcases hk with rfl|rfl|rfl;show .inl {p,xs,rfl,CP.of<|S.fh _ _ j,i,F,Y,R,l,f,S,b,d,q};show .inl {p,xs,rfl,HP S.fh j,i,F,Y,R,l,f,S,b,d,q};show .inr {p,xs,rfl,Ag.of<|S.fh _ _ j,i,F,Y,R,l,f,S,b,d,q};cases d
 unfold Al at e;split at e;show c rfl (.inl rfl) e;show c rfl (.inr<|.inl rfl) e;show c rfl (.inr<|.inr rfl) e;cases e
end
section
end
section
variable {X:Cx}{a:Expr}{elts:kh}{kk ko:Nat}{tpos p pos kp vp:Pos}{E:L2.St->XK}{ca:Str->Value}{ms:BM}
end
def Xd(K:ka)(a:Addr)(n:Nat):It:=
 {λi H=>∃xs x,Ag K H a xs/\xs.length=n/\i<n/\xs[n - 1 - i]?=!x,λi H x b=>b=H/\∀xs,Ag K H a xs->xs[n - 1 - i]?=!x,λi z=>i=n}
def zig{P:Program}{w:World}{K:ka}{N:Expr}(a it:Addr)(n:Nat):Turn P w K N (Xd K a n) [it] it (λi h=>h.IsRevIter it a<|(n:Int) - 1 - (i:Int)) where
 mem:=by simp
 obj:=λi h st b hb=>by
  let e:b=it:=by simpa using hb
  subst e;let(o,e,_,d):=st;show{o,e,λv z=>by rw[d]at z;cases z}
 keep:=λi h t st k=>st.at λo e=>k it (by simp) o e
 item:=by
  intro X q r m y i J s O H E I l st g;subst q r m;let(xs,x,A,hn,Q,B):=g;let(G,M,p,hz):=I.list A;let(u,hu,L):=M.get B;let(f0,f1,f2,f3,f4,f5):=l it<|by simp
  let D:(n:Int) - 1 - (i:Int)=((n - 1 - i:Nat):Int):=by lia
  let j:=st;rw[D]at j;show wpAny_pyNext_rev_item j p.isList (by simpa using hu) λt f sb=>?_;let C:=I.turned (t':=s.toks) (λb o hb e=>(sb.2 b hb).trans e) f0 f1 f3 f4 f5;rw[show((n - 1 - i:Nat):Int) - 1=(n:Int) - 1 - ((i+1:Nat):Int) by lia]at f;let(o,e,c,d):=id f;show{u,rfl,LP e c d (by decide) {x,H,C,L,{rfl,λR F=>by rw[I.list_inj F A];show B},f,λb hb=>(l b hb).1}}
 done:=by
  intro X q r m y i J s O H E I l st g;subst q r m;let g:i=n:=g;subst g;let(f0,f1,f2,f3,f4,f5):=l it<|by simp
  rw[show(i:Int) - 1 - (i:Int)=-1 by lia]at st;show wpAny_pyNext_rev_end (I.ok.hd y) st λt eb=>{rfl,I.turned (λb o hb e=>eb b o hb e) f0 f1 f3 f4 f5}
 self:=λϊ v v v v st h=>wpAny_pyIter_revIter st h
def zms{K:ka}{F:Hp}{p:Addr}{xs:qC}{l:qD}(n:∀F' H',Ah F F'->Ah F' H'->Ag K H' p xs)(r:As K F l xs):Ft K (Xd K p xs.length) F l.reverse:=by
 intro i F' H' b c;let sq:=n F' H' b c;let hl:=r.1;show{λt a=>?_,λe=>by rw[ő,hl]at e;show e}
 let f:i<l.length:=by
  let:=(Ê.mp a).1;rwa[ő]at this
 rw[ź f,hl]at a;let g:xs.length - 1 - i<xs.length:=by lia
 show{{xs,xs[xs.length - 1 - i],sq,rfl,by lia,Á g},λx d y=>?_};let(rfl,y):=y;show{F',Ext.refl c,((r.same b).2 _ t x a (y xs sq)).any}
section
variable {X:Cx}{tg:Expr}
def iRevL(K:ka)(c:TA):TI:=λO H R=>c O H λd b=>∃a xs,d=[.ref a]/\Ag K b a xs/\R (Xd K a xs.length) b
def zpa{a:Expr}{j:TA}{p pos:Pos}(m:Gl X "reversed")(n:X.mg "reversed"=())(ha:PA X [a] j)(hs:starEach [a] X.env=[(false,eval a X.env)]):PI X tg (.Call (.Name "reversed" p) [a] [] pos)<|iRevL X.K j:=by
 intro i s O H R I h;show Call_<|Gq I m n boot_reversed<|ĕ (A6 (ha pos i s O H _ I h) λA c z=>?_) hs rfl
 let(B,g,f,w,v):=z;let(l,xs,e,r,q):=v;subst e;let(u,rfl,x):=Fw w;cases x;let(d,y,t,hz):=f.list r;let hl:=y.length;show call_reversed_list t.isList ?_;let k:Inv X i O g { c with heap:=c.heap.push<|revObj l<|(d.toArray.size:Int) - 1,toks:=c.toks }:=f.kept λb o e=>Ó _ e
 let st:(c.heap.push<|revObj l<|(d.toArray.size:Int) - 1).IsRevIter c.heap.objs.size l ((xs.length:Int) - 1 - ((0:Nat):Int)):={_,á _ rfl,rfl,by rw[show(xs.length:Int) - 1 - ((0:Nat):Int)=(d.toArray.size:Int) - 1 by rw[í];lia];rfl};show wpAny_pyIter_revIter st {c.heap.objs.size,[c.heap.objs.size],_,_,g,rfl,k,zig l _ xs.length,st,λb hb=>?_,q};let e:b=c.heap.objs.size:=by simpa using hb
 subst e;show f.fpOk (Ã _)<|f.hok.fresh<|Ã _
def Gy(ms:BM):BM:=λY=>match ms Y with
 |some (.v a false)=>(match Iw a with
  |some l=>!(.v l.reverse false)|none=>())
 |some (.v z true)=>none|r=>r
nonrec def r_rvl{E:L2.St->XK}{ca:Str->Value}{a:Expr}{p pos:Pos}{ms:BM}(n:Gl X "reversed")(o:X.mg "reversed"=())(ha:PA X [a]<|CI X.K E ca ms)(hs:starEach [a] X.env=[(false,eval a X.env)]):PI X tg (.Call (.Name "reversed" p) [a] [] pos)<|tI X.K E ca<|Gy ms:=by
 show PI.weak (zpa n o ha hs) λO H P h=>?_;show K7 (f:=Gy) (λY c e=>by unfold Gy;rw[e]) (λY e=>by unfold Gy;rw[e]) (λF Y R t b S e q i j xs k rs=>?_) h;unfold Gy at q;rw[e]at q;cases b with
 |true=>symm|false=>
  simp only at q;cases d:Iw t with
  |none=>erw[d]at q<;>symm|some l=>
   erw[d]at q;unfold Iw at d;split at d;split at d;cases d;rename_i m;let(w,u,rfl,s,g):=rs.inv;cases g.inv0;let(r,v,rfl,sq,kd):=LM m s;show{r,v,rfl,sq i j (.refl _) k.fh,q i j _ k<|zms sq kd}
   cases d;cases d
end
def E00:L2.St->XK:=λϊ=>E0
def CK(b:T->AL->Option AL)(mt me:AH):qD->AL->Option (qD)
 |[],z=>![]|t::c,Y=>(match b t Y with
  |some a=>(match mt a with
   |some (.v (.bl true) z)=>(match me a with
    |some (.v v false)=>(match CK b mt me c a with
     |some l=>!(v::l)|none=>())
    |z=>())
   |some (.v (.bl false) z)=>CK b mt me c a|z=>())
  |none=>())
def Gr(b:T->AL->Option AL)(mt me:AH):qD->AL->Option Str
 |[],z=>none|t::d,Y=>(match b t Y with
  |some a=>(match mt a with
   |some (.v (.bl true) z)=>(match me a with
    |some (.v z false)=>Gr b mt me d a|some (.x c)=>!c|z=>())
   |some (.v (.bl false) z)=>Gr b mt me d a|some (.x c)=>!c|z=>())
  |none=>())
def Oe(Y:AL)(j:Nat):q9:=match Y[j]? with
 |some !t=>if t.sh then ↑t else ()
 |z=>()
def blk(n:Nat)(a:kz)(Y:AL):AL:=List.replicate n ()++a.map (Oe Y)
def WW(O:L2.St)(j:Nat):Option V:=match O[j]? with
 |some !v=>!v|z=>()
def Ht(n:Nat)(a:kz)(O:L2.St):L2.St:=List.replicate n ()++a.map (WW O)
def Az(n:Nat)(a:kz)(e:BM)(b:T->AL->Option AL)(mt me:AH):AH:=λY=>match e Y with
 |some (.v d z)=>if d.length<=BN then (match CK b mt me d (blk n a Y) with
  |some l=>!(.v (.own l) false)|none=>(match Gr b mt me d (blk n a Y) with
   |some c=>!(.x c)|none=>())) else ()
 |some (.x c)=>!(.x c)|none=>()
nonrec def zrq{K}(S:StR K F H O Y R)(n:Nat)(caps):StR K F H (Ht n caps O) (blk n caps Y)<|λϊ=>R0:=by
 show{S.fh,by simp[Ht,blk],λi t e=>?_,λϊ y z=>z.elim,λϊ y y y z=>z.elim};unfold blk at e;unfold Ht;by_cases c:i<n;rw[ù (by simpa using c),Ű,if_pos c]at e;cases e;rw[Ė (by simp;lia),É]at e ⊢;erw[Ÿ]at e ⊢;cases b:caps[i - n]? with
 |none=>rw[b]at e;cases e|some j=>
  rw[b]at e;erw[Ă]at e ⊢;have a:Oe Y j=!t:=Þ e;unfold Oe at a;split at a
  rename_i f d;split at a;cases a;rename_i hs;let(x,ex,r):=S.rep j _ d;show{x,?_,r.move hs<|.refl _};unfold WW;rw[ex]
  cases a;cases a
def Yi{l:qD}(h:tot (λj=>if j=l.length then B else Rr j) a):tot Rr a\/B a:=by
 let(j,z):=h;by_cases b:j=l.length;grind;erw[b]at z;show .inl {(j),z}
section
variable {X:Cx}{E:L2.St->XK}{ca:Str->Value}{O:L2.St}{H:Hp}{K:ka}{n:Nat}{caps:kz}{mi:BM}{b:T->AL->Option AL}{mt me:AH}
nonrec def zgm(h:CK b mt me (t::us) τ1=!l2):∃τ2,b t τ1=!τ2/\((∃bt,mt τ2=!(.v (.bl false) bt)/\CK b mt me us τ2=!l2)\/∃bt w l3,mt τ2=!(.v (.bl true) bt)/\me τ2=!(.v w false)/\CK b mt me us τ2=!l3/\l2=w::l3):=by
 unfold CK at h;split at h;rename_i τ2 hb;show{τ2,hb,?_};split at h;rename_i bt a;split at h;rename_i w d;split at h;rename_i l3 c;cases h;show .inr {(bt),w,l3,a,d,c,rfl};cases h;cases h;rename_i bt a;show .inl {(bt),a,h};cases h;cases h
nonrec def zjh(h:Gr b mt me (t::us) τ1=!c):∃τ2,b t τ1=!τ2/\((∃bt,mt τ2=!(.v (.bl false) bt)/\Gr b mt me us τ2=!c)\/(∃bt,mt τ2=!(.v (.bl true) bt)/\((∃w,me τ2=!(.v w false)/\Gr b mt me us τ2=!c)\/me τ2=!(.x c)))\/mt τ2=!(.x c)):=by
 unfold Gr at h;split at h;rename_i τ2 hb;show{τ2,hb,?_};split at h;rename_i bt a;split at h;rename_i w d;show .inr<|.inl {bt,a,.inl {(w),d,h}}
 rename_i e d;cases h;show .inr<|.inl {bt,a,.inr d}
 cases h;rename_i bt a;show .inl {(bt),a,h};rename_i e a;cases h;show .inr<|.inr a
 cases h;cases h
def Y5(h:tM K E ca (Az n caps mi b mt me) O H Q):Ma (Ht n caps) (tI K E ca mi) (Ew K b) (B7 K (λϊ=>E O) ca mt) (tM K (λϊ=>E O) ca me) O H Q:=by
 let(F,Y,R,S,q):=h;show{F,Y,R,S,?_};unfold Az at q;cases hi:mi Y with
 |none=>erw[hi]at q<;>symm|some r=>
  erw[hi]at q;cases r with
  |x c=>show q|v s bb=>
   intro F1 H1 Γ e1 its;by_cases M:¬ s.length<=BN;erw[M,Å]at q<;>symm;let hz :=Decidable.not_not.mp M;erw[hz,Æ]at q
   obtain⟨G,g1,g0,gs⟩:∃G:qD->AL->qD->Prop,(∀t u d l,G (t::u) d l->∃f,b t d=!f/\((∃bt,mt f=!(.v (.bl false) bt)/\G u f l)\/(∃bt,mt f=!(.v (.bl true) bt)/\((∃w,me f=!(.v w false)/\G u f (l++[w]))\/∃c,me f=!(.x c)/\∀g k,Ext F H g k R0->XE (E O) ca c g k))\/∃c,mt f=!(.x c)/\∀g k,Ext F H g k R0->XE (E O) ca c g k)) /\
     (∀d l,G [] d l->∀g k x B,Ext F H g k B->Rp K g k (.own l) x B->Q x k)/\G s (blk n caps Y) []:=by
    cases hg:CK b mt me s (blk n caps Y) with
    |some P=>
     erw[hg]at q;show{λu d l=>∃N,CK b mt me u d=!N/\l++N=P,λt u d l z=>?_,λd l z=>?_,P,hg,rfl};let(N,z,e):=z;obtain⟨f,y,w|⟨bt,w,l3,y1,U,y3,rfl⟩⟩:=zgm z;let(bt,w1,w2):=w;show{f,y,.inl {(bt),w1,N,w2,e}};show{f,y,.inr<|.inl {bt,y1,.inl {w,U,l3,y3,by simpa using e}}};let(N,z,e):=z;cases z;rw[ê]at e;subst e;show q
    |none=>
     erw[hg]at q;cases hx:Gr b mt me s (blk n caps Y) with
     |none=>erw[hx]at q<;>symm|some c=>
      erw[hx]at q;show{λu d l=>Gr b mt me u d=!c,λt u d l z=>?_,λd l z=>(by cases z),hx};obtain⟨f,y,w|⟨bt,y1,⟨w,U,y3⟩|U⟩|w⟩:=zjh z;show{f,y,.inl w};show{f,y,.inr<|.inl {bt,y1,.inl {(w),U,y3}}};show{f,y,.inr<|.inl {bt,y1,.inr {(c),U,q}}};show{f,y,.inr<|.inr {(c),w,q}}
   let S1:=S.ext e1;show{λi ys st k=>∃(g:Hp) (W:AL) (l:qD) (V:Nat->Rg),Ext F1 H1 g k (tot V)/\RpO K g k l ys V/\StR K g k st W (λϊ=>R0)/\i<=s.length/\G (s.drop i) W l/\l.length<=i,s.length,by rw[<- GN];show hz,?_,?_};show{F1,blk n caps Y,[],λϊ=>R0,(Ext.refl S1.fh).mono λa ⟨_,z⟩=>z.elim,.nil,zrq S1 n caps,ø _,gs,Ã _};rintro i ys st k ⟨g,W,l,V,I,Z,S2,hle,m,hll⟩;let hly:=Z.len;show{by lia,hle,?_}
   let(i1,i2):=its i g k I.ff I.fh;by_cases o:i<s.length;show .inr {o,?_};let(go,yld):=i1 _<|Á o;show{go,λx J y=>?_}
   let(D,A,rx):=yld x J y;let S3:=S2.ext A;rw[ı o]at m;let(d,hb,m):=g1 _ _ _ _ m;show{D,W,_,s[i],d,S3,rx,hb,λst1 R1 S4 hR1=>?_}
   let R1e :=funext λj=>funext λa=>propext {λz=>hR1 j a z,λz=>z.elim};subst R1e;show{D,d,_,S4,?_};let eX:∀{c },(∀g k,Ext F H g k R0->XE (E O) ca c g k)->∀g k,Ext D J g k R0->XE (E O) ca c g k:=λz g k e=>z g k<|((e1.trans0 I).trans (A.trans0 e)).mono λϊ z=>z.elim
   rcases m with ⟨bt,L,m⟩|⟨bt,L,m⟩|⟨c,L,hX⟩;rw[L];intro F4 H4 C;show LJ {F4,d,l,V,(I.trans<|(A.trans0 C).mono λϊ z=>z).mono λa z=>.inl z,(Z.ext A).ext C,S4.ext C,o,m,by lia};rw[L];intro F4 H4 C;let S5:=S4.ext C;let e24:=I.trans<|(A.trans0 C).mono λϊ z=>z
   show LI {F4,d,_,S5,?_};rcases m with ⟨ve,he,m⟩|⟨c,he,hX⟩;rw[he];intro F5 H5 y B X ry;let ry' :=ry;let T:=(Z.ext A).ext C;let ro5:=T.ext X;show{F5,d,l++[ve],_,(e24.trans X).mono ?_,ro5.snoc ry'<|λj a z1 z2=>T.apart X z2 j z1,S5.ext X,o,m,by simp;lia}
   intro a z;rcases Yi z with z|z;show .inl<|.inl z
   show .inr z;rw[he];show λg k e=>eX hX g k<|C.trans0 e
   rw[L];show eX hX;let hi':i=s.length:=by lia
   subst hi';show .inl {i2 rfl,λp hp=>?_};rw[List.drop_length]at m;let(rl,A):=Z.list I.fh hp;show g0 _ _ m g _ _ _ (((e1.trans0 I).trans A).mono ?_) rl;rintro a (z|⟨j,z⟩)
   show .inr z;show .inl {(j),z}
structure BlkOk(X:Cx)(scope:Scope)(N':kq)(n:Nat)(caps:kz):Prop where
 kind:scope.kind=.function
 names:∀y∈scope.names,y.2=.local->scope.names.lookup y.1=!.local
 len:N'.length=n+caps.length
 cap:∀(k j:Nat),caps[k]?=!j->∃y,X.N[j]?=!y/\N'[n+k]?=!y/\scope.names.lookup y=!.free/\(y,NameKind.cell)∉scope.names
 free:∀y∈scope.names,y.2=.free->scope.names.lookup y.1=!.free/\(X.env.scope.names.lookup y.1=!.cell\/X.env.scope.names.lookup y.1=!.free)
theorem Ux{env:Env}(y:Str):∀(names:List<|Str×NameKind),(names.map λ(n,k)=>if (k == NameKind.free && env.scope.kind == .function && env.kindOf n == !.cell) then (n,NameKind.cell) else (n,k)).lookup y =
  (names.lookup y).map λk=>if (k == NameKind.free && env.scope.kind == .function && env.kindOf y == !.cell) then .cell else k
 |[]=>rfl|(n,k)::r=>by
  rw[Ù];cases b:y == n with
  |true=>
   let e:y=n:=eq_of_beq b;subst e;by_cases a:(k == NameKind.free && env.scope.kind == .function && env.kindOf y == !.cell)=true;erw[a,Æ,æ,õ,Ă];erw[a,æ,õ,Ă];simp
  |false=>
   by_cases a:(k == .free && env.scope.kind == .function && env.kindOf n == !.cell)=true;erw[a,Æ,æ,b];show Ux y r;erw[a,æ,b];erw[ŋ,Å,æ,b];show Ux y r
theorem TC(scope)(env)(y):(relabel scope env).names.lookup y=(scope.names.lookup y).map λk=>if (k == NameKind.free && env.scope.kind == .function && env.kindOf y == !.cell) then .cell else k:=Ux y scope.names
def Uy:∀{names:List<|Str×NameKind},names.lookup y=!k->(y,k)∈names:=λh=>ď h
nonrec def nE(B:BlkOk X scope N' n caps)   (I:Inv X pz O H s) :
  ∃cl,BlkC X scope N' (Ht n caps) cl:=by
 let(cl,q,r,t):=zem scope X.env λy a e=>I.ok.has y.1 (B.free y a e).2
 have Hu:∀(O ) (i:Nat) (y ) (v ),N'[i]?=!y->(Ht n caps O)[i]?=↑!v->∃j:Nat,X.N[j]?=!y/\O[j]?=↑!v/\scope.names.lookup y=!.free/\(y,NameKind.cell)∉scope.names:=by
  intro O i y v c b;unfold Ht at b;by_cases o:i<n;rw[ù (by simpa using o),Ű,if_pos o]at b;cases b;rw[Ė (by simp;lia),É]at b;erw[Ÿ]at b;cases h:caps[i - n]? with
  |none=>rw[h]at b;cases b|some j=>
   rw[h]at b;erw[Ă]at b;have f :=Þ b;let(A,g1,g2,g,m):=B.cap (i - n) j h;have en:n+(i - n)=i:=by lia
   rw[en,c]at g2;cases g2
   have sv :=by
    unfold WW at f;split at f;rename_i x hv;cases f;show hv;cases f
   show{(j),g1,sv,g,m}
 show{cl,q,B.kind,B.names,r,λy a=>?_,λO i y v c b=>?_,λO u=>by simp[Ht,B.len],λO i y v c b=>?_};cases hk:scope.names.lookup y with
 |none=>
  rw[TC,hk]at a;rcases a with a|a<;>cases a
 |some k=>
  by_cases e:k=.free;subst e;show .inr<|t _ (Uy hk) rfl
  rw[TC,hk]at a;erw[Ă]at a;have l :=beq_eq_false_iff_ne.mpr e;erw[l,ŗ,ŋ,Å]at a
  rcases a with a|a;cases a;show .inl<|Uy hk
  cases a;show absurd rfl e
 show(Hu O i y v c b).choose_spec.2.2.2;let(j,g1,sv,g,m):=Hu O i y v c b;have fr:=B.free _ (Uy g) rfl;show{?_,j,g1,sv,?_,?_}
 rw[TC,g];erw[Ă];by_cases d:(NameKind.free == NameKind.free && X.env.scope.kind == .function && X.env.kindOf y == !.cell)=true;show .inl<|by rw[if_pos d]
 show .inr<|by rw[if_neg d]
 rcases fr.2 with z|z;show .inr<|.inl z
 show .inr<|.inr z
 intro z;have p:X.env.scope.names.lookup y=!.local:=z
 rcases fr.2 with w|w;rw[p]at w;cases w;rw[p]at w;cases w
def r_lcV(B:BlkOk X scope N' n caps)(d:∀pz O H s cl C ex xb,Inv X pz O H s->cq (EF X scope cl N' C s H ex xb))(f:PJ cq X tg iter<|tI X.K E ca mi)
  (a:Cb X E) (c:JL X) (e:∀E',AC X scope N' E' λτ=>PG τ tg (Ew X.K b)/\IB τ ifs (B7 X.K E' ca mt)/\PE τ elt (tM X.K E' ca me))
  (hs:∀x,foldedSetIterable iter X.env x=pure x):PE X (.ListComp elt [{tg,iter,ifs,0}] scope pos)<|tM X.K E ca<|Az n caps mi b mt me:=by
 intro pz s O H Q I h;let(cl,L):=nE B I;show zqh L d f a c (e _) hs I<|Y5 h
def r_lcS(B:BlkOk X scope N' n caps)(g:X.calm=true)(k:PI X tg iter<|tI X.K E ca mi)
  (c:Cb X E) (d:JL X) (j:∀E',AC X scope N' E' λτ=>PG τ tg (Ew X.K b)/\IB τ ifs (B7 X.K E' ca mt)/\PE τ elt (tM X.K E' ca me))
  (hs:∀x,foldedSetIterable iter X.env x=pure x)  {x:Str} (f:X.N.Nodup) (a:X.N[i]?=!x) (l:X.env.scope.names.lookup x=!.local)
  (e:swapsWith (.ListComp elt [{tg,iter,ifs,0}] scope pos) (!(.Name x pos')) pos2.line X.env=pure true):PS X (.Assign [.Name x pos'] (.ListComp elt [{tg,iter,ifs,0}] scope pos) pos2)<|λD O H=>tM X.K E ca (Az n caps mi b mt me) O H λv H1=>D.nx (O.set i !v) H1:=by
 intro m s O H D I h;let(cl,L):=nE B I;show zqi L g k c d (j _) hs f a l e I<|Y5 h
variable {m mk mv:AH}{o k v:Expr}{pos p p2 ap cp:Pos}{elts:kh}{kk:Nat}{tpos:Pos}
end
set_option genInjectivity true in
inductive Out where
 |nx (Y:AL)|rt (t:T)|bk (Y:AL)|ct (Y:AL)|xc (c:Str) (Y:AL)
abbrev AG:=AL->Option Out
structure Stp(F H:Hp)(σ:Rg)(F' H':Hp)(σ':Rg):Prop where
 ff:Ah F F'
 fh:Ah F' H'
 kp:∀b u,¬ σ b->H b=!u->H' b=!u
 nw:∀b,σ' b->σ b\/H b=()
 nf:∀b u,F' b=!u->F b=!u\/σ b\/H b=()
section
variable {F H F1 H1 F2 H2:Hp}{σ σ1 σ2 B:Rg}{R:Nat->Rg}
theorem Stp.refl(s:Ah F H):Stp F H σ F H σ:={.refl _,s,λϊ y y e=>e,λϊ z=>.inl z,λϊ y e=>.inl e}
theorem Stp.trans(a:Stp F H σ F1 H1 σ1)(b:Stp F1 H1 σ1 F2 H2 σ2):Stp F H σ F2 H2 σ2 where
 ff:=a.ff.trans b.ff
 fh:=b.fh
 kp:=λx u n e=>b.kp x u (λz=>(a.nw x z).elim n λw=>by grind) (a.kp x u n e)
 nw:=λx z=>(b.nw x z).elim (a.nw x) λw=>by
  by_cases c:σ x;show .inl c;cases e:H x with
  |none=>simp|some u=>rw[a.kp x u c e]at w;cases w
 nf:=λx u e=>(b.nf x u e).elim (a.nf x u) λz=>.inr (z.elim (a.nw x) λw=>by
  by_cases c:σ x;show .inl c;cases d:H x with
  |none=>simp|some f=>rw[a.kp x f c d]at w;cases w)
theorem Stp.mono(a:Stp F H σ F1 H1 σ1)(h:∀x,σ2 x->σ1 x):Stp F H σ F1 H1 σ2:={a.ff,a.fh,a.kp,λx z=>a.nw x<|h x z,a.nf}
theorem Ext.stp(e:Ext F H F1 H1 B):Stp F H σ F1 H1<|λx=>σ x\/B x:={e.ff,e.fh,λb u y q=>e.hh b u q,λb z=>z.elim .inl λz=>.inr<|e.nb b z,λb u q=>(e.nf b u q).elim .inl λz=>.inr<|.inr z}
theorem Ext.stp0(e:Ext F H F1 H1 B):Stp F H σ F1 H1 σ:=e.stp.mono λϊ z=>.inl z
end
section
def Wr(K:ka)(mu:Bool)(F H:Hp)(t:T)(x:V)(B:Rg):Prop:=match mu with
 |false=>Rp K F H t x B|true=>∃v q l,t=.own [v,.nd true (.pin q) l]/\v.flat=true/\Rp K F H v x R0/\Rp K F H (.nd true (.pin q) l) (.ref q) B
def pS(K:ka)(E:L2.St->XK)(ca:Str->Value)(mu:Bool)(D:Ends)(F H:Hp)(R:Nat->Rg):Option Out->Prop
 |some (.nx f)=>∀b a d e,Stp F H (tot R) b a (tot e)->StR K b a d f e->D.nx d a|some (.bk f)=>∀b a d e,Stp F H (tot R) b a (tot e)->StR K b a d f e->D.bk d a|some (.ct f)=>∀b a d e,Stp F H (tot R) b a (tot e)->StR K b a d f e->D.ct d a|some (.rt t)=>∀b a x B,Stp F H (tot R) b a B->Wr K mu b a t x B->D.rt x a|some (.xc c f)=>∀b a d e,Stp F H (tot R) b a (tot e)->StR K b a d f e->XE (E d) ca c b a|none=>False
def tS(K:ka)(E:L2.St->XK)(ca:Str->Value)(mu:Bool)(m:AG):TS:=λD O H=>∃F Y R,StR K F H O Y R/\pS K E ca mu D F H R (m Y)
end
def AF(m n:AG):AG:=λY=>match m Y with
 |some (.nx a)=>n a|r=>r
def A5:AG:=λY=>!(.nx Y)
def Ms:AG:=λϊ=>()
def ZI:AG:=λY=>!(.bk Y)
def Mt:AG:=λY=>!(.ct Y)
def IU(m:AH):AG:=λY=>match m Y with
 |some (.v z y)=>!(.nx Y)|some (.x c)=>!(.xc c Y)|none=>()
def AN(m:AH):AG:=λY=>match m Y with
 |some (.v t z)=>!(.rt t)|some (.x c)=>!(.xc c Y)|none=>()
def Sw:AG:=λϊ=>!(.rt .non)
def AV(m:AH)(b:T->AL->Option AL):AG:=λY=>match m Y with
 |some (.v t false)=>(match b t.share Y with
  |some a=>!(.nx a)|none=>())
 |some (.v z true)=>none|some (.x c)=>!(.xc c Y)|none=>()
def Bh(i:Nat)(m:AH):AG:=λY=>match m Y with
 |some (.v t false)=>if i<Y.length then ↑(.nx<|Y.set i !t) else ()
 |some (.v z true)=>none|some (.x c)=>!(.xc c Y)|none=>()
def Ed(i:Nat):AG:=λY=>match Y[i]? with
 |some !t=>!(.nx<|Y.set i !t.share)|z=>!(.nx Y)
def AX(c:AH)(a b:AG):AG:=λY=>match c Y with
 |some (.v (.bl true) z)=>a Y|some (.v (.bl false) z)=>b Y|some (.x c)=>!(.xc c Y)|z=>()
def BC(b:T->AL->Option AL)(body:AG):qD->AG
 |[],Y=>!(.nx Y)|t::d,Y=>(match b t Y with
  |some c=>(match body c with
   |some (.nx a)=>BC b body d a|some (.ct a)=>BC b body d a|some (.bk a)=>!(.nx a)|r=>r)
  |none=>())
def BV(a:BM)(b:T->AL->Option AL)(body:AG):AG:=λY=>match a Y with
 |some (.v d z)=>BC b body d Y|some (.x c)=>!(.xc c Y)|none=>()
def DJ(c:AH)(body:AG):Nat->AG
 |0,z=>none|n+1,Y=>(match c Y with
  |some (.v (.bl true) z)=>(match body Y with
   |some (.nx a)=>DJ c body n a|some (.ct a)=>DJ c body n a|some (.bk a)=>!(.nx a)|r=>r)
  |some (.v (.bl false) z)=>!(.nx Y)|some (.x c)=>!(.xc c Y)|z=>())
open Classical in
def Ec(c:AH)(body:AG):AG:=λY=>if h:∃n,(DJ c body n Y).isSome=true then DJ c body h.choose Y else ()
def zin(h:Ec c body Y=!o):∃n,DJ c body n Y=!o:=by
 unfold Ec at h;split at h;grind;cases h
def QC:∀{n} {Y} {o},DJ c body n Y=!o->DJ c body (n+1) Y=!o
 |0,Y,o,h=>by cases h|n+1,Y,o,h=>by
  unfold DJ at h ⊢;split at h;split at h;show QC h;show QC h;show h;show h;show h;show h;cases h
def YE(h:DJ c body n Y=!o)(a:n<=m):DJ c body m Y=!o:=by
 induction a with
 |refl=>show h|step z b=>show QC b
def ZD(h:DJ c body n Y=!o):Ec c body Y=!o:=by
 unfold Ec;let a:∃n,(DJ c body n Y).isSome=true:={n,by rw[h];rfl}
 let(f,e):=Ů.mp a.choose_spec;let b:=YE e<|Nat.le_max_left a.choose n;let d:=YE h<|Nat.le_max_right a.choose n
 grind
section
variable {mu:Bool}{X:Cx}{E:L2.St->XK}{ca:Str->Value}{O:L2.St}{H:Hp}{K:ka}{m mk mc:AH}{ms mi:BM}{b:T->AL->Option AL}{u w:AG}{D:Ends}{e c tg iter:Expr}{st:Stmt}{rest body sa sb:kj}{pos pos':Pos}
theorem PS.weak(h:PS X st t)(w:∀D O H,t' D O H->t D O H):PS X st t':=λa s O H D I q=>h a s O H D I<|w D O H q
theorem Bf.weak(h:Bf X rest t)(w:∀D O H,t' D O H->t D O H):Bf X rest t':=λa s O H D I q=>h a s O H D I<|w D O H q
def znk(h:tS K E ca mu (AF u w) D O H):YY (tS K E ca mu u) (tS K E ca mu w) D O H:=by
 let(F,Y,R,S,q):=h;show{F,Y,R,S,?_};unfold AF at q;cases g:u Y with
 |none=>erw[g]at q<;>symm|some o=>
  erw[g]at q;cases o with
  |nx f=>
   intro j m n k e l;show{j,f,k,l,?_};cases i:w f with
   |none=>erw[i]at q<;>symm|some o=>
    erw[i]at q;cases o with
    |nx z=>show λa b c d s S=>q a b c d (e.trans s) S|bk z=>show λa b c d s S=>q a b c d (e.trans s) S|ct z=>show λa b c d s S=>q a b c d (e.trans s) S|rt z=>show λa b x B s r=>q a b x B (e.trans s) r|xc z y=>show λa b c d s S=>q a b c d (e.trans s) S
  |rt z=>show q|bk z=>show q|ct z=>show q|xc z y=>show q
theorem Yv:Bf X []<|tS X.K E ca mu A5:=Bf.weak zlk λD O H h=>by
 let(F,Y,R,S,q):=h;show q F H O R (Stp.refl S.fh) S
theorem Rw(a:PS X st<|tS X.K E ca mu u)(b:Bf X rest<|tS X.K E ca mu w):Bf X (st::rest)<|tS X.K E ca mu<|AF u w:=Bf.weak (zix a b) λD O H h=>znk h
theorem RE(a:PS X st<|tS X.K E ca mu u):Bf X [st]<|tS X.K E ca mu u:=zlj a
theorem Yu:PS X st<|tS X.K E ca mu Ms:=λa s O H D I h=>by
 let(_,_,_,_,q):=h;symm
theorem zo6:PS X (.Pass pos)<|tS X.K E ca mu A5:=PS.weak zln λD O H h=>by
 let(F,Y,R,S,q):=h;show q F H O R (Stp.refl S.fh) S
theorem zl5:PS X (.Break pos)<|tS X.K E ca mu ZI:=PS.weak zj0 λD O H h=>by
 let(F,Y,R,S,q):=h;show q F H O R (Stp.refl S.fh) S
theorem zf5:PS X (.Continue pos)<|tS X.K E ca mu Mt:=PS.weak ze2 λD O H h=>by
 let(F,Y,R,S,q):=h;show q F H O R (Stp.refl S.fh) S
def znl(h:tS K E ca mu (AF (Ed i) w) D O H):tS K E ca mu w D O H:=by
 let(F,Y,R,S,q):=h;unfold AF Ed at q;cases p:Y[i]? with
 |none=>rw[p]at q;show{(F),Y,R,S,q}|some P=>
  rw[p]at q;cases P with
  |none=>show{(F),Y,R,S,q}|some t=>
   simp only at q;let(x,ex,r):=S.rep i t p;have N :=(Ê.mp p).1;have n:∀a,R i a->F a=():=λa z=>(r.dom z).1
   have L:StR K (frz F H<|R i) H O (Y.set i !t.share) (λj=>if j=i then R0 else R j):=by
    show{Il S.fh,by simpa using S.len,λj G e=>?_,λj a z=>?_,λj k a C v A=>?_};by_cases c:j=i;subst c;rw[é N]at e;cases e;show{x,ex,by simpa using r.share (Fd n) λa u z q=>by rw[HE z];show q};rw[å<|Í c]at e;let(y,M,J):=S.rep j G e;show{y,M,?_};erw[c,Å]
    show J.frame (Fd n) λa z=>{rfl,by
     rw[Fl<|λQ=>S.dis j i a c z Q]
     show(J.dom z).1}
    by_cases c:j=i;erw[c,Æ]at z;show z.elim;erw[c,Å]at z;let(G,e):=S.out j a z;show{G,by rw[å<|Í c];show e}
    by_cases c:j=i;erw[c,Æ]at v;show v.elim;by_cases hk:k=i;erw[hk,Æ]at A;show A.elim;erw[c,Å]at v;erw[hk,Å]at A;show S.dis j k a C v A
   have d:Stp F H (tot R) (frz F H<|R i) H (tot λj=>if j=i then R0 else R j):=by
    show{Fd n,Il S.fh,λϊ Z Z e=>e,λb ⟨j,z⟩=>?_,λb u e=>?_};by_cases c:j=i;erw[c,Æ]at z;show z.elim;erw[c,Å]at z;show .inl {(j),z};by_cases hb:R i b;show .inr<|.inl {(i),hb}
    rw[Fl hb]at e;show .inl e
   show{_,_,_,L,?_};cases I:w (Y.set i !t.share) with
   |none=>erw[I]at q<;>symm|some o=>
    erw[I]at q;cases o with
    |nx Z=>show λf g l m s S=>q f g l m (d.trans s) S|bk Z=>show λf g l m s S=>q f g l m (d.trans s) S|ct Z=>show λf g l m s S=>q f g l m (d.trans s) S|rt Z=>show λf g x B s r=>q f g x B (d.trans s) r|xc Z X=>show λf g l m s S=>q f g l m (d.trans s) S
theorem Yw(h:Bf X rest<|tS X.K E ca mu w):Bf X rest<|tS X.K E ca mu<|AF (Ed i) w:=Bf.weak h λD O H h=>znl h
def s_exp(he:PE X e<|tM X.K E ca m)(hs:swapsWith e () pos.line X.env=pure false):PS X (.Expr e pos)<|tS X.K E ca mu<|IU m:=by
 show PS.weak (NA he hs) λD O H h=>?_;let(F,Y,R,S,q):=h;show{F,Y,R,S,?_};unfold IU at q;cases d:m Y with
 |none=>erw[d]at q<;>symm|some r=>
  erw[d]at q;cases r with
  |x c=>show λa b e=>q a b O R e.stp0 (S.ext e)|v t f=>show λa b x B e g=>q a b O R e.stp0<|S.ext e
def Yt(he:PE X e<|tM X.K E ca m):PS X (.Return ↑e pos)<|tS X.K E ca false<|AN m:=by
 show PS.weak (zoz he) λD O H h=>?_;let(F,Y,R,S,q):=h;show{F,Y,R,S,?_};unfold AN at q;cases f:m Y with
 |none=>erw[f]at q<;>symm|some r=>
  erw[f]at q;cases r with
  |x c=>show λb d e=>q b d O R e.stp0 (S.ext e)|v t i=>
   intro b d x B e g;cases i with
   |false=>show q b d x B (e.stp.mono λϊ z=>.inr z) g|true=>let(_,A,j,r):=g;show q b d x A (e.stp.mono λa z=>.inl<|j a z) r
theorem zo5:PS X (.Return () pos)<|tS X.K E ca false Sw:=PS.weak zlm λD O H h=>by
 let(F,Y,R,S,q):=h;show q F H .non R0 ((Stp.refl S.fh).mono λϊ z=>z.elim) .non
def s_if(z:PT X c<|B7 X.K E ca mc)(ha:Bf X sa<|tS X.K E ca mu u)(hb:Bf X sb<|tS X.K E ca mu w):PS X (.If c sa sb pos)<|tS X.K E ca mu<|AX mc u w:=by
 show PS.weak (ps_if z ha hb) λD O H h=>?_;let(F,Y,R,S,q):=h;show{F,Y,R,S,?_};unfold AX at q;cases m:mc Y with
 |none=>erw[m]at q<;>symm|some r=>
  erw[m]at q;cases r with
  |x c=>show λb a e=>q b a O R e.stp0 (S.ext e)|v t A=>
   cases t with
   |bl k=>
    intro n p i;have y:=S.ext i
    have j:∀{l },(match l Y with
      |some (.nx g)=>∀b a d f,Stp F H (tot R) b a (tot f)->StR X.K b a d g f->D.nx d a|some (.bk g)=>∀b a d f,Stp F H (tot R) b a (tot f)->StR X.K b a d g f->D.bk d a|some (.ct g)=>∀b a d f,Stp F H (tot R) b a (tot f)->StR X.K b a d g f->D.ct d a|some (.rt t)=>∀b a x B,Stp F H (tot R) b a B->Wr X.K mu b a t x B->D.rt x a|some (.xc c g)=>∀b a d f,Stp F H (tot R) b a (tot f)->StR X.K b a d g f->XE (E d) ca c b a|none=>False)->tS X.K E ca mu l D O p:=λ{l} q=>by
     show{n,Y,R,y,?_};cases hr:l Y with
     |none=>erw[hr]at q<;>symm|some o=>
      erw[hr]at q;cases o with
      |nx Z=>show λb a d f s S=>q b a d f (i.stp0.trans s) S|bk Z=>show λb a d f s S=>q b a d f (i.stp0.trans s) S|ct Z=>show λb a d f s S=>q b a d f (i.stp0.trans s) S|rt Z=>show λb a x B s r=>q b a x B (i.stp0.trans s) r|xc Z W=>show λb a d f s S=>q b a d f (i.stp0.trans s) S
    cases k with
    |true=>show LI (j q)|false=>show LJ<|j q
   |_=>symm
def Qd(C:∀v O H Q,Ew K b v O H Q->g v O H Q)(h:tS K E ca mu (AV m b) D O H):Mb (tM K E ca m) g D O H:=by
 let(F,Y,R,S,q):=h;show{F,Y,R,S,?_};unfold AV at q;cases j:m Y with
 |none=>erw[j]at q<;>symm|some r=>
  erw[j]at q;cases r with
  |x c=>show λk l e=>q k l O R e.stp0 (S.ext e)|v t w=>
   cases w with
   |true=>symm|false=>
    intro I n x B y g1;let(d,f,_,G):=EY.frz S y g1;cases hb:b t.share Y with
    |none=>erw[hb]at q<;>symm|some u=>
     erw[hb]at q;show C _ _ _ _ {d,Y,R,t.share,u,S.ext f,(G).any,hb,λo p s A=>?_};show q d n o p (f.stp0.mono λa ⟨i,z⟩=>{i,A i a z}) s
nonrec def i9(h:Ew K (AD i) v O H Q):LV i v O H Q:=by
 let(F,Y,R,t,c,S,r,e,q):=h;unfold AD at e;split at e;cases e;rename_i hl;show q _ _ (S.set r (λϊ y y y z=>z.elim) hl) λj a z=>?_;by_cases b:j=i;erw[b]at z;show z.elim;grind;cases e
theorem Yr(a:X.N.Nodup)(c:X.N[i]?=!x)(d:G2 X.env.scope x)(he:PE X e<|tM X.K E ca m)(hs:swapsWith e (!(.Name x pos')) pos.line X.env=pure false)(b:X.fn x=true\/X.env.scope.names.lookup x=!.local) :
  PS X (.Assign [.Name x pos'] e pos) (tS X.K E ca mu<|AV m<|AD i):=PS.weak (Zo a c d he hs b) λD O H h=>Qd (λϊ y y y z=>i9 z) h
theorem zo4(he:PE X e<|tM X.K E ca m)(c:PG X tg<|Ew X.K b)(hs:swapsWithSole [tg] e pos.line X.env=pure false)(d:swappedStores [tg] e X.env=pure ())(a:(assignEach [tg] X.env).map (·.2)=[assign tg X.env]) :
  PS X (.Assign [tg] e pos) (tS X.K E ca mu<|AV m b):=PS.weak (Kk he c hs d a) λD O H h=>Qd (λϊ y y y z=>z) h
def YZ(h:tS K E ca mu (Bh i m) D O H):Mb (tM K E ca m) (LV i) D O H:=by
 let(F,Y,R,S,q):=h;show{F,Y,R,S,?_};unfold Bh at q;cases f:m Y with
 |none=>erw[f]at q<;>symm|some r=>
  erw[f]at q;cases r with
  |x c=>show λg l e=>q g l O R e.stp0 (S.ext e)|v t p=>
   cases p with
   |true=>symm|false=>
    intro k n x B b g1;have d :=g1;have o:=S.ext b
    by_cases hl:i<Y.length;erw[hl]at q;show q k n _ _ (b.stp.mono ?_)<|o.set d (λj a y u w=>S.apart b w j u) hl
    rintro a ⟨j,z⟩;by_cases s:j=i;grind;erw[s]at z;show .inl {(j),z};erw[hl]at q<;>symm
theorem zo7(a:X.N.Nodup)(c:X.N[i]?=!x)(d:G2 X.env.scope x)(he:PE X e<|tM X.K E ca m)(hs:swapsWith e (!(.Name x pos')) pos.line X.env=pure false)(b:X.fn x=true\/X.env.scope.names.lookup x=!.local) :
  PS X (.Assign [.Name x pos'] e pos) (tS X.K E ca mu<|Bh i m):=PS.weak (Zo a c d he hs b) λD O H h=>YZ h
def s_for(hp:PassesOwn (model X.prog X.w) X.A X.env X.xe)(hc:X.calm=true)(hi:PI X tg iter<|tI X.K E ca mi)(N:PG X tg<|Ew X.K b)(hb:Bf X body<|tS X.K E ca mu u)(hs:∀x,foldedSetIterable iter X.env x=pure x) :
  PS X (.For tg iter body [] pos) (tS X.K E ca mu<|BV mi b u):=by
 show PS.weak (zp1 hp hc hi N hb hs) λD O H h=>?_;let(F,Y,R,S,q):=h;show{F,Y,R,S,?_};unfold BV at q;cases hm:mi Y with
 |none=>erw[hm]at q<;>symm|some r=>
  erw[hm]at q;cases r with
  |x c=>show λs w e=>q s w O R e.stp0 (S.ext e)|v g bb=>
   intro Q H1 Γ e1 its;simp only at q;let S1:=S.ext e1;cases N:BC b u g Y with
   |none=>erw[N]at q<;>symm|some out=>
    erw[N]at q;show{λi mm V w=>mm=g.length - i/\i<=g.length/\∃s M L,Stp F H (tot R) s w (tot L)/\Ah Q s/\StR X.K s w V M L/\BC b u (g.drop i) M=!out,{g.length,by simp,ø _,Q,Y,R,e1.stp0,.refl _,S1,by simpa using N},?_};rintro i mm V w ⟨rfl,hle,s,M,L,st,sf,W,d⟩;let(i1,i2):=its i s w sf W.fh
    by_cases k:i<g.length;show .inr {(i1 _<|Á k).1,λO2 U=>i+1<=g.length/\∃T f R2,Stp F H (tot R) T U (tot R2)/\Ah Q T/\StR X.K T U O2 f R2/\BC b u (g.drop<|i+1) f=!out,λO2 U n2=>{g.length - (i+1),by lia,rfl,n2},λx K y=>?_};let(t,P,rx):=(i1 _<|Á k).2 x K y;let S3:=W.ext P;rw[ı k]at d;unfold BC at d;cases I:b g[i] M with
    |none=>erw[I]at d;cases d|some J=>
     erw[I]at d;show{t,M,L,g[i],J,S3,rx,I,λσ3 R3 S4 Z=>?_};let m:Stp F H (tot R) t K<|tot R3:=(st.trans P.stp0).mono λa ⟨j,z⟩=>{j,Z j a z}
     show{t,J,R3,S4,?_};cases hu:u J with
     |none=>erw[hu]at d;cases d|some o=>
      erw[hu]at d;cases o with
      |nx f=>show λp A n C l G=>{k,p,f,C,m.trans l,(sf.trans P.ff).trans l.ff,G,d}|ct f=>show λp A n C l G=>{k,p,f,C,m.trans l,(sf.trans P.ff).trans l.ff,G,d}|bk f=>cases d;show λp A n C l G=>q p A n C (m.trans l) G|rt v=>cases d;show λp A x B l r=>q p A x B (m.trans l) r|xc cc f=>cases d;show λp A n C l G=>q p A n C (m.trans l) G
    let hi':i=g.length:=by lia
    subst hi';show .inl {i2 rfl,?_};rw[List.drop_length]at d;unfold BC at d;cases d;show q s w V L st W
def s_wh(Q:PassesOwn (model X.prog X.w) X.A X.env X.xe)(P:PT X c<|B7 X.K E ca mc)(hb:Bf X body<|tS X.K E ca mu u):PS X (.While c body [] pos)<|tS X.K E ca mu<|Ec mc u:=by
 show PS.weak (ziy Q P hb) λD O H h=>?_;let(F,Y,R,S,q):=h;cases J:Ec mc u Y with
 |none=>erw[J]at q<;>symm|some out=>
  erw[J]at q;let(n,hn):=zin J;show{λy C G=>∃A s l,Stp F H (tot R) A G (tot l)/\StR X.K A G C s l/\DJ mc u y s=!out,{n,F,Y,R,Stp.refl S.fh,S,hn},?_}
  rintro y C G ⟨A,s,l,st,I,a⟩;cases y with
  |zero=>cases a|succ y=>
   show{A,s,l,I,?_};unfold DJ at a;cases L:mc s with
   |none=>erw[L]at a;cases a|some r=>
    erw[L]at a;cases r with
    |x N=>cases a;show λi w z=>q i w C l (st.trans z.stp0) (I.ext z)|v t W=>
     cases t with
     |bl k=>
      intro i w z;have K:=I.ext z;have d :=st.trans z.stp0;cases k with
      |false=>cases a;show LJ (q i w C l d K)|true=>
       simp only at a;show LI {λM w=>∃i b R2,Stp F H (tot R) i w (tot R2)/\StR X.K i w M b R2/\DJ mc u y b=!out,λU V T=>{y,ę _,T},i,s,l,K,?_};cases hu:u s with
       |none=>erw[hu]at a;cases a|some o=>
        erw[hu]at a;cases o with
        |nx b=>show λf j e m g p=>{f,b,m,d.trans g,p,a}|ct b=>show λf j e m g p=>{f,b,m,d.trans g,p,a}|bk b=>cases a;show λf j e m g p=>q f j e m (d.trans g) p|rt v=>cases a;show λf j x B g r=>q f j x B (d.trans g) r|xc N b=>cases a;show λf j e m g p=>q f j e m (d.trans g) p
     |_=>cases a
end
section
variable {K:ka}{F H:Hp}{l:qD}{xs:qC}{Rr:Nat->Rg}{p:Addr}{o:HO}
def Rp.own_inv(h:Rp K F H (.nd true k l) x A)(n:k.isT=false):∃p xs Rr,x=.ref p/\A=(λa=>a=p\/∃j,Rr j a)/\F p=()/\H p=!(.lst xs)/\RpO K F H l xs Rr/\(∀j,¬ Rr j p)/\ME k p:=by
 cases h with
 |own hk R f h e c d dp o=>show{_,_,R,rfl,rfl,f,iX n▸h,{(e),c,d,o},dp,hk}
theorem J8(hk:ME k p)(r:RpO K F H l xs Rr)(f:F p=())(h:H p=!(.lst xs))(dp:∀j,¬ Rr j p)(n:k.isT=false):Rp K F H (.nd true k l) (.ref p) (λa=>a=p\/∃j,Rr j a):=.own hk Rr f (iX n▸h) r.len r.rep r.dis dp r.out
theorem RpO.upd(r:RpO K F H l xs Rr)(dp:∀j,¬ Rr j p):RpO K F (L2.upd H p o) l xs Rr:={r.len,λi t x b c=>(r.rep i t x b c).frame (.refl _) λa z=>{BF<|λe=>dp i<|e▸z,(r.dom z).1},r.dis,r.out}
theorem Rp.upd(r:Rp K F H t x A)(dp:¬ A p):Rp K F (L2.upd H p o) t x A:=r.frame (.refl _) λa z=>{BF<|λe=>dp<|e▸z,(r.dom z).1}
def RpO.set(r:RpO K F H l xs Rr)(hj:j0<l.length)(rt:Rp K F H t y B)(d:∀j a,j≠j0->Rr j a->¬ B a):RpO K F H (l.set j0 t) (xs.set j0 y) (λj=>if j=j0 then B else Rr j):=by
 let hl:=r.len;show{by simp[hl],λi m n g h=>?_,λi k a e f c=>?_,λi a z=>?_};by_cases b:i=j0;subst b;rw[é hj]at g;rw[é<|by lia]at h;cases g;cases h;simpa using rt;rw[å<|Í b]at g h;simpa[b] using r.rep i m n g h;by_cases b:i=j0;erw[b,Æ]at f;let hk:¬ k=j0:=λz=>e<|b.trans z.symm
 erw[hk,Å]at c;show d k a hk c f;erw[b,Å]at f;by_cases hk:k=j0;erw[hk,Æ]at c;show d i a b f c;erw[hk,Å]at c;show r.dis i k a e f c;by_cases b:i=j0;simp[b];lia;erw[b,Å]at z;simpa using r.out i a z
variable {O:L2.St}{Y:AL}{R:Nat->Rg}
def StR.upd(S:StR K F H O Y R){l B:Rg}(D:Y[i]?=↑!t)(E:O[i]?=↑!x)(q:R i p)(G:Rp K F (L2.upd H p o) t' x l)(m:∀a,l a->R i a\/B a)(s:∀j a,R j a->¬ B a) :
  StR K F (L2.upd H p o) O (Y.set i !t') (λj=>if j=i then l else R j)/\Stp F H (λa=>Pu.tot R a\/B a) F (L2.upd H p o) (Pu.tot λj=>if j=i then l else R j):=by
 let C :=(S.dom q).1;let v :=(Ê.mp D).1
 let g:Ah F<|L2.upd H p o:=λb u e=>by
  rw[BF (λz=>by rw[z,C]at e;cases e)];show S.fh b u e
 show{{g,by simpa using S.len,λj r e=>?_,λj a z=>?_,λj k a h f d=>?_},{.refl _,g,λb u n e=>?_,λb ⟨j,z⟩=>?_,λb u e=>.inl e}};by_cases c:j=i;subst c;rw[é v]at e;cases e;show{x,E,by simpa using G};rw[å<|Í c]at e;let(y,A,I):=S.rep j r e;show{y,A,by simpa[c] using I.upd (λz=>S.dis j i p c z q)}
 by_cases c:j=i;subst c;show{t',é v};erw[c,Å]at z;let(r,e):=S.out j a z;show{r,by rw[å<|Í c];show e}
 by_cases c:j=i;erw[c,Æ]at f;let hk:¬ k=i:=λz=>h<|c.trans z.symm
 erw[hk,Å]at d;rcases m a f with w|w;show S.dis i k a (Í hk) w d;show s k a d w;erw[c,Å]at f;by_cases hk:k=i;erw[hk,Æ]at d;rcases m a d with w|w;show S.dis i j a (Í c) w f;show s j a f w;erw[hk,Å]at d;show S.dis j k a h f d;rw[BF<|λz=>n<|.inl (by rw[z];show{(i),q})];show e;by_cases c:j=i;erw[c,Æ]at z;rcases m b z with w|w;show .inl<|.inl {(i),w}
 show .inl<|.inr w
 erw[c,Å]at z;show .inl<|.inl {(j),z}
end
def Ef(Y:AL)(i:Nat):Option<|Kd×qD:=match Y[i]? with
 |some (!(.nd true k l))=>(match k with
  |.tup=>none|k=>!(k,l))
 |z=>()
def NK(h:Ef Y i=!(k,l)):Y[i]?=!(!(.nd true k l)):=by
 unfold Ef at h;grind
def HX(h:Ef Y i=!(k,l)):k.isT=false:=by
 unfold Ef at h;cases k<;>first|rfl|(exfalso;grind)
def CO(i:Nat)(m:AH):AG:=λY=>match Ef Y i with
 |some (kd,l)=>(match m Y with
  |some (.v t false)=>if l.length<BN then ↑(.nx<|Y.set i<|!(.nd true kd<|l++[t])) else ()
  |some (.v z true)=>none|some (.x c)=>!(.xc c Y)|none=>())
 |none=>()
def J3(i:Nat)(m:AH):AG:=λY=>match Ef Y i with
 |some (kd,l)=>(match m Y with
  |some (.v (.nd z .lst r) false)=>if l.length+r.length<=BN then ↑(.nx<|Y.set i<|!(.nd true kd<|l++BA r)) else ()
  |some (.v z y)=>none|some (.x c)=>!(.xc c Y)|none=>())
 |none=>()
def Kc(i:Nat)(mk m:AH):AG:=λY=>match m Y with
 |some (.v t false)=>(match Ef Y i with
  |some (kd,l)=>(match mk Y with
   |some (.v (.int k) z)=>(match CY l.length k with
    |some j=>!(.nx<|Y.set i<|!(.nd true kd<|l.set j t))|none=>())
   |some (.v z y)=>none|some (.x c)=>!(.xc c Y)|none=>())
  |none=>())
 |some (.v z true)=>none|some (.x c)=>!(.xc c Y)|none=>()
def J9:q9->Option (qD)
 |some (.nd true .lst l)=>!l|z=>()
def IQ(i:Nat)(mk mn m:AH):AG:=λY=>match m Y with
 |some (.v t false)=>(match Ef Y i with
  |some (kd,l)=>(match mk Y with
   |some (.v (.int k) z)=>(match CY l.length k with
    |some j=>(match J9 l[j]? with
     |some r=>(match mn Y with
      |some (.v (.int n) z)=>(match CY r.length n with
       |some a=>!(.nx<|Y.set i<|!(.nd true kd<|l.set j<|.own<|r.set a t))|none=>())
      |some (.v z y)=>none|some (.x c)=>!(.xc c Y)|none=>())
     |none=>())
    |none=>())
   |some (.v z y)=>none|some (.x c)=>!(.xc c Y)|none=>())
  |none=>())
 |some (.v z true)=>none|some (.x c)=>!(.xc c Y)|none=>()
section
variable {mu:Bool}{X:Cx}{E:L2.St->XK}{ca:Str->Value}{O:L2.St}{H:Hp}{K:ka}{m mk mn:AH}{D:Ends}{e k n:Expr}{pos apos cpos p1 pos2 pos3:Pos}{i:Nat}{x:Str}
def OJ(g:EY K F H R (.int j) b y B):y=.int j:=by
 cases b with
 |true=>let(_,A,_,r):=g;show r.int_inv
 |false=>show(g).int_inv
def Qn{l:qD}{b:Nat->Rg}(h:∃j,(λj=>if j=l.length then B else b j) j a):(∃j,b j a)\/B a:=Yi h
def Kb{b:Nat->Rg}(h:∃j,(λj=>if j=j0 then B else b j) j a):(∃j,b j a)\/B a:=by
 grind
def s_app(hN:X.N[i]?=!x)(hv:EW X.env.scope x)(hd:(x == "__debug__")=false)(A:(x == "__classdict__")=false)(he:PE X e<|tM X.K E ca m)(hs:starEach [e] X.env=[(false,eval e X.env)])(d:(apos.endLine == cpos.line)=true) :
  PS X (.Expr (.Call (.Attribute (.Name x p1) "append" apos) [e] [] cpos) pos) (tS X.K E ca mu<|CO i m):=by
 show PS.weak (NA (NH Ŋ PySem.F.slot_list_append PySem.F.type_list_append fQ (Ge hN hv hd A) (FW he GB hs) rfl (by rw[hs];rfl) d hs rfl) rfl) λD O H h=>?_;let(F,Y,R,S,q):=h;unfold CO at q;cases f:Ef Y i with
 |none=>erw[f]at q<;>symm|some kl=>
  let(kd,l):=kl;erw[f]at q;have U:=NK f;let(y,P,W):=S.rep i _ U;let(p,xs,Rr,rfl,s,fp,g,G,dp,u):=W.own_inv<|HX f;show{_,P,.inl {rfl,xs,Ag.of g},F,Y,R,S,?_};cases T:m Y with
  |none=>erw[T]at q<;>symm|some r=>
   erw[T]at q;cases r with
   |x c=>show λZ H' e=>q Z H' O R e.stp0 (S.ext e)|v t bb=>
    cases bb with
    |true=>symm|false=>
     intro N H1 y B b g1;have o :=g1
     by_cases hz:l.length<BN;erw[hz,Æ]at q;have S1:=S.ext b;have I:=G.ext b;have C:=b.hh _ _ g;have V:¬ B p:=λz=>by rw[b.nb p z]at g;cases g
     have n :=(W.ext b |>.dom (by rw[s];show .inl rfl)).1;show{p,xs,y,rfl,rfl,C,by rw[<- G.len,<- GN];show hz,?_};have J:RpO X.K N (upd H1 p<|.lst<|xs++[y]) (l++[t]) (xs++[y]) _:=(I.upd dp).snoc (o.upd V) λj a L M=>G.apart b M j L
     have k:∀j,¬ (if j=l.length then B else Rr j) p:=λj z=>by
      by_cases Q:j=l.length;erw[Q,Æ]at z;show V z;erw[Q,Å]at z;show dp j z
     have r2:=J8 u J n CT k<|HX f
     let(S3,K):=S1.upd U P (by rw[s];show .inl rfl) r2 (λa z=>by
      rw[s];rcases z with z|z;show .inl<|.inl z
      rcases Qn z with w|w;show .inl<|.inr w
      show .inr w)<|λj a L M=>S.apart b M j L
     show q N _ O _ (b.stp.trans K) S3;erw[hz,Å]at q<;>symm
def s_ext(hN:X.N[i]?=!x)(hv:EW X.env.scope x)(hd:(x == "__debug__")=false)(K:(x == "__classdict__")=false)(he:PE X e<|tM X.K E ca m)(hs:starEach [e] X.env=[(false,eval e X.env)])(f:(apos.endLine == cpos.line)=true) :
  PS X (.Expr (.Call (.Attribute (.Name x p1) "extend" apos) [e] [] cpos) pos) (tS X.K E ca mu<|J3 i m):=by
 show PS.weak (NA (NH Ŋ PySem.F.slot_list_extend PySem.F.type_list_extend zgi (Ge hN hv hd K) (FW he GB hs) rfl (by rw[hs];rfl) f hs rfl) rfl) λD O H h=>?_;let(F,Y,R,S,q):=h;unfold J3 at q;cases n:Ef Y i with
 |none=>erw[n]at q<;>symm|some kl=>
  let(kd,l):=kl;erw[n]at q;let ht:=NK n;let(y,Z,ry):=S.rep i _ ht;let(p,xs,C,rfl,I,fp,hp,ro,dp,J):=ry.own_inv<|HX n;show{_,Z,.inl {rfl,xs,Ag.of hp},F,Y,R,S,?_};cases hm:m Y with
  |none=>erw[hm]at q<;>symm|some r=>
   erw[hm]at q;cases r with
   |x c=>show λF' H' e=>q F' H' O R e.stp0 (S.ext e)|v t bb=>
    cases t with
    |nd o N r=>
     cases N with
     |lst=>
      cases bb with
      |true=>symm|false=>
       intro F1 H1 y B e1 g1;let(A,g,_,r2):=EY.frz S e1 g1;let w :=r2;rw[T.share]at w;let(p2,ys,rfl,_,nn,s):=E2 w
       by_cases hz:l.length+r.length<=BN;erw[hz,Æ]at q;let S1:=S.ext g;let P:=ro.ext g;let M:=g.hh _ _ hp;let G :=(ry.ext g |>.dom (by rw[I];show .inl rfl)).1
       let L :=nn;let lr :=by let:=s.1;rw[Cw,À]at this;show this
       show{p,p2,xs,ys,rfl,rfl,M,g.fh _ _ L,by rw[<- ro.len,<- lr,<- GN];show hz,?_}
       let app:∀(u ) (d ),As X.K A u d->∀(l ) (xs ) (k ),RpO X.K A k l xs C->RpO X.K A k (l++u) (xs++d) C:=by
        intro u
        induction u with
        |nil=>intro d hk l xs k b;rw[hk.inv0,ê,ê];show b|cons t u ih=>
         intro d hk l xs k b;let(y,W,rfl,r1,U):=hk.inv;let h2:=b.snoc (r1.any)<|λϊ D D z=>z
         let e3:(λj=>if j=l.length then R0 else C j)=C:=funext λj=>by
          by_cases hj:j=l.length;erw[hj,Æ];show funext λa=>propext {λz=>z.elim,λz=>absurd (b.out _ a z)<|ä _};erw[hj,Å]
         rw[e3]at h2;let h3:=ih W U (l++[t]) (xs++[y]) k h2
         simpa using h3
       let Q:=app _ _ s l xs _<|P.upd (o:=.lst<|xs++ys) dp;let r3:=J8 J Q G CT dp<|HX n;let(S3,V):=S1.upd ht Z (by rw[I];show .inl rfl) r3 (λa z=>.inl (by rw[I];show z))<|λj a z1 z2=>z2
       show q A _ O _ ((g.stp).trans V) S3;erw[hz,Å]at q<;>symm
     |_=>symm
    |_=>symm
def s_sto(hN:X.N[i]?=!x)(hv:EW X.env.scope x)(hd:(x == "__debug__")=false)(N:(x == "__classdict__")=false)(he:PE X e<|tM X.K E ca m)(hk:PE X k<|tM X.K E ca mk)(hs:swapsWithSole [.Subscript (.Name x p1) k pos2] e pos.line X.env=pure false)(hw:swappedStores [.Subscript (.Name x p1) k pos2] e X.env=pure ())
  (ha : ∀ v, assign (.Subscript (.Name x p1) k pos2) X.env v = (do
   let ov <- holding [v]<|eval (.Name x p1) X.env;let iv <- holding [v,ov] (eval k X.env)
   standAt pos2
   holding [v,ov,iv] (setItem ov iv v)
   release [v,ov,iv] [])) :
  PS X (.Assign [.Subscript (.Name x p1) k pos2] e pos) (tS X.K E ca mu<|Kc i mk m):=by
 show PS.weak (Kk he (ND (Ge hN hv hd N) hk Yn ha) hs hw rfl) λD O H h=>?_;let(F,Y,R,S,q):=h;show{F,Y,R,S,?_};unfold Kc at q;cases hm:m Y with
 |none=>erw[hm]at q<;>symm|some r=>
  erw[hm]at q;cases r with
  |x c=>show λG I e=>q G I O R e.stp0 (S.ext e)|v t bb=>
   cases bb with
   |true=>symm|false=>
    intro F1 H1 y B d g1;let K :=g1;simp only at q;cases n:Ef Y i with
    |none=>erw[n]at q<;>symm|some kl=>
     let(kd,l):=kl;erw[n]at q;let o:=S.ext d;let ht:=NK n;let(y2,ey,ry):=o.rep i _ ht;show{y2,ey,F1,Y,R,o,?_};cases g:mk Y with
     |none=>erw[g]at q<;>symm|some r=>
      erw[g]at q;cases r with
      |x c=>show λG I e=>q G I O R ((d.stp0).trans e.stp0) (o.ext e)|v tk bk=>
       cases tk with
       |int kk=>
        simp only at q;cases A:CY l.length kk with
        |none=>erw[A]at q<;>symm|some j=>
         erw[A]at q;intro Z H2 z C s g2;let hz:=OJ g2;subst hz;let S2:=o.ext s;let T:=ry.ext s;let(p,xs,Rr,rfl,u,fp,hp,ro,dp,M):=T.own_inv<|HX n;let P:=(LH A).2.1;let L:=K.ext s
         let pB :=λz=>by
          let:R i p:=by rw[u];show .inl rfl
          show S.apart d z i this
         show{p,xs,kk,j,rfl,rfl,hp,by rw[<- ro.len];show A,?_};let Q:RpO X.K Z (upd H2 p<|.lst<|xs.set j y) (l.set j t) (xs.set j y) _:=(ro.upd dp).set P (L.upd pB) λb a D V W=>S.apart d W i (by rw[u];show .inr {(b),V})
         let J:∀b,¬ (if b=j then B else Rr b) p:=λb z=>by
          by_cases f:b=j;erw[f,Æ]at z;show pB z;erw[f,Å]at z;show dp b z
         let r3:=J8 M Q fp CT J<|HX n
         let(S3,U):=S2.upd ht ey (by rw[u];show .inl rfl) r3 (λa z=>by
          rw[u];rcases z with z|z;show .inl<|.inl z
          rcases Kb z with w|w;show .inl<|.inr w
          show .inr w)<|λj a V W=>S.apart d W j V
         show q Z _ O _ ((d.stp.trans s.stp0).trans U) S3
       |_=>symm
nonrec def zo3(hN:X.N[i]?=!x)(hv:EW X.env.scope x)(hd:(x == ("__debug__":Str))=false)(hcd:(x == ("__classdict__":Str))=false)(he:PE X e<|tM X.K E ca m)(hk:PE X k<|tM X.K E ca mk)(hn:PE X n<|tM X.K E ca mn)(hpl:KR k)(hs:swapsWithSole [.Subscript (.Subscript (.Name x p1) k pos2) n pos3] e pos.line X.env=pure false)(hw:swappedStores [.Subscript (.Subscript (.Name x p1) k pos2) n pos3] e X.env=pure ())
  (ha : ∀ v, assign (.Subscript (.Subscript (.Name x p1) k pos2) n pos3) X.env v = (do
   let ov <- holding [v]<|eval (.Subscript (.Name x p1) k pos2) X.env;let iv <- holding [v,ov] (eval n X.env)
   standAt pos3
   holding [v,ov,iv] (setItem ov iv v)
   release [v,ov,iv] [])) :
  PS X (.Assign [.Subscript (.Subscript (.Name x p1) k pos2) n pos3] e pos) (tS X.K E ca mu<|IQ i mk mn m):=by
 show PS.weak (Kk he (ND (NF iE (Ge hN hv hd hcd) hk hpl) hn Yn ha) hs hw rfl) λD O H h=>?_;let(F,Y,R,S,q):=h;show{F,Y,R,S,?_};unfold IQ at q;cases hm:m Y with
 |none=>erw[hm]at q<;>symm|some r=>
  erw[hm]at q;cases r with
  |x c=>show λW Z e=>q W Z O R e.stp0 (S.ext e)|v t bb=>
   cases bb with
   |true=>symm|false=>
    intro F1 H1 y B L g1;let g1' :=g1;simp only at q;cases ho:Ef Y i with
    |none=>erw[ho]at q<;>symm|some kl=>
     let(kd,l):=kl;erw[ho]at q;let S1:=S.ext L;let ht:=NK ho;let(y2,ey,ry):=S1.rep i _ ht;show{y2,ey,F1,Y,R,S1,?_};cases hkk:mk Y with
     |none=>erw[hkk]at q<;>symm|some r=>
      erw[hkk]at q;cases r with
      |x c=>show λW Z e=>q W Z O R ((L.stp0).trans e.stp0) (S1.ext e)|v tk bk=>
       cases tk with
       |int kk=>
        simp only at q;cases hj:CY l.length kk with
        |none=>erw[hj]at q<;>symm|some j=>
         erw[hj]at q;cases hr:J9 l[j]? with
         |none=>erw[hr]at q<;>symm|some r=>
          erw[hr]at q;intro F2 H2 z C e2 g2;let hz:=OJ g2;subst hz;let S2:=S1.ext e2;let ry2:=ry.ext e2;let(p,xs,Rr,rfl,V,fp,hp,ro,dp,hOw):=ry2.own_inv<|HX ho;let hjl:=(LH hj).2.1;let P:j<xs.length:=by let:=ro.len;lia
          let hlj :=by
           unfold J9 at hr;split at hr;rename_i e;cases hr;show e;cases hr
          let rk:=ro.rep j _ _ hlj<|Á P
          let Hu:A9 xs kk=!xs[j]:=by
           unfold A9;rw[<- ro.len,hj];show Á P
          show{p,xs,kk,xs[j],rfl,rfl,Ag.of hp,Hu,F2,Y,R,S2,?_};cases hnn:mn Y with
          |none=>erw[hnn]at q<;>symm|some r'=>
           erw[hnn]at q;cases r' with
           |x c=>show λW Z e=>q W Z O R ((L.stp0.trans e2.stp0).trans e.stp0) (S2.ext e)|v tn bn=>
            cases tn with
            |int nn=>
             simp only at q;cases N:CY r.length nn with
             |none=>erw[N]at q<;>symm|some u=>
              erw[N]at q;intro F3 H3 z C T g3;let hz:=OJ g3;subst hz;let S3:=S2.ext T;let g:=ro.ext T;let hp3:=T.hh _ _ hp;let fp3 :=(ry2.ext T |>.dom (by rw[V];show .inl rfl)).1
              let rk3:=rk.ext T;let(J,ys,Rq,ep,A,fp2,hp2,rq,dq,_):=rk3.own_inv rfl;let g3':=(g1'.ext e2).ext T;let U:∀a,Rr j a->R i a:=λa z=>by rw[V];show .inr {(j),z}
              let f:Rr j J:=by rw[A];show .inl rfl
              let p2B :=λz=>S.apart L z i<|U _ f
              let pp2:p≠J:=λz=>dp j<|z▸f
              let hj2l:=(LH N).2.1;rw[ep];show{J,ys,nn,u,rfl,rfl,hp2,by rw[<- rq.len];show N,?_};let rq2:RpO X.K F3 (upd H3 J<|.lst<|ys.set u y) (r.set u t) (ys.set u y) _:=(rq.upd dq).set hj2l (g3'.upd p2B) λb a D M K=>S.apart L K i<|U _ (by rw[A];show .inr {(b),M})
              let dq2:∀b,¬ (if b=u then B else Rq b) J:=λb z=>by
               by_cases d:b=u;erw[d,Æ]at z;show p2B z;erw[d,Å]at z;show dq b z
              let rrow:=J8 (k:=.lst) trivial rq2 fp2 CT dq2 rfl;let Q :=λb hne z=>ro.dis b j J hne z f
              let xsj:xs.set j (.ref J)=xs:=by
               have :=ep;rw[<- this];show List.set_getElem_self P
              let ro4:RpO X.K F3 (upd H3 J<|.lst<|ys.set u y) (l.set j<|.own<|r.set u t) xs (λb=>if b=j then (λa=>a=J\/∃b,(if b=u then B else Rq b) a) else Rr b):=by
               show{by simpa using g.len,λI t' x' h1 h2=>?_,λI k' a hik M K=>?_,λI a z=>?_};by_cases s:I=j;subst s;rw[é hjl]at h1;cases h1;rw[Á P]at h2;cases h2;rw[ep];simpa using rrow;rw[å<|Í s]at h1;let:=(g.rep I t' x' h1 h2).upd (o:=.lst<|ys.set u y) (Q I s)
               simpa[s] using this
               let sub:∀a,(a=J\/∃b,(if b=u then B else Rq b) a)->Rr j a\/B a:=λa z=>by
                rcases z with z|z;show .inl (by rw[z];show f);rcases Kb z with w|w;show .inl (by rw[A];show .inr w);show .inr w
               by_cases s:I=j;erw[s,Æ]at M;let G:¬ k'=j:=λz=>hik<|s.trans z.symm
               erw[G,Å]at K;rcases sub a M with w|w;show g.dis j k' a (Í G) w K;show S.apart L w i (by rw[V];show .inr {(k'),K});erw[s,Å]at M;by_cases G:k'=j;erw[G,Æ]at K;rcases sub a K with w|w;show g.dis I j a s M w;show S.apart L w i (by rw[V];show .inr {(I),M});erw[G,Å]at K;show g.dis I k' a hik M K;by_cases s:I=j;simpa[s] using hjl;erw[s,Å]at z;simpa using g.out I a z
              let dp3:∀b,¬ (if b=j then (λa=>a=J\/∃b,(if b=u then B else Rq b) a) else Rr b) p:=λb z=>by
               by_cases d:b=j;erw[d,Æ]at z;rcases z with z|z;show pp2 z;rcases Kb z with w|w;show dp j (by rw[A];show .inr w);show S.apart L w i (by rw[V];show .inl rfl);erw[d,Å]at z;show dp b z
              let rall:=J8 hOw ro4 fp3 (by rw[BF pp2];show hp3) dp3<|HX ho
              let(S4,st4):=S3.upd ht ey (U _ f) rall (λa z=>by
               rw[V];rcases z with z|⟨b,z⟩;show .inl<|.inl z
               by_cases d:b=j;erw[d,Æ]at z;rcases z with z|z;show .inl<|.inr {j,by rw[z];show f}
               rcases Kb z with w|w;show .inl<|.inr {j,by rw[A];show .inr w}
               show .inr w
               erw[d,Å]at z;show .inl<|.inr {(b),z})<|λj a M K=>S.apart L K j M
              show q F3 _ O _ (((L.stp.trans e2.stp0).trans T.stp0).trans st4) S4
            |_=>symm
       |_=>symm
def Ke(i j:Nat)(ms:BM):AG:=λY=>match ms Y with
 |some (.v a false)=>(match a with
  |[t,u]=>if i<Y.length/\j<Y.length then ↑(.nx<|(Y.set i !t).set j !u) else ()
  |z=>())
 |some (.v z true)=>none|some (.x c)=>!(.xc c Y)|none=>()
def s_par{px py pt}(J:X.calm=true)(I:X.N.Nodup)(K:X.N[i]?=!x)(hj:X.N[j]?=!y)(f:i≠j)
  (M:X.env.scope.names.lookup x=!.local) (N:X.env.scope.names.lookup y=!.local) (ha:PA X [a,b]<|CI X.K E ca ms)
  (L:swappedStores [.Tuple [.Name x px,.Name y py] kt pt] (.Tuple [a,b] k2 pt2) X.env=pure (![x,y]))
  (hs:swapsWithSole [.Tuple [.Name x px,.Name y py] kt pt] (.Tuple [a,b] k2 pt2) pos.line X.env=pure false) :
  PS X (.Assign [.Tuple [.Name x px,.Name y py] kt pt] (.Tuple [a,b] k2 pt2) pos) (tS X.K E ca mu<|Ke i j ms):=by
 show PS.weak (zp0 J I K hj f M N ha L hs) λD O H h=>?_;let(F,Y,R,S,q):=h;show{F,Y,R,S,?_};unfold Ke at q;cases n:ms Y with
 |none=>erw[n]at q<;>symm|some r=>
  erw[n]at q;cases r with
  |x c=>show λo s e=>q o s O R e.stp0 (S.ext e)|v T G=>
   cases G with
   |true=>symm|false=>
    intro p w xs m rs;simp only at q
    match T,q,rs with
    |[t,u],q,rs=>
     simp only at q;by_cases hl:i<Y.length/\j<Y.length;erw[hl,Æ]at q;let(U,V,rfl,P,g):=rs.inv;let(x2,W,rfl,Q,l):=g.inv;cases l.inv0;have A:=S.ext m;have B:=A.set ((P).any) (λϊ Z Z Z z=>z.elim) hl.1
     have C:=B.set ((Q).any) (λϊ Z Z Z z=>z.elim)<|by simpa using hl.2
     show{U,x2,rfl,q p w _ _ (m.stp0.mono ?_) C};rintro a ⟨k,z⟩;by_cases hk:k=j;erw[hk,Æ]at z;show z.elim;erw[hk,Å]at z;by_cases d:k=i;erw[d,Æ]at z;show z.elim;erw[d,Å]at z;show{(k),z};erw[hl,Å]at q<;>symm
    |[],q,rs=>symm|[Z],q,rs=>symm|Z::D::ό::ύ,q,rs=>symm
end
section
variable {X:Cx}{E:L2.St->XK}{ca:Str->Value}{O:L2.St}{H F:Hp}{K:ka}{m mk:AH}{ms:BM}{D:Ends}{e:Expr}{es:kh}{pos apos cpos p1 p2:Pos}{i j:Nat}{x y:Str}{Y:AL}{R:Nat->Rg}{mu:Bool}
set_option genInjectivity true in
inductive Mo where
 |ok (v:T) (Y:AL)|exc (c:Str) (Y:AL)
def G9(K:ka)(ca:Str->Value)(g:qD->Option Ru):Sp:=λf H Q E=>∃F p l e A d,Ah F H/\f=.ref p::d/\Rp K F H (.nd true (.pin p) l) (.ref p) A/\As K F e d/\match g (.nd true (.pin p) l::e) with
 |some (.ok t)=>∀b a x B,Stp F H A b a B->Wr K true b a t x B->Q x a|some (.exc c)=>∀b a,Stp F H A b a R0->XE E ca c b a|none=>False
variable {mm:AL->Option Mo}
end
abbrev aH(A:Around):Around:={ A with handled:=() }
structure FnS(P:Program)(w:World)(K:ka)(mg:Str->Option Value)(base:Heap)(k:Nat)(f:Addr)(fd:FuncData)(p:Str)(sp:Sp):Prop where
 run:∀(A:Around) (outer:List Env) (s:Shared) (H:Hp) (args:Args) (a:Addr) (Q:VK),A.handled=!(.ref a)->(∃C,IsX H a C)->Room k (aH A)->Env0 P w K mg base A outer s H->BindsTo s fd args [(p,.ref a)]->sp [.ref a] H Q E0 ->
  codeAny (model P w) A (.call (.ref f) args) (CR MH outer P w H s Q E0) s
structure DefS(P:Program)(w:World)(K:ka)(mg:Str->Option Value)(base:Heap)(k:Nat)(x p:Str)(sp:Sp) where
 f:Addr
 fd:FuncData
 ok:FnS P w K mg base k f fd p sp
 m:mg x=!(.ref f)
 kp:W.keepIn K (.ref f)=true
 b:Ct K fd [p] []
section
variable {X:Cx}{pz:List<|Addr×Obj}{O:L2.St}{H:Hp}{s:Shared}{a:Addr}{kvs:List<|Key×V}
def zmt(I:Inv X pz O H s)(e:H a=!(.dK kvs)):∃ob,Inv X pz O (upd H a<|.frz ob<|.dK kvs) s:=by
 let(z,hd,h,c,d):=mB I.hok e;let(ob,g,f,b,r):=id d;show{ob,WM I (by rw[e];show True.intro) (Heap.SameBut.refl _ _) {(ob),b} {b,WJ z hd c d}}
end
section
variable {X:Cx}
def tDicO:TE:=λϊ H Q=>∀p,H p=()->Q (.ref p) (upd H p<|.dK [])
theorem zlv:PE X (.Dict [] [] pos) tDicO:=λa s O H Q I h=>by
 show wpAny_Dict_empty {.ref s.heap.objs.size,_,I.laid (λϊ z q=>Ó _ q) (Ã _)<|zjz s.heap I.big,rfl,h _<|I.hok.fresh<|Ã _}
variable {E:L2.St->XK}{ca:Str->Value}{m mk mv:AH}{e k:Expr}{pos p1 pos2:Pos}{mu:Bool}
end
section
variable {X:Cx}{E:L2.St->XK}{ca:Str->Value}{m mk:AH}{e k:Expr}{pos p1 pos2:Pos}{mu:Bool}{i:Nat}{x:Str}
end
nonrec def zpt(hu:X.A.units+64<cLine):Ay X (compareOp .NotEq)<|CA X.K Cm:=by
 intro l s O H x y v u Q I g i h;let(F,m,n,r,fh,d,f,e,q):=h;unfold Cm at e;split at e
 cases e;rename_i a;unfold Ip Em at a;rw[È,È,È,È,ü]at a;let(j,b):=HR I fh (d.any) a.1.1.1 g;let(k,c):=HR I fh (f.any) a.1.2.1 i;show SeqAt.compareNe_reads b c a.1.1.2 a.1.2.2 (mD hu a.2) {.bl _,H,I,rfl,q.bl fh}
 cases e
def StR.frz{K }       (S:StR K F H O Y R)(h:Y[i]?=↑!t):StR K (Pu.frz F H<|R i) H O (Y.set i !t.share) (λj=>if j=i then R0 else R j):=by
 let(x,ex,r):=S.rep i t h;let o:i<Y.length:=(Ê.mp h).1;let n:∀a,R i a->F a=():=λa z=>(r.dom z).1
 show{Il S.fh,by simpa using S.len,λj g e=>?_,λj a z=>?_,λj k a f c d=>?_};by_cases b:j=i;subst b;rw[é o]at e;cases e;show{x,ex,by simpa using r.share (Fd n) λa u z q=>by rw[HE z];show q};rw[å<|Í b]at e;let(y,m,l):=S.rep j g e;show{y,m,?_};erw[b,Å]
 show l.frame (Fd n) λa z=>{rfl,by
  rw[Fl<|λp=>S.dis j i a b z p]
  show(l.dom z).1}
 by_cases b:j=i;erw[b,Æ]at z;show z.elim;erw[b,Å]at z;let(g,e):=S.out j a z;show{g,by rw[å<|Í b];show e}
 by_cases b:j=i;erw[b,Æ]at c;show c.elim;by_cases hk:k=i;erw[hk,Æ]at d;show d.elim;erw[b,Å]at c;erw[hk,Å]at d;show S.dis j k a f c d
section
variable {X:Cx}{E:L2.St->XK}{ca:Str->Value}{O:L2.St}{H:Hp}{K:ka}{u w:AG}{D:Ends}
end
def gR{fs:kq}{xs}{f}:∀{j} {x:V},fs.findIdx? (· == f)=!j->xs[j]?=!x->(fs.zip xs).lookup f=!x:=by
 induction fs generalizing xs with
 |nil=>intro j x h;simp at h|cons g r i=>
  intro j x h a;rw[Ζ]at h;cases xs with
  |nil=>simp at a|cons y l=>
   rw[Ŗ,æ];by_cases b:g=f;subst b;erw[õ,Æ,Ŵ]at h;subst h;simp at a;rw[õ,a];have c:(g == f)=false:=beq_eq_false_iff_ne.mpr b;have d:(f == g)=false:=beq_eq_false_iff_ne.mpr<|Í b;rw[c]at h;erw[ŋ,Å,Ø]at h;let(k,e,rfl):=h;rw[d];show i e<|by simpa using a
def zbi{fs:kq}{xs:qC}(h:fs.contains f=false):(fs.zip xs).lookup f=():=by
 induction fs generalizing xs with
 |nil=>rfl|cons g r a=>
  cases xs with
  |nil=>rfl|cons y b=>rw[Ε,č]at h;rw[Ŗ,æ,h.1];show a h.2
def Rp.obj_inv{K}(h:Rp K F H (.obj k l) x A):∃p xs,x=.ref p/\A=R0/\KS F k p xs/\l.length=xs.length/\∀(i:Nat) (t) (x),l[i]?=!t->xs[i]?=!x->Rp K F H t x R0:=by
 cases h with
 |obj h e c=>show{_,_,rfl,rfl,h,e,c}
def Aw(C:Addr)(fs:kq):T->Option (qD)
 |.obj (.ins b a) l=>if b=C/\a=fs then ↑l else ()
 |z=>()
def iQ(h:Aw C fs t=!l):t=.obj (.ins C fs) l:=by
 unfold Aw at h;grind
def AU(C:Addr)(fs:kq)(j:Nat)(m:AH):AH:=λY=>match m Y with
 |some (.v t b)=>(match Aw C fs t with
  |some l=>(match l[j]? with
   |some u=>!(.v u<|b && (not u.sh))|none=>())
  |none=>())
 |some (.x c)=>!(.x c)|none=>()
def BY(C:Addr)(fs:kq)(g:qD->Option Ru)(m:AH)(ms:BM):AH:=λY=>match m Y with
 |some (.v t z)=>(match Aw C fs t with
  |some z=>(match ms Y with
   |some (.v a b)=>(match g (t.share::a) with
    |some (.ok v)=>B5 b v|some (.exc c)=>LZ true c|none=>())
   |some (.x c)=>!(.x c)|none=>())
  |none=>())
 |some (.x c)=>!(.x c)|none=>()
def Ax(m n:AH):AH:=λY=>match m Y with
 |some r=>!r|none=>n Y
section
variable {X:Cx}{E:L2.St->XK}{ca:Str->Value}{m n:AH}{ms:BM}{e o:Expr}{es:kh}{pos p apos:Pos}{C:Addr}{fs:kq}{f:Str}{j:Nat}
theorem TN(c:PE X e<|tM X.K E ca m)(d:PE X e<|tM X.K E ca n):PE X e<|tM X.K E ca<|Ax m n:=λb s O H Q I h=>by
 let(F,Y,R,S,q):=h;unfold Ax at q;cases a:m Y with
 |none=>rw[a]at q;show d b s O H Q I {(F),Y,R,S,q}|some r=>rw[a]at q;show c b s O H Q I {F,Y,R,S,by rw[a];show q}
def LO{K}(g:EY K F H R (.obj k l) b x B):Rp K F H (.obj k l) x R0/\B=R0:=by
 cases b with
 |true=>let(c,A,_,r):=g;let(p,xs,rfl,a,_):=r.obj_inv;show{a▸r,c}
 |false=>let r:Rp K F H (.obj k l) x B:=g;let(p,xs,rfl,a,_):=r.obj_inv;show{a▸r,a}
def r_fld(c:Cls X.K C)(hn:Bn X.K C f)(hj:fs.findIdx? (· == f)=!j)(G:PE X o<|tM X.K E ca m)(hb:attributeBase o f X.env (eval o X.env)=eval o X.env):PE X (.Attribute o f pos)<|tM X.K E ca<|AU C fs j m:=by
 show PE.weak (Zu G hb) λO H Q h=>?_;let(F,Y,R,S,q):=h;show{F,Y,R,S,?_};unfold AU at q;cases i:m Y with
 |none=>erw[i]at q<;>symm|some r=>
  erw[i]at q;cases r with
  |x c=>show q|v t b=>
   intro n p x B g g1;cases e:Aw C fs t with
   |none=>erw[e]at q<;>symm|some l=>
    erw[e]at q;have I:=iQ e;subst I;cases hu:l[j]? with
    |none=>erw[hu]at q<;>symm|some u=>
     erw[hu]at q;let(J,y):=LO g1;subst y;let(a,xs,rfl,_,(w,A),K,s):=J.obj_inv;have D:=(Ê.mp hu).1;have k:xs[j]?=!xs[j]:=Á<|by lia
     have d:=s j u _ hu k;show{a,_,w,_,xs[j],rfl,g.fh _ _ A,c,hn,gR hj k,?_};show q n p _ R0 g ?_;cases b with
     |false=>show d|true=>
      cases hs:u.sh with
      |true=>show d|false=>show{rfl,R0,λϊ z=>z.elim,d}
structure MetX(P:Program)(w:World)(K:ka)(mg:Str->Option Value)(base:Heap)(C:Addr)(m:Str)(k:Nat)(ps:kq)(sp:Sp) where
 f:Addr
 fd:FuncData
 c:Cls K C
 me:Meth K C m f
 ok:FnOk P w K mg base (Dx P w) k f fd ps sp
 b:Ct K fd ps []
def Qe(C:Addr)(m:Str)(sp:Sp)(E:L2.St->XK)(e:TE)(t:TA):TE:=λO H Q=>e O H λx b=>∃a d fs,x=.ref a/\b a=!(.ins C d fs)/\fs.lookup m=() /\
 t O b λf c=>sp (x::f) c Q<|E O
def pmx(D:MetX X.prog X.w X.K X.mg X.base C f k ps sp)(hr:Room j X.A)(w:Cb X E)(he:PE X o ta)(ha:PA X (e::es) t)(hk:k<=j)
  (c:starEach (e::es) X.env=(false,eval e X.env)::starEach es X.env) (b:(backTo pos<|starEach es X.env).any (·.1)=false)
  (v : eval (.Call (.Attribute o f apos) (e :: es) [] pos) X.env = (do
   let ov <- eval o X.env
   standAt apos.atName
   let (f,first) <- holding [ov] (getMethod ov f pl)
   callWith pos f first (backTo pos<|starEach (e::es) X.env) (backToKw pos<|keywordEach [] X.env))):PE X (.Call (.Attribute o f apos) (e::es) [] pos)<|Qe C f sp E ta t:=by
 intro g s O H Q I h;show W.methodCall_KW (pl:=pl) (A6 (he g s O H _ I h) λu z A=>?_) v;let(x,n,d,y,a,B,fs,ex,p,l,q):=A;subst ex;obtain rfl:u=Value.ref a:=y;show i6 d p D.c D.me l ?_;show Ŕ (first:=[.ref a]) (h₀:=X.base) I.ok.mod.kin D.me.kp (A6 (ha pos g z O n _ d q) λi F ⟨m,H2,I2,r,q2⟩=>{I2.kIn,?_}) c b;show Mu (us:=.ref a::i) (vs:=.ref a::m) (dvs:=[]) D.ok (hr.mono hk) D.b .nil w I2 (.cons rfl r) (by rw[ê];show q2)
def pmx0(D:MetX X.prog X.w X.K X.mg X.base C f k ps sp)(hr:Room j X.A)(e:Cb X E)(he:PE X o ta)(hk:k<=j)
  (d : eval (.Call (.Attribute o f apos) [] [] pos) X.env = (do
   let ov <- eval o X.env
   standAt apos.atName
   let (f,first) <- holding [ov] (getMethod ov f pl)
   callWith pos f first (backTo pos<|starEach [] X.env) (backToKw pos<|keywordEach [] X.env))):PE X (.Call (.Attribute o f apos) [] [] pos)<|Qe C f sp E ta Y2:=by
 intro g s O H Q I h;show W.methodCall_KW (A6 (he g s O H _ I h) λu r m=>?_) d;let(x,n,b,i,a,p,fs,ex,c,l,q):=m;subst ex;obtain rfl:u=Value.ref a:=i;show i6 b c D.c D.me l ?_;show W.callWith_K0 b.kIn D.me.kp<|Mu (vs:=[.ref a]) D.ok (hr.mono hk) D.b .nil e b (.cons rfl .nil) q
def Y4(i:fs.contains f=false)(h:tM X.K E ca (BY C fs g m ms) O H Q):Qe C f (Bz X.K ca g) E (tM X.K E ca m) (CI X.K E ca ms) O H Q:=by
 let(F,Y,R,S,q):=h;show{F,Y,R,S,?_};unfold BY at q;cases L:m Y with
 |none=>erw[L]at q<;>symm|some r=>
  erw[L]at q;cases r with
  |x c=>show q|v t b=>
   intro U H1 x B k g1;cases y:Aw C fs t with
   |none=>erw[y]at q<;>symm|some l=>
    erw[y]at q;have ht:=iQ y;subst ht;let(M,Z):=LO g1;subst Z;have I:=S.ext k;let(a,xs,rfl,_,(W,hF),el,cc):=M.obj_inv;show{a,W,_,rfl,k.fh _ _ hF,zbi i,U,Y,R,I,?_};cases hs:ms Y with
    |none=>erw[hs]at q<;>symm|some r=>
     erw[hs]at q;cases r with
     |x c=>show λD p e=>q D p (k.trans0 e)|v ts u=>
      intro j s vs w rs;have J:=I.ext w;simp only at q;have r2:Rp X.K (Gz u j s R) s (T.obj (.ins C fs) l).share (.ref a) R0:=(M.ext w).share (OI J) λϊ ϊ z=>z.elim
      show{Gz u j s R,_,VZ J,.cons r2 rs,?_};have d:=k.trans0 w;cases K:g ((T.obj (.ins C fs) l).share::ts) with
      |none=>erw[K]at q<;>symm|some r=>
       erw[K]at q;cases r with
       |exc c=>
        erw[LZ]at q;cases A:Gf c with
        |none=>rw[A]at q;show λD p o=>(q j p<|d.grow o.hh).any A|some n=>rw[A]at q;symm
       |ok v=>
        intro V G z P o N;simp only at q;unfold B5 at q;cases u with
        |false=>show q V G z P (d.trans0 o) N|true=>
         cases i:v.flat with
         |false=>rw[i]at q;cases q|true=>rw[i]at q;show q j G z R0 (d.grow o.hh)<|N.flat_any i
theorem zol(D:MetX X.prog X.w X.K X.mg X.base C f k ps<|Bz X.K ca g)(c:fs.contains f=false)(hr:Room j X.A)(i:Cb X E)(he:PE X o<|tM X.K E ca m)(ha:PA X (e::es)<|CI X.K E ca ms)(hk:k<=j)
  (b:starEach (e::es) X.env=(false,eval e X.env)::starEach es X.env) (a:(backTo pos<|starEach es X.env).any (·.1)=false)
  (d : eval (.Call (.Attribute o f apos) (e :: es) [] pos) X.env = (do
   let ov <- eval o X.env
   standAt apos.atName
   let (f,first) <- holding [ov] (getMethod ov f pl)
   callWith pos f first (backTo pos<|starEach (e::es) X.env) (backToKw pos<|keywordEach [] X.env))):PE X (.Call (.Attribute o f apos) (e::es) [] pos)<|tM X.K E ca<|BY C fs g m ms:=
 PE.weak (pmx D hr i he ha hk b a d) λO H Q h=>Y4 c h
structure NewX(P:Program)(w:World)(K:ka)(mg:Str->Option Value)(base:Heap)(x:Str)(C:Addr)(k:Nat)(ps:kq)(sp:Sp) where
 f:Addr
 fd:FuncData
 m:mg x=!(.ref C)
 ma:Mk K C f
 ok:FnOk P w K mg base (Dx P w) k f fd ps sp
def znn(C:Addr)(sp:Sp)(dvs:qC)(E:L2.St->XK)(t:TA):TE:=λO H Q=>t O H λd b=>∀x a,b x=()->b a=()->a≠x ->
 sp (.ref x::(d++dvs)) (upd (upd b a<|.own x) x<|.ins C a []) (λv c=>v=.non/\Q (.ref x) c) (E O)
def pnx{x:Str}{t:TA}(D:NewX X.prog X.w X.K X.mg X.base x C k ps sp)(hb:Ct X.K D.fd ps ds)(hd:Ar dvs ds)(hr:Room j X.A)(z:Cb X E)(ha:PA X (e::es) t)(hk:k+1<=j)(y:Gl X x)(f:(x == ("__debug__":Str))=false)
  (he:starEach (e::es) X.env=(false,eval e X.env)::starEach es X.env) (g:(backTo pos<|starEach es X.env).any (·.1)=false):PE X (.Call (.Name x p) (e::es) [] pos)<|znn C sp dvs E t:=by
 intro l s O H Q I h;show Ĭ<|Je I y D.m ?_ f;show Ŕ I.ok.mod.kin D.ma.kp (A6 (ha pos l s O H _ I h) λc b ⟨G,H1,I1,r,q⟩=>{I1.kIn,?_}) he g
 have i:=q (b.heap.objs.size+1) b.heap.objs.size (I1.hok.fresh<|ğ _) (I1.hok.fresh<|Ã _)<|Ô<|ę _;have d:=Inv.made (C:=C) I1;have m:Ar (V.ref (b.heap.objs.size+1)::(G++dvs))<|Value.ref (b.heap.objs.size+1)::(c++ds):=.cons rfl<|r.append hd
 have hl :=by
  have e:=m.length;rw[D.ok.len _ _ _ _ i]at e;show e.symm
 show ņ (zjg I1.kIn D.ma.makes D.ma.init (beq_iff_eq.mp D.ma.fn) (ġ (D.ok.run _ X.stack _ _ {Value.ref (b.heap.objs.size+1)::c,[]} (Value.ref (b.heap.objs.size+1)::(c++ds)) _ _ (E O) ((hr.mono hk).make C c [])
  (d.env0.make C c []) (hb _ (Value.ref (b.heap.objs.size+1)::c) d.kIn hl) m i) λr F a=>?_))
 cases r with
 |error v=>show z l O _ _ v F d a|ok fl=>
  cases fl with
  |ret u=>let(v,n,o,B,w,A):=d.after a;subst w;show{B,{V.ref<|b.heap.objs.size+1,n,o,rfl,A}}
  |next=>show False.elim a|brk=>show False.elim a|cont=>show False.elim a
def Ka(K:ka)(ca:Str->Value)(C:Addr)(g:qD->Option Ru):Sp:=λi H Q E=>∃F p h f e,Ah F H/\i=.ref p::e/\F p=()/\H p=!(.ins C h [])/\As K F f e/\match g f with
 |some (.ok t)=>∀d b,Stp F H (λa=>a=p) d b R0->Rp K d b t (.ref p) R0->Q .non b|some (.exc c)=>∀d b,Stp F H (λa=>a=p) d b R0->XE E ca c d b|none=>False
def Hb(g:qD->Option Ru)(ds:qD)(ms:BM):AH:=λY=>match ms Y with
 |some (.v a false)=>(match g (a++ds) with
  |some (.ok t)=>!(.v t false)|some (.exc c)=>!(.x c)|none=>())
 |some (.v z true)=>none|some (.x c)=>!(.x c)|none=>()
def r_new{k j:Nat}{x:Str}(D:NewX X.prog X.w X.K X.mg X.base x C k ps<|Ka X.K ca C g)(hb:Ct X.K D.fd ps ds)(hd:Ar dvs ds)(J:∀F:Hp,As X.K F dts dvs)(hr:Room j X.A)(T:Cb X E)(ha:PA X (e::es)<|CI X.K E ca ms)(hk:k+1<=j)(A:Gl X x)(I:(x == ("__debug__":Str))=false)
  (he:starEach (e::es) X.env=(false,eval e X.env)::starEach es X.env) (K:(backTo pos<|starEach es X.env).any (·.1)=false):PE X (.Call (.Name x p) (e::es) [] pos)<|tM X.K E ca<|Hb g dts ms:=by
 show PE.weak (pnx D hb hd hr T ha hk A I he K) λO H Q h=>?_;let(F,Y,R,S,q):=h;show{F,Y,R,S,?_};unfold Hb at q;cases hs:ms Y with
 |none=>erw[hs]at q<;>symm|some r=>
  erw[hs]at q;cases r with
  |x c=>show q|v N b=>
   cases b with
   |true=>show λm B xs s rs=>q.elim|false=>
    intro m B xs s rs a l ha i P;simp only at q;have L :=rs
    have o:∀d f,Stp m (upd (upd B l<|.own a) a<|.ins C l []) (λb=>b=a) d f R0->Ext F H d f R0:=λd f st=>by
     show s.trans0 {λb u z=>?_,st.ff,st.fh,λϊ z=>z.elim,λb u z=>?_};have n :=DP z ha;have y :=DP z i;show st.kp b u n (by rw[BF n,BF y];show z)
     rcases st.nf b u z with w|w|w;show .inl w;rw[w];show .inr ha;by_cases n:b=a;rw[n];show .inr ha;by_cases y:b=l;rw[y];show .inr i;rw[BF n,BF y]at w;show .inr w
    have G:Ah m<|upd (upd B l<|.own a) a<|.ins C l []:=λb u z=>by
     have M:=s.fh b u z;rw[BF<|DP M ha,BF<|DP M i];show M
    show{m,a,l,N++dts,xs++dvs,G,rfl,HZ s.fh ha,CT,Mw L<|J m,?_};cases A:g (N++dts) with
    |none=>erw[A]at q<;>symm|some r=>
     erw[A]at q;cases r with
     |exc c=>show λd f st=>q d f (o d f st)|ok t=>show λd f st r=>{rfl,q d f _ R0 (o d f st) r}
end
def Gg(Y:AL)(i:Nat)(C:Addr)(fs:kq):Option<|Addr×qD:=match Y[i]? with
 |some (!(.oob p b a l))=>if b=C/\a=fs then ↑(p,l) else ()
 |z=>()
nonrec def TX(h:Gg Y i C fs=!(p,l)):Y[i]?=!(!(.oob p C fs l)):=by
 unfold Gg at h;split at h;rename_i q;split at h;rename_i a;cases h;rw[q,a.1,a.2];cases h;cases h
def C0(C:Addr)(fs:kq)(j i:Nat)(m:AH):AG:=λY=>match m Y with
 |some (.v t false)=>(match Gg Y i C fs with
  |some (p,l)=>if l.length=j then ↑(.nx<|Y.set i<|!(.oob p C fs<|l++[t])) else ()
  |none=>())
 |some (.v z true)=>none|some (.x c)=>!(.xc c Y)|none=>()
def FD:q9->Option (kq×qD)
 |some (.osd a l)=>!(a,l)|z=>()
def aC(h:FD o=!(ks,l)):o=!(.osd ks l):=by
 unfold FD at h;grind
open Classical in
def IV(C:Addr)(fs:kq)(j i:Nat)(mk m:AH):AG:=λY=>match m Y with
 |some (.v t false)=>(match Gg Y i C fs with
  |some (p,l)=>(match FD l[j]? with
   |some (a,lv)=>(match mk Y with
    |some (.v (.str k) z)=>if k∉a/\a.length<100000 then ↑(.nx<|Y.set i<|!(.oob p C fs<|l.set j<|.osd (a++[k])<|lv++[t.share])) else ()
    |some (.v z y)=>none|some (.x c)=>!(.xc c Y)|none=>())
   |none=>())
  |none=>())
 |some (.v z true)=>none|some (.x c)=>!(.xc c Y)|none=>()
def GL:AH:=λϊ=>!(.v (.osd [] []) false)
def Zk{y:V}:∀{fs:kq} {xs:qC},fs[xs.length]?=!f->(fs.take xs.length).contains f=false->Dz f y (fs.zip xs)=fs.zip (xs++[y])
 |[],xs,h,z=>by simp at h|g::r,[],h,z=>by
  simp at h;subst h;simp[Dz]
 |g::r,x::xs,h,hn=>by
  rw[ï,List.take_succ_cons,Ε,č]at hn
  let a:¬ g=f:=λz=>by
   grind
  let b:=Zk (y:=y) (by simpa using h) hn.2;rw[Ŗ,ŏ,Ŗ];show(show (if g=f then _ else _)=_ from ?_)
  grind
section
variable {K:ka}{F H:Hp}{C:Addr}{fs:kq}{l:qD}
def Rp.oob_inv(h:Rp K F H (.oob p C fs l) x A):∃dx xs Rr,x=.ref p/\A=(λa=>a=p\/∃j,Rr j a)/\F p=()/\H p=!(.ins C dx<|fs.zip xs)/\RpO K F H l xs Rr/\∀j,¬ Rr j p:=by
 cases h with
 |oob R f h e c d dp o=>show{_,_,R,rfl,rfl,f,h,{(e),c,d,o},dp}
theorem aF(r:RpO K F H l xs Rr)(f:F p=())(h:H p=!(.ins C dx<|fs.zip xs))(dp:∀j,¬ Rr j p):Rp K F H (.oob p C fs l) (.ref p) (λa=>a=p\/∃j,Rr j a):=.oob Rr f h r.len r.rep r.dis dp r.out
def Rp.osd_inv(h:Rp K F H (.osd ks l) x A):∃p xs Rs,x=.ref p/\A=(λa=>a=p\/∃j,Rs j a)/\F p=()/\H p=!(.dK<|Be ks xs)/\RpO K F H l xs Rs/\ks.length=xs.length/\∀j,¬ Rs j p:=by
 cases h with
 |osd R f h e b c d dp o=>show{_,_,R,rfl,rfl,f,h,{(e),c,d,o},b,dp}
theorem TV(r:RpO K F H l xs Rr)(b:ks.length=xs.length)(f:F p=())(h:H p=!(.dK<|Be ks xs))(dp:∀j,¬ Rr j p):Rp K F H (.osd ks l) (.ref p) (λa=>a=p\/∃j,Rr j a):=.osd Rr f h r.len b r.rep r.dis dp r.out
theorem aB(r:RpO K F H l xs Rr)(e:ks.length=xs.length)(f:F p=())(dp:∀j,¬ Rr j p)(rt:Rp K F H t y B)(d:∀j a,Rr j a->¬ B a)(c:¬ B p):Rp K F (upd H p<|.dK<|Be (ks++[k])<|xs++[y]) (.osd (ks++[k])<|l++[t]) (.ref p) (λa=>a=p\/∃j,(if j=l.length then B else Rr j) a):=
 TV ((r.upd dp).snoc (rt.upd c) d) (by simp[e]) f CT λj z=>by
  by_cases b:j=l.length;erw[b,Æ]at z;show c z;erw[b,Å]at z;show dp j z
end
def Nv(h:ks.length=xs.length):(Be ks xs).length=xs.length:=by
 unfold Be;rw[ſ,h,Nat.min_self]
def zmo(h:kv∈Be ks xs):∃k∈ks,kv.1=Sum.inr k:=by
 induction ks generalizing xs with
 |nil=>cases xs<;>cases h|cons a r c=>
  cases xs with
  |nil=>cases h|cons b s=>
   unfold Be at h;rw[List.zipWith_cons_cons]at h;rcases Ð.mp h with e|e;show{a,Î ..,by rw[e]};let(k,hk,e):=c (xs:=s) e;show{k,Ë _ hk,e}
def Zj(h:ks.length=xs.length)(hk:k∉ks):EH (Be ks xs) (Sum.inr k) y=Be (ks++[k]) (xs++[y]):=by
 unfold EH;rw[if_neg];unfold Be;rw[List.zipWith_append h];rfl;intro c;let(g,a,b):=Ě.mp c;let(f,d,e):=zmo a
 grind
section
variable {X:Cx}{E:L2.St->XK}{ca:Str->Value}{m mk:AH}{e k:Expr}{pos p1 pos2 pos3:Pos}{mu:Bool}{i j:Nat}{x f:Str}{C:Addr}{fs:kq}
theorem Za:PE X (.Dict [] [] pos)<|tM X.K E ca GL:=PE.weak zlv λO H Q h p a=>by
 let(F,Y,R,S,q):=h;show q F (upd H p<|.dK []) (.ref p) _ (Ext.newO S.fh a) (Rp.osd0 (xs:=[]) (HZ S.fh a) CT rfl rfl λi t x h=>by simp at h)
def zo8(c:Cls X.K C)(hn:Bn X.K C f)(hj:fs[j]?=!f)(G:(fs.take j).contains f=false)(hjl:j<900)(hN:X.N[i]?=!x)(hv:EW X.env.scope x)(hd:(x == "__debug__")=false)(A:(x == "__classdict__")=false)(he:PE X e<|tM X.K E ca m)
  (hs:swapsWith e (!(.Attribute (.Name x p1) f pos2)) pos.line X.env=pure false):PS X (.Assign [.Attribute (.Name x p1) f pos2] e pos)<|tS X.K E ca mu<|C0 C fs j i m:=by
 show PS.weak (zp2 (Ge hN hv hd A) he hs) λD O H h=>?_;let(F,Y,R,S,q):=h;show{F,Y,R,S,?_};unfold C0 at q;cases W:m Y with
 |none=>erw[W]at q<;>symm|some r=>
  erw[W]at q;cases r with
  |x c=>show λF' H' e=>q F' H' O R e.stp0 (S.ext e)|v t bb=>
   cases bb with
   |true=>show λd k y B b g1=>q.elim|false=>
    intro d k y B b g1;let s:Rp X.K d k t y B:=g1;simp only at q;cases I:Gg Y i C fs with
    |none=>erw[I]at q<;>symm|some pl=>
     let(p,l):=pl;erw[I]at q;by_cases hl:l.length=j;rw[if_pos hl]at q;let S1:=S.ext b;let Z:=TX I;let(y2,V,ry):=S.rep i _ Z;let(U,xs,Rr,rfl,u,fp,J,L,dp):=ry.oob_inv;let g:xs.length=j:=by rw[<- L.len];show hl
     let K:=b.hh _ _ J;let pB:¬ B p:=λz=>by rw[b.nb p z]at J;cases J
     let o:d p=():=(ry.ext b |>.dom (by rw[u];show .inl rfl)).1;show{_,V,p,C,U,fs.zip xs,rfl,K,c,hn,?_,?_};rw[List.length_zip];lia;rw[Zk (by rw[g];show hj) (by rw[g];show G)];let M:=L.ext b;let N:RpO X.K d (upd k p<|.ins C U<|fs.zip<|xs++[y]) (l++[t]) (xs++[y]) _:=(M.upd dp).snoc (s.upd pB) λj a Q T=>L.apart b T j Q
     let n:∀j,¬ (if j=l.length then B else Rr j) p:=λj z=>by
      by_cases hj:j=l.length;erw[hj,Æ]at z;show pB z;erw[hj,Å]at z;show dp j z
     let r2:=aF (C:=C) (fs:=fs) N o CT n
     let(S3,P):=S1.upd Z V (by rw[u];show .inl rfl) r2 (B:=B) (λa z=>by
      rw[u];rcases z with z|z;show .inl<|.inl z
      rcases Qn z with w|w;show .inl<|.inr w
      show .inr w)<|λj a Q T=>S.apart b T j Q
     show q d _ O _ (b.stp.trans P) S3;rw[if_neg hl]at q;symm
def rSetS:XY:=λo i v H Q=>∃p a k,o=.ref p/\i=.str k/\H p=!(.dK a)/\a.length<sizeLine/\Q (upd H p<|.dK<|EH a (Sum.inr k) v)
def Yo(hu:X.A.units+1<cLine):X9 X rSetS:=by
 intro l s O H o i v j g u Q I e d f h;let(p,c,k,rfl,rfl,b,hl,q):=h;cases e;show zhf hu I (Px.k (k:=Sum.inr k) b hl) (d) f λm a=>{_,a,q}
def Hm{K}(g:EY K F H R (.str z) b y B):y=.str z:=by
 cases b with
 |true=>let(_,A,_,r):=g;show r.str_inv
 |false=>show(g).str_inv
def s_dpf(hu:X.A.units+1<cLine)(c:Cls X.K C)(hn:Bn X.K C f)(hj:fs.findIdx? (· == f)=!j)(hN:X.N[i]?=!x)(hv:EW X.env.scope x)(hd:(x == ("__debug__":Str))=false)(hcd:(x == "__classdict__")=false)(he:PE X e<|tM X.K E ca m)(hk:PE X k<|tM X.K E ca mk)
  (hs:swapsWithSole [.Subscript (.Attribute (.Name x p1) f pos3) k pos2] e pos.line X.env=pure false) (hw:swappedStores [.Subscript (.Attribute (.Name x p1) f pos3) k pos2] e X.env=pure ())
  (ha : ∀ v, assign (.Subscript (.Attribute (.Name x p1) f pos3) k pos2) X.env v = (do
   let ov <- holding [v]<|eval (.Attribute (.Name x p1) f pos3) X.env;let iv <- holding [v,ov] (eval k X.env)
   standAt pos2
   holding [v,ov,iv] (setItem ov iv v)
   release [v,ov,iv] [])) :
  PS X (.Assign [.Subscript (.Attribute (.Name x p1) f pos3) k pos2] e pos) (tS X.K E ca mu<|IV C fs j i mk m):=by
 show PS.weak (Kk he (ND (Zu (Ge hN hv hd hcd) rfl) hk (Yo hu) ha) hs hw rfl) λD O H h=>?_;let(F,Y,R,S,q):=h;show{F,Y,R,S,?_};unfold IV at q;cases hm:m Y with
 |none=>erw[hm]at q<;>symm|some r=>
  erw[hm]at q;cases r with
  |x c=>show λL s e=>q L s O R e.stp0 (S.ext e)|v t bb=>
   cases bb with
   |true=>show λM W y B P g1=>q.elim|false=>
    intro F0 W y B e0 g0;simp only at q;let(M,P,_,g1):=EY.frz S e0 g0;let g1':Rp X.K M W t.share y R0:=(g1).any;cases ho:Gg Y i C fs with
    |none=>erw[ho]at q<;>symm|some pl=>
     let(p,l):=pl;erw[ho]at q;cases g:FD l[j]? with
     |none=>erw[g]at q<;>symm|some kl=>
      let(K,lv):=kl;erw[g]at q;let I:=aC g;let N:=S.ext P;let ht:=TX ho;let(y2,ey,ry):=N.rep i _ ht;let(dx,xs,Rr,rfl,hA,fp,hp,ro,dp):=ry.oob_inv;let A:=(Ê.mp I).1;let hjx:j<xs.length:=by rw[<- ro.len];show A
      let hx :=Á hjx;show{_,ey,p,C,dx,_,xs[j],rfl,hp,c,hn,gR hj hx,M,Y,R,N,?_};cases G:mk Y with
      |none=>erw[G]at q<;>symm|some r=>
       erw[G]at q;cases r with
       |x c=>show λL s e=>q L s O R ((P.stp0).trans e.stp0) (N.ext e)|v tk bk=>
        cases tk with
        |str J=>
         simp only at q;by_cases U:J∉K/\K.length<100000;rw[if_pos U]at q;intro V Z z CC d g2;let hz:=Hm g2;subst hz;let e2':Ext M W V Z R0:=d.mono λϊ z=>z.elim
         let S2:=N.ext d;let ry2:=ry.ext d;let b:=ro.ext d;let fp2 :=(ry2.dom (by rw[hA];show .inl rfl)).1
         let hp2:=d.hh _ _ hp;let rk:=b.rep j _ _ I hx;let(o,ys,Rs,u,w,fpd,hpd,rs,Q,ds):=rk.osd_inv;let g2' :=g1'.ext d;let n:Rr j o:=by rw[w];show .inl rfl
         let pne:o≠p:=λz=>dp j<|z▸n
         show{o,Be K ys,J,u,rfl,hpd,?_,?_};rw[Nv Q,<- Q,Ą];show Ğ U.2<|by decide
         rw[Zj Q U.1];let r3:=aB (k:=J) rs Q fpd ds (g2'.any (H':=Z)) (λϊ D D z=>z.elim)<|λz=>z.elim
         let hE:(λa=>a=o\/∃j,(if j=lv.length then R0 else Rs j) a)=Rr j:=by
          rw[w];funext a;apply propext;constructor;rintro(z|⟨j,z⟩);show .inl z;split at z;show z.elim;show .inr {(j),z};rintro(z|⟨j,z⟩);show .inl z;show .inr {j,by rw[if_neg<|Ô<|rs.out j a z];show z}
         rw[hE]at r3;let oth :=λk hk z=>b.dis k j o hk z n
         let ro3:RpO X.K V (upd Z o<|.dK<|Be (K++[J])<|ys++[y]) (l.set j<|.osd (K++[J])<|lv++[t.share]) xs Rr:=by
          show{by rw[Đ];show b.len,λk t' x' T h2=>?_,b.dis,λk a z=>by rw[Đ];show b.out k a z};by_cases hk:k=j;subst hk;rw[é A]at T;rw[hx]at h2;cases T;cases h2;rw[u];show r3;rw[å<|Í hk]at T;show(b.rep k t' x' T h2).upd (oth k hk)
         let r4:=aF ro3 fp2 (by rw[BF<|Í pne];show hp2) dp;let(S3,st3):=S2.upd ht ey (by rw[hA];show .inr {(j),n}) r4 (λa z=>.inl (by rw[hA];show z))<|λj a z1 z2=>z2
         show q V _ O _ ((P.stp.trans d.stp0).trans st3) S3;rw[if_neg U]at q;symm
        |_=>show λL s z CC d g2=>q.elim
end
section
variable {X:Cx}{E:L2.St->XK}{ca:Str->Value}{ma mb mc:AH}{a b c:Expr}{pos:Pos}{x:Str}{t:T}
theorem r_con(a:Gl X x)(b:X.mg x=!u)(c:Ab v u)(hd:(x == "__debug__")=false)(r:∀F ,Rp X.K F F t v R0):PE X (.Name x pos)<|tM X.K E ca<|mC t:=
 PE.weak (Zt a b c hd) λO H Q h=>by
  let(F,Y,R,S,q):=h;show q F H v R0 (Ext.refl S.fh) (r F).any
def Gp(g g':T->T->q9)(ma a mc:AH):AH:=λY=>match ma Y,a Y with
 |some (.v t z),!(.v u y)=>if t.flat && u.flat then (match g t u with
  |some (.bl true)=>(match mc Y with
   |some (.v w z)=>if w.flat then (match g' u w with
    |some (.bl k)=>!(.v (.bl k) false)|z=>()) else ()
   |z=>())
  |some (.bl false)=>!(.v (.bl false) false)|z=>()) else ()
 |z,y=>()
def Jm{K}{b}{x}(g:EY K F H R v b x B)(h:v.flat=true):Rp K F' H' v x R0:=by
 cases b with
 |true=>let(_,A,_,r):=g;show r.flat_any h
 |false=>show(g).flat_any h
def Y8(h:tM X.K E ca (Gp g g' ma mb mc) O H Q):Qh (CA X.K g) (CA X.K g') (tM X.K E ca ma) (tM X.K E ca mb) (tM X.K E ca mc) O H Q:=by
 let(F,Y,R,S,q):=h;show{F,Y,R,S,?_};unfold Gp at q;cases f:ma Y with
 |none=>erw[f]at q<;>symm|some V=>
  cases V with
  |x c=>erw[f]at q<;>symm|v t b1=>
   cases l:mb Y with
   |none=>erw[f,l]at q<;>symm|some W=>
    cases W with
    |x c=>erw[f,l]at q<;>symm|v u b2=>
     erw[f,l]at q;by_cases b:(t.flat && u.flat)=true;rw[if_pos b]at q;rw[È]at b;intro J H1 x B1 C g1;have A:=S.ext C;show{J,Y,R,A,?_};rw[l];intro m M y B2 D g2;have o:=A.ext D;have e:Ext F H m M R0:=(C.trans D).mono λϊ z=>z.elim
     cases d:g t u with
     |none=>erw[d]at q<;>symm|some k=>
      cases k with
      |bl k=>
       cases k with
       |false=>
        erw[d]at q;show{m,t,u,_,o.fh,Jm g1 b.1,Jm g2 b.2,d,λn s z I j i=>{false,i.bl_inv,?_}};rw[if_neg ć];show q n s _ R0 (e.trans0<|j.mono λϊ z=>z.elim)<|.bl false
       |true=>
        erw[d]at q;show{m,t,u,_,o.fh,Jm g1 b.1,Jm g2 b.2,d,λn s z I j i=>{true,i.bl_inv,?_}};rw[if_pos rfl];have B:=o.ext j;show{n,Y,R,B,?_};cases p:mc Y with
        |none=>erw[p]at q<;>symm|some i=>
         cases i with
         |x c=>erw[p]at q<;>symm|v w b3=>
          erw[p]at q;by_cases r:w.flat=true;rw[if_pos r]at q;intro K H4 z4 B4 G U;have P:=B.ext G;cases a:g' u w with
          |none=>erw[a]at q<;>symm|some k=>
           cases k with
           |bl k=>
            erw[a]at q;show{K,u,w,_,P.fh,Jm g2 b.2,Jm U r,a,λL N z5 C5 T Z=>?_};rw[Z.bl_inv];show q L N _ R0 (e.trans0<|((j.trans G).trans T).mono λϊ z=>z.elim)<|.bl k
           |_=>erw[a]at q<;>symm
          rw[if_neg r]at q;symm
      |_=>erw[d]at q<;>symm
     rw[if_neg b]at q;symm
theorem r_chn(i:Ay X (compareOp op)<|CA X.K g)(d:Ay X (compareOp op')<|CA X.K g')(ha:PE X a<|tM X.K E ca ma)(hb:PE X b<|tM X.K E ca mb)(e:PE X c<|tM X.K E ca mc)(f:lastMarks [op,op'] [b,c]=false) :
  PE X (.Compare a [op,op'] [b,c] pos) (tM X.K E ca<|Gp g g' ma mb mc):=PE.weak (zj4 i d ha hb e f) λO H Q h=>Y8 h
theorem zok(i:Ay X (compareOp op)<|CA X.K g)(d:Ay X (compareOp op')<|CA X.K g')(ha:PE X a<|tM X.K E ca ma)(hb:PE X b<|tM X.K E ca mb)(e:PE X c<|tM X.K E ca mc)(f:lastMarks [op,op'] [b,c]=false) :
  PT X (.Compare a [op,op'] [b,c] pos) (B7 X.K E ca<|Gp g g' ma mb mc):=PT.weak (ziw i d ha hb e f) λO H Q h=>Y8<|M9 h
end
def Pr(x:Str):It:={λi z=>i<x.cps.size,λi H y a=>a=H/\∃c,x.cps[i]?=!c/\y=.str {#[c]},λi z=>x.cps.size<=i}
def zif{K}(x)(t)(it):Turn P w K tg (Pr x) [it] it (λi h=>h.IsStrIter it (strIterType x) x t i) where
 mem:=by simp
 obj:=λi h st b hb=>by
  let e :=by simpa using hb
  subst e;let(o,e,c,d):=st;show{o,e,λv z=>by rw[d]at z;cases z}
 keep:=λi h a st k=>by
  let(o,e,c,d):=st;show{o,k it (by simp) o e,c,d}
 item:=by
  intro X p A m q i B s O H E I j st r;subst p A m;let f :=r;let(f0,f1,f2,f3,f4,f5):=j it<|by simp
  let B5:∀(a ),a.IsStrIter it (strIterType x) x t (i+1)->Heap.SameBut it s.heap a->∃u,↑(Value.str {#[x.cps[i]]} s.toks)=!u /\
   wpAny (model X.prog X.w) X.A (letOwnedTupleGo tg (.ref it) u) (λϊ C=>∃y l,Inv X B O l C/\Ab y u/\(Pr x).yld i H y l/\C.heap.IsStrIter it (strIterType x) x t (i+1)/\∀b∈[it],l b=()) E { s with heap:=a,toks:=s.toks+1 }:=λa g sb=>by
   let D :=I.turned (t':=s.toks+1) (λb o hb e=>(sb.2 b hb).trans e) f0 f1 f3 f4 f5;let(o,e,c,d):=id g;show{_,rfl,LP e c d ?_ {.str {#[x.cps[i]]},H,D,{_,rfl},{rfl,_,Ĳ f,rfl},g,λb hb=>(j b hb).1}};unfold strIterType;split<;>decide
  cases ha:(x.cps.all λx=>decide (x<128)) with
  |true=>
   let e:strIterType x="str_ascii_iterator":=by unfold strIterType;rw[ha];rfl
   rw[e]at st B5 ⊢;show wpAny_pyNext_ascii_item st (Ĳ f) B5
  |false=>
   let e:strIterType x="str_iterator":=by unfold strIterType;rw[ha];rfl
   rw[e]at st B5 ⊢;show wpAny_pyNext_wide_item st (Ĳ f) B5
 done:=by
  intro X p A m q i B s O H E I j st r;subst p A m;let f :=r;let(f0,f1,f2,f3,f4,f5):=j it<|by simp
  let n :=Array.getElem?_eq_none f;cases ha:(x.cps.all λx=>decide (x<128)) with
  |true=>
   let e:strIterType x="str_ascii_iterator":=by unfold strIterType;rw[ha];rfl
   rw[e]at st;show wpAny_pyNext_ascii_end (I.ok.hd q) st n λa eb=>{rfl,I.turned (λb o hb e=>eb b o hb e) f0 f1 f3 f4 f5}
  |false=>
   let e:strIterType x="str_iterator":=by unfold strIterType;rw[ha];rfl
   rw[e]at st;show wpAny_pyNext_wide_end (I.ok.hd q) st n λa eb=>{rfl,I.turned (λb o hb e=>eb b o hb e) f0 f1 f3 f4 f5}
 self:=λϊ i s Q E st h=>by
  cases ha:(x.cps.all λx=>decide (x<128)) with
  |true=>
   let e:strIterType x="str_ascii_iterator":=by unfold strIterType;rw[ha];rfl
   rw[e]at st;show wpAny_pyIter_striter_ascii st h
  |false=>
   let e:strIterType x="str_iterator":=by unfold strIterType;rw[ha];rfl
   rw[e]at st;show wpAny_pyIter_striter_wide st h
def iStrT(b:TE):TI:=λO H P=>b O H λx a=>∃y,x=.str y/\P (Pr y) a
section
variable {X:Cx}{tg l e:Expr}{tl:TE}{E:L2.St->XK}{ca:Str->Value}{m:AH}
def zp9(hl:PE X l tl):PI X tg l<|iStrT tl:=by
 intro f s O H R I h;show A6 (hl f s O H _ I h) λv c j=>?_;let(x,d,a,i,g):=j;let(y,rfl,q):=g;let(t,rfl):=(i);show wpAny_pyIter_strU ?_;show{c.heap.objs.size,[c.heap.objs.size],_,_,d,rfl,a.kept λb o e=>Ó _ e,zif y t _,{_,á _ rfl,rfl,rfl},λb hb=>?_,q}
 let e :=by simpa using hb
 subst e;show a.fpOk (Ã _)<|a.hok.fresh<|Ã _
def HN(x:Str):qD:=x.cps.toList.map λc=>.str {#[c]}
def zmr{K}:Ft K (Pr x) F<|HN x:=by
 intro i d k m j;show{λt b=>?_,λe=>?_};unfold HN at b;rw[É]at b;let(c,a,rfl):=Ø.mp b;let h:i<x.cps.size:=by simpa using (Ê.mp a).1
 show{h,λy f z=>?_};let(rfl,l,g,rfl):=z;rw[Array.getElem?_toList,g]at a;cases a;show{d,Ext.refl j,.str _};show(?_:x.cps.size<=i);rw[e];simp[HN]
def Aj(m:AH):BM:=λY=>match m Y with
 |some (.v (.str x) z)=>!(.v (HN x) false)|z=>Ig m Y
def zom(ha:PE X e<|tM X.K E ca m):PI X tg e<|tI X.K E ca<|Aj m:=by
 show PI.weak (PI.or (Z8 ha)<|zp9 ha) λO H P h=>?_;let(F,Y,R,S,q):=h;by_cases hs:∃x b,m Y=!(.v (.str x) b);let(x,b,a):=hs;let e:Aj m Y=!(.v (HN x) false):=by unfold Aj;rw[a]
 rw[e]at q;show .inr {F,Y,R,S,?_};rw[a];intro c d y B f g1;show{x,Hm g1,q c d _ (f.mono λϊ z=>z.elim) zmr}
 let e:Aj m Y=Ig m Y:=by
  unfold Aj;grind
 rw[e]at q;show .inl {(F),Y,R,S,q}
end
open Classical in
def met(val:Nat->Key):Nat->List Key
 |0=>[]|i+1=>if val i∈met val i then met val i else met val i++[val i]
open Classical in
def f6(val:Nat->Key):∀i,(met val i).length<=i
 |0=>Ã 0|i+1=>by
  let:=f6 val i;unfold met;split;lia;rw[ß,Ę];lia
section
variable {prog:Program}{w:World}{A:Around}{E:Value->Shared->Prop}
open Classical in
def gQ{knd:PySem.KeyKind prog w Key}{R:Result->Shared->Prop}{I:Addr}{fp H:List Addr}{G:Array GenState->Array GenState->Prop}{n:Nat}{P:Nat->Value->Prop}{St:Nat->Shared->Prop}(W:WalksS prog w A.in1 I fp H G n P St)(S:Addr)(g:S∉fp)(val:Nat->Key)
  (K:∀i v,P i v->knd.is (val i) v=true/\v.scannable=true) (hn:n+1<scanBound):∀(k i:Nat) (s:Shared),n - i=k->i<=n->St i s->Heap.SetOf knd s.heap S (λk'=>decide (k'∈met val i)) (met val i).length ->
   (∀s':Shared,Moved (S::H) G s s'->Heap.SetOf knd s'.heap S (λk'=>decide (k'∈met val n)) (met val n).length->R (Except.ok<|Flow.ret Value.none) s') ->
   codeAny (model prog w) A (Code.builtin "set.update.loop" { pos:=[Value.ref S,Value.ref I] }) R s
 |0,i,s,hk,V,st,a,h=>by
  let e:i=n:=by lia
  subst e;show codeAny_builtin F.entry_set_update_loop ?_;rw[Around.under_plainId ű];unfold Builtin.«set.update.loop»;show Â<|W.done s _ _ st λs' mv=>?_
  show Ï ?_;show h s' (mv.mono λb hb=>Ë _ hb) ?_;let(o,l,j,t,m,p):=a;show{o,l,j,t,mv.heap S o (λz=>g<|W.sub S z) m,p}
 |k+1,i,s,hk,V,st,a,h=>by
  let r:i<n:=by lia
  show codeAny_builtin F.entry_set_update_loop ?_;rw[Around.under_plainId ű];unfold Builtin.«set.update.loop»;show Â<|W.item i s _ _ r st λv s' X D mv=>?_
  let(q,u):=K i v X
  let d:Heap.SetOf knd s'.heap S (λk'=>decide (k'∈met val i)) (met val i).length:=by
   let(o,l,j,t,m,p):=a;show{o,l,j,t,mv.heap S o (λz=>g<|W.sub S z) m,p}
  show Â<|ĉ ?_;unfold setAdd;show ĉ<|Â<|knd.pyHash q ?_;let hl:=f6 val i;show wpAny_setAddHashed_of (s:={ s' with toks:=s'.toks+1 }) q u d (by lia) λJ sb f=>?_
  show Ï {plainId_quiet ű _,?_};let E:=W.frame (i+1) s' J (s'.toks+1) D (ğ _) λb hb o e=>(sb.2 b<|λz=>g<|z▸hb).trans e
  let y:Moved (S::H) G s { s' with heap:=J,toks:=s'.toks+1 }:=(mv.mono λb hb=>Ë _ hb).then_heap (ğ _) λb o hb e=>(sb.2 b<|λz=>hb (by rw[z];show Î ..)).trans e;show gQ W S g val K hn k (i+1) _ (by lia) (by lia) E ?_ λC B x=>h C (y.trans W.gtrans B) x
  let g:(λk'=>(decide (k'∈met val i) || decide (k'=val i)))=λk'=>decide (k'∈met val (i+1)):=funext λk'=>by
   conv=>rhs;unfold met
   by_cases c:val i∈met val i;rw[if_pos c];by_cases e:k'=val i;rw[e,Ä c];rfl;rw[Õ e,Bool.or_false];rw[if_neg c,Bool.eq_iff_iff];erw[Ē,ü,Ú,Ì]
  let U:(if decide (val i∈met val i)=true then (met val i).length else (met val i).length+1)=(met val<|i+1).length:=by
   conv=>rhs;unfold met
   by_cases c:val i∈met val i;rw[if_pos c,if_pos<|Ä c];rw[if_neg c,if_neg<|λz=>c<|Ü z,ß,Ę]
  let(o,l,j,t,m,p,L,M,N,O,Q,T):=f;show{o,l,j,t,m,p,L,M,λk'=>?_,O,Q,T.trans U};rw[<- N k'];let e:=congrFun g k';show(show decide (k'∈met val (i+1))=true ↔ _ from ?_);rw[<- e]
end
open Classical in
def zcw{prog:Program}{w:World}{A:Around}{E:Value->Shared->Prop}{s:Shared}{l:Addr}{items:Array Value}{knd:PySem.KeyKind prog w Key}{val:Nat->Key}{Q:Value->Shared->Prop}(hh:A.handled=())(hl:s.heap.IsList l items)
  (hP:∀(i:Nat) (v:Value),items[i]?=!v->knd.is (val i) v=true/\v.scannable=true) (hb:items.size+1<scanBound)
  (h:∀(h':Heap) (tk:Nat),Heap.SetOf knd h' s.heap.objs.size (λk'=>decide (k'∈met val items.size)) (met val items.size).length->(∀(b:Nat) (o:Obj),b<s.heap.objs.size->s.heap.get? b=!o->h'.get? b=!o)->Q (.ref s.heap.objs.size) { s with heap:=h',toks:=tk }) :
  wpAny (model prog w) A (call (Value.type "set") [Value.ref l]) Q E s:=by
 let(c,tl,x):=ī.mro;have n:=ī.made;have B:=ī.sub;show ņ<|codeAny_of_tree ?_;show Ï {Code.quiet_builtin _ (by decide +kernel),codeAny_builtin F.entry_type_call ?_}
 have hu:=Around.under_plain (A:=A) (weight_type_call_type "set" [Value.ref l] []) rfl;have h1:=ī.notType;have h2:=ī.canCreate;have H:=F.typeCall_set_1<|Value.ref l;show(show wpAny (model prog w) (A.under<|Code.builtin "type.__call__" { pos:=[Value.type "set",Value.ref l] }) _ _ _ s from ?_);rw[hu];unfold Builtin.«type.__call__»;show ą (by rw[h1];rfl)<|ą (by rw[h2];rfl) ?_
 show Â<|Į H<|Â<|Į x<|ą rfl<|Â<|Į n<|Â<|Ï<|Â<|ĉ<|ņ<|ġ (code_set_new_1 (E:=λϊ ϊ=>False) (Value.ref l) (Q₁:=λv q=>∃d:Bool,v=.ref s.heap.objs.size/\q={ s with heap:=s.heap.push { cls:=.type "set",data:=.set #[] 0 (SetTable.fresh 0 0 d) } }) λd=>{(d),rfl,rfl}) λr C hr=>?_
 cases r with
 |error e=>show False.elim hr|ok fl=>
  cases fl with
  |next=>show False.elim hr|brk=>show False.elim hr|cont=>show False.elim hr|ret v=>
   let(d,rfl,rfl):=(show ∃d:Bool,v=.ref s.heap.objs.size/\C={ s with heap:=s.heap.push { cls:=.type "set",data:=.set #[] 0 (SetTable.fresh 0 0 d) } } from hr);have L:(s.heap.push { cls:=.type "set",data:=.set #[] 0 (SetTable.fresh 0 0 d) }).get? s.heap.objs.size=!{ cls:=.type "set",data:=.set #[] 0 (SetTable.fresh 0 0 d) }:=á _ rfl;have G:Shared.TypeIs { s with heap:=s.heap.push { cls:=.type "set",data:=.set #[] 0 (SetTable.fresh 0 0 d) } } (.ref s.heap.objs.size) "set":={_,L,rfl}
   have m:=ī.init;show Â<|Υ G B<|ą rfl<|Â<|ĉ ?_;unfold callSpecial?;show Â<|wpAny_specialOf G m.lookup<|ĉ<|Â<|Į (m.bind _)<|Â<|ņ<|ġ (R:=wants (λv q=>v=.none/\∃tk h',q={ s with heap:=h',toks:=tk }/\Heap.SetOf knd h' s.heap.objs.size (λk'=>decide (k'∈met val items.size)) (met val items.size).length/\∀(b:Nat) (o:Obj),b<s.heap.objs.size->s.heap.get? b=!o->h'.get? b=!o) λϊ ϊ=>False) (codeAny_call_builtin m.plain F.entry_set_init<|check_set_init_1 G ?_) λr D f=>?_
   unfold Builtin.«set.__init__» noKeywords;show Â<|wpAny_ite_true rfl<|Ï ?_;unfold typeNameOfCut shownTypeOf;show Â<|Â<|Â<|wpAny_typeOf G<|ą (by decide +kernel)<|Ï ?_
   show Į (rfl:typeNameCut 200 (Value.type "set")=pure _) ?_;show Â<|Į (rfl:checkCount _ 0 1 1=pure Unit.unit) ?_;show Â<|Ï ?_;unfold setUsed setState;show Â<|Â<|Â<|wpAny_load L<|ą rfl<|Ï<|Ï<|ą rfl ?_;let(N,y,k,nl,u):=id hl;have g:(s.heap.push { cls:=.type "set",data:=.set #[] 0 (SetTable.fresh 0 0 d) }).get? l=!N:=Ó _ y;have j:Shared.TypeIs { s with heap:=s.heap.push { cls:=.type "set",data:=.set #[] 0 (SetTable.fresh 0 0 d) } } (.ref l) "list":={_,g,k}
   unfold Builtin.Frozenset.updateFrom Builtin.Frozenset.isAnySet;show Â<|Â<|Â<|Υ j F.sub_list_set ?_;have K:(s.heap.push { cls:=.type "set",data:=.set #[] 0 (SetTable.fresh 0 0 d) }).IsList l items:={(N),g,k,nl,u};show Υ j F.sub_list_frozenset<|ą rfl<|Â<|wpAny_typeOf j<|ą (by decide +kernel)<|Â<|Τ K ?_
   have lt:l<s.heap.objs.size:=Ç y;have p:(s.heap.push { cls:=.type "set",data:=.set #[] 0 (SetTable.fresh 0 0 d) }).objs.size=s.heap.objs.size+1:=Ĝ _ _;generalize J:s.heap.push { cls:=.type "set",data:=.set #[] 0 (SetTable.fresh 0 0 d) }=hp at *
   have hS:s.heap.objs.size∉[hp.objs.size,l]:=by
    rw[p];intro z;rcases Ð.mp z with e|e;show absurd e<|Ô<|ę _
    show absurd (Ì.mp e)<|Nat.ne_of_gt lt
   show Â<|wpAny_runValue ?_;show gQ (knd:=knd) (A:=A.in1.in1) (Walks.list (A:=A.in1.in1.in1) hh hp.objs.size l (by rw[p];show Ô<|Ħ lt) items).toS s.heap.objs.size hS val (λi v e=>hP i v e) hb items.size 0 _ (by lia) (ø _) {?_,?_} ?_ λq mv M=>?_
   show{_,á _ rfl,rfl,rfl};show{N,Ó _ g,k,nl,u};letI:BEq Key:={λa b=>decide (a=b)};haveI:LawfulBEq Key:={ eq_of_beq:=λh=>Ü h,rfl:=Ä rfl };have S:=(setObjOf_fresh (prog:=prog) (w:=w) (knd:=knd) d).setOf (h:=hp.push { cls:=.type "list_iterator",data:=.fields #[.ref l,.int 0 0] }) (a:=s.heap.objs.size) (Ó _ L) (by decide);let(o,U,T,t,g1,g2,V,W,X,Y,Z,g8):=S;show{o,U,T,t,g1,g2,V,W,λk'=>?_,Y,Z,g8};rw[<- X k'];simp[met];show Ï<|Ï ?_
   have P:∀(b:Nat) (o:Obj),b<s.heap.objs.size->s.heap.get? b=!o->q.heap.get? b=!o:=λb o hb e=>by
    show mv.heap b o (λz=>?_)<|Ó _ (by rw[<- J];show Ó _ e)
    rcases Ð.mp z with e|e;show absurd e<|Ô hb
    have e:=Ì.mp e;rw[p]at e;show absurd e<|Ô<|Ħ hb
   have m1:=mv.gens;have m2:=mv.drawn;have O:=mv.os;let(I,g',d',t',os'):=q;show{rfl,t',I,?_,M,P};simp only at m1 m2 O;rw[m1,m2,O]
   .cases r with
    |error e=>show False.elim f|ok fl=>
     cases fl with
     |next=>show False.elim f|brk=>show False.elim f|cont=>show False.elim f|ret v=>
      let(rfl,tk,h',rfl,hs,hk):=(show v=.none/\∃tk h',D={ s with heap:=h',toks:=tk }/\Heap.SetOf knd h' s.heap.objs.size (λk'=>decide (k'∈met val items.size)) (met val items.size).length/\∀(b:Nat) (o:Obj),b<s.heap.objs.size->s.heap.get? b=!o->h'.get? b=↑o from f);show Ï<|ą rfl<|Ï ?_;show h h' tk hs hk
def X0(P:Program)(w:World)(a:Addr)(b:List Key):HO:=.ext λh=>Heap.SetOf (DQ P w) h a (λk=>@decide (k∈b) (Classical.propDecidable _)) b.length
section
variable {X:Cx}
def zhv(x:X.calm=true):CQ X (.type "set") (λxs H Q=>∃(p:Addr) (ys:kq),xs=[.ref p]/\Ag X.K H p (ys.map V.str)/\ys.length<1000/\∀a,H a=()->Q (.ref a) (upd H a<|X0 X.prog X.w a<|met (λi=>Sum.inr<|ys.getD i Str.empty) ys.length)):=by
 intro J s O H xs K Q I r h;let(p,ys,rfl,y,hz,q):=h;let(u,rfl,D):=Fw r;cases D;let(f,w,B,_):=I.list y;let c:=w.length;rw[À]at c;let d:f.toArray.size=ys.length:=by rw[í];show c.symm
 show zcw (knd:=DQ X.prog X.w) (val:=λi=>Sum.inr<|ys.getD i Str.empty) (I.ok.hd x) B.isList (λi v e=>?_) (by rw[d];show Ý (Nat.succ_lt_succ hz)<|by decide) λE tk hs kp=>?_;let g :=by simpa using e
 let n:i<ys.length:=by rw[c];show(Ê.mp g).1
 let z:(ys.map V.str)[i]?=!(.str ys[i]):=by rw[É,Á n];rfl
 let(u,j,C):=w.get z;rw[g]at j;cases j;let(t,rfl):=(C);show{?_,rfl};show(?_:Hi (Sum.inr<|ys.getD i Str.empty) (Value.str ys[i] t)=true);rw[â,Á n];show(?_:(ys[i] == ys[i])=true);show õ _
 rw[d]at hs;show{.ref s.heap.objs.size,_,I.laid (o:=X0 X.prog X.w s.heap.objs.size<|met (λi=>Sum.inr<|ys.getD i Str.empty) ys.length) (λb o e=>kp b o (Ç e) e) (Ã _) {?_,?_,?_},rfl,q _<|I.hok.fresh<|Ã _};show hs;let(o,m,l,t,g1,_):=hs;show{(o),g1};intro F G A k;let(o,m,l,t,g1,g2):=A;show{o,m,l,t,k o g1,g2}
def zhy:CQ X (.builtin "len") (λxs H Q=>∃a ks,xs=[.ref a]/\H a=!(X0 X.prog X.w a ks)/\Q (.int ks.length) H):=by
 intro m s O H xs n Q I r h;let(a,ks,rfl,ha,q):=h;let(u,rfl,i):=Fw r;cases i;let((o,b,j,t,g1,g2,c,k,l,d,f,g),_):=(show _/\_ from I.hok a _ ha)
 let hb:((b.size:Nat):Int)<2 ^ 63:=by
  let:scanBound<=2 ^ 40:=by decide
  let e:b.size<scanBound:=d;lia
 show call_len_set g1 g2 c f hb {.int (b.size:Int),H,I.tok _,{_,rfl},?_};rw[show b.size=ks.length from g];show q
end
def G7:qD->Option (kq)
 |[]=>![]|.str x::r=>(match G7 r with
  |some l=>!(x::l)|none=>())
 |z::y=>()
nonrec def Mh{K}{F}:∀{l} {ys} {xs},G7 l=!ys->As K F l xs->xs=ys.map V.str
 |[],ys,xs,h,r=>by
  cases h;show r.inv0
 |t::l,ys,xs,h,r=>by
  let(x,c,rfl,a,b):=r.inv;unfold G7 at h;split at h;grind;rename_i y r e;cases e;split at h;rename_i d hl;cases h;rw[a.str_inv,Mh hl b];rfl;cases h;cases h
def Q9(ys:kq):Nat:=(met (λi=>Sum.inr<|ys.getD i Str.empty) ys.length).length
def K5:T->q9
 |.nd z .lst l=>(match G7 l with
  |some a=>if a.length<1000 then ↑(.int<|Q9 a) else ()
  |none=>())
 |.nd z .rl l=>(match G7 l with
  |some a=>if a.length<1000 then ↑(.int<|Q9 a) else ()
  |none=>())
 |z=>()
section
variable {X:Cx}{E:L2.St->XK}{ca:Str->Value}{m:AH}{e:Expr}{pos p p2 p3:Pos}
nonrec def r_unq(t:X.calm=true)(u:Gl X "len")(w:X.mg "len"=())(c:Gl X "set")(d:X.mg "set"=())(ha:PE X e<|tM X.K E ca m)(he:starEach [e] X.env=[(false,eval e X.env)]) :
  PE X (.Call (.Name "len" p) [.Call (.Name "set" p2) [e] [] p3] [] pos) (tM X.K E ca<|Bk (g1 K5)<|AB m AE):=by
 let b:=Zv (pos:=p3) (p:=p2) (zhv t) c d (rfl) (FW ha GB he) (by decide) (by decide) he rfl;show PE.weak (NG (zhy) u w PySem.boot_len (FW b GB rfl) (by decide) (by decide) rfl rfl) λO H Q h=>?_;show(IK<|IL h).mono λx C r=>?_;let(F,D,v,fh,rs,e,q):=IJ r;unfold g1 at e;split at e;let(G,A,k,j,y):=rs.inv;cases k;unfold K5 at e;split at e;split at e;rename_i o l i f;split at e;rename_i hz;cases e;let(g,B,rfl,_,n,kd):=E2 j;let s :=n;show{g,i,rfl,Ag.of (by rw[<- Mh f kd];show fh _ _ s),hz,λa ha=>{a,_,rfl,CT,?_}}
 show q F _ _ R0 ((Ext.newO fh ha).mono λϊ z=>z.elim)<|Rp.int _
 cases e;cases e;split at e;rename_i o l i f;split at e;rename_i hz;cases e;let(g,B,rfl,_,n,kd):=E2 j;show{g,i,rfl,by rw[<- Mh f kd];show fh.seq<|HG.l n,hz,λa ha=>{a,_,rfl,CT,?_}}
 show q F _ _ R0 ((Ext.newO fh ha).mono λϊ z=>z.elim)<|Rp.int _
 cases e;cases e;cases e;cases e
end
def GO:T->T->q9
 |.int i,.int j=>!(.bl<|decide (i<=j))|.str x,.str y=>!(.bl<|(not (@decide (y.cps.toList<x.cps.toList) (Classical.propDecidable _))))|z,w=>()
section
variable {X:Cx}{E:L2.St->XK}{ca:Str->Value}{m mk:AH}{o k:Expr}{pos apos cpos:Pos}
nonrec def zm8:Ay X (compareOp .LtE)<|CA X.K GO:=by
 intro i s O H x y v u Q I c d h;let(F,l,m,r,fh,f,g,e,q):=h;unfold GO at e;split at e
 cases e;rw[f.int_inv]at c;rw[g.int_inv]at d;show aE i s O H _ _ v u Q I c d {_,_,rfl,rfl,q.bl fh};rename_i a b;cases e;rw[f.str_inv]at c;rw[g.str_inv]at d;let(t,rfl):=(c);let(k,rfl):=(d);show PySem.P.le_str {.bl _,H,I,rfl,?_};let j:=q.bl fh
 grind;cases e
end
def CB(ys:kq)(y:Str):Option Nat:=ys.findIdx? λx=>@decide (x=y) (Classical.propDecidable _)
def iT{ys:kq}{y:Str}{j:Nat}(h:CB ys y=!j):∃hj:j<ys.length,ys[j]=y/\∀(m:Nat) (hm:m<ys.length),m<j->ys[m]≠y:=by
 unfold CB at h;let(b,c,d):=ģ.mp h;show{b,@of_decide_eq_true _ (Classical.propDecidable _) c,λm hm a e=>?_}
 show d m a<|@decide_eq_true _ (Classical.propDecidable _) e
def mL{x y:Str}:(x.cps.toList == y.cps.toList)=true ↔ x=y:=by
 constructor;cases x;simp_all;grind
def zor(K:ka):V->qC->Hp->VK->Prop:=λx b H Q=>∃(l:Addr) (a:kq) (y:Str) (j:Nat),x=.ref l/\b=[.str y]/\Ag K H l (a.map V.str)/\CB a y=!j/\a.length<1000000/\Q (.int j) H
section
variable {X:Cx}{E:L2.St->XK}{ca:Str->Value}{m mk:AH}{o k:Expr}{pos apos cpos:Pos}
def zjd:Xa X "list.index"<|zor X.K:=by
 intro Z s O H x vs v us Q I S R h;let(l,k,y,j,rfl,rfl,J,K,hz,q):=h;cases S;let(u,rfl,D):=R.one;let(d,r,(ob,n,e,c1,c2,c3),P):=I.list J;let hl:=r.length;let(U,Y,W,T):=ob;simp only at c1 c2 c3;subst c1 c2 c3;let(t,rfl):=(D);let(L,w,A):=iT K;rw[À]at hl
 let at_:∀(i ) (o ),∃(b:Tok) (a:i<k.length),d.toArray[i]=Value.str k[i] b:=λi o=>by
  let p :=by simpa using o
  let a:i<k.length:=by lia
  let N:(k.map V.str)[i]?=!(.str k[i]):=by rw[É,Á a];rfl
  let(u,E,D):=r.get N;let(b,rfl):=(D);rw[Á p]at E;show{b,a,?_}
  simpa using E
 letI G:Value->Bool:=λv=>match v with
  |.str x ϊ=>x.cps.toList == y.cps.toList|ϊ=>false
 let c:∀(x ) (b ),G (.str x b)=(x.cps.toList == y.cps.toList):=λϊ ϊ=>rfl;let g:j<d.toArray.size:=by rw[í];lia
 show Ņ F.slot_list_index {_,e,rfl} F.entry_list_index (F.args_list_index_2 _ _) (SeqAt.list_indexAt l d.toArray n () T (.str y t) G j g (by lia) ?_ λm M B=>?_) {e,λy' C=>?_,.int j,H,I.tok _,{_,rfl},q}
 rotate_left 2
 let(i,o,rfl):=Array.mem_iff_getElem.mp C;let(b,a,f):=at_ i o;rw[f,c _ b];show(SeqRoads2.EqGives.str _ _ _ _).at _ _
 let(b,a,f):=at_ j g;rw[f,c _ b];show mL.mpr w;let(b,a,f):=at_ m M;rw[f,c _ b,Bool.eq_false_iff];show λz=>A m a B<|mL.mp z
def LA:T->Option (qD)
 |.nd false .lst l=>!l|.nd false .rl l=>!l|z=>()
def zmi{t:T}{l:qD}(h:LA t=!l):∃k,t=.nd false k l/\Ji t=true:=by
 unfold LA at h;split at h;cases h;show{_,rfl,rfl};cases h;show{_,rfl,rfl};cases h
def Kz(m mk:AH):AH:=λY=>match m Y with
  |some (.v t false)=>(match LA t with
   |some l=>(match G7 l with
    |some a=>(match mk Y with
      |some (.v (.str y) z)=>(match CB a y with
        |some j=>if a.length<1000000 then ↑(.v (.int j) false) else ()
        |none=>())
      |z=>())
    |none=>())
   |none=>())
  |z=>()
def zlb(T:PE X o<|tM X.K E ca m)(hk:PE X k<|tM X.K E ca mk)(d:attributeBase o "index" X.env (eval o X.env)=eval o X.env)(hs:starEach [k] X.env=[(false,eval k X.env)])(e:(apos.endLine == cpos.line)=true) :
    PE X (.Call (.Attribute o "index" apos) [k] [] cpos) (tM X.K E ca<|Kz m mk):=by
  show PE.weak (NH Ŋ PySem.F.slot_list_index PySem.F.type_list_index zjd T (FW hk GB hs) d (by rw[hs];rfl) e hs rfl) λO H Q h=>?_;let(F,Y,R,S,q):=h;show{F,Y,R,S,?_};unfold Kz at q;cases n:m Y with
  |none=>erw[n]at q<;>symm|some r=>
    cases r with
    |x c=>erw[n]at q<;>symm|v t b=>
      cases b with
      |true=>erw[n]at q<;>symm|false=>
       erw[n]at q;cases f:LA t with
       |none=>erw[f]at q<;>symm|some l=>
        erw[f]at q;let(U,rfl,N):=zmi f;intro i K x B u g1;have M:Rp X.K i K (.nd false U l) x B:=g1;let(p,rfl):=M.ref_inv;let(W,P,C):=As.node M;let(p1,xs,s,g,hr):=LM N<|As.of_node (H:=i) P C;injection s with s
        subst s;cases G:G7 l with
        |none=>erw[G]at q<;>symm|some I=>
          erw[G]at q;have D:=Mh G hr;show{.inl {rfl,xs,g i K (Ah.refl _) u.fh},i,Y,R,S.ext u,?_};cases a:mk Y with
          |none=>erw[a]at q<;>symm|some r=>
            cases r with
            |x c=>erw[a]at q<;>symm|v V b2=>
              cases V with
              |str y=>
                erw[a]at q;intro J L z Z w g2;have hz:=Hm g2;subst hz;cases A:CB I y with
                |none=>erw[A]at q<;>symm|some j=>
                  erw[A]at q;by_cases hl:I.length<1000000
                  . rw[if_pos hl]at q
                    show{p,I,y,j,rfl,rfl,by rw[<- D];show g J L w.ff w.fh,A,hl,?_};show q J L _ R0 ((u.trans w).mono λϊ z=>z.elim)<|.int _
                  . rw[if_neg hl]at q
                    symm
              |_=>erw[a]at q<;>symm
variable {mu:Bool}{i:Nat}{x n:Str}{np hpos:Pos}{body suite:kj}{b₀:Stmt}{u h:AG}{cs:List<|Str×Addr}
end
section
variable {X:Cx}{E:L2.St->XK}{ca:Str->Value}{m:AH}{e:Expr}{pos p p2:Pos}{c:Str}{v:V}{tb:List<|Addr×Bool}
end
section
variable {X:Cx}{E:L2.St->XK}{ca:Str->Value}{mu:Bool}{i j:Nat}{tg it c:Expr}{ret:kj}{mc:AH}{k:T}{ip pos:Pos}
variable {e:Expr}{m:AH}{t:T}{p1 apos cpos bpos:Pos}{x:Str}
end
def Hc(i:Nat)(m:AH):AH:=λY=>match Y[i]? with
 |some !t=>(match m (Y.set i !t.share) with
  |some (.v (.bl c) b)=>!(.v (.bl c) b)|z=>())
 |z=>()
theorem zl9{X:Cx}{E:L2.St->XK}{ca:Str->Value}{m:AH}{e:Expr}{i:Nat}(g:PT X e<|B7 X.K E ca m):PT X e<|B7 X.K E ca<|Hc i m:=λj s O H Q I h=>g j s O H Q I (by
 let(F,Y,R,S,q):=h;unfold Hc at q;cases a:Y[i]? with
 |none=>rw[a]at q;symm|some o=>
  rw[a]at q;cases o with
  |none=>symm|some t=>
   show{_,_,_,S.frz a,?_};simp only at q;cases d:m (Y.set i !t.share) with
   |none=>rw[d]at q;symm|some r=>
    rw[d]at q;cases r with
    |x c=>symm|v w b=>
     cases w with
     |bl c=>show λl f k=>q F f {k.hh,.refl _,S.fh.trans k.hh,λϊ z=>z.elim,λb u z=>.inl z}|_=>symm)
section
variable {X:Cx}{E:L2.St->XK}{ca:Str->Value}{m mk ma:AH}{o k e a:Expr}{pos apos cpos p p2:Pos}
def rSlS:V->kg->kg->Hp->VK->Prop:=λx b a H Q=>∃z:Str,x=.str z/\z.length<=BN/\Q (.str<|Txt.slice z b a) H
def znw:XZ X rSlS:=by
 intro o s O H x v vl r n m p Q I h hs g e q;let(z,rfl,hz,q):=q;let(t,rfl):=(h);let(ob,b,a,hd):=hs;rw[GN]at hz;cases g with
 |none=>
  cases e with
  |none=>show{"str",_,ŉ.lookup,ĭ _ _ _,Ŧ (l:=()) (u:=()) (st:=()) {(ob),b,a,hd} rfl<|ŧ {Ö (ţ z _ _) hz,λc k=>{.str _,H,I.tok _,{_,rfl},q}}}|int j d=>show{"str",_,ŉ.lookup,ĭ _ _ _,Ŧ (l:=()) (u:=!(j,d)) (st:=()) {(ob),b,a,hd} rfl<|ŧ {Ö (ţ z _ _) hz,λc k=>{.str _,H,I.tok _,{_,rfl},q}}}
 |int i f=>
  cases e with
  |none=>show{"str",_,ŉ.lookup,ĭ _ _ _,Ŧ (l:=!(i,f)) (u:=()) (st:=()) {(ob),b,a,hd} rfl<|ŧ {Ö (ţ z _ _) hz,λc k=>{.str _,H,I.tok _,{_,rfl},q}}}|int j d=>show{"str",_,ŉ.lookup,ĭ _ _ _,Ŧ (l:=!(i,f)) (u:=!(j,d)) (st:=()) {(ob),b,a,hd} rfl<|ŧ {Ö (ţ z _ _) hz,λc k=>{.str _,H,I.tok _,{_,rfl},q}}}
def DR(ma:AH)(d c:Option<|AH):AH:=λY=>match ma Y with
 |some (.v (.str z) y)=>(match FE d Y,FE c Y with
  |some b,!a=>if z.length<=BN then ↑(.v (.str<|Txt.slice z b a) false) else ()
  |y,x=>())
 |y=>()
def zir{lo hi}(ha:PE X a<|tM X.K E ca ma)(hl:PO X lo<|HL X.K ml)(hh:PO X hi<|HL X.K mh):PE X (.Subscript a (.Slice lo hi () p2) pos)<|tM X.K E ca<|DR ma ml mh:=by
 show PE.weak (Zr znw ha hl hh) λO H Q h=>?_;let(F,Y,R,S,q):=h;show{F,Y,R,S,?_};unfold DR at q;cases l:ma Y with
 |none=>rw[l]at q;symm|some r=>
  rw[l]at q;cases r with
  |x c=>symm|v t C=>
   cases t with
   |str z=>
    intro i o x B u g1;have y:=Hm g1;subst y;have b:Ext F H i o R0:=u.mono λϊ z=>z.elim
    have j:=S.ext b;cases d:FE ml Y with
    |none=>erw[d]at q<;>symm|some g=>
     show{i,Y,R,g,j,d,λm A k=>?_};have s:=j.ext k;cases e:FE mh Y with
     |none=>erw[d,e]at q<;>symm|some f=>
      erw[d,e]at q;show{m,Y,R,f,s,e,λn p w=>?_};by_cases hz:z.length<=BN;rw[if_pos hz]at q;show{z,rfl,hz,q n p _ R0 (b.trans0<|k.trans0 w)<|.str _};rw[if_neg hz]at q;symm
   |_=>symm
def rIxD:R2:=λx y H Q=>∃a b k v,x=.ref a/\y=.str k/\Rd H a (.dK b)/\Et b (Sum.inr k)=!v/\Q v H
def iF(hu:X.A.units+1<cLine):G3 X rIxD:=by
 intro d c o s O H x y v u Q I p t h hs;let(a,f,k,w,rfl,rfl,j,hv,q):=h;cases p;let g:nX H a (kV<|Sum.inr k) !w:=.inl {f,Sum.inr k,j,rfl,hv.symm}
 let n:s.TypeIs (.ref a) "dict":=by
  let(_,_,A,_,m):=O5 I.hok j;show m.typeIs
 show Â ?_;show Â<|wpAny_specialOf n PySem.F.slot_dict_getitem.lookup ?_
 let B5:wpAny (model X.prog X.w) X.A (subscripted c false (.ref a) u) (λr b=>wpAny (model X.prog X.w) X.A (letTemporaryGo d (.ref a) r >>= λϊ=>pure r) (EP X o O Q) X.xe b) X.xe s:=by
  rw[hs];show wpAny_operating<|ô (zhg hu I g (t) λB z l i=>{(w),H,l,i,q}) (λr b e=>Â<|wpAny_letTemporaryGo<|Ï e) λϊ Z x=>x
 first|show Ï (Â B5)|rfl|rfl
def FQ:Ob->Option (kq)
 |.sdc a=>!a|.fdc a=>!a|z=>()
def Yp{F:Hp}{k:Ob}{p:Addr}{xs:qC}(h:FQ k=!ks)(o:KS F k p xs):ks.length=xs.length/\Rd F p (.dK<|Be ks xs):=by
 cases k<;>first|(cases h;show⟨o.1,.inl o.2⟩)|(cases h;show⟨o.1,.inr o.2⟩)|cases h
def C8(m mk:AH):AH:=λY=>match m Y with
 |some (.v (.obj kd l) z)=>(match FQ kd with
  |some a=>(match mk Y with
   |some (.v (.str y) z)=>(match CB a y with
    |some j=>(match l[j]? with
     |some u=>if u.sh then ↑(.v u false) else ()
     |none=>())
    |none=>())
   |z=>())
  |none=>())
 |z=>()
def Q8:∀{ks} {xs} {y} {j} {v},CB ks y=!j->xs[j]?=!v->Et (Be ks xs) (Sum.inr y)=!v
 |[],xs,y,j,v,h,w=>by simp[CB]at h|k::ks,[],y,j,v,w,h=>by simp at h|k::ks,x::xs,y,j,v,h,a=>by
  show(?_:Et ((Sum.inr k,x)::Be ks xs) (Sum.inr y)=!v);unfold CB at h;rw[Ζ]at h;by_cases e:k=y;rw[@decide_eq_true _ (Classical.propDecidable _) e]at h;erw[Æ,Ŵ]at h;subst h;rw[MZ (p:=(Sum.inr k,x))<|by rw[e]];simpa using a;rw[@decide_eq_false _ (Classical.propDecidable _) e]at h;erw[ŋ,Å,Ø]at h;let(c,b,rfl):=h;rw[M0 (p:=(Sum.inr k,x))<|λz=>e<|Sum.inr.inj z]
  show Q8 (show CB ks y=↑c from b)<|by simpa using a
def r_gt(hu:X.A.units+1<cLine)(U:PE X o<|tM X.K E ca m)(hk:PE X k<|tM X.K E ca mk)(hs:KR k):PE X (.Subscript o k pos)<|tM X.K E ca<|C8 m mk:=by
 show PE.weak (NF (iF hu) U hk hs) λO H Q h=>?_;let(F,Y,R,S,q):=h;show{F,Y,R,S,?_};unfold C8 at q;cases D:m Y with
 |none=>rw[D]at q;symm|some r=>
  rw[D]at q;cases r with
  |x c=>symm|v t b=>
   cases t with
   |obj kd l=>
    cases g:FQ kd with
    |none=>erw[g]at q<;>symm|some V=>
     erw[g]at q;intro A I x B n g1;let(W,L):=LO g1;subst L;let(a,xs,rfl,_,w,el,J):=W.obj_inv;let(T,M):=Yp g w;show{A,Y,R,S.ext n,?_};cases i:mk Y with
     |none=>rw[i]at q;symm|some Z=>
      rw[i]at q;cases Z with
      |x c=>symm|v t2 b2=>
       cases t2 with
       |str y=>
        simp only at q;intro C p z B2 K g2;have hz:=Hm g2;subst hz;have d:Ext A I C p R0:=K.mono λϊ z=>z.elim
        cases s:CB V y with
        |none=>erw[s]at q<;>symm|some j=>
         erw[s]at q;cases e:l[j]? with
         |none=>erw[e]at q<;>symm|some u=>
          erw[e]at q;by_cases f:u.sh=true;rw[if_pos f]at q;have P:=(Ê.mp e).1;have G:xs[j]?=!xs[j]:=Á<|by lia
          have N:=(J j u _ e G).move (H':=p) f d.ff;show{a,_,y,_,rfl,rfl,M.elim (λh=>.inl<|d.hh _ _<|n.fh _ _ h) λ⟨o,h⟩=>.inr {o,d.hh _ _<|n.fh _ _ h},Q8 s G,q C p _ R0 (n.trans0 d) N};rw[if_neg f]at q;symm
       |_=>symm
   |_=>symm
def tKys(d:TE):TE:=λO H Q=>d O H λx b=>∃a c xs,x=.ref a/\c.length=xs.length/\b a=!(.dK<|Be c xs)/\∀p,b p=()->Q (.ref p) (upd b p<|.lst<|c.map V.str)
def hU:∀{ks} {xs},ks.length=xs.length->(Be ks xs).length=ks.length
 |[],[],z=>rfl|[],z::y,h=>by simp at h|z::y,[],h=>by simp at h|k::ks,x::xs,h=>by
  show(?_:(Be ks xs).length+1=ks.length+1);rw[hU<|by simpa using h]
def hZ:∀{ks} {xs} {vs},ks.length=xs.length->KV (Be ks xs) vs->vs.map (·.1)=ks.map Sum.inr
 |[],[],vs,z,r=>by
  let a :=(r);cases a;rfl
 |[],z::y,w,h,v=>by simp at h|z::y,[],w,h,v=>by simp at h|k::ks,x::xs,vs,h,r=>by
  let a :=r;cases a with
  |@cons z q y c hd b=>rw[Ù,Ù,<- hd.1,hZ (by simpa using h) b]
def zpi(S:X.calm=true)(T:Gl X "list")(U:X.mg "list"=())(Y:PE X o to)(hs:starEach [o] X.env=[(false,eval o X.env)]) :
  PE X (.Call (.Name "list" p) [o] [] p2) (tKys to):=by
 intro pz s O H Q I h;show Ĭ<|Gq I T U Ō ?_ (by decide)<|by decide
 show ĕ ?_ (by rw[hs];rfl) rfl;rw[hs];show(show wpAny _ _ (spliced<|(false,eval o X.env)::backTo p2 (starEach [] X.env)) _ _ s from ?_);show Calls.spliced_cons<|A6 (Y pz s O H _ I h) λv s1 zz=>?_
 let(x,H1,m,r1,q1):=zz;let(a,g,xs,rfl,E,hd,q):=q1;cases r1;let(z,C,G,l,o',R,P,B,r):=(m.hok a _ hd);have A:s1.heap.DictAt (DQ X.prog X.w) a G P:={(o'),R,B,r};show Calls.spliced_nil ?_;show W.kdl_call (W.kdl_dict C) (m.ok.hd S) A (by rw[<- Jf l];show z) λh' tk c J hk F e=>?_
 have b:=hZ E l;show{.ref _,_,m.laid hk (Ã _) ?_,rfl,q _<|m.hok.fresh<|Ã _};show{by rw[À,<- hU E];show z,c.toList,J,?_,by rw[F]}
 have j:c.toList.length=g.length:=by
  rw[Array.length_toList,e.1,<- À,b,À]
 have f:∀(n ) (k ) (v ),g[n]?=!k->c.toList[n]?=!v->∃t,v=Value.str k t:=λn k v w y=>by
  let(k',x',K,L):=e.2 n v (by rw[<- Array.getElem?_toList];show y);have D:(G.map (·.1))[n]?=!k':=by rw[É,K];rfl
  rw[b,É,w]at D;have M :=(Þ D).symm;subst M
  rcases F9 (show Hi (Sum.inr k) v=true from L) with ⟨i,t,u,_⟩|⟨x,t,u,N⟩;cases u;cases u;show{(t),N}
 clear F hk e;generalize c.toList=d at j f;clear hd q b
 have go:∀(g:kq) (d ),d.length=g.length->(∀(n:Nat) (k ) (v ),g[n]?=!k->d[n]?=!v->∃t,v=Value.str k t)->Ar (g.map V.str) d:=by
  intro g
  induction g with
  |nil=>
   intro d hl _;cases d with
   |nil=>show .nil|cons ϊ ϋ=>simp at hl
  |cons k g Z=>
   intro d hl f;cases d with
   |nil=>simp at hl|cons v d=>show .cons (f 0 k v rfl rfl)<|Z d (by simpa using hl) λn k v w y=>f (n+1) k v (by simpa using w)<|by simpa using y
 show go g d j f
def He(m:AH):AH:=λY=>match m Y with
 |some (.v (.obj (.sdc a) z) y)=>!(.v (.own<|a.map T.str) false)|z=>()
theorem zio{K}(c:kq):As K F (c.map T.str)<|c.map V.str:={by simp,λi t x a b=>by
 rw[É]at a b;cases h:c[i]? with
 |none=>grind|some k=>rw[h]at a b;cases a;cases b;show .str k}
def r_kys(D:X.calm=true)(G:Gl X "list")(I:X.mg "list"=())(J:PE X o<|tM X.K E ca m)(hs:starEach [o] X.env=[(false,eval o X.env)]):PE X (.Call (.Name "list" p) [o] [] p2)<|tM X.K E ca<|He m:=by
 show PE.weak (zpi D G I J hs) λO H Q h=>?_;let(F,Y,R,S,q):=h;show{F,Y,R,S,?_};unfold He at q;cases d:m Y with
 |none=>rw[d]at q;symm|some r=>
  rw[d]at q;cases r with
  |x c=>symm|v t b=>
   cases t with
   |obj kd l=>
    cases kd with
    |sdc j=>
     intro n u x B f g1;let(L,y):=LO g1;subst y;let(a,xs,rfl,_,(i,A),N,M):=L.obj_inv;show{a,j,xs,rfl,i,f.fh _ _ A,λp K=>?_}
     have w:Dw X.K n u (.own<|j.map T.str) Q:=λk s z C e g=>q k s z C (f.trans0 e) g;show w.list f.fh (zio j) K
    |_=>symm
   |_=>symm
structure ICls(K:ka)(C:Addr):Prop where
 c:Cls K C
 a:W.findIn K (.ref C) "__class__"=!(!(.builtin "object.__class__"))
 n:W.specialIn K (.builtin "object.__class__") "__get__"=!(!(.builtin "getset_descriptor.__get__"))
 k:W.takesIn K (.builtin "object.__class__")=!true
 m:W.mroIn K C (.type "object")=!true
def VN(a:List<|Addr×Bool):Ob->q9
 |.ins C z=>(a.lookup C).map .bl|z=>()
def M5:List String:=["NoneType","bool","int","str","list","tuple","dict"]
def LN(a:List<|Addr×Bool):T->q9
 |.obj o z=>VN a o|t=>(M6 t).map λϊ=>.bl false
def zkc(c:ICls X.K C)(hk:W.kitOne X.K (.ref C) (.ref D)=!b):CQ X (.builtin "isinstance") (λxs H Q=>∃a dx fs,xs=[.ref a,.ref D]/\H a=!(.ins C dx fs)/\Q (.bl b) H):=by
 intro g s O H xs i Q I r h;let(a,dx,fs,rfl,e,q):=h;let(u,j,rfl,d,f):=IH r;cases f;show VM I d (.ins e c.c c.a c.n c.k c.m) hk λtk=>{.bl b,H,I.tok _,rfl,q}
def r_isC(g:(∀C b,tb.lookup C=!b->ICls X.K C/\W.kitOne X.K (.ref C) (.ref D)=!b)/\(M5.all λa=>W.kitOne X.K (.type a) (.ref D) == !false)=true)(z:Gl X "isinstance")(f:X.mg "isinstance"=())(i:Gl X c)(j:X.mg c=!(.ref D))(hd:(c == "__debug__")=false)(ha:PE X e<|tM X.K E ca m)(he:starEach [e,.Name c p2] X.env=(false,eval e X.env)::starEach [.Name c p2] X.env) :
  PE X (.Call (.Name "isinstance" p) [e,.Name c p2] [] pos) (tM X.K E ca<|Bk (g1<|LN tb)<|AB m AE):=by
 let y:CQ X (.builtin "isinstance") (λxs H Q=>(∃C b a d fs,tb.lookup C=!b/\xs=[.ref a,.ref D]/\H a=!(.ins C d fs)/\Q (.bl b) H)\/∃x a,xs=[x,.ref D]/\a∈M5/\(TyOf X.K H x (.type a)\/XX X.K H x a)/\Q (.bl false) H):=λB s O H xs K Q I r h=>by
  rcases h with ⟨C,b,a,d,fs,hl,h⟩|⟨x,a,rfl,f,ty,q⟩;show zkc (g.1 C b hl).1 (g.1 C b hl).2 B s O H xs K Q I r {(a),d,fs,h};let hk :=eq_of_beq<|Ñ.mp g.2 a f;let(u,P,rfl,l,J):=IH r;cases J
  rcases ty with ty|A;show VM I l ty hk λtk=>{.bl false,H,I.tok _,rfl,q};show iL I l A hk λtk=>{.bl false,H,I.tok _,rfl,q}
 show PE.weak (NG y z f PyProof.Rows.boot_isinstance (FW ha (FW (Zt (v:=.ref D) i j rfl hd) GB) he) (by decide) (by decide) he rfl) λO H Q h=>?_;show(IK<|IL h).mono λx M o=>?_;let(F,N,w,fh,rs,e,q):=IJ o;unfold g1 at e;split at e;let(R,L,n,k,G):=rs.inv;cases n;unfold LN at e;split at e;unfold VN at e;split at e;let(b,hb,rfl):=Ø.mp e;let(a,xs,rfl,_,(d,t),_,_):=k.obj_inv;show .inl {_,b,a,d,_,hb,rfl,fh _ _ t,q.bl fh}
 cases e;let(a,ha,rfl):=Ø.mp e;let(ty,f):=YR fh k ha;show .inr {_,a,rfl,f,ty,q.bl fh}
 cases e
end
open Classical in
def Gc(i:Nat)(mk m:AH):AG:=λY=>match m Y with
 |some (.v t false)=>(match FD (Y.getD i ()) with
  |some (a,l)=>(match mk Y with
   |some (.v (.str k) z)=>if k∉a/\a.length<100000 then ↑(.nx<|Y.set i<|!(.osd (a++[k])<|l++[t])) else
    match CB a k with
    |some j=>if a.Nodup/\a.length<100000 then ↑(.nx<|Y.set i<|!(.osd a<|l.set j t)) else ()
    |none=>()
   |some (.v z y)=>none|some (.x c)=>!(.xc c Y)|none=>())
  |none=>())
 |some (.v z true)=>none|some (.x c)=>!(.xc c Y)|none=>()
def ziv{a:kq}{xs:qC}{k:Str}{y:V}{j:Nat}(nd:a.Nodup)(hl:a.length=xs.length)(hj:a[j]?=!k):EH (Be a xs) (Sum.inr k) y=Be a (xs.set j y):=by
 let(e,b):=Ê.mp hj;unfold EH;rw[if_pos];show ķ λi=>?_;unfold Be;rw[É,ċ,ċ,Ř];by_cases d:i<a.length;rw[Á d,Á (by lia:i<xs.length)];by_cases c:j=i;subst c;rw[if_pos rfl,if_pos (by lia),Ă,if_pos<|by rw[b]];rw[if_neg c,Ă,if_neg λz=>c<|(ñ nd).mp (b.trans (Sum.inr.inj z).symm)];rw[þ<|by lia];rfl;rw[Ě];show{(Sum.inr k,xs[j]),List.mem_iff_getElem?.mpr {j,?_},Ä rfl};unfold Be;rw[ċ,hj,Á]
def NL{Y:AL}(h:FD (Y.getD i ())=!(ks,l)):Y[i]?=!(!(.osd ks l)):=by
 let:=aC h;rw[â]at this;cases e:Y[i]? with
 |none=>rw[e]at this;cases this|some o=>rw[e]at this;rw[<- this];rfl
section
variable {X:Cx}{E:L2.St->XK}{ca:Str->Value}{m mk:AH}{e k:Expr}{pos p1 pos2 pos3:Pos}{mu:Bool}{i j:Nat}{x f:Str}
def s_dps(hu:X.A.units+1<cLine)(hN:X.N[i]?=!x)(hv:EW X.env.scope x)(hd:(x == "__debug__")=false)(hcd:(x == "__classdict__")=false)(he:PE X e<|tM X.K E ca m)(hk:PE X k<|tM X.K E ca mk)(hs:swapsWithSole [.Subscript (.Name x p1) k pos2] e pos.line X.env=pure false)(hw:swappedStores [.Subscript (.Name x p1) k pos2] e X.env=pure ())
  (ha : ∀ v, assign (.Subscript (.Name x p1) k pos2) X.env v = (do
   let ov <- holding [v]<|eval (.Name x p1) X.env;let iv <- holding [v,ov] (eval k X.env)
   standAt pos2
   holding [v,ov,iv] (setItem ov iv v)
   release [v,ov,iv] [])) :
  PS X (.Assign [.Subscript (.Name x p1) k pos2] e pos) (tS X.K E ca mu<|Gc i mk m):=by
 show PS.weak (Kk he (ND (Ge hN hv hd hcd) hk (Yo hu) ha) hs hw rfl) λD O H h=>?_;let(F,Y,R,S,q):=h;show{F,Y,R,S,?_};unfold Gc at q;cases hm:m Y with
 |none=>erw[hm]at q<;>symm|some r=>
  erw[hm]at q;cases r with
  |x c=>show λK L e=>q K L O R e.stp0 (S.ext e)|v t bb=>
   cases bb with
   |true=>symm|false=>
    intro F1 H1 y B M g1;let P :=g1;simp only at q;cases ho:FD (Y.getD i ()) with
    |none=>erw[ho]at q<;>symm|some kl=>
     let(n,l):=kl;erw[ho]at q;let N:=S.ext M;let ht:=NL ho;let(y2,ey,ry):=N.rep i _ ht;show{y2,ey,F1,Y,R,N,?_};cases U:mk Y with
     |none=>erw[U]at q<;>symm|some r=>
      erw[U]at q;cases r with
      |x c=>show λK L e=>q K L O R ((M.stp0).trans e.stp0) (N.ext e)|v tk bk=>
       cases tk with
       |str V=>
        simp only at q;by_cases g:V∉n/\n.length<100000;rw[if_pos g]at q;intro W H2 z C b g2;let hz:=Hm g2;subst hz;let S2:=N.ext b;let A:=ry.ext b;let(p,xs,Rs,rfl,f,fp,hp,rs,d,ds):=A.osd_inv;let o :=P.ext b;let s:∀j a,R j a->¬ B a:=λj a I J=>S.apart M J j I
        let Z:¬ B p:=s i p (by rw[f];show .inl rfl);show{p,Be n xs,V,rfl,rfl,hp,?_,?_};rw[Nv d,<- d,Ą];show Ğ g.2<|by decide
        rw[Zj d g.1];let r3:=aB (k:=V) rs d fp ds o (λj a I J=>s i a (by rw[f];show .inr {(j),I}) J) Z
        let(S3,G):=S2.upd ht ey (by rw[f];show .inl rfl) r3 (λa z=>by
         rw[f];rcases z with z|z;show .inl<|.inl z
         rcases Qn z with w|w;show .inl<|.inr w
         show .inr w) s
        show q W _ O _ ((M.stp.trans b.stp0).trans G) S3;rw[if_neg g]at q;cases hj:CB n V with
        |none=>erw[hj]at q;show λK L z CC b g2=>q.elim|some j=>
         erw[hj]at q;by_cases g:n.Nodup/\n.length<100000;rw[if_pos g]at q;let(T,ejk,_):=iT hj;intro W H2 z C b g2;let hz:=Hm g2;subst hz;let S2:=N.ext b;let A:=ry.ext b;let(p,xs,Rs,rfl,f,fp,hp,rs,d,ds):=A.osd_inv;let o:=P.ext b;let s:∀j a,R j a->¬ B a:=λj a I J=>S.apart M J j I
         let Z:¬ B p:=s i p (by rw[f];show .inl rfl);let hjl:j<l.length:=by rw[rs.len,<- d];show T
         show{p,Be n xs,V,rfl,rfl,hp,?_,?_};rw[Nv d,<- d,Ą];show Ğ g.2<|by decide
         rw[ziv g.1 d<|by rw[Á T,ejk]];let rs2:RpO X.K W (upd H2 p<|.dK<|Be n<|xs.set j y) (l.set j t) (xs.set j y) _:=(rs.upd ds).set hjl (o.upd Z) λu a D I J=>s i a (by rw[f];show .inr {(u),I}) J
         let ds2:∀u,¬ (if u=j then B else Rs u) p:=λu z=>by
          by_cases Q:u=j;erw[Q,Æ]at z;show Z z;erw[Q,Å]at z;show ds u z
         let r3:=TV rs2 (by rw[Đ];show d) fp CT ds2
         let(S3,G):=S2.upd ht ey (by rw[f];show .inl rfl) r3 (λa z=>by
          rw[f];rcases z with z|z;show .inl<|.inl z
          rcases Kb z with w|w;show .inl<|.inr w
          show .inr w) s
         show q W _ O _ ((M.stp.trans b.stp0).trans G) S3;rw[if_neg g]at q;show λK L z CC b g2=>q.elim
       |_=>show λK L z CC b g2=>q.elim
def HW(l:qD)(j:Nat):Option<|qD:=match l[j]? with
 |some (.nd true .lst v)=>!v|z=>()
def zf6(h:HW l j=!v):l[j]?=!(.own v):=by
 unfold HW at h;grind
def Kf(i:Nat)(mk m:AH):AG:=λY=>match FD (Y.getD i ()) with
 |some (a,l)=>(match mk Y with
  |some (.v (.str y) false)=>(match CB a y with
   |some j=>(match HW l j with
    |some v=>(match m Y with
     |some (.v t false)=>if v.length<BN/\t.sh=true then ↑(.nx<|Y.set i<|!(.osd a<|l.set j<|.own<|v++[t])) else ()
     |z=>())
    |none=>())
   |none=>())
  |z=>())
 |none=>()
def s_dap(hu:X.A.units+1<cLine)(hN:X.N[i]?=!x)(hv:EW X.env.scope x)(hd:(x == "__debug__")=false)(hcd:(x == "__classdict__")=false)(hk:PE X k<|tM X.K E ca mk)(hsl:KR k)(he:PE X e<|tM X.K E ca m)(hs:starEach [e] X.env=[(false,eval e X.env)])(g:(apos.endLine == cpos.line)=true) :
  PS X (.Expr (.Call (.Attribute (.Subscript (.Name x p1) k pos2) "append" apos) [e] [] cpos) pos) (tS X.K E ca mu<|Kf i mk m):=by
 show PS.weak (NA (NH Ŋ PySem.F.slot_list_append PySem.F.type_list_append fQ (NF (iF hu) (Ge hN hv hd hcd) hk hsl) (FW he GB hs) rfl (by rw[hs];rfl) g hs rfl) rfl) λD O H h=>?_;let(F,Y,R,S,q):=h;unfold Kf at q;cases ho:FD (Y.getD i ()) with
 |none=>erw[ho]at q<;>symm|some kl=>
  let(ks,l):=kl;erw[ho]at q;let ht:=NL ho;let(y2,ey,ry):=S.rep i _ ht;show{y2,ey,F,Y,R,S,?_};cases K:mk Y with
  |none=>erw[K]at q<;>symm|some r=>
   erw[K]at q;cases r with
   |x c=>symm|v tk bk=>
    cases bk with
    |true=>cases tk<;>symm|false=>
    cases tk with
    |str kk=>
     simp only at q;intro F1 H1 z C V g1;let hz:=Hm g1;subst hz;cases u:CB ks kk with
     |none=>erw[u]at q<;>symm|some j=>
      erw[u]at q;cases o:HW l j with
      |none=>erw[o]at q<;>symm|some v=>
       erw[o]at q;let L:=zf6 o;let S1:=S.ext V;let P:=ry.ext V;let(p,xs,Rs,rfl,hA,fp,hp,rs,ek,ds):=P.osd_inv;let J:=(Ê.mp L).1;let hjx:j<xs.length:=by rw[<- rs.len];show J
       let hx :=Á hjx;let rk:=rs.rep j _ _ L hx;let(s,Q,Rr,w,I,fpd,M,ro,dr,_):=rk.own_inv rfl;show{p,_,kk,xs[j],rfl,rfl,.inl hp,Q8 u hx,?_};rw[w];show{.inl {rfl,Q,Ag.of M},F1,Y,R,S1,?_};cases hm:m Y with
       |none=>erw[hm]at q<;>symm|some r=>
        erw[hm]at q;cases r with
        |x c=>symm|v t bb=>
         cases bb with
         |true=>symm|false=>
          intro U H2 y B f g2;let G:=g2;simp only at q
          by_cases hz:v.length<BN/\t.sh=true;rw[if_pos hz]at q;let hB:=Rp.r0 G hz.2;subst hB;let S2:=S1.ext f;let b:=rs.ext f;let ry2:=P.ext f;let ro2:=ro.ext f;let N:=f.hh _ _ M;let W:=(ry2.dom (by rw[hA];show .inl rfl)).1
          let hp2:=f.hh _ _ hp;let d:Rs j s:=by rw[I];show .inl rfl
          let pne:s≠p:=λz=>ds j<|z▸d
          let A:=(b.dom d).1;show{s,Q,y,rfl,rfl,N,by rw[<- ro.len,<- GN];show hz.1,?_};let ro3:RpO X.K U (upd H2 s<|.lst<|Q++[y]) (v++[t]) (Q++[y]) _:=(ro2.upd dr).snoc (B:=R0) (G.upd<|λz=>z.elim) λϊ D D z=>z.elim
          let r3:=J8 (k:=.lst) trivial ro3 A CT (n:=rfl) λj z=>by
           by_cases u:j=v.length;erw[u,Æ]at z;show z.elim;erw[u,Å]at z;show dr j z
          let hE:(λa=>a=s\/∃j,(if j=v.length then R0 else Rr j) a)=Rs j:=by
           rw[I];funext a;apply propext;constructor;rintro(z|⟨j,z⟩);show .inl z;split at z;show z.elim;show .inr {(j),z};rintro(z|⟨j,z⟩);show .inl z;show .inr {j,by rw[if_neg<|Ô<|ro.out j a z];show z}
          rw[hE]at r3;let oth :=λk hk z=>b.dis k j s hk z d
          let rs3:RpO X.K U (upd H2 s<|.lst<|Q++[y]) (l.set j<|.own<|v++[t]) xs Rs:=by
           show{by rw[Đ];show b.len,λk t' x' T Z=>?_,b.dis,λk a z=>by rw[Đ];show b.out k a z};by_cases hk:k=j;subst hk;rw[é J]at T;rw[hx]at Z;cases T;cases Z;rw[w];show r3;rw[å<|Í hk]at T;show(b.rep k t' x' T Z).upd (oth k hk)
          let r4:=TV rs3 ek W (by rw[BF<|Í pne];show hp2) ds;let(S3,st3):=S2.upd (B:=R0) ht ey (by rw[hA];show .inr {(j),d}) r4 (λa z=>.inl (by rw[hA];show z))<|λj a z1 z2=>z2
          show q U _ O _ ((V.stp0.trans f.stp).trans st3) S3;rw[if_neg hz]at q;symm
    |_=>symm
end
def Bt(i:Nat):AG:=λY=>match FD (Y.getD i ()) with
 |some (a,l)=>!(.nx<|Y.set i<|!(.obj (.fdc a)<|BA l))|none=>Ed i Y
def zkt{K:ka}(S:StR K F H O Y R)(A:Y[i]?=!(!(.osd ks l))):∃p kvs,H p=!(.dK kvs)/\∀ob,∃F',StR K F' (upd H p<|.frz ob<|.dK kvs) O (Y.set i<|!(.obj (.fdc ks)<|BA l)) (λj=>if j=i then R0 else R j)/\Stp F H (tot R) F' (upd H p<|.frz ob<|.dK kvs) (tot λj=>if j=i then R0 else R j):=by
 let(y,G,C):=S.rep i _ A;let(p,xs,Rs,rfl,v,I,M,rs,E,ds):=C.osd_inv;show{p,_,M,λob=>{upd (Pu.frz F H<|R i) p<|.frz ob<|.dK<|Be ks xs,?_}}
 let L:=(Ê.mp A).1;let h:R i p:=by rw[v];show .inl rfl
 let n:∀a,R i a->F a=():=λa z=>(C.dom z).1
 let ff:Ah F<|upd (Pu.frz F H<|R i) p<|.frz ob<|.dK<|Be ks xs:=λb u e=>by
  rw[BF λz=>by rw[z,I]at e;cases e];show Fd n b u e
 let fh:Ah (upd (Pu.frz F H<|R i) p<|.frz ob<|.dK<|Be ks xs)<|upd H p<|.frz ob<|.dK<|Be ks xs:=λb u e=>by
  by_cases z:b=p;subst z;rw[CT]at e ⊢;show e;rw[BF z]at e ⊢;show Il S.fh b u e
 show{{fh,by simpa using S.len,λj m e=>?_,λj a z=>?_,λj k a g d f=>?_},ff,fh,λb u z e=>?_,λb ⟨j,z⟩=>?_,λb u e=>?_};by_cases c:j=i;subst c;rw[é L]at e;cases e;show{_,G,?_};rw[if_pos rfl];show .obj {(E),ob,CT} (by rw[Cw,À];show rs.len) λk t x s J=>?_;rw[Cw,É]at s;let(u,hu,rfl):=Ø.mp s;show(rs.rep k u x hu J).share ff λa w z q=>?_
 rw[BF λo=>ds k (by rw[<- o];show z),HE (by rw[v];show .inr {(k),z})];show q;rw[å<|Í c]at e;let(y,D,B):=S.rep j m e;show{y,D,?_};rw[if_neg c]
 show B.frame ff λa z=>by
  let r:a≠p:=λw=>S.dis j i a c z<|w▸h
  rw[BF r,BF r,Fl<|λo=>S.dis j i a c z o];show{rfl,(B.dom z).1}
 by_cases c:j=i;rw[if_pos c]at z;show z.elim;rw[if_neg c]at z;let(m,e):=S.out j a z;show{m,by rw[å<|Í c];show e}
 by_cases c:j=i;rw[if_pos c]at d;show d.elim;by_cases hk:k=i;rw[if_pos hk]at f;show f.elim;rw[if_neg c]at d;rw[if_neg hk]at f;show S.dis j k a g d f;rw[BF λw=>z {i,by rw[w];show h}];show e;by_cases c:j=i;erw[c,Æ]at z;show z.elim;erw[c,Å]at z;show .inl {(j),z};by_cases w:b=p;show .inr<|.inl {i,by rw[w];show h}
 rw[BF w]at e;by_cases hb:R i b;show .inr<|.inl {(i),hb}
 rw[Fl hb]at e;show .inl e
section
variable {X:Cx}{E:L2.St->XK}{ca:Str->Value}{mu:Bool}{m:AH}{o:Expr}{rest:kj}{w:AG}{i:Nat}{elts:kh}{kk:Nat}{tpos ap cp:Pos}
def s_fzd(h:Bf X rest<|tS X.K E ca mu w):Bf X rest<|tS X.K E ca mu<|AF (Bt i) w:=by
 intro g s O H D I hh;let(F,Y,R,S,q):=hh;cases e:FD (Y.getD i ()) with
 |none=>unfold AF Bt at q;rw[e]at q;show Yw (i:=i) h g s O H D I {(F),Y,R,S,q}|some t=>
  let(u,l):=t;unfold AF Bt at q;rw[e]at q;let(p,v,n,k):=zkt S<|NL e;let(ob,j):=zmt I n;let(a,m,st):=k ob;show h g s O _ D j {a,_,_,m,?_};simp only at q;cases f:w (Y.set i<|!(.obj (.fdc u)<|BA l)) with
  |none=>rw[f]at q;show q|some o=>
   rw[f]at q;cases o with
   |nx z=>show λa b c d s S=>q a b c d (st.trans s) S|bk z=>show λa b c d s S=>q a b c d (st.trans s) S|ct z=>show λa b c d s S=>q a b c d (st.trans s) S|rt z=>show λa b x B s r=>q a b x B (st.trans s) r|xc z y=>show λa b c d s S=>q a b c d (st.trans s) S
def HU(a:kq)(l:qD):qD:=List.zipWith (λk t=>T.tup [.str k,t]) a l
def lO:Ob->Option (kq)
 |.fdc a=>!a|z=>()
def Ii(m:AH):BM:=λY=>match m Y with
 |some (.v (.obj kd l) false)=>(match lO kd with
  |some a=>!(.v (HU a l) false)|none=>())
 |some (.x c)=>!(.x c)|z=>()
def zgp{K:ka}{F:Hp}{p:Addr}{xs:qC}(v:F p=!(.frz ob<|.dK<|Be ks xs))(u:ks.length=xs.length)(C:l.length=xs.length)(r:∀(i:Nat) (t:T) (x:V),l[i]?=!t->xs[i]?=!x->Rp K F F t x R0):Ft K (Xg p (Be ks xs).length<|HF ob) F<|HU ks l:=by
 intro i B f m n;let d:=n _ _<|m _ _ v;show{λt a=>?_,λe=>{ob,_,d,rfl,rfl,?_}}
 unfold HU at a;rw[ċ]at a;cases b:ks[i]? with
 |none=>rw[b]at a;cases a|some k=>
  cases c:l[i]? with
  |none=>rw[b,c]at a;cases a|some A=>
   rw[b,c]at a;cases a;let j:i<xs.length:=by let:=(Ê.mp c).1;lia
   let g:(Be ks xs)[i]?=!(Sum.inr k,xs[i]):=by
    unfold Be;rw[ċ,b,Á j]
   show{{ob,_,Sum.inr k,xs[i],d,rfl,rfl,g},λx s y=>?_};let(q,D,E,rfl,w,rfl,y):=y;let h:=y _ _ d;rw[g]at h;cases h;let e:=Ext.new (o:=.tup [kV<|Sum.inr k,xs[i]]) n w;show{_,e,As.of_node (k:=.tup) (xs:=[.str k,xs[i]]) CT ?_};show .cons (H:=f) (.str k)<|.cons (H:=f) ((r i A _ c<|Á j).frame (m.trans e.ff) λϊ z=>z.elim) .nil
 rw[e,Nv u];unfold HU;rw[ſ];lia
theorem zla(y:PE X o<|tM X.K E ca m)(a:attributeBase o "items" X.env (eval o X.env)=eval o X.env)(d:(ap.endLine == cp.line)=true) :
  PI X (.Tuple elts kk tpos) (.Call (.Attribute o "items" ap) [] [] cp) (tI X.K E ca<|Ii m):=PI.weak (zj1 y a d) λO H P h=>by
 let(F,Y,R,S,q):=h;show{F,Y,R,S,?_};unfold Ii at q;cases e:m Y with
 |none=>erw[e]at q<;>symm|some r=>
  erw[e]at q;cases r with
  |x c=>show q|v t b=>
   intro j k x B f g1;cases t with
   |obj kd l=>
    cases b with
    |true=>symm|false=>
     cases kd with
     |fdc A=>let(C,D):=LO (b:=false) g1;let(p,xs,rfl,_,(s,ob,g),u,n):=C.obj_inv;show{p,ob,Be A xs,rfl,f.fh _ _ g,q j k _ (f.mono λϊ z=>z.elim)<|zgp g s u λi t x e w=>(n i t x e w).frame (.refl _) λϊ z=>z.elim}
     |_=>symm
   |_=>symm
def Jr:T->q9
 |.obj kd l=>(FQ kd).map λa=>.osd a l|z=>()
def zhz:CQ X (.type "dict")<|Di X.K<|g1 Jr:=by
 intro B s O H xs E Q I r h;let(F,D,v,fh,rs,e,q):=h;unfold g1 at e;split at e
 let(G,y,rfl,a,b):=rs.inv;cases b.inv0;unfold Jr at e;split at e;let(A,hk,rfl):=Ø.mp e;let(p,J,rfl,_,n,j,f):=a.obj_inv;let(g,m):=Yp hk n;cases r with
 |cons a w=>
  cases a;cases w;show zk0 I (m.elim (λh=>.inl<|fh _ _ h) λ⟨o,h⟩=>.inr {o,fh _ _ h}) λu C c d=>?_;show{.ref u,_,d,rfl,q F _ _ _ (Ext.newO fh c) ?_};show Rp.osd0 (HZ fh c) CT j g λi t x k l=>(f i t x k l).frame (.refl _) λϊ z=>z.elim
 cases e;cases e
end
end Pu
namespace Zx
open PySem PySem.Spec PyProof.Rows L2 Zw
section
variable {A:Around}{E:Value->Shared->Prop}{M:Model}
end
section
variable {X:Cx}{i1 i2:Nat}{x1 x2 n1 n2:Str}{np1 np2 pos hpos1 hpos2:Pos}{body suite1 suite2:kj}{b1 b2:Stmt}{tb th1 th2:TS}{E:L2.St->XK}
end
end Zx
namespace Pu
open PySem PySem.Spec PyProof.Rows L2 Zw Zx
section
variable {X:Cx}{E:L2.St->XK}{ca:Str->Value}{mu:Bool}{i1 i2:Nat}{x1 x2 n1 n2:Str}{np1 np2 pos hpos1 hpos2:Pos}{body suite1 suite2:kj}{b1 b2:Stmt}{u h1 h2:AG}{cs1 cs2:List<|Str×Addr}
variable {m:AH}{e:Expr}{p p2 p3 p4:Pos}{c1 c2:Str}{t1 t2:List<|Addr×Bool}{kt:Nat}
end
end Pu
namespace Zx
open PySem PySem.Spec PyProof.Rows L2 Zw
def tTry0(K:ka)(W:Addr)(E:L2.St->XK)(e f:TS):TS:=λD O H=>e D O H/\∀c a d b,E c a d b->∃C,a=.ref C/\PySem.W.subIn K (.ref C) (.ref W)=!true/\f D c b
section
variable {X:Cx}{x:Str}{np pos hpos:Pos}{body suite:kj}{b₀:Stmt}{tb th:TS}{E:L2.St->XK}
def zll(T:ECls X.K X.mg x)(G:X.stack=X.env::X.outer)(hf:X.env.frame=!X.env.locals)(hb:∀pz xe,Cb (Ff X pz xe) E->Bf (Ff X pz xe) body tb)(hh:∀a,Bf (L5 X a) (b₀::suite) th)(hg:Gl X x)(hdb:(x == "__debug__")=false) :
  PS X (.Try body [.ExceptHandler (!(.Name x np)) () (b₀::suite) hpos] [] [] pos) (tTry0 X.K T.C E tb th):=by
 intro pz s O H D I h;let(h1,h2):=h
 show wpAny_Try_except (ô (hb pz (λe N=>wpAny (model X.prog X.w) X.A (noteFrame e X.env) (λϊ P=>wpAny (model X.prog X.w) X.A (setFlight e ()) (λϊ Q=>wpAny (model X.prog X.w) X.A (handleBy e X.env [.ExceptHandler (!(.Name x np)) () (b₀::suite) hpos]) (SP X pz D) X.xe Q) X.xe P) X.xe N)
  ?pass [] s O H D (zqy I) h1) (λf K q=>?_)<|λe K q=>q)
 case pass=>
  intro pins1 O1 H1 K e s' V hcx;have U :=aI (ok:=I.ok) V;let(a,Z,i,B,rfl,os,bare,un,hok,kB,tB,fl0,he):=hcx;let(c0,dx):=Z;let(C,y,J,kk):=h2 O1 c0 dx i he;have y :=y;subst y;have fl1 :=G▸fl0
  have sl:∀w,s'.heap.UpToSlots w->∀b o,K.heap.get? b=!o->H1 b=()->b∈Br X.stack->∃z,w.get? b=!{ o with slots:=z }:=λw S b o e n hb=>by
   let(_,o2,F,hd):=U.stack.mem hb;rw[e]at F;cases F;let(z2,e2):=un.slot b o e n hb<|by simp
   let(z3,e3):=S b { o with slots:=z2 } e2 hd;show{(z3),e3}
  have k :=λw st S=>
   U.call' (s':={ s' with heap:=w }) os {λb o e n hb ϊ=>st b o<|kB b o e n hb,λb o e n hb ϊ=>sl w S b o e n hb,un.free,λb o e ϊ=>by
    by_cases hb:b∈Br X.stack;let(z,q):=sl w S b o e (U.stkFree b hb) hb;show{_,q}
    let(o',q):=tB b o e hb;show{o',st b o' q},un.tups,un.frzs,un.tbls} (hok.kept st) bare (λϊ z=>nomatch z)
  show T6 (G▸I.ok.frames) rfl hf fl1 λh4 A L=>?_;show VC A λh5 t M=>?_;have Y:=k h5 t.1<|L.trans M;let(oe,he5,hc5):=t.there;let(cd,bm,dd,kf,mN,hC,_,_,TL):=lT Y.kIn T.k.q;show wpAny_handleBy_cons (codeAny_handlers_test<|Je (iR Y) hg T.m ?_ hdb) (by intro q;cases q)
  show exm hC he5 hc5 (TL.hasType Ū.hasBase) (W.looks_subIn Y.kIn J) ?_;show codeAny_handlers_suite<|zrw t λh6 fl6 sm6=>?_
  show ô (hh a pz _ O1 i D (iR<|k h6 fl6.1<|(L.trans M).trans sm6) kk) (λf s8 R=>?_)<|λϊ ϊ z=>False.elim z
  cases f with
  |next=>let(c,l,m,p):=R;show{c,l,NR I.ok m,p}
  |brk=>let(c,l,m,p):=R;show{c,l,NR I.ok m,p}
  |cont=>let(c,l,m,p):=R;show{c,l,NR I.ok m,p}
  |ret u=>let(v,c,l,m,r8,p):=R;show{v,c,l,NR I.ok m,r8,p}
 have g:∀{xe0 } {j } {i },Inv (Ff X pz xe0) [] j i K->Inv X pz j i K:=λΓ=>aI (ok:=I.ok) Γ;cases f with
 |next=>let(j,i,Γ,d):=q;show Ń {j,i,g Γ,d}
 |brk=>let(j,i,Γ,d):=q;show{j,i,g Γ,d}
 |cont=>let(j,i,Γ,d):=q;show{j,i,g Γ,d}
 |ret u=>let(v,j,i,Γ,r,d):=q;show{v,j,i,g Γ,r,d}
end
end Zx
namespace Pu
open PySem PySem.Spec PyProof.Rows L2 Zw Zx
def HQ(cs:List<|Str×Addr)(u h:AG):AG:=λY=>match u Y with
 |some (.xc c b)=>(match cs.lookup (HV c) with
  |some z=>(match h b with
   |some (.nx a)=>!(.nx a)|some (.rt t)=>!(.rt t)|z=>())
  |none=>())
 |r=>r
section
variable {X:Cx}{E:L2.St->XK}{ca:Str->Value}{mu:Bool}{x:Str}{np pos hpos:Pos}{body suite:kj}{b₀:Stmt}{u h:AG}{cs:List<|Str×Addr}
def zo2(T:ECls X.K X.mg x)(n:∀c C,cs.lookup c=!C->ca c=.ref C/\W.subIn X.K (.ref C) (.ref T.C)=!true)(r:X.stack=X.env::X.outer)(J:X.env.frame=!X.env.locals)
  (hb:∀(E' ) pz xe,Cb (Ff X pz xe) E'->Bf (Ff X pz xe) body (tS X.K E' ca mu u)) (hh:∀a,Bf (L5 X a) (b₀::suite)<|tS X.K E00 ca mu h) (K:Gl X x) (p:(x == "__debug__")=false) :
  PS X (.Try body [.ExceptHandler (!(.Name x np)) () (b₀::suite) hpos] [] [] pos) (tS X.K E ca mu<|HQ cs u h):=by
 intro pz s O H D I M;let(F,Y,R,S,q):=M;letI E':L2.St->XK:=λw g Z j=>∃c b e f,u Y=!(.xc c b)/\g=ca (HV c)/\Stp F H (tot R) e j (tot f)/\StR X.K e j w b f
 show zll T r J (λpz xe L=>hb E' pz xe L) hh K p pz s O H D I {{F,Y,R,S,?_},?_};unfold HQ at q;cases hu:u Y with
 |none=>rw[hu]at q;show q|some o=>
  cases o with
  |xc c b=>show λe Q U f st l Z Z=>{(c),b,e,f,hu,rfl,st,l}|_=>rw[hu]at q;show q
 intro w g _ j ⟨c,b,e,f,hu,m,st,l⟩;unfold HQ at q;erw[hu]at q;cases hl:cs.lookup (HV c) with
 |none=>erw[hl]at q<;>symm|some C=>
  erw[hl]at q;let(A,G):=n _ C hl;show{C,m.trans A,G,e,b,f,l,?_};cases hh:h b with
  |none=>erw[hh]at q<;>symm|some o=>
   erw[hh]at q;cases o with
   |nx P=>show λi k v y d z=>q i k v y (st.trans d) z|rt t=>show λi k x B d N=>q i k x B (st.trans d) N|bk Z=>symm|ct Z=>symm|xc Z V=>symm
variable {m mk ma:AH}{o k e a:Expr}{apos cpos p p2:Pos}
end
section
variable {X:Cx}{E:L2.St->XK}{ca:Str->Value}{m mk:AH}{o k e:Expr}{pos pos' apos cpos:Pos}
def Kg(i:Nat)(m:AH):AG:=λY=>match Y[i]? with
 |some (!(.int a))=>(match m Y with
  |some (.v (.int b) z)=>!(.nx<|Y.set i<|!(.int<|a+b))|z=>())
 |z=>()
def s_aug{mu:Bool}{i:Nat}{x:Str}(u:X.N.Nodup)(C:X.N[i]?=!x)(G:G2 X.env.scope x)(he:PE X e<|tM X.K E ca m)(A:X.fn x=true\/X.env.scope.names.lookup x=!.local) :
  PS X (.AugAssign (.Name x pos') .Add e pos) (tS X.K E ca mu<|Kg i m):=by
 show PS.weak (zp3 u C G he zqx A) λD O H h=>?_;let(F,Y,R,S,q):=h;unfold Kg at q;cases f:Y[i]? with
 |none=>rw[f]at q;symm|some I=>
  rw[f]at q;cases I with
  |none=>symm|some t=>
   cases t with
   |int a=>
    simp only at q;let(y,s,J):=S.rep i _ f;have g:=J.int_inv;subst g;show{_,s,F,Y,R,S,?_};cases o:m Y with
    |none=>rw[o]at q;symm|some r=>
     rw[o]at q;cases r with
     |x c=>symm|v t b=>
      cases t with
      |int z=>
       simp only at q;intro k l y B p g1;have g:=OJ g1;subst g;have d:Ext F H k l R0:=p.mono λϊ z=>z.elim
       show{a,z,rfl,rfl,?_};show q k l _ _ (d.stp0.mono λb ⟨j,w⟩=>{j,?_})<|(S.ext d).set (.int<|a+z) (λϊ Z Z Z z=>z.elim) (Ê.mp f).1
       by_cases n:j=i;erw[n,Æ]at w;show w.elim;simpa[n] using w
      |_=>symm
   |_=>symm
def tRv(K:ka)(d:TE)(ts:TO):TE:=λO H Q=>d O H λx c=>ts O c λk b=>∃a xs,k=!(-1)/\x=.ref a/\Ag K b a xs/\∀p,b p=()->Q (.ref p) (upd b p<|.lst xs.reverse)
def zid{xs:qC}{us:ke}(h:Ar xs us):Ar xs.reverse us.reverse:=by
 induction h with
 |nil=>show .nil|cons a z b=>rw[List.reverse_cons,List.reverse_cons];show b.append<|.cons a .nil
def pe_rv{j:TE}{ts:TO}{st:Expr}{i:Pos}(he:PE X e j)(hs:PO X ↑st ts):PE X (.Subscript e (.Slice () () ↑st i) pos)<|tRv X.K j ts:=by
 intro d s O H Q I h;show Subscript_<|A6 (he d s O H _ I h) λv y z=>?_
 let(x,m,n,w,u):=z;show wpAny_Slice ?_;rw[evalPart_none];show Ï<|Ï ?_;show A6 (hs d y O m _ n u) λl c ⟨k,H3,I3,pk,q3⟩=>?_
 let(a,xs,rfl,rfl,p,q):=q3;cases w;let f:Inv X d O H3 { c with heap:=c.heap.push { cls:=.type "slice",data:=.fields #[.none,.none,l] } }:=I3.kept (t':=c.toks) λb ob q=>Ó _ q
 let(t,r,g,hz):=f.list p;show(?_:wpAny (model X.prog X.w) X.A (subscriptTail e (.Slice () () ↑st i) (.ref a)<|.ref c.heap.objs.size) (EP X d O Q) X.xe { c with heap:=c.heap.push { cls:=.type "slice",data:=.fields #[.none,.none,l] } })
 show tail_any (ops:=[.ref a,.ref c.heap.objs.size]) g.isList.typeIs slot_list_getitem.lookup (wpAny_getItem_list_slice g.isList (Heap.IsSliceOf.new ..) .none .none pk (by decide) ?_ (by rw[í,<- r.length];show hz))<|by with_unfolding_all rfl
 rw[W.krv_pick];show{.ref _,_,f.laid (t':=c.toks) (o:=.lst xs.reverse) (λb ob q=>Ó _ q) (Ã _) ?_,rfl,q _<|f.hok.fresh<|Ã _};show{by rw[ő];show hz,_,0,zid r,á _ rfl}
def Jd(m mk:AH):AH:=λY=>match m Y with
 |some (.v (.nd z .lst l) false)=>(match FE ↑mk Y with
  |some !k=>if k=-1 then ↑(.v (.own (BA l).reverse) false) else ()
  |z=>())
 |z=>()
def zl6{K:ka}{F:Hp}{l:qD}{xs:qC}(h:As K F l xs):As K F l.reverse xs.reverse:=by
 let(c,d):=h;show{by simp[c],λi t x a b=>?_};let e:i<l.length:=by simpa using (Ê.mp a).1
 rw[ź e]at a;rw[ź<|by lia]at b;show d _ t x a ?_;rw[c];show b
def r_rv{st:Expr}{L:Pos}(ha:PE X e<|tM X.K E ca m)(hs:PO X !st<|HL X.K !mk):PE X (.Subscript e (.Slice () () ↑st L) pos)<|tM X.K E ca<|Jd m mk:=by
 show PE.weak (pe_rv ha hs) λO H Q h=>?_;let(F,Y,R,S,q):=h;show{F,Y,R,S,?_};unfold Jd at q;cases s:m Y with
 |none=>rw[s]at q;symm|some r=>
  rw[s]at q;cases r with
  |x c=>symm|v t b=>
   cases t with
   |nd o kd l=>
    cases kd with
    |lst=>
     cases b with
     |true=>symm|false=>
      simp only at q;intro N P x B G g1;let(a,d,_,M):=EY.frz (b:=false) S G g1;have D:=S.ext d;cases j:FE ↑mk Y with
      |none=>rw[j]at q;symm|some ok=>
       rw[j]at q;cases ok with
       |none=>symm|some k=>
        simp only at q;by_cases hk:k=-1;rw[if_pos hk]at q;show{a,Y,R,!k,D,j,λi A f=>?_};have u:Rp X.K i i (T.nd o .lst l).share x R0:=(show Rp X.K a a _ x R0 from M).frame f.ff λϊ z=>z.elim;rw[T.share]at u;let(p,xs,rfl,_,K,J):=E2 u;show{p,xs,by rw[hk],rfl,Ag.of<|f.fh _ _ K,λU n=>?_}
        have I:Dw X.K i A (.own (BA l).reverse) Q:=λw y z C e g=>q w y z C ((d.trans0 f).trans0 e) g;show I.list f.fh (zl6 J) n;rw[if_neg hk]at q;symm
    |_=>symm
   |_=>symm
end
abbrev iU(ms:BM):BM:=Cf ms
theorem r_enX{X:Cx}{E:L2.St->XK}{ca:Str->Value}{ms:BM}{a:Expr}{b:kh}{f:Nat}{p pos c:Pos}(d:Gl X "enumerate")(e:X.mg "enumerate"=())(ha:PA X [a]<|CI X.K E ca ms)(hs:starEach [a] X.env=[(false,eval a X.env)]):PI X (.Tuple b f c) (.Call (.Name "enumerate" p) [a] [] pos)<|tI X.K E ca<|iU ms:=Z9 d e ha hs
def clsO(C N:Addr)(o:Obj):Prop:=∃nm q bs b k sub d c e f g h i j a,o=excClassObj nm q C N bs [.type "object"] b k sub d c e f g h i j a
def keyO(e:DictEntry):Bool:=match e.key with
 |.str n z=>(not (n == ("__eq__":Str))) && (not (n == ("__ne__":Str)))|z=>false
def nsO(o:Obj):Bool:=match o.data with
 |.dict a z=>a.toList.all keyO|z=>false
structure TiOk(K:ka)(C:Addr):Prop where
 i:ICls K C
 k:(JT.all λc=>W.kitOne K (.ref C) (.type c) == !false)=true
 o:∃(oC oN:Obj) (N:Addr),K.lookup C=!oC/\clsO C N oC/\K.lookup N=!oN/\nsO oN=true
end Pu
namespace Zx
open PySem PySem.Spec PyProof.Rows L2 Zw
section
variable {M:Model}{prog:Program}{w:World}{A:Around}{E:Value->Shared->Prop}{env:Env}{nm q:Str}{C N:Addr}{bs bm:ke}{hdct:Bool}{sn:kq}{sub:ke}{ab:Bool}{col:Option Bool}{dd:Option Addr}{k0 k1 k2 k3 k5:Option Value}{newId:String}
variable {K:ka}{s:Shared}{e:Addr}{vs:Array Value}{sl:Array<|Option Value}{name:Str}{v:Value}
end
section
variable {K:ka}{prog:Program}{w:World}{A:Around}{E:Value->Shared->Prop}{s:Shared}{a C:Addr}{name:Str}{u:Value}
variable {X:Cx}{pz:List<|Addr×Obj}{O:L2.St}{H:Hp}{t:Addr}
end
section
variable {X:Cx}{E:L2.St->XK}{C:Addr}{x:Str}{p pos:Pos}{e:Expr}{t:TA}{k j:Nat}
end
section
variable {X:Cx}{pz:List<|Addr×Obj}{O:L2.St}{H:Hp}{s:Shared}{a C t:Addr}{dx:Option Addr}
variable {E:L2.St->XK}{e:Expr}{pos:Pos}{te:TE}
end
end Zx
noncomputable section
namespace Pu
open PySem PySem.Spec PyProof.Rows L2 Zw Zx
structure Fn where
 lv:Nat
 ps:kq
 g:qD->Option Ru
structure Gx where
 co:List (Str×T)
 cl:List (Str×Addr×kq)
 mt:List (Str×Addr×kq×Fn)
 nw:List (Str×Fn×List (Nat×qD))
 nr:Bool
 tx:Bool
 df:Bool
 sf:Option (Addr×kq)
 xs:List (Str×List (Str×Addr))
 sb:List (Str×List (Addr×Bool))
 sv:List (Str×List (Addr×Bool))
 no:Bool
 fo:kq
 ci:List (Str×List (Addr×Bool))
 x2:List (Str×Str×List (Str×Addr))
 gt:kq
 wd:List (Str×Fn)
 pn:kq
 ti:List Addr
 dn:List (Str×Fn×qD)
 rn:Option<|Addr×Nat
abbrev Bb:Gx:={[],[],[],[],false,true,true,(),[],[],[],true,[],[],[],[],[],[],[],[],()}
structure Gm where
 N:kq
 nm:List (Str×NameKind)
 ce:kq
 lv:Nat
 fns:List (Str×Fn)
 bl:kq
 ex:kq
 ow:kq
 pk:kq
 mu:Bool
 mus:List (Str×Fn)
 mv:kq
 dc:kq
 ox:Gx
def DM(x:Str):Bool:=(not (x == ("__debug__":Str))) && (not (x == ("__classdict__":Str))) && (not (x == ("__name__":Str)))
def Q7(nm:List<|Str×NameKind)(x:Str):Bool:=nm.lookup x == ↑.local || nm.lookup x == ↑.cell || nm.lookup x == !.free
def Cg(nm:List<|Str×NameKind)(x:Str):Bool:=nm.lookup x == !.globalImplicit
def Dp(N:kq)(x:Str):Option Nat:=N.findIdx? (· == x)
def Gm.var(J:Gm)(x:Str):Option Nat:=if DM x && Q7 J.nm x then Dp J.N x else ()
def Gm.loc(J:Gm)(x:Str):Bool:=DM x && (J.nm.lookup x == ↑.local || J.ce.contains x)
def EJ:Expr->Bool
 |.Starred ..=>false|z=>true
def GC:Expr->Bool
 |.IfExp ..=>false|.NamedExpr ..=>false|z=>true
def nmOf:Expr->Option (Str×Pos)
 |.Name x p=>!(x,p)|z=>()
def Qc:kh->kq
 |[]=>[]|e::a=>(match nmOf e with
  |some (x,z)=>x::Qc a|none=>Qc a)
def Eu:Expr->kq
 |.Name x z=>[x]|.Tuple a z y=>Qc a|z=>[]
def zqw:Expr->Bool
 |.Tuple ..=>true|z=>false
def Gs:Expr->Bool
 |.Slice ..=>true|z=>false
def FG(nm:List<|Str×NameKind):kq:=nm.filterMap λ(y,k)=>if k == .free then ↑y else ()
def WV(nm:List<|Str×NameKind):kq:=nm.filterMap λ(y,k)=>if k == .cell then ↑y else ()
def Ki(a outer:List<|Str×NameKind):List<|Str×NameKind:=a.map λ(n,k)=>if (k == .free && outer.lookup n == !.cell) then (n,.cell) else (n,k)
def L7(N:kq):kq->Option (kz)
 |[]=>![]|y::r=>(match Dp N y with
  |some i=>(match L7 N r with
   |some l=>!(i::l)|none=>())
  |none=>())
def La(J:Gm)(a:Scope)(b:kq):Bool:=
 (a.kind == .function) && a.names.all (λx=>(not (x.2 == .local)) || a.names.lookup x.1 == !.local) &&
 a.names.all (λx=>(not (x.2 == .free)) || (a.names.lookup x.1 == ↑.free && (J.nm.lookup x.1 == ↑.cell || J.nm.lookup x.1 == !.free) && (not (a.names.contains (x.1,NameKind.cell))))) &&
 decide b.Nodup && (WV a.names).all (λy=>(Ki a.names J.nm).lookup y == !.cell)
def Gm.blk(J:Gm)(a:Scope)(b:kq):Gm:={ J with N:=b,nm:=Ki a.names J.nm,ce:=(WV a.names).filter λy=>a.names.lookup y == !.cell,ow:=[],ox:={ J.ox with df:=false,nr:=true } }
def T7:Expr->Bool
 |.Set ..=>false|z=>true
def Gu:Expr->Bool
 |.ListComp ..=>true|.SetComp ..=>true|.DictComp ..=>true|z=>false
def iO:Expr->Bool
 |.Attribute ..=>true|z=>false
def gtN(J:Gm):Expr->Bool
 |.Name x z=>J.ox.gt.contains x|z=>false
def Gd:Expr->Bool
 |.Call z a y x=>(not a.isEmpty)|z=>true
def Ov(h:Gd o=true):attributeBase o f env (eval o env)=eval o env:=by
 cases o with
 |Call g a b c=>
  cases a with
  |nil=>cases h|cons e a=>cases g<;>rfl
 |_=>rfl
def zgj(h:Gd o=true)(a:((backTo pos<|starEach es env).all λx=>(not x.1))=true)(hn:es.length<30)(hl:(ap.endLine == pos.line)=true):∃pl ,eval (.Call (.Attribute o f ap) es [] pos) env=(do
   let ov <- eval o env
   standAt ap.atName
   let (f,first) <- holding [ov] (getMethod ov f pl)
   callWith pos f first (backTo pos<|starEach es env) (backToKw pos<|keywordEach [] env)):=by
 show{do let b <- importBound o env;pure (b.getD true),?_}
 let e:methodCallForm (es.length+([]:List Keyword).length) (backTo pos<|starEach es env) (backToKw pos<|keywordEach [] env)=true:=by
  unfold methodCallForm;rw[a];show(?_:(true && true && decide (es.length+0+0<30))=true);rw[Ä<|by lia];rfl
 rw[arm_eval_Call,Ov h];unfold methodCall calleeOf methodCallPos;rw[e,hl];rfl
structure GxOk(G:Gx)(lv:Nat)(P:Program)(w:World)(K:ka)(mg:Str->Option Value)(base:Heap)(ca:Str->Value):Prop where
 co:∀x t,G.co.lookup x=!t->∃u v,mg x=!u/\Ab v u/\∀F:Hp,Rp K F F t v R0
 cl:∀c∈G.cl,Cls K c.2.1/\∀f∈c.2.2,Bn K c.2.1 f
 mt:∀c∈G.mt,c.2.2.2.lv<=lv/\Nonempty (MetX P w K mg base c.2.1 c.1 c.2.2.2.lv c.2.2.2.ps<|Bz K ca c.2.2.2.g)
 nw:∀x F ds,G.nw.lookup x=!(F,ds)->F.lv+1<=lv/\∃(C:Addr) (D:NewX P w K mg base x C F.lv F.ps<|Ka K ca C F.g),∀k dts,ds.lookup k=!dts->∃dvs us,Ct K D.fd F.ps us/\Ar dvs us/\∀H:Hp,As K H dts dvs
 sf:∀C fs,G.sf=!(C,fs)->Cls K C/\∀f∈fs,Bn K C f
 xs:∀W cs,G.xs.lookup W=!cs->∃T:ECls K mg W,∀c C,cs.lookup c=!C->ca c=.ref C/\PySem.W.subIn K (.ref C) (.ref T.C)=!true
 sb:∀D tb,G.sb.lookup D=!tb->∃A:Addr,mg D=!(.ref A)/\∀C b,tb.lookup C=!b->ExcK K C/\PySem.W.kitOne K (.ref C) (.ref A)=!b
 sv:∀D tb,G.sv.lookup D=!tb->mg D=()/\∃t,bootBuiltins D=!(.type t)/\∀C b,tb.lookup C=!b->ExcK K C/\PySem.W.kitOne K (.ref C) (.type t)=!b
 ci:∀x tb,G.ci.lookup x=!tb->∃D:Addr,mg x=!(.ref D)/\(∀C b,tb.lookup C=!b->ICls K C/\PySem.W.kitOne K (.ref C) (.ref D)=!b)/\(M5.all λa=>PySem.W.kitOne K (.type a) (.ref D) == !false)=true
 x2:∀W1 W2 cs,(W1,W2,cs)∈G.x2->∃(T1:ECls K mg W1) (T2:ECls K mg W2),∀c C,cs.lookup c=!C->ca c=.ref C/\PySem.W.subIn K (.ref C) (.ref T1.C)=!false/\PySem.W.subIn K (.ref C) (.ref T2.C)=!true
 wd:∀x F,G.wd.lookup x=!F->F.lv<=lv/\∃p,F.ps=[p]/\Nonempty (DefS P w K mg base F.lv x p<|Bz K ca F.g)
 ti:∀C∈G.ti,TiOk K C
 dn:∀x y,G.dn.lookup x=!y->y.1.lv<=lv/\∃(D:DefX P w K mg base y.1.lv x y.1.ps<|Bz K ca y.1.g) (dvs:qC),DefsX K D.fd y.1.ps dvs/\∀H:Hp,As K H y.2 dvs
 rn:True
structure CxOk(J:Gm)(X:Cx)(E:L2.St->XK)(ca:Str->Value):Prop where
 N:X.N=J.N
 nd:J.N.Nodup
 nm:X.env.scope.names=J.nm
 kd:X.env.scope.kind=.function
 calm:X.calm=true
 room:Room J.lv X.A
 ce:∀x∈J.ce,X.fn x=true/\J.nm.lookup x=!.cell
 bl:∀b∈J.bl,X.mg b=()
 ps:Cb X E
 po:J.ox.nr=false->PassesOwn (model X.prog X.w) X.A X.env X.xe
 md:J.ox.nr=false->Xb X E
 mn:True
 fs:∀f F,J.fns.lookup f=!F->F.lv<=J.lv/\Nonempty (DefX X.prog X.w X.K X.mg X.base F.lv f F.ps<|Bz X.K ca F.g)
 ex:∀c∈J.ex,∃T:ECls X.K X.mg c,ca c=.ref T.C/\EO X.K T.C=!()
 ms:∀f F,J.mus.lookup f=!F->F.lv<=J.lv/\Nonempty (DefX X.prog X.w X.K X.mg X.base F.lv f F.ps<|G9 X.K ca F.g)
 gx:GxOk J.ox J.lv X.prog X.w X.K X.mg X.base ca
 tr:J.ox.df=true->X.stack=X.env::X.outer/\X.env.frame=!X.env.locals
 fr:JL X
def Hj(h:Dp N x=!i):N[i]?=!x:=by
 unfold Dp at h;let(a,b,_):=ģ.mp h;rw[Á a];show congrArg some<|eq_of_beq b
def EA(h:DM x=true):(x == "__debug__")=false/\(x == "__classdict__")=false/\x≠"__name__":=by
 unfold DM at h;grind
def YI(h:Q7 sc.names x=true):EW sc x:=by
 unfold Q7 at h;erw[Ē,Ĕ]at h;rcases h with (h|h)|h;show .inl h;show .inr<|.inl h
 show .inr<|.inr h
def Cv(h:EJ e=true):starEach (e::es) env=(false,eval e env)::starEach es env:=by
 cases e<;>first|rfl|cases h
def G8:∀{es} {env} {pos},(∀e∈es,EJ e=true)->(backTo pos<|starEach es env).any (·.1)=false
 |[],env,pos,z=>rfl|e::es,env,pos,h=>by
  rw[Cv<|h e (Î ..)];let b:=G8 (env:=env) (pos:=pos) λx a=>h x<|Ë _ a
  show(?_:(false || (backTo pos<|starEach es env).any (·.1))=false);grind
section
variable {J:Gm}{X:Cx}{E:L2.St->XK}{ca:Str->Value}
nonrec def CxOk.var(C:CxOk J X E ca){pos:Pos}(h:J.var x=!i):X.N[i]?=!x/\EW X.env.scope x/\(x == "__debug__")=false/\(x == "__classdict__")=false:=by
 unfold Gm.var at h;split at h;rename_i a;rw[È]at a;let(b,c,d):=EA a.1;show{by rw[C.N];show Hj h,YI (by rw[C.nm];show a.2),b,c}
 cases h
def CxOk.gl(C:CxOk J X E ca)(h:Cg J.nm x=true):Gl X x:=by
 show(?_:X.env.scope.names.lookup x=!.globalImplicit);rw[C.nm];show eq_of_beq h
def CxOk.loc(C:CxOk J X E ca)(h:J.loc x=true)(a:Dp J.N x=!i):X.N[i]?=!x/\G2 X.env.scope x/\(X.fn x=true\/X.env.scope.names.lookup x=!.local):=by
 unfold Gm.loc at h;erw[È,Ē,Ĕ]at h;show{by rw[C.N];show Hj a,?_};rcases h.2 with h|h;show{.inl (by rw[C.nm];show h),.inr (by rw[C.nm];show h)};let(c1,c2):=C.ce x<|ö.mp h;show{.inr (by rw[C.nm];show c2),.inl c1}
def CxOk.nodup(C:CxOk J X E ca):X.N.Nodup:=by rw[C.N];show C.nd
def gU(C:CxOk J X E ca)(b:J.loc x=true)(c:Dp J.N x=!i):PG X (.Name x pos)<|Ew X.K<|AD i:=by
 let(g1,g2,a):=C.loc b c;show g_nm C.nodup g1 g2 a
nonrec def mU:∀{ys} {caps},L7 N ys=!caps->ys.length=caps.length/\∀(k j:Nat),caps[k]?=!j->∃y,ys[k]?=!y/\N[j]?=!y
 |[],caps,h=>by cases h;show{rfl,λk j e=>by simp at e}|y::r,caps,h=>by
  unfold L7 at h;split at h;rename_i i c;split at h;rename_i l hl;cases h;let(a,b):=mU hl;show{by simp[a],λk j e=>?_}
  cases k with
  |zero=>simp at e;subst e;show{y,rfl,Hj c}|succ k=>show b k j<|by simpa using e
  cases h;cases h
def zhc(h:y∈FG nm):(y,NameKind.free)∈nm:=by
 unfold FG at h;grind
def nD(C:CxOk J X E ca)(h:La J scope (Eu tg++FG scope.names)=true)(l:L7 J.N (FG scope.names)=!caps):BlkOk X scope (Eu tg++FG scope.names) (Eu tg).length caps:=by
 unfold La at h;erw[È]at h;let((((f,g),i),n),o):=h;let(l1,m):=mU l
 let free:∀y∈scope.names,y.2=.free->scope.names.lookup y.1=!.free/\(J.nm.lookup y.1=!.cell\/J.nm.lookup y.1=!.free)/\(y.1,NameKind.cell)∉scope.names:=λy a b=>by
  let q:=Ñ.mp i y a;erw[b,õ,ř,ĺ,È,Ĕ,Ē,Ķ]at q;show{q.1.1,q.1.2,λz=>?_};let:=ö.mpr z;rw[this]at q;show Bool.noConfusion q.2
 show{eq_of_beq f,λy a hl=>?_,by simp[l1],λk j e=>?_,λy a b=>?_};let q:=Ñ.mp g y a;erw[hl,õ,ř,ĺ,Ĕ]at q;show q;let(y,c,d):=m k j e;let fm:=zhc<|ú c;let(f1,_,f3):=free _ fm rfl;show{y,by rw[C.N];show d,?_,f1,f3}
 rw[Ė<|by lia];simpa using c;let(f1,f2,_):=free y a b;show{f1,?_};rw[C.nm];show f2
def ziq(hk:env.scope.kind=.function):(relabel scope env).names=Ki scope.names env.scope.names:=by
 unfold relabel Ki;let e:(env.scope.kind == ScopeKind.function)=true:=by rw[hk];rfl
 erw[e,Ś];rfl
theorem fW:True:=trivial
def nF(C:CxOk J X E ca){a:Scope}{c:kq}(h:La J a c=true)(cl)(A:Addr)(s₀:Shared)(H₀:Hp)(ex:List Addr)(xb)(g:Cb (EF X a cl c A s₀ H₀ ex xb) E'):CxOk (J.blk a c) (EF X a cl c A s₀ H₀ ex xb) E' ca:=by
 unfold La at h;erw[È]at h;let((((d,j),k),e),f):=h;show{rfl,Ü e,?_,?_,C.calm,C.room,λx i=>?_,C.bl,g,λz=>(by cases z),λz=>(by cases z),fW,C.fs,C.ex,C.ms,{(C.gx.co),C.gx.cl,C.gx.mt,C.gx.nw,C.gx.sf,C.gx.xs,C.gx.sb,C.gx.sv,C.gx.ci,C.gx.x2,C.gx.wd,C.gx.ti,C.gx.dn,C.gx.rn},λz=>(by cases z),C.fr}
 show(?_:(relabel a X.env).names=Ki a.names J.nm);rw[ziq C.kd,C.nm];show eq_of_beq d;let b:x∈(WV a.names).filter λy=>a.names.lookup y == !.cell:=i;rw[Ļ]at b;show{Ä<|eq_of_beq b.2,?_};show eq_of_beq<|Ñ.mp f x b.1
end
def V9(h:T7 e=true)(x):foldedSetIterable e env x=pure x:=by
 cases e<;>first|rfl|cases h
theorem NC(h:Gs k=false):KR k:=λo i=>by
 cases k<;>first|rfl|cases h
def D0{b:Bool}(h:(not b)=true):b=false:=by cases b<;>first|rfl|cases h
def gd{α:Type}:(b:Bool)->(b=true->Option α)->Option α
 |true,k=>k rfl|false,z=>()
def oe{α β:Type}:(o:Option α)->((a:α)->o=!a->β)->β->β
 |some a,k,z=>k a rfl|none,z,d=>d
abbrev ob{α β:Type}(o:Option α)(k:(a:α)->o=!a->Option β):Option β:=oe o k ()
structure ER(J:Gm)(e:Expr) where
 m:AH
 ok:∀{X:Cx} {E:L2.St->XK} {ca:Str->Value},CxOk J X E ca->PE X e (tM X.K E ca m)/\(GC e=true->PT X e (B7 X.K E ca m))
structure AR(J:Gm)(es:kh) where
 m:BM
 ok:∀{X:Cx} {E:L2.St->XK} {ca:Str->Value},CxOk J X E ca->PA X es (CI X.K E ca m)
 st:∀e∈es,EJ e=true
 nl:es=[]->m=AE
structure OR(J:Gm)(es:kh) where
 m:BM
 ok:∀{X:Cx} {E:L2.St->XK} {ca:Str->Value},CxOk J X E ca->PA X es (JY X.K E ca m)
structure BR(J:Gm)(op:BoolOp)(es:kh) where
 m:AH
 ok:∀{X:Cx} {E:L2.St->XK} {ca:Str->Value} {pos:Pos},CxOk J X E ca->PE X (.BoolOp op es pos) (tM X.K E ca m)/\PW X (.BoolOp op es pos) (B7 X.K E ca m)
structure PR(J:Gm)(o:Option Expr) where
 m:Option (AH)
 ok:∀{X:Cx} {E:L2.St->XK} {ca:Str->Value},CxOk J X E ca->PO X o (HL X.K m)
structure LR(J:Gm)(elt tg iter:Expr)(ifs:kh)(scope:Scope) where
 m:AH
 ok:∀{X:Cx} {E:L2.St->XK} {ca:Str->Value},CxOk J X E ca->∃caps mi b mt me,m=Az (Eu tg).length caps mi b mt me/\BlkOk X scope (Eu tg++FG scope.names) (Eu tg).length caps/\PI X tg iter (tI X.K E ca mi) /\
   (∀E',AC X scope (Eu tg++FG scope.names) E' λτ=>PG τ tg (Ew X.K b)/\IB τ ifs (B7 X.K E' ca mt)/\PE τ elt (tM X.K E' ca me))/\∀x,foldedSetIterable iter X.env x=pure x
structure IR(J:Gm)(tg e:Expr) where
 m:BM
 ok:∀{X:Cx} {E:L2.St->XK} {ca:Str->Value},CxOk J X E ca->PI X tg e (tI X.K E ca m)
 ns:T7 e=true
structure GR(J:Gm)(tg:Expr) where
 m:T->AL->Option AL
 ok:∀{X:Cx} {E:L2.St->XK} {ca:Str->Value},CxOk J X E ca->PG X tg (Ew X.K m)
structure GsR(J:Gm)(es:kh) where
 m:qD->AL->Option AL
 ok:∀{X:Cx} {E:L2.St->XK} {ca:Str->Value},CxOk J X E ca->Ea X es (IM X.K m)/\(assignEach es X.env).length=es.length/\(assignEach es X.env).findIdx? (·.1)=()
structure SR(J:Gm)(s:Stmt) where
 m:AG
 ok:∀{X:Cx} {E:L2.St->XK} {ca:Str->Value},CxOk J X E ca->PS X s (tS X.K E ca J.mu m)
structure QR(J:Gm)(ss:kj) where
 m:AG
 ok:∀{X:Cx} {E:L2.St->XK} {ca:Str->Value},CxOk J X E ca->Bf X ss (tS X.K E ca J.mu m)
structure Dc where
 e:(J:Gm)->(e:Expr)->Option (ER J e)
 a:(J:Gm)->(es:kh)->Option (AR J es)
 o:(J:Gm)->(es:kh)->Option (OR J es)
 b:(J:Gm)->(op:BoolOp)->(es:kh)->Option (BR J op es)
 s:(J:Gm)->(s:Stmt)->Option (SR J s)
 q:(J:Gm)->(ss:kj)->Option (QR J ss)
theorem ER.t(r:ER J e)(h:GC e=true)(C:CxOk J X E ca):PT X e<|B7 X.K E ca r.m:=(r.ok C).2 h
def M7:Expr->Prop
 |.UnaryOp ..=>False|.BoolOp ..=>False|.IfExp ..=>False|.Compare ..=>False|z=>True
def YU(h:M7 e)(whole):isTrue e env whole=(do let v <- whole;standAt e.pos;holding [v] (truthy v)):=by
 cases e<;>first|rfl|show False.elim h
def vl{J:Gm}{e:Expr}(m:AH)(h:∀{X:Cx} {E:L2.St->XK} {ca:Str->Value},CxOk J X E ca->PE X e (tM X.K E ca m))(t:M7 e:=by trivial):Option<|ER J e:=!{m,λC=>{h C,λϊ=>TM (h C)<|YU t}}
structure OG(op:Operator) where
 g:T->T->q9
 ok:∀{X:Cx},Ay X (binaryOp op)<|CA X.K g
def opF:(op:Operator)->Option (OG op)
 |.Add=>!{(BW),zma}|.Sub=>!{(FL),zm4}|.Mult=>!{(Bi),zm6}|.Mod=>!{(Ba),zm7}|.FloorDiv=>!{(Co),zj7}|.Pow=>!{(FU),zm5}|.BitOr=>!{(L9),zm9}|.BitAnd=>!{(Lb),zj8}|z=>()
structure CG(op:CmpOp) where
 g:T->T->q9
 ok:∀{J:Gm} {X:Cx} {E:L2.St->XK} {ca:Str->Value},CxOk J X E ca->Ay X (compareOp op) (CA X.K g)
def mQ:(op:CmpOp)->Option (CG op)
 |.Eq=>!{BS,λC=>zpw C.room.units}|.NotEq=>!{Cm,λC=>zpt C.room.units}|.Lt=>!{CD λi j=>decide (i<j),λϊ=>NM op_lt}|.LtE=>!{CD λi j=>decide (i<=j),λϊ=>NM aE}|.Gt=>!{CD λi j=>decide (j<i),λϊ=>NM op_gt}|.GtE=>!{CD λi j=>decide (j<=i),λϊ=>NM op_ge}|.Is=>!{BO false,λϊ=>zpu}|.IsNot=>!{BO true,λϊ=>zgf}|.In=>!{ES,λC=>zpv C.room.units}|.NotIn=>!{FX,λC=>zge C.room.units}
def mR:(op:CmpOp)->Option (CG op)
 |.LtE=>!{GO,λϊ=>zm8}|op=>mQ op
def eCst(J:Gm)(c:Const)(k:Nat)(pos:Pos):Option<|ER J<|.Constant c k pos:=match c with
 |.int i=>vl (mC<|.int i) λϊ=>Kj zpj λϊ z=>.int i|.bool b=>vl (mC<|.bl b) λϊ=>Kj pe_bl λϊ z=>.bl b|.none=>vl (mC .non) λϊ=>Kj Zs λϊ z=>.non|.str x=>vl (mC<|.str x) λϊ=>Kj zpe λϊ z=>.str x|z=>()
theorem CxOk.v(C:CxOk J X E ca)(h:J.var x=!i):PE X (.Name x pos)<|tM X.K E ca<|AA i:=
 let ⟨h1,h2,h3,h4⟩:=C.var (pos:=pos) h
 Z0 h1 h2 h3 h4
def eNam(J:Gm)(x:Str)(pos:Pos):Option<|ER J<|.Name x pos:=oe (J.var x) (λi b=>vl (AA i) λC=>C.v b) (gd (DM x && Cg J.nm x) λa=>ob (J.ox.co.lookup x) λt c=>vl (mC t) λC=>by
 rw[È]at a;obtain⟨u,v,d,e,f⟩:=C.gx.co x t c;show r_con (C.gl a.2) d e (EA a.1).1 f)
def l7{J:Gm}{e:Expr}(t:M7 e)(a:Option<|ER J e)(b:Option<|ER J e):Option<|ER J e:=a.bind λa=>match b with
 |some b=>vl (Ax a.m b.m) (λC=>TN (a.ok C).1 (b.ok C).1) t|none=>!a
def WI{J:Gm}{o:Expr}{f:Str}{pos:Pos}(r:ER J o)(b:Gd o=true):(L:List<|Str×Addr×kq)->(∀c∈L,c∈J.ox.cl)->Option (ER J<|.Attribute o f pos)
 |[],z=>none|c::L,a=>oe (c.2.2.findIdx? (· == f)) (λj d=>l7 trivial (vl (AU c.2.1 c.2.2 j r.m) λC=>by
   obtain⟨e,g⟩:=C.gx.cl _<|a _ (Î ..)
   let i:f∈c.2.2:=by
    obtain⟨k,l,_⟩:=ģ.mp d;rw[<- eq_of_beq l];show ë k
   show r_fld e (g f i) d (r.ok C).1 (Ov b)) (WI r b L λc h=>a c<|Ë _ h))<|WI r b L λc h=>a c<|Ë _ h
def zmf(r:ER J o)(a:AR J es)(s:Gd o=true)(p:(ap.endLine == pos.line)=true)(j:es.length<30)(m:(f,g)∈J.ox.mt)(l:g.2.1.contains f=false){X:Cx}   (C:CxOk J X E ca) :
  PE X (.Call (.Attribute o f ap) es [] pos) (tM X.K E ca<|BY g.1 g.2.1 g.2.2.g r.m a.m):=by
 obtain⟨k,⟨D⟩⟩:=C.gx.mt _ m;have w:=(r.ok C).1;have ha:=a.ok C;have i:=a.st;have d:=a.nl;generalize a.m=ms at ha d
 clear a
 let(T,y):=zgj (f:=f) (ap:=ap) (pos:=pos) (es:=es) (env:=X.env) s (by
  have:=G8 (env:=X.env) (pos:=pos) i;rw[Ñ];intro z hz;rw[List.any_eq_false]at this
  simpa using this z hz) j p
 cases es with
 |cons e es=>show zol D l C.room C.ps w ha k (Cv<|i e (Î ..)) (G8 λx P=>i x<|Ë e P) y|nil=>
  show PE.weak (pmx0 D C.room C.ps w k y) λO H Q h=>?_;let(F,Y,R,S,q):=Y4 l h;show{F,Y,R,S,?_};cases m:r.m Y with
  |none=>rw[m]at q;show q|some r=>
   rw[m]at q;cases r with
   |x c=>show q|v t b=>intro A G x B K g1;let(a,I,n,L,M,N,u):=q A G x B K g1;show{a,I,n,L,M,N,?_};rw[d rfl]at u;show IJ u
def WH{J:Gm}{o:Expr}{f:Str}{ap pos:Pos}{es:kh}(r:ER J o)(a:AR J es)(e:Gd o=true)(d:(ap.endLine == pos.line)=true)(b:es.length<30):(L:List<|Str×Addr×kq×Fn)->(∀c∈L,c∈J.ox.mt)->Option (ER J<|.Call (.Attribute o f ap) es [] pos)
 |[],z=>none|c::L,i=>if h:c.1=f/\c.2.2.1.contains f=false then l7 trivial (vl (BY c.2.1 c.2.2.1 c.2.2.2.g r.m a.m) λC=>zmf r a e d b (g:=c.2) (h.1▸i c (Î ..)) h.2 C) (WH r a e d b L λc h=>i c<|Ë _ h) else WH r a e d b L λc h=>i c<|Ë _ h
def eAtt(D:Dc)(J:Gm)(o:Expr)(f:Str)(ap:Pos)(es:kh)(d:List Keyword)(c:Pos):Option<|ER J<|.Call (.Attribute o f ap) es d c:=match d with
 |[]=>gd (Gd o && (ap.endLine == c.line) && decide (es.length<30)) λb=>(D.e J o).bind λr=>(D.a J es).bind λa=>
  have b:(Gd o=true/\(ap.endLine == c.line)=true)/\es.length<30:=by
   rw[È,È,ü]at b;show b
  if e:f="index" then (match es,a with
   |[k],a=>(D.e J k).bind λmk=>vl (Kz r.m mk.m) λC=>by
    subst e;show zlb (r.ok C).1 (mk.ok C).1 (Ov b.1.1) (Cv (es:=[])<|a.st k (Î ..)) b.1.2
   |z,y=>()) else
  WH r a b.1.1 b.1.2 b.2 J.ox.mt λϊ h=>h
 |z=>()
def cmpB(a:CmpOp)(b:Expr):Option<|CG a:=
 mQ a
def eCmp(D:Dc)(J:Gm)(a:Expr)(ops:List CmpOp)(bs:kh)(pos:Pos):Option<|ER J<|.Compare a ops bs pos:=match ops,bs with
 |[h],[b]=>gd (not (behindInMarks h b)) λd=>(cmpB h b).bind λg=>(D.e J a).bind λe=>(D.e J b).bind λf=>!{Bk (g2 g.g)<|AB e.m<|AB f.m AE,λC=>
  have d:=D0 d
  {r_cmp (g.ok C) (e.ok C).1 (f.ok C).1 d,λϊ=>zoj (g.ok C) (e.ok C).1 (f.ok C).1 d}}
 |[h,i],[b,c]=>gd (not (lastMarks [h,i] [b,c])) λd=>(mR h).bind λg=>(mR i).bind λj=>(D.e J a).bind λe=>(D.e J b).bind λf=>(D.e J c).bind λk=>!{Gp g.g j.g e.m f.m k.m,λC=>
  have d:=D0 d
  {r_chn (g.ok C) (j.ok C) (e.ok C).1 (f.ok C).1 (k.ok C).1 d,λϊ=>zok (g.ok C) (j.ok C) (e.ok C).1 (f.ok C).1 (k.ok C).1 d}}
 |z,y=>()
def eUn(D:Dc)(J:Gm)(c:UnaryOp)(a:Expr)(pos:Pos):Option<|ER J<|.UnaryOp c a pos:=match c with
 |.USub=>(D.e J a).bind λr=>!{Bk (g1 Ej)<|AB r.m AE,λC=>
  have b:=r_un (pos:=pos) zko (r.ok C).1
  {b,λϊ=>TM b λϊ=>rfl}}
 |.Not=>gd (GC a) λh=>(D.e J a).bind λr=>!{BJ r.m,λC=>{r_not (r.ok C).1,λϊ=>zoi<|r.t h C}}|z=>()
def dP(D:Dc)(J:Gm):(o:Option Expr)->Option (PR J o)
 |none=>!{(),λϊ=>r_po0}|some e=>(D.e J e).bind λr=>!{!r.m,λC=>Z4 (r.ok C).1}
def eIx(D:Dc)(J:Gm)(a k:Expr)(pos:Pos):Option<|ER J<|.Subscript a k pos:=gd (not (Gs k)) λhs=>(D.e J a).bind λr=>(D.e J k).bind λb=>
 if iO a || gtN J a then vl (C8 r.m b.m) λC=>r_gt (by have:=C.room.units;lia) (r.ok C).1 (b.ok C).1 (NC<|D0 hs) else
 vl (AM r.m b.m) λC=>r_ix (r.ok C).1 (b.ok C).1 (NC<|D0 hs)
def eSub(D:Dc)(J:Gm)(a k:Expr)(pos:Pos):Option<|ER J<|.Subscript a k pos:=match k with
 |.Slice d c st p=>(match st with
  |none=>(D.e J a).bind λr=>(dP D J d).bind λrl=>(dP D J c).bind λb=>if J.ox.tx then vl (Ax (DC r.m rl.m b.m)<|DR r.m rl.m b.m) λC=>TN (Z3 (r.ok C).1 (rl.ok C) (b.ok C)) (zir (r.ok C).1 (rl.ok C) (b.ok C)) else vl (DC r.m rl.m b.m) λC=>Z3 (r.ok C).1 (rl.ok C) (b.ok C)
  |some st=>(match d,c with
   |none,none=>(D.e J a).bind λr=>(D.e J st).bind λrs=>vl (Jd r.m rs.m) λC=>r_rv (r.ok C).1 (Z4 (rs.ok C).1)|z,y=>())
  )
 |k=>eIx D J a k pos
def IS(h:EJ e=true):starEach [e] env=[(false,eval e env)]:=Cv h
section
variable {J:Gm}{f:Str}{p:Pos}{e:Expr}{es:kh}{pos:Pos}{X:Cx}{E:L2.St->XK}{ca:Str->Value}
theorem bF(a:AR J<|e::es)(b:DM f=true)(d:Cg J.nm f=true)(hb:J.bl.contains f=true)(C:CxOk J X E ca){id}(c:CQ X (.builtin id)<|Di X.K g)(hv:bootBuiltins f=!(.builtin id)):PE X (.Call (.Name f p) (e::es) [] pos)<|tM X.K E ca<|Bk g a.m:=
 zoo c (C.gl d) (C.bl f<|ö.mp hb) hv (a.ok C) (EA b).2.2 (EA b).1 (Cv<|a.st e (Î ..)) (G8 λx h=>a.st x<|Ë e h)
theorem nK(a:AR J<|e::es)(b:DM f=true)(d:Cg J.nm f=true)(hb:J.bl.contains f=true)(C:CxOk J X E ca){id}(c:CQ X (.type id)<|Di X.K g)(hv:bootBuiltins f=!(.type id)):PE X (.Call (.Name f p) (e::es) [] pos)<|tM X.K E ca<|Bk g a.m:=
 Zd c (C.gl d) (C.bl f<|ö.mp hb) hv (a.ok C) (EA b).2.2 (EA b).1 (Cv<|a.st e (Î ..)) (G8 λx h=>a.st x<|Ë e h)
def O4(a:AR J<|e::es)(d:DM f=true)(c:Cg J.nm f=true)(hb:J.bl.contains f=true):Option<|ER J<|.Call (.Name f p) (e::es) [] pos:=
 if b:f="len" then vl (Bk (g1 Bd) a.m) λC=>by subst b;show bF a d c hb C zi2 PySem.boot_len else
 if b:f="list" then vl (Bk (g1 DF) a.m) λC=>by subst b;show nK a d c hb C mY Ō else
 if b:f="abs" then vl (Bk (g1 Hw) a.m) λC=>by subst b;show bF a d c hb C zi6 PyProof.Rows.boot_abs else
 if b:f="min" then vl (Bk (g2 Ku) a.m) λC=>by subst b;show bF a d c hb C (zi0 C.calm) PyProof.Rows.boot_min else
 if b:f="max" then vl (Bk LW a.m) λC=>by subst b;show bF a d c hb C (zke C.calm) PyProof.Rows.boot_max else
 if b:f="all" then vl (Bk (g1 EV) a.m) λC=>by subst b;show bF a d c hb C (zi5 C.calm) PyProof.Rows.boot_all else
 if b:f="dict" then vl (Bk (g1 Jr) a.m) λC=>by subst b;show nK a d c hb C zhz PyProof.Rows.boot_dict else
 if b:f="any" then vl (Bk (g1 Hv) a.m) λC=>by subst b;show bF a d c hb C (zi4 C.calm) PyProof.Rows.boot_any else
 ()
end
structure TyR(c:Str) where
 t:String
 ok:bootBuiltins c=!(.type t)
def tyF(c:Str):Option<|TyR c:=
 if h:c="int" then ↑{"int",by subst h;show PyProof.Rows.boot_int} else if h:c="bool" then ↑{"bool",by subst h;show PyProof.Rows.boot_bool} else if h:c="str" then ↑{"str",by subst h;show PyProof.Rows.boot_str} else
 if h:c="list" then ↑{"list",by subst h;show Ō} else if h:c="tuple" then ↑{"tuple",by subst h;show PyProof.Rows.boot_tuple} else ()
def eIs(D:Dc)(J:Gm)(p:Pos)(e:Expr)(es:kh)(pos:Pos)(b:Cg J.nm "isinstance"=true)(hb:J.bl.contains "isinstance"=true):Option<|ER J<|.Call (.Name "isinstance" p) (e::es) [] pos:=match es with
 |[.Name c j]=>gd (Cg J.nm c && DM c && EJ e) λa=>(D.e J e).bind λr=>
  have a:(Cg J.nm c=true/\DM c=true)/\EJ e=true:=by
   rw[È,È]at a;show a
  if f:J.bl.contains c=true then (tyF c).bind λt=>vl (Bk (g1<|DH t.t)<|AB r.m AE) λC=>
   r_isT t.ok (C.gl b) (C.bl _<|ö.mp hb) (C.gl a.1.1) (C.bl _<|ö.mp f) (EA a.1.2).2.2 (EA a.1.2).1 (r.ok C).1 (Cv a.2)
  else ob (J.ox.ci.lookup c) λd g=>vl (Bk (g1<|LN d)<|AB r.m AE) λC=>by
   obtain⟨_,h,i⟩:=C.gx.ci c d g;show r_isC i (C.gl b) (C.bl _<|ö.mp hb) (C.gl a.1.1) h (EA a.1.2).1 (r.ok C).1 (Cv a.2)
 |z=>()
def eSet(D:Dc)(J:Gm)(p:Pos)(e:Expr)(pos:Pos)(c:Cg J.nm "len"=true)(hb:J.bl.contains "len"=true):Option<|ER J<|.Call (.Name "len" p) [e] [] pos:=match e with
 |.Call (.Name x d) [a] [] f=>if h:x="set" then gd (Cg J.nm "set" && J.bl.contains "set" && EJ a) λb=>(D.e J a).bind λr=>vl (Bk (g1 K5)<|AB r.m AE) λC=>by
   rw[È,È]at b;subst h;show r_unq C.calm (C.gl c) (C.bl _<|ö.mp hb) (C.gl b.1.1) (C.bl _<|ö.mp b.1.2) (r.ok C).1 (IS b.2)
  else ()
 |z=>()
def eKys(D:Dc)(J:Gm)(p:Pos)(e:Expr)(pos:Pos)(f:DM "list"=true)(d:Cg J.nm "list"=true)(hb:J.bl.contains "list"=true):Option<|ER J<|.Call (.Name "list" p) [e] [] pos:=if h:iO e=true then (D.e J e).bind λr=>vl (Ax (Bk (g1 DF)<|AB r.m AE)<|He r.m) λC=>by
  let c:EJ e=true:=by cases e<;>first|rfl|cases h
  let a:=λenv=>IS (env:=env) c;let b:=ö.mp hb;show TN (Zd mY (C.gl d) (C.bl _ b) Ō (Zc (r.ok C).1 Z6 (a _)) (EA f).2.2 (EA f).1 (a _) rfl)<|r_kys C.calm (C.gl d) (C.bl _ b) (r.ok C).1 (a _)
 else ()
def lZ(J:Gm)(f:Str)(p:Pos)(e:Expr)(es:kh)(pos:Pos)(a:AR J<|e::es)(d:DM f=true)(c:Cg J.nm f=true):Option<|ER J<|.Call (.Name f p) (e::es) [] pos:=
 ob (J.fns.lookup f) λF b=>vl (AJ F.g a.m) λC=>by
  obtain⟨hl,⟨D⟩⟩:=C.fs f F b;show zon D C.room C.ps (a.ok C) hl (C.gl c) (EA d).1 (Cv<|a.st e (Î ..)) (G8 λx g=>a.st x<|Ë e g)
def eFn(J:Gm)(f:Str)(p:Pos)(e:Expr)(es:kh)(pos:Pos)(a:AR J<|e::es)(c:DM f=true)(b:Cg J.nm f=true):Option<|ER J<|.Call (.Name f p) (e::es) [] pos:=
 oe (J.ox.nw.lookup f) (λF l=>ob (F.2.lookup (e::es).length) λd hd=>vl (Hb F.1.g d a.m) λC=>by
   obtain⟨hl,o,D,k⟩:=C.gx.nw f F.1 F.2 l;obtain⟨g,q,i,j,n⟩:=k _ _ hd;show r_new D i j n C.room C.ps (a.ok C) hl (C.gl b) (EA c).1 (Cv<|a.st e (Î ..)) (G8 λx h=>a.st x<|Ë e h)) <|
 oe (J.ox.dn.lookup f) (λy m=>if es.length+1+y.2.length=y.1.ps.length then vl (AJ (gD y.2 y.1.g) a.m) λC=>by
   obtain⟨hl,D,g,i,j⟩:=C.gx.dn f y m;show zlc D i j C.room C.ps (a.ok C) hl (C.gl b) (EA c).1 (Cv<|a.st e (Î ..)) (G8 λx h=>a.st x<|Ë e h)
  else lZ J f p e es pos a c b) <|
 lZ J f p e es pos a c b
def eCal(D:Dc)(J:Gm)(f:Str)(p:Pos)(es:kh)(d:List Keyword)(pos:Pos):Option<|ER J<|.Call (.Name f p) es d pos:=match es,d with
 |e::es,[]=>gd (DM f && Cg J.nm f) λb=>
  have b:DM f=true/\Cg J.nm f=true:=by
   rw[È]at b;show b
  if hb:J.bl.contains f=true then
   (if c : f = "isinstance" then (match f, c, b, hb with
    |_,rfl,b,hb=>eIs D J p e es pos b.2 hb) else
   match es with
   |[]=>
    (if c : f = "len" then (match f, c, b, hb with
     |_,rfl,b,hb=>(eSet D J p e pos b.2 hb).orElse λϊ=>(D.a J [e]).bind λa=>O4 a b.1 b.2 hb) else
    if c:f="list" then (match f,c,b,hb with
     |_,rfl,b,hb=>
      (eKys D J p e pos b.1 b.2 hb).orElse λϊ=>(D.a J [e]).bind λa=>O4 a b.1 b.2 hb) else
    (D.a J [e]).bind λa=>O4 a b.1 b.2 hb)
   |z=>(D.a J _).bind λa=>O4 a b.1 b.2 hb)
  else (D.a J<|e::es).bind λa=>eFn J f p e es pos a b.1 b.2
 |z,y=>()
def mH(J:Gm):(es:kh)->Option (GsR J es)
 |[]=>!{An,λϊ=>{(g_nil),rfl,rfl}}|e::es=>(match e with
  |.Name x p=>gd (J.loc x) λhl=>ob (Dp J.N x) λi a=>(mH J es).bind λr=>!{AI (AD i) r.m,λ{X} {E} {ca} C=>by
   obtain⟨b,c,d⟩:=r.ok C;show{zr8 (gU C hl a) b rfl,?_,?_};show(?_:(assignEach es X.env).length+1=es.length+1);rw[c];show(?_:List.findIdx? (·.1) ((false,assign (.Name x p) X.env)::assignEach es X.env)=());rw[Ζ,d]
   rfl}
  |z=>())
def dG(J:Gm):(tg:Expr)->Option (GR J tg)
 |.Name x z=>gd (J.loc x) λhl=>ob (Dp J.N x) λi b=>!{AD i,λC=>gU C hl b}|.Tuple a z y=>(mH J a).bind λr=>!{Al a.length r.m,λC=>g_tup C.calm (r.ok C).1 (r.ok C).2.1 (r.ok C).2.2}|z=>()
def iV(D:Dc)(J:Gm)(a e:Expr):Option<|IR J a e:=gd (T7 e) λh=>(D.e J e).bind λr=>if J.ox.tx then ↑{Aj r.m,λC=>zom (r.ok C).1,h} else !{Ig r.m,λC=>Z8 (r.ok C).1,h}
def Fb(C:CxOk J X E ca)(h:(Cg J.nm f && J.bl.contains f)=true):Gl X f/\X.mg f=():=by
 rw[È]at h;show{C.gl h.1,C.bl f<|ö.mp h.2}
def iRg(D:Dc)(J:Gm)(b a:Expr)(p c:Pos):Option<|IR J b<|.Call (.Name "range" p) [a] [] c:=gd (Cg J.nm "range" && J.bl.contains "range") λh=>(D.a J [a]).bind λr=>!{C9 r.m,λC=>zit (Fb C h).1 (Fb C h).2 (r.ok C) (Cv<|r.st a (Î ..)),rfl}
def iEn(D:Dc)(J:Gm)(b a:Expr)(p c:Pos):Option<|IR J b<|.Call (.Name "enumerate" p) [a] [] c:=match b with
 |.Tuple ..=>gd (Cg J.nm "enumerate" && J.bl.contains "enumerate") λh=>(D.a J [a]).bind λr=>if J.ox.tx then ↑{iU r.m,λC=>r_enX (Fb C h).1 (Fb C h).2 (r.ok C) (Cv<|r.st a (Î ..)),rfl} else
  !{Cf r.m,λC=>Z9 (Fb C h).1 (Fb C h).2 (r.ok C) (Cv<|r.st a (Î ..)),rfl}
 |z=>()
def iRv(D:Dc)(J:Gm)(b a:Expr)(p c:Pos):Option<|IR J b<|.Call (.Name "reversed" p) [a] [] c:=gd (Cg J.nm "reversed" && J.bl.contains "reversed") λh=>(D.a J [a]).bind λr=>!{Gy r.m,λC=>r_rvl (Fb C h).1 (Fb C h).2 (r.ok C) (Cv<|r.st a (Î ..)),rfl}
def iR2(D:Dc)(J:Gm)(e a b:Expr)(p c:Pos):Option<|IR J e<|.Call (.Name "range" p) [a,b] [] c:=gd (Cg J.nm "range" && J.bl.contains "range") λh=>(D.a J [a,b]).bind λr=>!{Ih r.m,λC=>
 have d:=λenv=>IS (env:=env) (r.st b<|Ë _ (Î ..))
 zis (Fb C h).1 (Fb C h).2 (r.ok C) (by rw[Cv<|r.st a (Î ..),d]) (d _),rfl}
def iZp(D:Dc)(J:Gm)(e a b:Expr)(p c:Pos):Option<|IR J e<|.Call (.Name "zip" p) [a,b] [] c:=match e with
 |.Tuple ..=>gd (Cg J.nm "zip" && J.bl.contains "zip") λh=>(D.a J [a,b]).bind λr=>!{Gw r.m,λC=>
   have d:=λenv=>IS (env:=env) (r.st b<|Ë _ (Î ..))
   r_zip (Fb C h).1 (Fb C h).2 (r.ok C) (by rw[Cv<|r.st a (Î ..),d]) (d _),rfl}
 |z=>()
def iIt(D:Dc)(J:Gm)(c o:Expr)(ap a:Pos):Option<|IR J c<|.Call (.Attribute o "items" ap) [] [] a:=match c with
 |.Tuple b e d=>gd (Gd o && (ap.endLine == a.line)) λh=>(D.e J o).bind λr=>!{Ii r.m,λC=>zla (r.ok C).1 (Ov (ÿ.mp h).1) (ÿ.mp h).2,rfl}|z=>()
def dI(D:Dc)(J:Gm)(d e:Expr):Option<|IR J d e:=match e with
 |.Call (.Attribute o f g) [] [] i=>if h:f="items" then (match f,h with|_,rfl=>iIt D J d o g i) else iV D J d _
 |.Call (.Name f p) j k c=>(match j,k with
  |[a],[]=>if h:f="range" then (match f,h with|_,rfl=>iRg D J d a p c) else
   if h:f="enumerate" then (match f,h with|_,rfl=>iEn D J d a p c) else
   if h:f="reversed" then (match f,h with|_,rfl=>iRv D J d a p c) else
   iV D J d _
  |[a,b],[]=>
   if h:f="range" then (match f,h with|_,rfl=>iR2 D J d a b p c) else
   if h:f="zip" then (match f,h with|_,rfl=>iZp D J d a b p c) else
   iV D J d _
  |z,y=>iV D J d _)
 |e=>iV D J d e
def dC(D:Dc)(J:Gm)(k d e:Expr)(l:kh)(a:Scope):Option<|LR J k d e l a:=
 gd (La J a<|Eu d++FG a.names) λhb=>ob (L7 J.N<|FG a.names) λb o=>(dI D J d e).bind λf=>(dG (J.blk a<|Eu d++FG a.names) d).bind λj=>(D.e (J.blk a<|Eu d++FG a.names) k).bind λi=>match l with
  |[]=>!{Az (Eu d).length b f.m j.m (mC<|.bl true) i.m,λ{X} {E} {ca} C=>{b,f.m,j.m,_,i.m,rfl,nD C hb o,f.ok C,λh cl A s₀ H₀ ex n m=>
    have g:=nF C hb cl A s₀ H₀ ex n (E':=h) m
    {j.ok g,λp s O H Q I q=>zlh p s O H Q I<|Qg (K:=X.K) (E:=h) (ca:=ca) q,(i.ok g).1},V9 f.ns}}
  |[c]=>gd (GC c) λhk=>(D.e (J.blk a<|Eu d++FG a.names) c).bind λrt=>!{Az (Eu d).length b f.m j.m rt.m i.m,λ{X} {E} {ca} C=>{b,f.m,j.m,rt.m,i.m,rfl,nD C hb o,f.ok C,λh cl A s₀ H₀ ex n m=>
    have g:=nF C hb cl A s₀ H₀ ex n (E':=h) m
    {j.ok g,zlg<|rt.t hk g,(i.ok g).1},V9 f.ns}}
  |z=>()
def eLC(D:Dc)(J:Gm)(d:Expr)(c:List Comprehension)(a:Scope)(pos:Pos):Option<|ER J<|.ListComp d c a pos:=match c with
 |[{k,e,f,0}]=>(dC D J d k e f a).bind λr=>vl r.m λC=>by
  obtain⟨g,l,b,mt,me,h,B,j,i,hs⟩:=r.ok C;rw[h];show r_lcV B (cq:=λX=>X.calm=true) (λϊ z z z z z z z z=>C.calm) (Zq j) C.ps C.fr i hs
 |z=>()
def eIf(D:Dc)(J:Gm)(c a b:Expr)(pos:Pos):Option<|ER J<|.IfExp c a b pos:=gd (GC c) λh=>(D.e J c).bind λf=>(D.e J a).bind λd=>(D.e J b).bind λe=>!{DU f.m d.m e.m,λC=>{r_ife (f.t h C) (d.ok C).1 (e.ok C).1,λz=>by cases z}}
def dEs(D:Dc)(J:Gm):(e:Expr)->Option (ER J e)
 |.Constant c k pos=>eCst J c k pos|.Name x pos=>eNam J x pos|.Attribute o f pos=>gd (Gd o) λh=>(D.e J o).bind λr=>WI r h J.ox.cl λϊ h=>h|.Call f i q c=>(match f with
  |.Attribute o f u=>eAtt D J o f u i q c|.Name f p=>eCal D J f p i q c|z=>())
 |.Compare a n bs pos=>eCmp D J a n bs pos|.BinOp a l b pos=>(opF l).bind λg=>(D.e J a).bind λs=>(D.e J b).bind λt=>vl (Bk (g2 g.g)<|AB s.m<|AB t.m AE) λC=>r_bin g.ok (s.ok C).1 (t.ok C).1|.UnaryOp l a pos=>eUn D J l a pos|.BoolOp l v pos=>(D.b J l v).bind λr=>!{r.m,λC=>{(r.ok C).1,λϊ=>(r.ok C).2.pt}}|.IfExp c a b pos=>eIf D J c a b pos|.List i pos=>(D.o J i).bind λr=>vl (BQ r.m) λC=>Z7 (r.ok C)|.Tuple i k pos=>(D.a J i).bind λr=>vl (BP r.m) λC=>r_tup (r.ok C)|.Subscript a k pos=>eSub D J a k pos|.ListComp m j d pos=>eLC D J m j d pos|.Dict [] [] pos=>vl GL λϊ=>Za|z=>()
def dAs(D:Dc)(J:Gm):(es:kh)->Option (AR J es)
 |[]=>!{AE,λϊ=>Z6,λϊ h=>(by cases h),λϊ=>rfl}|e::es=>gd (EJ e) λh=>(D.e J e).bind λr=>(D.a J es).bind λa=>!{AB r.m a.m,λC=>Zc (r.ok C).1 (a.ok C) (Cv h),λx b=>(Ð.mp b).elim (λz=>z▸h) (a.st x),λz=>by cases z}
def dOs(D:Dc)(J:Gm):(es:kh)->Option (OR J es)
 |[]=>!{AE,λϊ=>Z5}|e::es=>gd (EJ e) λh=>(D.e J e).bind λr=>(D.o J es).bind λa=>!{BK r.m a.m,λC=>Zb (r.ok C).1 (a.ok C) (Cv h)}
def dBs(D:Dc)(J:Gm)(d:BoolOp):(es:kh)->Option (BR J d es)
 |[]=>none|[a]=>gd (GC a) λh=>(D.e J a).bind λr=>!{r.m,λC=>{r_one (r.ok C).1,by
   cases d with
   |And=>show zl8 (r.t h C)|Or=>show zl7<|r.t h C}}
 |a::b::es=>gd (GC a) λh=>(D.e J a).bind λr=>(D.b J d<|b::es).bind λc=>match d,c with
  |.And,c=>!{Bq r.m c.m,λC=>{r_and (r.ok C).1 (c.ok C).1,zoh (r.t h C) (c.ok C).2}}|.Or,c=>!{Bu r.m c.m,λC=>{r_or (r.ok C).1 (c.ok C).1,r_wor (r.t h C) (c.ok C).2}}
def pkB:kq:=["len","isinstance","all","any","abs","min","max","int"]
def isLC:Expr->Bool
 |.ListComp ..=>true|z=>false
def By:Nat->kq->Expr->kq
 |0,z,y=>[]|n+1,pk,e=>
  letI g:=λ(x:Expr)=>match x with
   |.Name z y=>[]|x=>By n pk x
  match e with
  |.Name x z=>[x]|.BinOp a z b y=>By n pk a++By n pk b|.UnaryOp z a y=>By n pk a|.BoolOp z o y=>o.flatMap (By n pk)|.Compare a z bs y=>g a++bs.flatMap g|.IfExp c a b z=>By n pk c++By n pk a++By n pk b|.Call (.Name f z) d [] y=>if pkB.contains f || pk.contains f then d.flatMap g else d.flatMap (By n pk)
  |.Call (.Attribute z y w) d [] v=>d.flatMap λa=>if isLC a then By n pk a else []
  |.Subscript a k z=>(match k with
   |.Slice m l z y=>By n pk a++(match m with|some e=>By n pk e|none=>[])++(match l with|some e=>By n pk e|none=>[])
   |z=>g a++By n pk k)
  |.List j z=>j.flatMap (By n pk)|.Tuple j z y=>j.flatMap (By n pk)|.ListComp _ [{_,i,_,_}] h _=>By n pk i++FG h.names|z=>[]
def YL(pk:kq):Stmt->kq
 |.Expr (.Call (.Attribute (.Name z y) x w) [e] [] ώ) Ϗ=>By 40 pk e|.Expr e z=>By 40 pk e|.Return (!(.Name z y)) x=>[]|.Return ↑e z=>By 40 pk e|.Assign [.Subscript (.Subscript z k y) j x] e w=>By 40 pk k++By 40 pk j++By 40 pk e|.Assign [.Subscript z k y] e x=>By 40 pk k++By 40 pk e|.Assign [z] e y=>By 40 pk e|.If c z y x=>By 40 pk c|.For z it y x w=>By 40 pk it|.While c z y x=>By 40 pk c|z=>[]
def iM:Stmt->Bool
 |.If ..=>true|z=>false
def jC(J:Gm)(s:Stmt):kz:=
 ((if iM s then J.ox.gt++YL J.pk s else YL J.pk s).filter λx=>J.ow.contains x && (not (iM s && J.mv.contains x))).eraseDups.filterMap (Dp J.N)
def VA(J:Gm)(e:Expr)(m:AH):AH:=(((By 40 J.pk e).filter λx=>J.ow.contains x && J.mv.contains x).eraseDups.filterMap (Dp J.N)).foldr Hc m
def ziu{X:Cx}{E:L2.St->XK}{ca:Str->Value}{m:AH}{e:Expr}{J:Gm}(he:PT X e<|B7 X.K E ca m):PT X e<|B7 X.K E ca<|VA J e m:=by
 unfold VA;generalize (((By 40 J.pk e).filter λx=>J.ow.contains x && J.mv.contains x).eraseDups.filterMap (Dp J.N))=l
 induction l with
 |nil=>show he|cons i r a=>show zl9 a
def V5(J:Gm)(i:Nat):Bool:=match J.N[i]? with
 |some x=>J.dc.contains x && J.ox.fo.contains x|none=>false
def OM(J:Gm)(l:kz)(m:AG):AG:=l.foldr (λi m=>AF (match V5 J i with
 |true=>Bt i|false=>Ed i) m) m
def Md(J:Gm)(x:Str)(px:Pos):Expr->Bool
 |.ListComp z y a p=>J.nm.lookup x == ↑.local && px.line == p.line && (not (a.names.any λ(n,k)=>n == x && (k == .local || k == .cell)))|z=>false
def Yd(J:Gm)(x:Str):Bool:=J.nm.lookup x == !.cell
def J4(J:Gm)(x:Str)(i:Nat)(m:AH):AG:=if J.ow.contains x then Bh i m else AV m (AD i)
def Cc(c:Str)(ms:BM):AG:=λY=>match ms Y with
 |some (.v a z)=>if a.length<=BN then ↑(.xc c Y) else ()
 |some (.x c)=>!(.xc c Y)|none=>()
def NI(J:Gm)(x y:Str)(px c:Pos)(a b:Expr):Bool:=
 J.nm.lookup x == ↑.local && J.nm.lookup y == ↑.local && px.line == c.line && (not (x == y)) && EJ a && EJ b && (not (foldedForSure 8 a && foldedForSure 8 b)) && (not (constantsAlone 8 a && constantsAlone 8 b)) && DM x && DM y
section
variable {X:Cx}{E:L2.St->XK}{ca:Str->Value}{J:Gm}{mu:Bool}
def Mr{rest}(h:Bf X rest<|tS X.K E ca mu w):∀l ,Bf X rest<|tS X.K E ca mu<|OM J l w
 |[]=>h|i::r=>by
  show(?_:Bf X rest (tS X.K E ca mu (AF (match V5 J i with
   |true=>Bt i|false=>Ed i)<|OM J r w)))
  cases V5 J i with
  |true=>show s_fzd (Mr h r)|false=>show Yw<|Mr h r
def Me(h:Gu e=false):swapsWith e t l env=pure false:=by
 cases e<;>first|rfl|cases h
def nB{env:Env}(h:env.scope.kind=.function):env.blockKind=.function:=by
 unfold Env.blockKind;rw[h];rfl
def zih(C:CxOk J X E ca){p px:Pos}{x:Str}{l:Nat}(h:Md J x px (.ListComp elt gens scope p)=true):swapsWith (.ListComp elt gens scope p) (!(.Name x px)) l X.env=pure true:=by
 let e:swapsWith (.ListComp elt gens scope p) (!(.Name x px)) l X.env=pure (X.env.blockKind == .function && X.env.kindOf x == ↑.local && px.line == p.line && (not (scope.names.any λ(n,k)=>n == x && (k == .local || k == .cell)))):=rfl;rw[e];unfold Md at h
 erw[È]at h;let k:X.env.kindOf x=!.local:=by
  show(?_:X.env.scope.names.lookup x=!.local);rw[C.nm];show eq_of_beq h.1.1
 rw[nB C.kd,k,h.1.2,h.2];rfl
def zks(C:CxOk J X E ca){px}(h:Yd J x=true):swapsWith e (!(.Name x px)) l X.env=pure false:=by
 let k:X.env.kindOf x=!.cell:=by
  show(?_:X.env.scope.names.lookup x=!.cell);rw[C.nm];show eq_of_beq h
 let c:(↑NameKind.cell == !NameKind.local)=false:=rfl;cases e<;>first|rfl|(unfold swapsWith;erw[k,c,Bool.and_false,ŗ])
def zf3(C:CxOk J X E ca){px py pt p2}(h:NI J x y px py a b=true):swappedStores [.Tuple [.Name x px,.Name y py] kt pt] (.Tuple [a,b] k2 p2) X.env=pure (![x,y]):=by
 unfold NI at h;erw[È,Ķ,Ĕ]at h;let(((((((((e,f),g),c),i),j),k),l),_),_):=h
 let m:X.env.kindOf x=!.local:=by
  show(?_:X.env.scope.names.lookup x=!.local);rw[C.nm];show e
 let n:X.env.kindOf y=!.local:=by
  show(?_:X.env.scope.names.lookup y=!.local);rw[C.nm];show f
 let d:[x,y].eraseDups=[x,y]:=by
  let:(y == x)=false:=by
   rw[Φ]at c ⊢;show Í c
  simp[List.eraseDups_cons,this,c]
 let f1:(if (X.env.kindOf x == ↑NameKind.local && px.line == px.line)=true then ↑x else ())=!x:=by rw[m,õ,õ];rfl
 let f2:(if (X.env.kindOf y == ↑NameKind.local && py.line == px.line)=true then ↑y else ())=!y:=by rw[n,õ,<- g,õ];rfl
 unfold swappedStores;dsimp only[List.length,List.any,List.all,List.filterMap,List.head?,Option.map,Option.getD,Expr.pos];erw[f1,f2,d];show(if_neg ?_).trans ((if_neg ?_).trans ((if_neg ?_).trans ((if_neg ?_).trans (if_neg ?_))));rw[nB C.kd];decide
 .intro z;rw[Bool.or_false,Ē]at z
  rcases z with z|z
  .cases a<;>first|(cases i;done)|(cases z;done)
  .cases b<;>first|(cases j;done)|(cases z;done)
 show(?_:¬ ((2 != 2 || 2 != 2)=true));decide;rw[Ś,k];show ć;rw[Ś,l];show ć
def Mj(h:Gu e=false):swapsWithSole [t] e l env=pure false:=Me h
def Mf(h:Gs k=false)(v):assign (.Subscript o k pos) env v=(do
   let ov <- holding [v]<|eval o env;let iv <- holding [v,ov] (eval k env)
   standAt pos
   holding [v,ov,iv] (setItem ov iv v)
   release [v,ov,iv] []):=by
 cases k<;>first|rfl|cases h
def s_rse(C:CxOk J X E ca)(g:J.ox.nr=false)(i:Gf c=())(m:c∈J.ex)(n:Cg J.nm c=true)(o:DM c=true)(ha:PA X (e::es)<|CI X.K E ca ms)(hs:∀x∈e::es,EJ x=true) :
  PS X (.Raise (!(.Call (.Name c p) (e::es) [] cpos)) () pos) (tS X.K E ca mu<|Cc c ms):=by
 let(T,l,f):=C.ex c m;let(s,u,w):=EA o;show PS.weak (ziz T f C.calm (C.md g) ha (C.gl n) s (Cv<|hs e (Î ..))<|G8 hs) λD O H h=>?_
 let(F,Y,R,S,q):=h;show{F,Y,R,S,?_};unfold Cc at q;cases k:ms Y with
 |none=>erw[k]at q<;>symm|some r=>
  erw[k]at q;cases r with
  |x c=>show λa d e=>q a d O R e.stp0 (S.ext e)|v t b=>
   intro a d xs j rs;by_cases hz:t.length<=BN;erw[hz,Æ]at q;show{by rw[<- rs.1,<- GN];show hz,?_};have:=(q a d O R j.stp0<|S.ext j).plain i;rw[l]at this;show this;erw[hz,Å]at q<;>symm
end
def nM{px pos}(hl:J.loc x=true)(c:Dp J.N x=!i)(C:CxOk J X E ca)(he:PE X e<|tM X.K E ca m)(b:∀l,swapsWith e (!(.Name x px)) l X.env=pure false) :
  PS X (.Assign [.Name x px] e pos) (tS X.K E ca mu<|J4 J x i m):=by
 let(g1,g2,a):=C.loc hl c;unfold J4;split;show zo7 C.nodup g1 g2 he (b _) a;show Yr C.nodup g1 g2 he (b _) a
def aLC(D:Dc)(J:Gm)(x:Str)(i:Nat)(px pos:Pos)(s:Dp J.N x=!i):(e:Expr)->Option (SR J<|.Assign [.Name x px] e pos)
 |.ListComp j c a p=>gd (Md J x px<|.ListComp j c a p) λf=>(match c,f with
  |[{u,k,m,0}],f=>(dC D J j u k m a).bind λr=>!{
   J4 J x i r.m
   ,λ{X} {E} {ca} C=>by
   let t:X.env.scope.names.lookup x=!.local:=by
    unfold Md at f;erw[È]at f;rw[C.nm];show eq_of_beq f.1.1
   let o:X.N[i]?=!x:=by rw[C.N];show Hj s
   obtain⟨n,v,b,mt,me,h,B,l,q,hs⟩:=r.ok C;rw[h];let d:=r_lcS (pos2:=pos) B C.calm l C.ps C.fr q hs C.nodup o t<|zih C f;unfold J4;split
   show PS.weak d λD O H h=>YZ h
   show PS.weak d λD O H h=>Qd (g:=LV i) (λϊ y y y z=>i9 z) h}
  |y,w=>())
 |y=>()
def aNm(D:Dc)(J:Gm)(x:Str)(px:Pos)(e:Expr)(pos:Pos):Option<|SR J<|.Assign [.Name x px] e pos:=gd (J.loc x) λhl=>ob (Dp J.N x) λi a=>
 if b:Gu e=false then (D.e J e).bind λr=>!{J4 J x i r.m,λC=>nM hl a C (r.ok C).1 λϊ=>Me b}
 else if hn:Yd J x=true then (D.e J e).bind λr=>!{J4 J x i r.m,λC=>nM hl a C (r.ok C).1 λϊ=>zks C hn}
 else aLC D J x i px pos a e
def aPar(D:Dc)(J:Gm)(x y:Str)(px h:Pos)(n:Nat)(pt:Pos)(a b:Expr)(k2:Nat)(o pos:Pos):Option<|SR J<|.Assign [.Tuple [.Name x px,.Name y h] n pt] (.Tuple [a,b] k2 o) pos:=gd (NI J x y px h a b) λg=>ob (Dp J.N x) λi l=>ob (Dp J.N y) λj m=>(D.a J [a,b]).bind λr=>!{Ke i j r.m,λ{X} {E} {ca} C=>by
 let c:=g;unfold NI at c;erw[È,Ķ,Ĕ]at c;obtain⟨⟨⟨⟨⟨⟨⟨⟨⟨g1,g2⟩,p⟩,k⟩,_⟩,_⟩,_⟩,_⟩,_⟩,_⟩:=c;let f:X.N[i]?=!x:=by rw[C.N];show Hj l
 let d:X.N[j]?=!y:=by rw[C.N];show Hj m
 let e:i≠j:=λz=>by
  subst z;rw[f]at d;cases d;simp at k
 show s_par C.calm C.nodup f d e (by rw[C.nm];show g1) (by rw[C.nm];show g2) (r.ok C) (zf3 C g) rfl}
def aTup(D:Dc)(J:Gm)(ts:kh)(b:Nat)(pt:Pos)(e:Expr)(pos:Pos):Option<|SR J<|.Assign [.Tuple ts b pt] e pos:=gd (not (zqw e || Gu e)) λd=>(dG J<|.Tuple ts b pt).bind λc=>(D.e J e).bind λr=>!{AV r.m c.m,λC=>by
 let a:=D0 d;rw[č]at a;show zo4 (r.ok C).1 (c.ok C) (Mj a.2) ?_ rfl;let f:=a.1;cases e<;>first|rfl|cases f}
def aTp(D:Dc)(J:Gm)(ts:kh)(c:Nat)(pt:Pos)(e:Expr)(pos:Pos):Option<|SR J<|.Assign [.Tuple ts c pt] e pos:=
 match ts,e with
 |[.Name x px,.Name y g],.Tuple [a,b] d f=>aPar D J x y px g c pt a b d f pos|ts,e=>
 aTup D J ts c pt e pos
def soleX:swapsWithSole [.Subscript a k p] e l env=pure false:=by
 cases e<;>rfl
def aDps(D:Dc)(J:Gm)(x:Str)(a:Pos)(j:Expr)(f:Pos)(e:Expr)(pos:Pos):Option<|SR J<|.Assign [.Subscript (.Name x a) j f] e pos:=gd (not (Gs j)) λc=>ob (J.var x) λi d=>(D.e J j).bind λb=>(D.e J e).bind λr=>!{Gc i b.m r.m,λC=>by
 obtain⟨g,h,k,l⟩:=C.var (pos:=a) d;show s_dps (by let:=C.room.units;lia) g h k l (r.ok C).1 (b.ok C).1 soleX ?_ (Mf<|D0 c)
 cases e<;>rfl}
def aSto(D:Dc)(J:Gm)(x:Str)(b:Pos)(j:Expr)(g:Pos)(e:Expr)(pos:Pos):Option<|SR J<|.Assign [.Subscript (.Name x b) j g] e pos:=gd (not (Gs j || Gu e)) λd=>ob (J.var x) λi f=>(D.e J j).bind λc=>(D.e J e).bind λr=>!{Kc i c.m r.m,λC=>by
 let a:=D0 d;rw[č]at a;obtain⟨h,k,l,m⟩:=C.var (pos:=b) f;show s_sto h k l m (r.ok C).1 (c.ok C).1 (Mj a.2) ?_ (Mf a.1);cases e<;>rfl}
def aSt2(D:Dc)(J:Gm)(x:Str)(c:Pos)(b:Expr)(h:Pos)(j:Expr)(k:Pos)(e:Expr)(pos:Pos):Option<|SR J<|.Assign [.Subscript (.Subscript (.Name x c) b h) j k] e pos:=gd (not (Gs b || Gs j || Gu e)) λf=>ob (J.var x) λi g=>(D.e J b).bind λr0=>(D.e J j).bind λd=>(D.e J e).bind λr=>!{IQ i r0.m d.m r.m,λC=>by
 let a:=D0 f;rw[č,č]at a;obtain⟨l,m,n,o⟩:=C.var (pos:=c) g;show zo3 l m n o (r.ok C).1 (r0.ok C).1 (d.ok C).1 (NC a.1.1) (Mj a.2) ?_ (Mf a.1.2);cases e<;>rfl}
def VJ{fs:kq}(h:fs.findIdx? (· == f)=!j):f∈fs/\fs[j]?=!f:=by
 let(a,b,_):=ģ.mp h;let e:fs[j]?=!f:=by rw[Á a];show congrArg some<|eq_of_beq b
 show{ú e,e}
def aDpf(D:Dc)(J:Gm)(x f:Str)(d o:Pos)(j:Expr)(p:Pos)(e:Expr)(pos:Pos):Option<|SR J<|.Assign [.Subscript (.Attribute (.Name x d) f o) j p] e pos:=gd (not (Gs j || Gu e)) λh=>ob J.ox.sf λc hs=>ob (J.var x) λi k=>ob (c.2.findIdx? (· == f)) λl b=>(D.e J j).bind λg=>(D.e J e).bind λr=>!{IV c.1 c.2 l i g.m r.m,λC=>by
 let a:=D0 h;rw[č]at a;obtain⟨q,s,t,u⟩:=C.var (pos:=d) k;obtain⟨m,n⟩:=C.gx.sf c.1 c.2 hs;show s_dpf (by let:=C.room.units;lia) m (n f (VJ b).1) b q s t u (r.ok C).1 (g.ok C).1 (Mj a.2) ?_ (Mf a.1)
 cases e<;>rfl}
def lE(hs:J.ox.sf=!c)(d:J.var x=!i)(hj:c.2.findIdx? (· == f)=!jj)(b:(not ((c.2.take jj).contains f || (not (decide (jj<900)))))=true)(C:CxOk J X E ca)(he:PE X e<|tM X.K E ca m) :
  PS X (.Assign [.Attribute (.Name x p1) f p2] e pos) (tS X.K E ca J.mu<|C0 c.1 c.2 jj i m):=by
 let a:=D0 b;rw[č,Bool.not_eq_false',ü]at a;let(c1,c2):=a;let(j,k,l,n):=C.var (pos:=p1) d;let(g,h):=C.gx.sf c.1 c.2 hs;show zo8 g (h f (VJ hj).1) (VJ hj).2 c1 c2 j k l n he (by cases e<;>rfl)
def aFl(D:Dc)(J:Gm)(x f:Str)(h j:Pos)(e:Expr)(pos:Pos):Option<|SR J<|.Assign [.Attribute (.Name x h) f j] e pos:=ob J.ox.sf λc hs=>ob (J.var x) λi d=>ob (c.2.findIdx? (· == f)) λb g=>gd (not ((c.2.take b).contains f || (not (decide (b<900))))) λa=>match e,a with
 |.Dict [] [] p,a=>!{C0 c.1 c.2 b i GL,λC=>lE hs d g a C Za}|e,a=>(D.e J e).bind λr=>!{C0 c.1 c.2 b i r.m,λC=>lE hs d g a C (r.ok C).1}
def aSub(D:Dc)(J:Gm)(a j:Expr)(c:Pos)(e:Expr)(pos:Pos):Option<|SR J<|.Assign [.Subscript a j c] e pos:=match a with
 |.Name x b=>
  if J.dc.contains x then aDps D J x b j c e pos else
  aSto D J x b j c e pos
 |.Subscript (.Name x b) g d=>aSt2 D J x b g d j c e pos|.Attribute (.Name x b) f d=>aDpf D J x f b d j c e pos|z=>()
def dAsg(D:Dc)(J:Gm)(ts:kh)(e:Expr)(pos:Pos):Option<|SR J<|.Assign ts e pos:=match ts with
 |[t]=>(match t with
  |.Name x px=>aNm D J x px e pos|.Tuple ts b pt=>aTp D J ts b pt e pos|.Subscript a j g=>aSub D J a j g e pos|.Attribute o f d=>(match o with
   |.Name x c=>aFl D J x f c d e pos|z=>())
  |z=>())
 |z=>()
def Xw(D:Dc)(J:Gm)(e:Expr)(pos:Pos):Option<|SR J<|.Expr e pos:=gd (not (Gu e)) λa=>(D.e J e).bind λr=>!{IU r.m,λC=>s_exp (r.ok C).1 (Me<|D0 a)}
def xApp(D:Dc)(J:Gm)(x:Str)(p:Pos)(f:Str)(b:Pos)(a:Expr)(c pos:Pos):Option<|SR J<|.Expr (.Call (.Attribute (.Name x p) f b) [a] [] c) pos:=gd (EJ a) λk=>gd (b.endLine == c.line) λl=>ob (J.var x) λi m=>(D.e J a).bind λr=>
 if d:f="append" then ↑{CO i r.m,λC=>by
  subst d;obtain⟨e,g,h,j⟩:=C.var (pos:=p) m;show s_app e g h j (r.ok C).1 (IS k) l} else
 if d:f="extend" then ↑{J3 i r.m,λC=>by subst d;obtain⟨e,g,h,j⟩:=C.var (pos:=p) m;show s_ext e g h j (r.ok C).1 (IS k) l} else
 Xw D J _ pos
def xDap(D:Dc)(J:Gm)(x:Str)(p:Pos)(k:Expr)(m:Pos)(f:Str)(b:Pos)(a:Expr)(c pos:Pos):Option<|SR J<|.Expr (.Call (.Attribute (.Subscript (.Name x p) k m) f b) [a] [] c) pos:=gd (EJ a) λe=>gd (b.endLine == c.line) λg=>gd (not (Gs k)) λh=>ob (J.var x) λi l=>(D.e J k).bind λd=>(D.e J a).bind λr=>
 if j:f="append" then ↑{Kf i d.m r.m,λC=>by
  subst j;obtain⟨n,o,q,s⟩:=C.var (pos:=p) l;show s_dap (by have:=C.room.units;lia) n o q s (d.ok C).1 (NC<|D0 h) (r.ok C).1 (IS e) g} else ()
def dX(D:Dc)(J:Gm)(e:Expr)(pos:Pos):Option<|SR J<|.Expr e pos:=
 match e with
 |.Call (.Attribute (.Name x p) f b) [a] [] c=>xApp D J x p f b a c pos|.Call (.Attribute (.Subscript (.Name x p) k d) f b) [a] [] c=>xDap D J x p k d f b a c pos|e=>Xw D J e pos
def xRet(D:Dc)(J:Gm)(o:Option Expr)(pos:Pos):Option<|SR J<|.Return o pos:=
 gd (not J.mu) λa=>match o with
 |none=>!{Sw,λC=>by rw[D0 a];show zo5}|some e=>(D.e J e).bind λr=>!{AN r.m,λC=>by rw[D0 a];show Yt (r.ok C).1}
def xRse(D:Dc)(J:Gm)(a b:Option Expr)(pos:Pos):Option<|SR J<|.Raise a b pos:=match a,b with
 |some (.Call (.Name c p) (e::d) [] k),none=>gd (not (J.ox.nr)) λg=>gd ((Gf c).isNone) λf=>gd (J.ex.contains c) λh=>gd (Cg J.nm c) λi=>gd (DM c) λj=>(D.a J<|e::d).bind λr=>!{Cc c r.m,λC=>s_rse C (D0 g) (Option.isNone_iff_eq_none.mp f) (ö.mp h) i j (r.ok C) r.st}|z,y=>()
def xFor(D:Dc)(J:Gm)(tg it:Expr)(body a:kj)(pos:Pos):Option<|SR J<|.For tg it body a pos:=
 match a with
 |[]=>gd (not (J.ox.nr)) λh=>(dI D J tg it).bind λb=>(dG J tg).bind λc=>(D.q J body).bind λr=>!{BV b.m c.m r.m,λC=>s_for (C.po<|D0 h) C.calm (b.ok C) (c.ok C) (r.ok C)<|V9 b.ns}|z=>()
def xWh(D:Dc)(J:Gm)(c:Expr)(body a:kj)(pos:Pos):Option<|SR J<|.While c body a pos:=match a with
 |[]=>gd (not (J.ox.nr)) λh=>gd (GC c) λhk=>(D.e J c).bind λb=>(D.q J body).bind λr=>!{Ec b.m r.m,λC=>s_wh (C.po<|D0 h) (b.t hk C)<|r.ok C}|z=>()
def xIf(D:Dc)(J:Gm)(c:Expr)(a b:kj)(pos:Pos):Option<|SR J<|.If c a b pos:=
 gd (GC c) λh=>(D.e J c).bind λf=>(D.q J a).bind λd=>(D.q J b).bind λe=>!{AX (VA J c f.m) d.m e.m,λC=>s_if (ziu<|f.t h C) (d.ok C)<|e.ok C}
structure CxS(J:Gm)(X:Cx)(ca:Str->Value):Prop where
 N:X.N=J.N
 nd:J.N.Nodup
 nm:X.env.scope.names=J.nm
 rm:Room J.lv (aH X.A)
 bl:∀b∈J.bl,X.mg b=()
 gx:GxOk J.ox J.lv X.prog X.w X.K X.mg X.base ca
nonrec def CxS.var(C:CxS J X ca)(h:J.var x=!i):X.N[i]?=!x/\EW X.env.scope x/\(x == "__debug__")=false/\(x == "__classdict__")=false:=by
 unfold Gm.var at h;split at h;rename_i a;rw[È]at a;let(b,c,d):=EA a.1;show{by rw[C.N];show Hj h,YI (by rw[C.nm];show a.2),b,c}
 cases h
structure XR(J:Gm)(e:Expr) where
 m:AH
 ok:∀{X:Cx} {E:L2.St->XK} {ca:Str->Value},CxS J X ca->PE X e (tM X.K E ca m)/\(GC e=true->PT X e (B7 X.K E ca m))
structure XQ(J:Gm)(ss:kj) where
 m:AG
 ok:∀{X:Cx} {E:L2.St->XK} {ca:Str->Value},CxS J X ca->Bf X ss (tS X.K E ca false m)
def xv{J:Gm}{e:Expr}(m:AH)(h:∀{X:Cx} {E:L2.St->XK} {ca:Str->Value},CxS J X ca->PE X e (tM X.K E ca m))(t:M7 e:=by trivial):Option<|XR J e:=!{m,λC=>{h C,λϊ=>TM (h C)<|YU t}}
structure XO(J:Gm)(es:kh) where
 m:BM
 ok:∀{X:Cx} {E:L2.St->XK} {ca:Str->Value},CxS J X ca->PA X es (JY X.K E ca m)
def Xv{J:Gm}(f:(e:Expr)->Option (XR J e)):(es:kh)->Option (XO J es)
 |[]=>!{AE,λϊ=>Z5}|e::es=>gd (EJ e) λh=>(f e).bind λr=>(Xv f es).bind λa=>!{BK r.m a.m,λC=>Zb (r.ok C).1 (a.ok C) (Cv h)}
def xE(J:Gm):Nat->(e:Expr)->Option (XR J e)
 |0,z=>none|n+1,e=>match e with
  |.Name x p=>ob (J.var x) λi h=>xv (AA i) λC=>by
   obtain⟨b,d,f,g⟩:=C.var h;show Z0 b d f g
  |.Constant c k p=>(match c with
   |.none=>xv (mC .non) λϊ=>Kj Zs λϊ z=>.non|z=>())
  |.List a p=>(Xv (xE J n) a).bind λr=>xv (BQ r.m) λC=>Z7 (r.ok C)|z=>()
def xS(J:Gm):Nat->(ss:kj)->Option (XQ J ss)
 |0,z=>none|n+1,ss=>match ss with
  |[]=>!{A5,λϊ=>Yv}|s::r=>(match s with
   |.Return ↑e p=>(match r with
    |[]=>(xE J 50 e).bind λq=>!{AN q.m,λC=>RE<|Yt (q.ok C).1}|z=>())
   |.Assign [.Name x q] e p=>gd (J.loc x) λf=>gd (J.nm.lookup x == !.local) λb=>gd (not (Gu e)) λc=>ob (Dp J.N x) λi d=>(xE J 50 e).bind λa=>(xS J n r).bind λrs=>!{AF (AV a.m<|AD i) rs.m,λ{X} {E} {ca} C=>by
    let hl:X.env.scope.names.lookup x=!.local:=by rw[C.nm];show eq_of_beq b
    show Rw (Yr (by rw[C.N];show C.nd) (by rw[C.N];show Hj d) (.inl hl) (a.ok C).1 (Me<|D0 c) (.inr hl))<|rs.ok C}
   |z=>())
theorem zrg{J:Gm}{X:Cx}(C:CxOk J X E ca)(a:Cb (Ff X pz xe) E'):CxOk { J with ox:={ J.ox with nr:=true}} (Ff X pz xe) E' ca:=
 {C.N,C.nd,C.nm,C.kd,C.calm,C.room,C.ce,C.bl,a,λz=>(by cases z),λz=>(by cases z),fW,C.fs,C.ex,C.ms,{(C.gx.co),C.gx.cl,C.gx.mt,C.gx.nw,C.gx.sf,C.gx.xs,C.gx.sb,C.gx.sv,C.gx.ci,C.gx.x2,C.gx.wd,C.gx.ti,C.gx.dn,C.gx.rn},C.tr,C.fr}
def xTr0(D:Dc)(J:Gm)(body:kj)(W:Str)(o:Pos)(f:Stmt)(b:kj)(c pos:Pos):Option<|SR J<|.Try body [.ExceptHandler (!(.Name W o)) () (f::b) c] [] [] pos:=gd (J.ox.df && (not (J.ox.nr)) && (not (J.mu)) && Cg J.nm W && DM W) λi=>ob (J.ox.xs.lookup W) λcs l=>(D.q { J with ox:={ J.ox with nr:=true } } body).bind λu=>(xS J 50<|f::b).bind λh=>!{HQ cs u.m h.m,λ{X} {E} {ca} C=>by
 erw[È,Ķ]at i;obtain⟨⟨⟨⟨c1,c2⟩,c3⟩,j⟩,k⟩:=i;obtain⟨T,m⟩:=C.gx.xs W cs l;obtain⟨p,q⟩:=C.tr c1;let g:∀(d:L2.St->XK) e xe,Cb (Ff X e xe) d->Bf (Ff X e xe) body (tS X.K d ca J.mu u.m):=λd e xe n=>u.ok<|zrg C n
 generalize u.m=um at g ⊢;rw[c3]at g ⊢;show zo2 T m p q g (λa=>h.ok {C.N,C.nd,C.nm,{(rfl),C.room.dp,C.room.un},C.bl,C.gx}) (C.gl j) (EA k).1}
def xTry(D:Dc)(J:Gm)(body:kj)(hs:List ExceptHandler)(b B5:kj)(pos:Pos):Option<|SR J<|.Try body hs b B5 pos:=match hs,b,B5 with
 |[.ExceptHandler (!(.Name W e)) () (d::a) c],[],[]=>xTr0 D J body W e d a c pos|z,y,x=>()
def xAug(D:Dc)(J:Gm)(t:Expr)(a:Operator)(e:Expr)(pos:Pos):Option<|SR J<|.AugAssign t a e pos:=match t,a with
 |.Name x px,.Add=>gd (J.loc x && (not (J.ow.contains x))) λh=>ob (Dp J.N x) λi c=>(D.e J e).bind λr=>!{Kg i r.m,λC=>by
   obtain⟨g1,g2,b⟩:=C.loc (ÿ.mp h).1 c;show s_aug C.nodup g1 g2 (r.ok C).1 b}
 |z,y=>()
def dSt(D:Dc)(J:Gm):(s:Stmt)->Option (SR J s)
 |.Pass z=>!{A5,λϊ=>zo6}|.Break z=>!{ZI,λϊ=>zl5}|.Continue z=>!{Mt,λϊ=>zf5}|.Return o pos=>xRet D J o pos|.Expr e pos=>dX D J e pos|.Assign i e pos=>dAsg D J i e pos|.AugAssign t g e pos=>xAug D J t g e pos|.If c a b pos=>xIf D J c a b pos|.For h it d f pos=>xFor D J h it d f pos|.While c d f pos=>xWh D J c d f pos|.Raise a b pos=>xRse D J a b pos|.Try d hs f B5 pos=>xTry D J d hs f B5 pos|z=>()
def dSq(D:Dc)(J:Gm):(ss:kj)->Option (QR J ss)
 |[]=>!{A5,λϊ=>Yv}|[s]=>(match D.s J s with
  |some r=>!{OM J (jC J s) r.m,λC=>Mr (RE<|r.ok C) _}|none=>if J.ox.no then ↑{Ms,λϊ=>RE Yu} else ())
 |s::a::r=>(D.q J<|a::r).bind λrs=>match D.s J s with
  |some q=>!{OM J (jC J s)<|AF q.m rs.m,λC=>Mr (Rw (q.ok C)<|rs.ok C) _}|none=>if J.ox.no then ↑{AF Ms rs.m,λC=>Rw Yu<|rs.ok C} else ()
def Ir:Nat->Dc
 |0=>{λϊ z=>(),λϊ z=>(),λϊ z=>(),λϊ z z=>(),λϊ z=>(),λϊ z=>()}|n+1=>{dEs<|Ir n,dAs<|Ir n,dOs<|Ir n,dBs<|Ir n,dSt<|Ir n,dSq<|Ir n}
def O9(n:Nat)(J:Gm)(ss:kj):Option<|AG:=((Ir n).q J ss).map QR.m
structure GoodS(ca:Str->Value)(n:Nat):Prop where
 ss:∀{J:Gm} {X:Cx} {E:L2.St->XK} {st:kj} {m:AG},CxOk J X E ca->O9 n J st=!m->Bf X st (tS X.K E ca J.mu m)
theorem i5(ca)(n):GoodS ca n:={λC h=>by
 let(r,_,rfl):=Ø.mp h;show r.ok C}
end Pu
end
namespace Pu
open PySem PySem.Spec PyProof.Rows L2 Zw Zx
theorem fV:True:=trivial
def Kh(n:Nat)(u:AG)(ts:qD):Option Ru:=match u (ts.map some++List.replicate (n - ts.length) ()) with
 |some (.rt t)=>!(.ok t)|some (.nx z)=>!(.ok .non)|some (.xc c z)=>!(.exc c)|z=>()
def AW(k n:Nat)(u:AG)(ts:qD):Option Ru:=if ts.length=k then Kh n u ts else ()
theorem Ql(c:∀i a,¬ R i a)(s:Stp F H (tot R) F' H' σ'):Ext F H F' H' σ' where
 hh:=λb u e=>s.kp b u (λ⟨i,z⟩=>c i b z) e
 ff:=s.ff
 fh:=s.fh
 nb:=λb z=>(s.nw b z).elim (λ⟨i,w⟩=>absurd w<|c i b) id
 nf:=λb u e=>(s.nf b u e).elim .inl λz=>z.elim (λ⟨i,w⟩=>absurd w<|c i b) .inr
def zil{K}(fh:Ah F H)(r:As K F ts vs):StR K F H (start N vs) (ts.map some++List.replicate (N.length - ts.length) ())<|λϊ=>R0:=by
 let hl:=r.1;show{fh,by simp[L2.start,hl],λi t e=>?_,λϊ y z=>z.elim,λϊ y y y z=>z.elim};unfold L2.start;by_cases d:i<ts.length;rw[ù (by simpa using d),É]at e;let(g,a,b):=Ø.mp e;cases b;let hv:i<vs.length:=by lia
 show{vs[i],?_,(r.2 i t vs[i] a<|Á hv).any};rw[ù (by simpa using hv),É,Á hv];rfl;rw[Ė (by simp;lia)]at e;let(f,c):=Ê.mp e;simp at c
def zob{K}{N ps:kq}(h:Bz K ca (AW ps.length N.length u) vs H Q E):tS K (λϊ=>E) ca false u { nx:=λϊ H'=>Q .non H',rt:=Q} (start N vs) H:=by
 let(g,e,fh,r,q):=h;show{g,_,_,zil fh r,?_};unfold AW at q;by_cases hl:e.length=ps.length;erw[hl,Æ]at q;unfold Kh at q;cases f:u (e.map some++List.replicate (N.length - e.length) ()) with
 |none=>erw[f]at q<;>symm|some o=>
  erw[f]at q;cases o with
  |nx Y=>show λa b i j d k=>q a b .non R0 ((Ql (λϊ y z=>z) d).mono λϊ z=>z.elim) .non|rt t=>show λa b x B d l=>q a b x B (Ql (λϊ y z=>z) d) l|bk Y=>symm|ct Y=>symm|xc c Y=>show λa b i j d k=>q a b<|(Ql (λϊ y z=>z) d).mono λϊ z=>z.elim
 erw[hl,Å]at q<;>symm
def jM{K}{st:Stmt}{f:Addr}{J:Gm}(F:FunD K x qual st f fd)(S:FnScope N ps<|Ds st)
  (d:J.N=N) (t:J.nm=(Ds st).names) (j:∀x∈J.ce,J.nm.lookup x=!.cell) (a:J.lv=k) (i:∀b∈J.bl,mg b=())
  (l:∀f F,J.fns.lookup f=!F->F.lv<=k/\Nonempty (DefX P w K mg base F.lv f F.ps<|Bz K ca F.g)) (hex:∀c∈J.ex,∃T:ECls K mg c,ca c=.ref T.C/\EO K T.C=!())
  (o:∀f F,J.mus.lookup f=!F->F.lv<=k/\Nonempty (DefX P w K mg base F.lv f F.ps<|G9 K ca F.g)) (p:J.mu=false) (m:GxOk J.ox k P w K mg base ca) (hu:O9 n J (Hq st)=!u):FnOk P w K mg base (Dx P w) (k+1) f fd ps<|Bz K ca<|AW ps.length N.length u:=by
 show aG F S (λB H Q E h=>?_) λg A outer s H B Q E hr h=>?_;let(D,z,_,r,q):=h;unfold AW at q;by_cases hl:z.length=ps.length;rw[<- r.1,hl];grind
 let C:CxOk J (GV (Dx P w) P w K mg base N qual (Ds st) f g A outer s H E) (λϊ=>E) ca:=by
  show{d.symm,by rw[d];show S.nd,t.symm,S.kind,rfl,by rw[a];show hr,λy v=>{rfl,j y v},i,Zz,λϊ=>PassesOwn.leaving,λϊ=>gB,fV,λf F e=>by rw[a];show l f F e,hex,λf F e=>by rw[a];show o f F e,by rw[a];show m,λϊ=>{(rfl),rfl},{_,_,rfl,rfl}}
 let G:=(i5 ca n).ss C hu;rw[p]at G;show{_,G,?_};show zob h
def zg7{K}(fh:Ah F H)(r0:Rp K F H t0 x0 A)(r:As K F ts vs):StR K F H (start N<|x0::vs) ((t0::ts).map some++List.replicate (N.length - (t0::ts).length) ()) (λi=>if i=0 then A else R0):=by
 let hl:=r.1;show{fh,by simp[L2.start,hl],λi t e=>?_,λi a z=>?_,λi j a c f g=>?_};unfold L2.start;by_cases b:i<(t0::ts).length;rw[ù (by simpa using b),É]at e;let(o,d,h):=Ø.mp e;cases h;cases i with
 |zero=>cases d;show{x0,by simp,r0}|succ i=>
  let l:i<ts.length:=by simpa using b
  let hv:i<vs.length:=by lia
  show{vs[i],?_,(r.2 i t vs[i] (by simpa using d)<|Á hv).any};rw[ù (by simpa using hv),É,ň,Á hv];rfl
 rw[Ė (by simp at b ⊢;lia)]at e;let(n,k):=Ê.mp e;simp at k;by_cases b:i=0;subst b;show{(t0),rfl};erw[b,Å]at z;show z.elim;by_cases b:i=0;let m:¬ j=0:=λz=>c<|b.trans z.symm
 erw[m,Å]at g;show g;erw[b,Å]at f;show f
def zkp:tot (λi=>if i=0 then A else R0)=A:=funext λa=>propext {λ⟨i,z⟩=>by
 by_cases b:i=0;grind
 erw[b]at z;show z.elim,λz=>{0,by simpa using z}}
def BD{α:Type}{P:α->Prop}:∀x∈([]:List α),P x:=λϊ h=>by cases h
def A2{α:Type}{P:α->Prop}{a:α}{l:List α}(h:P a)(r:∀x∈l,P x):∀x∈a::l,P x:=λx b=>by
 obtain rfl|b:=Ð.mp b
 show h;show r x b
def JS{P:ke->Prop}(h:P []):∀us:ke,us.length=0->P us:=λus e=>by
 cases us with
 |nil=>show h|cons a r=>cases e
def Cu{P:ke->Prop}{k:Nat}(h:∀a us,us.length=k->P (a::us)):∀us:ke,us.length=k+1->P us:=λus e=>by
 cases us with
 |nil=>cases e|cons a r=>show h a r<|ó e
def HJ{P:ke->Prop}(h:∀a,P [a]):∀us:ke,us.length=1->P us:=Cu λa=>JS<|h a
def II{P:ke->Prop}(h:∀a b,P [a,b]):∀us:ke,us.length=2->P us:=Cu λa=>Cu λb=>JS<|h a b
def G5{P:ke->Prop}(h:∀a b c,P [a,b,c]):∀us:ke,us.length=3->P us:=Cu λa=>Cu λb=>Cu λc=>JS<|h a b c
def M1{P:ke->Prop}(h:∀a b c d,P [a,b,c,d]):∀us:ke,us.length=4->P us:=Cu λa=>Cu λb=>Cu λc=>Cu λd=>JS<|h a b c d
def us5{P:ke->Prop}(h:∀a b c d e,P [a,b,c,d,e]):∀us:ke,us.length=5->P us:=Cu λa=>Cu λb=>Cu λc=>Cu λd=>Cu λe=>JS<|h a b c d e
def YM{P:ke->Prop}(h:∀a b c d e f,P [a,b,c,d,e,f]):∀us:ke,us.length=6->P us:=Cu λa=>Cu λb=>Cu λc=>Cu λd=>Cu λe=>Cu λf=>JS<|h a b c d e f
section
variable {P:Program}{w:World}{K:ka}{mg:Str->Option Value}{base:Heap}{ca:Str->Value}{k:Nat}
def A4:∀f F,([]:List<|Str×Fn).lookup f=!F->F.lv<=k/\Nonempty (DefX P w K mg base F.lv f F.ps<|Bz K ca F.g):=λϊ z h=>by cases h
def zjy{x:Str}{a:Fn}{l:List<|Str×Fn}(hk:a.lv<=k)(D:DefX P w K mg base a.lv x a.ps<|Bz K ca a.g)(r:∀f F,l.lookup f=!F->F.lv<=k/\Nonempty (DefX P w K mg base F.lv f F.ps<|Bz K ca F.g)) :
  ∀f F,((x,a)::l).lookup f=!F->F.lv<=k/\Nonempty (DefX P w K mg base F.lv f F.ps<|Bz K ca F.g):=λf F h=>by
 rw[æ]at h;cases b:f == x with
 |true=>rw[b]at h;cases h;rw[eq_of_beq b];show{hk,{(D)}}|false=>rw[b]at h;show r f F h
def Ti:∀f F,([]:List<|Str×Fn).lookup f=!F->F.lv<=k/\Nonempty (DefX P w K mg base F.lv f F.ps<|G9 K ca F.g):=λϊ z h=>by cases h
def Mi(K:ka):Sp:=λc H Q z=>∃(a:Addr) (ns:ku),c=[.ref a]/\HG K H a (ns.map V.int)/\ns.length<=63/\∀b,Q (.bl true) b
def HG.of{K:ka}{H:Hp}{a:Addr}{xs:qC}(b:Pq H)(h:Ag K H a xs):HG K H a xs:=by
 rcases h with (h|h)|h;rcases b a with z|⟨o,c,z⟩<;>rw[h]at z<;>cases z;show .inl h;show .inr h
def DA(ns:ku):T:=.nd false .rl<|ns.map T.int
def ZM{F:Hp}:∀ns:ku,As K F (ns.map T.int)<|ns.map V.int
 |[]=>.nil|n::r=>.cons (H:=F) (.int n)<|ZM r
def zqk{R:qD->Option Ru}{f:Addr}{fd:FuncData}(F:FnOk P w K mg base (Dx P w) k f fd ["_law_script"]<|Bz K ca R)(h:∀ns:ku,ns.length<=63->R [DA ns]=!(.ok<|.bl true)):FnOk P w K mg base MH k f fd ["_law_script"]<|Mi K:=by
 show{λm H Q E hs=>?_,λA outer s H b l m Q E hr i hb hv hs=>?_};let(a,ns,rfl,_):=hs;rfl;let(a,ns,rfl,j,c,q):=hs;show ġ (F.run A outer s H b l _ Q E0 hr i hb hv {H,[DA ns],.refl _,.cons (H:=H) (As.of_node (k:=.rl) j<|ZM ns) .nil,?_}) λr o d=>?_;rw[h ns c];intro n g z C e r;rw[r.bl_inv];show q g;cases r with
 |error v=>let(_,_,_,_,_,_,_,_,_,_,_,_,z):=d;show z.elim
 |ok fl=>cases fl<;>show d
end
def Fz(C:Addr)(fs:kq)(k n:Nat)(u:AG)(p:Addr)(ts:qD):Option Ru:=if ts.length+1=k then (match u ((T.oob p C fs []::ts).map some++List.replicate (n - (ts.length+1)) ()) with
 |some (.nx Y)=>(match Gg Y 0 C fs with
  |some (q,l)=>if q=p then ↑(.ok<|.obj (.ins C fs)<|BA l) else ()
  |none=>())
 |some (.xc c z)=>!(.exc c)|z=>()) else ()
open Classical in
def Ee(C:Addr)(fs:kq)(k n:Nat)(u:AG)(ts:qD):Option Ru:=if h:∃r,∀p,Fz C fs k n u p ts=↑r then ↑h.choose else ()
def Mv{C:Addr}{fs:kq}{k n:Nat}{u:AG}{ts:qD}{r:Ru}(h:∀p,Fz C fs k n u p ts=!r):Ee C fs k n u ts=!r:=by
 let a:∃r,∀p,Fz C fs k n u p ts=!r:={(r),h};unfold Ee;rw[dif_pos a];let e:=(a.choose_spec 0).symm.trans (h 0);show e
nonrec def ZJ{C:Addr}{fs:kq}{k n:Nat}{u:AG}{ts:qD}{r:Ru}(h:Ee C fs k n u ts=!r)(p:Addr):Fz C fs k n u p ts=!r:=by
 unfold Ee at h;split at h;rename_i a;cases h;show a.choose_spec p;cases h
def zrb{P:Program}{w:World}{K:ka}{mg:Str->Option Value}{base:Heap}{ca:Str->Value}{x v:Str}{st:Stmt}{f:Addr}{fd:FuncData}{N ps:kq}{k n:Nat}{J:Gm}{u:AG}{C:Addr}{fs:kq}(F:FunD K x v st f fd)(S:FnScope N ps<|Ds st)
  (R:J.N=N) (hnm:J.nm=(Ds st).names) (hce:∀x∈J.ce,J.nm.lookup x=!.cell) (g:J.lv=k) (Z:∀b∈J.bl,mg b=())
  (hfs:∀f F,J.fns.lookup f=!F->F.lv<=k/\Nonempty (DefX P w K mg base F.lv f F.ps<|Bz K ca F.g)) (hex:∀c∈J.ex,∃T:ECls K mg c,ca c=.ref T.C/\EO K T.C=!())
  (hms:∀f F,J.mus.lookup f=!F->F.lv<=k/\Nonempty (DefX P w K mg base F.lv f F.ps<|G9 K ca F.g)) (hmu:J.mu=false) (hgx:GxOk J.ox k P w K mg base ca) (hu:O9 n J (Hq st)=!u):FnOk P w K mg base (Dx P w) (k+1) f fd ps<|Ka K ca C<|Ee C fs ps.length N.length u:=by
 show aG F S (λvs H Q E h=>?_) λX A outer s H vs Q E hr h=>?_;let(W,p,dx,m,vs',_,rfl,_,_,r,q):=h;cases I:Ee C fs ps.length N.length u m with
 |none=>rw[I]at q;symm|some rr=>
  have d:=ZJ I 0;unfold Fz at d;by_cases hl:m.length+1=ps.length;rw[ï,<- r.1,hl];rw[if_neg hl]at d;cases d
 have CC:CxOk J (GV (Dx P w) P w K mg base N v (Ds st) f X A outer s H E) (λϊ=>E) ca:=by
  show{R.symm,by rw[R];show S.nd,hnm.symm,S.kind,rfl,by rw[g];show hr,λy hy=>{rfl,hce y hy},Z,Zz,λϊ=>PassesOwn.leaving,λϊ=>gB,fV,λf F e=>by rw[g];show hfs f F e,hex,λf F e=>by rw[g];show hms f F e,by rw[g];show hgx,λϊ=>{(rfl),rfl},{_,_,rfl,rfl}}
 have G:=(i5 ca n).ss CC hu;rw[hmu]at G;show{_,G,?_};let(W,p,dx,m,vs',fh,rfl,fp,hp,r,q):=h;have r0:Rp K W H (.oob p C fs []) (.ref p) (λa=>a=p\/∃j:Nat,R0 a):=.oob (xs:=[]) (λϊ=>R0) fp (by rw[List.zip_nil_right];show hp) rfl (λi t x h=>by simp at h) (λϊ i i i z=>z.elim) (λϊ z=>z)<|λϊ i z=>z.elim
 have hA:(λa=>a=p\/∃j:Nat,R0 a)=λa=>a=p:=funext λa=>propext {λz=>z.elim id λ⟨_,w⟩=>w.elim,λz=>.inl z};show{W,_,_,zg7 fh r0 r,?_};unfold pS;rw[zkp,hA];cases I:Ee C fs ps.length N.length u m with
 |none=>rw[I]at q;symm|some rr=>
  rw[I]at q;have d:=ZJ I p;unfold Fz at d
  by_cases hl:m.length+1=ps.length;rw[if_pos hl]at d;have el:(T.oob p C fs []::m).length=m.length+1:=rfl;rw[el];cases ho:u ((T.oob p C fs []::m).map some++List.replicate (N.length - (m.length+1)) ()) with
  |none=>rw[ho]at d;cases d|some o=>
   rw[ho]at d;cases o with
   |nx Y=>
    simp only at d;intro U D O1 V L M;cases B:Gg Y 0 C fs with
    |none=>rw[B]at d;cases d|some ql=>
     let(q0,l):=ql;rw[B]at d;simp only at d;by_cases hq:q0=p;rw[if_pos hq]at d;subst hq;cases d;have O:=TX B;have S2:=M.frz O;let(y,ey,ry):=M.rep 0 _ O;let(dx2,xs2,Rr,rfl,hA2,fp2,hp2,ro,dp):=ry.oob_inv;have n1:∀a,V 0 a->U a=():=λa z=>(M.dom z).1
     have r2:=ry.share (H':=D) (Fd (H:=D) n1) λa u z q=>by rw[HE z];show q
     simp only at q;show q (frz U D<|V 0) D {L.ff.trans<|Fd n1,Il M.fh,L.kp,λb z=>z.elim,λb u e=>?_} r2;by_cases hb:V 0 b;show(L.nw b {0,hb}).elim (λz=>.inr<|.inl z) λz=>.inr<|.inr z
     rw[Fl hb]at e;show L.nf b u e;rw[if_neg hq]at d;cases d
   |rt t=>cases d|bk Y=>cases d|ct Y=>cases d|xc c Y=>cases d;simp only at q;show λU D O1 V L M=>q U D<|L.mono λϊ z=>z.elim
  rw[if_neg hl]at d;cases d
def DV{κ α:Type} [BEq κ]{P:κ->α->Prop}:∀y b,([]:List<|κ×α).lookup y=!b->P y b:=λϊ z h=>by cases h
def ED{κ α:Type} [BEq κ] [LawfulBEq κ]{P:κ->α->Prop}{x:κ}{a:α}{l:List<|κ×α}(h:P x a)(r:∀y b,l.lookup y=!b->P y b):∀y b,((x,a)::l).lookup y=!b->P y b:=λy b e=>by
 rw[æ]at e;cases c:y == x with
 |true=>rw[c]at e;cases e;rw[eq_of_beq c];show h|false=>rw[c]at e;show r y b e
def TB{K:ka}{F:Hp}:∀ys:kq,As K F (ys.map T.str)<|ys.map V.str
 |[]=>.nil|y::r=>.cons (H:=F) (.str y)<|TB r
def NS{P:Str->Fn->List (Nat×qD)->Prop}:∀x F ds,([]:List<|Str×Fn×List (Nat×qD)).lookup x=!(F,ds)->P x F ds:=λϊ z z h=>by cases h
def NU{P:Str->Fn->List (Nat×qD)->Prop}{l:List<|Str×Fn×List (Nat×qD)}{b:Str}{c:Fn}{d:List<|Nat×qD}(h:P b c d)(r:∀x F ds,l.lookup x=!(F,ds)->P x F ds):∀x F ds,((b,c,d)::l).lookup x=!(F,ds)->P x F ds:=λx F ds e=>by
 rw[æ]at e;cases a:x == b with
 |true=>rw[a]at e;cases e;rw[eq_of_beq a];show h|false=>rw[a]at e;show r x F ds e
def lY(K:ka)(C:Addr):=(L1 K C,W.subIn K (.ref C)<|.ref C,(W.clsIn K C).isSome,W.typeIn K<|.ref C,W.findIn K (.ref C) "__getattribute__",W.findIn K (.ref C) "__getattr__",W.findIn K (.ref C) "__class__",W.mroIn K C<|.type "object",W.mroIn K C<|.type "BaseException")
def L4{K:ka}{mg:Str->Option Value}{x:Str}(g:W.specialIn K (.builtin "object.__class__") "__get__"=!(!(.builtin "getset_descriptor.__get__"))/\W.takesIn K (.builtin "object.__class__")=!true)(C:Addr)(m:mg x=!(.ref C))(h:lY K C=(true,!true,true,!(.type "type"),!(!(.builtin "BaseException.__getattribute__")),!(),!(!(.builtin "object.__class__")),!true,!true)):ECls K mg x:={C,m,by
 unfold lY at h;erw[Prod.mk.injEq,Ů]at h;obtain⟨a,b,c,d,e,f,i,j,k⟩:=h;show{(a),b,c,d,e,f,i,j,k,g.1,g.2}}
def xs_of{K:ka}{mg:Str->Option Value}{W:Str}{ca:Str->Value}{cs:List<|Str×Addr}(T:ECls K mg W)(h:(cs.all λe=>(match ca e.1 with|.ref a=>a == e.2|z=>false) && PySem.W.subIn K (.ref e.2) (.ref T.C) == !true)=true):∃T:ECls K mg W,∀c C,cs.lookup c=!C->ca c=.ref C/\PySem.W.subIn K (.ref C) (.ref T.C)=!true:={T,λc C hl=>by
 let h:=Ñ.mp h _<|ď hl;rw[È]at h;show{?_,eq_of_beq h.2};let h:=h.1;cases e:ca c with
 |ref a=>erw[e]at h;rw[eq_of_beq h]|_=>erw[e]at h;cases h}
theorem A3{G:Gx}{lv:Nat}{P:Program}{w:World}{K:ka}{mg:Str->Option Value}{base:Heap}{ca:Str->Value}
  (co:∀x t,G.co.lookup x=!t->∃u v,mg x=!u/\Ab v u/\∀F:Hp,Rp K F F t v R0:=by show DV)
  (cl:∀c∈G.cl,Cls K c.2.1/\∀f∈c.2.2,Bn K c.2.1 f:=by show BD)
  (mt:∀c∈G.mt,c.2.2.2.lv<=lv/\Nonempty (MetX P w K mg base c.2.1 c.1 c.2.2.2.lv c.2.2.2.ps<|Bz K ca c.2.2.2.g):=by show BD)
  (nw:∀x F ds,G.nw.lookup x=!(F,ds)->F.lv+1<=lv/\∃(C:Addr) (D:NewX P w K mg base x C F.lv F.ps<|Ka K ca C F.g),∀k dts,ds.lookup k=!dts->∃dvs us,Ct K D.fd F.ps us/\Ar dvs us/\∀H:Hp,As K H dts dvs:=by show NS)
  (sf:∀C fs,G.sf=!(C,fs)->Cls K C/\∀f∈fs,Bn K C f:=by show(λϊ z h=>by cases h))
  (xs:∀W cs,G.xs.lookup W=!cs->∃T:ECls K mg W,∀c C,cs.lookup c=!C->ca c=.ref C/\PySem.W.subIn K (.ref C) (.ref T.C)=!true:=by show DV)
  (sb:∀D tb,G.sb.lookup D=!tb->∃A:Addr,mg D=!(.ref A)/\∀C b,tb.lookup C=!b->ExcK K C/\PySem.W.kitOne K (.ref C) (.ref A)=!b:=by show DV)
  (sv:∀D tb,G.sv.lookup D=!tb->mg D=()/\∃t,bootBuiltins D=!(.type t)/\∀C b,tb.lookup C=!b->ExcK K C/\PySem.W.kitOne K (.ref C) (.type t)=!b:=by show DV)
  (ci:∀x tb,G.ci.lookup x=!tb->∃D:Addr,mg x=!(.ref D)/\(∀C b,tb.lookup C=!b->ICls K C/\PySem.W.kitOne K (.ref C) (.ref D)=!b)/\(M5.all λa=>PySem.W.kitOne K (.type a) (.ref D) == !false)=true:=by show DV)
  (x2:∀W1 W2 cs,(W1,W2,cs)∈G.x2->∃(T1:ECls K mg W1) (T2:ECls K mg W2),∀c C,cs.lookup c=!C->ca c=.ref C/\PySem.W.subIn K (.ref C) (.ref T1.C)=!false/\PySem.W.subIn K (.ref C) (.ref T2.C)=!true:=by show(λϊ z z h=>by cases h))
  (wd:∀x F,G.wd.lookup x=!F->F.lv<=lv/\∃p,F.ps=[p]/\Nonempty (DefS P w K mg base F.lv x p<|Bz K ca F.g):=by show DV)
  (ti:∀C∈G.ti,TiOk K C:=by show BD)
  (dn:∀x y,G.dn.lookup x=!y->y.1.lv<=lv/\∃(D:DefX P w K mg base y.1.lv x y.1.ps<|Bz K ca y.1.g) (dvs:qC),DefsX K D.fd y.1.ps dvs/\∀H:Hp,As K H y.2 dvs:=by show DV)
  (rn:True:=trivial)
  : GxOk G lv P w K mg base ca:={(co),cl,mt,nw,sf,xs,sb,sv,ci,x2,wd,ti,dn,rn}
theorem scM{N ps:kq}{a:Scope}(h:(a.kind=.function/\a.isCoroutine=false/\a.isGenerator=false)/\N.Nodup/\N.take ps.length=ps/\(∀x∈ps,a.names.lookup x=!.local\/a.names.lookup x=!.cell)/\∀y∈a.names,y.2≠.free):FnScope N ps a:={(h.1.1),h.1.2.1,h.1.2.2,h.2.1,h.2.2.1,h.2.2.2.1,h.2.2.2.2}
class Qx (P:outParam Program) (w:outParam World) (K:outParam ka) (mg:outParam<|Str->Option Value) (base:outParam Heap) (ca:outParam<|Str->Value):Prop where
  c:∀(x:Str) (u:Value),W.nsIn K mainGlobals x=↑!u->mg x=!u
  n:∀x:Str,W.nsIn K mainGlobals x=!()->mg x=()
structure Ck(J:Gm)(f:Fn)(st:Stmt)(u:AG):Prop where
 s:FnScope J.N f.ps<|Ds st:=by show scM (by decide +kernel)
 k:O9 200 J (Hq st)=!u:=by ext
 n:J.nm=(Ds st).names:=by rfl
def AQ{P:Program}{w:World}{K:ka}{mg:Str->Option Value}{base:Heap}{ca:Str->Value}{k:Nat}{x:Str}{a:Fn}{l:List<|Str×Fn}(D:DefX P w K mg base a.lv x a.ps<|Bz K ca a.g)(r:∀f F,l.lookup f=!F->F.lv<=k/\Nonempty (DefX P w K mg base F.lv f F.ps<|Bz K ca F.g))(hk:a.lv<=k:=by decide) :
  ∀f F,((x,a)::l).lookup f=!F->F.lv<=k/\Nonempty (DefX P w K mg base F.lv f F.ps<|Bz K ca F.g):=zjy hk D r
abbrev gF(x a:Str)(s:Stmt)(d:Value)(m:Str)(t c:Nat)(y:Value):FuncData:=W.fnOf x a (O8 s) (Hq s) (Ds s) d .none .none (.str m t) () (.ref c) y
def fO(a b:Str)(s:Stmt)(d:Value)(m:Str)(t c:Nat)(y:Value):Obj:={(.type "function"),(),(.func<|gF a b s d m t c y),Array.mk []}
def gO(a:Str)(s:Stmt)(m:Str)(t c:Nat):Obj:=fO a a s .none m t c .none
def fI(K:ka)(b:Str):Bool:=match W.nsIn K mainGlobals b with
 |some none=>true|z=>false
def HS(K:ka)(x:Str)(a:Addr):Bool:=match W.nsIn K mainGlobals x with
 |some (!(.ref b))=>b == a|z=>false
def Jt(K:ka)(b:Str)(a c:Nat)(J:Gm)(f:Fn):Bool:=W.codeIn K (.ref c) b && W.keepIn K (.ref a) && J.bl.all (fI K) && J.ce.all (λx=>J.nm.lookup x == !.cell) && (not J.mu) && (J.lv+1 == f.lv)
structure Chk(K:ka)(mg:Str->Option Value)(qual:Str)(a c:Nat)(J:Gm)(f:Fn):Prop where
 c:W.codeIn K (.ref c) qual=true
 k:W.keepIn K (.ref a)=true
 b:∀b∈J.bl,mg b=()
 e:∀x∈J.ce,J.nm.lookup x=!.cell
 m:J.mu=false
 l:J.lv+1=f.lv
def zrm{P:Program}{w:World}{K:ka}{mg:Str->Option Value}{base:Heap}{ca:Str->Value} [q:Qx P w K mg base ca]{d:Str}{a c:Nat}{J:Gm}{f:Fn}(h:Jt K d a c J f=true):Chk K mg d a c J f:=by
 unfold Jt at h;erw[È,Ñ]at h;let(((((e,g),i),j),k),l):=h;show{e,g,λb hb=>q.n b ?_,λx m=>eq_of_beq<|j x m,D0 k,eq_of_beq l}
 let:=i b hb;unfold fI at this;split at this;assumption;cases this
nonrec def ZR{P:Program}{w:World}{K:ka}{mg:Str->Option Value}{base:Heap}{ca:Str->Value} [q:Qx P w K mg base ca]{x:Str}{a:Addr}(h:HS K x a=true):mg x=!(.ref a):=by
 unfold HS at h;split at h;rename_i b e;rw[<- eq_of_beq h];show q.c _ _ e;cases h
structure AY(P:Program)(w:World)(K:ka)(mg:Str->Option Value)(base:Heap)(ca:Str->Value)(x qual:Str)(st:Stmt)(d:Value)(mo:Str)(t c:Nat)(y:Value)(J:Gm)(f:Fn)(V:Params->Obj)(a:Addr):Prop where
 fs:∀g F,J.fns.lookup g=!F->F.lv<=J.lv/\Nonempty (DefX P w K mg base F.lv g F.ps<|Bz K ca F.g)
 gx:GxOk J.ox J.lv P w K mg base ca
 ex:∀c∈J.ex,∃T:ECls K mg c,ca c=.ref T.C/\EO K T.C=!()
 ms:∀g F,J.mus.lookup g=!F->F.lv<=J.lv/\Nonempty (DefX P w K mg base F.lv g F.ps<|G9 K ca F.g)
 h:Chk K mg qual a c J f
 F:FunD K x qual st a<|gF x qual st d mo t c y
section
variable {P:Program}{w:World}{K:ka}{mg:Str->Option Value}{base:Heap}{ca:Str->Value} [q:Qx P w K mg base ca]{x mo qual:Str}{st:Stmt}{t c:Nat}{d y:Value}{J:Gm}{f:Fn}{u:AG}{V:Params->Obj}{a C:Addr}{fs:kq}
theorem XN(b:∀g F,J.fns.lookup g=!F->F.lv<=J.lv/\Nonempty (DefX P w K mg base F.lv g F.ps<|Bz K ca F.g))(e:GxOk J.ox J.lv P w K mg base ca)(hex:∀c∈J.ex,∃T:ECls K mg c,ca c=.ref T.C/\EO K T.C=!())(i:∀g F,J.mus.lookup g=!F->F.lv<=J.lv/\Nonempty (DefX P w K mg base F.lv g F.ps<|G9 K ca F.g))
  (j:V w.params=fO x qual st d mo t c y) (l:K.lookup a=!(V w.params)) (h:Jt K qual a c J f=true):AY P w K mg base ca x qual st d mo t c y J f V a:=
 let h:=zrm h
 {b,e,hex,i,h,zmy (l.trans<|congrArg some j) h.c h.k}
def Aq(e:∀g F,J.fns.lookup g=!F->F.lv<=J.lv/\Nonempty (DefX P w K mg base F.lv g F.ps<|Bz K ca F.g))(i:GxOk J.ox J.lv P w K mg base ca)(hex:∀c∈J.ex,∃T:ECls K mg c,ca c=.ref T.C/\EO K T.C=!():=by show BD)(j:∀g F,J.mus.lookup g=!F->F.lv<=J.lv/\Nonempty (DefX P w K mg base F.lv g F.ps<|G9 K ca F.g):=by show Ti)
  (n:V w.params=fO x x st d mo t c y:=by show rfl) (l:K.lookup a=!(V w.params):=by ext) (h:Jt K x a c J f=true:=by ext) (m:HS K x a=true:=by ext) (k:f.g=AW f.ps.length J.N.length u:=by rfl)
  (b:Ct K (gF x x st d mo t c y) f.ps []:=by first|show .all (HJ λϊ=>rfl)|show .all (II λϊ z=>rfl)|show .all (G5 λϊ z z=>rfl)|show .all (M1 λϊ z z z=>rfl)|show .all (us5 λϊ z z z z=>rfl)|show .all<|YM λϊ z z z z z=>rfl):AY P w K mg base ca x x st d mo t c y J f V a/\HS K x a=true/\f.g=AW f.ps.length J.N.length u/\Ct K (gF x x st d mo t c y) f.ps []:={XN e i hex j n l h,m,k,b}
def Du(e:∀g F,J.fns.lookup g=!F->F.lv<=J.lv/\Nonempty (DefX P w K mg base F.lv g F.ps<|Bz K ca F.g))(i:GxOk J.ox J.lv P w K mg base ca)(hex:∀c∈J.ex,∃T:ECls K mg c,ca c=.ref T.C/\EO K T.C=!():=by show BD)(j:∀g F,J.mus.lookup g=!F->F.lv<=J.lv/\Nonempty (DefX P w K mg base F.lv g F.ps<|G9 K ca F.g):=by show Ti)
  (m:V w.params=fO x qual st d mo t c y:=by show rfl) (l:K.lookup a=!(V w.params):=by ext) (h:Jt K qual a c J f=true:=by ext) (me:Meth K C x a:=by show{by ext,by ext,by ext}) (k:f.g=AW f.ps.length J.N.length u:=by rfl)
  (b:Ct K (gF x qual st d mo t c y) f.ps []):AY P w K mg base ca x qual st d mo t c y J f V a/\Meth K C x a/\f.g=AW f.ps.length J.N.length u/\Ct K (gF x qual st d mo t c y) f.ps []:={XN e i hex j m l h,me,k,b}
def Ox{z:Str}(b:∀g F,J.fns.lookup g=!F->F.lv<=J.lv/\Nonempty (DefX P w K mg base F.lv g F.ps<|Bz K ca F.g))(e:GxOk J.ox J.lv P w K mg base ca)(hex:∀c∈J.ex,∃T:ECls K mg c,ca c=.ref T.C/\EO K T.C=!():=by show BD)(i:∀g F,J.mus.lookup g=!F->F.lv<=J.lv/\Nonempty (DefX P w K mg base F.lv g F.ps<|G9 K ca F.g):=by show Ti)
  (k:V w.params=fO x qual st d mo t c y:=by show rfl) (l:K.lookup a=!(V w.params):=by ext) (h:Jt K qual a c J f=true:=by ext) (m:HS K z C=true:=by ext) (ma:Mk K C a:=by show{by ext,by ext,by ext,by ext}) (j:f.g=Ee C fs f.ps.length J.N.length u:=by rfl):AY P w K mg base ca x qual st d mo t c y J f V a/\HS K z C=true/\Mk K C a/\f.g=Ee C fs f.ps.length J.N.length u:={XN b e hex i k l h,m,ma,j}
def Ap(V:Params->Obj)(a:Addr)(S:Ck J f st u)(A:AY P w K mg base ca x x st d mo t c y J f V a/\HS K x a=true/\f.g=AW f.ps.length J.N.length u/\Ct K (gF x x st d mo t c y) f.ps []):DefX P w K mg base f.lv x f.ps<|Bz K ca f.g:=
 {a,_,by rw[A.2.2.1,<- A.1.h.l];show jM A.1.F S.s rfl S.n A.1.h.e rfl A.1.h.b A.1.fs A.1.ex A.1.ms A.1.h.m A.1.gx S.k,ZR A.2.1,A.1.h.k,A.2.2.2}
def Dq(V:Params->Obj)(a:Addr)(S:Ck J f st u)(cl:Cls K C)(A:AY P w K mg base ca x qual st d mo t c y J f V a/\Meth K C x a/\f.g=AW f.ps.length J.N.length u/\Ct K (gF x qual st d mo t c y) f.ps []):MetX P w K mg base C x f.lv f.ps<|Bz K ca f.g:=
 {a,_,cl,A.2.1,by rw[A.2.2.1,<- A.1.h.l];show jM A.1.F S.s rfl S.n A.1.h.e rfl A.1.h.b A.1.fs A.1.ex A.1.ms A.1.h.m A.1.gx S.k,A.2.2.2}
def O7(z:Str)(C:Addr)(fs:kq)(V:Params->Obj)(a:Addr)(S:Ck J f st u)(A:AY P w K mg base ca x qual st d mo t c y J f V a/\HS K z C=true/\Mk K C a/\f.g=Ee C fs f.ps.length J.N.length u):NewX P w K mg base z C f.lv f.ps<|Ka K ca C f.g:=
 {a,gF x qual st d mo t c y,ZR A.2.1,A.2.2.1,by rw[A.2.2.2,<- A.1.h.l];show zrb A.1.F S.s rfl S.n A.1.h.e rfl A.1.h.b A.1.fs A.1.ex A.1.ms A.1.h.m A.1.gx S.k}
end
def at0:A9 (x::l) 0=!x:=by
 let:A9 (x::l) 0=!x:=Fq rfl;show this
def Hu:A9 (x::y::l) 1=!y:=by
 let:A9 (x::y::l) 1=!y:=Fq rfl;show this
def at2:A9 (x::y::z::l) 2=!z:=by
 let:A9 (x::y::z::l) 2=!z:=Fq rfl;show this
abbrev fr(a b:Int):T:=.tup [.int a,.int b]
section
variable {b:T->AL->Option AL}{body:AG}{mc:AH}
def DI(I:Nat->AL->Prop)(j:I 0 Y)(hs:∀i t Y,ts[i]?=!t->I i Y->∃τ1,b t Y=!τ1/\∃τ2,body τ1=!(.nx τ2)/\I (i+1) τ2):∃Y',BC b body ts Y=!(.nx Y')/\I ts.length Y':=by
 let e:∀(l:qD) (k:Nat) (Y:AL),ts.drop k=l->k<=ts.length->I k Y->∃Y',BC b body l Y=!(.nx Y')/\I ts.length Y':=by
  intro l
  induction l with
  |nil=>
   intro k Y hd hk c
   let:k=ts.length:=by
    let:=congrArg List.length hd;simp at this;lia
   subst this;show{(Y),rfl,c}
  |cons t l p=>
   intro k Y hd hk c
   let a:k<ts.length:=by
    let:=congrArg List.length hd;simp at this;lia
   rw[ı a]at hd;injection hd with m n;let(τ1,f,τ2,g,d):=hs k t Y (by rw[Á a,m]) c;let(Y',h,o):=p (k+1) τ2 n a d;show{Y',by unfold BC;erw[f,g];show h,o}
 show e ts 0 Y rfl (ø _) j
def zhd(I:Nat->AL->Prop)(d:T->Prop)(n:I 0 Y)(hs:∀i t Y,ts[i]?=!t->I i Y->∃τ1,b t Y=!τ1/\((∃τ2,(body τ1=!(.nx τ2)\/body τ1=!(.ct τ2))/\I (i+1) τ2)\/∃v,body τ1=!(.rt v)/\d v)) :
  (∃Y',BC b body ts Y=!(.nx Y')/\I ts.length Y')\/∃v,BC b body ts Y=!(.rt v)/\d v:=by
 let m:∀(l:qD) (k:Nat) (Y:AL),ts.drop k=l->k<=ts.length->I k Y->(∃Y',BC b body l Y=!(.nx Y')/\I ts.length Y')\/∃v,BC b body l Y=!(.rt v)/\d v:=by
  intro l
  induction l with
  |nil=>
   intro k Y hd hk h
   let:k=ts.length:=by
    let:=congrArg List.length hd;simp at this;lia
   subst this;show .inl {(Y),rfl,h}
  |cons t l q=>
   intro k Y hd hk h
   let c:k<ts.length:=by
    let:=congrArg List.length hd;simp at this;lia
   rw[ı c]at hd;injection hd with o p;let(τ1,e,hb):=hs k t Y (by rw[Á c,o]) h;rcases hb with ⟨τ2,a,j⟩|⟨v,a,hv⟩;rcases q (k+1) τ2 p c j with ⟨Y',f,g⟩|⟨v,f,g⟩;show .inl {Y',?_,g};unfold BC;rcases a with a|a<;>erw[e,a]<;>show f;show .inr {v,?_,g};unfold BC;rcases a with a|a<;>erw[e,a]<;>show f;show .inr {v,by unfold BC;erw[e,a],hv}
 show m ts 0 Y rfl (ø _) n
def ZE(I:AL->Prop)(μ:AL->Nat)(i:I Y)(hs:∀Y,I Y->(∃bb,mc Y=!(.v (.bl true) bb)/\∃τ2,body Y=!(.nx τ2)/\I τ2/\μ τ2<μ Y)\/∃bb,mc Y=!(.v (.bl false) bb)) :
  ∃Y',Ec mc body Y=!(.nx Y')/\I Y'/\∃bb,mc Y'=!(.v (.bl false) bb):=by
 let c:∀(n:Nat) (Y:AL),μ Y<n->I Y->∃Y',DJ mc body n Y=!(.nx Y')/\I Y'/\∃bb,mc Y'=!(.v (.bl false) bb):=by
  intro n
  induction n with
  |zero=>intro Y h;show absurd h (Nat.not_lt_zero _)|succ n k=>
   intro Y hn d;rcases hs Y d with ⟨bb,a,τ2,f,b,l⟩|⟨bb,a⟩;let(Y',g,j):=k τ2 (by lia) b;show{Y',by unfold DJ;erw[a,f];show g,j};show{Y,by unfold DJ;erw[a],d,bb,a}
 let(Y',e,h):=c (μ Y+1) Y (ę _) i;show{Y',ZD e,h}
def Nt(I:Nat->AL->Prop)(f )(j:I 0 Y)(hs:∀i t Y,ts[i]?=!t->I i Y->∃τ1,b t Y=!τ1/\me τ1=!(.v (f i) false)/\I (i+1) τ1) :
  CK b (mC<|.bl true) me ts Y=!((List.range ts.length).map f):=by
 let d:∀(l ) (k ) (Y ),ts.drop k=l->k<=ts.length->I k Y->CK b (mC<|.bl true) me l Y=!((List.range' k l.length).map f):=by
  intro l
  induction l with
  |nil=>intro k Y _ _ _;rfl|cons t l o=>
   intro k Y hd hk n
   let a:k<ts.length:=by
    grind
   rw[ı a]at hd;injection hd with p m;let(τ1,e,g,c):=hs k t Y (by grind) n;let h:=o (k+1) τ1 m a c;unfold CK;erw[e,mC,g,h];rfl
 let:=d ts 0 Y rfl (ø _) j;rw[this,<- List.range_eq_range']
end
def EL{i j:Int}(h:Ey j=true):B9 i j=true:=by unfold B9;grind
def Gj{i j:Int}(h:Ey i=true):B9 i j=true:=by unfold B9;grind
def zmd(a:DB i=true)(b:DB j=true):B9 i j=true:=by unfold B9;grind
def DK(a:-(2 ^ 64)<i)(b:i<2 ^ 64):Ey i=true:=@decide_eq_true _ (Classical.propDecidable _) {(a),b}
def Dy(a:-(10 ^ 70)<i)(b:i<10 ^ 70):DB i=true:=@decide_eq_true _ (Classical.propDecidable _) {(a),b}
def fm{i j:Int}(h:0<j):i.fmod j=i % j:=Int.fmod_eq_emod_of_nonneg i<|by lia
def fd{i j:Int}(h:0<j):i.fdiv j=i / j:=ũ i<|by lia
def ET{i j:Int}:BS (.int i) (.int j)=!(.bl<|i == j):=by
 rfl
def GF{i j:Int}:Cm (.int i) (.int j)=!(.bl<|(not (i == j))):=by
 rfl
mutual
noncomputable def EK:PyData->Bool
 |.bool z=>false|.dict z=>false|.list xs=>H9 xs|.tuple xs=>H9 xs|z=>true
noncomputable def H9:List PyData->Bool
 |[]=>true|x::xs=>EK x && H9 xs
end
mutual
theorem lU:∀d d':PyData,EK d=true->EK d'=true->(PyData.eqv d d'=true ↔ d=d')
 |.none,d',z,a=>by cases d'<;>simp[PyData.eqv,EK]at a ⊢|.int i,d',z,a=>by cases d'<;>simp[PyData.eqv,EK]at a ⊢|.str x,d',z,a=>by cases d'<;>simp[PyData.eqv,EK]at a ⊢|.bool z,y,h,w=>by simp[EK]at h|.dict z,y,h,w=>by simp[EK]at h|.list xs,d',h,a=>by
  cases d' with
  |list b=>
   let:=WE xs b (by simpa[EK] using h)<|by simpa[EK] using a
   erw[PyData.eqv];rw[this];simp
  |_=>simp[PyData.eqv,EK]at a ⊢
 |.tuple xs,d',h,a=>by
  cases d' with
  |tuple b=>
   let:=WE xs b (by simpa[EK] using h)<|by simpa[EK] using a
   erw[PyData.eqv];rw[this];simp
  |_=>simp[PyData.eqv,EK]at a ⊢
theorem WE:∀xs ys:List PyData,H9 xs=true->H9 ys=true->(PyData.eqvAll xs ys=true ↔ xs=ys)
 |[],[],z,w=>by simp[PyData.eqvAll]|[],z::w,v,u=>by simp[PyData.eqvAll]|z::w,[],v,u=>by simp[PyData.eqvAll]|x::xs,y::ys,a,b=>by
  erw[H9,È]at a b;let c:=lU x y a.1 b.1;let d:=WE xs ys a.2 b.2;erw[PyData.eqvAll,È,c,d,List.cons.injEq]
end
structure Fit(t:T)(n:Nat):Prop where
 fit:Em t=true
 nb:EK t.data=true
 dep:t.data.depth<=n
theorem Fit.int(i)(n):Fit (.int i) n:={rfl,rfl,by simp[T.data,PyData.depth]}
theorem Fit.non(n:Nat):Fit .non n:={rfl,rfl,by simp[T.data,PyData.depth]}
def lI:∀{l} {n},(∀t∈l,Fit t n)->(FC l=true/\PyData.canLayAll0 (Bs l)=true)/\H9 (Bs l)=true/\PyData.depthAll (Bs l)<=n
 |[],n,z=>{{(rfl),rfl},rfl,ø _}|t::r,n,h=>by
  let(a,c,f):=h t (Î ..);let((b,g1),g2,e):=lI λx d=>h x<|Ë _ d
  unfold Em at a;rw[È]at a;show{{by rw[FC,a.1,b];rfl,by rw[Bs,PyData.canLayAll0,a.2,g1];rfl},by rw[Bs,H9,c,g2];rfl,?_};rw[Bs,PyData.depthAll];lia
def Fit.nd(h:∀t∈l,Fit t n):Fit (.nd o k l)<|n+1:=by
 let(g1,g2,a):=lI h;cases k<;>show{by simpa[Em,T.data,T.pln,PyData.canLay0] using g1,by simpa[T.data,EK] using g2,by simpa[T.data,PyData.depth] using a}
theorem Fit.tup{l:qD}{n:Nat}(h:∀t∈l,Fit t n):Fit (.tup l)<|n+1:=Fit.nd h
theorem Fit.mono(h:Fit t n)(a:n<=m):Fit t m:={h.fit,h.nb,Ö h.dep a}
open Classical in
def zre{t u:T}{n m:Nat}(h:Fit t n)(h':Fit u m)(hn:n<=60):BS t u=!(.bl<|decide (t.data=u.data))/\Cm t u=!(.bl<|(not (decide (t.data=u.data)))):=by
 let ok:Ip t u=true:=by
  unfold Ip;rw[h.fit,h'.fit,Ä (by let:=h.dep;lia)];rfl
 let e:L3 t u=decide (t.data=u.data):=by
  unfold L3;rw[Bool.eq_iff_iff,lU _ _ h.nb h'.nb];simp
 unfold BS Cm;rw[if_pos ok,if_pos ok,e];show{(rfl),rfl}
def IP:∀ns:ku,BA (ns.map T.int)=ns.map T.int
 |[]=>rfl|n::r=>by rw[Ù,BA,IP r];rfl
def HM:∀ns:ku,AZ (ns.map T.int)=true
 |[]=>rfl|n::r=>by rw[Ù,AZ,HM r];rfl
def Yk(ns):(DA ns).share=DA ns:=by unfold DA;rw[T.share,IP]
def Yl(ns):(DA ns).sh=true:=by unfold DA;rw[T.sh,HM];rfl
def CF{x:α}(a:0<=k)(h:l[k.toNat]?=!x):A9 l k=!x:=by
 let:A9 l ((k.toNat:Nat):Int)=!x:=Fq h;rwa[Int.toNat_of_nonneg a]at this
def Oa(f:α->β)(l)(lo hi):CM (l.map f) lo hi=(CM l lo hi).map f:=by
 unfold CM;simp
def Oc(l:List α)(lo hi):(CM l lo hi).length<=l.length:=by
 unfold CM;rw[î,List.length_drop];show Ö (Nat.min_le_right ..) (Nat.sub_le ..)
def mK{lo hi}{x}(h:x∈CM l lo hi):x∈l:=by
 unfold CM at h;grind
end Pu
noncomputable section
namespace Pu
open PySem PySem.Spec PyProof.Rows L2 Zw Zx
section
variable {Y Y':AL}{t u v t':T}{ts us l l':qD}{b c d x:Bool}{m ma mb mc me mt:AH}{ms mi:BM}{f g s s':AG}{r:Option Out}{G:qD->Option Ru}{i j k:Nat}{n:Int}{rs:Rs}{B:T->AL->Option AL}{C:Addr}{fs ks:kq}
def nt{a:Bool}(h:a=true):(not a)=false:=by rw[h];rfl
def nt2{a:Bool}(h:a=true):(b && (not a))=false:=by rw[h,ř,Bool.and_false]
def q_v(h:Y[i]?=↑!t)(s:(not t.sh)=b):AA i Y=!(.v t b):=by unfold AA;simp[h,s]
def q_c(a:m Y=!(.v t b))(e:t.share=t')(d:ms Y=!(.v ts c)):AB m ms Y=!(.v (t'::ts)<|b || c):=by unfold AB;simp[a,e,d]
def q_co(a:m Y=!(.v t false))(d:ms Y=!(.v ts c)):BK m ms Y=!(.v (t::ts) false):=by unfold BK;simp[a,d]
def zot(a:ms Y=!(.v ts b))(e:G ts=!(.ok v))(h:(b && (not v.flat))=false):AJ G ms Y=!(.v v false):=by unfold AJ B5;simp[a,e,h]
def q_ap{h:qD->q9}(a:ms Y=!(.v ts b))(e:h ts=!v)(w:(b && (not v.flat))=false):Bk h ms Y=!(.v v false):=by unfold Bk B5;simp[a,e,w]
def q_ix{o:Bool}{kd:Kd}(a:ma Y=!(.v (.nd o kd l) b))(e:mb Y=!(.v (.int n) c))(h:A9 l n=!u)(w:(b && (not u.sh))=d):AM ma mb Y=!(.v u d):=by unfold AM;simp[a,e,h,w]
def q_lst(a:ms Y=!(.v ts b))(h:ts.length<=BN):BQ ms Y=!(.v (.own ts) false):=by unfold BQ;simp[a,h]
def q_tup(a:ms Y=!(.v ts false))(h:ts.length<=BN):BP ms Y=!(.v (.tup ts) false):=by unfold BP;simp[a,h]
def q_not(a:m Y=!(.v (.bl c) b)):BJ m Y=!(.v (.bl<|(not c)) false):=by unfold BJ;simp[a]
def q_if(a:mc Y=!(.v (.bl x) b))(h:x=true/\ma Y=!rs\/x=false/\mb Y=!rs):DU mc ma mb Y=!rs:=by unfold DU;cases x<;>simp_all
def q_and(a:ma Y=!(.v (.bl x) b))(h:x=true/\mb Y=!rs\/x=false/\rs=.v (.bl false) false):Bq ma mb Y=!rs:=by unfold Bq DU;cases x<;>simp_all [mC]
def q_or(a:ma Y=!(.v (.bl x) b))(h:x=true/\rs=.v (.bl true) false\/x=false/\mb Y=!rs):Bu ma mb Y=!rs:=by unfold Bu DU;cases x<;>simp_all [mC]
def q_fld(a:m Y=!(.v t b))(e:Aw C fs t=!l)(h:l[j]?=!u)(w:(b && (not u.sh))=d):AU C fs j m Y=!(.v u d):=by unfold AU;simp[a,e,h,w]
def zos(a:m Y=!(.v t b))(e:Aw C fs t=!l)(h:ms Y=!(.v ts c))(z:t.share=t')(g:G (t'::ts)=!(.ok v))(w:(c && (not v.flat))=false):BY C fs G m ms Y=!(.v v false):=by unfold BY B5;simp[a,e,h,z,g,w]
def q_alt(a:ma Y=!rs):Ax ma mb Y=!rs:=by unfold Ax;simp[a]
def q_it{o:Bool}{kd:Kd}(a:m Y=!(.v (.nd o kd l) false))(e:BA l=l'):Aj m Y=!(.v l' false):=by unfold Aj Ig;simp[a,e]
def q_rg(a:ms Y=!(.v [.int n] b))(e:Cj n=true)(h:n.toNat=k):C9 ms Y=!(.v (Ez 0 k) false):=by unfold C9 Ld;simp[a,e,h]
def q_seq(a:f Y=!(.nx Y'))(h:g Y'=r):AF f g Y=r:=by unfold AF;simp[a,h]
def q_set(a:m Y=!(.v t false))(e:t.share=t')(h:B t' Y=!Y'):AV m B Y=!(.nx Y'):=by unfold AV;simp[a,e,h]
def q_own(a:m Y=!(.v t false))(h:i<Y.length):Bh i m Y=!(.nx<|Y.set i !t):=by unfold Bh;simp[a,h]
def q_sif(a:mc Y=!(.v (.bl x) b))(h:x=true/\f Y=r\/x=false/\g Y=r):AX mc f g Y=r:=by unfold AX;cases x<;>simp_all
def q_ret(a:m Y=!(.v t b)):AN m Y=!(.rt t):=by unfold AN;simp[a]
def q_for(a:mi Y=!(.v ts b))(h:BC B f ts Y=r):BV mi B f Y=r:=by unfold BV;simp[a,h]
def q_app{kd:Kd}(w:Ef Y i=!(kd,l))(a:m Y=!(.v t false))(h:l.length<BN):CO i m Y=!(.nx<|Y.set i<|!(.nd true kd<|l++[t])):=by unfold CO;simp[w,a,h]
def q_lc{cs:kz}(a:mi Y=!(.v ts b))(h:ts.length<=BN)(e:CK B mt me ts (blk k cs Y)=!l):Az k cs mi B mt me Y=!(.v (.own l) false):=by unfold Az;simp[a,h,e]
end
end Pu
namespace Zm
end Zm
namespace Db
open PySem
def Tc(a b):((a &&& b) % 2=1) ↔ (a % 2=1/\b % 2=1):=Nat.and_mod_two_eq_one
def Ko(a:Nat):(a:Int) % 2=1 ↔ a % 2=1:=by lia
def Kn(a:Nat):(Int.negSucc a) % 2=1 ↔ ¬ a % 2=1:=by lia
def aK(a c:Nat):((a:Int) - c) % 2=1 ↔ ¬ (a % 2=1 ↔ c % 2=1):=by lia
def zkh(x y):Builtin.bitAnd x y % 2=1 ↔ (x % 2=1/\y % 2=1):=by
 let d:∀a:Nat,Builtin.bitNot (Int.negSucc a)=(a:Int):=λa=>by
  unfold Builtin.bitNot;lia
 cases x with
 |ofNat a=>
  cases y with
  |ofNat b=>show(?_:((a &&& b:Nat):Int) % 2=1 ↔ ((a:Int) % 2=1/\(b:Int) % 2=1));rw[Ko,Ko,Ko,Tc]|negSucc b=>show(?_:((a:Int) - ((a &&& (Builtin.bitNot<|Int.negSucc b).toNat:Nat):Int)) % 2=1 ↔ ((a:Int) % 2=1/\(Int.negSucc b) % 2=1));rw[d,Ď,aK,Ko,Kn,Tc];show{λh=>{Classical.byContradiction λz=>h {λq=>absurd q z,λq=>q.1},λz=>h {λq=>{(q),z},λq=>q.1}},λh z=>h.2 (z.mp h.1).2}
 |negSucc a=>
  cases y with
  |ofNat b=>show(?_:((b:Int) - ((b &&& (Builtin.bitNot<|Int.negSucc a).toNat:Nat):Int)) % 2=1 ↔ ((Int.negSucc a) % 2=1/\(b:Int) % 2=1));rw[d,Ď,aK,Ko,Kn,Tc];show{λh=>{λz=>h {λq=>{(q),z},λq=>q.1},Classical.byContradiction λz=>h {λq=>absurd q z,λq=>q.1}},λh z=>h.1 (z.mp h.2).2}|negSucc b=>
   show(show (Builtin.bitNot (((Builtin.bitNot<|Int.negSucc a).toNat ||| (Builtin.bitNot<|Int.negSucc b).toNat:Nat):Int)) % 2=1 ↔ _ from ?_)
   let nb:∀c:Nat,Builtin.bitNot (c:Int)=Int.negSucc c:=λc=>by
    unfold Builtin.bitNot;lia
   rw[d,d,Ď,Ď,nb,Kn,Kn,Kn,Nat.or_mod_two_eq_one];show not_or
def zkg(x):Builtin.bitAnd x 1=x % 2:=by
 cases x with
 |ofNat a=>
  show(?_:((a &&& 1:Nat):Int)=(a:Int) % 2);rw[Nat.and_one_is_mod];rfl
 |negSucc a=>
  show(show ((1:Nat):Int) - (((1:Nat) &&& (Builtin.bitNot<|Int.negSucc a).toNat:Nat):Int)=_ from ?_);rw[show Builtin.bitNot (Int.negSucc a)=a by unfold Builtin.bitNot;lia,Ď,Nat.and_comm,Nat.and_one_is_mod];lia
def bor_one(x y):Builtin.bitAnd (Builtin.bitOr x y) 1=max (x % 2) (y % 2):=by
 rw[zkg];let h:=zkh (Builtin.bitNot x)<|Builtin.bitNot y;unfold Builtin.bitOr;change Builtin.bitAnd (Builtin.bitNot x) (Builtin.bitNot y)=c
 let nb:∀z:Int,Builtin.bitNot z % 2=1 - z % 2:=λz=>by
  unfold Builtin.bitNot;lia
 rw[nb,nb]at h;rw[nb];rcases ļ x with e|e<;>rcases ļ y with f|f<;>rw[e,f]at h ⊢<;>rcases ļ c with g|g<;>rw[g]at h ⊢<;>revert h<;>decide
def bs(a b:Int):Int:=2 * (a / 2+b / 2)+min (a % 2) (b % 2)
def bs_eq(a b:Int):a+b - max (a % 2) (b % 2)=bs a b:=by unfold bs;lia
def zrn(a:Int):bs a 1=a:=by unfold bs;lia
def zpx(a:Int):bs 1 a=a:=by unfold bs;lia
def zn8(a b:Int):bs a b=bs b a:=by unfold bs;lia
def fX(a b:Int):min (a % 2) (b % 2)=0\/min (a % 2) (b % 2)=1:=by
 rcases ļ a with e|e<;>rcases ļ b with f|f<;>rw[e,f]<;>decide
def m9(a b:Int):bs a b / 2=a / 2+b / 2:=by
 let h:=fX a b;unfold bs;change a / 2+b / 2=k;change min (a % 2) (b % 2)=m;lia
def m8(a b:Int):bs a b % 2=min (a % 2) (b % 2):=by
 let h:=fX a b;unfold bs;change a / 2+b / 2=k;change min (a % 2) (b % 2)=m;lia
def zkf(a b c):bs (bs a b) c=bs a (bs b c):=by
 show(?_:2 * (bs a b / 2+c / 2)+min (bs a b % 2) (c % 2)=2 * (a / 2+bs b c / 2)+min (a % 2) (bs b c % 2));rw[m9,m9,m8,m8,Int.add_assoc,Int.min_assoc]
def zn7(h:a<=a')(h':b<=b'):bs a b<=bs a' b':=by unfold bs;lia
abbrev B:=kg
def le:B->B->Prop
 |z,none=>True|none,!z=>False|some a,!b=>a<=b
def add:B->B->B
 |some a,!b=>!(bs a b)|z,y=>()
def mn:B->B->B
 |none,b=>b|some a,none=>!a|some a,!b=>!(min a b)
def le_refl(a:B):le a a:=by cases a<;>simp[le]
def le_trans(h:le a b)(h':le b c):le a c:=by
 cases a<;>cases b<;>cases c<;>simp_all [le];lia
def Nr(h:le a b)(h':le b a):a=b:=by
 cases a<;>cases b<;>simp_all [le];lia
def add_mono(h:le a b)(h':le c d):le (add a c)<|add b d:=by
 cases a<;>cases b<;>cases c<;>cases d<;>simp_all [le,add];show zn7 h h'
def add_comm(a b:B):add a b=add b a:=by
 cases a<;>cases b<;>simp[add,zn8]
def add_assoc(a b c):add (add a b) c=add a (add b c):=by
 cases a<;>cases b<;>cases c<;>simp[add,zkf]
def XW(a:B):add a ↑1=a:=by cases a<;>simp[add,zrn]
def NQ(a:B):add ↑1 a=a:=by cases a<;>simp[add,zpx]
def F8(a b:B):le (mn a b) a:=by
 cases a<;>cases b<;>simp[le,mn];lia
def Gk(a b:B):le (mn a b) b:=by
 cases a<;>cases b<;>simp[le,mn];lia
def LD(h:le a b)(h':le a c):le a<|mn b c:=by
 cases a<;>cases b<;>cases c<;>simp_all [le,mn];lia
def mn_of_le{a b:B}(h:le a b):mn a b=a:=Nr (F8 a b)<|LD (le_refl a) h
def Kt(a b):mn a b=a\/mn a b=b:=by
 cases a<;>cases b<;>simp[mn];lia
abbrev Z:=Nat->Nat->B
def free(i j:Nat):B:=if i=0\/i=j then ↑1 else ()
def z0(f:Z):Z:=λi j=>mn (f i j)<|free i j
def stp(f:Z)(k:Nat):Z:=λi j=>mn (f i j)<|add (f i k)<|f k j
def fw(f:Z):Nat->Z
 |0=>z0 f|k+1=>stp (fw f k) k
def Brk(n:Nat)(f:Z):Prop:=∃i,i<n/\¬ le ↑1 (f i i)
def Sound(n:Nat)(f:Z):Prop:=∀k,k<n->¬ Brk n (fw f k)
def diag_le(f)(i):∀k,le (fw f k i i) !1
 |0=>by
  let h:=Gk (f i i)<|free i i;let e:free i i=!1:=if_pos<|.inr rfl;rw[e]at h;show(show le (mn (f i i)<|free i i) _ from ?_)
  grind
 |k+1=>le_trans (F8 _ _)<|diag_le f i k
def jB(f)(i j):∀k,le (fw f k i j)<|f i j
 |0=>F8 _ _|k+1=>le_trans (F8 _ _)<|jB f i j k
def jA(f)(i j):∀k,le (fw f k i j)<|z0 f i j
 |0=>le_refl _|k+1=>le_trans (F8 _ _)<|jA f i j k
def WK(h:¬ Brk n (fw f k))(b:i<n):fw f k i i=!1:=by
 show Nr (diag_le f i k) ?_;cases Classical.em (le !1<|fw f k i i) with
 |inl a=>show a|inr a=>show(h {(i),b,a}).elim
def tri(h:Sound n f):∀k,k<=n->∀i j l,l<k->i<n->j<n->le (fw f k i j) (add (fw f k i l)<|fw f k l j)
 |0,z,y,x,l,hl,w,ώ=>by lia|k+1,hk,i,j,l,hl,p,q=>by
  let o:=WK (h k<|by lia)<|show k<n by lia
  let inv:=tri h k<|by lia
  show(?_:le (stp (fw f k) k i j)<|add (stp (fw f k) k i l)<|stp (fw f k) k l j);generalize s:fw f k=g at *
  by_cases e:l=k;subst e;let c:stp g l i l=g i l:=by unfold stp;rw[o,XW];show mn_of_le<|le_refl _
  let d:stp g l l j=g l j:=by unfold stp;rw[o,NQ];show mn_of_le<|le_refl _
  rw[c,d];show Gk _ _;let lk:l<k:=by lia
  let r:le (stp g k i j)<|g i j:=F8 _ _;let m:le (stp g k i j)<|add (g i k)<|g k j:=Gk _ _
  rcases Kt (g i l) (add (g i k)<|g k l) with c|c<;>rcases Kt (g l j) (add (g l k)<|g k j) with d|d;let:stp g k i l=g i l:=c;let a:stp g k l j=g l j:=d;rw[this,a];show le_trans r<|inv i j l lk p q
  let b:stp g k i l=g i l:=c;let a:stp g k l j=add (g l k) (g k j):=d;rw[b,a,<- add_assoc];show le_trans m<|add_mono (inv i k l lk p<|by lia)<|le_refl _
  let b:stp g k i l=add (g i k) (g k l):=c;let a:stp g k l j=g l j:=d;rw[b,a,add_assoc];show le_trans m<|add_mono (le_refl _)<|inv k j l lk (by lia) q
  let b:stp g k i l=add (g i k) (g k l):=c;let a:stp g k l j=add (g l k) (g k j):=d;rw[b,a,add_assoc,<- add_assoc<|g k l];show le_trans m<|add_mono (le_refl _) ?_;let:=add_mono (inv k k l lk (by lia)<|by lia)<|le_refl<|g k j
  rw[o,NQ]at this;show this
structure Nar(n:Nat)(f:Z):Prop where
 diag:∀i,i<n->f i i=!1
 row:∀j,j<n->le (f 0 j) !1
 tri:∀i j l,i<n->j<n->l<n->le (f i j) (add (f i l)<|f l j)
def nar(h:Sound n f):Nar n<|fw f n:=by
 let t:=tri h n<|Ã n;show{λi a=>?_,λj b=>?_,λi j l a b hl=>t i j l hl a b}
 show Nr (diag_le f i n) ?_;cases n with
 |zero=>lia|succ m=>
  let c:=WK (h m<|by lia)<|show m<m+1 by lia
  let d:=WK (h m<|by lia) a;show LD (by rw[d];show le_refl _) ?_;by_cases e:i=m;subst e;rw[c];show le_refl _;let:=Db.tri h m (by lia) m m i (by lia) (by lia)<|by lia
  rw[c,add_comm]at this;show this
 show le_trans (jA f 0 j n) ?_;let:=Gk (f 0 j)<|free 0 j;show this
def Ta(h:Nar n f):∀k,k<=n->∀i j,i<n->j<n->fw f k i j=f i j
 |0,z,i,j,a,b=>by
  show mn_of_le ?_;unfold free;by_cases e:i=0\/i=j;rw[if_pos e];rcases e with rfl|rfl;show h.row j b;rw[h.diag i a];show le_refl _;rw[if_neg e];cases f i j<;>simp[le]
 |k+1,hk,i,j,a,b=>by
  let c:=Ta h k<|by lia
  show(show mn (fw f k i j) (add (fw f k i k)<|fw f k k j)=_ from ?_);rw[c i j a b,c i k a (by lia),c k j (by lia) b];show mn_of_le<|h.tri i j k a b<|by lia
def sat(D:Int):B->Int->Prop
 |none,z=>True|some c,d=>d<=c / 2 * D - 1+c % 2
nonrec def zl3(h:sat D a d)(h':sat D b e):sat D (add a b)<|d+e:=by
 cases a<;>cases b<;>erw[sat,add]at *;rename_i a b;let c:bs a b / 2=a / 2+b / 2:=by unfold bs;lia
 let f:bs a b % 2=min (a % 2) (b % 2):=by unfold bs;lia
 rw[c,f,Int.add_mul];lia
nonrec def Yq(c:0<D)(h:sat D a d)(hl:le a b):sat D b d:=by
 cases a<;>cases b<;>erw[sat,le]at *;rename_i a b;rcases ľ (a / 2) (b / 2) with q|q;let:(a / 2+1) * D<=b / 2 * D:=Ň (by lia)<|by lia
 grind;grind
def Qq(h:sat D a d)(h':sat D b d):sat D (mn a b) d:=by
 rcases Kt a b with e|e<;>rw[e]<;>assumption
def Lie(n:Nat)(D:Int)(X:Nat->Int)(f:Z):Prop:=∀i j,i<n->j<n->sat D (f i j) (X i - X j)
def lie_fw(d:X 0=0)(e:∀i,i<n->0<=X i)(h:Lie n D X f):∀k,k<=n->Lie n D X (fw f k)
 |0,z,i,j,a,b=>by
  show Qq (h i j a b) ?_;unfold free;split;erw[sat];grind;trivial
 |k+1,hk,i,j,a,b=>by
  let c:=lie_fw d e h k<|by lia
  show Qq (c i j a b) ?_;let:=zl3 (c i k a<|by lia)<|c k j (by lia) b
  grind
def lie_sound(l:0<D)(b:X 0=0)(d:∀i,i<n->0<=X i)(h:Lie n D X f):Sound n f:=by
 intro k hk ⟨i,a,hb⟩;have q:=lie_fw b d h k (by lia) i i a a
 show hb ?_;cases e:fw f k i i with
 |none=>trivial|some c=>
  rw[e]at q;erw[sat,le]at *;rcases ľ (c / 2) 0 with g|g;have:c / 2 * D<=-1 * D:=Ň (by lia)<|by lia
  lia;rcases ľ 0 (c / 2) with j|j;lia;grind
def sat_scale(hb:0<b)(a:0<D)(h:X * b=t * D)(c):sat b c t ↔ sat D c X:=by
 cases c with
 |none=>show Iff.rfl|some c=>
  erw[sat];let d:c % 2=0\/c % 2=1:=by lia
  let f:∀m ,t<=m * b ↔ X<=m * D:=by
   intro m;constructor;intro q;let:=Ň q<|ì a;rw[<- h,Û,ç b D,<- Û]at this;show Int.le_of_mul_le_mul_right this hb
   intro q;let:=Ň q<|ì hb;rw[h,Û,ç D b,<- Û]at this;show Int.le_of_mul_le_mul_right this a
  let g:∀m ,t<m * b ↔ X<m * D:=by
   intro m;constructor;intro q;let:=Int.mul_lt_mul_of_pos_right q a;rw[<- h,Û,ç b D,<- Û]at this;show Int.lt_of_mul_lt_mul_right this<|ì hb
   intro q;let:=Int.mul_lt_mul_of_pos_right q hb;rw[h,Û,ç D b,<- Û]at this;show Int.lt_of_mul_lt_mul_right this<|ì a
  rcases d with e|e;let:=g<|c / 2
  lia;let:=f<|c / 2
  lia
def satB(D:Int)(c:B)(d:Int):Bool:=match c with
 |none=>true|some c=>decide (d<=c / 2 * D - 1+c % 2)
def satB_iff:satB D c d=true ↔ sat D c d:=by
 cases c<;>simp[satB,sat]
theorem fU(h:le a b)(h':le c d):le (mn a c)<|mn b d:=LD (le_trans (F8 a c) h)<|le_trans (Gk a c) h'
def V6(h:∀i j,i<n->j<n->le (f i j) (g i j)):∀k,k<=n->∀i j,i<n->j<n->le (fw f k i j) (fw g k i j)
 |0,z,i,j,a,b=>fU (h i j a b) (le_refl _)|k+1,hk,i,j,a,b=>by
  let c:=V6 h k<|by lia
  show fU (c i j a b)<|add_mono (c i k a<|by lia)<|c k j (by lia) b
def zq8(h:Nar n f)(hl:∀i j,i<n->j<n->le (f i j) (g i j)):∀i j,i<n->j<n->le (f i j) (fw g n i j):=λi j a b=>by
 let:=V6 hl n (Ã n) i j a b;rwa[Ta h n (Ã n) i j a b]at this
theorem lie_mono(c:0<D)(h:Lie n D X f)(hl:∀i j,i<n->j<n->le (f i j) (g i j)):Lie n D X g:=λi j a b=>Yq c (h i j a b)<|hl i j a b
def zm(M:Nat->B):Nat->B
 |0=>!0|i+1=>M i
def fldB(c:B)(d b:B):B:=match c with
 |none=>none|some c=>match d with
  |some m=>if m<c / 2 then () else (match b with
   |some a=>if c / 2 < -a then ↑(2 * -a) else !c
   |none=>!c)
  |none=>(match b with
   |some a=>if c / 2 < -a then ↑(2 * -a) else !c
   |none=>!c)
def fld(f:Z)(M:Nat->B):Z:=λi j=>if i=j then f i j else fldB (f i j) (M i) (M j)
end Db
namespace Db
end Db
namespace Dv
open Db
def ins(f:Z)(a b:Nat)(e:B):Z:=λi j=>mn (f i j)<|add (f i a)<|add e<|f b j
def ins_nar{n:Nat}{f:Z}(h:Nar n f){a b:Nat}{e:B}(ha:a<n)(hb:b<n)(he:le !1<|add (f b a) e):Nar n<|ins f a b e:=by
 let one:∀x y z:B,le ↑1 z->le (add x y) (add (add x z) y):=λx y z hz=>by
  let:=add_mono (add_mono (le_refl x) hz)<|le_refl y
  rwa[XW]at this
 show{λi c=>?_,λj d=>le_trans (F8 _ _)<|h.row j d,λi j l c d hl=>?_};show(show mn (f i i) _=_ from ?_);rw[h.diag i c];show mn_of_le ?_;let t:=h.tri b a i hb ha c;show le_trans he ?_;let g:=add_mono t<|le_refl e;show le_trans g ?_;rw[add_comm e,<- add_assoc,add_comm<|f b i];show le_refl _
 let m1:le (ins f a b e i j)<|f i j:=F8 _ _;let m2:le (ins f a b e i j)<|add (f i a)<|add e<|f b j:=Gk _ _;let o:ins f a b e i l=f i l\/ins f a b e i l=add (f i a) (add e<|f b l):=Kt _ _;let p:ins f a b e l j=f l j\/ins f a b e l j=add (f l a) (add e<|f b j):=Kt _ _
 rcases o with k|k<;>rcases p with m|m<;>rw[k,m];show le_trans m1<|h.tri i j l c d hl
 show le_trans m2 ?_;rw[<- add_assoc<|f i l];show add_mono (h.tri i a l c ha hl)<|le_refl _
 show le_trans m2 ?_;rw[add_assoc,add_assoc];show add_mono (le_refl _)<|add_mono (le_refl _)<|h.tri b j l hb d hl
 show le_trans m2 ?_;rw[add_assoc,add_assoc];show add_mono (le_refl _) ?_;let t:=h.tri b a l hb ha hl;let q:le !1<|add (add (f b l)<|f l a) e:=le_trans he<|add_mono t<|le_refl e;let g:=add_mono (le_refl e)<|add_mono q<|le_refl<|f b j;rw[NQ]at g;show le_trans g ?_;rw[add_assoc,add_assoc];show le_refl _
abbrev Lim:=Nat×Nat×Int
def In(n:Nat)(L:List Lim):Prop:=∀x∈L,x.1<n/\x.2.1<n
section
end
end Dv
namespace Dm
open Db
def wtd(f:Z):Z:=λi j=>if 0<i/\j=0 then () else f i j
def pbk(f:Z)(s:Nat->Nat):Z:=λi j=>f (s i)<|s j
def gZ(a:B):le a ():=by cases a<;>trivial
def wtd_le(f:Z)(i j:Nat):le (f i j)<|wtd f i j:=by
 unfold wtd;split;show gZ _;show le_refl _
def zki(a:B):add a ()=():=by cases a<;>rfl
def zjb(a:B):add () a=():=rfl
def wtd_nar{n:Nat}{f:Z}(h:Nar n f):Nar n<|wtd f:=by
 show{λi a=>?_,λj b=>?_,λi j l a b hl=>?_};rw[wtd,if_neg<|by lia];show h.diag i a;rw[wtd,if_neg<|by lia];show h.row j b;by_cases e:0<i/\j=0
 let:add (wtd f i l) (wtd f l j)=():=by
  by_cases c:l=0;rw[show wtd f i l=() by rw[wtd,if_pos {(e.1),c}],zjb];rw[show wtd f l j=() by rw[wtd,if_pos {by lia,e.2}],zki]
 rw[this];show gZ _;rw[show wtd f i j=f i j by rw[wtd,if_neg e]];show le_trans (h.tri i j l a b hl)<|add_mono (wtd_le f i l)<|wtd_le f l j
theorem pbk_nar{n:Nat}{f:Z}(h:Nar n f){s:Nat->Nat}(hs:∀i,i<n->s i<n)(c:s 0=0):Nar n<|pbk f s:=
 {λi a=>h.diag _<|hs i a,λj b=>by rw[pbk,c];show h.row _<|hs j b,λi j l a b hl=>h.tri _ _ _ (hs i a) (hs j b)<|hs l hl}
def zo1{D:Int}{c:B}{d e:Int}(h:sat D c d)(he:e<=d):sat D c e:=by
 cases c with
 |none=>trivial|some c=>show Int.le_trans he h
nonrec theorem wtd_lie{n:Nat}{D d:Int}(hd:0<=d){X:Nat->Int}{f:Z}(h:Lie n D X f)(τ:Nat->Int)(e:τ 0=X 0)(a:∀i,0<i->i<n->τ i=X i+d):Lie n D τ<|wtd f:=λi j c b=>by
 unfold wtd;split;trivial;rename_i q;show zo1 (h i j c b) ?_;by_cases g:i=0;subst g;by_cases k:j=0;subst k;lia;rw[e,a j (by lia) b];lia;rw[a i (by lia) c,a j (by lia) b];lia
theorem pbk_lie{n:Nat}{D:Int}{X:Nat->Int}{f:Z}(h:Lie n D X f){s:Nat->Nat}(hs:∀i,i<n->s i<n)(τ:Nat->Int)(a:∀i,i<n->τ i=X (s i)):Lie n D τ<|pbk f s:=λi j b c=>by
 rw[a i b,a j c];show h _ _ (hs i b)<|hs j c
end Dm
namespace Df
open Db Dv
theorem sound_of{n:Nat}{f g:Z}(h:Nar n f)(hl:∀i j,i<n->j<n->le (f i j) (g i j)):Sound n g:=λk hk ⟨i,hi,hb⟩=>by
 let:=V6 hl k (by lia) i i hi hi;rw[Ta h k (by lia) i i hi hi,h.diag i hi]at this;show hb this
structure St(n:Nat)(f:Z)(u l:Nat->B):Prop where
 nar:Nar n f
 c1:∀i,0<i->i<n->le ↑1 (add (f 0 i)<|u i)
 c2:∀i,0<i->i<n->le ↑1 (add (l i)<|f i 0)
 c3:∀i j,0<i->0<j->i<n->j<n->le ↑1 (add (l i)<|add (f i j)<|u j)
end Df
namespace Dk
open Db Dv
def put(f:Z)(a b:Nat)(c:Int):Z:=λi j=>if i=a/\j=b then mn (f a b) ↑c else f i j
def puts:List Lim->Z->Z
 |[],f=>f|x::L,f=>puts L<|put f x.1 x.2.1 x.2.2
def leB(a b:B):Bool:=match a,b with
 |z,none=>true|none,!z=>false|some a,!b=>decide (a<=b)
def leB_iff{a b:B}:leB a b=true ↔ le a b:=by
 cases a<;>cases b<;>simp[leB,le]
def met:List Lim->Z->Option Z
 |[],f=>!f|x::L,f=>if leB ↑1 (add (f x.2.1 x.1) !x.2.2) then met L (ins f x.1 x.2.1 !x.2.2) else ()
def met_app:∀(L K:List Lim) (f:Z),met (L++K) f=(met L f).bind (met K)
 |[],z,y=>rfl|x::L,K,f=>by
  show(show (if _ then met (L++K) _ else ())=(if _ then met L _ else ()).bind (met K) from ?_);split;show met_app L K _;rfl
def Und(n:Nat)(z f:Z):Prop:=∀i j,i<n->j<n->le (z i j) (f i j)
def KU(z:Z)(L:List Lim):Prop:=∀x∈L,le (z x.1 x.2.1) !x.2.2
nonrec def M3{n:Nat}{z:Z}:∀(L:List Lim) (f:Z),In n L->(Und n z (puts L f) ↔ Und n z f/\KU z L)
 |[],f,w=>{λh=>{h,λx g=>by cases g},λh=>h.1}|x::L,f,k=>by
  let g:=k x (Î ..);show(show Und n z (puts L<|put f x.1 x.2.1 x.2.2) ↔ _ from ?_);rw[M3 L _ λy d=>k y<|Ë _ d]
  constructor;rintro⟨a,e⟩
  let l:∀i j,i<n->j<n->le (put f x.1 x.2.1 x.2.2 i j) (f i j):=λi j w w=>by
   unfold put;split;rename_i q;rw[q.1,q.2];show F8 _ _;show le_refl _
  show{λi j b c=>le_trans (a i j b c)<|l i j b c,λy d=>?_};rcases Ð.mp d with rfl|m;let:=a y.1 y.2.1 g.1 g.2;unfold put at this;rw[if_pos {(rfl),rfl}]at this;show le_trans this<|Gk _ _
  show e y m;rintro⟨a,e⟩;show{λi j b c=>?_,λy d=>e y<|Ë _ d};unfold put;split;rename_i q;let(rfl,rfl):=q;show LD (a _ _ b c)<|e x (Î ..)
  show a i j b c
theorem YO{n:Nat}{z f:Z}(hz:Nar n z)(h:Und n z f){a b:Nat}{c:Int}(ha:a<n)(hb:b<n)(g:le (z a b) !c):Und n z<|ins f a b !c:=λi j e d=>by
 show LD (h i j e d) ?_;show le_trans (hz.tri i j a e d ha)<|add_mono (h i a e ha) ?_;show le_trans (hz.tri a j b ha d hb)<|add_mono g<|h b j hb d
def met_ok{n:Nat}:∀(L:List Lim) (f:Z),Nar n f->In n L->(∀h,met L f=!h->Nar n h/\Und n h f/\KU h L/\∀z,Nar n z->Und n z f->KU z L->Und n z h)/\(met L f=()->∀z,Nar n z->Und n z f->KU z L->False)
 |[],f,d,Y=>{λh e=>by
   cases e;show{d,λϊ Y Y Y=>le_refl _,λx c=>(by cases c),λz Y h Y=>h},λe=>by cases e}
 |x::L,f,d,r=>by
  have c:=r x (Î ..);unfold met;cases q:leB ↑1 (add (f x.2.1 x.1) !x.2.2) with
  |false=>
   show{λh e=>(by cases e),λϊ z hz l m=>?_};have o:=hz.tri x.2.1 x.2.1 x.1 c.2 c.2 c.1;rw[hz.diag _ c.2]at o;have p:=le_trans o<|add_mono (l x.2.1 x.1 c.2 c.1)<|m x (Î ..);rw[<- leB_iff,q]at p;cases p
  |true=>
   erw[Æ];have N:=ins_nar d c.1 c.2<|leB_iff.mp q;have U:Und n (ins f x.1 x.2.1 !x.2.2) f:=λi j Y Y=>F8 _ _
   have C:le (ins f x.1 x.2.1 ↑x.2.2 x.1 x.2.1) !x.2.2:=by
    show le_trans (Gk _ _) ?_;rw[d.diag _ c.1,d.diag _ c.2,NQ,XW];show le_refl _
   let(l,m):=met_ok L _ N λy g=>r y<|Ë _ g
   have K:∀z,KU z (x::L)->le (z x.1 x.2.1) !x.2.2/\KU z L:=λz k=>{k x (Î ..),λy g=>k y<|Ë _ g};show{λh e=>?_,λe z hz a b=>m e z hz (YO hz a c.1 c.2 (K z b).1) (K z b).2};let(u,n2,v,w):=l h e;show{u,λi j s t=>le_trans (n2 i j s t)<|U i j s t,λy g=>?_,λz hz a b=>w z hz (YO hz a c.1 c.2 (K z b).1) (K z b).2};rcases Ð.mp g with rfl|A;show le_trans (n2 _ _ c.1 c.2) C;show v y A
def met_fw{n:Nat}{L:List Lim}{f:Z}(m:Nar n f)(a:In n L):(∀h,met L f=!h->Sound n (puts L f)/\∀i j,i<n->j<n->fw (puts L f) n i j=h i j)/\(met L f=()->¬ Sound n (puts L f)):=by
 let(g,l):=met_ok L f m a;let D:Und n (fw (puts L f) n)<|puts L f:=λi j z z=>jB _ i j n
 show{λh e=>?_,λe s=>?_};let(d,n2,o,p):=g h e;let u:=(M3 L f a).mpr {(n2),o};let s:=Df.sound_of d u;show{s,λi j b c=>Nr ?_<|zq8 d u i j b c}
 let k:=(M3 L f a).mp D;show p _ (nar s) k.1 k.2 i j b c;let k:=(M3 L f a).mp D;show l e _ (nar s) k.1 k.2
nonrec def lie_puts{n:Nat}{D:Int}(e:0<D){X:Nat->Int}:∀(L:List Lim) (f:Z),In n L->(Lie n D X (puts L f) ↔ Lie n D X f/\∀x∈L,sat D !x.2.2<|X x.1 - X x.2.1)
 |[],f,z=>{λh=>{h,λx d=>by cases d},λh=>h.1}|x::L,f,g=>by
  let d:=g x (Î ..);show(show Lie n D X (puts L<|put f x.1 x.2.1 x.2.2) ↔ _ from ?_);rw[lie_puts e L _ λy b=>g y<|Ë _ b]
  constructor;rintro⟨a,c⟩;show{lie_mono e a λi j z z=>?_,λy b=>?_};unfold put;split;rename_i q;rw[q.1,q.2];show F8 _ _;show le_refl _;rcases Ð.mp b with rfl|m;let:=a y.1 y.2.1 d.1 d.2;unfold put at this;rw[if_pos {(rfl),rfl}]at this;show Yq e this<|Gk _ _
  show c y m;rintro⟨a,c⟩;show{λi j k l=>?_,λy b=>c y<|Ë _ b};unfold put;split;rename_i q;let(rfl,rfl):=q;show Qq (a _ _ k l)<|c x (Î ..)
  show a i j k l
end Dk
set_option Elab.async false
set_option linter.all false
set_option maxRecDepth 100000
namespace Pu
open PySem PySem.Spec PyProof.Rows L2 Zw Zx
def mT(n:Nat)(g:Nat->T):qD:=(List.range n).map g
def nl0:((0:Nat):Int)=0:=rfl
def T8:((1:Nat):Int)=1:=rfl
def nl2:((2:Nat):Int)=2:=rfl
def nl3:((3:Nat):Int)=3:=rfl
def nl4:((4:Nat):Int)=4:=rfl
def nl5:((5:Nat):Int)=5:=rfl
def nl6:((6:Nat):Int)=6:=rfl
def nl7:((7:Nat):Int)=7:=rfl
def nl8:((8:Nat):Int)=8:=rfl
def nl9:((9:Nat):Int)=9:=rfl
def zqg{k:Nat}(h:k<=100000):(k<=BN)=True:=eq_true (by unfold BN;lia)
def zqf{k:Nat}(h:k<100000):(k<BN)=True:=eq_true (by unfold BN;lia)
section
variable {n:Nat}{g h:Nat->T}
def Bj:(mT n g).length=n:=by simp[mT]
def Dl{i:Nat}(a:i<n):(mT n g)[i]?=!(g i):=by simp[mT,a]
def Gn(e:(mT n g)[i]?=!t):i<n/\t=g i:=by
 let a:i<n:=by
  rcases Nat.lt_or_ge i n with q|q;show q;rw[þ (by rw[Bj];show q)]at e;cases e
 rw[Dl a]at e;show{a,by injection e with e;show e.symm}
def Ek(hl:l.length=n)(h:∀i,i<n->l[i]?=!(g i)):l=mT n g:=by
 show ķ λi=>?_;rcases Nat.lt_or_ge i n with q|q;rw[h i q,Dl q];rw[þ (by lia),þ (by rw[Bj];show q)]
def EM(e:∀i,i<n->g i=h i):mT n g=mT n h:=Ek Bj λi a=>by rw[Dl a,e i a]
def C7{k:Nat}(a:k<n):A9 (mT n g) (k:Int)=!(g k):=Fq<|Dl a
def Uw(b:t∈mT n g):∃i,i<n/\t=g i:=by
 let(i,a,e):=Ò.mp b;show{i,ě.mp a,e.symm}
def Fx:BA (mT n g)=mT n λi=>(g i).share:=by
 rw[Cw];unfold mT;rw[è];rfl
def FP(e:∀i,(g i).sh=true):AZ (mT n g)=true:=by
 rw[Cz,Ñ];intro t a;obtain⟨i,-,rfl⟩:=Uw a;show e i
def zkx(xs:Nat->Int):AZ (mT n λi=>.int<|xs i)=true:=FP λϊ=>rfl
def Ky:mT n g++[g n]=mT (n+1) g:=by
 unfold mT;rw[List.range_succ,à];rfl
def gJ{α:Type}(t:α->T)(xs:Nat->α)(r):mT n (λj=>t<|xs j)++[t r]=mT (n+1) λj=>t (if j=n then r else xs j):=by
 rw[<- Ky,if_pos rfl,EM (g:=λj=>t (if j=n then r else xs j)) (h:=λj=>t<|xs j) λj a=>by rw[if_neg<|by lia]]
def WG:∀(l) (k i:Nat) (t),l[i]?=!t->(En k l)[i]?=!(.tup [.int (k+i:Nat),t])
 |[],z,y,w,e=>by simp at e|x::r,k,0,t,e=>by
  simp at e;subst e;rfl
 |x::r,k,i+1,t,e=>by
  rw[En,ň];let:=WG r (k+1) i t<|by simpa using e
  rw[this,show k+1+i=k+(i+1) by lia]
def O3:∀(l) (k),(En k l).length=l.length
 |[],z=>rfl|x::r,k=>by rw[En,ï,ï,O3 r]
def Ho:En 0 (mT n g)=mT n λi=>.tup [.int i,g i]:=by
 show Ek (by rw[O3,Bj]) λi a=>?_;rw[WG _ _ _ _<|Dl a,Nat.zero_add]
def KZ:ID (mT n g) (mT n h)=mT n λi=>.tup [g i,h i]:=by
 show Ek (by simp[ID,Bj]) λi a=>?_;unfold ID;rw[ċ,Dl a,Dl a]
theorem ZV(a:Int):Ez a n=mT n λi=>.int<|a+(i:Int):=rfl
def E1:Ez 0 n=mT n λi=>.int (i:Int):=by
 rw[ZV];simp
def consT(x:T)(g:Nat->T):Nat->T
 |0=>x|i+1=>g i
def mO(x):x::mT n g=mT (n+1) (consT x g):=by
 show Ek (by rw[ï,Bj]) λi a=>?_;cases i with
 |zero=>rfl|succ i=>rw[ň,Dl<|by lia];rfl
theorem mT_of(l)(d):l=mT l.length λi=>l.getD i d:=Ek rfl λi a=>by
 rw[â,Á a];rfl
theorem gI:(mT n g).set i v=mT n λj=>if j=i then v else g j:=Ek (by simp[Bj]) λj a=>by
 rw[Ř,Bj];by_cases e:i=j;subst e;simp[a];erw[e,Å];rw[Dl a,if_neg<|λq=>e q.symm]
theorem gL(o)(k)(e:∀i,i<n->Fit (g i) d):Fit (.nd o k<|mT n g)<|d+1:=Fit.nd λt b=>by
 let(i,a,rfl):=Uw b;show e i a
variable {b:T->AL->Option AL}{body:AG}{me:AH}{Y:AL}
def OO(I:Nat->AL->Prop)(a:I 0 Y)(hs:∀i Y,i<n->I i Y->∃τ1,b (g i) Y=!τ1/\∃τ2,body τ1=!(.nx τ2)/\I (i+1) τ2):∃Y',BC b body (mT n g) Y=!(.nx Y')/\I n Y':=by
 let:=DI I a λi t Y e c=>by
  let(d,rfl):=Gn e;show hs i Y d c
 rwa[Bj]at this
def Jp(p:Nat->Prop)(v )(I:Nat->AL->Prop)(o:I 0 Y)
  (hs:∀i Y,i<n->(∀j,j<i->p j)->I i Y->∃τ1,b (g i) Y=!τ1/\((p i/\∃τ2,(body τ1=!(.nx τ2)\/body τ1=!(.ct τ2))/\I (i+1) τ2)\/(¬ p i/\body τ1=!(.rt v)))) :
  ((∀i,i<n->p i)/\∃Y',BC b body (mT n g) Y=!(.nx Y')/\I n Y')\/((∃i,i<n/\¬ p i)/\BC b body (mT n g) Y=!(.rt v)):=by
 let:=zhd (b:=b) (body:=body) (ts:=mT n g) (Y:=Y) (λi Y=>(∀j,j<i->p j)/\I i Y) (λw=>w=v/\∃i,i<n/\¬ p i) {λj k=>by lia,o} λi t Y e d=>by
  let(h,rfl):=Gn e;let(τ1,m,q):=hs i Y h d.1 d.2;show{τ1,m,?_}
  rcases q with ⟨f,τ2,a,l⟩|⟨f,a⟩;show .inl {τ2,a,λj k=>?_,l};rcases Nat.lt_succ_iff_lt_or_eq.mp k with q|rfl;show d.1 j q;show f;show .inr {(v),a,rfl,i,h,f}
 rw[Bj]at this;rcases this with ⟨Y',e,r,c⟩|⟨w,e,rfl,c⟩;show .inl {(r),Y',e,c};show .inr {(c),e}
def Ce{cs:AL}(hs:∀i,i<n->me (↑(g i)::cs)=!(.v (f i) false)):CK (AD 0) (mC<|.bl true) me (mT n g) (x::cs)=!(mT n f):=by
 let:=Nt (b:=AD 0) (ts:=mT n g) (λϊ Y=>∃y,Y=y::cs) f {(x),rfl} λi t Y e a=>by
  let(c,rfl):=Gn e;let(y,rfl):=a;show{↑(g i)::cs,by simp[AD],hs i c,_,rfl}
 rw[this,Bj];rfl
def E4{u w f:Nat->T}  {cs:AL}(hs:∀i,i<n->me (↑(u i)::↑(w i)::cs)=!(.v (f i) false)):CK (Al 2<|AI (AD 0)<|AI (AD 1) An) (mC<|.bl true) me (mT n λi=>.tup [u i,w i]) (x::y::cs)=!(mT n f):=by
 let:=Nt (b:=Al 2<|AI (AD 0)<|AI (AD 1) An) (ts:=mT n λi=>.tup [u i,w i]) (λϊ Y=>∃x y,Y=x::y::cs) f {(x),y,rfl} λi t Y e a=>by
  let(c,rfl):=Gn e;let(x,y,rfl):=a;show{↑(u i)::↑(w i)::cs,by rfl,hs i c,_,_,rfl}
 rw[this,Bj];rfl
end
end Pu
set_option Elab.async false
set_option linter.all false
set_option maxRecDepth 100000
namespace Pu
open PySem PySem.Spec PyProof.Rows L2 Zw Zx
def bT:Db.B->T
 |none=>.non|some i=>.int i
def nL:bT ()=.non:=rfl
def XM(i:Int):bT ↑i=.int i:=rfl
abbrev rT(n:Nat)(f:Nat->Db.B):T:=.lst<|mT n λj=>bT<|f j
abbrev zT(n:Nat)(f:Db.Z):T:=.lst<|mT n λi=>rT n<|f i
def Ow(b:Db.B):(bT b).sh=true:=by cases b<;>rfl
def Jv(b:Db.B):(bT b).share=bT b:=by cases b<;>rfl
def zrs(b):Fit (bT b) 0:=by cases b<;>first|show Fit.non 0|show Fit.int _ 0
theorem zoq(n:Nat)(f:Nat->Db.B):Fit (rT n f) 1:=gL _ _ λi z=>zrs _
theorem znc(n:Nat)(f:Db.Z):Fit (zT n f) 2:=gL _ _ λi z=>zoq n _
def zib(h:∀i j,i<n->j<n->f i j=g i j):zT n f=zT n g:=by
 unfold zT;rw[EM λi a=>?_];unfold rT;rw[EM λj b=>?_];rw[h i j a b]
abbrev vT(n:Nat)(v:Nat->Int×Int):T:=.lst<|mT n λi=>fr (v i).1 (v i).2
def IE(v:Nat->Int×Int):Nat->Int×Int
 |0=>(0,1)|i+1=>v i
def zkn(n)(v):(fr 0 1)::mT n (λi=>fr (v i).1 (v i).2)=mT (n+1) λi=>fr (IE v i).1 (IE v i).2:=by
 rw[mO];show EM λi z=>?_;cases i<;>rfl
def Ju(p):Fo (mT n λi=>.bl<|p i)=!((List.range n).map p):=by
 unfold mT;generalize List.range n=l
 induction l with
 |nil=>rfl|cons x r a=>erw[Ù,Fo,a]
def My(n)(f):(rT n f).share=rT n f:=by
 unfold T.share;rw[Fx];erw[Jv]
def J5(n)(f):(rT n f).sh=true:=by
 unfold T.sh;rw[FP λi=>Ow _];rfl
def zia(n)(f):(zT n f).share=zT n f:=by
 unfold T.share;rw[Fx];erw[My]
def Bv(n)(f):(zT n f).sh=true:=by
 unfold T.sh;rw[FP λi=>J5 n _];rfl
def Eh{n:Nat}(h:n<=100000):Cj n=true:=@decide_eq_true _ (Classical.propDecidable _) {by lia,by lia}
def fS{n:Nat}(h:0<n)(y:Int):∃i:Nat,y.fmod n=i/\i<n:=
 {(y % n).toNat,(fm<|ŝ.mpr h).trans (Int.toNat_of_nonneg<|Int.emod_nonneg y<|Š<|ŝ.mpr h).symm,(Int.toNat_lt<|Int.emod_nonneg y<|Š<|ŝ.mpr h).mpr (Int.emod_lt_of_pos y<|ŝ.mpr h)}
end Pu
set_option Elab.async false
set_option linter.all false
set_option maxRecDepth 100000
namespace Pu
open PySem PySem.Spec PyProof.Rows L2 Zw Zx
def Qj:∀ys ,G7 (ys.map T.str)=!ys
 |[]=>rfl|y::r=>by
  show(show (match G7 (r.map T.str) with|some l=>!(y::l)|none=>())=_ from ?_);rw[Qj r]
def B8:∀ys:kq,BA (ys.map T.str)=ys.map T.str
 |[]=>rfl|y::r=>by
  show(show T.str y::BA (r.map T.str)=_ from ?_);rw[B8 r];rfl
def BE:∀ys:kq,AZ (ys.map T.str)=true
 |[]=>rfl|y::r=>by
  show(?_:(true && AZ (r.map T.str))=true);rw[BE r];rfl
def Ca(ys:kq):Prop:=∀y∈ys,PyData.strOk y=true
def Zp:∀ys:kq,FC (ys.map T.str)=true
 |[]=>rfl|y::r=>by
  show(?_:(true && FC (r.map T.str))=true);rw[Zp r];rfl
def hG:∀{ys},Ca ys->PyData.canLayAll0 (Bs<|ys.map T.str)=true/\PyData.depthAll (Bs<|ys.map T.str)=0
 |[],z=>{(rfl),rfl}|y::r,h=>by
  let(a,b):=hG λx d=>h x<|Ë _ d
  let c:=h y (Î ..);rw[Ù,Bs,PyData.canLayAll0,PyData.depthAll,a,b,T.data,PyData.canLay0,c,PyData.depth];simp
def Fe(a:PyData.strOk x=true)(b:PyData.strOk y=true):BS (.str x) (.str y)=!(.bl<|decide (x=y)):=by
 let e:(x == y)=decide (x=y):=by rfl
 unfold BS Ip Em L3;erw[T.data,T.pln,PyData.canLay0,PyData.depth,PyData.eqv,a,b,e];simp
theorem Fit.str(h:PyData.strOk x=true)(n):Fit (.str x) n:={by unfold Em;rw[T.data,PyData.canLay0,h];rfl,rfl,by simp[T.data,PyData.depth]}
def nQ(x):∀ys:kq,((Bs<|ys.map T.str).any λy=>PyData.eqv y<|.str x)=decide (x∈ys)
 |[]=>by rfl|y::r=>by
  let e:(y == x)=decide (x=y):=by grind
  rw[Ù,Bs,ĝ,nQ x r,T.data,PyData.eqv,e,Bool.eq_iff_iff,Ē,ü,ü,ü,Ð]
def Jj(h:Ca ys)(c:PyData.strOk x=true):ES (.str x) (.nd o k<|ys.map T.str)=!(.bl<|decide (x∈ys)):=by
 let ok:GP (.str x) (ys.map T.str)=true:=by
  let(a,b):=hG h;unfold GP Em;rw[Zp,a,b,T.data,PyData.canLay0,c];rfl
 unfold ES;simp only;rw[if_pos ok];unfold Ij;rw[T.data,nQ]
end Pu
set_option Elab.async false
set_option linter.all false
set_option maxRecDepth 100000
namespace Pu
open PySem PySem.Spec PyProof.Rows L2 Zw Zx
end Pu
set_option Elab.async false
set_option linter.all false
set_option maxRecDepth 100000
namespace Tx
open PySem PySem.NumText
abbrev cs(x:Str):kz:=x.cps.toList
def cs_ext{x y:Str}(h:cs x=cs y):x=y:=by
 cases x;simp_all
def cs_len(x:Str):x.length=(cs x).length:=rfl
section
variable {x y:Str}{c:Nat}(hA:∀k,(cs x)[k]?=!c->StrLaws.At x y x.length k)
include hA
end
def sl_to(h:a<=(cs x).length):cs (Txt.slice x () !a)=(cs x).take a:=by
 let e:Txt.slice x () ↑a=StrLaws.sliceText x () !a:=rfl;rw[e,StrLaws.sliceText_to {Δ a,Int.ofNat_le.mpr h},List.drop_zero,Int.sub_zero,Ď]
end Tx
set_option linter.all false
set_option maxRecDepth 100000
namespace Hd
open PySem PySem.W PySem.Calls PyProof.Rows
def LQ(st:SharedT->Thread->Option (SharedT×Thread))(ok:Thread->Bool):Nat->SharedT->Thread->Option SharedT
 |0=>λϊ z=>none|n+1=>λs t=>bif through t then ↑s else bif ok t then (st s t).elim () λx=>LQ st ok n x.1 x.2 else ()
def zmv(n):∀(s) (t) (r),
  LQ (stepT (denote tb) p w) (stepOk m ann) n s t=!r->topRun tb p w m ann n s.abs t=!r.abs:=by
 induction n with
 |zero=>intro s t r h;show nomatch h
 |succ n d=>
  intro s t r h;rw[LQ]at h;dsimp only at h;rw[topRun];cases a:through t with
  |true=>rw[a]at h;cases h;rfl|false=>
   rw[a]at h;cases b:stepOk m ann t with
   |false=>rw[b]at h;show nomatch h
   |true=>
    rw[b]at h;cases c:stepT (denote tb) p w s t with
    |none=>rw[c]at h;show nomatch h
    |some x=>rw[c]at h;rw[stepT_spec (s':=x.1) (t':=x.2) c];show d _ _ _ h
def Mn(p q:Program)(loose:kq)(Xt:Shared->Bool){α:Type}(Yf:Shared->α)(h:Heap)(s:Shared):=
 ((staticsOk (importedModules p.main.body) h s.heap && namesBound p s.heap && gensDone s && laidKept h s.heap),openSeen q loose (importedModules p.main.body) Xt true s,Yf s)
theorem zmm{Ya:World->α}{N M m:Nat}{bt:Params->BT}{j:Params->Life}{st:World->SharedT->Thread->Option (SharedT×Thread)}(d:∀w,stepT (denote treeTable) p w=st w)(hok:stepOk m ann=ok)
  (e:opening p=plainProg p.main.scope.names) (n:Nat.ble 600 N=true) (f:∀s,fenceModules? p s=!s) (l:Nat.ble M N=true)
  (hb:∀P,absHeap (bt P) m (j P)=boot_heap P) (hs:∀P,(boot_heap P).isNs mainGlobals=true) (hz:∀P,(boot_heap P).objs.size=m) (ha:∀P,(boot_heap P).nsMap mainGlobals "__annotations__"=ann)
  (h:∀(w ) (os ),(LQ (st w) ok M {bt w.params,m,j w.params,Array.mk [],boot_drawn,boot_toks,os}<|topStub p).map (λs=>Mn p q loose Xt Yf (boot_heap w.params) s.abs)=!(true,openGood q loose,Ya w)) :
  LeftO p q loose Xt Yf Ya N true:=λw=>by
 let((u,t,o,v,os),c,hv):=Ø.mp<|boot_open e n f w;erw[Prod.mk.injEq]at hv;let(rfl,rfl,rfl,rfl):=hv;let(T,g,i):=Ø.mp<|h w os;rw[<- d,<- hok]at g;let r:=topRun_mono (N - M) _ _ _ _<|zmv _ _ _ _ g;rw[Nat.add_sub_cancel'<|Nat.le_of_ble_eq_true l]at r;let a:=congrArg Prod.fst i;let b:=congrArg Prod.snd i;erw[Mn]at a b;erw[SharedT.abs,hb]at r a b
 let k:topFrom treeTable p w N {boot_heap w.params,Array.mk [],boot_drawn,boot_toks,os}=!T.abs:=by
  erw[topFrom,hs,hz,ha,r];erw[Ĩ];rw[a];rfl
 show(show ((fencedOpening treeTable p w N).bind (topFrom treeTable p w N)).map _=_ from ?_);rw[c];show(show (topFrom treeTable p w N _).map _=_ from ?_);rw[k];show congrArg some b
def en(P:Params)(x:String)(k:Nat)(v:Value):DictEntry:={PyData.keyHash P<|Str.ofString x,.str (Str.ofString x) k,v}
def bt(P:Params):BT:=((boot_heap P).objs.toList.foldl (λ(x:BT×Nat) o=>(x.1.ins x.2 o,x.2+1)) (BT.nil,0)).1
def bt_ok(P:Params):absHeap (bt P) 11 (boot_heap P).life=boot_heap P:=by ext
def zrv(P):(boot_heap P).nsMap mainGlobals "__annotations__"=!(.ref 6):=by ext
def ns_ok(P:Params):(boot_heap P).isNs mainGlobals=true:=by ext
def sz_ok(P:Params):(boot_heap P).objs.size=11:=by ext
abbrev go(p:Program)(M:Nat)(w:World)(os:OsState):Option SharedT:=
 LQ (Fast.tw10156331382660048174 (Fast.tw11892475500146522536 Fast.tw14364793385576792824) p w) (Fast.tw6613529449190102663 11<|!(.ref 6)) M {bt w.params,11,(boot_heap w.params).life,Array.mk [],boot_drawn,boot_toks,os} (topStub p)
abbrev xt(r:RowW)(q:Program)(s:Shared):Bool:=xlAt q [] s && recOk r.records s
theorem zmn{Ya:World->α}(N M:Nat)
  (e:opening p=plainProg p.main.scope.names) (b:Nat.ble 600 N=true) (f:∀s,fenceModules? p s=!s) (a:Nat.ble M N=true)
  (h:∀(w ) (os ),(go p M w os).map (λs=>Mn p q loose (xt r q) Yf (boot_heap w.params) s.abs)=!(true,openGood q loose,Ya w)):LeftO p q loose (xt r q) Yf Ya N true:=
 zmm
  (λw=>by rw[Fast.te10156331382660048174,Fast.te11892475500146522536,Fast.te14364793385576792824]) (by rw[Fast.te6613529449190102663]) e b f a bt_ok ns_ok sz_ok zrv h
end Hd
set_option Elab.async false
set_option linter.all false
set_option maxRecDepth 100000
set_option maxHeartbeats 4200000
namespace Zl
open PySem L2 Zw Zx Pu
noncomputable section
def aI0{a:T}{l:qD}:A9 (a::l) 0=!a:=CF (by decide) rfl
def aI1{a b:T}{l:qD}:A9 (a::b::l) 1=!b:=CF (by decide) rfl
def aI2{a b c:T}{l:qD}:A9 (a::b::c::l) 2=!c:=CF (by decide) rfl
def aI3{a b c d:T}{l:qD}:A9 (a::b::c::d::l) 3=!d:=CF (by decide) rfl
def aI4{a b c d e:T}{l:qD}:A9 (a::b::c::d::e::l) 4=!e:=CF (by decide) rfl
local macro_rules
  |`(tactic| simp![$as,*])=>do let y<-"A8 Ak aI0 aI1 aI2 aI3 aI4 AW Kh LZ AF AV Bh Ed AX AN Sw IU A5 Mt BV CO J3 Kc IQ Ke Cc Ef J9 AA mC AE AB BK Bk m1 m2 AJ DU BJ Bq Bu AM DC FE BQ BP Az B5 g1 g2 AD An AI Al blk Oe Ig C9 Ih Cf gD Gw Ld Oz Iw Oy Ji BW FL Bi Ba Co FU L9 Lb CD Ej BO T.isN T.isB Bd DF Hw Ku N1 LW OA Ă EV Hv DH M6 YT JT Mg T.share BA T.sh AZ T.flat at0 Hu at2 Ù List.map_nil ï đ List.replicate ê ĵ ŏ List.getElem?_cons_zero ň List.getElem?_nil List.set_cons_zero List.set_cons_succ Đ nl0 T8 nl2 nl3 nl4 nl5 nl6 nl7 nl8 nl9 Int.reduceBEq Nat.reduceBEq Nat.reduceAdd Nat.reduceSub Nat.reduceLT Nat.reduceLeDiff if_true if_false ite_true ite_false reduceIte ř Bool.not_false Ś Θ Bool.and_false ŗ Bool.or_true Bool.true_or Bool.or_false ĺ Bool.false_xor Bool.true_xor ŋ Ŵ decide_true decide_false Ð û or_false or_true true_or and_true true_and and_self String.reduceEq String.reduceBEq beq_self_eq_true ne_eq not_false_eq_true not_true_eq_false zqg zqf Ow Jv Bj Fx Int.reduceLT Int.reduceAdd Ď zkx FP implies_true forall_const nL XM Int.reduceEq Int.reduceNe VN Aw AU BY Ax Hb C0 Hc Bt Ii lO FQ Jr Gg IV FD GL Gp GO Aj Kz LA HQ Ms Gc Kf HW".splitOn.mapM (λx=>do`(Lean.Parser.Tactic.simpLemma|$(Lean.mkCIdent (<-Lean.Macro.resolveGlobalName x.toName).head!.1):ident));`(tactic| simp only[$(⟨(Lean.Syntax.SepArray.ofElems (sep:=",") (y.toArray.map (·.raw)++as.elemsAndSeps.getSepElems)).elemsAndSeps⟩),*])
local macro_rules
  |`(tactic| simp_all_arith [$as,*])=>`(tactic| first
    |with_reducible assumption
    |(with_reducible first|apply q_seq|apply q_c|apply q_v|apply zot|apply q_ap|apply q_ix|apply q_set|apply q_own|apply q_ret|apply q_sif|apply q_for|apply q_app|apply q_co|apply q_and|apply q_or|apply q_if|apply q_not|apply q_lst|apply q_tup|apply q_fld|apply zos|apply q_it|apply q_rg|apply q_lc|apply q_alt)<;>simp_all_arith [$as,*]
    |show Ak _ (by first|show rfl|assumption|simp![$as,*])
    |show nt (by first|show rfl|assumption|simp![$as,*])
    |show rfl
    |assumption
    |show nt2 (by first|assumption|simp![$as,*])
    |(apply Or.inl;apply And.intro)<;>simp_all_arith [$as,*]
    |(apply Or.inr;apply And.intro)<;>simp_all_arith [$as,*]
    |(simp![$as,*]<;>rfl))
def AK(i:Nat):Stmt:=PySem.Challenge.pw_zonewalk_k62_whole_papers_hold.main.body.getD i<|.Pass {0,0,0,0}
def zrj(s:Stmt)(j:Nat):Stmt:=match s with
 |.ClassDef z y x a w ώ Ϗ ϐ ϑ ϒ ϓ=>a.getD j (.Pass {0,0,0,0})|z=>.Pass {0,0,0,0}
def B3(i j:Nat):Stmt:=zrj (AK i) j
abbrev Bg:Addr:=277
def Bm:kq:=["start","end","guard","noughts","sign"]
abbrev A7:Addr:=331
def Aa:kq:=["watch_names","stays","door_list"]
abbrev Ad:Addr:=569
def Af:kq:=["first_room","first_values","stays","ways","zones"]
abbrev Ac:Addr:=633
def Ae:kq:=["marks","mosts","first_room","stays","ways","free_place"]
def Jh:T:=(.nd false .rt [(.str "<"),(.str "<="),(.str ">"),(.str ">="),(.str "=")])
def Nw:T:=(.nd false .rt [(.str "<"),(.str "<=")])
def Nx:T:=(.int 7)
def Ny:T:=(.int 64)
def Nz:T:=(.int 200)
def WN:List<|Addr×Bool:=[(277,true),(331,false),(569,false),(633,false)]
def QA:List<|Str×Addr:=[("TooMany",61)]
abbrev Ss:Stmt:=AK 86
def Us:AG:=
 (AF (AX (m2 (CD λi j=>decide (i<j)) (AA 1)<|m1 Bd<|AA 0) (AN<|AM (AA 0)<|AA 1) A5)
 (AN<|mC<|.int 0))
def Fh:qD->Option Ru:=AW 2 2 Us
abbrev fM(s:Stmt):kq:=((Ds s).names.filter λx=>x.2 == .local || x.2 == .cell).map (·.1)
abbrev fA(k n:Nat)(s:Stmt)(R:qD->Option Ru):Fn:={k,(fM s).take n,R}
abbrev WA:=fA 1 2 Ss Fh
abbrev gA(s:Stmt)(k:Nat)(fs:List<|Str×Fn)(bl:kq)(ow:kq:=[])(ex:kq:=[])(ox:Gx:=Bb)(mu:=false)(mc:List<|Str×Fn:=[])(mv:kq:=[])(dc:kq:=[])(N:=fM s):Gm:={N,(Ds s).names,N.filter λx=>(Ds s).names.lookup x == !.cell,k,fs,bl,ex,ow,["is_covered"],mu,mc,mv,dc,ox}
abbrev zek:Gm:=gA Ss 0 [] ["len"]
theorem zey:Ck zek WA Ss Us:={}
def Od(ns:ku){k:Int}(c:0<=k):Fh [DA ns,.int k]=!(.ok<|.int<|ns.getD k.toNat 0):=by
 unfold Fh Us;by_cases h:k<ns.length;let b:A9 (ns.map T.int) k=!(.int<|ns.getD k.toNat 0):=CF c<|by simp_all
 let a:decide (k<(ns.map T.int).length)=true:=by simpa using h
 simp![DA,IP,HM,a,b]
 let a:decide (k<(ns.map T.int).length)=false:=by simpa using h
 let e:ns.getD k.toNat 0=0:=by
  simp_all
 simp![DA,IP,HM,a,e]
def zrt{x:Str}(h:∀c∈Tx.cs x,c<128):PyData.strOk x=true:=by
 unfold PyData.strOk;rw[<- Array.all_toList,Ñ];intro c a;let:=h c a;show Ä<|by lia
abbrev RZ:Stmt:=AK 33
def UK:AG:=
 (AN<|Gp GO GO (mC<|.str "a") (AA 0)<|mC<|.str "z")
def Ls:qD->Option Ru:=AW 1 1 UK
abbrev Vk:=fA 1 1 RZ Ls
abbrev zap:Gm:=gA RZ 0 [] []
theorem zav:Ck zap Vk RZ UK:={}
def Yj{c:Nat}(f:97<=c)(g:c<=122):Ls [.str {#[c]}]=!(.ok<|.bl true):=by
 let a:((Str.ofString "a").cps.toList)=[97]:=by rfl
 let b:((Str.ofString "z").cps.toList)=[122]:=by rfl
 let d:@decide (#[c].toList<(Str.ofString "a").cps.toList) (Classical.propDecidable _)=false:=@decide_eq_false _ (Classical.propDecidable _) (by
  rw[a];rw[List.cons_lt_cons_iff]
  simp_all)
 let e:@decide ((Str.ofString "z").cps.toList < #[c].toList) (Classical.propDecidable _)=false:=@decide_eq_false _ (Classical.propDecidable _) (by
  rw[b];rw[List.cons_lt_cons_iff]
  simp_all)
 unfold Ls UK
 simp![d,e]
abbrev R9:Stmt:=AK 34
def Wi:AH:=
 (AJ Ls<|AB (AA 0) AE)
def UN:AG:=
 (AN<|Bq (Gp GO GO (mC<|.int 1) (m1 Bd<|AA 0)<|mC<|.int 8)<|m1 EV<|Az 1 [] (Aj<|AA 0) (AD 0) (mC<|.bl true) Wi)
def Lu:qD->Option Ru:=AW 1 1 UN
abbrev Vm:=fA 2 1 R9 Lu
abbrev zfg:Gm:=gA R9 1 [("is_small_letter",Vk)] ["len","all"]
theorem zft:Ck zfg Vm R9 UN:={}
def Jy(x:Str):Prop:=∀i,i<x.cps.size->97<=x.cps.getD i 0/\x.cps.getD i 0<=122
def Ym(x:Str):HN x=mT x.cps.size λi=>.str {#[x.cps.getD i 0]}:=by
 show Ek (by simp[HN]) λi a=>?_;unfold HN;simp_all
def fL{x:Str}(h:Jy x)(k:1<=x.cps.size)(l:x.cps.size<=8):Lu [.str x]=!(.ok<|.bl true):=by
 let l1:x.cps.size<=100000:=by lia
 let e:=Ce (n:=x.cps.size) (me:=Wi) (x:=()) (cs:=[]) (g:=λi=>.str {#[x.cps.getD i 0]}) (f:=λϊ=>.bl true) λi a=>by
  unfold Wi
  simp_all_arith [Yj (h i a).1 (h i a).2]
 let c:decide (1<=(x.length:Int))=true:=Ä (by show(?_:1<=(x.cps.size:Int));lia);let d:decide ((x.length:Int)<=8)=true:=Ä (by show(?_:(x.cps.size:Int)<=8);lia)
 let j:x.length<=BN:=by
  lia
 let b:((List.range x.cps.size).map λϊ=>true).all id=true:=by simp
 unfold Lu UN
 simp![Ym,e,l1,c,d,j,Ju,b]
abbrev RY:Stmt:=AK 35
def UJ:AG:=
 (AN<|Bq (m1 (DH "str")<|AA 0)<|Bu (m2 BS (AA 0)<|mC<|.str "/")<|AJ Lu<|AB (AA 0) AE)
def Lr:qD->Option Ru:=AW 1 1 UJ
abbrev Vj:=fA 3 1 RY Lr
abbrev zb8:Gm:=gA RY 2 [("is_name",Vm)] ["isinstance","str"]
theorem zbd:Ck zb8 Vj RY UJ:={}
def znu{x:Str}(h:Jy x):PyData.strOk x=true:=by
 unfold PyData.strOk;rw[Array.all_eq_true];intro i a;let:=(h i a).2;rw[Array.getD_eq_getD_getElem?,Ĳ a]at this;rw[ü]
 lia
def Iy(x:Str):Prop:=x=Str.ofString "/"\/(Jy x/\1<=x.cps.size/\x.cps.size<=8)
def Qo:PyData.strOk (Str.ofString "/")=true:=by decide +kernel
def K0{x:Str}(h:Iy x):PyData.strOk x=true:=by
 rcases h with rfl|h;show Qo;show znu h.1
def YB{x:Str}(h:Iy x):Lr [.str x]=!(.ok<|.bl true):=by
 let e:=Fe (K0 h) Qo;unfold Lr UJ;by_cases q:x=Str.ofString "/";rw[Ä q]at e
 simp![e]
 rw[Õ q]at e;let en:=fL (h.resolve_left q).1 (h.resolve_left q).2.1 (h.resolve_left q).2.2
 simp![e,en]
abbrev R6:Stmt:=AK 36
def Oh:AH:=
 (Bu (m2 BS (AA 0)<|mC<|.str "/")<|AJ Ls<|AB (AA 0) AE)
def UL:AG:=
 (AF (AX (Bu (BJ<|m1 (DH "str")<|AA 0)<|BJ<|Gp GO GO (mC<|.int 1) (m1 Bd<|AA 0)<|mC<|.int 60) (AN<|mC<|.bl false) A5)
 (AN<|m1 EV<|Az 1 [] (Aj<|AA 0) (AD 0) (mC<|.bl true) Oh))
def PQ:qD->Option Ru:=AW 1 1 UL
abbrev jZ:=fA 2 1 R6 PQ
abbrev zbp:Gm:=gA R6 1 [("is_small_letter",Vk)] ["isinstance","str","len","all"]
theorem zbw:Ck zbp jZ R6 UL:={}
def X1(x:Str):Prop:=∀i,i<x.cps.size->x.cps.getD i 0=47\/(97<=x.cps.getD i 0/\x.cps.getD i 0<=122)
def ZQ{x:Str}(h:X1 x):PyData.strOk x=true:=by
 unfold PyData.strOk;rw[Array.all_eq_true];intro i a;let:=h i a;rw[Array.getD_eq_getD_getElem?,Ĳ a]at this;erw[ś]at this
 lia
def rn_ok{x:Str}(h:X1 x)(r:1<=x.cps.size)(s:x.cps.size<=60):PQ [.str x]=!(.ok<|.bl true):=by
 let l1:x.cps.size<=100000:=by lia
 let m:=Ce (me:=Oh) (x:=()) (cs:=[]) (g:=λi=>.str {#[x.cps.getD i 0]}) (f:=λϊ=>.bl true) λi b=>by
  let p:PyData.strOk (Str.mk #[x.cps.getD i 0])=true:=ZQ λj k=>by
   let l:j<1:=k;let e:j=0:=by lia
   subst e;show h i b
  let e:=Fe p Qo;by_cases q:x.cps.getD i 0=47
  let n:Str.mk #[x.cps.getD i 0]=Str.ofString "/":=by
   rw[q];show Tx.cs_ext<|by decide +kernel
  rw[Ä n]at e;unfold Oh
  simp_all_arith [e]
  let n:¬ (Str.mk #[x.cps.getD i 0]=Str.ofString "/"):=λt=>by
   let a:(Str.ofString "/").cps=#[47]:=by decide +kernel
   lia
  rw[Õ n]at e;let hh:=(h i b).resolve_left q;unfold Oh
  simp_all_arith [e,Yj hh.1 hh.2]
 let a:decide ((1:Int)<=x.length)=true:=Ä (by show(?_:1<=(x.cps.size:Int));lia);let d:decide ((x.length:Int)<=60)=true:=Ä (by show(?_:(x.cps.size:Int)<=60);lia);let o:x.length<=100000:=l1;let c:((List.range x.cps.size).map λϊ=>true).all id=true:=by simp
 unfold PQ UL
 simp![Ym,m,l1,a,d,o,Ju,c]
abbrev RX:Stmt:=AK 8
def gC:AG:=
 (AN<|Bq (m1 (DH "int")<|AA 0)<|BJ<|m1 (DH "bool")<|AA 0)
def Lq:qD->Option Ru:=AW 1 1 gC
abbrev Vi:=fA 1 1 RX Lq
abbrev zeg:Gm:=gA RX 0 [] ["isinstance","int","bool"]
theorem zeu:Ck zeg Vi RX gC:={}
def zg1(i:Int):Lq [.int i]=!(.ok<|.bl true):=by rfl
abbrev R8:Stmt:=AK 25
def gE:AG:=
 (AN<|Bq (AJ Lq<|AB (AA 0) AE)<|m2 (CD λi j=>decide (j<=i)) (AA 0)<|mC<|.int 0)
def X3:qD->Option Ru:=AW 1 1 gE
abbrev j1:=fA 2 1 R8 X3
abbrev zdd:Gm:=gA R8 1 [("is_whole",Vi)] []
theorem zdr:Ck zdd j1 R8 gE:={}
def zmc(i:Int):X3 [.int i]=!(.ok<|.bl<|decide (0<=i)):=by
 rfl
abbrev Ra:Stmt:=AK 24
def UO:AG:=
 (AF (AX (Bu (BJ<|m1 (DH "tuple")<|AA 0)<|m2 Cm (m1 Bd<|AA 0)<|mC<|.int 3) (AN<|mC<|.bl false) A5)
 (AN<|Bq (m2 ES (AM (AA 0)<|mC<|.int 0)<|AA 1)<|Bq (m2 ES (AM (AA 0)<|mC<|.int 1)<|AA 2)<|AJ X3<|AB (AM (AA 0)<|mC<|.int 2) AE))
def PU:qD->Option Ru:=AW 3 3 UO
abbrev j3:=fA 3 3 Ra PU
abbrev zfh:Gm:=gA Ra 2 [("is_number",j1)] ["isinstance","tuple","len"]
theorem zfu:Ck zfh j3 Ra UO:={}
def CZ:kq:=["<","<=",">",">=","="]
def QD:Ca CZ:=by unfold Ca;decide +kernel
abbrev Rb:Stmt:=AK 26
def Wj:AH:=
 (AJ PU<|AB (AA 0)<|AB (AA 1)<|AB (AA 2) AE)
def UP:AG:=
 (AN<|Bq (m1 (DH "list")<|AA 0)<|m1 EV<|Az 1 [1,2] (Aj<|AA 0) (AD 0) (mC<|.bl true) Wj)
def KE:qD->Option Ru:=AW 3 3 UP
abbrev OS:=fA 4 3 Rb KE
abbrev zeh:Gm:=gA Rb 3 [("is_look",j3)] ["isinstance","list","all"]
theorem zev:Ck zeh OS Rb UP:={}
abbrev SF:Stmt:=AK 42
def U9:AG:=
 (AN<|m2 BS (m1 K5<|AA 0)<|m1 Bd<|AA 0)
def KH:qD->Option Ru:=AW 1 1 U9
abbrev OX:=fA 1 1 SF KH
abbrev zcm:Gm:=gA SF 0 [] ["len","set"]
theorem zcu:Ck zcm OX SF U9:={}
def fY{val:Nat->L2.Key}{n:Nat}(h:∀i j,i<n->j<n->val i=val j->i=j):∀k,k<=n->(met val k).length=k/\∀x∈met val k,∃i,i<k/\x=val i
 |0,y=>{rfl,λx a=>by cases a}|k+1,hk=>by
  let(d,b):=fY h k<|by lia
  let hn:val k∉met val k:=λz=>by
   let(i,c,e):=b _ z;let:=h k i (by lia) (by lia) e
   lia
  let e:met val (k+1)=met val k++[val k]:=by
   conv=>lhs;unfold met
   lia
  rw[e];show{by simp_all,λx a=>?_};rcases Ú.mp a with q|q;let(i,c,e):=b x q;show{i,by lia,e};show{k,by lia,Ì.mp q}
def zng{ys:kq}(h:ys.Nodup):Q9 ys=ys.length:=by
 show(fY (λi j b c e=>?_) ys.length<|Ã _).1;let a:=Sum.inr.inj e;rw[â,â,Á b,Á c]at a;show(ñ h).mp a
def Qa{ys:kq}(h:ys.Nodup)(hl:ys.length<1000):KH [.lst<|ys.map T.str]=!(.ok<|.bl true):=by
 let e:(ys.length == ys.length)=true:=õ _;unfold KH U9
 simp![K5,B8,Qj,hl,zng h,ET,e,À]
abbrev Rx:Stmt:=AK 41
def Wp:AH:=
 (AJ Lr<|AB (AA 0) AE)
def U3:AG:=
 (AF (AX (Bu (BJ<|m1 (DH "list")<|AA 0)<|m2 (CD λi j=>decide (j<i)) (m1 Bd<|AA 0)<|mC Nx) (Cc "BadMachine"<|AB (mC<|.str "a machine's watches are a list of at most seven") AE) A5)
 (AX (Bu (BJ<|m1 EV<|Az 1 [] (Aj<|AA 0) (AD 0) (mC<|.bl true) Wp)<|BJ<|AJ KH<|AB (AA 0) AE) (Cc "BadMachine"<|AB (mC<|.str "a machine's watches are unlike names") AE) A5))
def P7:qD->Option Ru:=AW 1 1 U3
abbrev kF:=fA 4 1 Rx P7
abbrev zb4:Gx:={ Bb with co:=[("MOST_WATCHES",Nx)] }
abbrev zb9:Gm:=gA Rx 3 [("is_watch_name",Vj),("are_unlike",OX)] ["isinstance","list","len","all"] (ex:=["BadMachine"]) (ox:=zb4)
theorem zbe:Ck zb9 kF Rx U3:={}
theorem K8(ws:kq):ws.map T.str=mT ws.length λi=>.str<|ws.getD i Str.empty:=Ek (by simp_all) λi a=>by
 simp_all
def cw_ok{ws:kq}(h:∀x∈ws,Iy x)(hd:ws.Nodup)(hl:ws.length<=7):P7 [.lst<|ws.map T.str]=!(.ok .non):=by
 let a:=Ce (n:=ws.length) (me:=Wp) (x:=()) (cs:=[]) (g:=λi=>.str<|ws.getD i Str.empty) (f:=λϊ=>.bl true) λi e=>by
  let d:ws.getD i Str.empty∈ws:=by
   simp_all
  unfold Wp
  simp![YB<|h _ d]
 rw[<- K8]at a;let l1:ws.length<=100000:=by lia
 let c:decide (7<(ws.length:Int))=false:=Õ<|by lia
 let b:((List.range ws.length).map λϊ=>true).all id=true:=by simp
 let un:=Qa hd<|by lia
 unfold P7 U3 Nx
 simp![B8,BE,À,a,l1,c,Ju,b,un]
abbrev Ry:Stmt:=AK 43
def QS:AG:=
 (AF (AX (Bu (BJ<|m1 (DH "tuple")<|AA 2)<|m2 Cm (m1 Bd<|AA 2)<|mC<|.int 2) (Cc "BadMachine"<|AB (mC<|.str "a room is a tuple of a name and a stay") AE) A5)
 (AX (Bu (BJ<|AJ PQ<|AB (AM (AA 2)<|mC<|.int 0) AE)<|BJ<|AJ KE<|AB (AM (AA 2)<|mC<|.int 1)<|AB (AA 1)<|AB (mC Nw) AE) (Cc "BadMachine"<|AB (mC<|.str "a room has a name, and a stay of the machine's watches") AE) A5))
def Wq:AH:=
 (AM (AA 0)<|mC<|.int 0)
def U4:AG:=
 (AF (AX (Bu (BJ<|m1 (DH "list")<|AA 0)<|m2 BS (m1 Bd<|AA 0)<|mC<|.int 0) (Cc "BadMachine"<|AB (mC<|.str "a machine's rooms are a list of one or more") AE) A5)
 (AF (BV (Aj<|AA 0) (AD 2) QS)
 (AX (BJ<|AJ KH<|AB (Az 1 [] (Aj<|AA 0) (AD 0) (mC<|.bl true) Wq) AE) (Cc "BadMachine"<|AB (mC<|.str "no two rooms have one name") AE) A5)))
def P9:qD->Option Ru:=AW 2 3 U4
abbrev kG:=fA 5 2 Ry P9
abbrev zc2:Gx:={ Bb with co:=[("STAY_WORDS",Nw)] }
abbrev zc7:Gm:=gA Ry 4 [("is_room_name",jZ),("is_guard",OS),("are_unlike",OX)] ["isinstance","list","len","tuple"] (ex:=["BadMachine"]) (ox:=zc2) (N:=["rooms","watches","room"])
theorem zcd:Ck zc7 kG Ry U4:={}
def Ci(ws wd:kq)(l:qD):Prop:=∀t∈l,∃x y n,t=.tup [.str x,.str y,.int n]/\x∈ws/\y∈wd/\0<=n
def Ci.sh{ws wd:kq}{l:qD}(h:Ci ws wd l):AZ l=true:=by
 rw[Cz,Ñ];intro t a;let(x,y,n,rfl,_):=h t a
 rfl
abbrev LG(wd:kq):T:=.nd false .rt<|wd.map T.str
def zmj{ws wd:kq}(h:Ca ws)(hd:Ca wd){t:T}(g:∃x y n,t=.tup [.str x,.str y,.int n]/\x∈ws/\y∈wd/\0<=n):PU [t,.lst<|ws.map T.str,LG wd]=!(.ok<|.bl true):=by
 let(x,y,n,rfl,d,e,f):=g;let a:=Jj (o:=false) (k:=.lst) h<|h x d;let b:=Jj (o:=false) (k:=.rt) hd<|hd y e;let c:=zmc n;rw[Ä d]at a;rw[Ä e]at b;rw[Ä f]at c;unfold PU UO
 simp![GF,B8,BE,a,b,c]
def V2{ws wd:kq}(h:Ca ws)(hd:Ca wd){l:qD}(hl:l.length<=1000)(hk:Ci ws wd l):KE [.lst l,.lst<|ws.map T.str,LG wd]=!(.ok<|.bl true):=by
 let hs:=hk.sh;let k:=A8 l hs;let j:=mT_of l .non
 let c:∀i,(l.getD i .non).sh=true:=λi=>by
  by_cases a:i<l.length;rw[â,Á a];rw[Cz,Ñ]at hs;show hs _<|ë a
  rw[â,þ<|by lia];rfl
 let b:=Ce (me:=Wj) (x:=()) (cs:=[!(.lst<|ws.map T.str),!(LG wd)]) (g:=λi=>l.getD i .non) (f:=λϊ=>.bl true) λi a=>by
  let m:l.getD i .non∈l:=by
   rw[â,Á a];show ë a
  let e:=zmj h hd<|hk _ m;unfold Wj
  simp_all_arith [B8,BE,e,Ak _<|c i,c i]
 rw[<- j]at b;let l1:l.length<=100000:=by lia
 let d:((List.range l.length).map λϊ=>true).all id=true:=by simp
 unfold KE UP
 simp![B8,BE,hs,k,l1,b,Ju,d]
def FN:kq:=["<","<="]
def zqr:Nw=LG FN:=rfl
def iC:Jh=LG CZ:=rfl
def st_tx:Ca FN:=by unfold Ca;decide +kernel
structure RsOk(ws:kq)(rs:List<|Str×qD):Prop where
 l1:1<=rs.length
 l64:rs.length<=64
 nm:∀r∈rs,X1 r.1/\1<=r.1.cps.size/\r.1.cps.size<=60
 nd:(rs.map (·.1)).Nodup
 lk:∀r∈rs,Ci ws FN r.2/\r.2.length<=1000
abbrev AS(r:Str×qD):T:=.tup [.str r.1,.lst r.2]
abbrev GA(rs:List<|Str×qD):T:=.lst<|rs.map AS
def IW{ws:kq}{rs:List<|Str×qD}(h:RsOk ws rs):AZ (rs.map AS)=true:=by
 rw[Cz,Ñ];intro t a;let(r,hr,rfl):=Ò.mp a;let:=(h.lk r hr).1.sh;show(?_:((not false) && (true && (((not false) && AZ r.2) && true)))=true)
 lia
def zn4{ws:kq}(s:Ca ws){rs:List<|Str×qD}(h:RsOk ws rs):P9 [GA rs,.lst<|ws.map T.str]=!(.ok .non):=by
 let sr:=IW h;let p:=h.l1;let q:=h.l64;let en:(((rs.map AS).length:Int) == 0)=false:=by rw[Φ,À];lia
 let(Y,e,y,rfl):=DI (b:=AD 2) (body:=QS) (ts:=rs.map AS) (Y:=[!(GA rs),!(.lst<|ws.map T.str),()]) (λi Y=>∃y,Y=[!(GA rs),!(.lst<|ws.map T.str),y]) {_,rfl} λi t Y a d=>by
  let(y,rfl):=d;let(r,hr,rfl):=Ò.mp<|ú a;let(w,n2,x):=h.nm r hr;let(c,u):=h.lk r hr;let j:=rn_ok w n2 x;let k:=V2 s st_tx u c;let l:=c.sh;show{[!(GA rs),!(.lst<|ws.map T.str),!(AS r)],by simp_all_arith [],[!(GA rs),!(.lst<|ws.map T.str),!(AS r)],?_,_,rfl}
  unfold QS
  simp![zqr,GF,B8,BE,j,k,l]
 let g:=Nt (b:=AD 0) (me:=Wq) (ts:=rs.map AS) (λϊ Y=>∃y,Y=[y]) (λi=>.str ((rs.map (·.1)).getD i Str.empty)) {(()),rfl} λi t Y a d=>by
  let(y,rfl):=d;let f :=by simpa using (Ê.mp a).1
  rw[É,Á f]at a;let o :=(Þ a).symm;subst o;let c:=(h.lk rs[i]<|ë f).1.sh;let m:(rs.map (·.1)).getD i Str.empty=rs[i].1:=by simp[f]
  show{[!(AS rs[i])],by simp_all_arith [],?_,_,rfl};rw[m];unfold Wq
  simp_all_arith [c]
 let n:(List.range (rs.map AS).length).map (λi=>T.str ((rs.map (·.1)).getD i Str.empty))=(rs.map (·.1)).map T.str:=by
  rw[K8 (rs.map (·.1)),À,À];rfl
 rw[n]at g;let un:=Qa h.nd (by rw[À];lia)
 let v:(rs.map AS).length<=100000:=by rw[À];lia
 unfold P9 U4
 simp![ET,B8,BE,sr,en,e,g,un,v]
abbrev SG:Stmt:=AK 45
def Wu:AH:=
 (AJ Lr<|AB (AA 0) AE)
def Ws:AH:=
 (m2 ES (AA 0)<|AA 1)
def Ua:AG:=
 (AF (AX (Bu (BJ<|m1 (DH "list")<|AA 0)<|BJ<|m1 EV<|Az 1 [] (Aj<|AA 0) (AD 0) (mC<|.bl true) Wu) (AN<|mC<|.bl false) A5)
 (AN<|Bq (AJ KH<|AB (AA 0) AE)<|m1 EV<|Az 1 [1] (Aj<|AA 0) (AD 0) (mC<|.bl true) Ws))
def Pb:qD->Option Ru:=AW 2 2 Ua
abbrev kI:=fA 4 2 SG Pb
abbrev zc9:Gm:=gA SG 3 [("is_watch_name",Vj),("are_unlike",OX)] ["isinstance","list","all"]
theorem zcf:Ck zc9 kI SG Ua:={}
def zq2{ws ns:kq}(b:∀x∈ws,Iy x)(hn:∀x∈ns,x∈ws)(hd:ns.Nodup)(hl:ns.length<=100):Pb [.lst<|ns.map T.str,.lst<|ws.map T.str]=!(.ok<|.bl true):=by
 let tw :=λx h=>K0<|b x h
 let mem:∀i,i<ns.length->ns.getD i Str.empty∈ns:=λi a=>by
  simp_all
 let c:=Ce (n:=ns.length) (me:=Wu) (x:=()) (cs:=[]) (g:=λi=>.str<|ns.getD i Str.empty) (f:=λϊ=>.bl true) λi a=>by
  unfold Wu
  simp_all_arith [YB<|b _<|hn _<|mem i a]
 let E4:=Ce (me:=Ws) (x:=()) (cs:=[!(.lst<|ws.map T.str)]) (g:=λi=>.str<|ns.getD i Str.empty) (f:=λϊ=>.bl true) λi a=>by
  let e:=Jj (o:=false) (k:=.lst) tw<|tw _<|hn _<|mem i a;rw[Ä<|hn _<|mem i a]at e;unfold Ws
  simp_all_arith [B8,BE,e]
 rw[<- K8]at c E4;let l1:ns.length<=100000:=by lia
 let d:((List.range ns.length).map λϊ=>true).all id=true:=by simp
 let un:=Qa hd<|by lia
 unfold Pb Ua
 simp![B8,BE,À,c,E4,l1,Ju,d,un]
abbrev R5:Stmt:=AK 37
def N7:AG:=
 (AF (AX (BJ<|m1 (DH "str")<|AA 0) (AN<|mC<|.bl false) A5)
 (AN<|Bu (m2 BS (AA 0)<|mC<|.str "")<|Bq (m2 ES (AM (AA 0)<|m1 Ej<|mC<|.int 1)<|BP<|AB (mC<|.str "!")<|AB (mC<|.str "?") AE)<|AJ Lu<|AB (Ax (DC (AA 0) ()<|!(m1 Ej<|mC<|.int 1))<|DR (AA 0) ()<|!(m1 Ej<|mC<|.int 1)) AE))
def KC:qD->Option Ru:=AW 1 1 N7
abbrev jY:=fA 3 1 R5 KC
abbrev zfe:Gm:=gA R5 2 [("is_name",Vm)] ["isinstance","str"]
theorem zfr:Ck zfe jY R5 N7:={}
def Lh(z:Str):Prop:=z=Str.ofString ""\/∃(y:Str) (c:Nat),Jy y/\1<=y.cps.size/\y.cps.size<=8/\(c=33\/c=63)/\Tx.cs z=Tx.cs y++[c]
def znv{y:Str}(h:Jy y):∀c∈Tx.cs y,97<=c/\c<=122:=λc a=>by
 let(i,b):=List.getElem?_of_mem a;let hl :=by simpa using (Ê.mp b).1
 let:=h i hl;simp_all
def zkz{z:Str}(h:Lh z):∀c∈Tx.cs z,c<128/\c≠32/\c≠10/\c≠58:=λc a=>by
 rcases h with rfl|⟨y,d,b,_,_,hd,e⟩;cases a;rw[e]at a;rcases Ú.mp a with a|a;let:=znv b c a;lia;rw[Ì.mp a];lia
def Mm{z:Str}(h:Lh z):PyData.strOk z=true:=zrt λc a=>(zkz h c a).1
def znz{z:Str}(h:Lh z):KC [.str z]=!(.ok<|.bl true):=by
 let j:PyData.strOk (Str.ofString "")=true:=by decide +kernel
 let n:∀c,(c=33\/c=63)->ES (.str<|Str.mk #[c]) (.tup [.str<|Str.ofString "!",.str<|Str.ofString "?"])=!(.bl true):=λc a=>by
  rcases a with rfl|rfl<;>ext
 let i:∀z y:Str,PyData.strOk z=true->z≠Str.ofString ""->z.length<=100000->∀c,(c=33\/c=63)->A9 z.cps.toList (-1)=!c->Txt.slice z () (!(-1))=y->Jy y->1<=y.cps.size->y.cps.size<=8->KC [.str z]=!(.ok<|.bl true):=by
  intro z y hz g hl c a ha hs d f b;let e:=Fe hz j;rw[Õ g]at e;let en:=fL d f b;unfold KC N7
  simp![e,hl,ha,n c a,DR,hs,en,show(-(1:Int))=-1 from rfl]
 rcases id h with rfl|⟨y,c,d,f,b,a,e⟩;let e:=Fe j j;rw[Ä rfl]at e;unfold KC N7
 simp![e]
 let hl:(Tx.cs z).length=(Tx.cs y).length+1:=by rw[e,ß];rfl
 let m:(Tx.cs y).length<=8:=b;show i z y (Mm h) (λq=>?_) (by rw[Tx.cs_len];lia) c a ?_ ?_ d f b;rw[q,show Tx.cs (Str.ofString "")=[] by decide +kernel]at hl;show absurd hl (by rw[đ];lia);show(?_:A9 (Tx.cs z) (-1)=!c);rw[e];unfold A9 CY;rw[ß,Ę,if_neg (by decide),if_pos<|by lia];show(?_:(Tx.cs y++[c])[((-1:Int)+((Tx.cs y).length+1:Nat)).toNat]?=!c);rw[show((-1:Int)+((Tx.cs y).length+1:Nat)).toNat=(Tx.cs y).length by lia,Ė<|Ã _,Nat.sub_self];rfl;let k:Txt.slice z () (!(-1))=StrLaws.sliceText z () (!(-1)):=rfl;rw[k,StrLaws.sliceText_neg_hi z () (by decide) (by rw[Tx.cs_len,hl];lia)];let l:(-1+z.length)=((Tx.cs y).length:Int):=by rw[Tx.cs_len,hl];lia
 rw[l];show Tx.cs_ext ?_;show(?_:Tx.cs (Txt.slice z ()<|!(((Tx.cs y).length:Nat):Int))=Tx.cs y);rw[Tx.sl_to (by lia),e,List.take_left' rfl]
abbrev RD:Stmt:=AK 38
def Tv:AG:=
 (AN<|DU (m1 (DH "list")<|AA 0) (m1 DF<|AA 0)<|AA 0)
def Ll:qD->Option Ru:=AW 1 1 Tv
abbrev jL:=fA 1 1 RD Ll
abbrev zec:Gm:=gA RD 0 [] ["isinstance","list"]
theorem zeq:Ck zec jL RD Tv:={}
def aL(l:qD)(h:AZ l=true):Ll [.lst l]=!(.ok<|.own l):=by
 unfold Ll Tv
 simp![h]
abbrev Rz:Stmt:=AK 44
def QT:AG:=
 (AF (AX (BJ<|m1 (LN WN)<|AA 3) (Cc "BadMachine"<|AB (mC<|.str "a machine's doors are doors") AE) A5)
 (AF (AX (Bu (m2 FX (AU Bg Bm 0<|AA 3)<|AA 1)<|m2 FX (AU Bg Bm 1<|AA 3)<|AA 1) (Cc "BadMachine"<|AB (mC<|.str "a door leads from one room of the machine to another") AE) A5)
 (AF (AX (BJ<|AJ KE<|AB (AU Bg Bm 2<|AA 3)<|AB (AA 2)<|AB (mC Jh) AE) (Cc "BadMachine"<|AB (mC<|.str "a door's guard is one of the machine's watches") AE) A5)
 (AX (Bu (BJ<|AJ Pb<|AB (AU Bg Bm 3<|AA 3)<|AB (AA 2) AE)<|BJ<|AJ KC<|AB (AU Bg Bm 4<|AA 3) AE) (Cc "BadMachine"<|AB (mC<|.str "a door sets watches of the machine, each once, and has at most one sign") AE) A5))))
def U6:AG:=
 (AF (AX (BJ<|m1 (DH "list")<|AA 0) (Cc "BadMachine"<|AB (mC<|.str "a machine's doors are a list") AE) A5)
 (BV (Aj<|AA 0) (AD 3) QT))
def Pa:qD->Option Ru:=AW 3 4 U6
abbrev kH:=fA 5 3 Rz Pa
abbrev zc3:Gx:={ Bb with co:=[("WORDS",Jh)],cl:=[("Door",Bg,Bm)],ci:=[("Door",WN)] }
abbrev zc8:Gm:=gA Rz 4 [("is_guard",OS),("are_noughts",kI),("is_sign",jY)] ["isinstance","list"] (ex:=["BadMachine"]) (ox:=zc3)
theorem zce:Ck zc8 kH Rz U6:={}
structure Dr where
 s:Str
 e:Str
 g:qD
 n:kq
 z:Str
abbrev qA:=List Dr
abbrev BU(d:Dr):T:=.obj (.ins Bg Bm) [.str d.s,.str d.e,.lst d.g,.lst<|d.n.map T.str,.str d.z]
structure DrOk(ws ns:kq)(d:Dr):Prop where
 s:d.s∈ns
 e:d.e∈ns
 g:Ci ws CZ d.g
 gl:d.g.length<=1000
 n:∀x∈d.n,x∈ws
 nd:d.n.Nodup
 nl:d.n.length<=100
 z:Lh d.z
def Jq{ws ns:kq}{d:Dr}(h:DrOk ws ns d):(BU d).sh=true:=by
 let:=h.g.sh
 simp![this,BE]
def fG{ys:kq}{x:Str}{o:Bool}{k:Kd}(h:Ca ys)(a:PyData.strOk x=true):FX (.str x) (.nd o k<|ys.map T.str)=!(.bl<|(not (decide (x∈ys)))):=by
 let e:=Jj (o:=o) (k:=k) h a;unfold ES at e;unfold FX;lia
def zn6{ws ns:kq}(f:∀x∈ws,Iy x)(hn:Ca ns){ds:qA}(h:∀d∈ds,DrOk ws ns d):Pa [.lst<|ds.map BU,.lst<|ns.map T.str,.lst<|ws.map T.str]=!(.ok .non):=by
 let tw :=λx r=>K0<|f x r
 let sd:AZ (ds.map BU)=true:=by
  rw[Cz,Ñ];intro t q;let(d,hd,rfl):=Ò.mp q;show Jq<|h d hd
 let(Y,e,y,rfl):=DI (b:=AD 3) (body:=QT) (ts:=ds.map BU) (Y:=[!(.lst<|ds.map BU),!(.lst<|ns.map T.str),!(.lst<|ws.map T.str),()]) (λi Y=>∃y,Y=[!(.lst<|ds.map BU),!(.lst<|ns.map T.str),!(.lst<|ws.map T.str),y]) {_,rfl} λi t Y n p=>by
  let(y,rfl):=p;let(d,hd,rfl):=Ò.mp<|ú n;let k:=h d hd;let a:=fG (o:=false) (k:=.lst) hn<|hn _ k.s;let c:=fG (o:=false) (k:=.lst) hn<|hn _ k.e;rw[Ä k.s]at a;rw[Ä k.e]at c;let g:=V2 tw QD k.gl k.g;let j:=zq2 f k.n k.nd k.nl;let l:=znz k.z;let m:=k.g.sh;let ci:List.lookup Bg WN=!true:=rfl;show{[!(.lst<|ds.map BU),!(.lst<|ns.map T.str),!(.lst<|ws.map T.str),!(BU d)],by simp_all_arith [],[!(.lst<|ds.map BU),!(.lst<|ns.map T.str),!(.lst<|ws.map T.str),!(BU d)],?_,_,rfl}
  unfold QT
  simp![iC,LN,ci,B8,BE,a,c,g,j,l,m]
 unfold Pa U6
 simp![B8,BE,sd,e]
abbrev ZC:Stmt:=B3 39 0
def Uu:AG:=
 (AF (C0 Bg Bm 0 0<|AA 1)
 (AF (C0 Bg Bm 1 0<|AA 2)
 (AF (C0 Bg Bm 2 0<|AJ Ll<|AB (AA 3) AE)
 (AF (C0 Bg Bm 3 0<|AJ Ll<|AB (AA 4) AE)
 (C0 Bg Bm 4 0<|AA 5)))))
def X6:qD->Option Ru:=Ee Bg Bm 6 6 Uu
abbrev WB:Fn:={2,["self","start","end","guard","noughts","sign"],X6}
abbrev zd8:Gx:={ Bb with sf:=↑(Bg,Bm) }
abbrev zdl:Gm:=gA ZC 1 [("own_copy",jL)] [] (ox:=zd8)
theorem zdz:Ck zdl WB ZC Uu:={}
def di_ok{ws ns:kq}{d:Dr}(h:DrOk ws ns d):X6 [.str d.s,.str d.e,.lst d.g,.lst<|d.n.map T.str,.str d.z]=!(.ok<|BU d):=by
 let a:=h.g.sh;let b:=aL d.g a;let c:=aL (d.n.map T.str)<|BE _;show Mv λp=>?_
 unfold Fz Uu
 simp![b,c,a,B8,BE]
abbrev ZA:Stmt:=B3 40 0
def XC:AH:=
 (AA 0)
def QV:AG:=
 (IV A7 Aa 1 0 (AA 4)<|m1 DF<|AA 5)
def Um:AG:=
 (AF (IU<|AJ P7<|AB (AA 1) AE)
 (AF (IU<|AJ P9<|AB (AA 2)<|AB (AA 1) AE)
 (AF (IU<|AJ Pa<|AB (AA 3)<|AB (Az 2 [] (Aj<|AA 2) (Al 2<|AI (AD 0)<|AI (AD 1) An) (mC<|.bl true) XC)<|AB (AA 1) AE)
 (AF (AX (Bu (m2 (CD λi j=>decide (j<i)) (m1 Bd<|AA 2)<|mC Ny)<|m2 (CD λi j=>decide (j<i)) (m1 Bd<|AA 3)<|mC Nz) (Cc "TooMany"<|AB (mC<|.str "a machine has at most 64 rooms and at most 200 doors") AE) A5)
 (AF (C0 A7 Aa 0 0<|m1 DF<|AA 1)
 (AF (C0 A7 Aa 1 0 GL)
 (AF (BV (Aj<|AA 2) (Al 2<|AI (AD 4)<|AI (AD 5) An) QV)
 (C0 A7 Aa 2 0<|m1 DF<|AA 3))))))))
def Pj:qD->Option Ru:=Ee A7 Aa 4 6 Um
abbrev Vv:Fn:={6,["self","watches","rooms","doors"],Pj}
abbrev zbn:Gx:={ Bb with co:=[("MOST_ROOMS",Ny),("MOST_DOORS",Nz)],sf:=↑(A7,Aa) }
abbrev zbt:Gm:=gA ZA 5 [("check_watches",kF),("check_rooms",kG),("check_doors",kH)] ["len","list"] (ex:=["TooMany"]) (ox:=zbn) (N:=["self","watches","rooms","doors","name","stay"])
theorem zc0:Ck zbt Vv ZA Um:={}
structure Mc where
 ws:kq
 rs:List (Str×qD)
 ds:qA
abbrev qB:=List Mc
abbrev CV(M:Mc):T:=.obj (.ins A7 Aa) [.lst<|M.ws.map T.str,.obj (.sdc (M.rs.map (·.1)))<|M.rs.map λr=>.lst r.2,.lst<|M.ds.map BU]
structure McOk(M:Mc):Prop where
 w:∀x∈M.ws,Iy x
 wd:M.ws.Nodup
 wl:↥M<=7
 r:RsOk M.ws M.rs
 d:∀d∈M.ds,DrOk M.ws (M.rs.map (·.1)) d
 dl:M.ds.length<=200
theorem McOk.tw{M:Mc}(h:McOk M):Ca M.ws:=λx a=>K0<|h.w x a
theorem McOk.tn{M:Mc}(h:McOk M):Ca (M.rs.map (·.1)):=λx a=>by
 let(r,hr,rfl):=Ò.mp a;show ZQ (h.r.nm r hr).1
def McOk.sd{M:Mc}(h:McOk M):AZ (M.ds.map BU)=true:=by
 rw[Cz,Ñ];intro t a;let(d,hd,rfl):=Ò.mp a;show Jq<|h.d d hd
def McOk.ss{M:Mc}(h:McOk M):AZ (M.rs.map λr=>T.lst r.2)=true:=by
 rw[Cz,Ñ];intro t a;let(r,hr,rfl):=Ò.mp a;show(?_:((not false) && AZ r.2)=true);rw[(h.r.lk r hr).1.sh]
 rfl
def McOk.sh{M:Mc}(h:McOk M):(CV M).sh=true:=by
 simp![BE,h.ss,h.sd]
def zme{M:Mc}(h:McOk M):Pj [.lst<|M.ws.map T.str,GA M.rs,.lst<|M.ds.map BU]=!(.ok<|CV M):=by
 let v:=cw_ok h.w h.wd h.wl;let u:=zn4 h.tw h.r;let cd:=zn6 h.w h.tn h.d;let sr:=IW h.r;let sd:=h.sd;let a:=h.r.l1;let C:=h.r.l64;let o:=h.dl
 let s:=Nt (b:=Al 2<|AI (AD 0)<|AI (AD 1) An) (me:=XC) (ts:=M.rs.map AS) (λϊ Y=>∃x y,Y=[x,y]) (λi=>.str ((M.rs.map (·.1)).getD i Str.empty)) {(()),(),rfl} λi t Y a k=>by
  let(x,y,rfl):=k;let c:i<M.rs.length:=by simpa using (Ê.mp a).1
  rw[É,Á c]at a;let f :=(Þ a).symm;subst f;let z:(M.rs.map (·.1)).getD i Str.empty=M.rs[i].1:=by simp[c]
  show{[!(.str M.rs[i].1),!(.lst M.rs[i].2)],by simp_all_arith [],?_,_,_,rfl};rw[z];unfold XC
  simp_all_arith []
 let A:(List.range (M.rs.map AS).length).map (λi=>T.str ((M.rs.map (·.1)).getD i Str.empty))=(M.rs.map (·.1)).map T.str:=by
  rw[K8 (M.rs.map (·.1)),À,À];rfl
 rw[A]at s;let F:(M.rs.map AS).length<=100000:=by rw[À];lia
 let g1:decide ((64:Int)<((M.rs.map AS).length:Int))=false:=Õ (by rw[À];lia);let g2:decide ((200:Int)<((M.ds.map BU).length:Int))=false:=Õ (by rw[À];lia);show Mv λp=>?_
 let(Y,e,x,y,rfl):=DI (b:=Al 2<|AI (AD 4)<|AI (AD 5) An) (body:=QV) (ts:=M.rs.map AS) (Y:=[!(.oob p A7 Aa [.own<|M.ws.map T.str,.osd [] []]),!(.lst<|M.ws.map T.str),!(GA M.rs),!(.lst<|M.ds.map BU),(),()])
  (λi Y=>∃x y,Y=[!(.oob p A7 Aa [.own<|M.ws.map T.str,.osd ((M.rs.take i).map (·.1))<|(M.rs.take i).map λr=>.lst r.2]),!(.lst<|M.ws.map T.str),!(GA M.rs),!(.lst<|M.ds.map BU),x,y]) {(),(),by rw[Ş];rfl} λi t Y a k=>by
  let(x,y,rfl):=k;let c:i<M.rs.length:=by simpa using (Ê.mp a).1
  rw[É,Á c]at a;let f :=(Þ a).symm;subst f;let E:=(h.r.lk _<|ë c).1.sh
  let m:M.rs[i].1∉(M.rs.take i).map (·.1):=λq=>by
   rw[List.map_take]at q;let(j,D,n):=Ő.mp q;rw[î,À]at D;let l:=h.r.nd;rw[Λ]at n;let w:(M.rs.map (·.1))[j]'(by rw[À];lia)=(M.rs.map (·.1))[i]'(by rw[À];show c):=by rw[n,Ĺ]
   let:=(ñ l).mp w;lia
  let d:((M.rs.take i).map (·.1)).length<100000:=by
   rw[À,î];lia
  let g:M.rs.take (i+1)=M.rs.take i++[M.rs[i]]:=by rw[ĳ]
  show{[!(.oob p A7 Aa [.own<|M.ws.map T.str,.osd ((M.rs.take i).map (·.1))<|(M.rs.take i).map λr=>.lst r.2]),!(.lst<|M.ws.map T.str),!(GA M.rs),!(.lst<|M.ds.map BU),!(.str M.rs[i].1),!(.lst M.rs[i].2)],by simp_all_arith [],[!(.oob p A7 Aa [.own<|M.ws.map T.str,.osd ((M.rs.take<|i+1).map (·.1))<|(M.rs.take<|i+1).map λr=>.lst r.2]),!(.lst<|M.ws.map T.str),!(GA M.rs),!(.lst<|M.ds.map BU),!(.str M.rs[i].1),!(.lst M.rs[i].2)],?_,_,_,rfl};rw[g,à,à];unfold QV
  simp![E,m,d]
 rw[À,ă]at e;let B:=A8 _ h.ss;unfold Fz Um Ny Nz
 simp![B8,BE,v,u,cd,sr,sd,s,F,g1,g2,e,B]
def jG{α A:Type}{b:T->AL->Option AL}{body:AG}(f:α->T)(S:List A->AL->Prop)(g:α->List A)(N:Nat):∀(L:List α) (a:List A) (Y:AL),S a Y->a.length+(L.flatMap g).length<=N->(∀x∈L,∀a Y,S a Y->a.length+(g x).length<=N->∃τ1,b (f x) Y=!τ1/\∃τ2,body τ1=!(.nx τ2)/\S (a++g x) τ2)->∃Y',BC b body (L.map f) Y=!(.nx Y')/\S (a++L.flatMap g) Y'
 |[],a,Y,h,z,w=>{Y,rfl,by simp_all}|x::L,a,Y,h,d,hs=>by
  rw[List.flatMap_cons,ß]at d;let(τ1,j,τ2,k,c):=hs x (Î ..) a Y h<|by lia
  let(Y',e,l):=jG f S g N L (a++g x) τ2 c (by rw[ß];lia) λy i=>hs y<|Ë _ i
  show{Y',?_,by simp_all};rw[Ù];unfold BC;lia
def CN{α:Type}{f:α->T}{L:List α}(h:∀x∈L,(f x).sh=true):AZ (L.map f)=true:=by
 rw[Cz,Ñ];intro t a;let(x,b,rfl):=Ò.mp a;show h x b
def sq{f g:AG}{Y Y':AL}{r:Option Out}(h:f Y=!(.nx Y'))(a:g Y'=r):AF f g Y=r:=by
 unfold AF;rw[h];show a
def Hf{α:Type}{b:T->AL->Option AL}{mt me:AH}(f g:α->T)(p:α->Bool)(I:AL->Prop):∀(L:List α) (Y:AL),I Y->(∀x∈L,∀Y,I Y->∃τ1 bb,b (f x) Y=!τ1/\mt τ1=!(.v (.bl<|p x) bb)/\(p x=true->me τ1=!(.v (g x) false))/\I τ1)->CK b mt me (L.map f) Y=!((L.filter p).map g)
 |[],z,y,w=>rfl|x::L,Y,h,hs=>by
  let(τ1,bb,c,d,e,a):=hs x (Î ..) Y h;let k:=Hf f g p I L τ1 a λu hu=>hs u<|Ë _ hu
  rw[Ù,Ŝ];unfold CK;cases i:p x with
  |true=>simp_all|false=>lia
def Mc.nm(M:Mc):kq:=M.rs.map (·.1)
def Ks{α:Type}(l:List α)(hl:l≠[])(i:Int):∃x∈l,A9 l (i.fmod (l.length:Int))=!x:=by
 let d:0<l.length:=List.length_pos_iff.mpr hl;let b:=ė i<|show(0:Int)<(l.length:Int) by lia
 let c:=Œ i<|show(0:Int)<(l.length:Int) by lia
 let a:(i.fmod (l.length:Int)).toNat<l.length:=by lia
 show{l[(i.fmod (l.length:Int)).toNat],ë a,CF b<|Á a}
def Lc{α:Type}(f:α->T){l:List α}{i:Int}{x:α}(h:A9 l i=!x):A9 (l.map f) i=!(f x):=by
 unfold A9 at h ⊢;rw[À];cases a:CY l.length i with
 |none=>rw[a]at h;cases h|some j=>
  rw[a]at h;have b:l[j]?=!x:=h;show(?_:(l.map f)[j]?=!(f x));rw[É,b]
  rfl
def Nq{α:Type}{l:List α}(h:l≠[]):((l.length:Nat):Int)≠0:=λz=>h<|Ų.mp<|Int.ofNat.inj z
def lX:PyData.strOk (Str.ofString "")=true:=by decide +kernel
def Av(M:Mc):T:=CV M
def GJ{M:Mc}(h:McOk M):(Av M).sh=true:=h.sh
def Bw{f g:AG}{Y:AL}{r:Option Out}(h:f Y=!(.nx Y))(a:g Y=r):AF f g Y=r:=sq h a
def sr{f g:AG}{Y:AL}{t:T}(h:f Y=!(.rt t)):AF f g Y=!(.rt t):=by
 unfold AF;rw[h]
def GK(M:Mc):Aw A7 Aa (Av M)=![.lst<|M.ws.map T.str,.obj (.sdc (M.rs.map (·.1)))<|M.rs.map λr=>.lst r.2,.lst<|M.ds.map BU]:=(show Aw A7 Aa (CV M)=(if A7=A7/\Aa=Aa then ↑[.lst<|M.ws.map T.str,.obj (.sdc (M.rs.map (·.1)))<|M.rs.map λr=>.lst r.2,.lst<|M.ds.map BU] else ()) from rfl).trans (if_pos {(rfl),rfl})
abbrev S7:Stmt:=B3 40 1
def Uj:AG:=
 (AN<|Ax (m1 DF<|AU A7 Aa 0<|AA 0)<|He<|AU A7 Aa 0<|AA 0)
def JG:qD->Option Ru:=AW 1 1 Uj
abbrev OY:=fA 1 1 S7 JG
abbrev zan:Gx:={ Bb with cl:=[("Machine",A7,Aa)] }
abbrev zat:Gm:=gA S7 0 [] ["list"] (ox:=zan)
theorem zaz:Ck zat OY S7 Uj:={}
def Th{M:Mc}(h:McOk M):JG [CV M]=!(.ok<|.own<|M.ws.map T.str):=by
 unfold JG Uj
 simp![B8,BE,h.ss,h.sd]
abbrev Sa:Stmt:=B3 40 2
def gH:AG:=
 (AN<|Ax (m1 DF<|Ax (AU A7 Aa 1<|AA 0)<|Ax (AU Ad Af 2<|AA 0)<|AU Ac Ae 3<|AA 0)<|He<|Ax (AU A7 Aa 1<|AA 0)<|Ax (AU Ad Af 2<|AA 0)<|AU Ac Ae 3<|AA 0)
def E9:qD->Option Ru:=AW 1 1 gH
abbrev Hn:=fA 1 1 Sa E9
abbrev zb5:Gx:={ Bb with cl:=[("Machine",A7,Aa),("Sheet",Ad,Af),("Walk",Ac,Ae)] }
abbrev zba:Gm:=gA Sa 0 [] ["list"] (ox:=zb5)
theorem zbf:Ck zba Hn Sa gH:={}
def Ia{M:Mc}(h:McOk M):E9 [CV M]=!(.ok (.own ((M.rs.map (·.1)).map T.str))):=by
 rfl
abbrev Sb:Stmt:=B3 40 3
def Uo:AG:=
 (AN<|Ax (m1 DF<|AU A7 Aa 2<|AA 0)<|He<|AU A7 Aa 2<|AA 0)
def KN:qD->Option Ru:=AW 1 1 Uo
abbrev Vw:=fA 1 1 Sb KN
abbrev zb6:Gx:={ Bb with cl:=[("Machine",A7,Aa)] }
abbrev zbb:Gm:=gA Sb 0 [] ["list"] (ox:=zb6)
theorem zbg:Ck zbb Vw Sb Uo:={}
def f7{M:Mc}(h:McOk M):KN [CV M]=!(.ok<|.own<|M.ds.map BU):=by
 unfold KN Uo
 simp![B8,BE,h.ss,h.sd]
abbrev S9:Stmt:=B3 40 4
def Ul:AG:=
 (AN<|m1 DF<|C8 (Ax (AU A7 Aa 1<|AA 0)<|Ax (AU Ad Af 2<|AA 0)<|AU Ac Ae 3<|AA 0)<|AA 1)
def KL:qD->Option Ru:=AW 2 2 Ul
abbrev Vu:=fA 1 2 S9 KL
abbrev zbm:Gx:={ Bb with cl:=[("Machine",A7,Aa),("Sheet",Ad,Af),("Walk",Ac,Ae)] }
abbrev zbs:Gm:=gA S9 0 [] ["list"] (ox:=zbm)
theorem zbz:Ck zbs Vu S9 Ul:={}
def zjm{ws:kq}(hd:ws.Nodup){i:Nat}(a:i<ws.length):CB ws ws[i]=!i:=by
 unfold CB;rw[ģ];show{a,@decide_eq_true _ (Classical.propDecidable _) rfl,λj b q=>?_};let:=@of_decide_eq_true _ (Classical.propDecidable _) q;let:=(ñ hd).mp this
 lia
def fR{M:Mc}(h:McOk M){i:Nat}(b:i<M.rs.length):KL [CV M,.str M.rs[i].1]=!(.ok<|.own M.rs[i].2):=by
 let e:=zjm h.r.nd (i:=i)<|by simp_all
 rw[Ĺ]at e;let a:(M.rs.map λr=>T.lst r.2)[i]?=!(.lst M.rs[i].2):=by simp_all
 let k:=(h.r.lk _<|ë b).1.sh;unfold KL Ul
 simp![C8,B8,BE,h.ss,h.sd,e,a,k]
abbrev Sv:Stmt:=B3 39 1
def Uv:AG:=
 (AN<|Ax (m1 DF<|AU Bg Bm 2<|AA 0)<|He<|AU Bg Bm 2<|AA 0)
def KQ:qD->Option Ru:=AW 1 1 Uv
abbrev WC:=fA 1 1 Sv KQ
abbrev zd9:Gx:={ Bb with cl:=[("Door",Bg,Bm)] }
abbrev zdm:Gm:=gA Sv 0 [] ["list"] (ox:=zd9)
theorem ze0:Ck zdm WC Sv Uv:={}
def mG{d:Dr}(h:AZ d.g=true):KQ [BU d]=!(.ok<|.own d.g):=by
 unfold KQ Uv
 simp![B8,BE,h]
abbrev Su:Stmt:=B3 39 2
def Ut:AG:=
 (AN<|Ax (m1 DF<|AU Bg Bm 3<|AA 0)<|He<|AU Bg Bm 3<|AA 0)
def Po:qD->Option Ru:=AW 1 1 Ut
abbrev k9:=fA 1 1 Su Po
abbrev zd7:Gx:={ Bb with cl:=[("Door",Bg,Bm)] }
abbrev zdk:Gm:=gA Su 0 [] ["list"] (ox:=zd7)
theorem zdy:Ck zdk k9 Su Ut:={}
def zn1{d:Dr}(h:AZ d.g=true):Po [BU d]=!(.ok<|.own<|d.n.map T.str):=by
 unfold Po Ut
 simp![B8,BE,h]
abbrev S8:Stmt:=B3 40 5
def Uk:AG:=
 (AN<|m2 BW (Kz (AU A7 Aa 0<|AA 0)<|AA 1)<|mC<|.int 1)
def JH:qD->Option Ru:=AW 2 2 Uk
abbrev O0:=fA 1 2 S8 JH
abbrev za0:Gx:={ Bb with cl:=[("Machine",A7,Aa)] }
abbrev za1:Gm:=gA S8 0 [] [] (ox:=za0)
theorem za2:Ck za1 O0 S8 Uk:={}
def fT{M:Mc}(h:McOk M){x:Str}{j:Nat}(e:CB M.ws x=!j):JH [CV M,.str x]=!(.ok<|.int<|(j:Int)+1):=by
 let l1:↥M<1000000:=by let:=h.wl;lia
 unfold JH Uk
 simp![B8,BE,Qj,h.ss,h.sd,e,l1]
abbrev RC:Stmt:=AK 46
def W4:AH:=
 (BP<|AB (BY A7 Aa JH (AA 3)<|AB (AA 0) AE)<|AB (AA 1)<|AB (AA 2) AE)
def Tu:AG:=
 (AF (AV (BY A7 Aa JG (AA 0) AE)<|AD 2)
 (AF (AX (BJ<|AJ KE<|AB (AA 1)<|AB (AA 2)<|AB (mC Jh) AE) (Cc "NoMark"<|AB (mC<|.str "a guard is a list of looks at the machine's watches") AE) A5)
 (AN<|Az 3 [0] (Aj<|AA 1) (Al 3<|AI (AD 0)<|AI (AD 1)<|AI (AD 2) An) (mC<|.bl true) W4)))
def GX:qD->Option Ru:=AW 2 3 Tu
abbrev LX:=fA 5 2 RC GX
abbrev zgt:Gx:={ Bb with co:=[("WORDS",Jh)],mt:=[("watches",A7,Aa,OY),("watch_number",A7,Aa,O0)] }
abbrev zh1:Gm:=gA RC 4 [("is_guard",OS)] [] (ex:=["NoMark"]) (ox:=zgt)
theorem zhk:Ck zh1 LX RC Tu:={}
def DE:T->Str
 |.nd z y (.str x::w)=>x|z=>Str.empty
def Cd:T->Str
 |.nd z x (w::.str y::v)=>y|z=>Str.empty
def Bl:T->Int
 |.nd z y (x::w::.int n::ώ)=>n|z=>0
def Ic{ws wd:kq}{t:T}(h:∃x y n,t=.tup [.str x,.str y,.int n]/\x∈ws/\y∈wd/\0<=n):t=.tup [.str<|DE t,.str<|Cd t,.int<|Bl t]/\DE t∈ws/\Cd t∈wd/\0<=Bl t:=by
 let(x,y,n,rfl,a,b,c):=h;show{(rfl),a,b,c}
def Bp(ws:kq)(t:T):T:=.tup [.int<|((CB ws<|DE t).getD 0:Int)+1,.str<|Cd t,.int<|Bl t]
def Gv{ws:kq}{x:Str}(h:x∈ws):∃j,CB ws x=!j/\∃hj:j<ws.length,ws[j]=x:=by
 unfold CB;cases e:List.findIdx? (λy=>@decide (y=x) (Classical.propDecidable _)) ws with
 |none=>have:=List.findIdx?_eq_none_iff.mp e x h;simp at this|some j=>
  let(a,b,_):=ģ.mp e;lia
def DW{α:Type}{b:T->AL->Option AL}{me:AH}(f g:α->T)(I:AL->Prop):∀(L:List α) (Y:AL),I Y->(∀x∈L,∀Y,I Y->∃τ1,b (f x) Y=!τ1/\me τ1=!(.v (g x) false)/\I τ1)->CK b (mC<|.bl true) me (L.map f) Y=!(L.map g)
 |[],z,y,w=>rfl|x::L,Y,h,hs=>by
  let(τ1,c,d,a):=hs x (Î ..) Y h;let k:=DW f g I L τ1 a λu hu=>hs u<|Ë _ hu
  let f1:mC (.bl true) τ1=!(.v (.bl true) false):=rfl;rw[Ù,Ù];unfold CK;lia
def Kl{M:Mc}(h:McOk M){l:qD}{wd:kq}(hl:Ci M.ws wd l)(p:∀y∈wd,y∈CZ)(hn:l.length<=1000):GX [CV M,.lst l]=!(.ok<|.own<|l.map<|Bp M.ws):=by
 let a:Ci M.ws CZ l:=λt c=>by
  let(x,y,n,e,g,i,k):=hl t c;show{x,y,n,e,g,p y i,k}
 let o:=V2 h.tw QD hn a;let hs:=hl.sh
 let f:=DW (b:=Al 3<|AI (AD 0)<|AI (AD 1)<|AI (AD 2) An) (me:=W4) (λt:T=>t) (Bp M.ws) (λY=>∃x y z,Y=[x,y,z,!(CV M)]) l [(),(),(),!(CV M)] {(()),(),(),rfl} λt c Y m=>by
  let(x,y,z,rfl):=m;let(q,r,u,v):=Ic<|a t c;let(j,d,_):=Gv r;let en:=fT h d;show{[!(.str<|DE t),!(.str<|Cd t),!(.int<|Bl t),!(CV M)],by rw[q];simp_all_arith [DE,Cd,Bl],?_,_,_,_,rfl}
  unfold W4 Bp;rw[d]
  simp_all_arith [B8,BE,h.ss,h.sd,A8 _ h.ss,A8 _ h.sd,en,ś]
 rw[List.map_id']at f;let s:=Th h;let l1:l.length<=100000:=by lia
 unfold GX Tu
 simp![iC,B8,BE,h.ss,h.sd,s,hs,o,l1,f]
abbrev RA:Stmt:=AK 69
def Ts:AG:=
 (AF (AX (Bu (BJ<|m1 (DH "tuple")<|AA 2)<|m2 Cm (m1 Bd<|AA 2)<|mC<|.int 2) (Cc "NoMark"<|AB (mC<|.str "a mark is a tuple of a room and a guard") AE) A5)
 (AF (AX (m2 FX (AM (AA 2)<|mC<|.int 0)<|AA 1) (Cc "NoMark"<|AB (mC<|.str "a mark is in a room of the machine") AE) A5)
 (AN<|BP<|AB (AM (AA 2)<|mC<|.int 0)<|AB (AJ GX<|AB (AA 0)<|AB (AM (AA 2)<|mC<|.int 1) AE) AE)))
def PH:qD->Option Ru:=AW 3 3 Ts
abbrev jK:=fA 6 3 RA PH
abbrev zc4:Gm:=gA RA 5 [("placed",LX)] ["isinstance","tuple","len"] (ex:=["NoMark"])
theorem zca:Ck zc4 jK RA Ts:={}
def FI(ws rn:kq)(gl:List<|Str×qD):Prop:=∀g∈gl,g.1∈rn/\Ci ws CZ g.2/\g.2.length<=2
def FI.sh{ws rn:kq}{gl:List<|Str×qD}(h:FI ws rn gl):AZ (gl.map AS)=true:=by
 rw[Cz,Ñ];intro t b;let(g,a,rfl):=Ò.mp b;let:=(h g a).2.1.sh
 simp![this]
nonrec def zjc{ys:kq}{x:Str}{o:Bool}{k:Kd}(h:Ca ys)(a:PyData.strOk x=true):FX (.str x) (.nd o k<|ys.map T.str)=!(.bl<|(not (decide (x∈ys)))):=by
 let e:=Jj (o:=o) (k:=k) h a;unfold ES at e;unfold FX;simp only at e ⊢;split at e;rename_i hk;rw[if_pos hk];erw[Ŵ,T.bl.injEq]at e ⊢;rw[e];cases e
def pm_ok{M:Mc}(h:McOk M){g:Str×qD}(c:g.1∈M.rs.map (·.1)/\Ci M.ws CZ g.2/\g.2.length<=2):PH [CV M,.lst ((M.rs.map (·.1)).map T.str),AS g]=!(.ok<|.tup [.str g.1,.lst<|g.2.map<|Bp M.ws]):=by
 let(g1,g2,f):=c;let a:=zjc (o:=false) (k:=.lst) h.tn<|h.tn _ g1;rw[Ä g1]at a;let b:=Kl h g2 (λy e=>e)<|by lia
 let hs:=g2.sh
 let ps:AZ (g.2.map<|Bp M.ws)=true:=by
  rw[Cz,Ñ];intro t d;let(u,_,rfl):=Ò.mp d
  rfl
 unfold PH Ts
 simp![GF,B8,BE,h.ss,h.sd,a,b,hs,ps]
abbrev RB:Stmt:=AK 68
def W0:AH:=
 (AJ PH<|AB (AA 1)<|AB (AA 2)<|AB (AA 0) AE)
def Tt:AG:=
 (AF (AX (BJ<|m1 (DH "list")<|AA 1) (Cc "NoMark"<|AB (mC<|.str "a goal is a list of marks") AE) A5)
 (AF (AV (BY A7 Aa E9 (AA 0) AE)<|AD 2)
 (AN<|Az 1 [0,2] (Aj<|AA 1) (AD 0) (mC<|.bl true) W0)))
def HH:qD->Option Ru:=AW 2 3 Tt
abbrev OP:=fA 7 2 RB HH
abbrev zc1:Gx:={ Bb with mt:=[("rooms",A7,Aa,Hn)] }
abbrev zc5:Gm:=gA RB 6 [("placed_mark",jK)] ["isinstance","list"] (ex:=["NoMark"]) (ox:=zc1)
theorem zcb:Ck zc5 OP RB Tt:={}
def TQ{M:Mc}(h:McOk M){gl:List<|Str×qD}(a:FI M.ws (M.rs.map (·.1)) gl)(hn:gl.length<=1000):HH [CV M,.lst<|gl.map AS]=!(.ok<|.own<|gl.map λg=>.tup [.str g.1,.lst<|g.2.map<|Bp M.ws]):=by
 let gs:=a.sh
 let i:=DW (b:=AD 0) (me:=W0) AS (λg=>.tup [.str g.1,.lst<|g.2.map<|Bp M.ws]) (λY=>∃x,Y=[x,!(CV M),!(.lst ((M.rs.map (·.1)).map T.str))]) gl [(),!(CV M),!(.lst ((M.rs.map (·.1)).map T.str))] {(()),rfl} λg f Y d=>by
  let(x,rfl):=d;let k:=a g f;let e:=pm_ok h k;let c:=k.2.1.sh;show{[!(AS g),!(CV M),!(.lst ((M.rs.map (·.1)).map T.str))],by simp_all_arith [],?_,_,rfl}
  unfold W0
  simp_all_arith [B8,BE,h.ss,h.sd,A8 _ h.ss,A8 _ h.sd,e,c,A8 _ c]
 let j:=Ia h;let l1:gl.length<=100000:=by lia
 unfold HH Tt
 simp![B8,BE,h.ss,h.sd,j,gs,À,l1,i]
abbrev SE:Stmt:=AK 14
def U8:AG:=
 (AN<|m2 BW (m2 Bi (mC<|.int 2)<|AA 0)<|mC<|.int 1)
def Fs:qD->Option Ru:=AW 1 1 U8
abbrev Io:=fA 1 1 SE Fs
abbrev zfi:Gm:=gA SE 0 [] []
theorem zfv:Ck zfi Io SE U8:={}
def XU(i:Int):Fs [.int i]=!(.ok<|.int<|2 * i+1):=by
 let m:B9 2 i=true:=Gj<|DK (by decide)<|by decide
 unfold Fs U8
 simp![m]
def Jw:Fs [.int 0]=!(.ok<|.int 1):=XU 0
abbrev SA:Stmt:=AK 15
def U7:AG:=
 (AN<|m2 Bi (mC<|.int 2)<|AA 0)
def JE:qD->Option Ru:=AW 1 1 U7
abbrev OV:=fA 1 1 SA JE
abbrev zjs:Gm:=gA SA 0 [] []
theorem zk7:Ck zjs OV SA U7:={}
def Ot(i:Int):JE [.int i]=!(.ok<|.int<|2 * i):=by
 let m:B9 2 i=true:=Gj<|DK (by decide)<|by decide
 unfold JE U7
 simp![m]
abbrev RF:Stmt:=AK 16
def Tw:AG:=
 (AN<|m2 Co (AA 0)<|mC<|.int 2)
def JB:qD->Option Ru:=AW 1 1 Tw
abbrev OQ:=fA 1 1 RF JB
abbrev zdb:Gm:=gA RF 0 [] []
theorem zdp:Ck zdb OQ RF Tw:={}
def GD(i:Int):JB [.int i]=!(.ok<|.int<|i / 2):=by
 let m:DB 2=true:=Dy (by decide)<|by decide
 let f:i.fdiv 2=i / 2:=fd<|by decide
 unfold JB Tw
 simp![m,f]
abbrev R7:Stmt:=AK 17
def UM:AG:=
 (AN<|m2 BS (m2 Ba (AA 0)<|mC<|.int 2)<|mC<|.int 0)
def KD:qD->Option Ru:=AW 1 1 UM
abbrev Vl:=fA 1 1 R7 KD
abbrev zff:Gm:=gA R7 0 [] []
theorem zfs:Ck zff Vl R7 UM:={}
def VO(i:Int):KD [.int i]=!(.ok<|.bl<|i % 2 == 0):=by
 let f:i.fmod 2=i % 2:=fm<|by decide
 unfold KD UM
 simp![f,ET]
abbrev SI:Stmt:=AK 18
def Uc:AG:=
 (AF (AX (Bu (m2 (BO false) (AA 0)<|mC .non)<|m2 (BO false) (AA 1)<|mC .non) (AN<|mC .non) A5)
 (AF (AV (m2 BW (AJ JB<|AB (AA 0) AE)<|AJ JB<|AB (AA 1) AE)<|AD 2)
 (AF (AX (Bu (AJ KD<|AB (AA 0) AE)<|AJ KD<|AB (AA 1) AE) (AN<|AJ JE<|AB (AA 2) AE) A5)
 (AN<|AJ Fs<|AB (AA 2) AE))))
def KI:qD->Option Ru:=AW 2 3 Uc
abbrev kK:=fA 2 2 SI KI
abbrev zjt:Gm:=gA SI 1 [("number_of",OQ),("is_open",Vl),("below",OV),("at_most",Io)] []
theorem zk8:Ck zjt kK SI Uc:={}
def nR(a b:Db.B):KI [bT a,bT b]=!(.ok<|bT<|Db.add a b):=by
 unfold KI Uc;cases a with
 |none=>simp_all_arith [Db.add]|some a=>
  cases b with
  |none=>simp_all_arith [Db.add]|some b=>
   let c:a % 2=0\/a % 2=1:=by lia
   let e:b % 2=0\/b % 2=1:=by lia
   let d:((1:Int) == 0)=false:=rfl;let m1:min (0:Int) 0=0:=rfl;let m2:min (0:Int) 1=0:=rfl;let f:min (1:Int) 0=0:=rfl;let g:min (1:Int) 1=1:=rfl
   rcases c with c|c<;>rcases e with e|e<;>simp![GD,VO,c,e,d,Ot,XU,Db.add,Db.bs,m1,m2,f,g,Int.add_zero]
abbrev RJ:Stmt:=AK 19
def UC:AG:=
 (AF (AX (m2 (BO false) (AA 0)<|mC .non) (AN<|AA 1) A5)
 (AF (AX (m2 (BO false) (AA 1)<|mC .non) (AN<|AA 0) A5)
 (AN<|m2 Ku (AA 0)<|AA 1)))
def PL:qD->Option Ru:=AW 2 2 UC
abbrev jP:=fA 1 2 RJ PL
abbrev zed:Gm:=gA RJ 0 [] ["min"]
theorem zer:Ck zed jP RJ UC:={}
def nr_ok(a b:Db.B):PL [bT a,bT b]=!(.ok<|bT<|Db.mn a b):=by
 unfold PL UC;cases a with
 |none=>rfl|some a=>
  cases b with
  |none=>rfl|some b=>
   simp![Db.mn]
   lia
abbrev Rl:Stmt:=AK 50
def UW:AG:=
 (AF (AX (Bu (m2 BS (AA 0)<|mC<|.int 0)<|m2 BS (AA 0)<|AA 1) (AN<|AJ Fs<|AB (mC<|.int 0) AE) A5)
 (AN<|mC .non))
def Lw:qD->Option Ru:=AW 2 2 UW
abbrev Vn:=fA 2 2 Rl Lw
abbrev zck:Gm:=gA Rl 1 [("at_most",Io)] []
theorem zcs:Ck zck Vn Rl UW:={}
def lQ(i j:Nat):Lw [.int i,.int j]=!(.ok<|bT<|Db.free i j):=by
 unfold Lw UW;by_cases b:i=0;subst b
 simp![ET,Jw,Db.free]
 by_cases h:i=j;subst h;let a:((i:Int) == 0)=false:=by lia
 simp![ET,a,Jw,Db.free]
 let a:((i:Int) == 0)=false:=by lia
 let c:((i:Int) == (j:Int))=false:=by simp;lia
 simp![ET,a,c,Db.free,b,h]
abbrev Qw:Stmt:=AK 54
def QH:AG:=
 (AX (m2 (BO false) (AA 5)<|mC .non) (CO 3<|AA 4) (AF (AV (m2 FL (m2 BW (AA 1)<|AA 5)<|m2 Lb (m2 L9 (AA 1)<|AA 5)<|mC<|.int 1)<|AD 6)
 (CO 3<|DU (Bu (m2 (BO false) (AA 4)<|mC .non)<|m2 (CD λi j=>decide (i<j)) (AA 6)<|AA 4) (AA 6)<|AA 4)))
def Tp:AG:=
 (AF (Bh 3<|BQ AE)
 (AF (BV (Gw<|AB (AA 0)<|AB (AA 2) AE) (Al 2<|AI (AD 4)<|AI (AD 5) An) QH)
 (AN<|AA 3)))
def Lj:qD->Option Ru:=AW 3 7 Tp
abbrev Vd:=fA 1 3 Qw Lj
abbrev zea:Gm:=gA Qw 0 [] ["zip"] ["told"]
theorem zeo:Ck zea Vd Qw Tp:={}
def ZO{n:Nat}(hn:n<=100000)(r s:Nat->Db.B)(c:Int):Lj [rT n r,.int c,rT n s]=!(.ok<|.own<|mT n λj=>bT<|Db.mn (r j)<|Db.add !c<|s j):=by
 let d:=OO (b:=Al 2<|AI (AD 4)<|AI (AD 5) An) (body:=QH) (n:=n) (g:=λi=>.tup [bT<|r i,bT<|s i]) (Y:=[!(rT n r),!(.int c),!(rT n s),!(.own []),(),(),()])
  (λi Y=>∃x y z,Y=[!(rT n r),!(.int c),!(rT n s),!(.own<|mT i λj=>bT<|Db.mn (r j)<|Db.add !c<|s j),x,y,z])
  {(()),(),(),rfl} (by
   rintro i Y f ⟨x,y,z,rfl⟩;let l1:i<100000:=by lia
   show{_,by simp![];rfl,?_};unfold QH;cases hs:s i with
   |none=>
    show{_,by simp![l1];rfl,!(bT<|r i),!.non,z,?_};rw[<- Ky,hs];cases r i<;>rfl
   |some m=>
    let a:c+m - Builtin.bitAnd (Builtin.bitOr c m) 1=Db.bs c m:=by rw[Db.bor_one,Db.bs_eq]
    cases hr:r i with
    |none=>
     show{_,by simp![a,l1];rfl,!.non,!(.int m),!(.int<|Db.bs c m),?_};rw[<- Ky,hs,hr];rfl
    |some o=>
     by_cases h:Db.bs c m<o;show{_,by simp![a,h,l1];rfl,!(.int o),!(.int m),!(.int<|Db.bs c m),?_};rw[<- Ky,hs,hr];rw[show Db.mn ↑o (Db.add ↑c !m)=↑(Db.bs c m) by show(show ↑(min _ _)=_ from ?_);rw[show min o (Db.bs c m)=Db.bs c m by lia]];rfl;show{_,by simp![a,h,l1];rfl,!(.int o),!(.int m),!(.int<|Db.bs c m),?_};rw[<- Ky,hs,hr];rw[show Db.mn ↑o (Db.add ↑c !m)=↑o by show(show ↑(min _ _)=_ from ?_);rw[show min o (Db.bs c m)=o by lia]]
     rfl)
 let(e,a,x,y,z,rfl):=d;unfold Lj Tp
 simp![KZ,a]
abbrev Rf:Stmt:=AK 53
def Wk:AH:=
 (m2 (CD λi j=>decide (i<j)) (AM (AA 1)<|AA 0)<|AJ Fs<|AB (mC<|.int 0) AE)
def UR:AG:=
 (AN<|m1 Hv<|Az 2 [] (Cf<|AB (AA 0) AE) (Al 2<|AI (AD 0)<|AI (AD 1) An) (mC<|.bl true) Wk)
def PX:qD->Option Ru:=AW 1 1 UR
abbrev j5:=fA 2 1 Rf PX
abbrev zde:Gm:=gA Rf 1 [("at_most",Io)] ["any","enumerate"]
theorem zds:Ck zde j5 Rf UR:={}
def zro{n:Nat}{f:Db.Z}(hn:n<=100000){d:Nat->Int}(hd:∀i,i<n->f i i=!(d i)):PX [zT n f]=!(.ok<|.bl<|(List.range n).any λi=>decide (d i<1)):=by
 let b:=E4 (n:=n) (me:=Wk) (x:=()) (y:=()) (cs:=[]) (u:=λi=>.int (i:Int)) (w:=λi=>rT n<|f i) (f:=λi=>.bl<|decide (d i<1)) λi a=>by
  unfold Wk
  simp_all_arith [J5,My,C7 a,hd i a,Jw]
 unfold PX UR;let c:n<=100000:=by lia
 simp![zia,Bv,My,J5,Cf,Ho,b,c,Ju,List.any_map,Function.comp_def,id_eq]
abbrev RI:Stmt:=AK 52
def W9:AH:=
 (AJ PL<|AB (AA 1)<|AB (AJ Lw<|AB (AA 2)<|AB (AA 0) AE) AE)
def Og:AH:=
 (Az 2 [0] (Cf<|AB (AA 1) AE) (Al 2<|AI (AD 0)<|AI (AD 1) An) (mC<|.bl true) W9)
def W8:AH:=
 (DU (m2 (BO false) (AM (AA 0)<|AA 1)<|mC .non) (AA 0)<|AJ Lj<|AB (AA 0)<|AB (AM (AA 0)<|AA 1)<|AB (AA 2) AE)
def K1:AG:=
 (AF (AX (AJ PX<|AB (AA 1) AE) (AN<|mC .non) A5)
 (AF (AV (AM (AA 1)<|AA 2)<|AD 3)
 (AV (Az 1 [2,3] (Aj<|AA 1) (AD 0) (mC<|.bl true) W8)<|AD 1)))
def UB:AG:=
 (AF (AV (Az 2 [] (Cf<|AB (AA 0) AE) (Al 2<|AI (AD 0)<|AI (AD 1) An) (mC<|.bl true) Og)<|AD 1)
 (AF (BV (C9<|AB (m1 Bd<|AA 1) AE) (AD 2) K1)
 (AN<|AA 1)))
def GY:qD->Option Ru:=AW 1 4 UB
abbrev Vg:=fA 3 1 RI GY
abbrev zdc:Gm:=gA RI 2 [("narrower",jP),("free_bound",Vn),("is_broken",j5),("row_over",Vd)] ["enumerate","range","len"]
theorem zdq:Ck zdc Vg RI UB:={}
def ZP{n:Nat}{f:Db.Z}{d:Nat->Int}(hd:∀i,i<n->f i i=!(d i)):((List.range n).any λi=>decide (d i<1))=true ↔ Db.Brk n f:=by
 rw[Ě];constructor;rintro⟨i,a,h⟩;let a:=ě.mp a;show{i,a,?_};rw[hd i a];erw[Db.le]
 lia;rintro⟨i,a,h⟩;show{i,ě.mpr a,Ä ?_};rw[hd i a]at h;erw[Db.le]at h;lia
def zhe(f:Db.Z)(k i:Nat):∃d,Db.fw f k i i=!d:=by
 let:=Db.diag_le f i k;cases h:Db.fw f k i i with
 |none=>rw[h]at this;show this.elim|some d=>lia
def T5{n:Nat}(hn:n<=100000)(f:Db.Z):(Db.Sound n f->GY [zT n f]=!(.ok<|zT n<|Db.fw f n))/\(¬ Db.Sound n f->GY [zT n f]=!(.ok .non)):=by
 let l1:n<=100000:=by lia
 let o:∀i,i<n->Og [!(.int (i:Int)),!(rT n<|f i)]=!(.v (.own<|mT n λj=>bT<|Db.z0 f i j) false):=λi m=>by
  let p:=E4 (n:=n) (me:=W9) (x:=()) (y:=()) (cs:=[!(.int (i:Int))]) (u:=λj=>.int (j:Int)) (w:=λj=>bT<|f i j) (f:=λj=>bT<|Db.z0 f i j) λj z=>by
   unfold W9
   simp![lQ,nr_ok]
   rfl
  unfold Og
  simp_all_arith [Cf,Ho,p,l1]
 let s:=E4 (n:=n) (me:=Og) (x:=()) (y:=()) (cs:=[]) (u:=λi=>.int (i:Int)) (w:=λi=>rT n<|f i) (f:=λi=>.own<|mT n λj=>bT<|Db.z0 f i j) o
 let a:=Jp (b:=AD 2) (body:=K1) (n:=n) (g:=λi=>.int (i:Int)) (Y:=[!(zT n f),!(zT n<|Db.fw f 0),(),()]) (λk=>¬ Db.Brk n (Db.fw f k)) .non
  (λk Y=>∃x y,Y=[!(zT n f),!(zT n<|Db.fw f k),x,y]) {(()),(),rfl} (by
   rintro k Y hk - ⟨x,y,rfl⟩;show{_,by simp_all_arith [],?_}
   let hd:∀i,i<n->Db.fw f k i i=!((Db.fw f k i i).getD 0):=λi X=>by
    let(d,e):=zhe f k i;rw[e];rfl
   let l:=zro hn hd;by_cases hb:Db.Brk n<|Db.fw f k
   right;show{λq=>q hb,?_};rw[(ZP hd).mpr hb]at l;unfold K1
   simp![l]
   left;show{hb,?_}
   let A:((List.range n).any λi=>decide ((Db.fw f k i i).getD 0<1))=false:=by
    cases q:((List.range n).any λi=>decide ((Db.fw f k i i).getD 0<1)) with
    |false=>rfl|true=>show absurd ((ZP hd).mp q) hb
   rw[A]at l;generalize D:Db.fw f k=g at *
   let p:=Ce (n:=n) (me:=W8) (x:=()) (cs:=[!(.int (k:Int)),!(rT n<|g k)]) (g:=λi=>rT n<|g i) (f:=λi=>match g i k with|none=>rT n (g i)|some c=>.own<|mT n λj=>bT<|Db.mn (g i j)<|Db.add !c<|g k j) λi m=>by
    unfold W8;cases e:g i k with
    |none=>simp_all_arith [C7 hk,e]|some c=>simp_all_arith [C7 hk,e,ZO hn]
   let B:(mT n λi=>(match g i k with|none=>rT n (g i)|some c=>T.own<|mT n λj=>bT<|Db.mn (g i j)<|Db.add !c<|g k j).share)=mT n λi=>rT n<|Db.stp g k i:=EM λi m=>by
    cases e:g i k with
    |none=>
     erw[My];unfold rT;rw[EM λj z=>?_];unfold Db.stp;rw[e];cases g i j<;>rfl
    |some c=>
     simp![]
     rw[EM λj z=>?_];unfold Db.stp;rw[e]
   show{[!(zT n f),!(zT n<|Db.stp g k),!(.int (k:Int)),!(rT n<|g k)],.inl ?_,!(.int (k:Int)),!(rT n<|g k),?_};unfold K1
   simp![l,C7 hk,p,l1]
   rw[B]
   rw[show Db.fw f (k+1)=Db.stp g k by rw[<- D];rfl])
 let hr:Cj (n:Int)=true:=Eh hn
 let st:∀r,BC (AD 2) K1 (mT n λi=>.int (i:Int)) [!(zT n f),!(zT n<|Db.fw f 0),(),()]=r->GY [zT n f]=(match (match r with|some (.nx v)=>AN (AA 1) v|r=>r) with
   |some (.rt t)=>!(Ru.ok t)|some (.nx X)=>!(.ok .non)|some (.xc c X)=>!(.exc c)|X=>()):=by
  rintro _ rfl;unfold GY UB
  simp![Cf,Ho,s,l1,hr,E1]
  rfl
 rcases a with ⟨C,v,e,x,y,rfl⟩|⟨⟨i,m,hb⟩,e⟩;show{λϊ=>?_,λh=>absurd (λk hk=>C k hk) h};rw[st _ e]
 simp_all_arith []
 show{λh=>absurd (h i m) hb,λϊ=>?_};rw[st _ e]
abbrev RW:Stmt:=AK 56
def UI:AG:=
 (AF (AX (m2 (BO false) (AA 1)<|mC .non) (AN<|mC<|.bl false) A5)
 (AN<|Bu (m2 (BO false) (AA 0)<|mC .non)<|m2 (CD λi j=>decide (j<i)) (AA 0)<|AA 1))
def KA:qD->Option Ru:=AW 2 2 UI
abbrev Vh:=fA 1 2 RW KA
abbrev zef:Gm:=gA RW 0 [] []
theorem zet:Ck zef Vh RW UI:={}
def YD(a b:Db.B):(Db.le a b->KA [bT a,bT b]=!(.ok<|.bl false))/\(¬ Db.le a b->KA [bT a,bT b]=!(.ok<|.bl true)):=by
 unfold KA UI;cases b with
 |none=>show{λϊ=>by simp_all_arith [],λh=>absurd trivial h}|some b=>
  cases a with
  |none=>show{λh=>h.elim,λϊ=>by simp_all_arith []}|some a=>
   constructor;intro h;have c:decide (b<a)=false:=Õ (by erw[Db.le]at h;lia)
   simp![c]
   intro h;have c:decide (b<a)=true:=Ä (by erw[Db.le]at h;lia)
   simp![c]
abbrev Qs:Stmt:=AK 55
def QF:AG:=
 (AX (AJ KA<|AB (AA 4)<|AB (AA 5) AE) (AN<|mC<|.bl false) A5)
def MN:AG:=
 (BV (Gw<|AB (AA 2)<|AB (AA 3) AE) (Al 2<|AI (AD 4)<|AI (AD 5) An) QF)
def N2:AG:=
 (AF (BV (Gw<|AB (AA 0)<|AB (AA 1) AE) (Al 2<|AI (AD 2)<|AI (AD 3) An) MN)
 (AN<|mC<|.bl true))
def Hx:qD->Option Ru:=AW 2 6 N2
abbrev Va:=fA 2 2 Qs Hx
abbrev zgz:Gm:=gA Qs 1 [("is_wider",Vh)] ["zip"]
theorem zhi:Ck zgz Va Qs N2:={}
def wi_ok{n:Nat}(f g:Db.Z):((∀i j,i<n->j<n->Db.le (f i j) (g i j))->Hx [zT n f,zT n g]=!(.ok<|.bl true))/\((¬ ∀i j,i<n->j<n->Db.le (f i j) (g i j))->Hx [zT n f,zT n g]=!(.ok<|.bl false)):=by
 let d:=Jp (b:=Al 2<|AI (AD 2)<|AI (AD 3) An) (body:=MN) (n:=n) (g:=λi=>.tup [rT n<|f i,rT n<|g i]) (Y:=[!(zT n f),!(zT n g),(),(),(),()]) (λi=>∀j,j<n->Db.le (f i j) (g i j)) (.bl false)
  (λi Y=>∃x y z w,Y=[!(zT n f),!(zT n g),x,y,z,w]) {(()),(),(),(),rfl} (by
   rintro i Y k - ⟨x,y,z,w,rfl⟩;show{_,by simp![];rfl,?_}
   let a:=Jp (b:=Al 2<|AI (AD 4)<|AI (AD 5) An) (body:=QF) (n:=n) (g:=λj=>.tup [bT<|f i j,bT<|g i j]) (Y:=[!(zT n f),!(zT n g),!(rT n<|f i),!(rT n<|g i),z,w]) (λj=>Db.le (f i j)<|g i j) (.bl false)
    (λj Y=>∃z w,Y=[!(zT n f),!(zT n g),!(rT n<|f i),!(rT n<|g i),z,w]) {(z),w,rfl} (by
     rintro j Y c - ⟨z,w,rfl⟩;show{_,by simp![];rfl,?_};let q:=YD (f i j)<|g i j;unfold QF
     by_cases h:Db.le (f i j)<|g i j
     left;let q:=q.1 h;show{h,_,.inl (by simp![q];rfl),_,_,rfl}
     right;let q:=q.2 h;show{h,by simp![q]})
   rcases a with ⟨h,l,e,z,w,rfl⟩|⟨⟨j,c,h⟩,e⟩;left;show{h,_,.inl ?_,!(rT n<|f i),!(rT n<|g i),z,w,rfl};unfold MN
   simp![KZ,e]
   right;show{λq=>h<|q j c,?_};unfold MN
   simp![KZ,e])
 rcases d with ⟨h,l,e,x,y,z,w,rfl⟩|⟨⟨i,k,h⟩,e⟩;show{λϊ=>?_,λq=>absurd (λi j k c=>h i k j c) q};unfold Hx N2
 simp![KZ,e]
 show{λq=>absurd (λj c=>q i j k c) h,λϊ=>?_};unfold Hx N2
 simp![KZ,e]
abbrev RO:Stmt:=AK 28
def UG:AG:=
 (AF (Bh 4<|BQ AE)
 (AF (AX (m2 BS (AA 2)<|mC<|.str "<") (CO 4<|BP<|AB (AA 0)<|AB (AA 1)<|AB (AJ JE<|AB (AA 3) AE) AE) A5)
 (AF (AX (Bu (m2 BS (AA 2)<|mC<|.str "<=")<|m2 BS (AA 2)<|mC<|.str "=") (CO 4<|BP<|AB (AA 0)<|AB (AA 1)<|AB (AJ Fs<|AB (AA 3) AE) AE) A5)
 (AF (AX (m2 BS (AA 2)<|mC<|.str ">") (CO 4<|BP<|AB (AA 1)<|AB (AA 0)<|AB (AJ JE<|AB (m1 Ej<|AA 3) AE) AE) A5)
 (AF (AX (Bu (m2 BS (AA 2)<|mC<|.str ">=")<|m2 BS (AA 2)<|mC<|.str "=") (CO 4<|BP<|AB (AA 1)<|AB (AA 0)<|AB (AJ Fs<|AB (m1 Ej<|AA 3) AE) AE) A5)
 (AN<|AA 4))))))
def PN:qD->Option Ru:=AW 4 5 UG
abbrev jT:=fA 2 4 RO PN
abbrev zc6:Gm:=gA RO 1 [("below",OV),("at_most",Io)] [] ["bounds"]
theorem zcc:Ck zc6 jT RO UG:={}
def Es:Nat->Str
 |0=>"<"|1=>"<="|2=>">"|3=>">="|z=>"="
def QE{w:Nat}(h:w<5):BS (.str<|Es w) (.str "<")=!(.bl<|w == 0)/\BS (.str<|Es w) (.str "<=")=!(.bl<|w == 1)/\BS (.str<|Es w) (.str ">")=!(.bl<|w == 2)/\BS (.str<|Es w) (.str ">=")=!(.bl<|w == 3)/\BS (.str<|Es w) (.str "=")=!(.bl<|w == 4):=by
 let:w=0\/w=1\/w=2\/w=3\/w=4:=by lia
 rcases this with rfl|rfl|rfl|rfl|rfl<;>show⟨?_,?_,?_,?_,?_⟩<;>ext
abbrev Am(l:Nat×Nat×Int):T:=.tup [.int (l.1:Nat),.str<|Es l.2.1,.int l.2.2]
def Look(m:Nat)(l:Nat×Nat×Int):Prop:=0<l.1/\l.1<m+1/\l.2.1<5
abbrev LF(x:Dv.Lim):T:=.tup [.int (x.1:Nat),.int (x.2.1:Nat),.int x.2.2]
def DX:Nat×Nat×Int->List Dv.Lim
 |(p,0,n)=>[(p,0,2 * n)]|(p,1,n)=>[(p,0,2 * n+1)]|(p,2,n)=>[(0,p,2 * -n)]|(p,3,n)=>[(0,p,2 * -n+1)]|(p,z,n)=>[(p,0,2 * n+1),(0,p,2 * -n+1)]
def lb_ok{l:Nat×Nat×Int}(a:l.2.1<5):PN [.int (l.1:Nat),.int 0,.str<|Es l.2.1,.int l.2.2]=!(.ok<|.own<|(DX l).map LF):=by
 let(p,w,n):=l;let(b,c,d,e,f):=QE a
 let:w=0\/w=1\/w=2\/w=3\/w=4:=by
  let:w<5:=a;lia
 let z:((0:Nat):Int)=(0:Int):=rfl;unfold PN UG;rcases this with rfl|rfl|rfl|rfl|rfl<;>(simp![b,c,d,e,f,Ot,XU,DX,z];rfl)
theorem VB{m:Nat}{l:Nat×Nat×Int}(h:Look m l):Dv.In (m+1)<|DX l:=λx b=>by
 let(p,w,n):=l;let(e,c,d):=h
 let:w=0\/w=1\/w=2\/w=3\/w=4:=by
  let:w<5:=d;lia
 let a:p<m+1:=c;rcases this with rfl|rfl|rfl|rfl|rfl<;>erw[DX,Ð,û,ý]at b
 all_goals first|(rcases b with rfl|rfl<;>show⟨by first|show a|show Ī m,by first|show a|show Ī m⟩)|(subst b;show⟨by first|show a|show Ī m,by first|show a|show Ī m⟩)
abbrev Qy:Stmt:=AK 63
def WZ:AH:=
 (DU (m2 ES (AA 0)<|AA 1) (mC<|.int 0)<|AA 0)
def WX:AH:=
 (AM (AM (AA 2)<|AA 1)<|AA 0)
def Of:AH:=
 (Az 1 [0,2] (Aj<|AA 1) (AD 0) (mC<|.bl true) WX)
def Tq:AG:=
 (AF (AV (Az 1 [1] (C9<|AB (m1 Bd<|AA 0) AE) (AD 0) (mC<|.bl true) WZ)<|AD 2)
 (AN<|Az 1 [2,0] (Aj<|AA 2) (AD 0) (mC<|.bl true) Of))
def JA:qD->Option Ru:=AW 2 3 Tq
abbrev Ve:=fA 1 2 Qy JA
abbrev zeb:Gm:=gA Qy 0 [] ["range","len"]
theorem zep:Ck zeb Ve Qy Tq:={}
abbrev oZ(n:Nat)(f:Db.Z):qD:=mT n λi=>.own<|mT n λj=>bT<|f i j
def aM{n:Nat}{f:Db.Z}{a b:Nat}{c:Db.B}:(oZ n f).set a (.own<|(mT n λj=>bT<|f a j).set b (bT c))=oZ n λi j=>if i=a/\j=b then c else f i j:=by
 unfold oZ;rw[gI,gI];show EM λi h=>?_;by_cases e:i=a;subst e;rw[if_pos rfl,EM λj g=>?_];by_cases d:j=b;simp[d];simp[d];rw[if_neg e,EM λj g=>?_];simp[e]
def Gh{n:Nat}{g:Db.Z}:BA (oZ n g)=mT n λi=>rT n<|g i:=by
 unfold oZ;rw[Fx];show EM λi a=>?_;rw[T.share,Fx];erw[Jv]
def TZ{n:Nat}{f g:Db.Z}(h:∀i j,i<n->j<n->f i j=g i j):oZ n f=oZ n g:=by
 unfold oZ;rw[EM λi a=>?_];rw[EM λj b=>?_];rw[h i j a b]
def BH(ps:kz)(i:Nat):Nat:=if i∈ps then 0 else i
abbrev nT(ps:kz):T:=.lst<|ps.map λ(p:Nat)=>T.int (p:Int)
def in_ok(i:Nat):∀ps:kz,GP (.int (i:Int)) (ps.map λ(p:Nat)=>T.int (p:Int))=true:=λps=>by
 unfold GP Em
 let c:PyData.canLayAll0 (Bs<|ps.map λ(p:Nat)=>T.int p)=true:=by
  induction ps with
  |nil=>rfl|cons a r b=>lia
 let d:FC (ps.map λ(p:Nat)=>T.int p)=true:=by
  induction ps with
  |nil=>rfl|cons a r b=>show b<|by lia
 rw[c];simp[T.data,PyData.canLay0,PyData.depth,d];rfl
def iY(i:Nat):∀ps:kz,Ij (.int (i:Int)) (ps.map λ(p:Nat)=>T.int (p:Int))=decide (i∈ps)
 |[]=>by simp[Ij,Bs]|a::r=>by
  let b:=iY i r;unfold Ij at b ⊢;erw[Ù,Bs,ĝ,b];erw[T.data,PyData.eqv];by_cases e:i=a;simp[e];simp[e,show ¬ (a:Int)=(i:Int) by lia]
def in_nT(ps:kz)(i:Nat):ES (.int (i:Int)) (nT ps)=!(.bl<|decide (i∈ps)):=by
 unfold ES nT;erw[in_ok i ps,iY i ps,Æ]
def Td(ps:kz):BA (ps.map λ(p:Nat)=>T.int (p:Int))=ps.map λ(p:Nat)=>T.int (p:Int):=by
 rw[Cw,è];rfl
def Te(ps:kz):AZ (ps.map λ(p:Nat)=>T.int (p:Int))=true:=by
 rw[Cz,Ñ];intro t a;obtain⟨p,-,rfl⟩:=Ò.mp a;rfl
def Zy{n:Nat}(o:0<n)(hn:n<=1000)(f:Db.Z)(ps:kz):JA [zT n f,nT ps]=!(.ok<|.own<|oZ n<|Dm.pbk f<|BH ps):=by
 let l1:n<=100000:=by lia
 let m:Cj (n:Int)=true:=Eh<|by lia
 let h:∀i,i<n->BH ps i<n:=λi a=>by
  unfold BH;split<;>lia
 let d:=Ce (n:=n) (me:=WZ) (x:=()) (cs:=[!(nT ps)]) (g:=λi=>.int (i:Int)) (f:=λi=>.int (BH ps i:Int)) λi a=>by
  let q:=in_nT ps i;unfold WZ;by_cases e:i∈ps;rw[Ä e]at q;rw[show BH ps i=0 from if_pos e]
  simp![q,Td,Te]
  rw[Õ e]at q;rw[show BH ps i=i from if_neg e]
  simp_all_arith [q,Td,Te]
 let b:∀i,i<n->Of [!(.int (BH ps i:Int)),!(.lst<|mT n λi=>.int (BH ps i:Int)),!(zT n f)]=!(.v (.own<|mT n λj=>bT<|Dm.pbk f (BH ps) i j) false):=λi a=>by
  let l:=Ce (n:=n) (me:=WX) (x:=()) (cs:=[!(.int (BH ps i:Int)),!(zT n f)]) (g:=λj=>.int (BH ps j:Int)) (f:=λj=>bT<|Dm.pbk f (BH ps) i j) λj k=>by
   unfold WX
   simp![C7<|h i a,C7<|h j k]
   rfl
  unfold Of
  simp_all_arith [l,l1]
 let c:=Ce (n:=n) (me:=Of) (x:=()) (cs:=[!(.lst<|mT n λi=>.int (BH ps i:Int)),!(zT n f)]) (g:=λi=>.int (BH ps i:Int)) (f:=λi=>.own<|mT n λj=>bT<|Dm.pbk f (BH ps) i j) b;unfold JA Tq
 simp![m,E1,d,l1,c,Td,Te]
abbrev Rv:Stmt:=AK 61
def Wo:AH:=
 (m1 DF<|AA 0)
def U2:AG:=
 (AN<|Az 1 [] (Aj<|AA 0) (AD 0) (mC<|.bl true) Wo)
def KG:qD->Option Ru:=AW 1 1 U2
abbrev OU:=fA 1 1 Rv KG
abbrev zh5:Gm:=gA Rv 0 [] ["list"]
theorem zho:Ck zh5 OU Rv U2:={}
def mM{n:Nat}(hn:n<=1000)(f:Db.Z):KG [zT n f]=!(.ok<|.own<|oZ n f):=by
 let a:=Ce (n:=n) (me:=Wo) (x:=()) (cs:=[]) (g:=λi=>.nd false .lst<|mT n λj=>bT<|f i j) (f:=λi=>.own<|mT n λj=>bT<|f i j) λi b=>by
  unfold Wo
  simp_all_arith []
 let l1:n<=100000:=by lia
 unfold KG U2
 simp![a,l1]
abbrev Qt:Stmt:=AK 62
def QG:AG:=
 (IQ 1 (AA 2) (mC<|.int 0)<|mC .non)
def Tj:AG:=
 (AF (Bh 1<|AJ KG<|AB (AA 0) AE)
 (AF (BV (Ih<|AB (mC<|.int 1)<|AB (m1 Bd<|AA 1) AE) (AD 2) QG)
 (AN<|AA 1)))
def Li:qD->Option Ru:=AW 1 3 Tj
abbrev Vb:=fA 2 1 Qt Li
abbrev zh0:Gm:=gA Qt 1 [("copied",OU)] ["range","len"] ["rows"]
theorem zhj:Ck zh0 Vb Qt Tj:={}
def iH{n i:Nat}(h:i<n):CY n (i:Int)=!i:=by unfold CY;simp;lia
def YG{m:Nat}(C:m<=500)(f:Db.Z):Li [zT (m+1) f]=!(.ok<|.own<|oZ (m+1)<|Dm.wtd f):=by
 let co:=mM (n:=m+1) (by lia) f
 let d:=OO (b:=AD 2) (body:=QG) (n:=m) (g:=λi=>.int<|1+(i:Int)) (Y:=[!(zT (m+1) f),!(.own<|oZ (m+1) f),()])
  (λk Y=>∃x,Y=[!(zT (m+1) f),!(.own (oZ (m+1) λi j=>if 0<i/\i<k+1/\j=0 then () else f i j)),x])
  {(),by rw[show oZ (m+1) f=oZ (m+1) (λi j=>if 0<i/\i<0+1/\j=0 then () else f i j) from TZ λi j X X=>by rw[if_neg<|by lia]]} (by
   rintro k Y hk ⟨x,rfl⟩;show{_,by simp_all_arith [],?_};let q:(1:Int)+(k:Int)=((k+1:Nat):Int):=by lia
   let v:CY (m+1) ((k+1:Nat):Int)=!(k+1):=iH<|by lia
   let u:CY (m+1) (0:Int)=!0:=iH (i:=0)<|by lia
   generalize t:(λi j=>if 0<i/\i<k+1/\j=0 then () else f i j:Db.Z)=g;let l:∀i j,g i j=if 0<i/\i<k+1/\j=0 then () else f i j:=λi j=>by rw[<- t]
   let g1:(oZ (m+1) g)[k+1]?=!(.own<|mT (m+1) λj=>bT<|g (k+1) j):=Dl<|by lia
   let st:=aM (n:=m+1) (f:=g) (a:=k+1) (b:=0) (c:=());rw[nL]at st;rw[q];show{[!(zT (m+1) f),!(.own (oZ (m+1) λi j=>if i=k+1/\j=0 then () else g i j)),!(.int ((k+1:Nat):Int))],?_,!(.int ((k+1:Nat):Int)),?_};unfold QG
   simp![v,u,g1,st]
   rw[TZ λi j X X=>?_];rw[l i j];by_cases o:i=k+1/\j=0;rw[if_pos o,if_pos<|by lia];rw[if_neg o];by_cases p:0<i/\i<k+1/\j=0;rw[if_pos p,if_pos<|by lia]
   rw[if_neg p,if_neg<|by lia])
 let(z,e,x,rfl):=d;let w:Cj ((m+1:Nat):Int)=true:=Eh<|by lia
 let y:Cj 1=true:=Eh (n:=1)<|by decide
 let r:(((m+1:Nat):Int) - 1).toNat=m:=by lia
 let s:(oZ (m+1) λi j=>if 0<i/\i<m+1/\j=0 then () else f i j)=oZ (m+1) (Dm.wtd f):=TZ λi j A B=>by
  unfold Dm.wtd;by_cases h:0<i/\j=0;rw[if_pos h,if_pos<|by lia];rw[if_neg h];rw[if_neg<|by lia]
 rw[s]at e;unfold Li Tj
 simp![co,w,y,r,ZV,e]
abbrev RK:Stmt:=AK 60
def Wa:AH:=
 (DU (m2 (BO false) (AM (AA 0)<|AA 2)<|mC .non) (AA 0)<|AJ Lj<|AB (AA 0)<|AB (AJ KI<|AB (AM (AA 0)<|AA 2)<|AB (AA 1) AE)<|AB (AM (AA 4)<|AA 3) AE)
def Kw:AG:=
 (AF (AX (BJ<|AJ KA<|AB (AM (AM (AA 0)<|AA 1)<|AA 2)<|AB (AA 3) AE) (AN<|AA 0) A5)
 (AF (AV (AJ KI<|AB (AA 3)<|AB (AM (AM (AA 0)<|AA 2)<|AA 1) AE)<|AD 4)
 (AF (AX (Bq (m2 (BO true) (AA 4)<|mC .non)<|m2 (CD λi j=>decide (i<j)) (AA 4)<|AJ Fs<|AB (mC<|.int 0) AE) (AN<|mC .non) A5)
 (AN<|Az 1 [3,1,2,0] (Aj<|AA 0) (AD 0) (mC<|.bl true) Wa))))
def JC:qD->Option Ru:=AW 4 5 Kw
abbrev jQ:=fA 3 4 RK JC
abbrev zee:Gm:=gA RK 2 [("is_wider",Vh),("added",kK),("at_most",Io),("row_over",Vd)] []
theorem zes:Ck zee jQ RK Kw:={}
def Ja(n:Nat)(f:Db.Z)(a b:Nat)(c:Int)(i:Nat):T:=match f i a with
 |none=>rT n (f i)|some z=>.own<|mT n λj=>bT<|Dv.ins f a b ↑c i j
def zgg{n:Nat}{f:Db.Z}{a b:Nat}{c:Int}(i:Nat):(Ja n f a b c i).share=rT n (Dv.ins f a b ↑c i):=by
 unfold Ja;cases e:f i a with
 |none=>
  erw[T.share,Fx,Jv];rw[EM λj g=>?_];unfold Dv.ins;rw[e];cases f i j<;>rfl
 |some d=>erw[T.share,Fx,Jv]
def zq1{n:Nat}(hn:n<=1000){f:Db.Z}(u:Db.Nar n f){a b:Nat}(ha:a<n)(hb:b<n){c:Int} :
  (Dk.leB ↑1 (Db.add (f b a) !c)=true->∃t,JC [zT n f,.int (a:Int),.int (b:Int),.int c]=!(.ok t)/\t.share=zT n (Dv.ins f a b !c)/\t.isN=false) /\
  (Dk.leB ↑1 (Db.add (f b a) !c)=false->JC [zT n f,.int (a:Int),.int (b:Int),.int c]=!(.ok .non)):=by
 let E:=YD (f a b) !c;let o:=C7 (g:=λi=>rT n<|f i) ha
 let p:=C7 (g:=λi=>rT n<|f i) hb;let s:=C7 (g:=λj=>bT<|f a j) hb;let y:=C7 (g:=λj=>bT<|f b j) ha;let l:=nR !c<|f b a;rw[Db.add_comm]at l
 by_cases k:Db.le (f a b) !c;let m:=E.1 k
 let one:Dk.leB ↑1 (Db.add (f b a) !c)=true:=by
  rw[Dk.leB_iff,<- u.diag b hb];show Db.le_trans (u.tri b b a hb hb ha)<|Db.add_mono (Db.le_refl _) k
 show{λϊ=>{zT n f,?_,?_,rfl},λh=>by rw[one]at h;cases h};unfold JC Kw;rw[XM]at m
 simp![o,s,m]
 let:zT n (Dv.ins f a b !c)=zT n f:=zib λi j A B=>Db.mn_of_le (by
  show Db.le_trans (u.tri i j a A B ha)<|Db.add_mono (Db.le_refl _) ?_;show Db.le_trans (u.tri a j b ha B hb)<|Db.add_mono k<|Db.le_refl _)
 rw[this];erw[T.share,Fx,Jv];let m:=E.2 k;rw[XM]at m l;let l1:n<=100000:=by lia
 let C:=Ce (n:=n) (me:=Wa) (x:=()) (cs:=[!(.int c),!(.int (a:Int)),!(.int (b:Int)),!(zT n f)]) (g:=λi=>rT n<|f i) (f:=λi=>Ja n f a b c i) λi A=>by
  let c1:=C7 (g:=λj=>bT<|f i j) ha;unfold Wa Ja;cases e:f i a with
  |none=>
   rw[e]at c1
   simp_all_arith [c1]
  |some d=>
   rw[e]at c1;let v:=nR ↑d !c;let D:=ZO (n:=n) l1 (f i) (f b)<|Db.bs d c
   let F:(λj=>bT<|Db.mn (f i j)<|Db.add (!(Db.bs d c))<|f b j)=λj=>bT<|Dv.ins f a b ↑c i j:=funext λj=>by
    unfold Dv.ins;rw[e,<- Db.add_assoc];rfl
   rw[F]at D;let w:KI [.int d,.int c]=!(.ok<|.int<|Db.bs d c):=v
   simp![c1,w,p,D]
 let sh:BA (mT n λi=>Ja n f a b c i)=mT n λi=>rT n<|Dv.ins f a b ↑c i:=by
  rw[Fx];show EM λi Y=>zgg i
 constructor;intro h;show{.own<|mT n λi=>Ja n f a b c i,?_,by erw[T.share,sh],rfl};unfold JC Kw;cases e:Db.add (f b a) ↑c with
 |none=>
  rw[e]at l
  simp![o,s,m,p,y,l,C,l1]
 |some r=>
  rw[e]at l h
  let z:¬ r<1:=by
   let:=Dk.leB_iff.mp h;erw[Db.le]at this;lia
  simp![o,s,m,p,y,l,Jw,z,C,l1]
 intro h;unfold JC Kw;cases e:Db.add (f b a) ↑c with
 |none=>rw[e]at h;cases h|some r=>
  rw[e]at l h
  let z:r<1:=by
   rcases ľ r 1 with q|q;show q;let:Dk.leB ↑1 ↑r=true:=Dk.leB_iff.mpr q;rw[this]at h;cases h
  simp![o,s,m,p,y,l,Jw,z]
abbrev RN:Stmt:=AK 59
def JP:AG:=
 (AF (AV (AJ JC<|AB (AA 2)<|AB (AA 6)<|AB (AA 7)<|AB (AA 8) AE)<|AD 2)
 (AX (m2 (BO false) (AA 2)<|mC .non) (AN<|mC .non) A5))
def MP:AG:=
 (BV (Aj<|AJ PN<|AB (AA 3)<|AB (mC<|.int 0)<|AB (AA 4)<|AB (AA 5) AE) (Al 3<|AI (AD 6)<|AI (AD 7)<|AI (AD 8) An) JP)
def N3:AG:=
 (AF (AV (AJ KG<|AB (AA 0) AE)<|AD 2)
 (AF (BV (Aj<|AA 1) (Al 3<|AI (AD 3)<|AI (AD 4)<|AI (AD 5) An) MP)
 (AN<|AA 2)))
def Dg:qD->Option Ru:=AW 2 9 N3
abbrev Im:=fA 4 2 RN Dg
abbrev zr6:Gm:=gA RN 3 [("copied",OU),("look_bounds",jT),("narrowed",jQ)] []
theorem zrk:Ck zr6 Im RN N3:={}
def fP{n:Nat}(hn:n<=1000){a0 a1 a3 a4 a5:q9}:∀(B:List Dv.Lim),Dv.In n B->∀(f:Db.Z),Db.Nar n f->∀x y z:q9,
  (∀h,Dk.met B f=!h->∃x' y' z',BC (Al 3<|AI (AD 6)<|AI (AD 7)<|AI (AD 8) An) JP (B.map LF) [a0,a1,!(zT n f),a3,a4,a5,x,y,z]=!(.nx [a0,a1,!(zT n h),a3,a4,a5,x',y',z'])) /\
  (Dk.met B f=()->BC (Al 3<|AI (AD 6)<|AI (AD 7)<|AI (AD 8) An) JP (B.map LF) [a0,a1,!(zT n f),a3,a4,a5,x,y,z]=!(.rt .non))
 |[],w,f,v,x,y,z=>{λh e=>by
   cases e;show{(x),y,z,rfl},λe=>by cases e}
 |b::B,a,f,d,x,y,z=>by
  have hb:=a b (Î ..);let(o,n2):=zq1 hn d hb.1 hb.2 (c:=b.2.2);unfold Dk.met;rw[Ù];unfold BC;cases q:Dk.leB ↑1 (Db.add (f b.2.1 b.1) !b.2.2) with
  |false=>
   show{λh e=>(by cases e),λϊ=>?_};have n2:=n2 q;unfold JP
   simp![n2]
  |true=>
   let(t,g,i,p):=o q;erw[Æ];let(l,m):=fP hn (a0:=a0) (a1:=a1) (a3:=a3) (a4:=a4) (a5:=a5) B (λy j=>a y<|Ë _ j) _ (Dv.ins_nar d hb.1 hb.2<|Dk.leB_iff.mp q) (!(.int (b.1:Nat))) (!(.int (b.2.1:Nat)))<|!(.int b.2.2)
   have st:JP [a0,a1,!(zT n f),a3,a4,a5,!(.int (b.1:Nat)),!(.int (b.2.1:Nat)),!(.int b.2.2)]=!(.nx [a0,a1,!(zT n<|Dv.ins f b.1 b.2.1 !b.2.2),a3,a4,a5,!(.int (b.1:Nat)),!(.int (b.2.1:Nat)),!(.int b.2.2)]):=by
    unfold JP
    simp![g,i]
   show{λh e=>?_,λe=>?_};let(x',y',z',k):=l h e;show{x',y',z',by simp![st];show k};have k:=m e
   simp![st]
   show k
def FH(l:Nat->Nat×Nat×Int):Nat->List Dv.Lim
 |0=>[]|k+1=>FH l k++DX (l k)
def m6{m:Nat}{l:Nat->Nat×Nat×Int}:∀{K:Nat},(∀k,k<K->Look m (l k))->Dv.In (m+1) (FH l K)
 |0,z=>λx a=>by cases a|K+1,h=>λx a=>by
  rcases Ú.mp a with b|b;show m6 (λk hk=>h k<|by lia) x b;show VB (h K<|by lia) x b
def fZ{l:Nat->Nat×Nat×Int}{f:Db.Z}{i:Nat}(h:Dk.met (FH l i) f=()):∀K,i<=K->Dk.met (FH l K) f=()
 |0,e=>by
  let:i=0:=by lia
  subst this;show h
 |K+1,e=>by
  by_cases q:i=K+1;subst q;show h;show(?_:Dk.met (FH l K++DX (l K)) f=());rw[Dk.met_app,fZ h K<|by lia];rfl
def mt_ok{m K:Nat}(O:m<=500){f:Db.Z}(B:Db.Nar (m+1) f){l:Nat->Nat×Nat×Int}(hl:∀k,k<K->Look m (l k)) :
  (∀h,Dk.met (FH l K) f=!h->Dg [zT (m+1) f,.lst<|mT K λk=>Am<|l k]=!(.ok<|zT (m+1) h))/\(Dk.met (FH l K) f=()->Dg [zT (m+1) f,.lst<|mT K λk=>Am<|l k]=!(.ok .non)):=by
 let co:=mM (n:=m+1) (by lia) f
 let o:=Jp (b:=Al 3<|AI (AD 3)<|AI (AD 4)<|AI (AD 5) An) (body:=MP) (n:=K) (g:=λk=>Am<|l k) (Y:=[!(zT (m+1) f),!(.lst<|mT K λk=>Am<|l k),!(zT (m+1) f),(),(),(),(),(),()])
  (λk=>Dk.met (FH l<|k+1) f≠()) .non
  (λk Y=>∃h w y z s u v,Dk.met (FH l k) f=!h/\Y=[!(zT (m+1) f),!(.lst<|mT K λk=>Am<|l k),!(zT (m+1) h),w,y,z,s,u,v])
  {(f),(),(),(),(),(),(),rfl,rfl} (by
   rintro k Y hk - ⟨h,w,y,z,s,u,v,d,rfl⟩;show{_,by simp_all_arith [],?_};let j:=hl k hk;let H:=((Dk.met_ok (n:=m+1) _ f B<|m6 λi C=>hl i<|by lia).1 h d).1
   let lb:=lb_ok (l:=l k) j.2.2;let(E,F):=fP (n:=m+1) (by lia) (a0:=!(zT (m+1) f)) (a1:=!(.lst<|mT K λk=>Am<|l k)) (a3:=!(.int ((l k).1:Nat))) (a4:=!(.str<|Es (l k).2.1)) (a5:=!(.int (l k).2.2)) (DX<|l k) (VB j) h H s u v
   let A:Dk.met (FH l<|k+1) f=Dk.met (DX<|l k) h:=by
    show(show Dk.met (FH l k++DX (l k)) f=_ from ?_);rw[Dk.met_app,d];rfl
   let sh:BA ((DX<|l k).map LF)=(DX<|l k).map LF:=by
    rw[Cw,è];show Ć λx x=>rfl
   rw[A];cases q:Dk.met (DX<|l k) h with
   |none=>
    show .inr {λc=>c rfl,?_};unfold MP
    simp![lb,sh]
    show F q
   |some r=>
    let(J,L,M,G):=E r q;show .inl {(by intro c;cases c),_,.inl ?_,r,!(.int ((l k).1:Nat)),!(.str<|Es (l k).2.1),!(.int (l k).2.2),J,L,M,rfl,rfl};unfold MP
    simp![lb,sh]
    show G)
 let p:BA (mT K λk=>Am<|l k)=mT K λk=>Am<|l k:=by
  rw[Fx];rfl
 let shr:AZ (mT K λk=>Am<|l k)=true:=by
  rw[Cz,Ñ];intro t D;obtain⟨i,-,rfl⟩:=Uw D;rfl
 rcases o with ⟨-,N,e,h,w,y,z,s,u,v,d,rfl⟩|⟨⟨i,C,I⟩,e⟩;show{λr a=>?_,λa=>by rw[d]at a;cases a};rw[d]at a;cases a;unfold Dg N3
 simp![co,p,shr,e]
 let no:=fZ (Classical.not_not.mp I) K<|by lia
 show{λr a=>(by rw[no]at a;cases a),λϊ=>?_};unfold Dg N3
 simp![co,p,shr,e]
abbrev RG:Stmt:=AK 74
def W5:AH:=
 (BY A7 Aa JH (AA 1)<|AB (AA 0) AE)
def Tz:AG:=
 (AN<|Az 1 [0] (Aj<|BY Bg Bm Po (AA 1) AE) (AD 0) (mC<|.bl true) W5)
def PK:qD->Option Ru:=AW 2 2 Tz
abbrev jN:=fA 2 2 RG PK
abbrev zb3:Gx:={ Bb with mt:=[("sets",Bg,Bm,k9),("watch_number",A7,Aa,O0)] }
abbrev zb7:Gm:=gA RG 1 [] [] (ox:=zb3)
theorem zbc:Ck zb7 jN RG Tz:={}
def BB(ws ns:kq):kz:=ns.map λx=>(CB ws x).getD 0+1
abbrev EB(l:kz):qD:=l.map λp:Nat=>T.int (p:Int)
def NW(l:kz):AZ (EB l)=true:=CN λϊ z=>rfl
def np_ok{M:Mc}(h:McOk M){d:Dr}(hd:d∈M.ds):PK [Av M,BU d]=!(.ok<|.own<|EB<|BB M.ws d.n):=by
 let D:=h.d d hd;let f:=D.g.sh;let c:=GJ h;let a:=zn1 f
 let l:=DW (b:=AD 0) (me:=W5) T.str (λx=>.int ((CB M.ws x).getD 0+1:Nat)) (λY=>∃x,Y=[x,!(Av M)]) d.n [(),!(Av M)] {(()),rfl} λx k Y i=>by
  let(y,rfl):=i;let(j,e,_):=Gv<|D.n x k;let en:JH [Av M,.str x]=!(.ok<|.int<|j+1):=fT h e;show{[!(.str x),!(Av M)],by simp_all_arith [],?_,_,rfl}
  unfold W5;rw[e]
  simp_all_arith [-Aw,GK,c,Ak _ c,en,ś,Int.natCast_add]
 let g:EB (BB M.ws d.n)=d.n.map λx=>.int ((CB M.ws x).getD 0+1:Nat):=by
  unfold EB BB;simp_all
 let nl:d.n.length<=100000:=by let:=D.nl;lia
 rw[g];unfold PK Tz
 simp![c,a,f,BE,B8,À,nl,l]
def oT(n:Nat):Option Db.Z->T
 |none=>.non|some f=>zT n f
def EI(n:Nat)(o:Option Db.Z):(oT n o).sh=true:=by
 cases o with
 |none=>rfl|some f=>show Bv n f
def Gi(n:Nat)(o:Option Db.Z)(b:Bool):BO b (oT n o) .non=!(.bl<|b != o.isNone):=by
 cases o<;>cases b<;>rfl
def BX(L:List<|Nat×Nat×Int)(f:Db.Z):Option Db.Z:=Dk.met (L.flatMap DX) f
def m7{d:Nat×Nat×Int}{L:List<|Nat×Nat×Int}:∀K,K<=L.length->FH (λk=>L.getD k d) K=(L.take K).flatMap DX
 |0,z=>by rw[Ş];rfl|K+1,h=>by
  let a:K<L.length:=h;show(show FH _ K++DX (L.getD K d)=_ from ?_);rw[m7 K (by lia),į a,List.flatMap_append,â,Á a]
  simp
abbrev EX(m:Nat)(L:List<|Nat×Nat×Int):Prop:=∀l∈L,Look m l
theorem LC{m:Nat}{L:List<|Nat×Nat×Int}(b:EX m L):Dv.In (m+1)<|L.flatMap DX:=λx a=>by
 let(l,hl,a):=Ξ.mp a;show VB (b l hl) x a
def Ha{m:Nat}(d:m<=500){f:Db.Z}(c:Db.Nar (m+1) f){L:List<|Nat×Nat×Int}(b:EX m L):Dg [zT (m+1) f,.lst<|L.map Am]=!(.ok<|oT (m+1)<|BX L f):=by
 let h:=mt_ok (K:=L.length) d c (l:=λk=>L.getD k (0,0,0)) λk hk=>by
  rw[â,Á hk];show b _<|ë hk
 rw[m7 _<|Ã _,ă]at h
 let e:(mT L.length λk=>Am<|L.getD k (0,0,0))=L.map Am:=Eq.symm (Ek (À _) λi a=>by
  rw[É,Á a,â,Á a]
  rfl)
 rw[e]at h;unfold BX;cases q:Dk.met (L.flatMap DX) f with
 |none=>show h.2 q|some g=>show h.1 g q
theorem NX{m:Nat}{f:Db.Z}(b:Db.Nar (m+1) f){L:List<|Nat×Nat×Int}(a:EX m L){g:Db.Z}(e:BX L f=!g):Db.Nar (m+1) g:=((Dk.met_ok _ f b<|LC a).1 g e).1
open Classical in
def Dj(n:Nat)(f:Db.Z):Option Db.Z:=if Db.Sound n f then ↑(Db.fw f n) else ()
def fE{n:Nat}(hn:n<=100000)(f:Db.Z):GY [zT n f]=!(.ok<|oT n<|Dj n f):=by
 let(a,b):=T5 hn f;unfold Dj;split;show a ‹_›;show b ‹_›
def fF{n:Nat}{f g:Db.Z}(e:Dj n f=!g):Db.Nar n g:=by
 unfold Dj at e;split at e;cases e;show Db.nar ‹_›;cases e
open Classical in
def Eb(n:Nat)(f g:Db.Z):Bool:=decide (∀i j,i<n->j<n->Db.le (f i j) (g i j))
open Classical in
def YC{n:Nat}(f g:Db.Z):Hx [zT n f,zT n g]=!(.ok<|.bl<|Eb n f g):=by
 let(a,b):=wi_ok (n:=n) f g;unfold Eb;by_cases h:∀i j,i<n->j<n->Db.le (f i j) (g i j);rw[Ä h];show a h;rw[Õ h];show b h
def EC(L:List<|Nat×Nat×Int):AZ (L.map Am)=true:=CN λϊ z=>rfl
def Er(y:Str):Nat:=if y=Str.ofString "<" then 0 else if y=Str.ofString "<=" then 1 else if y=Str.ofString ">" then 2 else if y=Str.ofString ">=" then 3 else 4
def QB:∀y∈CZ,Es (Er y)=y/\Er y<5:=by decide +kernel
def Bc(ws:kq)(t:T):Nat×Nat×Int:=((CB ws<|DE t).getD 0+1,Er<|Cd t,Bl t)
def NB{ws:kq}{l:qD}(h:Ci ws CZ l):l.map (Bp ws)=(l.map<|Bc ws).map Am:=by
 rw[è];show Ć λt a=>?_;let(c,d,b,e):=Ic<|h t a;show(?_:Bp ws t=Am (Bc ws t));unfold Bp Bc;rw[show Am ((CB ws<|DE t).getD 0+1,Er<|Cd t,Bl t)=.tup [.int (((CB ws<|DE t).getD 0+1:Nat):Int),.str<|Es<|Er<|Cd t,.int<|Bl t] from rfl,(QB _ b).1,Int.natCast_add]
 rfl
theorem J6{ws:kq}{l:qD}(h:Ci ws CZ l):EX ws.length<|l.map<|Bc ws:=λx c=>by
 let(t,b,rfl):=Ò.mp c;let(g,d,e,i):=Ic<|h t b;let(j,a,f,_):=Gv d;show{Ī _,?_,(QB _ e).2};show(show (CB ws<|DE t).getD 0+1<_ from ?_);rw[a,ś]
 lia
theorem Ci.wd{ws:kq}{l:qD}(h:Ci ws FN l):Ci ws CZ l:=λt c=>by
 let(x,y,n,e,a,d,b):=h t c;show{x,y,n,e,a,?_,b};revert y;let:∀y∈FN,y∈CZ:=by decide +kernel
 show λy z h=>this y h
def lJ{α:Type}{x:Str}{v:α}:∀{rs:List<|Str×α},(rs.map (·.1)).Nodup->(x,v)∈rs->rs.find? (λq=>decide (q.1=x))=!(x,v)
 |[],y,h=>by cases h|a::l,nd,h=>by
  rw[Ù,ĩ]at nd;rcases Ð.mp h with rfl|h;rw[List.find?_cons_of_pos<|by simp];rw[List.find?_cons_of_neg λz=>nd.1 ?_];show lJ nd.2 h;rw[Ü z];show Ò.mpr {_,h,rfl}
def Au(ws:kq)(rs:List<|Str×qD)(x:Str):List<|Nat×Nat×Int:=(((rs.find? λq=>decide (q.1=x)).map (·.2)).getD []).map (Bc ws)
def Qm{ws:kq}{rs:List<|Str×qD}(nd:(rs.map (·.1)).Nodup){r:Str×qD}(h:r∈rs):Au ws rs r.1=r.2.map (Bc ws):=by
 unfold Au;rw[lJ (v:=r.2) nd h];rfl
def JZ{M:Mc}(h:McOk M)(x:Str):EX ↥M<|Au M.ws M.rs x:=by
 unfold Au;cases e:M.rs.find? λq=>decide (q.1=x) with
 |none=>show λl hl=>by cases hl|some r=>show J6 (h.r.lk r<|Ŭ e).1.wd
abbrev Qz:Stmt:=AK 73
def QI:AG:=
 (Gc 1 (AA 2)<|AJ GX<|AB (AA 0)<|AB (BY A7 Aa KL (AA 0)<|AB (AA 2) AE) AE)
def Tr:AG:=
 (AF (Bh 1 GL)
 (AF (BV (Aj<|BY A7 Aa E9 (AA 0) AE) (AD 2) QI)
 (AN<|AA 1)))
def Lk:qD->Option Ru:=AW 1 3 Tr
abbrev Vf:=fA 6 1 Qz Lk
abbrev zbk:Gx:={ Bb with mt:=[("rooms",A7,Aa,Hn),("stay",A7,Aa,Vu)] }
abbrev zbo:Gm:=gA Qz 5 [("placed",LX)] [] ["stays"] (ox:=zbk) (dc:=["stays"])
theorem zbv:Ck zbo Vf Qz Tr:={}
def Zn{M:Mc}(h:McOk M):Lk [Av M]=!(.ok<|.osd M.nm<|M.nm.map λx=>.own<|(Au M.ws M.rs x).map Am):=by
 let f:=GJ h;let nd:M.nm.Nodup:=h.r.nd;let l64:=h.r.l64;let r:M.nm.length=M.rs.length:=À _;let m:E9 [Av M]=!(.ok<|.own<|M.nm.map T.str):=Ia h
 let(Y,e,y,rfl):=DI (b:=AD 2) (body:=QI) (ts:=M.nm.map T.str) (Y:=[!(Av M),!(.osd [] []),()]) (λi Y=>∃y,Y=[!(Av M),!(.osd (M.nm.take i)<|(M.nm.take i).map λx=>.own<|(Au M.ws M.rs x).map Am),y]) {(()),rfl} λi t Y a k=>by
  let(y,rfl):=k;let d:i<M.nm.length:=by simpa using (Ê.mp a).1
  let hr:i<M.rs.length:=by lia
  rw[É,Á d]at a;let g:=(Þ a).symm;subst g;let en:M.nm[i]=M.rs[i].1:=Ĺ _;let lk:=h.r.lk _<|ë hr
  let ms:KL [Av M,.str M.nm[i]]=!(.ok<|.own M.rs[i].2):=by
   rw[en];show fR h hr
  let o:GX [Av M,.lst M.rs[i].2]=!(.ok<|.own<|(Au M.ws M.rs M.nm[i]).map Am):=by
   rw[en,Qm nd<|ë hr,<- NB lk.1.wd];show Kl h lk.1.wd (λϊ h=>h) lk.2
  let n:M.nm[i]∉M.nm.take i:=λz=>by
   let(j,q,e):=ŭ.mp z;let:=(ñ nd).mp e
   lia
  let c:(M.nm.take i).length<100000:=by rw[î];lia
  let sr:=lk.1.sh;show{[!(Av M),!(.osd (M.nm.take i)<|(M.nm.take i).map λx=>.own<|(Au M.ws M.rs x).map Am),!(.str M.nm[i])],by simp_all_arith [],[!(Av M),!(.osd (M.nm.take i++[M.nm[i]])<|(M.nm.take i).map (λx=>.own<|(Au M.ws M.rs x).map Am)++[.own<|(Au M.ws M.rs M.nm[i]).map Am]),!(.str M.nm[i])],?_,!(.str M.nm[i]),?_};unfold QI;let p:=EC<|Au M.ws M.rs M.nm[i];change (Au M.ws M.rs M.nm[i]).map Am=LK;change M.rs[i].2=RS;change ((M.nm.take i).map λx=>T.own<|(Au M.ws M.rs x).map Am)=V
  change M.nm[i]=x;change M.nm.take i=l
  simp![-Aw,GK,f,ms,sr,o,p,Ā,ā,n,c,Χ]
  rw[į d,à];rfl
 rw[À,ă]at e;let l1:M.nm.length<=100000:=by lia
 change (M.nm.map λx=>T.own<|(Au M.ws M.rs x).map Am)=V;unfold Lk Tr
 simp![-Aw,GK,f,m,B8,BE,À,l1,e]
abbrev Rt:Stmt:=AK 75
def QP:AG:=
 (Gc 1 (AA 2)<|BQ AE)
def MU:AG:=
 (AX (m2 BS (AU Bg Bm 4<|AA 4)<|mC<|.str "") (AF (AV (BP<|AB (AA 3)<|AB (AU Bg Bm 1<|AA 4)<|AB (AJ GX<|AB (AA 0)<|AB (BY Bg Bm KQ (AA 4) AE) AE)<|AB (AJ PK<|AB (AA 0)<|AB (AA 4) AE) AE)<|AD 5)
 (Kf 1 (AU Bg Bm 0<|AA 4)<|AA 5)) A5)
def U1:AG:=
 (AF (Bh 1 GL)
 (AF (BV (Aj<|BY A7 Aa E9 (AA 0) AE) (AD 2) QP)
 (AF (BV (Cf<|AB (BY A7 Aa KN (AA 0) AE) AE) (Al 2<|AI (AD 3)<|AI (AD 4) An) MU)
 (AN<|AA 1))))
def Ly:qD->Option Ru:=AW 1 6 U1
abbrev Vo:=fA 6 1 Rt Ly
abbrev zd2:Gx:={ Bb with cl:=[("Door",Bg,Bm)],mt:=[("rooms",A7,Aa,Hn),("doors",A7,Aa,Vw),("asks",Bg,Bm,WC)] }
abbrev zdf:Gm:=gA Rt 5 [("placed",LX),("nought_places",jN)] ["enumerate"] ["told"] (ox:=zd2) (dc:=["told"])
theorem zdt:Ck zdf Vo Rt U1:={}
abbrev gK(ws:kq)(d:Dr):List<|Nat×Nat×Int:=d.g.map<|Bc ws
def CH(ws:kq)(p:Nat×Dr):T:=.tup [.int (p.1:Nat),.str p.2.e,.lst<|(gK ws p.2).map Am,.lst<|EB<|BB ws p.2.n]
def B0(x:Str):Nat->qA->List (Nat×Dr)
 |y,[]=>[]|k,d::l=>(if d.z=Str.ofString ""/\d.s=x then [(k,d)] else [])++B0 x (k+1) l
def Xy(x:Str)(b:qA):∀(a:qA) (k:Nat),B0 x k (a++b)=B0 x k a++B0 x (k+a.length) b
 |[],k=>rfl|d::a,k=>by
  rw[ŏ];unfold B0;rw[Xy x b a<|k+1,ð,show k+1+a.length=k+(d::a).length by rw[ï];lia];cases b<;>rfl
def MJ{x:Str}{p:Nat×Dr}:∀{l:qA} {k:Nat},p∈B0 x k l->p.2∈l
 |[],z,h=>by cases h|d::l,k,h=>by
  unfold B0 at h;rcases Ú.mp h with h|h;split at h;rw[Ì.mp h];show .head _;cases h;show .tail _<|MJ h
def ML(x:Str):∀(l:qA) (k:Nat),(B0 x k l).length<=l.length
 |[],z=>Ã _|d::l,k=>by
  unfold B0;rw[ß,ï];let:=ML x l<|k+1;split<;>simp<;>lia
def JO(ws:kq)(p:Nat×Dr):(CH ws p).sh=true:=by
 let a:=NW<|BB ws p.2.n;let b:=EC<|gK ws p.2;unfold CH;change EB (BB ws p.2.n)=A;change (gK ws p.2).map Am=B
 simp![a,b]
def zl1{s:Str}{A:Str->qD}{w:T}{l:kq}{j:Nat}{hj:j<l.length}(a:l[j]=s)(nd:l.Nodup):(l.map λx=>T.own<|A x).set j (.own<|A s++[w])=l.map λx=>.own (A x++if s=x then [w] else []):=by
 show List.ext_getElem (by simp) λi b c=>?_;rw[Ĺ];by_cases q:i=j;subst q;rw[List.getElem_set_self,if_pos a.symm,a];rw[List.getElem_set_ne<|Í q,Ĺ,if_neg λz=>q<|(ñ nd).mp (z.symm.trans a.symm),ê]
def zn2(d:Dr):Aw Bg Bm (BU d)=![.str d.s,.str d.e,.lst d.g,.lst<|d.n.map T.str,.str d.z]:=(show Aw Bg Bm (BU d)=(if Bg=Bg/\Bm=Bm then ↑[.str d.s,.str d.e,.lst d.g,.lst<|d.n.map T.str,.str d.z] else ()) from rfl).trans (if_pos {(rfl),rfl})
def Bx(M:Mc)(i:Nat):qD:=M.nm.map λx=>.own<|(B0 x 0<|M.ds.take i).map (CH M.ws)
def zic{M:Mc}{i:Nat}(a:i<M.ds.length):Bx M (i+1)=M.nm.map λx=>.own ((B0 x 0<|M.ds.take i).map (CH M.ws)++if M.ds[i].z=Str.ofString ""/\M.ds[i].s=x then [CH M.ws (i,M.ds[i])] else []):=by
 unfold Bx;show Ć λx y=>?_;rw[į a,Xy,à,î,Nat.min_eq_left<|by lia]
 congr 2
 unfold B0;split;unfold B0;rw[Nat.zero_add];rfl;rfl
def l9{M:Mc}(h:McOk M):Ly [Av M]=!(.ok<|.osd M.nm<|Bx M M.ds.length):=by
 let s:=GJ h;let nd:M.nm.Nodup:=h.r.nd;let l64:=h.r.l64;let dl:=h.dl;let U:M.nm.length=M.rs.length:=À _;let K:E9 [Av M]=!(.ok<|.own<|M.nm.map T.str):=Ia h;let md:KN [Av M]=!(.ok<|.own<|M.ds.map BU):=f7 h;let sd:=h.sd
 let(Y,e,y,rfl):=DI (b:=AD 2) (body:=QP) (ts:=M.nm.map T.str) (Y:=[!(Av M),!(.osd [] []),(),(),(),()]) (λi Y=>∃y,Y=[!(Av M),!(.osd (M.nm.take i)<|(M.nm.take i).map λϊ=>.own []),y,(),(),()]) {(()),rfl} λi t Y c p=>by
  let(y,rfl):=p;let d:i<M.nm.length:=by simpa using (Ê.mp c).1
  rw[É,Á d]at c;let o:=(Þ c).symm;subst o
  let O:M.nm[i]∉M.nm.take i:=λz=>by
   let(j,g,e):=ŭ.mp z;let:=(ñ nd).mp e
   lia
  let lk:(M.nm.take i).length<100000:=by rw[î];lia
  show{[!(Av M),!(.osd (M.nm.take i)<|(M.nm.take i).map λϊ=>.own []),!(.str M.nm[i]),(),(),()],by simp_all_arith [],[!(Av M),!(.osd (M.nm.take i++[M.nm[i]])<|(M.nm.take i).map (λϊ=>.own [])++[.own []]),!(.str M.nm[i]),(),(),()],?_,!(.str M.nm[i]),?_};unfold QP;change M.nm[i]=x;change M.nm.take i=l
  simp![Ā,ā,O,lk,Χ]
  rw[į d,à];rfl
 rw[À,ă,show(M.nm.map λϊ=>T.own [])=Bx M 0 by unfold Bx;rw[Ş];rfl]at e;let l1:M.nm.length<=100000:=by lia
 let S:M.ds.length<=100000:=by lia
 let(Y,B,k,m,f,rfl):=DI (b:=Al 2<|AI (AD 3)<|AI (AD 4) An) (body:=MU) (ts:=En 0<|M.ds.map BU) (Y:=[!(Av M),!(.osd M.nm<|Bx M 0),y,(),(),()]) (λi Y=>∃k m f,Y=[!(Av M),!(.osd M.nm<|Bx M i),y,k,m,f]) {_,_,_,rfl} λi t Y c p=>by
  let(k,m,f,rfl):=p
  let d:i<M.ds.length:=by
   let:=(Ê.mp c).1;rw[O3,À]at this;show this
  let hd:=ë d;rw[WG _ 0 i (BU M.ds[i]) (by rw[É,Á d];rfl),Nat.zero_add]at c;let o:=(Þ c).symm;subst o;let ws:=zic d;let D:=h.d _ hd;let a:(BU M.ds[i]).sh=true:=Jq D;let r:AZ M.ds[i].g=true:=D.g.sh
  let Q:GX [Av M,.lst M.ds[i].g]=!(.ok<|.own<|(gK M.ws M.ds[i]).map Am):=by
   unfold gK;rw[<- NB D.g];show Kl h D.g (λϊ h=>h) D.gl
  let P:=np_ok h hd;let H:KQ [BU M.ds[i]]=!(.ok<|.own M.ds[i].g):=mG r;let(j,I,g,v):=Gv (ws:=M.nm) (x:=M.ds[i].s) D.s;let n:BS (.str M.ds[i].z) (.str "")=!(.bl<|decide (M.ds[i].z=Str.ofString "")):=Fe (Mm D.z) lX;let u:=zn2 M.ds[i]
  let F:Al 2 (AI (AD 3)<|AI (AD 4) An) (.tup [.int (i:Nat),BU M.ds[i]]) [!(Av M),!(.osd M.nm<|Bx M i),y,k,m,f]=![!(Av M),!(.osd M.nm<|Bx M i),y,!(.int (i:Nat)),!(BU M.ds[i]),f]:=by
   change BU M.ds[i]=DD
   simp_all_arith [a,Ak _ a]
  show{_,F,?_};by_cases z:M.ds[i].z=Str.ofString "";rw[Ä z]at n
  let ow:HW (Bx M i) j=!((B0 M.ds[i].s 0<|M.ds.take i).map (CH M.ws)):=by
   unfold HW Bx;rw[É,Á g,v];rfl
  let J:((B0 M.ds[i].s 0<|M.ds.take i).map (CH M.ws)).length<100000:=by
   let:=ML M.ds[i].s (M.ds.take i) 0;rw[î]at this;rw[À];lia
  let R:=zl1 (A:=λx=>(B0 x 0<|M.ds.take i).map (CH M.ws)) (w:=CH M.ws (i,M.ds[i])) (hj:=g) v nd
  let ws:Bx M (i+1)=(Bx M i).set j (.own<|(B0 M.ds[i].s 0<|M.ds.take i).map (CH M.ws)++[CH M.ws (i,M.ds[i])]):=by
   rw[ws];unfold Bx;show(Ć λx Z=>?_).trans R.symm;erw[eq_true z,true_and]
  let E:=NW<|BB M.ws M.ds[i].n;let C:=EC<|gK M.ws M.ds[i];show{[!(Av M),!(.osd M.nm<|Bx M<|i+1),y,!(.int (i:Nat)),!(BU M.ds[i]),!(CH M.ws (i,M.ds[i]))],?_,_,_,_,rfl};rw[ws];change (B0 M.ds[i].s 0<|M.ds.take i).map (CH M.ws)=WL;unfold CH;unfold MU;simp only at *;change EB (BB M.ws M.ds[i].n)=N;change (gK M.ws M.ds[i]).map Am=G;change BU M.ds[i]=DD;change M.ds[i].g=DG;change Bx M i=L
  simp_all_arith [-Aw,-HW,GK,u,s,Ak _ s,a,Ak _ a,n,H,r,A8 _ r,Q,P,E,A8 _ E,C,A8 _ C,I,ow,J,Ā,ā]
  rw[Õ z]at n
  let ws:Bx M (i+1)=Bx M i:=by
   rw[ws];unfold Bx;show Ć λx Z=>?_;rw[if_neg<|λq=>z q.1,ê]
  show{[!(Av M),!(.osd M.nm<|Bx M i),y,!(.int (i:Nat)),!(BU M.ds[i]),f],?_,_,_,_,by rw[ws]};unfold MU;change BU M.ds[i]=DD;change Bx M i=L
  simp_all_arith [-Aw,u,a,Ak _ a,n]
 rw[O3,À]at B;change Bx M M.ds.length=L2;change Bx M 0=L0;unfold Ly U1;change M.ds.map BU=DS
 simp![-Aw,GK,s,K,md,B8,BE,sd,À,l1,e,Cf,B]
abbrev Qu:Stmt:=AK 12
def Tn:AG:=
 (AN<|m2 (CD λi j=>decide (i<j)) (m2 Bi (AM (AA 0)<|mC<|.int 0)<|AM (AA 1)<|mC<|.int 1)<|m2 Bi (AM (AA 1)<|mC<|.int 0)<|AM (AA 0)<|mC<|.int 1)
def Iz:qD->Option Ru:=AW 2 2 Tn
abbrev Vc:=fA 1 2 Qu Iz
abbrev zjo:Gm:=gA Qu 0 [] []
theorem zk3:Ck zjo Vc Qu Tn:={}
def M4{a b c d:Int}(e:B9 a d=true)(f:B9 c b=true):Iz [fr a b,fr c d]=!(.ok<|.bl<|decide (a * d<c * b)):=by
 unfold Iz Tn
 simp![e,f]
abbrev Ri:Stmt:=AK 9
def JV:AH:=
 (m2 Cm (AA 3)<|mC<|.int 0)
def QO:AG:=
 (AF (AV (m2 Ba (AA 2)<|AA 3)<|AD 4)
 (AF (AV (AA 3)<|AD 2)
 (AV (AA 4)<|AD 3)))
def UT:AG:=
 (AF (AV (m1 Hw<|AA 0)<|AD 2)
 (AF (AV (m1 Hw<|AA 1)<|AD 3)
 (AF (Ec JV QO)
 (AN<|AA 2))))
def PZ:qD->Option Ru:=AW 2 5 UT
abbrev j7:=fA 1 2 Ri PZ
abbrev zac:Gm:=gA Ri 0 [] ["abs"]
theorem zag:Ck zac j7 Ri UT:={}
def gd_ok(a b:Int):PZ [.int a,.int b]=!(.ok<|.int<|Zm.gd a b):=by
 let c:=ZE (mc:=JV) (body:=QO)
  (λY=>∃(g l:Int) (r:q9),Y=[!(.int a),!(.int b),!(.int g),!(.int l),r]/\0<=g/\0<=l/\Zm.gd g l=Zm.gd a b)
  (λY=>match Y with|[z,y,x,!(.int l),w]=>l.natAbs|z=>0)
  {_,_,(),rfl,by split<;>lia,by split<;>lia,Zm.gd_abs a b} (by
   rintro Y ⟨g,l,r,rfl,n,hl,e⟩;by_cases d:l=0;right;show{false,by unfold JV;simp_all_arith [GF,d]};left;show{false,by unfold JV;simp![GF];simp[d],[!(.int a),!(.int b),!(.int l),!(.int<|g.fmod l),!(.int<|g.fmod l)],by unfold QO;simp_all_arith [d],{_,_,_,rfl,hl,?_,?_},?_};show ė g<|by lia
   show Zm.gd_turn e
   show Zm.fmod_less g d)
 let(o,k,(g,l,r,rfl,n,hl,e),j,i):=c
 let h :=by
  let m:JV [!(.int a),!(.int b),!(.int g),!(.int l),r]=!(.v (.bl<|(not (l == 0))) false):=by unfold JV;simp_all_arith [GF]
  rw[m]at i;show(by simpa using i:l=0/\j=false).1
 let f:g=Zm.gd a b:=by
  rw[<- e,h];unfold Zm.gd;rw[Int.gcd_zero_right];lia
 unfold PZ UT
 simp![k]
 rw[f]
abbrev Yx:Stmt:=AK 10
def UX:AG:=
 (AF (AX (Bu (BJ<|AJ Lq<|AB (AA 0) AE)<|BJ<|AJ Lq<|AB (AA 1) AE) (Cc "NoNumber"<|AB (mC<|.str "a fraction is made of two whole numbers") AE) A5)
 (AF (AX (m2 BS (AA 1)<|mC<|.int 0) (Cc "NoNumber"<|AB (mC<|.str "the bottom of a fraction is not 0") AE) A5)
 (AF (AV (AJ PZ<|AB (AA 0)<|AB (AA 1) AE)<|AD 2)
 (AF (AX (m2 (CD λi j=>decide (i<j)) (AA 1)<|mC<|.int 0) (AV (m1 Ej<|AA 2)<|AD 2) A5)
 (AN<|BP<|AB (m2 Co (AA 0)<|AA 2)<|AB (m2 Co (AA 1)<|AA 2) AE)))))
def P0:qD->Option Ru:=AW 2 3 UX
abbrev kA:Fn:={2,["top","bottom"],P0}
abbrev zej:Gm:=gA Yx 1 [("is_whole",Vi),("greatest_divisor",j7)] [] (ex:=["NoNumber"])
theorem zex:Ck zej kA Yx UX:={}
def fr_ok{t b:Int}(hb:0<b)(hs:b<10 ^ 70):P0 [.int t,.int b]=!(.ok<|fr (Zm.lt t b)<|Zm.lb t b):=by
 let d:0<Zm.gd t b:=Zm.gd_pos<|by lia
 let g1:Zm.gd t b<=b:=Zm.gd_le hb;let gs :=Dy (by lia)<|by lia (config:={})
 let a:(b == 0)=false:=by lia
 let c:decide (b<0)=false:=by lia
 let n2:(Zm.gd t b≠0)=True:=by lia
 unfold P0 UX
 simp![zg1,gd_ok,ET,a,c,gs,n2]
 rfl
abbrev RM:Stmt:=AK 11
def UE:AG:=
 (AN<|AJ P0<|AB (m2 FL (m2 Bi (AM (AA 0)<|mC<|.int 0)<|AM (AA 1)<|mC<|.int 1)<|m2 Bi (AM (AA 1)<|mC<|.int 0)<|AM (AA 0)<|mC<|.int 1)<|AB (m2 Bi (AM (AA 0)<|mC<|.int 1)<|AM (AA 1)<|mC<|.int 1) AE)
def Ln:qD->Option Ru:=AW 2 2 UE
abbrev jS:=fA 3 2 RM Ln
abbrev zjp:Gm:=gA RM 2 [("fraction",kA)] []
theorem zk4:Ck zjp jS RM UE:={}
def zje{a b c d:Int}(hb:0<b)(hd:0<d)(e:B9 a d=true)(f:B9 c b=true)(g:B9 b d=true)(hs:b * d<10 ^ 70):Ln [fr a b,fr c d]=!(.ok<|fr (Zm.lt (a * d - c * b)<|b * d)<|Zm.lb (a * d - c * b)<|b * d):=by
 unfold Ln UE
 simp![e,f,g,fr_ok (t:=a * d - c * b) (ŀ hb hd) hs]
abbrev RV:Stmt:=AK 20
def UH:AG:=
 (AF (AX (m2 (BO false) (AA 0)<|mC .non) (AN<|mC<|.bl true) A5)
 (AF (AV (BP<|AB (AJ JB<|AB (AA 0) AE)<|AB (mC<|.int 1) AE)<|AD 2)
 (AF (AX (AJ KD<|AB (AA 0) AE) (AN<|AJ Iz<|AB (AA 1)<|AB (AA 2) AE) A5)
 (AN<|BJ<|AJ Iz<|AB (AA 2)<|AB (AA 1) AE))))
def Lp:qD->Option Ru:=AW 2 3 UH
abbrev jX:=fA 2 2 RV Lp
abbrev zmw:Gm:=gA RV 1 [("number_of",OQ),("is_open",Vl),("under",Vc)] []
theorem zn5:Ck zmw jX RV UH:={}
def zmk{c:Db.B}{t b:Int}(g:∀x,c=!x->B9 (x / 2) b=true):Lp [bT c,fr t b]=!(.ok<|.bl<|Db.satB b c t):=by
 unfold Lp UH;cases c with
 |none=>simp_all_arith [Db.satB]|some c=>
  have m1:B9 t 1=true:=EL<|DK (by decide)<|by decide
  have m2:=g c rfl;have j:B9 (c / 2) b=true:=m2;have f:c % 2=0\/c % 2=1:=by lia
  have h:=M4 (a:=t) (b:=b) (c:=c / 2) (d:=1) m1 m2;have i:=M4 (a:=c / 2) (b:=1) (c:=t) (d:=b) m2 m1
  rcases f with e|e
  .simp![GD,VO,e,h]
   show(show _=Ru.ok (.bl<|decide (t<=c / 2 * b - 1+c % 2)) from ?_);rw[e,Ŀ]
   congr 2
   rw[decide_eq_decide];lia
  .simp![GD,VO,e,show((1:Int) == 0)=false from rfl,i]
   show(show _=Ru.ok (.bl<|decide (t<=c / 2 * b - 1+c % 2)) from ?_);rw[e,Ŀ]
   congr 2
   rw[<- decide_not,decide_eq_decide];lia
abbrev RQ:Stmt:=AK 51
def QJ:AG:=
 (AX (BJ<|AJ Lp<|AB (AA 6)<|AB (AJ Ln<|AB (AM (AA 2)<|AA 3)<|AB (AM (AA 2)<|AA 5) AE) AE) (AN<|mC<|.bl false) A5)
def MQ:AG:=
 (BV (Cf<|AB (AA 4) AE) (Al 2<|AI (AD 5)<|AI (AD 6) An) QJ)
def N4:AG:=
 (AF (AV (m2 BW (BQ<|BK (BP<|AB (mC<|.int 0)<|AB (mC<|.int 1) AE) AE)<|AA 1)<|AD 2)
 (AF (BV (Cf<|AB (AA 0) AE) (Al 2<|AI (AD 3)<|AI (AD 4) An) MQ)
 (AN<|mC<|.bl true)))
def JD:qD->Option Ru:=AW 2 7 N4
abbrev jV:=fA 4 2 RQ JD
abbrev zfc:Gm:=gA RQ 3 [("lets",jX),("minus",jS)] ["enumerate"]
theorem zfp:Ck zfc jV RQ N4:={}
structure Szv(n:Nat)(p:Nat->Int×Int)(f:Db.Z):Prop where
 pos:∀i,i<n->0<(p i).2
 mul:∀i j,i<n->j<n->B9 (p i).1 (p j).2=true/\B9 (p i).2 (p j).2=true/\(p i).2 * (p j).2<10 ^ 70
 num:∀i j c,i<n->j<n->f i j=!c->∀b,0<b->b<=(p i).2 * (p j).2->B9 (c / 2) b=true
def li_ok{m:Nat}(R:m<=1000){f:Db.Z}{v:Nat->Int×Int}(hz:Szv (m+1) (IE v) f){D:Int}{X:Nat->Int}(K:0<D)(B:∀i,i<m+1->X i * (IE v i).2=(IE v i).1 * D) :
  (Db.Lie (m+1) D X f->JD [zT (m+1) f,vT m v]=!(.ok<|.bl true))/\(¬ Db.Lie (m+1) D X f->JD [zT (m+1) f,vT m v]=!(.ok<|.bl false)):=by
 generalize L:IE v=p at *;let C:(fr 0 1)::mT m (λi=>fr (v i).1 (v i).2)=mT (m+1) λi=>fr (p i).1 (p i).2:=by rw[zkn,L]
 let r:∀i j,i<m+1->j<m+1->∃t b,Ln [fr (p i).1 (p i).2,fr (p j).1 (p j).2]=!(.ok<|fr t b)/\Lp [bT<|f i j,fr t b]=!(.ok<|.bl<|Db.satB b (f i j) t)/\(Db.sat b (f i j) t ↔ Db.sat D (f i j) (X i - X j)):=by
  intro i j d c;let u:=hz.pos i d;let A:=hz.pos j c;let s:=ŀ u A;show{_,_,zje u A (hz.mul i j d c).1 (hz.mul j i c d).1 (hz.mul i j d c).2.1 (hz.mul i j d c).2.2,zmk λx e=>hz.num i j x d c e _ (Zm.lb_pos s)<|Zm.lb_le s,?_}
  show Db.sat_scale (Zm.lb_pos s) K ?_ _;let I:=Zm.lt_mul (t:=(p i).1 * (p j).2 - (p j).1 * (p i).2)<|show(p i).2 * (p j).2≠0 by lia
  let J:=Zm.lb_mul (t:=(p i).1 * (p j).2 - (p j).1 * (p i).2)<|show(p i).2 * (p j).2≠0 by lia
  let Q:=Zm.gd_pos (a:=(p i).1 * (p j).2 - (p j).1 * (p i).2)<|show(p i).2 * (p j).2≠0 by lia
  let N:=B i d;let x2:=B j c;change Zm.lt ((p i).1 * (p j).2 - (p j).1 * (p i).2) ((p i).2 * (p j).2)=T1;change Zm.lb ((p i).1 * (p j).2 - (p j).1 * (p i).2) ((p i).2 * (p j).2)=B1;change Zm.gd ((p i).1 * (p j).2 - (p j).1 * (p i).2) ((p i).2 * (p j).2)=G;show ū (show G≠0 by lia) ?_
  rw[Û<|X i - X j,J,Û T1,ç D G,<- Û T1,I,Ł,Ł];let O:X i * ((p i).2 * (p j).2)=(p i).1 * (p j).2 * D:=by rw[<- Û,N,Û,ç D,<- Û]
  let P:X j * ((p i).2 * (p j).2)=(p j).1 * (p i).2 * D:=by rw[ç (p i).2,<- Û,x2,Û,ç D,<- Û]
  rw[O,P]
 let l1:1+m<=100000:=by lia
 let l:=Jp (b:=Al 2<|AI (AD 3)<|AI (AD 4) An) (body:=MQ) (n:=m+1) (g:=λi=>.tup [.int (i:Int),rT (m+1)<|f i]) (Y:=[!(zT (m+1) f),!(vT m v),!(vT (m+1) p),(),(),(),()]) (λi=>∀j,j<m+1->Db.sat D (f i j) (X i - X j)) (.bl false)
  (λi Y=>∃x y z w,Y=[!(zT (m+1) f),!(vT m v),!(vT (m+1) p),x,y,z,w]) {(()),(),(),(),rfl} (by
   rintro i Y d - ⟨x,y,z,w,rfl⟩;show{_,by simp_all_arith [],?_}
   let k:=Jp (b:=Al 2<|AI (AD 5)<|AI (AD 6) An) (body:=QJ) (n:=m+1) (g:=λj=>.tup [.int (j:Int),bT<|f i j]) (Y:=[!(zT (m+1) f),!(vT m v),!(vT (m+1) p),!(.int (i:Int)),!(rT (m+1)<|f i),z,w]) (λj=>Db.sat D (f i j)<|X i - X j) (.bl false)
    (λj Y=>∃z w,Y=[!(zT (m+1) f),!(vT m v),!(vT (m+1) p),!(.int (i:Int)),!(rT (m+1)<|f i),z,w]) {(z),w,rfl} (by
     rintro j Y c - ⟨z,w,rfl⟩;show{_,by simp_all_arith [],?_};let(t,b,E,o,F):=r i j d c;unfold QJ;by_cases h:Db.sat D (f i j)<|X i - X j
     left;rw[Db.satB_iff.mpr<|F.mpr h]at o;show{h,_,.inl (by simp_all_arith [C7 d,C7 c,E,o]),_,_,rfl};right
     let M:Db.satB b (f i j) t=false:=by
      cases q:Db.satB b (f i j) t with
      |false=>rfl|true=>show absurd (F.mp<|Db.satB_iff.mp q) h
     rw[M]at o;show{h,by simp_all_arith [C7 d,C7 c,E,o]})
   rcases k with ⟨h,H,e,z,w,rfl⟩|⟨⟨j,c,h⟩,e⟩;left;show{h,_,.inl ?_,!(.int (i:Int)),!(rT (m+1)<|f i),z,w,rfl};unfold MQ
   simp_all_arith [Cf,Ho,e]
   right;show{λq=>h<|q j c,?_};unfold MQ
   simp_all_arith [Cf,Ho,e])
 rcases l with ⟨h,H,e,x,y,z,w,rfl⟩|⟨⟨i,d,h⟩,e⟩;show{λϊ=>?_,λq=>absurd (λi j d c=>h i d j c) q};unfold JD N4
 simp![Cf,Ho,l1,C,e]
 show{λq=>absurd (λj c=>q i j d c) h,λϊ=>?_};unfold JD N4
 simp![Cf,Ho,l1,C,e]
abbrev Qv:Stmt:=AK 27
def To:AG:=
 (AF (AV (BP<|AB (AA 2)<|AB (mC<|.int 1) AE)<|AD 3)
 (AF (AV (AJ Iz<|AB (AA 0)<|AB (AA 3) AE)<|AD 4)
 (AF (AV (AJ Iz<|AB (AA 3)<|AB (AA 0) AE)<|AD 5)
 (AF (AX (m2 BS (AA 1)<|mC<|.str "<") (AN<|AA 4) A5)
 (AF (AX (m2 BS (AA 1)<|mC<|.str "<=") (AN<|BJ<|AA 5) A5)
 (AF (AX (m2 BS (AA 1)<|mC<|.str ">") (AN<|AA 5) A5)
 (AF (AX (m2 BS (AA 1)<|mC<|.str ">=") (AN<|BJ<|AA 4) A5)
 (AN<|Bq (BJ<|AA 4)<|BJ<|AA 5))))))))
def PD:qD->Option Ru:=AW 3 6 To
abbrev jI:=fA 2 3 Qv PD
abbrev zda:Gm:=gA Qv 1 [("under",Vc)] []
theorem zdo:Ck zda jI Qv To:={}
abbrev Rh:Stmt:=AK 58
def Wl:AH:=
 (AJ PD<|AB (AM (AA 3)<|m2 FL (AA 0)<|mC<|.int 1)<|AB (AA 1)<|AB (AA 2) AE)
def US:AG:=
 (AN<|m1 EV<|Az 3 [1] (Aj<|AA 0) (Al 3<|AI (AD 0)<|AI (AD 1)<|AI (AD 2) An) (mC<|.bl true) Wl)
def PY:qD->Option Ru:=AW 2 2 US
abbrev j6:=fA 3 2 Rh PY
abbrev zjq:Gm:=gA Rh 2 [("stands_so",jI)] ["all"]
theorem zk5:Ck zjq j6 Rh US:={}
def zB(l:Nat×Nat×Int):Bool:=match l.2.1 with
 |0=>decide (0<l.2.2)|1=>decide (0<=l.2.2)|2=>decide (l.2.2<0)|3=>decide (l.2.2<=0)|z=>decide (l.2.2=0)
def so0{w:Nat}(m:w<5)(p:Nat)(n:Int):PD [fr 0 1,.str<|Es w,.int n]=!(.ok<|.bl<|zB (p,w,n)):=by
 let(h,i,j,k,l):=QE m;let m1:B9 0 1=true:=EL<|DK (by decide)<|by decide
 let m2:B9 n 1=true:=EL<|DK (by decide)<|by decide
 let f:=M4 (a:=0) (b:=1) (c:=n) (d:=1) m1 m2;let g:=M4 (a:=n) (b:=1) (c:=0) (d:=1) m2 m1;rw[Ŀ,Ŀ]at f g;unfold PD To;let:w=0\/w=1\/w=2\/w=3\/w=4:=by lia
 by_cases a:(0:Int)<n;let b:¬ n<0:=by lia
 let c:(0:Int)<=n:=by lia
 let d:¬ n<=0:=by lia
 let e:¬ n=0:=by lia
 rcases this with rfl|rfl|rfl|rfl|rfl<;>simp![h,i,j,k,l,f,g,zB,a,b,c,d,e];by_cases b:n<0;let c:¬ (0:Int)<=n:=by lia
 let d:n<=0:=by lia
 let e:¬ n=0:=by lia
 rcases this with rfl|rfl|rfl|rfl|rfl<;>simp![h,i,j,k,l,f,g,zB,a,b,c,d,e];let e:n=0:=by lia
 subst e;rcases this with rfl|rfl|rfl|rfl|rfl<;>simp![h,i,j,k,l,f,g,zB]<;>rfl
def Hs{α:Type}(f:α->Bool):∀L:List α,Fo (L.map λx=>T.bl<|f x)=!(L.map f)
 |[]=>rfl|x::L=>by
  rw[Ù,Ù];unfold Fo;rw[Hs f L]
def Iv{α:Type}(f:α->Bool)(L:List α):BA (L.map λx=>T.bl<|f x)=L.map λx=>T.bl<|f x:=by
 rw[Cw,è];rfl
def Le{α:Type}(f:α->Bool)(L:List α):(L.map f).all id=L.all f:=by rw[Ţ];rfl
def zru{α:Type}(f:α->Bool)(L:List α):(L.map f).any id=L.any f:=by rw[List.any_map];rfl
def hd0{m:Nat}{L:List<|Nat×Nat×Int}(o:EX m L)(hn:L.length<=1000){V:qD}(e:V=(List.range m).map λϊ=>fr 0 1):PY [.lst<|L.map Am,.lst V]=!(.ok<|.bl<|L.all zB):=by
 let a:AZ V=true:=by
  rw[e];show CN λϊ v=>rfl
 let q:=DW (b:=Al 3<|AI (AD 0)<|AI (AD 1)<|AI (AD 2) An) (me:=Wl) Am (λl=>.bl<|zB l) (λY=>∃x y z,Y=[x,y,z,!(.lst V)]) L [(),(),(),!(.lst V)] {(()),(),(),rfl} λl hl Y k=>by
  let(x,y,z,rfl):=k;let(p,w,n):=l;let(c,d,j):=o _ hl;let c:0<p:=c;let d:p<m+1:=d;let s:=so0 j p n
  let f:A9 V ((p:Int) - 1)=!(fr 0 1):=by
   rw[e,show(p:Int) - 1=((p - 1:Nat):Int) by lia];show Fq (by rw[É,ž<|by lia];rfl)
  show{[!(.int (p:Nat)),!(.str<|Es w),!(.int n),!(.lst V)],by simp_all_arith [],?_,_,_,_,rfl};unfold Wl
  simp_all_arith [f,s,a]
 let l1:L.length<=100000:=by lia
 let ps:=EC L;let g:=Hs zB L;let h:=Le zB L;let i:=Iv zB L;let r:(L.map Am).length<=100000:=by rw[À];lia
 change L.map Am=LL;unfold PY US
 simp![ps,a,r,q,i,g,h]
abbrev RL:Stmt:=AK 78
def VQ:AH:=
 (m2 BS (AA 0)<|AA 2)
def Wc:AH:=
 (AJ GY<|AB (AA 1) AE)
def VP:AH:=
 (m2 (BO true) (AA 0)<|mC .non)
def Wb:AH:=
 (AA 0)
def UD:AG:=
 (AF (AV (Az 2 [1] (Aj<|AA 0) (Al 2<|AI (AD 0)<|AI (AD 1) An) VQ Wc)<|AD 2)
 (AN<|Az 1 [] (Aj<|AA 2) (AD 0) VP Wb))
def PM:qD->Option Ru:=AW 2 3 UD
abbrev jR:=fA 4 2 RL PM
abbrev zao:Gm:=gA RL 3 [("narrowest",Vg)] []
theorem zau:Ck zao jR RL UD:={}
abbrev Ai(n:Nat)(p:Str×Db.Z):T:=.tup [.str p.1,zT n p.2]
def BZ(n:Nat)(P:List<|Str×Db.Z)(x:Str):List Db.Z:=(P.filter λp=>decide (p.1=x)).filterMap λp=>Dj n p.2
def FA(n:Nat)(P:List<|Str×Db.Z):AZ (P.map<|Ai n)=true:=CN λp z=>by
 let:=Bv n p.2;change zT n p.2=Z
 simp![this]
def IC(n:Nat)(L:List Db.Z):AZ (L.map<|zT n)=true:=CN λf z=>Bv n f
def T3(n:Nat):∀l:List (Option Db.Z),(l.filter (·.isSome)).map (oT n)=(l.filterMap id).map (zT n)
 |[]=>rfl|none::l=>T3 n l|some f::l=>congrArg (zT n f::·)<|T3 n l
def nz_ok{n:Nat}(hn:n<=1000){P:List<|Str×Db.Z}(k:∀p∈P,PyData.strOk p.1=true)(hl:P.length<=1000){r:Str}(hr:PyData.strOk r=true):PM [.lst<|P.map<|Ai n,.str r]=!(.ok<|.own<|(BZ n P r).map (zT n)):=by
 let s:=FA n P
 let m:=Hf (b:=Al 2<|AI (AD 0)<|AI (AD 1) An) (mt:=VQ) (me:=Wc) (Ai n) (λp=>oT n<|Dj n p.2) (λp=>decide (p.1=r)) (λY=>∃x y,Y=[x,y,!(.str r)]) P [(),(),!(.str r)] {_,_,rfl} λp j Y f=>by
  let(a,b,rfl):=f;let i:=Fe (k p j) hr;let d:=Bv n p.2;let nr:=fE (n:=n) (by lia) p.2
  let c:=EI n<|Dj n p.2;generalize oT n (Dj n p.2)=σ at *;unfold Ai;change zT n p.2=Z;show{[!(.str p.1),!Z,!(.str r)],false,by simp_all_arith [d,Ak _ d],?_,λϊ=>?_,_,_,rfl}
  unfold VQ
  simp_all_arith [i]
  unfold Wc
  simp_all_arith [d,Ak _ d,nr,c,Ak _ c]
 let E4:=Hf (b:=AD 0) (mt:=VP) (me:=Wb) (oT n) (oT n) (·.isSome) (λY=>∃x,Y=[x]) ((P.filter λp=>decide (p.1=r)).map λp=>Dj n p.2) [()] {_,rfl} λo t Y f=>by
  let(a,rfl):=f;let c:=EI n o;let g:=Gi n o true;rw[show(true != o.isNone)=o.isSome by cases o<;>rfl]at g
  generalize oT n o=σ at *;show{[!σ],false,by simp_all_arith [c,Ak _ c],?_,λϊ=>?_,_,rfl};unfold VP
  simp_all_arith [-BO,c,Ak _ c,g]
  unfold Wb
  simp_all_arith [c,Ak _ c]
 let e:((P.filter λp=>decide (p.1=r)).map λp=>Dj n p.2).filterMap id=BZ n P r:=by rw[List.filterMap_map];rfl
 rw[T3,e,è]at E4;let h:(List.filter (λp=>decide (p.1=r)) P).map (oT n ∘ λp=>Dj n p.2)=(List.filter (λp=>decide (p.1=r)) P).map λp=>oT n<|Dj n p.2:=rfl
 rw[h]at E4;let q:AZ ((List.filter (λp=>decide (p.1=r)) P).map λp=>oT n<|Dj n p.2)=true:=CN λp z=>EI n _
 let l:((List.filter (λp=>decide (p.1=r)) P).map λp=>oT n<|Dj n p.2).length<=100000:=by
  rw[À];let:=Ŏ (λp=>decide (p.1=r)) P
  lia
 let l1:(P.map<|Ai n).length<=100000:=by rw[À];lia
 let sz:=IC n<|BZ n P r;change (BZ n P r).map (zT n)=ZS;change ((List.filter (λp=>decide (p.1=r)) P).map λp=>oT n<|Dj n p.2)=Q
 change P.map (Ai n)=PP;unfold PM UD
 simp![s,l1,m,q,l,E4,sz]
abbrev Yz:Stmt:=B3 77 0
def Wz:AH:=
 (BP<|AB (mC<|.int 0)<|AB (mC<|.int 1) AE)
def QU:AG:=
 (IV Ad Af 4 0 (AA 3)<|AJ PM<|AB (AA 2)<|AB (AA 3) AE)
def Nf:AG:=
 (AF (C0 Ad Af 0 0<|AM (BY A7 Aa E9 (AA 1) AE)<|mC<|.int 0)
 (AF (C0 Ad Af 1 0<|Az 1 [] (Aj<|BY A7 Aa JG (AA 1) AE) (AD 0) (mC<|.bl true) Wz)
 (AF (C0 Ad Af 2 0<|AJ Lk<|AB (AA 1) AE)
 (AF (C0 Ad Af 3 0<|AJ Ly<|AB (AA 1) AE)
 (AF (C0 Ad Af 4 0 GL)
 (BV (Aj<|BY A7 Aa E9 (AA 1) AE) (AD 3) QU))))))
def X5:qD->Option Ru:=Ee Ad Af 3 4 Nf
abbrev Vs:Fn:={7,["self","machine","paper"],X5}
abbrev zci:Gx:={ Bb with mt:=[("rooms",A7,Aa,Hn),("watches",A7,Aa,OY)],sf:=↑(Ad,Af) }
abbrev zcn:Gm:=gA Yz 6 [("placed_stays",Vf),("doors_out",Vo),("narrow_zones_of",jR)] [] (ox:=zci)
theorem zcv:Ck zcn Vs Yz Nf:={}
def J0{α:Type}(f g:α->T)(h:∀x,(f x).share=g x)(l:List α):BA (l.map f)=l.map g:=by
 rw[Cw,è];show Ć λx z=>h x
def DZ(M:Mc)(x:Str):T:=.lst<|(Au M.ws M.rs x).map Am
def Dh(M:Mc)(x:Str):T:=.lst<|(B0 x 0 M.ds).map (CH M.ws)
def Cy(M:Mc)(P:List<|Str×Db.Z)(x:Str):T:=.lst<|(BZ ⇑M P x).map (zT<|↥M+1)
def FO(M:Mc)(P:List<|Str×Db.Z):qD:=[.str<|M.nm.headD "",.lst<|M.ws.map λϊ=>fr 0 1,.obj (.sdc M.nm)<|M.nm.map<|DZ M,.obj (.sdc M.nm)<|M.nm.map<|Dh M,.obj (.sdc M.nm)<|M.nm.map<|Cy M P]
def Ga(M:Mc)(P:List<|Str×Db.Z):T:=.obj (.ins Ad Af)<|FO M P
def J2(M:Mc)(x:Str):(DZ M x).sh=true:=by
 let:=EC<|Au M.ws M.rs x;unfold DZ;change (Au M.ws M.rs x).map Am=L
 simp_all_arith [this]
def Ml(M:Mc)(x:Str):(Dh M x).sh=true:=by
 let:AZ ((B0 x 0 M.ds).map (CH M.ws))=true:=CN λp z=>JO _ p;unfold Dh;change (B0 x 0 M.ds).map (CH M.ws)=L
 simp_all_arith [this]
def J1(M:Mc)(P:List<|Str×Db.Z)(x:Str):(Cy M P x).sh=true:=by
 let:=IC ⇑M<|BZ ⇑M P x;unfold Cy;change (BZ ⇑M P x).map (zT<|↥M+1)=L
 simp_all_arith [this]
def znx{M:Mc}(h:McOk M){P:List<|Str×Db.Z}(C:∀p∈P,PyData.strOk p.1=true)(hl:P.length<=1000):X5 [Av M,.lst<|P.map<|Ai<|↥M+1]=!(.ok<|Ga M P):=by
 let d:=GJ h;let nd:M.nm.Nodup:=h.r.nd;let l1:=h.r.l1;let l64:=h.r.l64;let E:M.nm.length=M.rs.length:=À _;let wl:=h.wl;let k:E9 [Av M]=!(.ok<|.own<|M.nm.map T.str):=Ia h;let F:JG [Av M]=!(.ok<|.own<|M.ws.map T.str):=Th h;let ps:=Zn h;let m:=l9 h;let J:=FA ⇑M P
 let(a,ha,hb):∃a,A9 (M.nm.map T.str) 0=!(.str a)/\M.nm.headD ""=a:=by
  cases e:M.nm with
  |nil=>rw[e,đ]at E;lia|cons a r=>show{a,Fq rfl,rfl}
 let D:=DW (b:=AD 0) (me:=Wz) T.str (λϊ=>fr 0 1) (λY=>∃x,Y=[x]) M.ws [()] {(()),rfl} λx X Y B=>by
  let(y,rfl):=B;show{[!(.str x)],by simp_all_arith [],by unfold Wz;simp_all_arith [],_,rfl}
 let K:↥M<=100000:=by lia
 let I:M.nm.length<=100000:=by lia
 let o:BA (M.ws.map λϊ=>fr 0 1)=M.ws.map λϊ=>fr 0 1:=J0 _ _ (λϊ=>rfl) _;let q:BA (M.nm.map λx=>T.own<|(Au M.ws M.rs x).map Am)=M.nm.map (DZ M):=J0 _ _ (λx=>by rw[T.share,A8 _<|EC _];rfl) _;let s:BA (Bx M M.ds.length)=M.nm.map (Dh M):=J0 _ _ (λx=>by rw[ă,T.share,A8 _<|CN λp X=>JO _ p];rfl) _;let u:BA (M.nm.map<|Cy M P)=M.nm.map (Cy M P):=J0 _ _ (λx=>Ak _<|J1 M P x) _;show Mv λp=>?_
 let c:∃y,Nf [!(.oob p Ad Af []),!(Av M),!(.lst<|P.map<|Ai<|↥M+1),()]=!(.nx [!(.oob p Ad Af [.str a,.own<|M.ws.map λϊ=>fr 0 1,.osd M.nm<|M.nm.map λx=>.own<|(Au M.ws M.rs x).map Am,.osd M.nm<|Bx M M.ds.length,.osd M.nm<|M.nm.map<|Cy M P]),!(Av M),!(.lst<|P.map<|Ai<|↥M+1),y]):=by
  unfold Nf;generalize N:(M.ws.map λϊ=>fr 0 1)=W at *;change (M.nm.map λx=>T.own<|(Au M.ws M.rs x).map Am)=SS;generalize Bx M M.ds.length=τ at *
  let(Y,e,y,rfl):=DI (b:=AD 3) (body:=QU) (ts:=M.nm.map T.str) (Y:=[!(.oob p Ad Af [.str a,.own W,.osd M.nm SS,.osd M.nm τ,.osd [] []]),!(Av M),!(.lst<|P.map<|Ai<|↥M+1),()]) (λi Y=>∃y,Y=[!(.oob p Ad Af [.str a,.own W,.osd M.nm SS,.osd M.nm τ,.osd (M.nm.take i)<|(M.nm.take i).map (Cy M P)]),!(Av M),!(.lst<|P.map<|Ai<|↥M+1),y]) {(()),rfl} λi t Y f A=>by
   let(y,rfl):=A;let g:i<M.nm.length:=by simpa using (Ê.mp f).1
   rw[É,Á g]at f;let v:=(Þ f).symm;subst v
   let G:M.nm[i]∉M.nm.take i:=λz=>by
    let(j,L,e):=ŭ.mp z;let:=(ñ nd).mp e
    lia
   let lk:(M.nm.take i).length<100000:=by rw[î];lia
   let H:=nz_ok (n:=↥M+1) (by lia) C hl<|h.tn _<|ë g
   show{[!(.oob p Ad Af [.str a,.own W,.osd M.nm SS,.osd M.nm τ,.osd (M.nm.take i)<|(M.nm.take i).map (Cy M P)]),!(Av M),!(.lst<|P.map<|Ai<|↥M+1),!(.str M.nm[i])],by simp_all_arith [],[!(.oob p Ad Af [.str a,.own W,.osd M.nm SS,.osd M.nm τ,.osd (M.nm.take i++[M.nm[i]])<|(M.nm.take i).map (Cy M P)++[Cy M P M.nm[i]]]),!(Av M),!(.lst<|P.map<|Ai<|↥M+1),!(.str M.nm[i])],?_,!(.str M.nm[i]),?_};unfold QU;let sz:=IC ⇑M<|BZ ⇑M P M.nm[i];let w:Cy M P M.nm[i]=.lst ((BZ ⇑M P M.nm[i]).map (zT<|↥M+1)):=rfl;rw[w];change (BZ ⇑M P M.nm[i]).map (zT<|↥M+1)=ZS;change (M.nm.take i).map (Cy M P)=V;change M.nm[i]=x;change M.nm.take i=l;change P.map (Ai<|↥M+1)=PP
   simp![J,H,G,lk,Χ,sz]
   rw[į g,à];rfl
  rw[À,ă]at e;show{y,?_};change P.map (Ai<|↥M+1)=PP;show sq (by simp![-Aw,GK,d,k,ha,B8,BE];rfl) ?_;show sq (by simp![-Aw,GK,d,F,B8,BE,À,K,D];rfl) ?_;show sq (by simp![d,ps];rfl) ?_;show sq (by simp![d,m];rfl) ?_;show sq (by simp_all_arith []) ?_
  simp_all_arith [-Aw,GK,d,Ak _ d,k,B8,BE,À,I,e]
 let(y,c):=c;unfold Fz;unfold Ga FO;rw[hb];change (M.ws.map λϊ=>fr 0 1)=W;change (M.nm.map λx=>T.own<|(Au M.ws M.rs x).map Am)=SS;generalize Bx M M.ds.length=τ at *;change M.nm.map (Cy M P)=ZZ
 simp![c,o,q,s,u]
abbrev SX:Stmt:=B3 77 1
def XA:AH:=
 (AJ JD<|AB (AA 0)<|AB (AU Ad Af 1<|AA 1) AE)
def Uh:AG:=
 (AF (AX (BJ<|AJ PY<|AB (C8 (Ax (AU A7 Aa 1<|AA 0)<|Ax (AU Ad Af 2<|AA 0)<|AU Ac Ae 3<|AA 0)<|Ax (AU Ad Af 0<|AA 0)<|AU Ac Ae 2<|AA 0)<|AB (AU Ad Af 1<|AA 0) AE) (AN<|mC<|.bl true) A5)
 (AN<|m1 Hv<|Az 1 [0] (Aj<|C8 (AU Ad Af 4<|AA 0)<|Ax (AU Ad Af 0<|AA 0)<|AU Ac Ae 2<|AA 0) (AD 0) (mC<|.bl true) XA))
def Pg:qD->Option Ru:=AW 1 1 Uh
abbrev kR:=fA 5 1 SX Pg
abbrev za6:Gx:={ Bb with cl:=[("Machine",A7,Aa),("Sheet",Ad,Af),("Walk",Ac,Ae)] }
abbrev za7:Gm:=gA SX 4 [("holds",j6),("lies_in",jV)] ["any"] (ox:=za6)
theorem za8:Ck za7 kR SX Uh:={}
def zkw(M:Mc)(P:List<|Str×Db.Z):Aw Ad Af (Ga M P)=!(FO M P):=(show Aw Ad Af (Ga M P)=(if Ad=Ad/\Af=Af then ↑(FO M P) else ()) from rfl).trans (if_pos {(rfl),rfl})
def zny(M:Mc)(P:List<|Str×Db.Z):Aw A7 Aa (Ga M P)=():=(show Aw A7 Aa (Ga M P)=(if Ad=A7/\Af=Aa then ↑(FO M P) else ()) from rfl).trans (if_neg λz=>by
 let:=z.1;revert this
 decide)
structure ShK(M:Mc)(P:List<|Str×Db.Z)(S:T):Prop where
 i:Aw Ad Af S=!(FO M P)
 n:Aw A7 Aa S=()
 s:S.sh=true
 v:AZ (M.ws.map λϊ=>fr 0 1)=true
 t:AZ (M.nm.map<|DZ M)=true
 w:AZ (M.nm.map<|Dh M)=true
 z:AZ (M.nm.map<|Cy M P)=true
def shK(M:Mc)(P:List<|Str×Db.Z):ShK M P<|Ga M P:=by
 let a:AZ (M.ws.map λϊ=>fr 0 1)=true:=CN λϊ z=>rfl;let b:AZ (M.nm.map<|DZ M)=true:=CN λx z=>J2 M x;let c:AZ (M.nm.map<|Dh M)=true:=CN λx z=>Ml M x;let d:AZ (M.nm.map<|Cy M P)=true:=CN λx z=>J1 M P x;show{zkw M P,zny M P,?_,a,b,c,d};unfold Ga FO;change (M.ws.map λϊ=>fr 0 1)=A;change M.nm.map (DZ M)=B;change M.nm.map (Dh M)=C;change M.nm.map (Cy M P)=D
 simp![a,b,c,d]
def GU{m mk:AH}{Y:AL}{a:kq}{f:Str->T}{r:Str}{b b2:Bool}(g:m Y=!(.v (.obj (.sdc a)<|a.map f) b))(h:mk Y=!(.v (.str r) b2))(hr:r∈a)(i:(f r).sh=true):C8 m mk Y=!(.v (f r) false):=by
 let(j,d,k,e):=Gv hr;let c:(a.map f)[j]?=!(f r):=by rw[É,Á k,e];rfl
 unfold C8;erw[g,h,FQ,d,c,i,Æ]
def Kq{M:Mc}(h:McOk M):M.nm.headD ""∈M.nm:=by
 let l1:=h.r.l1;let b:M.nm.length=M.rs.length:=À _;cases e:M.nm with
 |nil=>rw[e,đ]at b;lia|cons a r=>show .head _
section
variable {M:Mc}{P:List<|Str×Db.Z}{S:T}(k:ShK M P S)
include k
def ShK.f0{Y:AL}{m:AH}{b:Bool}(e:m Y=!(.v S b)):Ax (AU Ad Af 0 m) (AU Ac Ae 2 m) Y=!(.v (.str<|M.nm.headD "") false):=by simp_all_arith [-Aw,e,k.i,FO]
def ShK.f1{Y:AL}{m:AH}{b:Bool}(e:m Y=!(.v S b)):AU Ad Af 1 m Y=!(.v (.lst<|M.ws.map λϊ=>fr 0 1) false):=by simp_all_arith [-Aw,e,k.i,FO,k.v]
def ShK.f2{Y:AL}{m:AH}{b:Bool}(e:m Y=!(.v S b)):Ax (AU A7 Aa 1 m) (Ax (AU Ad Af 2 m)<|AU Ac Ae 3 m) Y=!(.v (.obj (.sdc M.nm)<|M.nm.map<|DZ M) false):=by simp![-Aw,e,k.i,k.n,FO,k.t]
def ShK.f3{Y:AL}{m:AH}{b:Bool}(e:m Y=!(.v S b)):Ax (AU Ad Af 3 m) (AU Ac Ae 4 m) Y=!(.v (.obj (.sdc M.nm)<|M.nm.map<|Dh M) false):=by simp_all_arith [-Aw,e,k.i,FO,k.w]
def ShK.f4{Y:AL}{m:AH}{b:Bool}(e:m Y=!(.v S b)):AU Ad Af 4 m Y=!(.v (.obj (.sdc M.nm)<|M.nm.map<|Cy M P) false):=by simp_all_arith [-Aw,e,k.i,FO,k.z]
end
open Classical in
def Ie(n:Nat)(f:Db.Z):Bool:=decide (∀i j,i<n->j<n->Db.le ↑1 (f i j))
open Classical in
def li0{m:Nat}(o:m<=500)(f:Db.Z):JD [zT (m+1) f,vT m λϊ=>(0,1)]=!(.ok<|.bl<|Ie (m+1) f):=by
 let a:∀i,IE (λϊ=>(0,1)) i=(0,1):=λi=>by cases i<;>rfl
 let l:∀b,B9 0 b=true:=λb=>Gj<|DK (by decide)<|by decide
 let k:∀c,Db.sat 1 c (0 - 0) ↔ Db.le ↑1 c:=λc=>by
  cases c with
  |none=>show Iff.rfl|some c=>
   show(show _<=_ ↔ (1:Int)<=c from ?_);lia
 let h:=li_ok (m:=m) (by lia) (f:=f) (v:=λϊ=>(0,1)) {λi y=>(by rw[a];decide),λi j y y=>(by
  rw[a,a]
  show{l _,Gj<|DK (by decide)<|by decide,by decide}),λi j c y y e b n bl=>(by
  rw[a,a]at bl
  let:b=1:=by
   let:b<=1 * 1:=bl;lia
  subst this;show EL<|DK (by decide)<|by decide)} (D:=1) (X:=λϊ=>0) (by decide) λi y=>by rw[a]
 unfold Ie;by_cases q:∀i j,i<m+1->j<m+1->Db.le ↑1 (f i j);rw[Ä q];show h.1 λi j d g=>(k _).mpr (q i j d g);rw[Õ q];show h.2 λz=>q λi j d g=>(k _).mp (z i j d g)
def YH(l:kq):(l.map λϊ=>fr 0 1)=(List.range l.length).map λϊ=>fr 0 1:=by
 rw[List.map_const',List.map_const',ĸ]
def Jl(M:Mc)(P:List<|Str×Db.Z):Bool:=(not ((Au M.ws M.rs<|M.nm.headD "").all zB)) || (BZ ⇑M P<|M.nm.headD "").any (Ie<|↥M+1)
def zku{M:Mc}(h:McOk M)(x:Str):(Au M.ws M.rs x).length<=1000:=by
 unfold Au;cases e:M.rs.find? λq=>decide (q.1=x) with
 |none=>show ø _|some r=>rw[À];show(h.r.lk r<|Ŭ e).2
def Xu(n:Nat)(P:List<|Str×Db.Z)(x:Str):(BZ n P x).length<=P.length:=Ö (List.length_filterMap_le _ _)<|Ŏ _ _
def hs_ok{M:Mc}(h:McOk M){P:List<|Str×Db.Z}(r:P.length<=1000){S:T}(k:ShK M P S):Pg [S]=!(.ok<|.bl<|Jl M P):=by
 let s:=h.wl;let d:=k.s;let a:AA 0 [!S]=!(.v S false):=by simp_all_arith [d]
 let g2:=GU (k.f2 a) (k.f0 a) (Kq h)<|J2 M _;let e:=GU (k.f4 a) (k.f0 a) (Kq h)<|J1 M P _;let hd:=hd0 (JZ h<|M.nm.headD "") (zku h _)<|YH M.ws
 let c3:=DW (b:=AD 0) (me:=XA) (zT<|↥M+1) (λf=>.bl<|Ie ⇑M f) (λY=>∃x,Y=[x,!S]) (BZ ⇑M P<|M.nm.headD "") [(),!S] {(()),rfl} λf z Y o=>by
  let(x,rfl):=o;let c:=Bv ⇑M f;let g:=li0 (m:=↥M) (by lia) f
  rw[show(vT ↥M λϊ=>(0,1))=T.lst (M.ws.map λϊ=>fr 0 1) by rw[YH];rfl]at g;change zT ⇑M f=Z;let q:AA 1 [!Z,!S]=!(.v S false):=by simp_all_arith [d]
  let f1:=k.f1 q;show{[!Z,!S],by simp_all_arith [c,Ak _ c],?_,_,rfl};unfold XA;let sv:=k.v;change (M.ws.map λϊ=>fr 0 1)=V
  simp_all_arith [c,Ak _ c,-AU,f1,sv,A8 _ sv,g]
 let f1:=k.f1 a;let sv:=k.v;let j:=Hs (Ie<|↥M+1)<|BZ ⇑M P<|M.nm.headD "";let l:=zru (Ie<|↥M+1)<|BZ ⇑M P<|M.nm.headD "";let n:=Iv (Ie<|↥M+1)<|BZ ⇑M P<|M.nm.headD "";let t:=Xu ⇑M P<|M.nm.headD "";let p:((BZ ⇑M P<|M.nm.headD "").map (zT<|↥M+1)).length<=100000:=by rw[À];lia
 let sz:=IC ⇑M<|BZ ⇑M P<|M.nm.headD "";let i:=EC<|Au M.ws M.rs<|M.nm.headD "";unfold Jl;unfold DZ at g2;unfold Cy at e;change (M.ws.map λϊ=>fr 0 1)=V
 change (Au M.ws M.rs<|M.nm.headD "").map Am=SL;change (Au M.ws M.rs<|M.nm.headD "").all zB=b1;change (BZ ⇑M P<|M.nm.headD "").map (zT<|↥M+1)=ZS;unfold Pg Uh;cases b1 with
 |false=>simp![-AU,-Ax,g2,i,f1,sv,hd]|true=>simp![-AU,-Ax,g2,i,f1,sv,hd,e,sz,p,d,c3,n,j,l]
abbrev SU:Stmt:=B3 77 2
def IF:AG:=
 (AX (AJ Hx<|AB (AA 2)<|AB (AA 3) AE) (AN<|mC<|.bl true) A5)
def Ng:AG:=
 (AF (AX (m2 (BO false) (AA 2)<|mC .non) (AN<|mC<|.bl true) A5)
 (AF (BV (Aj<|C8 (AU Ad Af 4<|AA 0)<|AA 1) (AD 3) IF)
 (AN<|mC<|.bl false)))
def Hz:qD->Option Ru:=AW 3 4 Ng
abbrev Vt:=fA 3 3 SU Hz
abbrev za3:Gx:={ Bb with cl:=[("Sheet",Ad,Af)] }
abbrev za4:Gm:=gA SU 2 [("within",Va)] [] (ox:=za3)
theorem za5:Ck za4 Vt SU Ng:={}
def Iu(n:Nat)(a:List Db.Z)(o:Option Db.Z):Bool:=match o with
 |none=>true|some f=>a.any<|Eb n f
def iW{M:Mc}{P:List<|Str×Db.Z}{S:T}(k:ShK M P S){r:Str}(hr:r∈M.nm)(o:Option Db.Z):Hz [S,.str r,oT ⇑M o]=!(.ok<|.bl<|Iu ⇑M (BZ ⇑M P r) o):=by
 let v:=k.s;let A:=EI ⇑M o;let i:=Gi ⇑M o false;cases o with
 |none=>
  show(?_:Hz [S,.str r,.non]=!(.ok<|.bl true));unfold Hz Ng
  simp_all_arith []
 |some f=>
  let c:=Bv ⇑M f;show(show Hz [S,.str r,zT ⇑M f]=_ from ?_);let i:BO false (zT ⇑M f) .non=!(.bl false):=i
  let d:∀(L:List Db.Z) (y:q9),(L.any (Eb ⇑M f)=true->BC (AD 3) IF (L.map<|zT<|↥M+1) [!S,!(.str r),!(zT ⇑M f),y]=!(.rt<|.bl true))/\(L.any (Eb ⇑M f)=false->∃l,BC (AD 3) IF (L.map<|zT<|↥M+1) [!S,!(.str r),!(zT ⇑M f),y]=!(.nx [!S,!(.str r),!(zT ⇑M f),l])):=by
   intro L
   induction L with
   |nil=>show λy=>{λh=>(by cases h),λϊ=>{(y),rfl}}|cons g L u=>
    intro y;let a:=Bv ⇑M g;let j:=YC (n:=↥M+1) f g;let(s,t):=u<|!(zT ⇑M g);rw[Ù,ĝ];unfold BC;change zT ⇑M f=F;change zT ⇑M g=G;cases q:Eb ⇑M f g with
    |true=>
     rw[q]at j;show{λϊ=>?_,λh=>by cases h}
     let w:IF [!S,!(.str r),!F,!G]=!(.rt<|.bl true):=by
      unfold IF
      simp_all_arith [c,Ak _ c,a,Ak _ a,j]
     simp![a,w]
    |false=>
     rw[q]at j
     let w:IF [!S,!(.str r),!F,!G]=!(.nx [!S,!(.str r),!F,!G]):=by
      unfold IF
      simp_all_arith [c,Ak _ c,a,Ak _ a,j]
     rw[ĺ];show{λh=>?_,λh=>?_};let:=s h
     simp![a,w,this]
     let(l,e):=t h;show{l,by simp![a,w,e]}
  let(l1,p):=d (BZ ⇑M P r) ();let x:AA 0 [!S,!(.str r),!(zT ⇑M f),()]=!(.v S false):=by simp_all_arith [v]
  let z:AA 1 [!S,!(.str r),!(zT ⇑M f),()]=!(.v (.str r) false):=by simp_all_arith []
  let m:=GU (k.f4 x) z hr<|J1 M P r;let sz:=IC ⇑M<|BZ ⇑M P r;unfold Cy at m;show(show _=!(Ru.ok<|.bl<|(BZ ⇑M P r).any (Eb ⇑M f)) from ?_);change zT ⇑M f=F;change (BZ ⇑M P r).any (Eb ⇑M f)=b;change (BZ ⇑M P r).map (zT<|↥M+1)=ZS;unfold Hz Ng;cases b with
  |true=>
   let l1:=l1 rfl
   simp![-AU,-BO,c,i,m,sz,l1]
  |false=>
   let(l,p):=p rfl
   simp![-AU,-BO,c,i,m,sz,p]
abbrev SW:Stmt:=B3 77 3
def Ug:AG:=
 (AN<|BY Ad Af Hz (AA 0)<|AB (AA 1)<|AB (AJ Dg<|AB (AJ Li<|AB (AA 2) AE)<|AB (C8 (Ax (AU A7 Aa 1<|AA 0)<|Ax (AU Ad Af 2<|AA 0)<|AU Ac Ae 3<|AA 0)<|AA 1) AE) AE)
def Pf:qD->Option Ru:=AW 3 3 Ug
abbrev kQ:=fA 5 3 SW Pf
abbrev zaa:Gx:={ Bb with cl:=[("Machine",A7,Aa),("Sheet",Ad,Af),("Walk",Ac,Ae)],mt:=[("holds_within",Ad,Af,Vt)] }
abbrev zae:Gm:=gA SW 4 [("met",Im),("waited",Vb)] [] (ox:=zaa)
theorem zai:Ck zae kQ SW Ug:={}
def GQ(M:Mc)(P:List<|Str×Db.Z)(r:Str)(f:Db.Z):Bool:=Iu ⇑M (BZ ⇑M P r)<|BX (Au M.ws M.rs r)<|Dm.wtd f
def zr1{M:Mc}(h:McOk M){P:List<|Str×Db.Z}{S:T}(k:ShK M P S){r:Str}(hr:r∈M.nm){f:Db.Z}(c:Db.Nar ⇑M f):Pf [S,.str r,zT ⇑M f]=!(.ok<|.bl<|GQ M P r f):=by
 let s:=h.wl;let a:=k.s;let i:=Bv ⇑M f;let nw:=Dm.wtd_nar c;let q:=YG (m:=↥M) (by lia) f
 let e:(T.own<|oZ ⇑M<|Dm.wtd f).share=zT ⇑M (Dm.wtd f):=by rw[T.share,Gh]
 let mt:=Ha (m:=↥M) (by lia) nw<|JZ h r
 let d:=iW k hr<|BX (Au M.ws M.rs r)<|Dm.wtd f;let l:=EI ⇑M<|BX (Au M.ws M.rs r)<|Dm.wtd f;let o:AA 0 [!S,!(.str r),!(zT ⇑M f)]=!(.v S false):=by simp_all_arith [a]
 let p:AA 1 [!S,!(.str r),!(zT ⇑M f)]=!(.v (.str r) false):=by simp_all_arith []
 let g2:=GU (k.f2 o) p hr<|J2 M r;let n:=Bv ⇑M<|Dm.wtd f;let j:=EC<|Au M.ws M.rs r;let g:=k.i;unfold DZ at g2;unfold GQ;change Iu ⇑M (BZ ⇑M P r) (BX (Au M.ws M.rs r)<|Dm.wtd f)=b;change oT ⇑M (BX (Au M.ws M.rs r)<|Dm.wtd f)=A;change (Au M.ws M.rs r).map Am=SL;change zT ⇑M (Dm.wtd f)=W;generalize T.own (oZ ⇑M<|Dm.wtd f)=σ at *;change zT ⇑M f=Z;unfold Pf Ug
 simp![-AU,-Ax,-Aw,g,a,i,q,e,g2,j,mt,n,l,d]
abbrev SV:Stmt:=B3 77 4
def Nh:AG:=
 (AF (AV (AM (AA 2)<|mC<|.int 1)<|AD 3)
 (AF (AV (AJ Dg<|AB (AA 1)<|AB (AM (AA 2)<|mC<|.int 2) AE)<|AD 4)
 (AF (AX (m2 (BO false) (AA 4)<|mC .non) (AN<|mC<|.bl true) A5)
 (AN<|BY Ad Af Hz (AA 0)<|AB (AA 3)<|AB (AJ Dg<|AB (AJ JA<|AB (AA 4)<|AB (AM (AA 2)<|mC<|.int 3) AE)<|AB (C8 (Ax (AU A7 Aa 1<|AA 0)<|Ax (AU Ad Af 2<|AA 0)<|AU Ac Ae 3<|AA 0)<|AA 3) AE) AE))))
def MB:qD->Option Ru:=AW 3 5 Nh
abbrev kP:=fA 5 3 SV MB
abbrev zam:Gx:={ Bb with cl:=[("Machine",A7,Aa),("Sheet",Ad,Af),("Walk",Ac,Ae)],mt:=[("holds_within",Ad,Af,Vt)] }
abbrev zas:Gm:=gA SV 4 [("met",Im),("put_back",Ve)] [] (ox:=zam)
theorem zay:Ck zas kP SV Nh:={}
def Ou(ws:kq)(rs:List<|Str×qD)(f:Db.Z)(d:Dr):Option Db.Z:=(BX (gK ws d) f).bind λl=>BX (Au ws rs d.e)<|Dm.pbk l<|BH<|BB ws d.n
def E5(M:Mc)(P:List<|Str×Db.Z)(f:Db.Z)(d:Dr):Bool:=Iu ⇑M (BZ ⇑M P d.e)<|Ou M.ws M.rs f d
theorem TR{m:Nat}{f:Db.Z}(a:Db.Nar (m+1) f)(ps:kz):Db.Nar (m+1)<|Dm.pbk f<|BH ps:=Dm.pbk_nar a (λi b=>by unfold BH;split<;>lia) (by unfold BH;split<;>rfl)
def zr0{M:Mc}(h:McOk M){P:List<|Str×Db.Z}{S:T}(k:ShK M P S){f:Db.Z}(o:Db.Nar ⇑M f){p:Nat×Dr}(w:p.2∈M.ds):MB [S,zT ⇑M f,CH M.ws p]=!(.ok<|.bl<|E5 M P f p.2):=by
 let K:=h.wl;let r:=k.s;let D:=h.d _ w;let hr:p.2.e∈M.nm:=D.e;let s:=Bv ⇑M f;let l:EX ↥M<|gK M.ws p.2:=J6 D.g;let m1:=Ha (m:=↥M) (by lia) o l
 let q:=EI ⇑M<|BX (gK M.ws p.2) f;let c:=Gi ⇑M (BX (gK M.ws p.2) f) false;let t:=EC<|gK M.ws p.2;let u:=NW<|BB M.ws p.2.n;let i:∀A B G N,A9 [T.int A,T.str B,T.lst G,T.lst N] 1=!(T.str B):=λϊ Y Y Y=>CF (by decide) rfl
 let j:∀A B G N,A9 [T.int A,T.str B,T.lst G,T.lst N] 2=!(T.lst G):=λϊ Y Y Y=>CF (by decide) rfl;let v:∀A B G N,A9 [T.int A,T.str B,T.lst G,T.lst N] 3=!(T.lst N):=λϊ Y Y Y=>CF (by decide) rfl;unfold E5 Ou;cases a:BX (gK M.ws p.2) f with
 |none=>
  rw[a]at m1 c;let m1:Dg [zT ⇑M f,.lst<|(gK M.ws p.2).map Am]=!(.ok .non):=m1;show(show _=!(Ru.ok<|.bl true) from ?_);unfold CH;change zT ⇑M f=Z;change (gK M.ws p.2).map Am=G;change EB (BB M.ws p.2.n)=N;unfold MB Nh
  simp![i,j,s,t,u,m1]
 |some g=>
  rw[a]at m1 c q;let z:=NX o l a;let d:=Zy (n:=↥M+1) (by lia) (by lia) g<|BB M.ws p.2.n
  let C:=TR z<|BB M.ws p.2.n;let e:(T.own<|oZ ⇑M<|Dm.pbk g<|BH<|BB M.ws p.2.n).share=zT ⇑M (Dm.pbk g<|BH<|BB M.ws p.2.n):=by rw[T.share,Gh]
  let mt:=Ha (m:=↥M) (by lia) C<|JZ h p.2.e
  let x:=iW k hr<|BX (Au M.ws M.rs p.2.e)<|Dm.pbk g<|BH<|BB M.ws p.2.n;let F:=EI ⇑M<|BX (Au M.ws M.rs p.2.e)<|Dm.pbk g<|BH<|BB M.ws p.2.n;let H:=Bv ⇑M<|Dm.pbk g<|BH<|BB M.ws p.2.n;let E:=EC<|Au M.ws M.rs p.2.e;let d:JA [oT ⇑M !g,.lst<|EB<|BB M.ws p.2.n]=!(.ok<|.own<|oZ ⇑M<|Dm.pbk g<|BH<|BB M.ws p.2.n):=d;let y:=k.i;show(show _=!(Ru.ok<|.bl<|Iu ⇑M (BZ ⇑M P p.2.e)<|BX (Au M.ws M.rs p.2.e)<|Dm.pbk g<|BH<|BB M.ws p.2.n) from ?_);change Iu ⇑M (BZ ⇑M P p.2.e) (BX (Au M.ws M.rs p.2.e)<|Dm.pbk g<|BH<|BB M.ws p.2.n)=b;change oT ⇑M (BX (Au M.ws M.rs p.2.e)<|Dm.pbk g<|BH<|BB M.ws p.2.n)=A;change zT ⇑M (Dm.pbk g<|BH<|BB M.ws p.2.n)=W;generalize T.own (oZ ⇑M<|Dm.pbk g<|BH<|BB M.ws p.2.n)=σ at *;change oT ⇑M ↑g=G1;unfold CH;change zT ⇑M f=Z;change (gK M.ws p.2).map Am=G;change EB (BB M.ws p.2.n)=N;let I:AA 0 [!S,!Z,!(.tup [.int (p.1:Nat),.str p.2.e,.lst G,.lst N]),!(.str p.2.e),!G1]=!(.v S false):=by simp_all_arith [r]
  let J:AA 3 [!S,!Z,!(.tup [.int (p.1:Nat),.str p.2.e,.lst G,.lst N]),!(.str p.2.e),!G1]=!(.v (.str p.2.e) false):=by simp_all_arith []
  let g2:=GU (k.f2 I) J hr<|J2 M p.2.e;unfold DZ at g2;change (Au M.ws M.rs p.2.e).map Am=SL;unfold MB Nh
  simp![-AU,-Ax,-Aw,-BO,i,j,v,y,r,s,t,u,m1,c,Option.isNone,bne,q,d,e,g2,E,mt,H,F,x]
abbrev S6:Stmt:=B3 77 5
def XB:AH:=
 (BY Ad Af MB (AA 1)<|AB (AA 2)<|AB (AA 0) AE)
def K3:AG:=
 (AF (AX (BJ<|BY Ad Af Pf (AA 0)<|AB (AA 1)<|AB (AA 2) AE) (AN<|mC<|.bl false) A5)
 (AX (BJ<|m1 EV<|Az 1 [0,2] (Aj<|C8 (Ax (AU Ad Af 3<|AA 0)<|AU Ac Ae 4<|AA 0)<|AA 1) (AD 0) (mC<|.bl true) XB) (AN<|mC<|.bl false) A5))
def Ui:AG:=
 (AF (BV (Aj<|C8 (AU Ad Af 4<|AA 0)<|AA 1) (AD 2) K3)
 (AN<|mC<|.bl true))
def Ph:qD->Option Ru:=AW 2 3 Ui
abbrev kS:=fA 6 2 S6 Ph
abbrev zab:Gx:={ Bb with cl:=[("Sheet",Ad,Af),("Walk",Ac,Ae)],mt:=[("holds_wait",Ad,Af,kQ),("holds_way",Ad,Af,kP)] }
abbrev zaf:Gm:=gA S6 5 [] ["all"] (ox:=zab)
theorem zaj:Ck zaf kS S6 Ui:={}
def JN{n:Nat}{P:List<|Str×Db.Z}{x:Str}{f:Db.Z}(h:f∈BZ n P x):Db.Nar n f:=by
 let(p,_,e):=ĥ.mp h;show fF e
def HA(M:Mc)(P:List<|Str×Db.Z)(r:Str):Bool:=(BZ ⇑M P r).all λf=>GQ M P r f && (B0 r 0 M.ds).all λp=>E5 M P f p.2
def hr_ok{M:Mc}(h:McOk M){P:List<|Str×Db.Z}{S:T}(k:ShK M P S){r:Str}(hr:r∈M.nm):Ph [S,.str r]=!(.ok<|.bl<|HA M P r):=by
 let c:=k.s;let n:=k.i;let dl:=h.dl;let J:AZ ((B0 r 0 M.ds).map (CH M.ws))=true:=CN λp X=>JO _ p
 let wl:((B0 r 0 M.ds).map (CH M.ws)).length<=100000:=by
  let:=ML r M.ds 0;rw[À];lia
 let R:∀f,Db.Nar ⇑M f->K3 [!S,!(.str r),!(zT ⇑M f)]=!(if (GQ M P r f && (B0 r 0 M.ds).all λp=>E5 M P f p.2)=true then .nx [!S,!(.str r),!(zT ⇑M f)] else .rt (.bl false)):=λf i=>by
  let a:=Bv ⇑M f;let t:=zr1 h k hr i
  let I:=DW (b:=AD 0) (me:=XB) (CH M.ws) (λp=>.bl<|E5 M P f p.2) (λY=>∃x,Y=[x,!S,!(zT ⇑M f)]) (B0 r 0 M.ds) [(),!S,!(zT ⇑M f)] {(()),rfl} λp C Y A=>by
   let(x,rfl):=A;let U:=zr0 h k i (p:=p)<|MJ C;let j:=JO M.ws p;change CH M.ws p=W;change zT ⇑M f=Z;show{[!W,!S,!Z],by simp_all_arith [j,Ak _ j],?_,_,rfl}
   unfold XB
   simp_all_arith [-Aw,n,c,Ak _ c,a,Ak _ a,j,Ak _ j,U]
  let u:=Hs (λp=>E5 M P f p.2)<|B0 r 0 M.ds
  let v:=Le (λp=>E5 M P f p.2)<|B0 r 0 M.ds
  let z:=Iv (λp=>E5 M P f p.2)<|B0 r 0 M.ds
  change zT ⇑M f=Z;let O:AA 0 [!S,!(.str r),!Z]=!(.v S false):=by simp_all_arith [c]
  let Q:AA 1 [!S,!(.str r),!Z]=!(.v (.str r) false):=by simp_all_arith []
  let o:=GU (k.f3 O) Q hr<|Ml M r;unfold Dh at o;change (B0 r 0 M.ds).map (CH M.ws)=WY;change ((B0 r 0 M.ds).map λp=>T.bl<|E5 M P f p.2)=BL
  change ((B0 r 0 M.ds).all λp=>E5 M P f p.2)=b2;unfold K3;change GQ M P r f=b1;cases b1 with
  |false=>simp![-AU,-Aw,n,c,a,t]|true=>cases b2<;>simp![-AU,-Aw,n,c,a,t,o,J,wl,I,z,u,v]
 let d:∀(L:List Db.Z) (y:q9),(∀f∈L,Db.Nar ⇑M f)->((L.all λf=>GQ M P r f && (B0 r 0 M.ds).all λp=>E5 M P f p.2)=true->∃l,BC (AD 2) K3 (L.map<|zT<|↥M+1) [!S,!(.str r),y]=!(.nx [!S,!(.str r),l]))/\((L.all λf=>GQ M P r f && (B0 r 0 M.ds).all λp=>E5 M P f p.2)=false->BC (AD 2) K3 (L.map<|zT<|↥M+1) [!S,!(.str r),y]=!(.rt<|.bl false)):=by
  intro L
  induction L with
  |nil=>show λy X=>{λϊ=>{(y),rfl},λh=>(by cases h)}|cons f L G=>
   intro y s;let a:=Bv ⇑M f;let w:=R f<|s f<|.head _;let(D,E):=G (!(zT ⇑M f)) λg B=>s g<|.tail _ B
   rw[Ù,List.all_cons];unfold BC;change zT ⇑M f=F;cases q:(GQ M P r f && (B0 r 0 M.ds).all λp=>E5 M P f p.2) with
   |false=>
    rw[q]at w;show{λh=>(by cases h),λϊ=>?_}
    simp![a,w]
   |true=>
    rw[q]at w;rw[Θ];show{λh=>?_,λh=>?_};let(l,e):=D h;show{l,by simp![a,w,e]};let e:=E h
    simp![a,w,e]
 let(l1,H):=d (BZ ⇑M P r) () λf i=>JN i;let K:AA 0 [!S,!(.str r),()]=!(.v S false):=by simp_all_arith [c]
 let N:AA 1 [!S,!(.str r),()]=!(.v (.str r) false):=by simp_all_arith []
 let m:=GU (k.f4 K) N hr<|J1 M P r;let sz:=IC ⇑M<|BZ ⇑M P r;unfold Cy at m;unfold HA;change ((BZ ⇑M P r).all λf=>GQ M P r f && (B0 r 0 M.ds).all λp=>E5 M P f p.2)=b
 change (BZ ⇑M P r).map (zT<|↥M+1)=ZS;unfold Ph Ui;cases b with
 |true=>
  let(l,e):=l1 rfl
  simp![-AU,m,sz,e]
 |false=>
  let e:=H rfl
  simp![-AU,m,sz,e]
abbrev SQ:Stmt:=B3 77 6
def Wy:AH:=
 (m2 (BO false) (AJ Dg<|AB (AA 0)<|AB (AA 1) AE)<|mC .non)
def Ue:AG:=
 (AN<|m1 EV<|Az 1 [2] (Aj<|C8 (AU Ad Af 4<|AA 0)<|AA 1) (AD 0) (mC<|.bl true) Wy)
def Pe:qD->Option Ru:=AW 3 3 Ue
abbrev kO:=fA 5 3 SQ Pe
abbrev zal:Gx:={ Bb with cl:=[("Sheet",Ad,Af)] }
abbrev zar:Gm:=gA SQ 4 [("met",Im)] ["all"] (ox:=zal)
theorem zax:Ck zar kO SQ Ue:={}
def Hh(M:Mc)(P:List<|Str×Db.Z)(r:Str)(L:List<|Nat×Nat×Int):Bool:=(BZ ⇑M P r).all λf=>(BX L f).isNone
def ko_ok{M:Mc}(h:McOk M){P:List<|Str×Db.Z}(w:P.length<=1000){S:T}(k:ShK M P S){r:Str}(hr:r∈M.nm){L:List<|Nat×Nat×Int}(o:EX ↥M L):Pe [S,.str r,.lst<|L.map Am]=!(.ok<|.bl<|Hh M P r L):=by
 let y:=h.wl;let t:=k.s;let c:=EC L
 let q:=DW (b:=AD 0) (me:=Wy) (zT<|↥M+1) (λf=>.bl (BX L f).isNone) (λY=>∃x,Y=[x,!(.lst<|L.map Am)]) (BZ ⇑M P r) [(),!(.lst<|L.map Am)] {(()),rfl} λf p Y n=>by
  let(x,rfl):=n;let a:=Bv ⇑M f;let mt:=Ha (m:=↥M) (by lia) (JN p) o
  let g:=EI ⇑M<|BX L f;let e:=Gi ⇑M (BX L f) false;rw[show(false != (BX L f).isNone)=(BX L f).isNone by cases (BX L f).isNone<;>rfl]at e
  change (BX L f).isNone=b;generalize oT ⇑M (BX L f)=σ at *;change zT ⇑M f=Z;change L.map Am=LL;show{[!Z,!(.lst LL)],by simp_all_arith [a,Ak _ a],?_,_,rfl};unfold Wy
  simp_all_arith [-BO,a,Ak _ a,c,A8 _ c,mt,g,Ak _ g,e]
 let i:=Hs (λf=>(BX L f).isNone)<|BZ ⇑M P r
 let j:=Le (λf=>(BX L f).isNone)<|BZ ⇑M P r
 let l:=Iv (λf=>(BX L f).isNone)<|BZ ⇑M P r
 let z:=Xu ⇑M P r;let s:((BZ ⇑M P r).map (zT<|↥M+1)).length<=100000:=by rw[À];lia
 let sz:=IC ⇑M<|BZ ⇑M P r;unfold Hh;change L.map Am=LL;let u:AA 0 [!S,!(.str r),!(.lst LL)]=!(.v S false):=by simp_all_arith [t]
 let v:AA 1 [!S,!(.str r),!(.lst LL)]=!(.v (.str r) false):=by simp_all_arith []
 let d:=GU (k.f4 u) v hr<|J1 M P r;unfold Cy at d;change (BZ ⇑M P r).map (zT<|↥M+1)=ZS;unfold Pe Ue
 simp![-AU,d,c,sz,s,q,l,i,j]
abbrev RU:Stmt:=AK 79
def Wf:AH:=
 (m2 ES (AA 0)<|AA 2)
def We:AH:=
 (BY Ad Af Pe (AA 2)<|AB (AA 0)<|AB (AA 1) AE)
def Wd:AH:=
 (BY Ad Af Ph (AA 1)<|AB (AA 0) AE)
def N5:AG:=
 (AF (AV (AJ HH<|AB (AA 0)<|AB (AA 1) AE)<|AD 3)
 (AF (AV (BY A7 Aa E9 (AA 0) AE)<|AD 4)
 (AF (AX (BJ<|m1 EV<|Az 2 [4] (Aj<|AA 2) (Al 2<|AI (AD 0)<|AI (AD 1) An) (mC<|.bl true) Wf) (Cc "NoRoom"<|AB (mC<|.str "a paper tells of the machine's rooms") AE) A5)
 (AF (AV (Hb X5 []<|AB (AA 0)<|AB (AA 2) AE)<|AD 5)
 (AF (AX (Bu (BJ<|BY Ad Af Pg (AA 5) AE)<|BJ<|m1 EV<|Az 2 [5] (Aj<|AA 3) (Al 2<|AI (AD 0)<|AI (AD 1) An) (mC<|.bl true) We) (AN<|mC<|.bl false) A5)
 (AN<|m1 EV<|Az 1 [5] (Aj<|AA 4) (AD 0) (mC<|.bl true) Wd))))))
def Lo:qD->Option Ru:=AW 3 6 N5
abbrev jW:=fA 9 3 RU Lo
abbrev zfb:Gx:={ Bb with mt:=[("rooms",A7,Aa,Hn),("holds_start",Ad,Af,kR),("keeps_off",Ad,Af,kO),("holds_room",Ad,Af,kS)],nw:=[("Sheet",Vs,[(2,[])])] }
abbrev zfd:Gm:=gA RU 8 [("placed_goal",OP)] ["all"] (ex:=["NoRoom"]) (ox:=zfb)
theorem zfq:Ck zfd jW RU N5:={}
abbrev C4(g:Str×List (Nat×Nat×Int)):T:=.tup [.str g.1,.lst<|g.2.map Am]
def Hg(M:Mc)(P:List<|Str×Db.Z)(gs:List<|Str×List (Nat×Nat×Int)):Bool:=(Jl M P && gs.all λg=>Hh M P g.1 g.2) && M.nm.all (HA M P)
def NY(gs:List<|Str×List (Nat×Nat×Int)):AZ (gs.map C4)=true:=CN λg z=>by
 let:=EC g.2;unfold C4;change g.2.map Am=L
 simp![this]
def zqj{M:Mc}(h:McOk M){P:List<|Str×Db.Z}(q:P.length<=1000)(hr:∀p∈P,p.1∈M.nm){G:T}{gs:List<|Str×List (Nat×Nat×Int)}(R:G.sh=true)(d:HH [Av M,G]=!(.ok<|.own<|gs.map C4))(w:∀g∈gs,g.1∈M.nm/\EX ↥M g.2)(hl:gs.length<=1000):Lo [Av M,G,.lst<|P.map<|Ai<|↥M+1]=!(.ok<|.bl<|Hg M P gs):=by
 let m:=GJ h;let l64:=h.r.l64;let U:M.nm.length=M.rs.length:=À _;let z:∀p∈P,PyData.strOk p.1=true:=λp d=>h.tn _<|hr p d
 let K:=DW (b:=Al 2<|AI (AD 0)<|AI (AD 1) An) (me:=Wf) (Ai<|↥M+1) (λϊ=>.bl true) (λY=>∃x y,Y=[x,y,!(.lst<|M.nm.map T.str)]) P [(),(),!(.lst<|M.nm.map T.str)] {_,_,rfl} λp d Y f=>by
  let(a,b,rfl):=f;let e:=Jj (o:=false) (k:=.lst) (ys:=M.nm) h.tn<|z p d;rw[Ä<|hr p d]at e;let C:=Bv ⇑M p.2;unfold Ai;change zT ⇑M p.2=Z;show{[!(.str p.1),!Z,!(.lst<|M.nm.map T.str)],by simp_all_arith [C,Ak _ C],?_,_,_,rfl}
  unfold Wf
  simp_all_arith [B8,BE,e]
 let O:E9 [Av M]=!(.ok<|.own<|M.nm.map T.str):=Ia h;let F:=Hs (λϊ=>true) P
 let H:(P.map λϊ=>true).all id=true:=by
  rw[Ţ,Ñ];show λϊ X=>rfl
 let t:=FA ⇑M P;let sb:=Iv (λϊ=>true) P
 let l1:M.nm.length<=100000:=by lia
 let st:=znx h z q;let k:=shK M P;let c:=k.s;change Ga M P=S;let n:=hs_ok h q k;let j:=k.i;let s:=NY gs
 let lk:=DW (b:=Al 2<|AI (AD 0)<|AI (AD 1) An) (me:=We) C4 (λg=>.bl<|Hh M P g.1 g.2) (λY=>∃x y,Y=[x,y,!S]) gs [(),(),!S] {_,_,rfl} λg i Y f=>by
  let(a,b,rfl):=f;let l:=EC g.2;let I:=ko_ok h q k (w g i).1 (w g i).2;unfold C4;change g.2.map Am=LL;show{[!(.str g.1),!(.lst LL),!S],by simp_all_arith [l,A8 _ l],?_,_,_,rfl}
  unfold We
  simp_all_arith [-Aw,j,c,Ak _ c,l,A8 _ l,I]
 let N:=DW (b:=AD 0) (me:=Wd) T.str (λr=>.bl<|HA M P r) (λY=>∃x,Y=[x,!S]) M.nm [(),!S] {_,rfl} λr hr Y f=>by
  let(a,rfl):=f;let J:=hr_ok h k hr;show{[!(.str r),!S],by simp_all_arith [],?_,_,rfl}
  unfold Wd
  simp_all_arith [-Aw,j,c,Ak _ c,J]
 let v:=Hs (λg:Str×List (Nat×Nat×Int)=>Hh M P g.1 g.2) gs;let E:=Hs (HA M P) M.nm;let B:=Iv (λg:Str×List (Nat×Nat×Int)=>Hh M P g.1 g.2) gs
 let Q:=Iv (HA M P) M.nm;let u:=Le (λg:Str×List (Nat×Nat×Int)=>Hh M P g.1 g.2) gs
 let D:=Le (HA M P) M.nm;let L:(P.map<|Ai<|↥M+1).length<=100000:=by rw[À];lia
 let A:(gs.map C4).length<=100000:=by rw[À];lia
 let e:N5 [!(Av M),!G,!(.lst<|P.map<|Ai<|↥M+1),(),(),()]=!(.rt<|.bl<|Hg M P gs):=by
  unfold N5;unfold Hg;change P.map (Ai<|↥M+1)=PP;change gs.map C4=GG;change (gs.all λg=>Hh M P g.1 g.2)=b1;change M.nm.all (HA M P)=b2;change Jl M P=b0;show sq (by simp![m,R,d,s];rfl) ?_;show sq (by simp![-Aw,GK,m,O,B8,BE];rfl) ?_;show Bw (by simp![t,B8,BE,L,K,sb,F,H]) ?_;show sq (by simp_all_arith [m,Ak _ m,t,A8 _ t,st,c,Ak _ c]) ?_;cases b0 with
  |false=>show sr (by simp_all_arith [-Aw,j,c,Ak _ c,n])|true=>
   cases b1 with
   |false=>show sr (by simp![-Aw,j,c,n,s,A,lk,B,v,u])|true=>
    show Bw (by simp![-Aw,j,c,n,s,A,lk,B,v,u]) ?_
    simp![c,B8,BE,À,l1,N,Q,E,D]
 unfold Lo
 simp![e]
abbrev RH:Stmt:=AK 48
def W7:AH:=
 (AJ Fs<|AB (mC<|.int 0) AE)
def W6:AH:=
 (Az 1 [] (C9<|AB (m2 BW (AA 1)<|mC<|.int 1) AE) (AD 0) (mC<|.bl true) W7)
def UA:AG:=
 (AN<|Az 1 [0] (C9<|AB (m2 BW (AA 0)<|mC<|.int 1) AE) (AD 0) (mC<|.bl true) W6)
def Lm:qD->Option Ru:=AW 1 1 UA
abbrev jO:=fA 2 1 RH Lm
abbrev zh2:Gm:=gA RH 1 [("at_most",Io)] ["range"]
theorem zhl:Ck zh2 jO RH UA:={}
def zq3{m:Nat}(l:m<=1000):Lm [.int m]=!(.ok<|.own<|mT (m+1) λϊ=>.own<|mT (m+1) λϊ=>.int 1):=by
 let b:m+1<=100000:=by lia
 let c:Cj ((m:Int)+1)=true:=Eh (n:=m+1)<|by lia
 let d:((m:Int)+1).toNat=m+1:=by lia
 let e:=Ce (n:=m+1) (me:=W7) (x:=()) (cs:=[]) (g:=λj=>.int (j:Int)) (f:=λϊ=>.int 1) λj k=>by
  unfold W7
  simp_all_arith [Jw]
 let a:=Ce (n:=m+1) (me:=W6) (x:=()) (cs:=[!(.int (m:Int))]) (g:=λj=>.int (j:Int)) (f:=λϊ=>.own<|mT (m+1) λϊ=>.int 1) λi h=>by
  unfold W6
  simp_all_arith [c,d,E1,e,b]
 unfold Lm UA
 simp![c,d,E1,a,b]
abbrev Rm:Stmt:=AK 66
def UY:AG:=
 (AF (AV (AM (AM (AA 0)<|AA 2)<|AA 3)<|AD 4)
 (AF (AX (Bu (m2 (BO false) (AA 4)<|mC .non)<|m2 BS (AA 2)<|AA 3) (AN<|AA 4) A5)
 (AF (AV (AJ JB<|AB (AA 4) AE)<|AD 5)
 (AF (AX (Bq (m2 (BO true) (AM (AA 1)<|AA 2)<|mC .non)<|m2 (CD λi j=>decide (j<i)) (AA 5)<|AM (AA 1)<|AA 2) (AN<|mC .non) A5)
 (AF (AX (Bq (m2 (BO true) (AM (AA 1)<|AA 3)<|mC .non)<|m2 (CD λi j=>decide (i<j)) (AA 5)<|m1 Ej<|AM (AA 1)<|AA 3) (AN<|AJ JE<|AB (m1 Ej<|AM (AA 1)<|AA 3) AE) A5)
 (AN<|AA 4))))))
def P5:qD->Option Ru:=AW 4 6 UY
abbrev kC:=fA 2 4 Rm P5
abbrev zbq:Gm:=gA Rm 1 [("number_of",OQ),("below",OV)] []
theorem zbx:Ck zbq kC Rm UY:={}
def zrd{n:Nat}{f:Db.Z}{M:Nat->Db.B}{i j:Nat}(s:i<n)(hj:j<n):P5 [zT n f,rT n M,.int i,.int j]=!(.ok<|bT<|Db.fld f M i j):=by
 let l:=C7 (n:=n) (g:=λj=>bT<|M j) s;let d:=C7 (n:=n) (g:=λj=>bT<|M j) hj;let m:=C7 (n:=n) (g:=λj=>bT<|f i j) hj;let k:=C7 (n:=n) (g:=λi=>rT n<|f i) s;unfold P5 UY Db.fld;by_cases e:i=j;subst e;rw[if_pos rfl];cases q:f i i with
 |none=>
  rw[q]at m
  simp![k,m]
 |some c=>
  rw[q]at m
  simp![k,m,ET]
 rw[if_neg e];let p:((i:Int) == (j:Int))=false:=by simp;lia
 cases q:f i j with
 |none=>
  rw[q]at m
  simp![k,m,Db.fldB]
 |some c=>
  rw[q]at m;unfold Db.fldB;cases r:M i with
  |none=>
   rw[r]at l;cases o:M j with
   |none=>
    rw[o]at d
    simp![k,m,ET,p,GD,l,d]
   |some b=>
    rw[o]at d;by_cases h:c / 2 < -b
    .simp![k,m,ET,p,GD,l,d,h,Ot]
    .simp![k,m,ET,p,GD,l,d,h]
  |some a=>
   rw[r]at l;by_cases ha:a<c / 2
   .simp![k,m,ET,p,GD,l,ha]
   cases o:M j with
   |none=>
    rw[o]at d
    simp![k,m,ET,p,GD,l,d,ha]
   |some b=>
    rw[o]at d;by_cases h:c / 2 < -b
    .simp![k,m,ET,p,GD,l,d,h,ha,Ot]
    .simp![k,m,ET,p,GD,l,d,h,ha]
abbrev Rn:Stmt:=AK 65
def Wm:AH:=
 (AJ P5<|AB (AA 3)<|AB (AA 2)<|AB (AA 1)<|AB (AA 0) AE)
def Oi:AH:=
 (Az 1 [0,1,2] (C9<|AB (m1 Bd<|AA 2) AE) (AD 0) (mC<|.bl true) Wm)
def UZ:AG:=
 (AF (AV (m2 BW (BQ<|BK (mC<|.int 0) AE)<|AA 1)<|AD 2)
 (AF (AV (Az 1 [2,0] (C9<|AB (m1 Bd<|AA 0) AE) (AD 0) (mC<|.bl true) Oi)<|AD 3)
 (AN<|AJ GY<|AB (AA 3) AE)))
def P6:qD->Option Ru:=AW 2 4 UZ
abbrev kD:=fA 4 2 Rn P6
abbrev zh4:Gm:=gA Rn 3 [("folded_bound",kC),("narrowest",Vg)] ["range","len"]
theorem zhn:Ck zh4 kD Rn UZ:={}
def zkk(m:Nat)(M:Nat->Db.B):(T.int 0)::mT m (λi=>bT<|M i)=mT (m+1) λi=>bT<|Db.zm M i:=by
 rw[mO];show EM λi z=>?_;cases i<;>rfl
def fo_ok{m:Nat}(q:m<=1000)(f:Db.Z)(M:Nat->Db.B):P6 [zT (m+1) f,rT m M]=GY [zT (m+1)<|Db.fld f<|Db.zm M]:=by
 let k:=zkk m M;let l1:1+m<=100000:=by lia
 let a:m+1<=100000:=by lia
 let d:Cj ((m+1:Nat):Int)=true:=Eh<|by lia
 let b:∀i,i<m+1->Oi [!(.int (i:Int)),!(rT (m+1)<|Db.zm M),!(zT (m+1) f)]=!(.v (.own<|mT (m+1) λj=>bT<|Db.fld f (Db.zm M) i j) false):=λi l=>by
  let p:=Ce (n:=m+1) (me:=Wm) (x:=()) (cs:=[!(.int (i:Int)),!(rT (m+1)<|Db.zm M),!(zT (m+1) f)]) (g:=λj=>.int (j:Int)) (f:=λj=>bT<|Db.fld f (Db.zm M) i j) λj o=>by
   let e:=zrd (n:=m+1) (f:=f) (M:=Db.zm M) l o;unfold Wm
   simp_all_arith [e]
  unfold Oi
  simp_all_arith [d,E1,p,a]
 let c:=Ce (n:=m+1) (me:=Oi) (x:=()) (cs:=[!(rT (m+1)<|Db.zm M),!(zT (m+1) f)]) (g:=λj=>.int (j:Int)) (f:=λi=>.own<|mT (m+1) λj=>bT<|Db.fld f (Db.zm M) i j) b
 rcases(by
  by_cases h:Db.Sound (m+1)<|Db.fld f<|Db.zm M
  show⟨_,(T5 a _).1 h⟩
  show⟨_,(T5 a _).2 h⟩:∃r,GY [zT (m+1)<|Db.fld f<|Db.zm M]=!(.ok r)) with ⟨r,hr⟩
 rw[hr];unfold P6 UZ
 simp![l1,k,d,E1,c,a,hr]
abbrev Rk:Stmt:=AK 64
def zg3:AG:=
 (AX (m2 Cm (AA 3)<|AA 1) (IQ 2 (AA 1) (AA 3)<|mC .non) A5)
def gG:AG:=
 (AF (Bh 2<|AJ KG<|AB (AA 0) AE)
 (AF (BV (C9<|AB (m1 Bd<|AA 2) AE) (AD 3) zg3)
 (AN<|AA 2)))
def nS:qD->Option Ru:=AW 2 4 gG
abbrev j9:=fA 2 2 Rk nS
abbrev zjr:Gm:=gA Rk 1 [("copied",OU)] ["range","len"] ["rows"]
theorem zk6:Ck zjr j9 Rk gG:={}
abbrev SH:Stmt:=AK 71
def Wx:AH:=
 (AA 1)
def Ww:AH:=
 (AJ GX<|AB (AA 1)<|AB (BY A7 Aa KL (AA 1)<|AB (AA 0) AE) AE)
def Wv:AH:=
 (AJ GX<|AB (AA 1)<|AB (BY Bg Bm KQ (AA 0) AE) AE)
def Ub:AG:=
 (AF (Bh 2<|Az 2 [] (Aj<|AJ HH<|AB (AA 0)<|AB (AA 1) AE) (Al 2<|AI (AD 0)<|AI (AD 1) An) (mC<|.bl true) Wx)
 (AF (J3 2<|Az 1 [0] (Aj<|BY A7 Aa E9 (AA 0) AE) (AD 0) (mC<|.bl true) Ww)
 (AF (J3 2<|Az 1 [0] (Aj<|BY A7 Aa KN (AA 0) AE) (AD 0) (mC<|.bl true) Wv)
 (AN<|AA 2))))
def Pc:qD->Option Ru:=AW 2 3 Ub
abbrev kJ:=fA 8 2 SH Pc
abbrev zd3:Gx:={ Bb with mt:=[("rooms",A7,Aa,Hn),("stay",A7,Aa,Vu),("doors",A7,Aa,Vw),("asks",Bg,Bm,WC)] }
abbrev zdg:Gm:=gA SH 7 [("placed_goal",OP),("placed",LX)] [] ["told"] (ox:=zd3)
theorem zdu:Ck zdg kJ SH Ub:={}
def Fg(M:Mc)(gl:List<|Str×qD):List<|qD:=gl.map (·.2)++(M.rs.map (·.2)++M.ds.map (·.g))
def Yg:∀y∈FN,y∈CZ:=by decide +kernel
def J7(ws:kq)(l:qD):AZ (l.map<|Bp ws)=true:=by
 rw[Cz,Ñ];intro t a;let(u,_,rfl):=Ò.mp a
 rfl
def Qp{α:Type}(ws:kq)(f:α->qD)(o:Bool)(L:List α):BA (L.map λx=>T.nd o .lst<|(f x).map (Bp ws))=(L.map f).map λl=>T.lst<|l.map<|Bp ws:=by
 rw[Cw,è,è];show Ć λx z=>?_;show(show T.nd false .lst (BA _)=_ from ?_);rw[A8 _<|J7 ws _];rfl
def al_ok{M:Mc}(h:McOk M){gl:List<|Str×qD}(m:FI M.ws (M.rs.map (·.1)) gl)(hn:gl.length<=1000):Pc [CV M,.lst<|gl.map AS]=!(.ok<|.own<|(Fg M gl).map λl=>.lst<|l.map<|Bp M.ws):=by
 let gs:=m.sh;let pg:=TQ h m hn;let D:=Ia h;let md:=f7 h;let u:=h.r.l64;let q:=h.dl
 let Ce:=DW (b:=Al 2<|AI (AD 0)<|AI (AD 1) An) (me:=Wx) (λg:Str×qD=>.tup [.str g.1,.lst<|g.2.map<|Bp M.ws]) (λg=>.lst<|g.2.map<|Bp M.ws) (λY=>∃x y,Y=[x,y]) gl [(),()] {(()),(),rfl} λg c Y a=>by
  let(x,y,rfl):=a;show{[!(.str g.1),!(.lst<|g.2.map<|Bp M.ws)],by simp_all_arith [],?_,_,_,rfl};unfold Wx
  simp_all_arith [J7]
 let E4:=DW (b:=AD 0) (me:=Ww) (λr:Str×qD=>.str r.1) (λr=>.own<|r.2.map<|Bp M.ws) (λY=>∃x,Y=[x,!(CV M)]) M.rs [(),!(CV M)] {(()),rfl} λr c Y a=>by
  let(x,rfl):=a;let(i,s,rfl):=Ő.mp c;let ms:=fR h s;let k:=h.r.lk _ c;let j:=Kl h k.1 Yg k.2;let e:=k.1.sh;show{[!(.str M.rs[i].1),!(CV M)],by simp_all_arith [],?_,_,rfl}
  unfold Ww
  simp![B8,BE,h.ss,h.sd,ms,e,j]
 let f:=DW (b:=AD 0) (me:=Wv) BU (λd=>.own<|d.g.map<|Bp M.ws) (λY=>∃x,Y=[x,!(CV M)]) M.ds [(),!(CV M)] {(()),rfl} λd c Y a=>by
  let(x,rfl):=a;let k:=h.d d c;let e:AZ d.g=true:=k.g.sh;let n:=mG e;let j:=Kl h k.g (λy w=>w) k.gl
  let sd:=Jq k;show{[!(BU d),!(CV M)],by simp_all_arith [],?_,_,rfl};unfold Wv
  simp![B8,BE,h.ss,h.sd,n,e,j]
 let H:AZ (gl.map λg=>T.tup [.str g.1,.lst<|g.2.map<|Bp M.ws])=true:=by
  rw[Cz,Ñ];intro t v;let(g,_,rfl):=Ò.mp v
  simp![J7]
 let p:(M.rs.map (·.1)).map T.str=M.rs.map λr=>T.str r.1:=by rw[è];rfl
 rw[<- p]at E4;let l1:gl.length<=100000:=by lia
 let z:M.rs.length<=100000:=by lia
 let A:M.ds.length<=100000:=by lia
 let B:gl.length+M.rs.length<=100000:=by lia
 let C:gl.length+M.rs.length+M.ds.length<=100000:=by lia
 let E:=Qp M.ws (λg:Str×qD=>g.2) false gl;let F:=Qp M.ws (λg:Str×qD=>g.2) true M.rs;let G:=Qp M.ws (λd:Dr=>d.g) true M.ds;let o:(gl.map λg=>T.lst<|g.2.map<|Bp M.ws)=(gl.map (·.2)).map λl=>T.lst<|l.map<|Bp M.ws:=by rw[è];rfl
 unfold Pc Ub Fg;rw[à,à,<- ð]
 simp![B8,BE,h.ss,h.sd,gs,pg,D,md,Ce,E4,f,E,F,G,o,H,À,ß,l1,z,A,B,C]
abbrev Rj:Stmt:=AK 70
def mZ:AH:=
 (mC<|.int 0)
def MS:AG:=
 (Kc 2 (m2 FL (AA 4)<|mC<|.int 1)<|Bk LW<|AB (AM (AA 2)<|m2 FL (AA 4)<|mC<|.int 1)<|AB (AA 6) AE)
def MT:AG:=
 (BV (Aj<|AA 3) (Al 3<|AI (AD 4)<|AI (AD 5)<|AI (AD 6) An) MS)
def UU:AG:=
 (AF (Bh 2<|Az 1 [] (Aj<|BY A7 Aa JG (AA 0) AE) (AD 0) (mC<|.bl true) mZ)
 (AF (BV (Aj<|AJ Pc<|AB (AA 0)<|AB (AA 1) AE) (AD 3) MT)
 (AN<|AA 2)))
def Lv:qD->Option Ru:=AW 2 7 UU
abbrev j8:=fA 9 2 Rj Lv
abbrev ze8:Gx:={ Bb with mt:=[("watches",A7,Aa,OY)] }
abbrev zei:Gm:=gA Rj 8 [("all_looks",kJ)] ["max"] ["numbers"] (ox:=ze8)
theorem zew:Ck zei j8 Rj UU:={}
def CU(x:Str):qD->Int
 |[]=>0|t::r=>if DE t=x then max (Bl t) (CU x r) else CU x r
def Tf(x:Str):∀l:qD,0<=CU x l
 |[]=>ł 0|t::r=>by
  let:=Tf x r;unfold CU;split;lia;show this
theorem Tg(x:Str)(t:T)(r:qD):CU x (t::r)=if DE t=x then max (Bl t) (CU x r) else CU x r:=rfl
def fN(x:Str)(m:qD):∀l:qD,CU x (l++m)=max (CU x l) (CU x m)
 |[]=>by
  let:=Tf x m;rw[ĵ];show(show _=max 0 _ from ?_)
  lia
 |t::r=>by
  let:=fN x m r;rw[ŏ,Tg,Tg];split;rw[this];lia;show this
abbrev Ei(ws:kq)(f:Str->Int):qD:=ws.map λx=>.int<|f x
def zq4{ws:kq}(hd:ws.Nodup)(f:Str->Int){j:Nat}(hj:j<ws.length){v:Int}:(Ei ws f).set j (.int v)=Ei ws λx=>if x=ws[j] then v else f x:=by
 apply ķ;intro i;by_cases a:i<ws.length;rw[É,Á a];by_cases e:i=j;subst e;rw[é (by rw[À];show a)];simp;rw[å<|Í e,É,Á a];let:ws[i]≠ws[j]:=λq=>e<|(ñ hd).mp q
 simp[this];rw[þ (by rw[Đ,À];lia),þ (by rw[À];lia)]
def ix_lt{n i:Nat}(h:i<n):CY n (i:Int)=!i:=by unfold CY;simp;lia
def i4{M:Mc}(h:McOk M){wd:kq}{l:qD}(hl:Ci M.ws wd l){a0 a1 a3:q9}:∀(m:qD) (f:Str->Int) (x4 x5 x6:q9),(∀x,0<=f x)->(∀t∈m,t∈l)->∃y4 y5 y6,BC (Al 3<|AI (AD 4)<|AI (AD 5)<|AI (AD 6) An) MS (m.map<|Bp M.ws) [a0,a1,!(.own<|Ei M.ws f),a3,x4,x5,x6]=!(.nx [a0,a1,!(.own<|Ei M.ws λx=>max (f x)<|CU x m),a3,y4,y5,y6])
 |[],f,x4,x5,x6,a,Z=>{x4,x5,x6,by
  let e:(λx=>max (f x)<|CU x [])=f:=funext λx=>by
   let:=a x;show(?_:max (f x) 0=f x)
   lia
  rw[e]
  rfl}
 |t::m,f,x4,x5,x6,a,c=>by
  let(y,s,A,B):=Ic<|hl t<|c t (Î ..);let(j,k,b,o):=Gv s
  let(y4,y5,y6,e):=i4 h hl (a0:=a0) (a1:=a1) (a3:=a3) m (λx=>if x=M.ws[j] then (if Bl t > f M.ws[j] then Bl t else f M.ws[j]) else f x) (!(.int<|(j:Int)+1)) (!(.str<|Cd t)) (!(.int<|Bl t)) (λx=>by
   let p:=a x;let v:=a M.ws[j];split
   split<;>lia
   show p) λu hu=>c u<|Ë _ hu
  show{y4,y5,y6,?_};let d:((j:Int)+1 - 1)=j:=by lia
  let g:A9 (Ei M.ws f) (j:Int)=!(.int<|f M.ws[j]):=Fq (by rw[É,Á b];rfl);let r:=ix_lt b
  let w:MS [a0,a1,!(.own<|Ei M.ws f),a3,!(.int<|(j:Int)+1),!(.str<|Cd t),!(.int<|Bl t)]=!(.nx [a0,a1,!(.own (Ei M.ws λx=>if x=M.ws[j] then (if Bl t > f M.ws[j] then Bl t else f M.ws[j]) else f x)),a3,!(.int<|(j:Int)+1),!(.str<|Cd t),!(.int<|Bl t)]):=by
   rw[<- zq4 h.wd f b];unfold MS
   simp![d,g,r,À]
  let n:Bp M.ws t=.tup [.int<|(j:Int)+1,.str<|Cd t,.int<|Bl t]:=by
   unfold Bp;rw[k];rfl
  let i:(λx=>max (if x=M.ws[j] then (if Bl t > f M.ws[j] then Bl t else f M.ws[j]) else f x)<|CU x m)=λx=>max (f x)<|CU x<|t::m:=funext λx=>by
   rw[Tg,<- o];by_cases q:x=M.ws[j];subst q;rw[if_pos rfl,if_pos rfl];split<;>lia;rw[if_neg q,if_neg<|λz=>q z.symm]
  rw[i]at e;rw[Ù,n]
  conv=>lhs;unfold BC
  simp![w,e]
def i3{M:Mc}(h:McOk M){a0 a1:q9}:∀(L:List<|qD) (f:Str->Int) (x3 x4 x5 x6:q9),(∀x,0<=f x)->(∀l∈L,Ci M.ws CZ l)->∃y3 y4 y5 y6,BC (AD 3) MT (L.map λl=>.lst<|l.map<|Bp M.ws) [a0,a1,!(.own<|Ei M.ws f),x3,x4,x5,x6]=!(.nx [a0,a1,!(.own<|Ei M.ws λx=>max (f x)<|CU x L.flatten),y3,y4,y5,y6])
 |[],f,x3,x4,x5,x6,a,z=>{x3,x4,x5,x6,by
  let e:(λx=>max (f x)<|CU x ([]:List<|qD).flatten)=f:=funext λx=>by
   let:=a x;show(?_:max (f x) 0=f x)
   lia
  rw[e]
  rfl}
 |l::L,f,x3,x4,x5,x6,a,c=>by
  let(d,g,i,j):=i4 h (c l (Î ..)) (a0:=a0) (a1:=a1) (a3:=!(.lst<|l.map<|Bp M.ws)) l f x4 x5 x6 a λt m=>m;let(y3,y4,y5,y6,b):=i3 h (a0:=a0) (a1:=a1) L (λx=>max (f x)<|CU x l) (!(.lst<|l.map<|Bp M.ws)) d g i (λx=>by let:=a x;lia) λl hl=>c l<|Ë _ hl
  show{y3,y4,y5,y6,?_}
  let w:MT [a0,a1,!(.own<|Ei M.ws f),!(.lst<|l.map<|Bp M.ws),x4,x5,x6]=!(.nx [a0,a1,!(.own<|Ei M.ws λx=>max (f x)<|CU x l),!(.lst<|l.map<|Bp M.ws),d,g,i]):=by
   unfold MT
   simp![J7,A8 _<|J7 _ _,j]
  let k:(λx=>max (max (f x)<|CU x l)<|CU x L.flatten)=λx=>max (f x)<|CU x (l::L).flatten:=funext λx=>by
   rw[List.flatten_cons,fN];lia
  rw[k]at b;rw[Ù]
  conv=>lhs;unfold BC
  simp![w,b]
def gr_ok{M:Mc}(h:McOk M){gl:List<|Str×qD}(c:FI M.ws (M.rs.map (·.1)) gl)(hn:gl.length<=1000):Lv [CV M,.lst<|gl.map AS]=!(.ok<|.own<|Ei M.ws λx=>CU x (Fg M gl).flatten):=by
 let gs:=c.sh;let i:=al_ok h c hn;let u:=Th h;let q:=h.wl
 let s:=DW (b:=AD 0) (me:=mZ) T.str (λϊ=>.int 0) (λY=>∃x,Y=[x]) M.ws [()] {(()),rfl} λg a Y p=>by
  let(x,rfl):=p;show{[!(.str g)],by simp_all_arith [],rfl,_,rfl}
 let(v,w,z,A,e):=i3 h (a0:=!(CV M)) (a1:=!(.lst<|gl.map AS)) (Fg M gl) (λϊ=>0) () () () () (λϊ=>ł 0) λl hl=>by
  unfold Fg at hl;rcases Ú.mp hl with hl|hl;let(g,a,rfl):=Ò.mp hl;show(c g a).2.1;rcases Ú.mp hl with hl|hl;let(r,a,rfl):=Ò.mp hl;intro t f;let(x,y,n,e,k,m,o):=(h.r.lk r a).1 t f;show{x,y,n,e,k,Yg y m,o}
  let(d,a,rfl):=Ò.mp hl;show(h.d d a).g
 let j:(λx=>max 0<|CU x (Fg M gl).flatten)=λx=>CU x (Fg M gl).flatten:=funext λx=>by
  let:=Tf x (Fg M gl).flatten;lia
 rw[j]at e;let l1:↥M<=100000:=by lia
 let sa:AZ ((Fg M gl).map λl=>T.lst<|l.map<|Bp M.ws)=true:=by
  rw[Cz,Ñ];intro t f;let(l,_,rfl):=Ò.mp f
  simp![J7]
 unfold Lv UU
 simp![B8,BE,h.ss,h.sd,u,gs,À,l1,s,i,sa,e]
abbrev Rc:Stmt:=AK 83
def QN:AG:=
 (AX (Bq (m2 BS (AM (AA 2)<|mC<|.int 0)<|AM (AA 1)<|mC<|.int 0)<|AJ Hx<|AB (AM (AA 1)<|mC<|.int 1)<|AB (AM (AA 2)<|mC<|.int 1) AE) (AN<|mC<|.bl true) A5)
def UQ:AG:=
 (AF (BV (Gy<|AB (AA 0) AE) (AD 2) QN)
 (AN<|mC<|.bl false))
def PV:qD->Option Ru:=AW 2 3 UQ
abbrev j4:=fA 3 2 Rc PV
abbrev zcj:Gm:=gA Rc 2 [("within",Va)] ["reversed"]
theorem zcr:Ck zcj j4 Rc UQ:={}
structure Nd where
 r:Str
 z:Db.Z
 p:Option Nat
 k:Option Nat
def CJ:Option Nat->T
 |some i=>.int (i:Int)|none=>.non
def AO(m:Nat)(n:Nd):T:=.tup [.str n.r,zT (m+1) n.z,CJ n.p,CJ n.k]
def Eg(o:Option Nat):(CJ o).sh=true:=by cases o<;>rfl
def GH(m:Nat)(n:Nd):(AO m n).sh=true:=by
 let a:=Eg n.p;let b:=Eg n.k;let c:=Bv (n:=m+1) (f:=n.z);unfold AO;change CJ n.p=P;change CJ n.k=K;change zT (m+1) n.z=Z
 simp![a,b,c]
def Fj(m:Nat)(L:List Nd):AZ (L.map<|AO m)=true:=CN λn z=>GH m n
def Eo(m:Nat)(L:List Nd)(n:Nd):Bool:=L.any λo=>decide (o.r=n.r) && Eb (m+1) n.z o.z
def jE{α:Type}{b:T->AL->Option AL}{body:AG}(f:α->T)(p:α->Bool)(a:T)(I:AL->Prop):∀(L:List α) (Y:AL),I Y->(∀x∈L,∀Y,I Y->∃τ1,b (f x) Y=!τ1/\(p x=false->∃τ2,body τ1=!(.nx τ2)/\I τ2)/\(p x=true->body τ1=!(.rt a)))->(L.any p=false->∃Y',BC b body (L.map f) Y=!(.nx Y')/\I Y')/\(L.any p=true->BC b body (L.map f) Y=!(.rt a))
 |[],Y,h,w=>{λϊ=>{(Y),rfl,h},λz=>by cases z}|x::L,Y,h,hs=>by
  let(τ1,d,g,i):=hs x (Î ..) Y h;rw[Ù,ĝ];unfold BC;rw[d];cases c:p x with
  |true=>simp[i c]|false=>let(τ2,e,k):=g c;erw[e,ĺ];show jE f p a I L τ2 k λy j=>hs y<|Ë _ j
def zqv{m:Nat}{L:List Nd}{n:Nd}(hl:L.length<=100000)(w:∀o∈L,PyData.strOk o.r=true)(hn:PyData.strOk n.r=true):PV [.lst<|L.map<|AO m,AO m n]=!(.ok<|.bl<|Eo m L n):=by
 let s:=Fj m L;let t:=GH m n
 let g:=jE (b:=AD 2) (body:=QN) (AO m) (λo=>decide (o.r=n.r) && Eb (m+1) n.z o.z) (.bl true) (λY=>∃x,Y=[!(.lst<|L.map<|AO m),!(AO m n),x]) L.reverse [!(.lst<|L.map<|AO m),!(AO m n),()] {(()),rfl} λo y Y v=>by
  let(x,rfl):=v;let l:=YC (n:=m+1) n.z o.z;let p:=Fe (w o<|List.mem_reverse.mp y) hn;let d:=Bv (m+1) n.z;let f:=Bv (m+1) o.z;let f1:=Ak _ d;let f2:=Ak _ f;let h:=Eg n.p;let i:=Eg n.k;let j:=Eg o.p;let k:=Eg o.k;show{[!(.lst<|L.map<|AO m),!(AO m n),!(AO m o)],rfl,?_};change L.map (AO m)=LT;change Eb (m+1) n.z o.z=bb;unfold AO at *;change zT (m+1) n.z=Z1;change zT (m+1) o.z=Z2;change CJ n.p=P1;change CJ n.k=P2;change CJ o.p=P3;change CJ o.k=P4;unfold QN
  by_cases c:o.r=n.r;let a:BS (.str o.r) (.str n.r)=!(.bl true):=by rw[p,Ä c]
  rw[Ä c,Θ];cases bb with
  |true=>show{λz=>(by cases z),λϊ=>by simp![h,i,j,k,d,f,f1,f2,a,l]}|false=>show{λϊ=>{_,by simp![h,i,j,k,d,f,f1,f2,a,l];rfl,_,rfl},λz=>by cases z}
  let a:BS (.str o.r) (.str n.r)=!(.bl false):=by rw[p,Õ c]
  rw[Õ c,ŗ];show{λϊ=>{_,by simp_all_arith [h,i,j,k,d,f,f1,f2,a,l],_,rfl},λz=>by cases z}
 let u:L.reverse.any (λo=>decide (o.r=n.r) && Eb (m+1) n.z o.z)=Eo m L n:=List.any_reverse;rw[u]at g;let r:(L.map<|AO m).reverse=L.reverse.map (AO m):=List.map_reverse.symm;let q:(L.map<|AO m).length<=100000:=by rw[À];show hl
 unfold PV UQ;cases c:Eo m L n with
 |true=>
  let e:=g.2 c;rw[<- r]at e;change L.map (AO m)=LT;change AO m n=NT
  simp![Gy,s,t,q,e]
 |false=>
  let(A,e,x,rfl):=g.1 c;rw[<- r]at e;change L.map (AO m)=LT;change AO m n=NT
  simp![Gy,s,t,q,e]
abbrev SO:Stmt:=B3 81 1
def Nc:AG:=
 (AF (AV (C8 (Ax (AU A7 Aa 1<|AA 0)<|Ax (AU Ad Af 2<|AA 0)<|AU Ac Ae 3<|AA 0)<|AA 1)<|AD 3)
 (AF (AV (AJ Dg<|AB (AA 2)<|AB (AA 3) AE)<|AD 4)
 (AF (AX (m2 (BO false) (AA 4)<|mC .non) (AN<|mC .non) A5)
 (AF (AV (AJ P6<|AB (AJ Dg<|AB (AJ Li<|AB (AA 4) AE)<|AB (AA 3) AE)<|AB (AU Ac Ae 1<|AA 0) AE)<|AD 5)
 (AF (AX (m2 (BO false) (AU Ac Ae 5<|AA 0)<|mC .non) (AN<|AA 5) A5)
 (AN<|AJ nS<|AB (AA 5)<|AB (AU Ac Ae 5<|AA 0) AE))))))
def JF:qD->Option Ru:=AW 3 6 Nc
abbrev Vr:=fA 5 3 SO JF
abbrev zbl:Gx:={ Bb with cl:=[("Machine",A7,Aa),("Sheet",Ad,Af),("Walk",Ac,Ae)] }
abbrev zbr:Gm:=gA SO 4 [("met",Im),("folded",kD),("waited",Vb),("freed",j9)] [] (ox:=zbl)
theorem zby:Ck zbr Vr SO Nc:={}
def Fy{k n:Nat}{u:AG}{ts:qD}{t:T}(hk:ts.length=k)(h:u (ts.map some++List.replicate (n - ts.length) ())=!(.rt t)):AW k n u ts=!(.ok t):=by
 unfold AW Kh;lia
def Ep(M:Mc)(mk:qD)(mo:Nat->Db.B):qD:=[.lst mk,rT ↥M mo,.str<|M.nm.headD "",.obj (.sdc M.nm)<|M.nm.map<|DZ M,.obj (.sdc M.nm)<|M.nm.map<|Dh M,.non]
def HI(M:Mc)(mk:qD)(mo:Nat->Db.B):T:=.obj (.ins Ac Ae)<|Ep M mk mo
structure WkK(M:Mc)(mk:qD)(mo:Nat->Db.B)(S:T):Prop where
 i:Aw Ac Ae S=!(Ep M mk mo)
 n:Aw A7 Aa S=()
 n2:Aw Ad Af S=()
 s:S.sh=true
 k:AZ mk=true
 o:(rT ↥M mo).sh=true
 t:AZ (M.nm.map<|DZ M)=true
 w:AZ (M.nm.map<|Dh M)=true
def zop(m:Nat)(mo:Nat->Db.B):(rT m mo).sh=true:=by
 let:AZ (mT m λi=>bT<|mo i)=true:=FP λi=>Ow _;show(?_:((not false) && AZ (mT m λi=>bT<|mo i))=true);rw[this];rfl
def wkK(M:Mc){mk:qD}(hk:AZ mk=true)(mo:Nat->Db.B):WkK M mk mo<|HI M mk mo:=by
 let a:=zop ↥M mo;let b:AZ (M.nm.map<|DZ M)=true:=CN λx y=>J2 M x
 let c:AZ (M.nm.map<|Dh M)=true:=CN λx y=>Ml M x
 show{(show Aw Ac Ae (HI M mk mo)=(if Ac=Ac/\Ae=Ae then ↑(Ep M mk mo) else ()) from rfl).trans (if_pos {(rfl),rfl}),(show Aw A7 Aa (HI M mk mo)=(if Ac=A7/\Ae=Aa then ↑(Ep M mk mo) else ()) from rfl).trans (if_neg λz=>by
  let:=z.1;revert this
  decide),(show Aw Ad Af (HI M mk mo)=(if Ac=Ad/\Ae=Af then ↑(Ep M mk mo) else ()) from rfl).trans (if_neg λz=>by
  let:=z.1;revert this
  decide),?_,hk,a,b,c}
 unfold HI Ep;change rT ↥M mo=A;change M.nm.map (DZ M)=B;change M.nm.map (Dh M)=C
 simp![a,b,c,hk]
section
variable {M:Mc}{mk:qD}{mo:Nat->Db.B}{S:T}(k:WkK M mk mo S)
include k
def WkK.f0{Y:AL}{m:AH}{b:Bool}(e:m Y=!(.v S b)):AU Ac Ae 0 m Y=!(.v (.lst mk) false):=by simp_all_arith [-Aw,e,k.i,Ep,k.k]
def WkK.f1{Y:AL}{m:AH}{b:Bool}(e:m Y=!(.v S b)):AU Ac Ae 1 m Y=!(.v (rT ↥M mo) false):=by
 let o:=k.o;let i:=k.i;unfold Ep at i;change rT ↥M mo=A
 simp_all_arith [-Aw,e,i,o]
def WkK.f2{Y:AL}{m:AH}{b:Bool}(e:m Y=!(.v S b)):Ax (AU Ad Af 0 m) (AU Ac Ae 2 m) Y=!(.v (.str<|M.nm.headD "") false):=by simp![-Aw,e,k.i,k.n2,Ep]
def WkK.f3{Y:AL}{m:AH}{b:Bool}(e:m Y=!(.v S b)):Ax (AU A7 Aa 1 m) (Ax (AU Ad Af 2 m)<|AU Ac Ae 3 m) Y=!(.v (.obj (.sdc M.nm)<|M.nm.map<|DZ M) false):=by simp![-Aw,e,k.i,k.n,k.n2,Ep,k.t]
def WkK.f4{Y:AL}{m:AH}{b:Bool}(e:m Y=!(.v S b)):Ax (AU Ad Af 3 m) (AU Ac Ae 4 m) Y=!(.v (.obj (.sdc M.nm)<|M.nm.map<|Dh M) false):=by simp![-Aw,e,k.i,k.n2,Ep,k.w]
def WkK.f5{Y:AL}{m:AH}{b:Bool}(e:m Y=!(.v S b)):AU Ac Ae 5 m Y=!(.v .non false):=by simp_all_arith [-Aw,e,k.i,Ep]
end
def zg2{m:Nat}{L:List<|Nat×Nat×Int}(a:EX m L){f h:Db.Z}(k:Db.Nar (m+1) f)(e:BX L f=!h):∃g,BX L (Dm.wtd h)=!g/\Db.Nar (m+1) g/\Dk.Und (m+1) h g:=by
 let(b,_,d,_):=(Dk.met_ok _ f k<|LC a).1 h e;let n2:=Dm.wtd_nar b;let u:Dk.Und (m+1) h<|Dm.wtd h:=λi j z z=>Dm.wtd_le h i j
 cases c:BX L (Dm.wtd h) with
 |none=>show((Dk.met_ok _ _ n2<|LC a).2 c h b u d).elim|some g=>let(l,_,_,w):=(Dk.met_ok _ _ n2<|LC a).1 g c;show{g,rfl,l,w h b u d}
def E7(M:Mc)(mo:Nat->Db.B)(x:Str)(f:Db.Z):Option Db.Z:=(BX (Au M.ws M.rs x) f).bind λh=>(BX (Au M.ws M.rs x)<|Dm.wtd h).bind λg=>Dj ⇑M<|Db.fld g<|Db.zm mo
def nO{M:Mc}(h:McOk M){mk:qD}{mo:Nat->Db.B}{S:T}(k:WkK M mk mo S){r:Str}(hr:r∈M.nm){f:Db.Z}(u:Db.Nar ⇑M f):JF [S,.str r,zT ⇑M f]=!(.ok<|oT ⇑M<|E7 M mo r f):=by
 let K:=h.wl;let H:=k.s;let w:=Bv ⇑M f;let z:=Ak _ w;let q:=JZ h r;let mt:=Ha (m:=↥M) (by lia) u q
 let b:=EC<|Au M.ws M.rs r;let d:=A8 _ b;let y:∀n o p,AA 0 [!S,!(.str r),!(zT ⇑M f),n,o,p]=!(.v S false):=λϊ Y Y=>by simp_all_arith [H]
 let I:AA 1 [!S,!(.str r),!(zT ⇑M f),(),(),()]=!(.v (.str r) false):=by simp_all_arith []
 let g2:=GU (k.f3<|y () () ()) I hr<|J2 M r;unfold DZ at g2;unfold JF;show Fy rfl ?_;show(show Nc [!S,!(.str r),!(zT ⇑M f),(),(),()]=_ from ?_);unfold Nc;unfold E7;cases c:BX (Au M.ws M.rs r) f with
 |none=>
  rw[c]at mt;let a:Dg [zT ⇑M f,.lst<|(Au M.ws M.rs r).map Am]=!(.ok .non):=mt;change (Au M.ws M.rs r).map Am=SL;show sq (by simp_all_arith [-C8,g2,b,d])<|sq (by simp_all_arith [w,z,b,d,a])<|sr ?_
  simp![]
  rfl
 |some hh=>
  rw[c]at mt;let(g,A,L,_):=zg2 q u c;let G:=NX u q c;let J:=YG (m:=↥M) (by lia) hh
  let e:(T.own<|oZ ⇑M<|Dm.wtd hh).share=zT ⇑M (Dm.wtd hh):=by rw[T.share,Gh]
  let j:=Ha (m:=↥M) (by lia) (Dm.wtd_nar G) q;rw[A]at j;let fo:=fo_ok (m:=↥M) (by lia) g mo
  rw[fE<|by lia]at fo;rw[Ĩ,A,Ĩ];let a:Dg [zT ⇑M f,.lst<|(Au M.ws M.rs r).map Am]=!(.ok<|zT ⇑M hh):=mt;let l:Dg [zT ⇑M<|Dm.wtd hh,.lst<|(Au M.ws M.rs r).map Am]=!(.ok<|zT ⇑M g):=j;let sh:=Bv ⇑M hh;let t:=Ak _ sh;let C:=Bv ⇑M<|Dm.wtd hh;let E:=Ak _ C;let B:=Bv ⇑M g;let s:=Ak _ B;let x:=EI ⇑M<|Dj ⇑M<|Db.fld g<|Db.zm mo;let D:=Ak _ x;let F:BO false (zT ⇑M hh) .non=!(.bl false):=Gi ⇑M ↑hh false;let f1:=λn o p=>k.f1<|y n o p
  let f5:=λn o p=>k.f5<|y n o p
  let i:=k.o;let v:=Ak _ i;change oT ⇑M (Dj ⇑M<|Db.fld g<|Db.zm mo)=OT;change T.own (oZ ⇑M<|Dm.wtd hh)=OW;change zT ⇑M (Dm.wtd hh)=ZW;change zT ⇑M hh=ZH;change zT ⇑M g=ZG;change zT ⇑M f=ZF;change rT ↥M mo=MO;change (Au M.ws M.rs r).map Am=SL;show sq (by simp_all_arith [-C8,g2,b,d])<|sq (by simp_all_arith [w,z,b,d,a,sh,t])<|Bw (by simp![-BO,sh,t,F]) ?_
  show sq (by simp_all_arith [-AU,f1,sh,t,J,e,C,E,b,d,l,B,s,i,v,fo,x,D]) (sr ?_)
  simp_all_arith [-AU,f5,x]
abbrev SN:Stmt:=B3 81 2
def Nb:AG:=
 (AF (AV (BY Ac Ae JF (AA 0)<|AB (Ax (AU Ad Af 0<|AA 0)<|AU Ac Ae 2<|AA 0)<|AB (AJ Lm<|AB (m1 Bd<|AU Ac Ae 1<|AA 0) AE) AE)<|AD 1)
 (AN<|DU (m2 (BO false) (AA 1)<|mC .non) (BQ AE)<|BQ<|BK (BP<|AB (Ax (AU Ad Af 0<|AA 0)<|AU Ac Ae 2<|AA 0)<|AB (AA 1)<|AB (mC .non)<|AB (mC .non) AE) AE))
def MA:qD->Option Ru:=AW 1 2 Nb
abbrev kN:=fA 6 1 SN MA
abbrev za9:Gx:={ Bb with cl:=[("Sheet",Ad,Af),("Walk",Ac,Ae)],mt:=[("arrived",Ac,Ae,Vr)] }
abbrev zad:Gm:=gA SN 5 [("nought",jO)] ["len"] (ox:=za9)
theorem zah:Ck zad kN SN Nb:={}
def nN:Db.Z:=λϊ z=>!1
theorem zq9(n:Nat):Db.Nar n nN:={λϊ z=>rfl,λϊ z=>ł _,λϊ z z z z z=>ł _}
def Cr(M:Mc)(mo:Nat->Db.B):List Nd:=match E7 M mo (M.nm.headD "") nN with
 |some z=>[{M.nm.headD "",z,(),()}]|none=>[]
def zr9{M:Mc}(h:McOk M){mk:qD}{mo:Nat->Db.B}{S:T}(k:WkK M mk mo S):MA [S]=!(.ok<|.own<|(Cr M mo).map (AO ↥M)):=by
 let u:=h.wl;let g:=k.s;let q:=Ak _ g;let no:Lm [.int (↥M:Int)]=_:=zq3 (m:=↥M)<|by lia
 let e:(T.own<|mT ⇑M λϊ=>T.own<|mT ⇑M λϊ=>T.int 1).share=zT ⇑M nN:=by
  show(show (T.own<|oZ ⇑M nN).share=_ from ?_);rw[T.share,Gh]
 let f:=nO h k (Kq h)<|zq9<|↥M+1;let t:∀d,AA 0 [!S,d]=!(.v S false):=λϊ=>by simp_all_arith [g]
 let f1:=λd=>k.f1<|t d
 let f2:=λd=>k.f2<|t d
 let le:Bd (rT ↥M mo)=!(.int (↥M:Int)):=by
  show(show ↑(T.int ((mT ↥M λi=>bT<|mo i).length:Int))=_ from ?_);rw[Bj]
 let a:=k.o;let b:=Ak _ a;let sz:=Bv ⇑M nN;let r:=Ak _ sz;let j:=EI ⇑M<|E7 M mo (M.nm.headD "") nN;let n:=Ak _ j;let o:=Gi ⇑M (E7 M mo (M.nm.headD "") nN) false;let s:=k.i;unfold MA;show Fy rfl ?_;show(show Nb [!S,()]=_ from ?_);unfold Nb Cr;change (T.own<|mT ⇑M λϊ=>T.own<|mT ⇑M λϊ=>T.int 1)=NO
 change zT ⇑M nN=ZN;change rT ↥M mo=MO;cases c:E7 M mo (M.nm.headD "") nN with
 |none=>
  rw[c]at f o;let l:JF [S,.str<|M.nm.headD "",ZN]=!(.ok .non):=f;show sq (by simp_all_arith [-AU,-Ax,-Aw,-Bd,f1,f2,a,b,le,no,e,sz,r,g,q,s,l]) ?_
  simp_all_arith []
 |some z=>
  rw[c]at f o j n;let p:BO false (oT ⇑M !z) .non=!(.bl false):=o;show(show _=!(Out.rt<|.own [.tup [.str<|M.nm.headD "",oT ⇑M !z,.non,.non]]) from ?_);change oT ⇑M ↑z=OT;show sq (by simp_all_arith [-AU,-Ax,-Aw,-Bd,f1,f2,a,b,le,no,e,sz,r,g,q,s,f,j,n]) ?_
  simp![-AU,-Ax,-BO,f2,j,n,p]
abbrev SJ:Stmt:=B3 81 3
def JQ:AG:=
 (AF (AV (AJ Dg<|AB (AM (AA 1)<|mC<|.int 1)<|AB (AA 6) AE)<|AD 8)
 (AF (AX (m2 (BO true) (AA 8)<|mC .non) (AV (BY Ac Ae JF (AA 0)<|AB (AA 5)<|AB (AJ JA<|AB (AA 8)<|AB (AA 7) AE) AE)<|AD 8) A5)
 (AX (m2 (BO true) (AA 8)<|mC .non) (CO 3<|BP<|AB (AA 5)<|AB (AA 8)<|AB (AA 2)<|AB (AA 4) AE) A5)))
def N8:AG:=
 (AF (Bh 3<|BQ AE)
 (AF (BV (Aj<|C8 (Ax (AU Ad Af 3<|AA 0)<|AU Ac Ae 4<|AA 0)<|AM (AA 1)<|mC<|.int 0) (Al 4<|AI (AD 4)<|AI (AD 5)<|AI (AD 6)<|AI (AD 7) An) JQ)
 (AN<|AA 3)))
def Lz:qD->Option Ru:=AW 3 9 N8
abbrev kL:=fA 6 3 SJ Lz
abbrev zak:Gx:={ Bb with cl:=[("Sheet",Ad,Af),("Walk",Ac,Ae)],mt:=[("arrived",Ac,Ae,Vr)] }
abbrev zaq:Gm:=gA SJ 5 [("met",Im),("put_back",Ve)] [] ["told"] (ox:=zak)
theorem zaw:Ck zaq kL SJ N8:={}
def fD(M:Mc)(mo:Nat->Db.B)(f:Db.Z)(d:Dr):Option Db.Z:=(BX (gK M.ws d) f).bind λz=>E7 M mo d.e<|Dm.pbk z<|BH<|BB M.ws d.n
def HY(M:Mc)(mo:Nat->Db.B)(f:Db.Z)(a:Nat)(p:Nat×Dr):Option Nd:=(fD M mo f p.2).map λz=>{p.2.e,z,!a,!p.1}
def Fi(M:Mc)(mo:Nat->Db.B)(n:Nd)(a:Nat):List Nd:=(B0 n.r 0 M.ds).flatMap λp=>(HY M mo n.z a p).toList
abbrev Kp(S N:T)(a:Nat)(A:qD)(b c d e f:q9):AL:=[!S,!N,!(.int (a:Int)),!(.own A),b,c,d,e,f]
def zja{M:Mc}(h:McOk M){mk:qD}{mo:Nat->Db.B}{S:T}(k:WkK M mk mo S){n:Nd}(hn:Db.Nar ⇑M n.z){a:Nat}{p:Nat×Dr}(I:p.2∈M.ds){A:List Nd}(H:A.length<100000)(O:q9) :
  ∃y8,JQ (Kp S (AO ↥M n) a (A.map<|AO ↥M) (!(.int (p.1:Nat))) (!(.str p.2.e)) (!(.lst<|(gK M.ws p.2).map Am)) (!(.lst<|EB<|BB M.ws p.2.n)) O)=!(.nx<|Kp S (AO ↥M n) a ((A++(HY M mo n.z a p).toList).map (AO ↥M)) (!(.int (p.1:Nat))) (!(.str p.2.e)) (!(.lst<|(gK M.ws p.2).map Am)) (!(.lst<|EB<|BB M.ws p.2.n)) y8):=by
 let P:=h.wl;let E:=k.s;let D:=h.d _ I;let hr:p.2.e∈M.nm:=D.e;let l:=Bv ⇑M n.z;let s:=Ak _ l;let y:EX ↥M<|gK M.ws p.2:=J6 D.g;let m1:=Ha (m:=↥M) (by lia) hn y
 let o:=EC<|gK M.ws p.2;let t:=A8 _ o;let c:=NW<|BB M.ws p.2.n;let en:=A8 _ c;let v:=Eg n.p;let w:=Eg n.k;let C:=k.i;let Q:=Fj ↥M A;let J:(A.map<|AO ↥M).length<100000:=by rw[À];show H
 unfold HY fD;cases r:BX (gK M.ws p.2) n.z with
 |none=>
  rw[r]at m1;let m1:Dg [zT ⇑M n.z,.lst<|(gK M.ws p.2).map Am]=!(.ok .non):=m1;rw[Option.bind_none,Option.map_none,Option.toList_none,ê];show{!.non,?_};change A.map (AO ↥M)=AT;unfold AO;change zT ⇑M n.z=Z;change (gK M.ws p.2).map Am=G;change EB (BB M.ws p.2.n)=N;change CJ n.p=P1;change CJ n.k=P2;unfold JQ
  simp_all_arith [v,w,l,s,o,t,c,en,m1]
 |some g=>
  rw[r]at m1;let K:=NX hn y r;let j:=Zy (n:=↥M+1) (by lia) (by lia) g<|BB M.ws p.2.n
  let L:=TR K<|BB M.ws p.2.n;let e:(T.own<|oZ ⇑M<|Dm.pbk g<|BH<|BB M.ws p.2.n).share=zT ⇑M (Dm.pbk g<|BH<|BB M.ws p.2.n):=by rw[T.share,Gh]
  let b:=nO h k hr L;let F:=Bv ⇑M<|Dm.pbk g<|BH<|BB M.ws p.2.n;let j:JA [oT ⇑M !g,.lst<|EB<|BB M.ws p.2.n]=!(.ok<|.own<|oZ ⇑M<|Dm.pbk g<|BH<|BB M.ws p.2.n):=j;let d:=EI ⇑M !g;let f:=Ak _ d;let B:BO true (oT ⇑M !g) .non=!(.bl true):=Gi ⇑M ↑g true;rw[Ĩ];let q:=EI ⇑M<|E7 M mo p.2.e<|Dm.pbk g<|BH<|BB M.ws p.2.n;let u:=Ak _ q;let i:=Gi ⇑M (E7 M mo p.2.e<|Dm.pbk g<|BH<|BB M.ws p.2.n) true;change zT ⇑M (Dm.pbk g<|BH<|BB M.ws p.2.n)=W;generalize T.own (oZ ⇑M<|Dm.pbk g<|BH<|BB M.ws p.2.n)=σ at *;change oT ⇑M ↑g=G1;cases x:E7 M mo p.2.e (Dm.pbk g<|BH<|BB M.ws p.2.n) with
  |none=>
   rw[x]at b;let b:JF [S,.str p.2.e,W]=!(.ok .non):=b;rw[Option.map_none,Option.toList_none,ê];show{!.non,?_};change A.map (AO ↥M)=AT;unfold AO;change zT ⇑M n.z=Z;change (gK M.ws p.2).map Am=G;change EB (BB M.ws p.2.n)=N;change CJ n.p=P1;change CJ n.k=P2;unfold JQ;show sq (by simp_all_arith [v,w,l,s,o,t,c,en,m1,d,f]) (sq (by simp![-BO,-Aw,B,d,f,c,en,j,e,F,E,C,b];rfl) ?_)
   simp_all_arith []
  |some z=>
   rw[x]at b i q u;let i:BO true (oT ⇑M !z) .non=!(.bl true):=i;show{!(oT ⇑M !z),?_};rw[Ă,Option.toList_some,à,show [({p.2.e,z,!a,!p.1}:Nd)].map (AO ↥M)=[.tup [.str p.2.e,oT ⇑M !z,.int (a:Int),.int (p.1:Int)]] from rfl];change A.map (AO ↥M)=AT;unfold AO;change oT ⇑M ↑z=OT;change zT ⇑M n.z=Z;change (gK M.ws p.2).map Am=G;change EB (BB M.ws p.2.n)=N;change CJ n.p=P1;change CJ n.k=P2;unfold JQ;show sq (by simp_all_arith [v,w,l,s,o,t,c,en,m1,d,f])<|sq (by simp![-BO,-Aw,B,d,f,c,en,j,e,F,E,C,b,q,u];rfl) ?_
   simp![-BO,i,q,u,J]
def zpz{M:Mc}(h:McOk M){mk:qD}{mo:Nat->Db.B}{S:T}(k:WkK M mk mo S){n:Nd}(hr:n.r∈M.nm)(hn:Db.Nar ⇑M n.z)(a:Nat):Lz [S,AO ↥M n,.int (a:Int)]=!(.ok<|.own<|(Fi M mo n a).map (AO ↥M)):=by
 let v:=k.s;let F:=GH ↥M n;let l1:=ML n.r M.ds 0;let D:=h.dl
 let E:(Fi M mo n a).length<=M.ds.length:=by
  show Ö ?_ l1;unfold Fi;generalize B0 n.r 0 M.ds=L
  induction L with
  |nil=>show Ã _|cons x r C=>
   rw[List.flatMap_cons,ß,ï];let:((HY M mo n.z a x).toList).length<=1:=by cases HY M mo n.z a x<;>simp
   lia
 let(y,e,d,f,g,i,c,rfl):=jG (b:=Al 4<|AI (AD 4)<|AI (AD 5)<|AI (AD 6)<|AI (AD 7) An) (body:=JQ) (CH M.ws) (λ(B:List Nd) Y=>∃d f g i c,Y=Kp S (AO ↥M n) a (B.map<|AO ↥M) d f g i c) (λp=>(HY M mo n.z a p).toList) 99999 (B0 n.r 0 M.ds) [] (Kp S (AO ↥M n) a [] () () () () ()) {_,_,_,_,_,rfl} (by
   show(?_:0+(Fi M mo n a).length<=99999)
   lia) λp o B Y m z=>by
  let(d,f,g,i,c,rfl):=m;let(H,e):=zja h k hn (a:=a) (p:=p) (MJ o) (A:=B) (by lia) c
  show{_,by unfold CH;change (gK M.ws p.2).map Am=G;change EB (BB M.ws p.2.n)=N;simp_all_arith [],_,e,_,_,_,_,_,rfl}
 rw[ĵ]at e
 let gt:C8 (Ax (AU Ad Af 3<|AA 0)<|AU Ac Ae 4<|AA 0) (AM (AA 1)<|mC<|.int 0) [!S,!(AO ↥M n),!(.int (a:Int)),!(.own []),(),(),(),(),()]=!(.v (Dh M n.r) false):=by
  let w:AA 0 [!S,!(AO ↥M n),!(.int (a:Int)),!(.own []),(),(),(),(),()]=!(.v S false):=by simp_all_arith [v]
  show GU (b2:=false) (k.f4 w) ?_ hr<|Ml M n.r;let q:=Bv ⇑M n.z;let s:=Eg n.p;let t:=Eg n.k;unfold AO;change zT ⇑M n.z=Z;change CJ n.p=P1;change CJ n.k=P2
  simp_all_arith [q,s,t]
 let j:AZ ((B0 n.r 0 M.ds).map (CH M.ws))=true:=CN λp X=>JO _ p;let l:=A8 _ j;unfold Dh at gt;unfold Fi;unfold Lz;show Fy rfl ?_;show(show N8 [!S,!(AO ↥M n),!(.int (a:Int)),(),(),(),(),(),()]=_ from ?_);unfold N8;let u:=Fj ↥M<|(B0 n.r 0 M.ds).flatMap λp=>(HY M mo n.z a p).toList
 unfold Kp at e;change ((B0 n.r 0 M.ds).flatMap λp=>(HY M mo n.z a p).toList).map (AO ↥M)=RT;change (B0 n.r 0 M.ds).map (CH M.ws)=WT;change AO ↥M n=NT;show sq (by simp_all_arith [])<|sq (by simp_all_arith [-C8,gt,j,l,e]) ?_
 simp![u]
abbrev SM:Stmt:=B3 81 4
def OD:AH:=
 (m2 BS (AA 0)<|AM (AA 2)<|mC<|.int 0)
def Om:AH:=
 (AJ Dg<|AB (AM (AA 2)<|mC<|.int 1)<|AB (AA 1) AE)
def OC:AH:=
 (m2 (BO true) (AA 0)<|mC .non)
def Ol:AH:=
 (AA 0)
def Na:AG:=
 (AF (AV (Az 2 [1] (Aj<|AU Ac Ae 0<|AA 0) (Al 2<|AI (AD 0)<|AI (AD 1) An) OD Om)<|AD 2)
 (AN<|Az 1 [] (Aj<|AA 2) (AD 0) OC Ol))
def Pd:qD->Option Ru:=AW 2 3 Na
abbrev kM:=fA 5 2 SM Pd
abbrev zb0:Gx:={ Bb with cl:=[("Walk",Ac,Ae)] }
abbrev zb1:Gm:=gA SM 4 [("met",Im)] [] (ox:=zb0)
theorem zb2:Ck zb1 kM SM Na:={}
def JK(m:Nat)(K:List<|Str×List (Nat×Nat×Int)):Prop:=∀k∈K,PyData.strOk k.1=true/\EX m k.2
def E6(K:List<|Str×List (Nat×Nat×Int))(n:Nd):List<|Option Db.Z:=(K.filter λk=>decide (k.1=n.r)).map λk=>BX k.2 n.z
def hz_ok{M:Mc}(h:McOk M){K:List<|Str×List (Nat×Nat×Int)}(i:JK ↥M K)(G:K.length<=1000){mo:Nat->Db.B}{S:T}(k:WkK M (K.map C4) mo S){n:Nd}(hr:PyData.strOk n.r=true)(hn:Db.Nar ⇑M n.z):Pd [S,AO ↥M n]=!(.ok<|.own<|((E6 K n).filter Option.isSome).map (oT<|↥M+1)):=by
 let E:=h.wl;let C:=k.s;let B:=GH ↥M n;let g:=Bv ⇑M n.z;let t:=Ak _ g;let p:=Eg n.p;let r:=Eg n.k
 let Ce:CK (Al 2<|AI (AD 0)<|AI (AD 1) An) OD Om (K.map C4) [(),(),!(AO ↥M n)]=!((E6 K n).map (oT<|↥M+1)):=by
  let c:=Hf (b:=Al 2<|AI (AD 0)<|AI (AD 1) An) (mt:=OD) (me:=Om) C4 (λk=>oT ⇑M<|BX k.2 n.z) (λk=>decide (k.1=n.r)) (λY=>∃x y,Y=[x,y,!(AO ↥M n)]) K [(),(),!(AO ↥M n)] {_,_,rfl} λq j Y d=>by
   let(x,y,rfl):=d;let w:=Fe (i q j).1 hr;let mt:=Ha (m:=↥M) (by lia) hn (i q j).2
   let s:=EC q.2;let u:=A8 _ s;let a:=EI ⇑M<|BX q.2 n.z;show{[!(.str q.1),!(.lst<|q.2.map Am),!(AO ↥M n)],false,by unfold AO;change zT ⇑M n.z=Z;change CJ n.p=P1;change CJ n.k=P2;simp_all_arith [],?_,λϊ=>?_,_,_,rfl}
   unfold AO OD;change q.2.map Am=L;change zT ⇑M n.z=Z;change CJ n.p=P1;change CJ n.k=P2;change decide (q.1=n.r)=bb
   simp_all_arith [p,r,g,w]
   unfold AO Om;generalize oT ⇑M (BX q.2 n.z)=σ at *;change q.2.map Am=L;change zT ⇑M n.z=Z;change CJ n.p=P1;change CJ n.k=P2
   simp_all_arith [p,r,g,t,s,u,mt,a]
  rw[c];unfold E6;rw[è];rfl
 let E4:CK (AD 0) OC Ol ((E6 K n).map (oT<|↥M+1)) [()]=!(((E6 K n).filter Option.isSome).map (oT<|↥M+1)):=
  Hf (b:=AD 0) (mt:=OC) (me:=Ol) (oT<|↥M+1) (oT<|↥M+1) Option.isSome (λY=>∃x,Y=[x]) (E6 K n) [()] {_,rfl} λo F Y d=>by
   let(x,rfl):=d;let a:=EI ⇑M o;let v:=Ak _ a;let l:=Gi ⇑M o true;let e:(true != o.isNone)=o.isSome:=by cases o<;>rfl
   rw[e]at l;show{[!(oT ⇑M o)],false,rfl,?_,λϊ=>?_,_,rfl};unfold OC;generalize oT ⇑M o=σ at *
   simp_all_arith [-BO,a,v,l]
   unfold Ol;generalize oT ⇑M o=σ at *
   simp_all_arith [a]
 let A:=NY K;let z:(K.map C4).length<=100000:=by rw[À];lia
 let f:AZ ((E6 K n).map (oT<|↥M+1))=true:=CN λo X=>EI _ o;let c:=A8 _ f
 let l1:((E6 K n).map (oT<|↥M+1)).length<=100000:=by
  let:=Ŏ (λk:Str×List (Nat×Nat×Int)=>decide (k.1=n.r)) K;unfold E6;rw[À,À];lia
 let D:∀x2,AA 0 [!S,!(AO ↥M n),x2]=!(.v S false):=λϊ=>by simp_all_arith [C]
 let f0:=λx2=>k.f0<|D x2
 unfold Pd;show Fy rfl ?_;show(show Na [!S,!(AO ↥M n),()]=_ from ?_);unfold Na;change ((E6 K n).filter Option.isSome).map (oT<|↥M+1)=R2;change (E6 K n).map (oT<|↥M+1)=R1;change AO ↥M n=NT;change K.map C4=KT;show sq (by simp![-AU,f0,A,z,B,Ce,f,c];rfl) ?_
 simp_all_arith [f,c,l1,E4]
abbrev SK:Stmt:=B3 81 5
def Ud:AG:=
 (AN<|m2 (CD λi j=>decide (j<i)) (m1 Bd<|BY Ac Ae Pd (AA 0)<|AB (AA 1) AE)<|mC<|.int 0)
def KJ:qD->Option Ru:=AW 2 2 Ud
abbrev Vq:=fA 6 2 SK KJ
abbrev zd5:Gx:={ Bb with mt:=[("hit_zones",Ac,Ae,kM)] }
abbrev zdi:Gm:=gA SK 5 [] ["len"] (ox:=zd5)
theorem zdw:Ck zdi Vq SK Ud:={}
def Cq(K:List<|Str×List (Nat×Nat×Int))(n:Nd):Bool:=K.any λk=>decide (k.1=n.r) && (BX k.2 n.z).isSome
def zr2(K:List<|Str×List (Nat×Nat×Int))(n:Nd):decide (0<(((E6 K n).filter Option.isSome).length:Int))=Cq K n:=by
 unfold E6 Cq
 induction K with
 |nil=>rfl|cons q K a=>
  rw[ĝ,<- a,Ŝ];by_cases c:q.1=n.r;rw[Ä c,if_pos rfl,Ù,Ŝ];cases (BX q.2 n.z).isSome with
  |true=>rw[if_pos rfl,ï];simp|false=>simp
  rw[Õ c];simp
def VV{M:Mc}(h:McOk M){K:List<|Str×List (Nat×Nat×Int)}(a:JK ↥M K)(c:K.length<=1000){mo:Nat->Db.B}{S:T}(k:WkK M (K.map C4) mo S){n:Nd}(hr:PyData.strOk n.r=true)(hn:Db.Nar ⇑M n.z):KJ [S,AO ↥M n]=!(.ok<|.bl<|Cq K n):=by
 let hz:=hz_ok h a c k hr hn;let g:=k.s;let e:=GH ↥M n;let b:=k.i;let le:=zr2 K n;let d:AZ (((E6 K n).filter Option.isSome).map (oT<|↥M+1))=true:=CN λo y=>EI _ o
 rw[<- À (f:=oT<|↥M+1)]at le;unfold KJ Ud;change ((E6 K n).filter Option.isSome).map (oT<|↥M+1)=R2;change AO ↥M n=NT;change Cq K n=bb
 simp![-Aw,g,e,b,hz,d,le]
abbrev RP:Stmt:=AK 82
def L8:AH:=
 (BY Ac Ae KJ (AA 1)<|AB (AA 0) AE)
def JU:AH:=
 (m2 (CD λi j=>decide (i<j)) (AA 4)<|m1 Bd<|AA 3)
def FK:AG:=
 (AF (AX (AJ PV<|AB (AA 3)<|AB (AA 5) AE) Mt A5)
 (AF (AX (m2 (CD λi j=>decide (j<=i)) (m1 Bd<|AA 3)<|AA 1) (Cc "TooMany"<|AB (mC<|.str "the search would list more nodes than told") AE) A5)
 (AF (CO 3<|AA 5)
 (AX (Bq (AA 2)<|BY Ac Ae KJ (AA 0)<|AB (AA 5) AE) (AN<|AA 3) A5))))
def K2:AG:=
 (AF (BV (Aj<|BY Ac Ae Lz (AA 0)<|AB (AM (AA 3)<|AA 4)<|AB (AA 4) AE) (AD 5) FK)
 (Kg 4<|mC<|.int 1))
def Jb:AG:=
 (AF (Bh 3<|BY Ac Ae MA (AA 0) AE)
 (AF (AX (Hc 3<|Bq (AA 2)<|m1 Hv<|Az 1 [0] (Aj<|AA 3) (AD 0) (mC<|.bl true) L8) (AN<|AA 3) A5)
 (AF (AV (mC<|.int 0)<|AD 4)
 (AF (Ec JU K2)
 (AN<|AA 3)))))
def Hy:qD->Option Ru:=AW 3 6 Jb
abbrev jU:=fA 7 3 RP Hy
abbrev zgu:Gx:={ Bb with mt:=[("first_nodes",Ac,Ae,kN),("hits",Ac,Ae,Vq),("next_nodes",Ac,Ae,kL)] }
abbrev zh3:Gm:=gA RP 6 [("is_covered",j4)] ["any","len"] ["nodes"] (ex:=["TooMany"]) (ox:=zgu) (mv:=["nodes"]) (N:=["walk","most","ends","nodes","at","node"])
theorem zhm:Ck zh3 jU RP Jb:={}
def wh_ex{mc:AH}{body:AG}(I:AL->Prop)(Q:Out->Prop)(μ:AL->Nat){Y:AL}(f:I Y)(hs:∀Y,I Y->(∃bb,mc Y=!(.v (.bl true) bb)/\((∃τ2,body Y=!(.nx τ2)/\I τ2/\μ τ2<μ Y)\/(∃t,body Y=!(.rt t)/\Q (.rt t))\/∃c τ2,body Y=!(.xc c τ2)/\Q (.xc c τ2)))\/∃bb,mc Y=!(.v (.bl false) bb)/\Q (.nx Y)):∃o,Ec mc body Y=!o/\Q o:=by
 let d:∀(n:Nat) (Y:AL),μ Y<n->I Y->∃o,DJ mc body n Y=!o/\Q o:=by
  intro n
  induction n with
  |zero=>intro Y h;show absurd h (Nat.not_lt_zero _)|succ n j=>
   intro Y hn g;unfold DJ;rcases hs Y g with ⟨bb,a,⟨τ2,b,i,k⟩|⟨t,b,q⟩|⟨c,τ2,b,q⟩⟩|⟨bb,a,q⟩;erw[a,b];show j τ2 (by lia) i;erw[a,b];show{_,rfl,q};erw[a,b];show{_,rfl,q};erw[a];show{_,rfl,q}
 let(o,e,q):=d (μ Y+1) Y (by lia) f;show{o,ZD e,q}
def V8{α:Type}{b:T->AL->Option AL}{body:AG}(f:α->T)(I:List α->AL->Prop)(Q:Out->Prop):∀(L D:List α) (Y:AL),I D Y->(∀x∈L,∀D Y,I D Y->∃τ1,b (f x) Y=!τ1/\((∃τ2,(body τ1=!(.nx τ2)\/body τ1=!(.ct τ2))/\I (D++[x]) τ2)\/(∃t,body τ1=!(.rt t)/\Q (.rt t))\/∃c τ2,body τ1=!(.xc c τ2)/\Q (.xc c τ2)))->(∃Y',BC b body (L.map f) Y=!(.nx Y')/\I (D++L) Y')\/(∃t,BC b body (L.map f) Y=!(.rt t)/\Q (.rt t))\/∃c τ2,BC b body (L.map f) Y=!(.xc c τ2)/\Q (.xc c τ2)
 |[],D,Y,h,z=>.inl {Y,rfl,by rw[ê];show h}|x::L,D,Y,h,hs=>by
  let(τ1,g,k):=hs x (Î ..) D Y h;rw[Ù];unfold BC;rw[g];rcases k with ⟨τ2,a|a,e⟩|⟨t,a,q⟩|⟨c,τ2,a,q⟩;erw[a];let:=V8 f I Q L (D++[x]) τ2 e λy d=>hs y<|Ë _ d
  rwa[ð]at this;erw[a];let:=V8 f I Q L (D++[x]) τ2 e λy d=>hs y<|Ë _ d
  rwa[ð]at this;erw[a];show .inr<|.inl {(t),rfl,q}
  erw[a];show .inr<|.inr {(c),τ2,rfl,q}
structure NdOk(M:Mc)(n:Nd):Prop where
 r:n.r∈M.nm
 z:Db.Nar ⇑M n.z
def nP{M:Mc}{mo:Nat->Db.B}{x:Str}{f z:Db.Z}(e:E7 M mo x f=!z):Db.Nar ⇑M z:=by
 unfold E7 at e;let(h,_,e):=ų.mp e;let(g,_,e):=ų.mp e;show fF e
def zra{M:Mc}(h:McOk M){mo:Nat->Db.B}:∀n∈Cr M mo,NdOk M n:=λn hn=>by
 unfold Cr at hn;cases e:E7 M mo (M.nm.headD "") nN with
 |none=>rw[e]at hn;cases hn|some z=>rw[e]at hn;rw[Ì.mp hn];show{Kq h,nP e}
def zq0{M:Mc}(h:McOk M){mo:Nat->Db.B}{n:Nd}{a:Nat}:∀s∈Fi M mo n a,NdOk M s:=λs hs=>by
 let(p,b,hs):=Ξ.mp hs;let hs:=Option.mem_toList.mp hs;let(z,e,rfl):=Ø.mp hs;let(g,_,e):=ų.mp e;show{(h.d _<|MJ b).e,nP e}
def o4(M:Mc)(mo:Nat->Db.B)(L:List Nd)(a:Nat):Prop:=∀i n,i<a->L[i]?=!n->∀s∈Fi M mo n i,Eo ↥M L s=true
def mJ{m:Nat}{L:List Nd}{s:Nd}(A:List Nd)(e:Eo m L s=true):Eo m (L++A) s=true:=by
 unfold Eo at *;rw[List.any_append,e];rfl
def Pp(M:Mc)(mo:Nat->Db.B)(L:List Nd):Prop:=Cr M mo <+: L/\(Cr M mo=[]->L=[])
structure Lst45(M:Mc)(K:List<|Str×List (Nat×Nat×Int))(mo:Nat->Db.B)(L:List Nd):Prop where
 ok:∀n∈L,NdOk M n
 fr:Pp M mo L
 hit:(∃n,L.getLast?=!n/\Cq K n=true)\/((∀n∈L,Cq K n=false)/\o4 M mo L L.length)
abbrev CW(m:Nat)(S:T)(mx:Nat)(L:List Nd)(a:Nat)(x:q9):AL:=[!S,!(.int (mx:Int)),!(.bl true),!(.own<|L.map<|AO m),!(.int (a:Int)),x]
def zmh{M:Mc}(h:McOk M){K:List<|Str×List (Nat×Nat×Int)}(r:JK ↥M K)(w:K.length<=1000){mo:Nat->Db.B}{S:T}(k:WkK M (K.map C4) mo S){mx:Nat}{L:List Nd}(t:∀n∈L,NdOk M n)(A:L.length<100000){a:Nat}{s:Nd}(hs:NdOk M s) :
  (Eo ↥M L s=true->FK (CW ↥M S mx L a<|!(AO ↥M s))=!(.ct<|CW ↥M S mx L a<|!(AO ↥M s)))/\(Eo ↥M L s=false->(mx<=L.length->∃Y,FK (CW ↥M S mx L a<|!(AO ↥M s))=!(.xc "TooMany" Y))/\(L.length<mx->(Cq K s=true->FK (CW ↥M S mx L a<|!(AO ↥M s))=!(.rt<|.own<|(L++[s]).map (AO ↥M)))/\(Cq K s=false->FK (CW ↥M S mx L a<|!(AO ↥M s))=!(.nx<|CW ↥M S mx (L++[s]) a<|!(AO ↥M s))))):=by
 let tn:∀x∈M.nm,PyData.strOk x=true:=λx v=>h.tn x v;let f:=zqv (m:=↥M) (L:=L) (n:=s) (by lia) (λo u=>tn _ (t o u).r)<|tn _ hs.r
 let g:=VV h r w k (tn _ hs.r) hs.z;let l:=k.s;let b:=GH ↥M s;let e:=Fj ↥M L;let j:=k.i;let y:(L.map<|AO ↥M).length=L.length:=À _;let l1:(L.map<|AO ↥M).length<100000:=by lia
 let i:=Fj ↥M<|L++[s];let p:(L++[s]).map (AO ↥M)=L.map (AO ↥M)++[AO ↥M s]:=à;unfold CW;rw[p]at i ⊢;change L.map (AO ↥M)=LT;change AO ↥M s=ST;unfold FK;show{λc=>?_,λc=>?_}
 rw[c]at f
 simp![e,b,f]
 rw[c]at f;show{λq=>?_,λq=>?_};let d:decide ((mx:Int)<=(LT.length:Int))=true:=Ä<|by lia
 show{_,Bw (by simp![e,b,f]) (by simp![e,d];rfl)};let d:decide ((mx:Int)<=(LT.length:Int))=false:=Õ<|by lia
 show{λz=>?_,λz=>?_};rw[z]at g;show Bw (by simp![e,b,f])<|Bw (by simp![e,d])<|sq (by simp![b,l1];rfl) ?_
 simp![-Aw,l,b,j,g,i]
 rw[z]at g;show Bw (by simp![e,b,f])<|Bw (by simp![e,d])<|sq (by simp![b,l1];rfl) ?_
 simp![-Aw,l,b,j,g,i]
def zkm(n:Nat)(f:Db.Z):Eb n f f=true:=by
 unfold Eb;show @decide_eq_true _ (Classical.propDecidable _) λi j z z=>Db.le_refl _
def zk1{m:Nat}(L:List Nd)(s:Nd):Eo m (L++[s]) s=true:=by
 unfold Eo;rw[List.any_append,ĝ,Ä rfl,zkm];simp
def QL(M:Mc)(K:List<|Str×List (Nat×Nat×Int))(mo:Nat->Db.B)(S:T)(mx:Nat):Out->Prop
 |.rt t=>∃L,t=.own (L.map<|AO ↥M)/\L.length<=max mx 1/\Lst45 M K mo L|.xc c z=>c="TooMany"|.nx Y=>∃L a x,Y=CW ↥M S mx L a x/\L.length<=max mx 1/\Lst45 M K mo L|z=>False
def zqc{M:Mc}(h:McOk M){K:List<|Str×List (Nat×Nat×Int)}(G:JK ↥M K)(I:K.length<=1000){mo:Nat->Db.B}{S:T}(k:WkK M (K.map C4) mo S){mx:Nat}(P:mx<=1000){L:List Nd}(H:∀n∈L,NdOk M n)(fr:Pp M mo L)(ne:Cr M mo≠[])(N:∀n∈L,Cq K n=false)(J:L.length<=max mx 1){a:Nat}(W:List Nd)(o:∀s∈W,NdOk M s)(x:q9) :
  (∃A y,BC (AD 5) FK (W.map<|AO ↥M) (CW ↥M S mx L a x)=!(.nx<|CW ↥M S mx (L++A) a y)/\(∀n∈L++A,NdOk M n)/\(∀n∈L++A,Cq K n=false)/\(L++A).length<=max mx 1/\∀s∈W,Eo ↥M (L++A) s=true)\/(∃t,BC (AD 5) FK (W.map<|AO ↥M) (CW ↥M S mx L a x)=!(.rt t)/\QL M K mo S mx (.rt t))\/∃c τ2,BC (AD 5) FK (W.map<|AO ↥M) (CW ↥M S mx L a x)=!(.xc c τ2)/\QL M K mo S mx (.xc c τ2):=by
 let l:=V8 (b:=AD 5) (body:=FK) (AO ↥M) (λD Y=>∃A y,Y=CW ↥M S mx (L++A) a y/\(∀n∈L++A,NdOk M n)/\(∀n∈L++A,Cq K n=false)/\(L++A).length<=max mx 1/\∀s∈D,Eo ↥M (L++A) s=true) (QL M K mo S mx) W [] (CW ↥M S mx L a x) {[],x,by rw[ê],by rw[ê];show H,by rw[ê];show N,by rw[ê];show J,λs hs=>by cases hs} λs hs D Y F=>by
  let(A,y,rfl,f,g,j,i):=F;let(u,v):=zmh h G I k (mx:=mx) f (by lia) (a:=a)<|o s hs
  show{CW ↥M S mx (L++A) a<|!(AO ↥M s),rfl,?_};cases c:Eo ↥M (L++A) s with
  |true=>
   show .inl {_,.inr<|u c,A,_,rfl,f,g,j,λm d=>?_};rcases Ú.mp d with d|d;show i m d;rw[Ì.mp d];show c
  |false=>
   let(w,B):=v c;by_cases q:mx<=(L++A).length;let(τ2,e):=w q;show .inr<|.inr {_,_,e,rfl}
   let(C,E):=B<|by lia
   let p:(L++A++[s]).length<=max mx 1:=by
    rw[ß];show(show _+1<=_ from ?_)
    lia
   let r:∀n∈L++A++[s],NdOk M n:=λn hn=>by
    rcases Ú.mp hn with hn|hn;show f n hn;rw[Ì.mp hn];show o s hs
   cases z:Cq K s with
   |true=>show .inr (.inl {_,C z,_,rfl,p,r,by rw[ð];show{List.IsPrefix.trans fr.1 (List.prefix_append ..),λz=>absurd z ne},.inl {s,by simp,z}})|false=>
    show .inl {_,.inl<|E z,A++[s],_,by rw[<- ð],by rw[<- ð];show r,?_,by rw[<- ð];show p,λm d=>?_};rw[<- ð];intro n hn;rcases Ú.mp hn with hn|hn;show g n hn;rw[Ì.mp hn];show z;rw[<- ð];rcases Ú.mp d with d|d;show mJ _<|i m d
    rw[Ì.mp d];show zk1 _ _
 rcases l with ⟨O,e,A,y,rfl,f,g,j,i⟩|q;show .inl {A,y,e,f,g,j,λs hs=>i s (by rw[ĵ];show hs)};show .inr q
def ls_wh{M:Mc}(h:McOk M){K:List<|Str×List (Nat×Nat×Int)}(D:JK ↥M K)(J:K.length<=1000){mo:Nat->Db.B}{S:T}(k:WkK M (K.map C4) mo S){mx:Nat}(G:mx<=1000){L:List Nd}(E:∀n∈L,NdOk M n)(fr:Pp M mo L)(P:∀n∈L,Cq K n=false)(O:L.length<=max mx 1) :
  ∃o,Ec JU K2 (CW ↥M S mx L 0 ())=!o/\QL M K mo S mx o:=by
 show wh_ex (mc:=JU) (body:=K2) (λY=>∃L a x,Y=CW ↥M S mx L a x/\(∀n∈L,NdOk M n)/\Pp M mo L/\(∀n∈L,Cq K n=false)/\L.length<=max mx 1/\a<=L.length/\o4 M mo L a) (QL M K mo S mx) (λY=>match Y with|[Z,X,ό,ύ,!(.int a),ώ]=>max mx 1+1 - a.toNat|Z=>0) {L,0,(),rfl,E,fr,P,O,ø _,λi n F=>by lia} λY C=>?_;let(L,a,x,rfl,f,b,l,m,W,p):=C;let R:=k.s;let g:=Fj ↥M L;let I:=k.i;let V:(L.map<|AO ↥M).length=L.length:=À _
 by_cases c:a<L.length;left;let d:decide ((a:Int)<((L.map<|AO ↥M).length:Int))=true:=Ä<|by lia
 show{false,by unfold JU CW;change L.map (AO ↥M)=LT;simp![g,d],?_};let hn:=f _<|ë c;let nx:=zpz h k hn.r hn.z a;let Q:=GH ↥M L[a];let Hu:A9 (L.map<|AO ↥M) (a:Int)=!(AO ↥M L[a]):=Fq (by rw[É,Á c];rfl)
 let U:=Fj ↥M<|Fi M mo L[a] a
 let ne:Cr M mo≠[]:=λz=>by
  rw[b.2 z]at c;show absurd c<|Nat.not_lt_zero _
 let N:=zqc h D J k G f b ne l m (a:=a) (Fi M mo L[a] a) (λs hs=>zq0 h s hs) x
 let head:∀r,BC (AD 5) FK ((Fi M mo L[a] a).map (AO ↥M)) (CW ↥M S mx L a x)=!r->BV (Aj<|BY Ac Ae Lz (AA 0)<|AB (AM (AA 3)<|AA 4)<|AB (AA 4) AE) (AD 5) FK (CW ↥M S mx L a x)=!r:=λr v=>by
  unfold CW at *;change (Fi M mo L[a] a).map (AO ↥M)=WT;change AO ↥M L[a]=NT;change L.map (AO ↥M)=LT
  simp![-Aw,R,I,g,Hu,Q,nx,U,v]
 unfold K2;rcases N with ⟨A,y,e,g1,g2,w,B⟩|⟨t,e,q⟩|⟨u,j,e,q⟩;left;show{CW ↥M S mx (L++A) (a+1) y,sq (head _ e) ?_,{L++A,a+1,y,rfl,g1,{List.IsPrefix.trans b.1 (List.prefix_append ..),λz=>absurd z ne},g2,w,by rw[ß];lia,λi n F he s hs=>?_},?_};unfold CW;change (L++A).map (AO ↥M)=LT
 simp![Kg]
 rfl;by_cases H:i<a;show mJ _<|p i n H ?_ s hs;rw[<- he,ù<|by lia]
 let:i=a:=by lia
 subst this;rw[ù c,Á c]at he;cases he;show B s hs;show(?_:max mx 1+1 - ((a+1:Nat):Int).toNat<max mx 1+1 - (a:Int).toNat);rw[Ď,Ď];lia;right;left;show{t,by unfold AF;rw[head _ e],q};right;right;show{u,j,by unfold AF;rw[head _ e],q};right;let d:decide ((a:Int)<((L.map<|AO ↥M).length:Int))=false:=Õ<|by lia
 let:a=L.length:=by lia
 subst this;show{false,by unfold JU CW;change L.map (AO ↥M)=LT;simp![g,d],L,_,x,rfl,m,f,b,.inr {(l),p}}
def zo9{k n:Nat}{u:AG}{ts:qD}{c:Str}{Y:AL}(hk:ts.length=k)(h:u (ts.map some++List.replicate (n - ts.length) ())=!(.xc c Y)):AW k n u ts=!(.exc c):=by
 subst hk;unfold AW Kh;simp[h]
def zqb{M:Mc}(h:McOk M){K:List<|Str×List (Nat×Nat×Int)}(i:JK ↥M K)(l:K.length<=1000){mo:Nat->Db.B}{S:T}(k:WkK M (K.map C4) mo S){mx:Nat}(v:mx<=1000) :
  Hy [S,.int (mx:Int),.bl true]=!(.exc "TooMany")\/∃L,Hy [S,.int (mx:Int),.bl true]=!(.ok<|.own<|L.map<|AO ↥M)/\L.length<=max mx 1/\Lst45 M K mo L:=by
 let d:=k.s;let j:=k.i;let fs:=zr9 h k;let fo:=zra h (mo:=mo)
 let one:∃b:Bool,(b=(Cr M mo).any (Cq K))/\Hc 3 (Bq (AA 2)<|m1 Hv<|Az 1 [0] (Aj<|AA 3) (AD 0) (mC<|.bl true) L8) [!S,!(.int (mx:Int)),!(.bl true),!(.own<|(Cr M mo).map (AO ↥M)),(),()]=!(.v (.bl b) false):=by
  unfold Cr at fo ⊢;cases e:E7 M mo (M.nm.headD "") nN with
  |none=>
   show{false,rfl,?_};show(show Hc 3 _ [!S,!(.int (mx:Int)),!(.bl true),!(.own []),(),()]=_ from ?_);let g:CK (AD 0) (mC<|.bl true) L8 [] [(),!S]=![]:=rfl
   simp![d,g,List.any_nil]
   rfl
  |some z=>
   rw[e]at fo;let o:=fo _<|Ì.mpr rfl;let u:=VV h i l k (n:={M.nm.headD "",z,(),()}) (h.tn _ o.r) o.z;let p:=GH ↥M {M.nm.headD "",z,(),()};show{Cq K {M.nm.headD "",z,(),()},by simp,?_}
   show(show Hc 3 _ [!S,!(.int (mx:Int)),!(.bl true),!(.own [AO ↥M {M.nm.headD "",z,(),()}]),(),()]=_ from ?_);change Cq K {M.nm.headD "",z,(),()}=b;change AO ↥M {M.nm.headD "",z,(),()}=ST
   let g:CK (AD 0) (mC<|.bl true) L8 [ST] [(),!S]=![.bl b]:=by
    unfold CK L8
    simp![-Aw,d,p,j,u,CK]
   cases b<;>(simp![d,p,g];rfl)
 let(b,hb,lt):=one
 let fl:(Cr M mo).length<=1:=by
  unfold Cr;cases E7 M mo (M.nm.headD "") nN with
  |none=>show ø _|some z=>show Ã _
 let y:=Fj ↥M<|Cr M mo
 let m:Bh 3 (BY Ac Ae MA (AA 0) AE) [!S,!(.int (mx:Int)),!(.bl true),(),(),()]=!(.nx [!S,!(.int (mx:Int)),!(.bl true),!(.own<|(Cr M mo).map (AO ↥M)),(),()]):=by
  change (Cr M mo).map (AO ↥M)=FT
  simp![-Aw,d,j,fs]
 cases b with
 |true=>
  right;show{Cr M mo,?_,by lia,fo,{List.prefix_refl _,id},.inl ?_};unfold Hy;show Fy rfl ?_;show(show Jb [!S,!(.int (mx:Int)),!(.bl true),(),(),()]=_ from ?_);unfold Jb;show sq m<|sr ?_;unfold AX;rw[lt];change (Cr M mo).map (AO ↥M)=FT
  simp![y]
  let(n,hn,hh):=Ě.mp hb.symm
  match hf:Cr M mo,hn,fl with
  |[q],hn,Z=>rw[Ì.mp hn]at hh;show{(q),rfl,hh}
 |false=>
  let w:∀n∈Cr M mo,Cq K n=false:=λn hn=>by
   cases c:Cq K n with
   |false=>rfl|true=>show absurd (Ě.mpr {(n),hn,c}) (by rw[<- hb];decide)
  let(o,e,q):=ls_wh h i l k v fo {List.prefix_refl _,id} w<|by lia
  let pre:∀r,AF (Ec JU K2) (AN<|AA 3) (CW ↥M S mx (Cr M mo) 0 ())=r->Jb [!S,!(.int (mx:Int)),!(.bl true),(),(),()]=r:=λr s=>by
   unfold Jb;show sq m<|Bw ?_<|sq ?_ s
   unfold AX;rw[lt];rfl;unfold CW;change (Cr M mo).map (AO ↥M)=FT
   simp_all_arith []
  cases o with
  |rt t=>let(L,rfl,l1,f):=q;right;show{L,?_,l1,f};unfold Hy;show Fy rfl<|pre _ (by unfold AF;rw[e])
  |xc c Y=>let q:c="TooMany":=q;subst q;left;unfold Hy;show zo9 rfl (pre _ (by unfold AF;rw[e]))|nx Y=>
   let(L,a,x,rfl,l1,f):=q;right;show{L,?_,l1,f};let A:=Fj ↥M L;unfold Hy;show Fy rfl<|pre _<|sq e ?_;unfold CW;change L.map (AO ↥M)=LT
   simp![A]
  |ct Y=>symm|bk Y=>symm
abbrev Yy:Stmt:=B3 81 0
def N9:AG:=
 (AF (C0 Ac Ae 0 0<|AJ HH<|AB (AA 1)<|AB (AA 2) AE)
 (AF (C0 Ac Ae 1 0<|AJ Lv<|AB (AA 1)<|AB (AA 2) AE)
 (AF (C0 Ac Ae 2 0<|AM (BY A7 Aa E9 (AA 1) AE)<|mC<|.int 0)
 (AF (C0 Ac Ae 3 0<|AJ Lk<|AB (AA 1) AE)
 (AF (C0 Ac Ae 4 0<|AJ Ly<|AB (AA 1) AE)
 (AF (C0 Ac Ae 5 0<|mC .non)
 (AX (m2 (BO true) (AA 3)<|mC .non) (AF (C0 Ac Ae 5 0<|BY A7 Aa JH (AA 1)<|AB (AA 3) AE)
 (IV Ac Ae 1 0 (m2 FL (AU Ac Ae 5<|AA 0)<|mC<|.int 1)<|mC .non)) A5)))))))
def X4:qD->Option Ru:=Ee Ac Ae 4 4 N9
abbrev Vp:Fn:={10,["self","machine","goal","free"],X4}
abbrev zd4:Gx:={ Bb with cl:=[("Walk",Ac,Ae)],mt:=[("rooms",A7,Aa,Hn),("watch_number",A7,Aa,O0)],sf:=↑(Ac,Ae) }
abbrev zdh:Gm:=gA Yy 9 [("placed_goal",OP),("greatest",j8),("placed_stays",Vf),("doors_out",Vo)] [] (ox:=zd4)
theorem zdv:Ck zdh Vp Yy N9:={}
def Dd(M:Mc)(gl:List<|Str×qD):List<|Str×List (Nat×Nat×Int):=gl.map λg=>(g.1,g.2.map<|Bc M.ws)
def Fk(M:Mc)(gl:List<|Str×qD):Nat->Db.B:=λi=>!(CU (M.ws.getD i Str.empty) (Fg M gl).flatten)
def znd{M:Mc}(h:McOk M){gl:List<|Str×qD}(c:FI M.ws (M.rs.map (·.1)) gl)(hn:gl.length<=1000):X4 [Av M,.lst<|gl.map AS,.non]=!(.ok<|HI M ((Dd M gl).map C4)<|Fk M gl):=by
 let b:=GJ h;let nd:M.nm.Nodup:=h.r.nd;let l1:=h.r.l1;let t:M.nm.length=M.rs.length:=À _;let u:E9 [Av M]=!(.ok<|.own<|M.nm.map T.str):=Ia h;let ps:=Zn h;let o:=l9 h;let pg:HH [Av M,.lst<|gl.map AS]=!(.ok<|.own<|gl.map λg=>.tup [.str g.1,.lst<|g.2.map<|Bp M.ws]):=TQ h c hn
 let l:Lv [Av M,.lst<|gl.map AS]=!(.ok<|.own<|Ei M.ws λx=>CU x (Fg M gl).flatten):=gr_ok h c hn;let n:=c.sh
 let(a,ha,hb):∃a,A9 (M.nm.map T.str) 0=!(.str a)/\M.nm.headD ""=a:=by
  cases e:M.nm with
  |nil=>rw[e,đ]at t;lia|cons a r=>show{a,Fq rfl,rfl}
 let d:(gl.map λg=>T.tup [.str g.1,.lst<|g.2.map<|Bp M.ws])=(Dd M gl).map C4:=by
  unfold Dd;rw[è];show Ć λg j=>?_;show(?_:T.tup [.str g.1,.lst<|g.2.map<|Bp M.ws]=.tup [.str g.1,.lst<|(g.2.map<|Bc M.ws).map Am]);rw[NB (c g j).2.1]
 let f:(Ei M.ws λx=>CU x (Fg M gl).flatten)=mT ↥M λi=>bT<|Fk M gl i:=by
  show Ek (À _) λi m=>?_;rw[É,Á m];unfold Fk;rw[â,Á m];rfl
 rw[d]at pg;rw[f]at l;let v:=NY<|Dd M gl;let w:AZ (mT ↥M λi=>bT<|Fk M gl i)=true:=FP λi=>Ow _
 let q:BA (M.nm.map λx=>T.own<|(Au M.ws M.rs x).map Am)=M.nm.map (DZ M):=J0 _ _ (λx=>by rw[T.share,A8 _<|EC _];rfl) _;let s:BA (Bx M M.ds.length)=M.nm.map (Dh M):=J0 _ _ (λx=>by rw[ă,T.share,A8 _<|CN λp z=>JO _ p];rfl) _;show Mv λp=>?_
 let k:N9 [!(.oob p Ac Ae []),!(Av M),!(.lst<|gl.map AS),!.non]=!(.nx [!(.oob p Ac Ae [.own<|(Dd M gl).map C4,.own<|mT ↥M λi=>bT<|Fk M gl i,.str a,.osd M.nm<|M.nm.map λx=>.own<|(Au M.ws M.rs x).map Am,.osd M.nm<|Bx M M.ds.length,.non]),!(Av M),!(.lst<|gl.map AS),!.non]):=by
  unfold N9;change (M.nm.map λx=>T.own<|(Au M.ws M.rs x).map Am)=SS;generalize Bx M M.ds.length=τ at *;change (Dd M gl).map C4=MK;change (mT ↥M λi=>bT<|Fk M gl i)=MO;change gl.map AS=GT;show sq (by simp![b,n,pg];rfl) (sq (by simp![b,n,l];rfl)<|sq (by simp![-Aw,GK,b,u,ha,B8,BE];rfl)<|sq (by simp![b,ps];rfl)<|sq (by simp![b,o];rfl)<|sq (by simp_all_arith []) ?_)
  simp_all_arith []
 unfold Fz;unfold HI Ep;rw[hb];show(show _=!(Ru.ok<|.obj (.ins Ac Ae) [.lst<|(Dd M gl).map C4,.lst<|mT ↥M λi=>bT<|Fk M gl i,.str a,.obj (.sdc M.nm)<|M.nm.map<|DZ M,.obj (.sdc M.nm)<|M.nm.map<|Dh M,.non]) from ?_)
 change (M.nm.map λx=>T.own<|(Au M.ws M.rs x).map Am)=SS;generalize Bx M M.ds.length=τ at *;change (Dd M gl).map C4=MK;change (mT ↥M λi=>bT<|Fk M gl i)=MO
 simp![k,v,w,q,s]
abbrev Ys:Stmt:=AK 84
def Kv:AG:=
 (AF (AV (Hb X4 []<|AB (AA 0)<|AB (AA 1)<|AB (AA 3) AE)<|AD 4)
 (AF (AV (AJ Hy<|AB (AA 4)<|AB (AA 2)<|AB (mC<|.bl true) AE)<|AD 5)
 (AN<|BP<|AB (AA 5)<|AB (Bq (m2 (CD λi j=>decide (j<i)) (m1 Bd<|AA 5)<|mC<|.int 0)<|BY Ac Ae KJ (AA 4)<|AB (AM (AA 5)<|m1 Ej<|mC<|.int 1) AE) AE)))
def GW:qD->Option Ru:=AW 4 6 Kv
abbrev jJ:Fn:={12,["machine","goal","most","free"],GW}
abbrev ze7:Gx:={ Bb with mt:=[("hits",Ac,Ae,Vq)],nw:=[("Walk",Vp,[(3,[])])] }
abbrev ze9:Gm:=gA Ys 11 [("listed",jU)] ["len"] (ox:=ze7)
theorem zen:Ck ze9 jJ Ys Kv:={}
def zi7{α:Type}{l:List α}{d:α}(e:l.getLast?=!d):A9 l (-1)=!d:=by
 let b:0<l.length:=by
  cases l with
  |nil=>cases e|cons a r=>simp
 unfold A9 CY;rw[if_neg (by decide),if_pos (by lia),Ĩ,<- e,List.getLast?_eq_getElem?]
 congr 1
 lia
def OH(K:List<|Str×List (Nat×Nat×Int))(L:List Nd):Bool:=match L.getLast? with
 |some n=>Cq K n|none=>false
theorem zqa{M:Mc}(h:McOk M){gl:List<|Str×qD}(b:FI M.ws (M.rs.map (·.1)) gl):JK ↥M<|Dd M gl:=λk hk=>by
 let(g,a,rfl):=Ò.mp hk;show{h.tn _ (b g a).1,J6 (b g a).2.1}
def zo0{M:Mc}(h:McOk M){gl:List<|Str×qD}(f:FI M.ws (M.rs.map (·.1)) gl)(hn:gl.length<=1000){mx:Nat}(x:mx<=1000) :
  GW [Av M,.lst<|gl.map AS,.int (mx:Int),.non]=!(.exc "TooMany")\/∃L,GW [Av M,.lst<|gl.map AS,.int (mx:Int),.non]=!(.ok<|.tup [.lst<|L.map<|AO ↥M,.bl<|OH (Dd M gl) L])/\L.length<=max mx 1/\Lst45 M (Dd M gl) (Fk M gl) L:=by
 let j:=GJ h;let i:=f.sh;let p:=zqa h f
 let s:(Dd M gl).length<=1000:=by
  unfold Dd;rw[À];show hn
 let l:=znd h f hn;let k:=wkK M (NY<|Dd M gl)<|Fk M gl;let e:=zqb h p s k (mx:=mx) x;let a:=k.s;let b:=Ak _ a;let y:=k.i;generalize A:HI M ((Dd M gl).map C4) (Fk M gl)=W at *
 rcases e with e|⟨L,e,l1,r⟩;left;change gl.map AS=GT;unfold GW Kv
 simp![j,i,l,a,b,e]
 right;show{L,?_,l1,r};let g:=Fj ↥M L;let m:=A8 _ g;let z:(L.map<|AO ↥M).length=L.length:=À _;unfold GW;show Fy rfl ?_;show(show Kv [!(Av M),!(.lst<|gl.map AS),!(.int (mx:Int)),!.non,(),()]=_ from ?_);unfold Kv OH;cases c:L.getLast? with
 |none=>
  let:L=[]:=List.getLast?_eq_none_iff.mp c;subst this;change gl.map AS=GT;show sq (by simp![j,i,l,a,b];rfl) (sq (by simp![a,b,e];rfl) ?_)
  simp_all_arith []
 |some n=>
  let q:n∈L:=List.mem_of_getLast? c;let o:=r.ok n q;let w:=VV h p s k (h.tn _ o.r) o.z;let t:=GH ↥M n;let v:=Ak _ t;let u:A9 (L.map<|AO ↥M) (-1)=!(AO ↥M n):=zi7 (by rw[List.getLast?_map,c];rfl)
  let d:decide (0<((L.map<|AO ↥M).length:Int))=true:=Ä (by
   let:=List.length_pos_of_mem q
   lia)
  show(show _=!(Out.rt<|.tup [.lst<|L.map<|AO ↥M,.bl<|Cq (Dd M gl) n]) from ?_);change gl.map AS=GT;change L.map (AO ↥M)=LT;change AO ↥M n=NT;change Cq (Dd M gl) n=bb;show sq (by simp![j,i,l,a,b];rfl) (sq (by simp![a,b,e,g,m];rfl) ?_)
  simp_all_arith [-Aw,a,b,y,g,m,d,u,t,v,w]
abbrev Sf:Stmt:=AK 87
def QZ:AG:=
 (AF (CO 2<|m2 Ba (AA 5)<|m2 FU (mC<|.int 10)<|mC<|.int 45)
 (AV (m2 Co (AA 5)<|m2 FU (mC<|.int 10)<|mC<|.int 45)<|AD 5))
def QY:AG:=
 (AF (AV (m2 Ba (m2 BW (m2 BW (m2 Bi (AA 3)<|AA 3)<|m2 Bi (mC<|.int 48271)<|AA 3)<|AA 4)<|m2 BW (m2 FU (mC<|.int 10)<|mC<|.int 18)<|mC<|.int 9)<|AD 3)
 (CO 2<|AA 3))
def Nk:AG:=
 (AF (Bh 2<|BQ AE)
 (AF (AX (m2 (CD λi j=>decide (j<=i)) (AA 0)<|m2 FU (mC<|.int 10)<|mC<|.int 30) (AF (AV (m2 FL (AA 0)<|m2 FU (mC<|.int 10)<|mC<|.int 30)<|AD 5)
 (AF (BV (C9<|AB (AA 1) AE) (AD 4) QZ)
 (AN<|AA 2))) A5)
 (AF (AV (m2 BW (m2 Ba (AA 0)<|m2 BW (m2 FU (mC<|.int 10)<|mC<|.int 18)<|mC<|.int 9)<|mC<|.int 48271)<|AD 3)
 (AF (BV (C9<|AB (m2 BW (AA 1)<|mC<|.int 2) AE) (AD 4) QY)
 (AF (Ed 2)<|AN<|Ax (DC (AA 2) (!(mC<|.int 2)) ())<|DR (AA 2) (!(mC<|.int 2)) ())))))
def GZ:qD->Option Ru:=AW 2 6 Nk
abbrev Vx:=fA 1 2 Sf GZ
abbrev zfj:Gm:=gA Sf 0 [] ["range"] ["_law_found"] (N:=["_law_cell","_law_many","_law_found","_law_number","_law_k","_law_rest"])
theorem zfw:Ck zfj Vx Sf Nk:={}
def Yh(c:Int){m:Nat}(B:m<=1000):∃xs:Nat->Int,GZ [.int c,.int m]=!(.ok<|.own<|mT m λi=>.int<|xs i):=by
 let e:(0:Int)<=30/\(30:Int)<=1000000/\Ey 10=true:={by decide,by decide,DK (by decide)<|by decide};let q:(0:Int)<=45/\(45:Int)<=1000000/\Ey 10=true:={by decide,by decide,DK (by decide)<|by decide};let d:(0:Int)<=18/\(18:Int)<=1000000/\Ey 10=true:={by decide,by decide,DK (by decide)<|by decide};let t:DB (10 ^ 45)=true:=Dy (by decide)<|by decide
 let u:((10:Int) ^ 45≠0)=True:=by simp
 let l:((10:Int) ^ 18+9≠0)=True:=by simp
 let s:(45:Int).toNat=45:=rfl;let k:(30:Int).toNat=30:=rfl;let f:(18:Int).toNat=18:=rfl
 by_cases h:(10:Int) ^ 30<=c
 let a:=OO (b:=AD 4) (body:=QZ) (n:=m) (g:=λi=>.int (i:Int)) (Y:=[!(.int c),!(.int m),!(.own []),(),(),!(.int<|c - 10 ^ 30)])
  (λi Y=>∃(xs:Nat->Int) (x:q9) (r:Int),Y=[!(.int c),!(.int m),!(.own<|mT i λi=>.int<|xs i),(),x,!(.int r)])
  {λϊ=>0,(),_,rfl} (by
   rintro i Y v ⟨xs,x,r,rfl⟩;show{_,by simp_all_arith [],?_};let l1:i<100000:=by lia
   show{_,by unfold QZ;simp![q,t,u,s,l1];rfl,λj=>if j=i then r.fmod (10 ^ 45) else xs j,!(.int (i:Int)),r.fdiv<|10 ^ 45,?_}
   rw[gJ T.int])
 let(w,o,xs,x,r,rfl):=a;show{xs,?_};let p:Cj (m:Int)=true:=Eh<|by lia
 unfold GZ Nk
 simp![e,k,h,p,E1,o]
 let a:=OO (b:=AD 4) (body:=QY) (n:=m+2) (g:=λi=>.int (i:Int)) (Y:=[!(.int c),!(.int m),!(.own []),!(.int<|c.fmod (10 ^ 18+9)+48271),(),()])
  (λi Y=>∃(xs:Nat->Int) (x:q9) (r:Int),0<=r/\r<2 * 10 ^ 18/\Y=[!(.int c),!(.int m),!(.own<|mT i λi=>.int<|xs i),!(.int r),x,()])
  {λϊ=>0,(),_,by rw[fm<|by decide];lia,by rw[fm<|by decide];lia,rfl} (by
   rintro i Y v ⟨xs,x,r,r0,C,rfl⟩;show{_,by simp_all_arith [],?_};let l1:i<100000:=by lia
   let m1:B9 r r=true:=zmd (Dy (by lia)<|by lia)<|Dy (by lia)<|by lia
   let m2:B9 48271 r=true:=Gj<|DK (by decide)<|by decide
   show{_,by unfold QY;simp![d,l,f,l1,m1,m2];rfl,λj=>if j=i then (r * r+48271 * r+i).fmod (10 ^ 18+9) else xs j,!(.int (i:Int)),(r * r+48271 * r+i).fmod (10 ^ 18+9),by rw[fm<|by decide];lia,by rw[fm<|by decide];lia,?_}
   rw[gJ T.int])
 obtain⟨w,o,xs,x,r,-,-,rfl⟩:=a;show{λi=>xs<|i+2,?_};let p:Cj ((m:Int)+2)=true:=Eh (n:=m+2)<|by lia
 let A:((m:Int)+2).toNat=m+2:=by lia
 let ct:CM (mT (m+2) λi=>.int<|xs i) ↑2 ()=mT m λi=>.int<|xs<|i+2:=by
  unfold CM;let y:HT.sIx (mT (m+2) λi=>T.int<|xs i).length 0 ↑2=2:=by rw[Bj];simp[HT.sIx]
  let z:HT.sIx (mT (m+2) λi=>T.int<|xs i).length (mT (m+2) λi=>T.int<|xs i).length ()=m+2:=by rw[Bj];rfl
  rw[y,z];show Ek (by simp[Bj]) λi v=>?_;rw[ů (by lia),ŕ,Dl (by lia),Nat.add_comm]
 unfold GZ Nk
 simp![e,k,h,d,f,l,p,A,E1,o,ct]
abbrev Sq:Stmt:=AK 88
def MY:AG:=
 (AX (m2 Cm (AA 2)<|BQ AE) (AF (AV (m2 BW (m2 Bi (AA 3)<|m2 Ba (AM (AA 0)<|m2 Bi (mC<|.int 3)<|AA 6)<|mC<|.int 4)<|m2 Ba (m2 Co (AM (AA 0)<|m2 Bi (mC<|.int 3)<|AA 6)<|mC<|.int 4)<|mC<|.int 2)<|AD 7)
 (CO 5<|BP<|AB (AM (AA 2)<|m2 Ba (AM (AA 0)<|m2 BW (m2 Bi (mC<|.int 3)<|AA 6)<|mC<|.int 1)<|m1 Bd<|AA 2)<|AB (AM (AA 4)<|m2 Ba (AM (AA 0)<|m2 BW (m2 Bi (mC<|.int 3)<|AA 6)<|mC<|.int 2)<|m1 Bd<|AA 4)<|AB (AA 7) AE)) A5)
def Ur:AG:=
 (AF (Bh 5<|BQ AE)
 (AF (BV (C9<|AB (AA 1) AE) (AD 6) MY)
 (AN<|AA 5)))
def KP:qD->Option Ru:=AW 5 8 Ur
abbrev k7:=fA 1 5 Sq KP
abbrev zha:Gm:=gA Sq 0 [] ["range","len"] ["_law_looks_here"]
theorem zht:Ck zha k7 Sq Ur:={}
theorem lH{l:kq}(h:Ca l):Fit (.lst<|l.map T.str) 1:=Fit.nd λt a=>by
 let(x,b,rfl):=Ò.mp a;show Fit.str (h x b) 0
def T9{o:Bool}{l:qD}{n:Nat}(hn:n<=60)(h:Fit (.nd o .lst l) n):Cm (.nd o .lst l) (.lst [])=!(.bl<|(not (decide (l.length=0)))):=by
 rw[(zre h (Fit.nd (o:=false) (k:=.lst) (l:=[]) (n:=0) λϊ z=>by cases z) hn).2];cases l with
 |nil=>
  rw[@decide_eq_true _ (Classical.propDecidable _)<|by rfl];rfl
 |cons a r=>
  have e:¬ ((T.nd o .lst<|a::r).data=(T.lst []).data):=λz=>by
   have b:PyData.list (Bs<|a::r)=PyData.list (Bs []):=z;injection b with b;cases b
  rw[@decide_eq_false _ (Classical.propDecidable _) e,Õ<|by simp]
def Uz{ws wd:kq}(tw:Ca ws)(p:wd≠[]){K:Nat}(xs:Nat->Int){q:Nat}(M:3 * q<=K)(I:K<=1000){u:Int}(hu:0<=u):∃L:qD,Ci ws wd L/\L.length<=q/\KP [.lst<|mT K λi=>.int<|xs i,.int (q:Nat),.lst<|ws.map T.str,.int u,.lst<|wd.map T.str]=!(.ok<|.own L):=by
 let a:=T9 (by decide)<|lH tw
 rw[À]at a
 let(Y,e,L,d,hok,n,c,rfl):=DI (b:=AD 6) (body:=MY) (ts:=mT q λi=>.int (i:Int)) (Y:=[!(.lst<|mT K λi=>.int<|xs i),!(.int (q:Nat)),!(.lst<|ws.map T.str),!(.int u),!(.lst<|wd.map T.str),!(.own []),(),()])
  (λi Y=>∃L:qD,L.length<=i/\Ci ws wd L/\∃n c,Y=[!(.lst<|mT K λi=>.int<|xs i),!(.int (q:Nat)),!(.lst<|ws.map T.str),!(.int u),!(.lst<|wd.map T.str),!(.own L),n,c]) {[],Ã 0,λϊ z=>(by cases z),(),(),rfl} λi t Y B C=>by
   let(J,rfl):=Gn B;let(L,d,hok,n,c,rfl):=C
   by_cases l:ws.length=0;show{[!(.lst<|mT K λi=>.int<|xs i),!(.int (q:Nat)),!(.lst<|ws.map T.str),!(.int u),!(.lst<|wd.map T.str),!(.own L),!(.int (i:Int)),c],(by simp_all_arith []),_,?_,L,Nat.le_succ_of_le d,hok,!(.int (i:Int)),c,rfl};rw[Ä l]at a;unfold MY
   simp![B8,BE,a]
   rw[Õ l]at a;let g:ws≠[]:=λz=>l (by rw[z];rfl)
   let F:B9 3 (i:Int)=true:=Gj<|DK (by decide)<|by decide
   let r:A9 (mT K λi=>T.int<|xs i) (3 * (i:Int))=!(.int<|xs<|3 * i):=by
    rw[show 3 * (i:Int)=((3 * i:Nat):Int) by lia];show C7<|by lia
   let s:A9 (mT K λi=>T.int<|xs i) (3 * (i:Int)+1)=!(.int<|xs<|3 * i+1):=by
    rw[show 3 * (i:Int)+1=((3 * i+1:Nat):Int) by lia];show C7<|by lia
   let v:A9 (mT K λi=>T.int<|xs i) (3 * (i:Int)+2)=!(.int<|xs<|3 * i+2):=by
    rw[show 3 * (i:Int)+2=((3 * i+2:Nat):Int) by lia];show C7<|by lia
   let f0:=ė (xs<|3 * i)<|show(0:Int)<4 by decide
   let f1:=Œ (xs<|3 * i)<|show(0:Int)<4 by decide
   let f2:=ė ((xs<|3 * i).fdiv 4)<|show(0:Int)<2 by decide
   let mu:B9 u ((xs<|3 * i).fmod 4)=true:=EL<|DK (by lia)<|by lia
   let G:0<=u * ((xs<|3 * i).fmod 4)+((xs<|3 * i).fdiv 4).fmod 2:=by
    let:=Ľ hu f0;lia
   let H:DB 4=true:=Dy (by decide)<|by decide
   let(w,m,A):=Ks ws g<|xs<|3 * i+1;let(o,k,x):=Ks wd p<|xs<|3 * i+2;let j:=Lc T.str A;let h:=Lc T.str x;let D:=Nq g;let l1:=Nq p;let E:L.length<100000:=by lia
   show{[!(.lst<|mT K λi=>.int<|xs i),!(.int (q:Nat)),!(.lst<|ws.map T.str),!(.int u),!(.lst<|wd.map T.str),!(.own L),!(.int (i:Int)),c],(by simp_all_arith []),[!(.lst<|mT K λi=>.int<|xs i),!(.int (q:Nat)),!(.lst<|ws.map T.str),!(.int u),!(.lst<|wd.map T.str),!(.own<|L++[.tup [.str w,.str o,.int<|u * ((xs<|3 * i).fmod 4)+((xs<|3 * i).fdiv 4).fmod 2]]),!(.int (i:Int)),!(.int<|u * ((xs<|3 * i).fmod 4)+((xs<|3 * i).fdiv 4).fmod 2)],?_,_,(by rw[ß,Ę];show Ν d),λt f=>?_,_,_,rfl};unfold MY
   simp![B8,BE,a,F,r,s,v,mu,H,À,D,l1,j,h,E]
   rcases Ú.mp f with f|f;show hok t f;rw[Ì.mp f];show{w,o,_,rfl,m,k,G}
 rw[Bj]at d;let ok:Cj (q:Int)=true:=Eh<|by lia
 let y:Ez 0 q=mT q λi=>.int (i:Int):=E1;show{L,hok,d,?_};unfold KP Ur
 simp![ok,y,e,B8,BE]
abbrev Sj:Stmt:=AK 89
def Q1:AG:=
 (AF (AV (AJ GZ<|AB (m2 BW (m2 Co (AJ Fh<|AB (AA 0)<|AB (mC<|.int 1) AE)<|mC<|.int 3)<|m2 Bi (mC<|.int 1009)<|AA 5)<|AB (mC<|.int 4) AE)<|AD 9)
 (CO 4<|BP<|AB (m2 Bi (AM (mC<|.str "abc")<|AA 5)<|m2 BW (mC<|.int 1)<|AA 5)<|AB (AJ KP<|AB (Ax (DC (AA 9) (!(mC<|.int 1)) ())<|DR (AA 9) (!(mC<|.int 1)) ())<|AB (m2 Ba (AM (AA 9)<|mC<|.int 0)<|mC<|.int 2)<|AB (AA 1)<|AB (AA 2)<|AB (Ax (DC (AA 3) ()<|!(mC<|.int 2))<|DR (AA 3) ()<|!(mC<|.int 2)) AE) AE))
def VU:AH:=
 (m2 BS (m2 Ba (m2 Co (AM (AA 2)<|mC<|.int 3)<|m2 BW (mC<|.int 2)<|AA 0)<|mC<|.int 2)<|mC<|.int 0)
def XG:AH:=
 (AA 1)
def Q0:AG:=
 (AF (AV (AJ GZ<|AB (AA 7)<|AB (mC<|.int 12) AE)<|AD 9)
 (AF (AV (AM (AM (AA 4)<|m2 Ba (AM (AA 9)<|mC<|.int 0)<|m1 Bd<|AA 4)<|mC<|.int 0)<|AD 10)
 (AF (AV (AM (AM (AA 4)<|m2 Ba (AM (AA 9)<|mC<|.int 1)<|m1 Bd<|AA 4)<|mC<|.int 0)<|AD 11)
 (AF (AV (AJ KP<|AB (Ax (DC (AA 9) (!(mC<|.int 4)) ())<|DR (AA 9) (!(mC<|.int 4)) ())<|AB (m2 Ba (AM (AA 9)<|mC<|.int 2)<|mC<|.int 3)<|AB (AA 1)<|AB (AA 2)<|AB (AA 3) AE)<|AD 12)
 (AF (AV (Az 2 [9] (Cf<|AB (AA 1) AE) (Al 2<|AI (AD 0)<|AI (AD 1) An) VU XG)<|AD 13)
 (CO 6<|BP<|AB (AA 10)<|AB (AA 11)<|AB (AA 12)<|AB (AA 13)<|AB (AM (BQ<|BK (mC<|.str "")<|BK (mC<|.str "")<|BK (mC<|.str "")<|BK (mC<|.str "")<|BK (mC<|.str "")<|BK (mC<|.str "go!") AE)<|m2 Ba (AM (AA 9)<|mC<|.int 10)<|mC<|.int 6) AE))))))
def Q3:AG:=
 (AF (AV (AJ GZ<|AB (m2 BW (m2 Co (AJ Fh<|AB (AA 0)<|AB (mC<|.int 3) AE)<|mC<|.int 3)<|m2 Bi (mC<|.int 7)<|AA 5)<|AB (mC<|.int 6) AE)<|AD 9)
 (CO 8<|BP<|AB (AM (AM (AA 4)<|m2 Ba (AM (AA 9)<|mC<|.int 0)<|m1 Bd<|AA 4)<|mC<|.int 0)<|AB (AJ KP<|AB (Ax (DC (AA 9) (!(mC<|.int 2)) ())<|DR (AA 9) (!(mC<|.int 2)) ())<|AB (m2 Ba (AM (AA 9)<|mC<|.int 1)<|mC<|.int 2)<|AB (AA 1)<|AB (AA 2)<|AB (AA 3) AE) AE))
def Nl:AG:=
 (AF (AV (BQ<|BK (mC<|.str "<")<|BK (mC<|.str "<=")<|BK (mC<|.str ">")<|BK (mC<|.str ">=")<|BK (mC<|.str "=") AE)<|AD 3)
 (AF (Bh 4<|BQ AE)
 (AF (BV (C9<|AB (m2 BW (mC<|.int 1)<|m2 Ba (AJ Fh<|AB (AA 0)<|AB (mC<|.int 1) AE)<|mC<|.int 3) AE) (AD 5) Q1)
 (AF (Bh 6<|BQ AE)
 (AF (BV (Aj<|Ax (DC (AA 0) (!(mC<|.int 4))<|!(m2 BW (mC<|.int 4)<|m2 Ba (AJ Fh<|AB (AA 0)<|AB (mC<|.int 2) AE)<|mC<|.int 5))<|DR (AA 0) (!(mC<|.int 4))<|!(m2 BW (mC<|.int 4)<|m2 Ba (AJ Fh<|AB (AA 0)<|AB (mC<|.int 2) AE)<|mC<|.int 5)) (AD 7) Q0)
 (AF (Bh 8<|BQ AE)
 (AF (BV (C9<|AB (m2 Ba (AJ Fh<|AB (AA 0)<|AB (mC<|.int 3) AE)<|mC<|.int 3) AE) (AD 5) Q3)
 (AF (Ed 4)<|AF (Ed 6)<|AF (Ed 8)<|AN<|BP<|AB (AA 4)<|AB (AA 6)<|AB (AA 8) AE))))))))
def Pm:qD->Option Ru:=AW 3 14 Nl
abbrev kY:=fA 2 3 Sj Pm
abbrev zh7:Gm:=gA Sj 1 [("_law_cell_at",WA),("_law_stream",Vx),("_law_looks",k7)] ["range","len","enumerate"] ["_law_rooms","_law_doors","_law_goal"] (N:=["_law_script","_law_watches","_law_unit","_law_words","_law_rooms","_law_k","_law_doors","_law_cell","_law_goal","_law_xs","_law_begin","_law_end","_law_guard","_law_noughts"])
theorem zhq:Ck zh7 kY Sj Nl:={}
def zrh{n a:Nat}{g:Nat->T}:CM (mT (n+a) g) (!(a:Int)) ()=mT n λi=>g<|i+a:=by
 unfold CM
 let b:HT.sIx (mT (n+a) g).length 0 (!(a:Int))=a:=by
  rw[Bj];simp[HT.sIx];lia
 let c:HT.sIx (mT (n+a) g).length (mT (n+a) g).length ()=n+a:=by rw[Bj];rfl
 rw[b,c];show Ek (by simp[Bj]) λi d=>?_;rw[ů (by lia),ŕ,Dl (by lia),Nat.add_comm]
def FY:Nat->Str
 |0=>"a"|1=>"bb"|z=>"ccc"
def zq5:∀k<3,(∀i<(FY k).cps.size,(FY k).cps.getD i 0=47\/(97<=(FY k).cps.getD i 0/\(FY k).cps.getD i 0<=122))/\1<=(FY k).cps.size/\(FY k).cps.size<=60:=by decide +kernel
def zq6:∀n<4,((List.range n).map FY).Nodup:=by decide +kernel
def zrx{k:Nat}(hk:k<3){O:AL}(h:O[5]?=!(!(.int (k:Int)))):m2 Bi (AM (mC<|.str "abc")<|AA 5) (m2 BW (mC<|.int 1)<|AA 5) O=!(.v (.str<|FY k) false):=by
 let:k=0\/k=1\/k=2:=by lia
 let a:(("abc":Str).length<=BN)=True:=by
  let:("abc":Str).length=3:=by decide +kernel
  rw[this];unfold BN;simp
 rcases this with rfl|rfl|rfl<;>(simp![h,a];first|ext|rfl)
def zlq{ws:kq}(hd:ws.Nodup)(p:Nat->Bool):∃ns:kq,((List.range ws.length).filter p).map (λi=>T.str<|ws.getD i Str.empty)=ns.map T.str/\(∀x∈ns,x∈ws)/\ns.Nodup/\ns.length<=ws.length:=by
 let c:∀i∈(List.range ws.length).filter p,i<ws.length:=λi f=>ě.mp (Ļ.mp f).1;show{((List.range ws.length).filter p).map λi=>ws.getD i Str.empty,by rw[è];rfl,λx j=>?_,?_,?_};let(i,f,rfl):=Ò.mp j;let:=c i f;rw[â,Á this];show ë this
 rw[List.nodup_iff_pairwise_ne,List.pairwise_map];show List.Pairwise.imp_of_mem ?_<|List.Pairwise.filter _<|List.nodup_range (n:=ws.length);intro a b ha hb d e;let g:=c a ha;let h:=c b hb;rw[â,Á g,â,Á h]at e;show d<|(ñ hd).mp e
 rw[À];let:=Ŏ p<|List.range ws.length
 rwa[ĸ]at this
def Pz:kq:=["","","","","","go!"]
def znb:∀z∈Pz,Lh z:=λz hz=>by
 let:∀z∈Pz,z=Str.ofString ""\/z=Str.ofString "go!":=by decide +kernel
 rcases this z hz with rfl|rfl;show .inl rfl;let h:∀i<(Str.ofString "go").cps.size,97<=(Str.ofString "go").cps.getD i 0/\(Str.ofString "go").cps.getD i 0<=122:=by decide +kernel
 show .inr {Str.ofString "go",33,λi a=>h i a,by decide +kernel,by decide +kernel,.inl rfl,by decide +kernel}
abbrev BI(d:Dr):T:=.tup [.str d.s,.str d.e,.lst d.g,.lst<|d.n.map T.str,.str d.z]
def Iq{ws ns:kq}{d:Dr}(h:DrOk ws ns d):(BI d).sh=true:=by
 let:=h.g.sh
 simp![this,BE]
structure Pt61(ws:kq)(rs:List<|Str×qD)(ds:qA)(gl:List<|Str×qD):Prop where
 r:RsOk ws rs
 l:rs.length<=3
 d:∀d∈ds,DrOk ws (rs.map (·.1)) d
 dl:ds.length<=63
 g:FI ws (rs.map (·.1)) gl
 gn:gl.length<=3
def Qk(c:Int){m n a:Nat}{M A:Int}(d:M=(m:Int))(b:A=(a:Int))(g:m=n+a)(h:m<=1000):∃(xs:Nat->Int) (XS:qD),GZ [.int c,.int M]=!(.ok<|.own XS)/\(∀(k:Int) (j:Nat),k=(j:Int)->j<m->A9 XS k=!(.int<|xs j))/\CM XS ↑A ()=mT n (λi=>.int<|xs<|i+a)/\AZ XS=true:=by
 subst d b g;let(xs,st):=Yh c h
 show{xs,_,st,λk j e f=>by
  subst e;show C7 f,zrh,FP λϊ=>rfl}
def zj5(ns:ku)(hns:ns.length<=63){ws:kq}(tw:Ca ws)(hd:ws.Nodup)(h7:ws.length<=7){u:Int}(hu:0<=u):∃rs ds gl,Pt61 ws rs ds gl/\Pm [DA ns,.lst<|ws.map T.str,.int u]=!(.ok<|.tup [.lst<|rs.map AS,.lst<|ds.map BI,.lst<|gl.map AS]):=by
 let F:=Yl ns;let U:=Yk ns;let c1:=Od ns (k:=1)<|by decide
 let c2:=Od ns (k:=2)<|by decide
 let c3:=Od ns (k:=3)<|by decide
 change ns.getD (1:Int).toNat 0=f1;change ns.getD (2:Int).toNat 0=f2;change ns.getD (3:Int).toNat 0=f3;let t3:DB 3=true:=Dy (by decide)<|by decide
 let E3:∀(x:Int) (k:Nat) (K:Int),K=(k:Int)->0<k->∃q:Nat,x.fmod K=(q:Int)/\q<k:=λx k K e hk=>by
  subst e;let(i,e,h):=fS hk x;show{(i),e,h}
 let(p,ep,p3):=E3 f1 3 3 rfl<|by decide
 let(q6,eq6,_):=E3 f2 5 5 rfl<|by decide
 let(q3,eq3,q3l):=E3 f3 3 3 rfl<|by decide
 let cm:CM (ns.map T.int) ↑4 (!(4+(q6:Int)))=_:=Oa _ _ _ _;let cl:=Oc ns !4<|!(4+(q6:Int));change CM ns ↑4 (!(4+(q6:Int)))=cs
 let(SL,eSL,e0):∃SL:AH,Ax (DC (AA 0) (!(mC<|.int 4))<|!(m2 BW (mC<|.int 4)<|m2 Ba (AJ Fh<|AB (AA 0)<|AB (mC<|.int 2) AE)<|mC<|.int 5)) (DR (AA 0) (!(mC<|.int 4))<|!(m2 BW (mC<|.int 4)<|m2 Ba (AJ Fh<|AB (AA 0)<|AB (mC<|.int 2) AE)<|mC<|.int 5))=SL/\∀Y,SL (↑(DA ns)::Y)=!(.v (.own<|cs.map T.int) false):={_,rfl,λY=>by
  unfold DA at c2 F U ⊢
  simp_all_arith [HM,IP,c2,eq6,cm]}
 let sw:AZ (CZ.map T.str)=true:=BE _;let sv:AZ (ws.map T.str)=true:=BE _;let ss:AZ (FN.map T.str)=true:=BE _;let cw:CM (CZ.map T.str) () ↑2=FN.map T.str:=by ext
 let en:En 0 (ws.map T.str)=(List.range ws.length).map λi:Nat=>.tup [.int (i:Int),.str<|ws.getD i Str.empty]:=by
  rw[K8,Ho];rfl
 let lw:(List.map (λi:Nat=>T.tup [.int (i:Int),.str<|ws.getD i Str.empty])<|List.range ws.length).length<=100000:=by
  rw[À,ĸ];lia
 change DA ns=S;generalize eW:ws.map T.str=WS at *;generalize eD:CZ.map T.str=WD at *;let(Q,P):∃Q,Q=λ(R:qD) (v D N G w g j l o:q9)=>([!S,!(.lst WS),!(.int u),!(.lst WD),!(.own R),v,D,N,G,w,g,j,l,o]:AL):={_,rfl}
 let(_,e1,rs,V,lr,v,w,rfl):=DI (b:=AD 5) (body:=Q1) (ts:=mT (1+p) λi=>.int (i:Int)) (Y:=Q [] () () () () () () () () ())
  (λi Y=>∃rs:List (Str×qD),rs.map (·.1)=(List.range i).map FY/\(∀r∈rs,Ci ws FN r.2/\r.2.length<=1)/\∃v w,Y=Q (rs.map AS) v () () () w () () () ()) {[],rfl,λϊ z=>(by cases z),(),(),rfl} λk t Y s E=>by
   let(hi,rfl):=Gn s;let(rs,V,lr,v,w,rfl):=E
   let lR:(rs.map AS).length<100000:=by
    let:=congrArg List.length V;rw[À,À,ĸ]at this;rw[À];lia
   let(xs,H,st,f,cu,B):=Qk (f1.fdiv 3+1009 * (k:Int)) (m:=4) (n:=3) (a:=1) (M:=4) (A:=1) rfl rfl rfl<|by decide
   let(q,eq,q2):=E3 (xs 0) 2 2 rfl<|by decide
   let(L,s,E,lk):=Uz (wd:=FN) tw (by decide) (K:=3) (λi=>xs<|i+1) (q:=q) (by lia) (by decide) hu;rw[eW]at lk;let m1:B9 1009 (k:Int)=true:=Gj<|DK (by decide)<|by decide
   let a0:=f 0 0 rfl<|by decide
   let sL:=s.sh;let ab:=zrx (k:=k) (by lia) (O:=Q (rs.map AS) (!(.int (k:Int))) () () () (!(.lst H)) () () () ()) (by rw[P];rfl)
   show{Q (rs.map AS) (!(.int (k:Int))) () () () w () () () (),by rw[P];rfl,Q ((rs++[(FY k,L)]).map AS) (!(.int (k:Int))) () () () (!(.lst H)) () () () (),?_,rs++[(FY k,L)],?_,λr hr=>?_,_,_,rfl};rw[à];subst P;dsimp only at ab;unfold Q1;change rs.map AS=R;change FN.map T.str=SD;generalize m2 Bi (AM (mC<|.str "abc")<|AA 5) (m2 BW (mC<|.int 1)<|AA 5)=MM at ab ⊢;show sq (by simp![F,U,c1,t3,m1,st,B];rfl) ?_
   simp![ab,a0,eq,cu,B,sv,sw,ss,cw,lk,sL,lR]
   rw[à,V,List.range_succ,à];rfl;rcases Ú.mp hr with hr|hr;show lr r hr;rw[Ì.mp hr];show{s,by lia}
 rw[Bj]at V
 let lrs:rs.length=1+p:=by
  let:=congrArg List.length V;simpa using this
 let rok:RsOk ws rs:={by lia,by lia,λr hr=>by
  let:r.1∈(List.range<|1+p).map FY:=by rw[<- V];show Ò.mpr {(r),hr,rfl}
  let(k,hk,e):=Ò.mp this;rw[<- e];show zq5 k (by let:=ě.mp hk;lia),by rw[V];show zq6 _ (by lia),λr hr=>{(lr r hr).1,by let:=(lr r hr).2;lia}}
 let sR:=IW rok;let rne:rs≠[]:=λz=>by rw[z]at lrs;simp at lrs;lia
 let X:∀x:Int,∃r∈rs,A9 (rs.map AS) (x.fmod ((rs.map AS).length:Nat))=!(AS r)/\(AS r).sh=true:=λx=>by
  let(r,s,E):=Ks rs rne x;rw[À];let:=(rok.lk r s).1.sh;show{r,s,Lc AS E,by simp![this]}
 let l0:(((rs.map AS).length:Nat):Int)≠0:=by rw[À];show Nq rne
 let W:∀r∈rs,r.1∈rs.map (·.1):=λr hr=>Ò.mpr {(r),hr,rfl};generalize eR:rs.map AS=RS at *
 let(_,e2,ds,I,ld,N,z9,g,j,l,o,rfl):=DI (b:=AD 7) (body:=Q0) (ts:=cs.map T.int) (Y:=Q RS v (!(.own [])) () () w () () () ())
  (λi Y=>∃ds:qA,(∀d∈ds,DrOk ws (rs.map (·.1)) d)/\ds.length=i/\∃N w g j l o,Y=Q RS v (!(.own<|ds.map BI)) N () w g j l o) {[],λϊ z=>(by cases z),rfl,(),w,(),(),(),(),rfl} λi t Y s E=>by
   let(ds,I,ld,N,z9,g,j,l,o,rfl):=E;rw[É]at s;let(c,hc,rfl):=Ø.mp s;let hi:=(Ê.mp hc).1;let(xs,H,st,f,cu,B):=Qk c (m:=12) (n:=8) (a:=4) (M:=12) (A:=4) rfl rfl rfl<|by decide
   let a0:=f 0 0 rfl<|by decide
   let a1:=f 1 1 rfl<|by decide
   let a2:=f 2 2 rfl<|by decide
   let a3:=f 3 3 rfl<|by decide
   let a10:=f 10 10 rfl<|by decide
   let(Z,hb,eb,b1):=X<|xs 0;let(re,he,ee,b2):=X<|xs 1;let(q,eq,q2):=E3 (xs 2) 3 3 rfl<|by decide
   let(L,s,E,lk):=Uz (wd:=CZ) tw (by decide) (K:=8) (λi=>xs<|i+4) (q:=q) (by lia) (by decide) hu;rw[eW,eD]at lk;let(zz,hz,ez):=Ks Pz (by decide)<|xs 10
   let ez:A9 [T.str "",.str "",.str "",.str "",.str "",.str "go!"] ((xs 10).fmod 6)=!(.str zz):=Lc T.str ez;let(ys,ey,y1,y2,y3):=zlq hd λi=>((xs 3).fdiv (2+(i:Int))).fmod 2 == 0
   let lc:=Hf (b:=Al 2<|AI (AD 0)<|AI (AD 1) An) (mt:=VU) (me:=XG) (λi:Nat=>.tup [.int (i:Int),.str<|ws.getD i Str.empty]) (λi=>.str<|ws.getD i Str.empty) (λi=>((xs 3).fdiv (2+(i:Int))).fmod 2 == 0) (λY=>∃x y,Y=[x,y,!(.lst H)]) (List.range ws.length) [(),(),!(.lst H)] {_,_,rfl} λi hi Y hI=>by
    let(x,y,rfl):=hI;let hi':=ě.mp hi;let si:DB (2+(i:Int))=true:=Dy (Int.lt_of_lt_of_le (b:=0) (by decide +kernel)<|by lia)<|Int.lt_trans (b:=20) (by lia)<|by decide +kernel
    let ni:(2+(i:Int)=0)=False:=eq_false<|by lia
    show{[!(.int (i:Int)),!(.str<|ws.getD i Str.empty),!(.lst H)],false,by simp_all_arith [],?_,λϊ=>?_,_,_,rfl};unfold VU
    simp_all_arith [a3,si,ni,ET]
    unfold XG
    simp_all_arith []
   rw[ey]at lc;let sL:=s.sh;let sy:AZ (ys.map T.str)=true:=BE _;let lD:(ds.map BI).length<100000:=by rw[À];lia
   show{Q RS v (!(.own<|ds.map BI)) (!(.int c)) () z9 g j l o,by rw[P];rfl,Q RS v (!(.own<|(ds++[({(Z.1),re.1,L,ys,zz}:Dr)]).map BI)) (!(.int c)) () (!(.lst H)) (!(.str Z.1)) (!(.str re.1)) (!(.lst L))<|!(.lst<|ys.map T.str),?_,_,λx C=>?_,by rw[ß,ld];rfl,_,_,_,_,_,_,rfl};rw[à];subst P;unfold Q0 BI;change (List.map (λi:Nat=>T.tup [.int (i:Int),.str<|ws.getD i Str.empty])<|List.range ws.length)=EN;change ds.map _=D;show(show _=!(Out.nx [_,_,_,_,_,_,!(T.own<|D++[.tup [.str Z.1,.str re.1,.lst L,.lst<|ys.map T.str,.str zz]]),_,_,_,_,_,_,_]) from ?_);change ys.map T.str=YS;show sq (by simp![F,U,st,B];rfl) ?_
   show sq (by simp![a0,B,sR,l0,eb,b1];rfl) ?_;show sq (by simp![a1,B,sR,l0,ee,b2];rfl) ?_;show sq (by simp![a2,eq,cu,B,sv,sw,lk,sL];rfl) ?_;show sq (by simp![B,sv,Cf,en,lw,lc,sy];rfl) ?_
   simp![a10,ez,B,sL,sy,lD]
   rcases Ú.mp C with C|C;show I x C;rw[Ì.mp C];show{W Z hb,W re he,s,by show(show L.length<=_ from ?_);lia,y1,y2,by show(show ys.length<=_ from ?_);lia,znb zz hz}
 rw[À]at ld;let sD:AZ (ds.map BI)=true:=CN λd hd=>Iq<|I d hd
 generalize eDs:ds.map BI=DS at *
 let(_,e3,gl,J,lg,y5',z9',rfl):=DI (b:=AD 5) (body:=Q3) (ts:=mT q3 λi=>.int (i:Int)) (Y:=Q RS v (!(.own DS)) N (!(.own [])) z9 g j l o)
  (λi Y=>∃gl:List (Str×qD),FI ws (rs.map (·.1)) gl/\gl.length=i/\∃v w,Y=Q RS v (!(.own DS)) N (!(.own<|gl.map AS)) w g j l o) {[],λϊ z=>(by cases z),rfl,v,z9,rfl} λk t Y s E=>by
   let(hi,rfl):=Gn s;let(gl,J,lg,v,w,rfl):=E;let(xs,H,st,f,cu,B):=Qk (f3.fdiv 3+7 * (k:Int)) (m:=6) (n:=4) (a:=2) (M:=6) (A:=2) rfl rfl rfl<|by decide
   let(q,eq,q2):=E3 (xs 1) 2 2 rfl<|by decide
   let(L,s,E,lk):=Uz (wd:=CZ) tw (by decide) (K:=4) (λi=>xs<|i+2) (q:=q) (by lia) (by decide) hu;rw[eW,eD]at lk;let m1:B9 7 (k:Int)=true:=Gj<|DK (by decide)<|by decide
   let a0:=f 0 0 rfl<|by decide
   let a1:=f 1 1 rfl<|by decide
   let(Z,hb,eb,b1):=X<|xs 0;let sL:=s.sh;let lG:(gl.map AS).length<100000:=by rw[À];lia
   show{Q RS (!(.int (k:Int))) (!(.own DS)) N (!(.own<|gl.map AS)) w g j l o,by rw[P];rfl,Q RS (!(.int (k:Int))) (!(.own DS)) N (!(.own<|(gl++[(Z.1,L)]).map AS)) (!(.lst H)) g j l o,?_,_,λx C=>?_,by rw[ß,lg];rfl,_,_,rfl};rw[à];subst P;unfold Q3;change gl.map AS=G;show sq (by simp![F,U,c3,t3,m1,st,B];rfl) ?_
   simp![a0,B,sR,l0,eb,b1,a1,eq,cu,sv,sw,lk,sL,lG]
   rcases Ú.mp C with C|C;show J x C;rw[Ì.mp C];show{W Z hb,s,by show(show L.length<=_ from ?_);lia}
 rw[Bj]at lg;let sG:=J.sh;show{rs,ds,gl,{rok,by lia,I,by lia,J,by lia},?_}
 let o1:Cj (1+(p:Int))=true:=Eh (n:=1+p)<|by lia
 let o3:Cj (q3:Int)=true:=Eh<|by lia
 let t1:(1+(p:Int)).toNat=1+p:=by lia
 let r1:Ez 0 (1+p)=mT (1+p) λi=>.int (i:Int):=E1;let r3:Ez 0 q3=mT q3 λi=>.int (i:Int):=E1;let sC:BA (cs.map T.int)=cs.map T.int:=IP _;let ew:[.str "<",.str "<=",.str ">",.str ">=",.str "="]=WD:=eD
 let run:Nl [!S,!(.lst WS),!(.int u),(),(),(),(),(),(),(),(),(),(),()]=!(.rt<|.tup [.lst RS,.lst DS,.lst<|gl.map AS]):=by
  unfold Nl;rw[eSL];subst P;dsimp only at e1 e2 e3;change cs.map T.int=CS;change gl.map AS=GS;show sq (by simp![];rw[ew])<|sq (by simp![]<;>rfl)<|sq (by simp![F,U,c1,ep,o1,t1,r1,e1]<;>rfl)<|sq (by simp![]<;>rfl)<|sq (by simp![e0,sC,e2]<;>rfl)<|sq (by simp![]<;>rfl)<|sq (by simp![F,U,c3,eq3,o3,r3,e3]<;>rfl) ?_
  simp![sR,sD,sG]
 rw[eR,eDs];unfold Pm
 simp![F,U,sv,run]
abbrev So:Stmt:=AK 91
def JW:AH:=
 (m2 Cm (AA 3)<|mC<|.int 0)
def Q4:AG:=
 (Ke 2 3<|AB (AA 3)<|AB (m2 Ba (AA 2)<|AA 3) AE)
def Uq:AG:=
 (AF (AV (AA 0)<|AD 2)
 (AF (AV (AA 1)<|AD 3)
 (AF (Ec JW Q4)
 (AN<|BP<|AB (m2 Co (AA 0)<|m1 Hw<|AA 2)<|AB (m2 Co (AA 1)<|m1 Hw<|AA 2) AE))))
def JJ:qD->Option Ru:=AW 2 4 Uq
abbrev Vz:=fA 1 2 So JJ
abbrev zfl:Gm:=gA So 0 [] ["abs"]
theorem zfy:Ck zfl Vz So Uq:={}
def zqd{t b:Int}(o:0<=t)(hb:0<b)(hs:b<10 ^ 70):JJ [.int t,.int b]=!(.ok<|fr (Zm.lt t b)<|Zm.lb t b):=by
 let c:=ZE (mc:=JW) (body:=Q4)
  (Y:=[!(.int t),!(.int b),!(.int t),!(.int b)])
  (λY=>∃(g l:Int),Y=[!(.int t),!(.int b),!(.int g),!(.int l)]/\Zm.gd g l=Zm.gd t b/\0<=g/\0<=l)
  (λY=>match Y with|[z,y,x,!(.int l)]=>l.natAbs|z=>0)
  {_,_,rfl,rfl,o,ì hb} (by
   rintro Y ⟨g,l,rfl,e,n,p⟩;by_cases a:l=0;right;show{false,by unfold JW;simp_all_arith [GF,a]}
   left;show{false,by unfold JW;simp![GF];simp[a],[!(.int t),!(.int b),!(.int l),!(.int<|g.fmod l)],by unfold Q4;simp![a],{_,_,rfl,Zm.gd_turn e,p,by rw[fm (j:=l)<|by lia];show Int.emod_nonneg _ a},Zm.fmod_less g a})
 let(r,k,(g,l,rfl,e,gn,s),i,f):=c
 let d:l=0:=by
  let m:JW [!(.int t),!(.int b),!(.int g),!(.int l)]=!(.v (.bl<|(not (l == 0))) false):=by unfold JW;simp_all_arith [GF]
  rw[m]at f;show(by simpa using f:l=0/\i=false).1
 let h:=Zm.gd_end e d;rw[if_neg<|by lia]at h;let n:0<Zm.gd t b:=Zm.gd_pos<|by lia
 let g1:Zm.gd t b<=b:=Zm.gd_le hb;let gs:DB (Zm.gd t b)=true:=Dy (by lia (config:={}))<|by lia (config:={})
 let n2:(Zm.gd t b≠0)=True:=by simp;lia
 let q:(Zm.gd t b<0)=False:=eq_false<|by lia
 unfold JJ Uq
 simp![k,h,gs,n2,q]
 erw[Zm.lt,Zm.lb]
def gP{t b u c:Int}(hb:0<b)(p:0<c)(h:t * c=u * b):Zm.lt t b=Zm.lt u c/\Zm.lb t b=Zm.lb u c:=by
 let d:b≠0:=by lia
 let f:c≠0:=by lia
 let g1:=Zm.gd_low (t:=t) d;let g2:=Zm.gd_low (t:=u) f;let v:=Zm.lb_pos (t:=t) hb;let A:=Zm.lb_pos (t:=u) p;let r:=Zm.gd_pos (a:=t) d;let s:=Zm.gd_pos (a:=u) f;let l:=Zm.lt_mul (t:=t) d;let m:=Zm.lb_mul (t:=t) d;let n:=Zm.lt_mul (t:=u) f;let o:=Zm.lb_mul (t:=u) f;change Zm.lt t b=x;change Zm.lb t b=y;change Zm.lt u c=z;change Zm.lb u c=w;change Zm.gd t b=g;change Zm.gd u c=k
 let e :=by
  let q :=by
   rw[<- l,<- m,<- n,<- o]at h
   calc (x * w) * (g * k)=x * g * (w * k):=by erw[Û,Μ,ç]
    _=z * k * (y * g):=h
    _=(z * y) * (g * k):=by erw[Û,Μ,ç]
  show ū (Š<|ŀ r s) q
 unfold Zm.gd at g1 g2;let g1:Int.gcd x y=1:=by lia
 let g2:Int.gcd z w=1:=by lia
 let i :=by
  let:y ∣ x * w:={z,by rw[e,ç]};let:=Int.dvd_gcd_mul_iff_dvd_mul.mpr this;rw[Int.gcd_comm,g1]at this;simpa using this
 let j :=by
  let:w ∣ z * y:={x,by rw[<- e,ç]};let:=Int.dvd_gcd_mul_iff_dvd_mul.mpr this;rw[Int.gcd_comm,g2]at this;simpa using this
 let B:y=w:=by
  let:=Int.le_of_dvd A i;let:=Int.le_of_dvd v j
  lia
 subst B;show{ū (by lia) e,rfl}
abbrev Cn(P v:Int):T:=fr (Zm.lt v P)<|Zm.lb v P
structure Bo(P:Int):Prop where
 p:0<P
 l:P<2 ^ 63
def Bo.s(h:Bo P):Ey P=true:=DK (by let:=h.p;lia) (by let:=h.l;lia)
theorem Bo.lb(h:Bo P)(v:Int):Bo<|Zm.lb v P:={Zm.lb_pos h.p,by let:=Zm.lb_le (t:=v) h.p;let:=h.l;lia}
def jD{P:Int}(h:0<P):Cn P 0=fr 0 1:=by
 let(a,b):=gP (t:=0) (b:=P) (u:=0) (c:=1) h (by decide)<|by simp
 unfold Cn;rw[b];rfl
def jF{α:Type}{b:T->AL->Option AL}{body:AG}(f:α->T)(p:α->Bool)(a:T)(I:AL->Prop):∀(L:List α) (Y:AL),I Y->(∀x∈L,∀Y,I Y->∃τ1,b (f x) Y=!τ1/\(p x=true->∃τ2,body τ1=!(.nx τ2)/\I τ2)/\(p x=false->body τ1=!(.rt a)))->(L.all p=true->∃Y',BC b body (L.map f) Y=!(.nx Y')/\I Y')/\(L.all p=false->BC b body (L.map f) Y=!(.rt a))
 |[],Y,h,w=>{λϊ=>{(Y),rfl,h},λz=>by cases z}|x::L,Y,h,hs=>by
  let(τ1,c,e,k):=hs x (Î ..) Y h;rw[Ù,List.all_cons];unfold BC;rw[c];cases g:p x with
  |false=>lia|true=>let(τ2,d,j):=e g;erw[d];show jF f p a I L τ2 j λy i=>hs y<|Ë _ i
abbrev Ao(m:Nat)(P:Int)(x:Nat->Int):qD:=mT m λj=>Cn P<|x<|j+1
def Fv(m:Nat)(P:Int)(x:Nat->Int):AZ (Ao m P x)=true:=FP λϊ=>rfl
def Dn(P x:Int)(w:Nat)(n:Int):Bool:=match w with
 |0=>decide (x<n * P)|1=>decide (x<=n * P)|2=>decide (n * P<x)|3=>decide (n * P<=x)|z=>decide (x=n * P)
def C6(P:Int)(L:List<|Nat×Nat×Int)(x:Nat->Int):Bool:=L.all λl=>Dn P (x l.1) l.2.1 l.2.2
def zky{P v n:Int}(h:0<P):(0<=Zm.lt v P - n * Zm.lb v P ↔ n * P<=v)/\(0<Zm.lt v P - n * Zm.lb v P ↔ n * P<v)/\(Zm.lt v P - n * Zm.lb v P<=0 ↔ v<=n * P)/\(Zm.lt v P - n * Zm.lb v P<0 ↔ v<n * P)/\(Zm.lt v P - n * Zm.lb v P=0 ↔ v=n * P):=by
 let b:P≠0:=by lia
 let d:=Zm.lt_mul (t:=v) b;let f:=Zm.lb_mul (t:=v) b;let g:=Zm.gd_pos (a:=v) b;let e:(Zm.lt v P - n * Zm.lb v P) * Zm.gd v P=v - n * P:=by rw[Ł,Û,d,f]
 clear d f;change Zm.lt v P - n * Zm.lb v P=l;change Zm.gd v P=k
 let q:(0<l/\0<l * k)\/(l=0/\l * k=0)\/(l<0/\l * k<0):=by
  rcases Int.lt_trichotomy l 0 with c|c|c;show .inr<|.inr {c,Int.mul_neg_of_neg_of_pos c g}
  show .inr<|.inl {c,by rw[c,Int.zero_mul]}
  show .inl {c,ŀ c g}
 let i:v=n * P+l * k:=by lia
 clear e;change l * k=m;change n * P=x;subst i;show{?_,?_,?_,?_,?_}<;>lia
def gN{P a b c d v w:Int}(h:Bo P)(hb:Bo b)(hd:Bo d)(ha:0<=a)(i:0<=c)(f:a * P=v * b)(g:c * P=w * d):JJ [.int<|a * d+c * b,.int<|b * d]=!(.ok<|Cn P<|v+w):=by
 let e:0<b * d:=ŀ hb.p hd.p;let j:b * d<10 ^ 70:=Β (Int.mul_le_mul (ì hb.l) (ì hd.l) (ì hd.p)<|by lia)<|by lia
 let l:=Ľ ha<|ì hd.p;let n2:=Ľ i<|ì hb.p
 let k:=gP (t:=a * d+c * b) (b:=b * d) (u:=v+w) (c:=P) e h.p (by
  calc (a * d+c * b) * P=(a * P) * d+(c * P) * b:=by rw[Int.add_mul,Η,Η c]
   _=(v * b) * d+(w * d) * b:=by rw[f,g]
   _=(v+w) * (b * d):=by rw[Int.add_mul,Û,Û,ç d b])
 rw[zqd (t:=a * d+c * b) (b:=b * d) (by lia) e j];unfold Cn;rw[k.1,k.2]
def ON{P:Int}(h:0<P)(v:Int):Zm.lt v P * P=v * Zm.lb v P:=by
 let a:P≠0:=by lia
 let b:=Zm.lt_mul (t:=v) a;let c:=Zm.lb_mul (t:=v) a
 calc Zm.lt v P * P=Zm.lt v P * (Zm.lb v P * Zm.gd v P):=by rw[c]
  _=(Zm.lt v P * Zm.gd v P) * Zm.lb v P:=by erw[Û,Μ,ç]
  _=v * Zm.lb v P:=by rw[b]
def gM{P:Int}(h:0<P){v:Int}(hv:0<=v):0<=Zm.lt v P:=by
 let e:=ON h v;let b:=Zm.lb_pos (t:=v) h;let:0<=v * Zm.lb v P:=Ľ hv<|ì b;rw[<- e]at this;show Ũ this h
abbrev Sn:Stmt:=AK 90
def MX:AG:=
 (AF (AV (C8 (AA 1)<|AA 2)<|Al 2<|AI (AD 6)<|AI (AD 7) An)
 (AF (AV (m2 Bi (AA 4)<|AA 7)<|AD 5)
 (AF (AX (Bu (Bq (m2 BS (AA 3)<|mC<|.str "<")<|m2 (CD λi j=>decide (j<=i)) (AA 6)<|AA 5)<|Bq (m2 BS (AA 3)<|mC<|.str "<=")<|m2 (CD λi j=>decide (j<i)) (AA 6)<|AA 5) (AN<|mC<|.bl false) A5)
 (AF (AX (Bu (Bq (m2 BS (AA 3)<|mC<|.str ">")<|m2 (CD λi j=>decide (i<=j)) (AA 6)<|AA 5)<|Bq (m2 BS (AA 3)<|mC<|.str ">=")<|m2 (CD λi j=>decide (i<j)) (AA 6)<|AA 5) (AN<|mC<|.bl false) A5)
 (AX (Bq (m2 BS (AA 3)<|mC<|.str "=")<|m2 Cm (AA 6)<|AA 5) (AN<|mC<|.bl false) A5)))))
def Nn:AG:=
 (AF (BV (Aj<|AA 0) (Al 3<|AI (AD 2)<|AI (AD 3)<|AI (AD 4) An) MX)
 (AN<|mC<|.bl true))
def EG:qD->Option Ru:=AW 2 8 Nn
abbrev Vy:=fA 1 2 Sn EG
abbrev zgx:Gx:={ Bb with gt:=["_law_values"] }
abbrev zh9:Gm:=gA Sn 0 [] [] (ox:=zgx) (N:=["_law_looks_here","_law_values","_law_watch","_law_word","_law_number","_law_due","_law_top","_law_bottom"])
theorem zhs:Ck zh9 Vy Sn Nn:={}
def iZ{m mk:AH}{Y:AL}{kd:Ob}{ws:kq}{P:Int}{X:Nat->Int}{x:Str}{j:Nat}{b b2:Bool}(hk:FQ kd=!ws)(d:m Y=!(.v (.obj kd<|Ao ws.length P X) b))(e:mk Y=!(.v (.str x) b2))(c:CB ws x=!j)(hj:j<ws.length):C8 m mk Y=!(.v (Cn P<|X<|j+1) false):=by
 let a:(Ao ws.length P X)[j]?=!(Cn P<|X<|j+1):=Dl hj;let sf:(Cn P<|X<|j+1).sh=true:=rfl;unfold C8;erw[d,e,hk,c,a,sf,Æ]
def IG(kd:Ob)(m:Nat)(P:Int)(X:Nat->Int):(T.obj kd<|Ao m P X).sh=true:=Fv m P X
def zjf{P:Int}(h:Bo P){ws:kq}{kd:Ob}(hk:FQ kd=!ws)(X:Nat->Int){t:T}(A:∃x y n,t=.tup [.str x,.str y,.int n]/\x∈ws/\y∈CZ/\0<=n)(a0:q9)(o p r:q9) :
  ∃y5 y6 y7,MX [a0,!(.obj kd<|Ao ws.length P X),!(.str<|DE t),!(.str<|Cd t),!(.int<|Bl t),o,p,r]=!(if Dn P (X (Bc ws t).1) (Bc ws t).2.1 (Bc ws t).2.2=true then .nx [a0,!(.obj kd<|Ao ws.length P X),!(.str<|DE t),!(.str<|Cd t),!(.int<|Bl t),y5,y6,y7] else .rt (.bl false)):=by
 let(K,C,E,L):=Ic A;let(j,l,u,_):=Gv C;let s:Bc ws t=(j+1,Er<|Cd t,Bl t):=by unfold Bc;rw[l];rfl
 let(F,G):=QB _ E;let(d,e,f,i,k):=QE G;rw[F]at d e f i k;rw[s];let H:=IG kd ws.length P X;let m1:B9 (Bl t) (Zm.lb (X<|j+1) P)=true:=EL (h.lb _).s;let(c1,c2,c3,I,J):=zky (v:=X<|j+1) (n:=Bl t) h.p
 let g:=iZ (m:=AA 1) (mk:=AA 2) (Y:=[a0,!(.obj kd<|Ao ws.length P X),!(.str<|DE t),!(.str<|Cd t),!(.int<|Bl t),o,p,r]) (b:=false) (b2:=false) (kd:=kd) (ws:=ws) (P:=P) (X:=X) hk (by
  change T.obj kd (Ao ws.length P X)=D
  simp_all_arith [H]) (by simp_all_arith []) l u
 unfold Cn at g;show(show ∃y5 y6 y7,_=!(if Dn P (X<|j+1) (Er<|Cd t) (Bl t)=true then _ else _) from ?_)
 change T.obj kd (Ao ws.length P X)=D;change DE t=x;generalize Cd t=τ at *;change Bl t=n;change X (j+1)=v;change Er τ=w;show{!(.int<|n * Zm.lb v P),!(.int<|Zm.lt v P),!(.int<|Zm.lb v P),?_};change Zm.lt v P=a;change Zm.lb v P=b;unfold MX;show sq (by simp_all_arith [g]) ?_;show sq (by simp![m1];rfl) ?_;change n * b=q;let B:w=0\/w=1\/w=2\/w=3\/w=4:=by lia
 let en:Cm (.int a) (.int q)=!(.bl<|(not (a == q))):=GF;rcases B with rfl|rfl|rfl|rfl|rfl;by_cases z:v<n * P;let c:decide (q<=a)=false:=Õ<|by lia
 rw[if_pos (show Dn P v 0 n=true from Ä z)]
 simp_all_arith [d,e,f,i,k,c]
 let c:decide (q<=a)=true:=Ä<|by lia
 rw[if_neg (show ¬ Dn P v 0 n=true from λq=>z<|Ü q)];show sr<|by simp_all_arith [d,e,f,i,k,c]
 by_cases z:v<=n * P;let c:decide (q<a)=false:=Õ<|by lia
 rw[if_pos (show Dn P v 1 n=true from Ä z)]
 simp![d,e,f,i,k,c]
 let c:decide (q<a)=true:=Ä<|by lia
 rw[if_neg (show ¬ Dn P v 1 n=true from λq=>z<|Ü q)];show sr<|by simp![d,e,f,i,k,c]
 by_cases z:n * P<v;let c:decide (a<=q)=false:=Õ<|by lia
 rw[if_pos (show Dn P v 2 n=true from Ä z)]
 simp![d,e,f,i,k,c]
 let c:decide (a<=q)=true:=Ä<|by lia
 rw[if_neg (show ¬ Dn P v 2 n=true from λq=>z<|Ü q)];show Bw (by simp![d,e,f,i,k])<|sr<|by simp![d,e,f,i,k,c]
 by_cases z:n * P<=v;let c:decide (a<q)=false:=Õ<|by lia
 rw[if_pos (show Dn P v 3 n=true from Ä z)]
 simp![d,e,f,i,k,c]
 let c:decide (a<q)=true:=Ä<|by lia
 rw[if_neg (show ¬ Dn P v 3 n=true from λq=>z<|Ü q)];show Bw (by simp![d,e,f,i,k])<|sr<|by simp![d,e,f,i,k,c]
 by_cases z:v=n * P;let c:(a == q)=true:=by rw[Ĕ];lia
 rw[if_pos (show Dn P v 4 n=true from Ä z)]
 simp![d,e,f,i,k,en,c]
 let c:(a == q)=false:=by rw[Φ];lia
 rw[if_neg (show ¬ Dn P v 4 n=true from λq=>z<|Ü q)];show Bw (by simp![d,e,f,i,k])<|Bw (by simp![d,e,f,i,k])<|by simp![d,e,f,i,k,en,c]
def N0{P:Int}(h:Bo P){ws:kq}{kd:Ob}(hk:FQ kd=!ws)(X:Nat->Int){l:qD}(hl:Ci ws CZ l):EG [.lst l,.obj kd<|Ao ws.length P X]=!(.ok<|.bl<|C6 P (l.map<|Bc ws) X):=by
 let m:=IG kd ws.length P X;let n:=hl.sh
 let g:=jF (b:=Al 3<|AI (AD 2)<|AI (AD 3)<|AI (AD 4) An) (body:=MX) (λt:T=>t) (λt=>Dn P (X (Bc ws t).1) (Bc ws t).2.1 (Bc ws t).2.2) (.bl false) (λY=>∃x2 i j a d f,Y=[!(.lst l),!(.obj kd<|Ao ws.length P X),x2,i,j,a,d,f]) l
  [!(.lst l),!(.obj kd<|Ao ws.length P X),(),(),(),(),(),()] {(()),(),(),(),(),(),rfl} λt k Y p=>by
   let(x2,i,j,a,d,f,rfl):=p;let(r,u,v,w):=Ic<|hl t k;let(x,y,z,e):=zjf h hk X (hl t k) (!(.lst l)) a d f;show{[!(.lst l),!(.obj kd<|Ao ws.length P X),!(.str<|DE t),!(.str<|Cd t),!(.int<|Bl t),a,d,f],by rw[r];simp_all_arith [DE,Cd,Bl],λq=>?_,λq=>?_}
   rw[if_pos q]at e;show{_,e,_,_,_,_,_,_,rfl};rw[if_neg (by rw[q];show ć)]at e;show e
 let o:C6 P (l.map<|Bc ws) X=l.all λt=>Dn P (X (Bc ws t).1) (Bc ws t).2.1 (Bc ws t).2.2:=by
  unfold C6;rw[Ţ];rfl
 rw[List.map_id']at g;rw[o];cases c:(l.all λt=>Dn P (X (Bc ws t).1) (Bc ws t).2.1 (Bc ws t).2.2) with
 |true=>
  let(s,e,x2,i,j,a,d,f,rfl):=g.1 c;change T.obj kd (Ao ws.length P X)=D;unfold EG Nn
  simp![n,m,e]
 |false=>
  let e:=g.2 c;change T.obj kd (Ao ws.length P X)=D;unfold EG Nn
  simp![n,m,e]
abbrev Sr:Stmt:=AK 92
def Q5:AG:=
 (Gc 2 (AA 3)<|AJ JJ<|AB (m2 BW (m2 Bi (AM (AA 4)<|mC<|.int 0)<|AM (AA 1)<|mC<|.int 1)<|m2 Bi (AM (AA 1)<|mC<|.int 0)<|AM (AA 4)<|mC<|.int 1)<|AB (m2 Bi (AM (AA 4)<|mC<|.int 1)<|AM (AA 1)<|mC<|.int 1) AE)
def Np:AG:=
 (AF (Bh 2 GL)
 (AF (BV (Ii<|AA 0) (Al 2<|AI (AD 3)<|AI (AD 4) An) Q5)
 (AN<|AA 2)))
def MC:qD->Option Ru:=AW 2 5 Np
abbrev k8:=fA 2 2 Sr MC
abbrev zgy:Gx:={ Bb with fo:=["_law_found"],gt:=["_law_values"] }
abbrev zhb:Gm:=gA Sr 1 [("_law_lowest",Vz)] [] ["_law_found"] (ox:=zgy) (dc:=["_law_found"])
theorem zhu:Ck zhb k8 Sr Np:={}
def BG(X:Nat->Int)(w:Int):Nat->Int:=λi=>if i=0 then 0 else X i+w
def upX_s(X:Nat->Int)(w:Int)(j:Nat):BG X w (j+1)=X (j+1)+w:=if_neg<|by lia
def zp4(ws:kq)(g:Nat->T):HU ws (mT ws.length g)=mT ws.length λj=>.tup [.str<|ws.getD j Str.empty,g j]:=by
 show Ek (by unfold HU;rw[ſ,Bj,Nat.min_self]) λi a=>?_;unfold HU;rw[ċ,Dl a,Á a,â,Á a];rfl
def hJ{P:Int}(h:Bo P){ws:kq}(nd:ws.Nodup)(wl:ws.length<=7)(X:Nat->Int)(u:∀i,0<=X i){a b w:Int}(hb:Bo b)(ha:0<=a)(e:a * P=w * b):MC [.obj (.fdc ws)<|Ao ws.length P X,.tup [.int a,.int b]]=!(.ok<|.osd ws<|Ao ws.length P<|BG X w):=by
 let B:=IG (.fdc ws) ws.length P X;let F:=A8 _<|Fv ws.length P X
 let(Y,c,l,m,rfl):=DI (b:=Al 2<|AI (AD 3)<|AI (AD 4) An) (body:=Q5) (ts:=mT ws.length λj=>.tup [.str<|ws.getD j Str.empty,Cn P<|X<|j+1]) (Y:=[!(.obj (.fdc ws)<|Ao ws.length P X),!(.tup [.int a,.int b]),!(.osd [] []),(),()])
  (λi Y=>∃l m,Y=[!(.obj (.fdc ws)<|Ao ws.length P X),!(.tup [.int a,.int b]),!(.osd (ws.take i)<|(Ao ws.length P<|BG X w).take i),l,m]) {(()),(),rfl} λi t Y r s=>by
   let(d,rfl):=Gn r;let(l,m,rfl):=s;show{[!(.obj (.fdc ws)<|Ao ws.length P X),!(.tup [.int a,.int b]),!(.osd (ws.take i)<|(Ao ws.length P<|BG X w).take i),!(.str<|ws.getD i Str.empty),!(Cn P<|X<|i+1)],by simp_all_arith [],[!(.obj (.fdc ws)<|Ao ws.length P X),!(.tup [.int a,.int b]),!(.osd (ws.take<|i+1)<|(Ao ws.length P<|BG X w).take (i+1)),!(.str<|ws.getD i Str.empty),!(Cn P<|X<|i+1)],?_,_,_,rfl}
   let o:ws.getD i Str.empty=ws[i]:=by
    rw[â,Á d];rfl
   let x:ws.getD i Str.empty∉ws.take i:=by
    rw[o];intro z;let(k,hk,n):=Ő.mp z;rw[î]at hk;rw[Λ]at n;let:=(ñ nd).mp n
    lia
   let C:(ws.take i).length<100000:=by rw[î];lia
   let tk:ws.take (i+1)=ws.take i++[ws.getD i Str.empty]:=by rw[o,ĳ]
   let E:(Ao ws.length P<|BG X w).take (i+1)=(Ao ws.length P<|BG X w).take i++[Cn P<|X (i+1)+w]:=by
    let hv:i<(Ao ws.length P<|BG X w).length:=by rw[Bj];show d
    let q:(Ao ws.length P<|BG X w)[i]=Cn P (X (i+1)+w):=by
     let:=Dl (g:=λj=>Cn P<|BG X w<|j+1) d;rw[upX_s]at this;show Þ<|(Á hv).symm.trans this
    rw[<- q,ĳ]
   let p:=gN (v:=X<|i+1) h (h.lb<|X<|i+1) hb (gM h.p<|u _) ha (ON h.p _) e;let m1:B9 (Zm.lt (X<|i+1) P) b=true:=EL hb.s;let f:B9 a (Zm.lb (X<|i+1) P)=true:=EL (h.lb _).s;let y:B9 (Zm.lb (X<|i+1) P) b=true:=EL hb.s;rw[tk,E];unfold Q5;change ws.getD i Str.empty=k;change ws.take i=K;change (Ao ws.length P<|BG X w).take i=V;change T.obj (.fdc ws) (Ao ws.length P X)=D;unfold Cn at p ⊢;change Zm.lt (X (i+1)+w) P=a2;change Zm.lb (X (i+1)+w) P=b2;change Zm.lt (X<|i+1) P=a1;change Zm.lb (X<|i+1) P=b1
   simp![Ā,ā,m1,f,y,p,x,C]
 rw[Bj]at c;rw[ă,List.take_of_length_le (i:=ws.length) (by rw[Bj];show Ã _)]at c;let A:=zp4 ws λj=>Cn P<|X<|j+1
 unfold MC
 let run:Np [!(.obj (.fdc ws)<|Ao ws.length P X),!(.tup [.int a,.int b]),(),(),()]=!(.rt<|.osd ws<|Ao ws.length P<|BG X w):=by
  unfold Np
  let it:Ii (AA 0) [!(.obj (.fdc ws)<|Ao ws.length P X),!(.tup [.int a,.int b]),!(.osd [] []),(),()]=!(.v (mT ws.length λj=>.tup [.str<|ws.getD j Str.empty,Cn P<|X<|j+1]) false):=by
   rw[<- A];show(show _=!(RsL.v (HU ws<|Ao ws.length P X) false) from ?_);let sv:=Fv ws.length P X;change Ao ws.length P X=VS
   simp![sv]
  change T.obj (.fdc ws) (Ao ws.length P X)=D;change (mT ws.length λj=>T.tup [.str<|ws.getD j Str.empty,Cn P<|X<|j+1])=IT;change Ao ws.length P (BG X w)=VS;show sq (by simp_all_arith [])<|sq (by simp_all_arith [-Ii,it,c])<|by simp![]
 change T.obj (.fdc ws) (Ao ws.length P X)=D
 simp![B,run]
abbrev Si:Stmt:=AK 93
def VT:AH:=
 (m2 BS (AA 0)<|AA 2)
def XF:AH:=
 (AA 1)
def Up:AG:=
 (AN<|AM (Az 2 [1] (Aj<|AA 0) (Al 2<|AI (AD 0)<|AI (AD 1) An) VT XF)<|mC<|.int 0)
def IA:qD->Option Ru:=AW 2 2 Up
abbrev kX:=fA 1 2 Si IA
abbrev zjv:Gm:=gA Si 0 [] []
theorem zka:Ck zjv kX Si Up:={}
def znr{ws:kq}{rs:List<|Str×qD}(hr:RsOk ws rs)(tn:Ca (rs.map (·.1))){r:Str×qD}(h:r∈rs):IA [.lst<|rs.map AS,.str r.1]=!(.ok<|.lst r.2):=by
 let i:=IW hr;let p:=(hr.lk r h).1.sh
 let f:=Hf (b:=Al 2<|AI (AD 0)<|AI (AD 1) An) (mt:=VT) (me:=XF) AS (λq=>.lst q.2) (λq=>decide (q.1=r.1)) (λY=>∃x y,Y=[x,y,!(.str r.1)]) rs [(),(),!(.str r.1)] {_,_,rfl} λq e Y m=>by
  let(x,y,rfl):=m;let c:=(hr.lk q e).1.sh;let k:=Fe (x:=q.1) (y:=r.1) (tn _<|Α e)<|tn _<|Α h;show{[!(.str q.1),!(.lst q.2),!(.str r.1)],false,by simp_all_arith [c,A8 _ c],?_,λϊ=>?_,_,_,rfl}
  unfold VT
  simp_all_arith [k]
  unfold XF
  simp_all_arith [c]
 let j:rs.filter (λq=>decide (q.1=r.1))=[r]:=by
  let nd:=hr.nd;clear f i hr tn
  induction rs with
  |nil=>cases h|cons a l n=>
   rw[Ù,ĩ]at nd;rw[Ŝ];rcases Ð.mp h with rfl|g;rw[if_pos<|Ä rfl,List.filter_eq_nil_iff.mpr λq e z=>nd.1<|Ò.mpr {q,e,Ü z}];rw[if_neg λz=>nd.1<|Ò.mpr {r,g,(Ü z).symm},n g nd.2]
 rw[j]at f;let o:(rs.map AS).length<=100000:=by let:=hr.l64;rw[À];lia
 unfold IA Up;change rs.map AS=RS;let d:A9 [T.lst r.2] 0=!(.lst r.2):=CF (by decide) rfl
 simp![i,o,f,d,p]
abbrev Se:Stmt:=AK 94
def QX:AG:=
 (AF (AV (C8 (AA 1)<|AA 6)<|Al 2<|AI (AD 10)<|AI (AD 11) An)
 (AF (AV (m2 FL (m2 Bi (AA 8)<|AA 11)<|AA 10)<|AD 9)
 (AX (Bq (m2 FX (AA 7)<|BP<|AB (mC<|.str "<")<|AB (mC<|.str "<=") AE)<|m2 (CD λi j=>decide (j<i)) (m2 Bi (AA 9)<|AM (AA 4)<|mC<|.int 1)<|m2 Bi (AM (AA 4)<|mC<|.int 0)<|AA 11) (AV (BP<|AB (AA 9)<|AB (AA 11) AE)<|AD 4) A5)))
def Nj:AG:=
 (AF (AV (BP<|AB (mC<|.int 0)<|AB (mC<|.int 1) AE)<|AD 4)
 (AF (BV (Aj<|AA 0) (Al 3<|AI (AD 6)<|AI (AD 7)<|AI (AD 8) An) QX)
 (AF (AV (AM (BQ<|BK (BP<|AB (mC<|.int 0)<|AB (mC<|.int 1) AE)<|BK (BP<|AB (mC<|.int 1)<|AB (mC<|.int 2) AE)<|BK (BP<|AB (m2 Ba (m2 Co (AA 2)<|mC<|.int 3)<|m2 Bi (mC<|.int 3)<|AA 3)<|AB (m2 BW (mC<|.int 1)<|m2 Ba (m2 Co (AA 2)<|mC<|.int 7)<|mC<|.int 3) AE) AE)<|m2 Ba (AA 2)<|mC<|.int 3)<|AD 5)
 (AN<|AJ JJ<|AB (m2 BW (m2 Bi (AM (AA 4)<|mC<|.int 0)<|AM (AA 5)<|mC<|.int 1)<|m2 Bi (AM (AA 5)<|mC<|.int 0)<|AM (AA 4)<|mC<|.int 1)<|AB (m2 Bi (AM (AA 4)<|mC<|.int 1)<|AM (AA 5)<|mC<|.int 1) AE))))
def Pk:qD->Option Ru:=AW 4 12 Nj
abbrev kU:=fA 2 4 Se Pk
abbrev zd6:Gx:={ Bb with gt:=["_law_values"] }
abbrev zdj:Gm:=gA Se 1 [("_law_lowest",Vz)] [] (ox:=zd6) (N:=["_law_guard","_law_values","_law_x","_law_unit","_law_wait","_law_more","_law_watch","_law_word","_law_number","_law_lack","_law_top","_law_bottom"])
theorem zdx:Ck zdj kU Se Nj:={}
def E3(x:Int)(k:Nat)(hk:0<k):∃q:Nat,x.fmod (k:Int)=(q:Int)/\q<k:=by
 let(i,e,h):=fS hk x;show{(i),e,h}
def zq7{y:Str}(a:y∈CZ):∃b,FX (.str y) (.tup [.str "<",.str "<="])=!(.bl b):=by
 let:∀y∈CZ,GP (.str y) [.str "<",.str "<="]=true:=by decide +kernel
 show{_,by
  show(show (if GP (.str y) [.str "<",.str "<="]=true then ↑(T.bl<|(not (Ij (.str y) [.str "<",.str "<="]))) else ())=_ from ?_)
  rw[if_pos<|this y a]}
structure Wt(a b w:Int):Prop where
 hb:Bo b
 ha:0<=a
 he:a * 12=w * b
 hv:∃k,w=2 * k
 hn:0<=w
 hu:b<=12
theorem Fp:Bo 12:={by decide,by decide +kernel}
def wt_nn{a b w:Int}(hb:0<b)(ha:0<=a)(e:a * 12=w * b):0<=w:=by
 let:0<=w * b:=by lia
 show Ũ this hb
def zne{ws:kq}{kd:Ob}(hk:FQ kd=!ws)(X:Nat->Int)(hX:∀i,0<=X i)(he:∀i,∃k,X i=2 * k){l:qD}(hl:Ci ws CZ l)(x:Int){u:Int}(hu:0<u):∃a b w,Wt a b w/\Pk [.lst l,.obj kd<|Ao ws.length 12 X,.int x,.int u]=!(.ok<|.tup [.int a,.int b]):=by
 let sD:=IG kd ws.length 12 X;let S:=hl.sh;let F:=A8 _ S;let(Q,E):∃Q:Int->Int->q9->q9->q9->q9->q9->q9->AL,Q=λa b A B C o f h=>[!(.lst l),!(.obj kd<|Ao ws.length 12 X),!(.int x),!(.int u),!(.tup [.int a,.int b]),(),A,B,C,o,f,h]:={_,rfl}
 let(_,V,a,b,w,W,A,B,C,o,f,h,rfl):=DI (b:=Al 3<|AI (AD 6)<|AI (AD 7)<|AI (AD 8) An) (body:=QX) (ts:=l) (Y:=Q 0 1 () () () () () ())
  (λϊ Y=>∃a b w,Wt a b w/\∃A B C o f h,Y=Q a b A B C o f h) {0,1,0,{{by decide,by decide +kernel},by decide,by decide,{0,rfl},by decide,by decide},(),(),(),(),(),(),rfl} λi t Y h1 h2=>by
   let(a,b,w,W,A,B,C,o,f,h,rfl):=h2;let ht:=ú h1;let(N,O,k3,k4):=Ic<|hl t ht;let(j,ej,hj,_):=Gv O;let(I,en):=zq7 k3
   let g:=iZ (m:=AA 1) (mk:=AA 6) (Y:=Q a b (!(.str<|DE t)) (!(.str<|Cd t)) (!(.int<|Bl t)) o f h) (b:=false) (b2:=false) (kd:=kd) (ws:=ws) (P:=12) (X:=X) hk (by
    subst E;change T.obj kd (Ao ws.length 12 X)=D
    simp_all_arith [sD]) (by rw[E];simp_all_arith []) ej hj
   let m1:B9 (Bl t) (Zm.lb (X<|j+1) 12)=true:=EL (Fp.lb _).s;let n:B9 (Bl t * Zm.lb (X<|j+1) 12 - Zm.lt (X<|j+1) 12) b=true:=EL W.hb.s;let J:B9 a (Zm.lb (X<|j+1) 12)=true:=EL (Fp.lb _).s;let fe:=ON (P:=12) (by decide)<|X<|j+1
   let bl:=Fp.lb<|X<|j+1;let bu:=Zm.lb_le (t:=X<|j+1)<|show(0:Int)<12 by decide
   let(kk,hkk):=he<|j+1;show{Q a b (!(.str<|DE t)) (!(.str<|Cd t)) (!(.int<|Bl t)) o f h,by rw[N,E];simp_all_arith [DE,Cd,Bl],?_}
   let G:A9 [T.int a,.int b] 0=!(.int a):=CF (by decide) rfl;let H:A9 [T.int a,.int b] 1=!(.int b):=CF (by decide) rfl;unfold QX;unfold Cn at g;change DE t=lx;change Cd t=ly;change Bl t=ln;change X (j+1)=v;change Zm.lt v 12=va;change Zm.lb v 12=vb;generalize hq:ln * vb - va=q at *
   let(s,y,U,W',e):∃s y U,Wt s y U/\((I=true/\a * vb<q * b)/\s=q/\y=vb\/¬ (I=true/\a * vb<q * b)/\s=a/\y=b):=by
    by_cases c:I=true/\a * vb<q * b
    let q0:0<=q:=by
     let:0<=a * vb:=Ľ W.ha<|ì bl.p;let:0<=q * b:=by lia
     show Ũ this W.hb.p
    let qe:q * 12=(12 * ln - v) * vb:=by
     rw[<- hq,Ł,Ł,fe,Η,ç ln 12]
    show{q,vb,12 * ln - v,{bl,q0,qe,{6 * ln - kk,by lia},wt_nn bl.p q0 qe,bu},.inl {(c),rfl,rfl}};show{a,b,w,W,.inr {(c),rfl,rfl}}
   show{Q s y (!(.str lx)) (!(.str ly)) (!(.int ln)) (!(.int q)) (!(.int va))<|!(.int vb),?_,s,y,U,W',_,_,_,_,_,_,rfl};subst E;dsimp only at g ⊢;change T.obj kd (Ao ws.length 12 X)=D;show sq (by simp_all_arith [g])<|sq (by simp![m1,hq];rfl) ?_
   rcases e with ⟨⟨rfl,c⟩,rfl,rfl⟩|⟨c,rfl,rfl⟩;let K:=Ä c
   simp_all_arith [en,G,H,n,J,K]
   cases I with
   |true=>
    let K:=Õ λz=>c {(rfl),z}
    simp_all_arith [en,G,H,n,J,K]
   |false=>simp_all_arith [en]
 let p3:(3 * u=0)=False:=eq_false<|by lia
 let(p,L,hp):=E3 x 3<|by decide
 let L:x.fmod 3=(p:Int):=L;let f0:0<=(x.fdiv 3).fmod (3 * u):=ė _<|by lia
 let(r,M,hr):=E3 (x.fdiv 7) 3<|by decide
 let M:(x.fdiv 7).fmod 3=(r:Int):=M
 let(c,d,z,Z,em):∃c d z,Wt c d z/\A9 [T.tup [.int 0,.int 1],.tup [.int 1,.int 2],.tup [.int<|(x.fdiv 3).fmod (3 * u),.int<|1+(r:Int)]] (p:Int)=!(.tup [.int c,.int d]):=by
  let:p=0\/p=1\/p=2:=by lia
  rcases this with rfl|rfl|rfl;show{0,1,0,{{by decide,by decide +kernel},by decide,by decide,{0,rfl},by decide,by decide},rfl};show{1,2,6,{{by decide,by decide +kernel},by decide,by decide,{3,rfl},by decide,by decide},rfl};change (x.fdiv 3).fmod (3 * u)=g;let:r=0\/r=1\/r=2:=by lia
  rcases this with rfl|rfl|rfl;show{g,1,12 * g,{{by decide,by decide +kernel},f0,by lia,{6 * g,by lia},by lia,by decide},rfl};show{g,2,6 * g,{{by decide,by decide +kernel},f0,by lia,{3 * g,by lia},by lia,by decide},rfl};show{g,3,4 * g,{{by decide,by decide +kernel},f0,by lia,{2 * g,by lia},by lia,by decide},rfl}
 let R:=gN Fp W.hb Z.hb W.ha Z.ha W.he Z.he;let(N,hk1):=W.hv;let(O,hk2):=Z.hv;let n2:0<=w+z:=by let:=W.hn;let:=Z.hn;lia
 show{Zm.lt (w+z) 12,Zm.lb (w+z) 12,w+z,{Fp.lb _,gM (by decide) n2,ON (by decide) _,{N+O,by lia},n2,Zm.lb_le<|by decide},?_};let t3:DB 3=true:=Dy (by decide)<|by decide
 let t7:DB 7=true:=Dy (by decide)<|by decide
 let m1:B9 a d=true:=EL Z.hb.s;let n:B9 c b=true:=EL W.hb.s;let J:B9 b d=true:=EL Z.hb.s;let m4:B9 3 u=true:=Gj<|DK (by decide)<|by decide
 let G:A9 [T.int a,.int b] 0=!(.int a):=CF (by decide) rfl;let H:A9 [T.int a,.int b] 1=!(.int b):=CF (by decide) rfl;let c0:A9 [T.int c,.int d] 0=!(.int c):=CF (by decide) rfl;let c1:A9 [T.int c,.int d] 1=!(.int d):=CF (by decide) rfl;let R:JJ [.int<|a * d+c * b,.int<|b * d]=!(.ok<|.tup [.int<|Zm.lt (w+z) 12,.int<|Zm.lb (w+z) 12]):=R;unfold Pk;subst E;dsimp only at V;change T.obj kd (Ao ws.length 12 X)=D;change Zm.lt (w+z) 12=ra;change Zm.lb (w+z) 12=rb
 let run:Nj [!(.lst l),!D,!(.int x),!(.int u),(),(),(),(),(),(),(),()]=!(.rt<|.tup [.int ra,.int rb]):=by
  unfold Nj;show sq (by simp_all_arith []) (sq (by simp_all_arith [S,F,V])<|sq (Y':=[!(.lst l),!D,!(.int x),!(.int u),!(.tup [.int a,.int b]),!(.tup [.int c,.int d]),A,B,C,o,f,h]) (by simp_all_arith [t3,t7,m4,p3,L,M,em]) ?_)
  simp_all_arith [G,H,c0,c1,m1,n,J,R]
 simp![S,F,sD,run]
abbrev Sg:Stmt:=AK 95
def MV:AG:=
 (Gc 7 (AA 8)<|BP<|AB (mC<|.int 0)<|AB (mC<|.int 1) AE)
def VR:AH:=
 (Bq (m2 BS (AM (AA 0)<|mC<|.int 0)<|AA 1)<|m2 BS (AM (AA 0)<|mC<|.int 4)<|mC<|.str "")
def XD:AH:=
 (AA 0)
def MW:AG:=
 (Gc 16 (AA 8)<|BP<|AB (mC<|.int 0)<|AB (mC<|.int 1) AE)
def JR:AG:=
 (AF (AV (AJ GZ<|AB (AA 10)<|AB (mC<|.int 3) AE)<|AD 11)
 (AF (AV (Az 1 [6] (Aj<|AA 1) (AD 0) VR XD)<|AD 12)
 (AF (AV (BP<|AB (AA 6)<|AB (AA 6)<|AB (BQ AE)<|AB (BQ AE)<|AB (mC<|.str "") AE)<|AD 13)
 (AF (Bt 7) (AF (Bt 15) (AF (Bt 16) (AF (AX (m2 Cm (AA 12)<|BQ AE) (AV (AM (AA 12)<|m2 Ba (AM (AA 11)<|mC<|.int 0)<|m1 Bd<|AA 12)<|AD 13) A5)
 (AF (Bt 7) (AF (AV (AJ Pk<|AB (AM (AA 13)<|mC<|.int 2)<|AB (AA 7)<|AB (AM (AA 11)<|mC<|.int 1)<|AB (AA 5) AE)<|AD 14)
 (AF (Bt 7) (AF (Bh 15<|AJ MC<|AB (AA 7)<|AB (AA 14) AE)
 (AF (Bt 7) (AF (Bt 15) (AF (Bt 16) (AF (AX (BJ<|AJ EG<|AB (AJ IA<|AB (AA 0)<|AB (AA 6) AE)<|AB (AA 15) AE) (AF (Bt 7) (AF (Bh 15<|AA 7)
 (AV (BP<|AB (mC<|.int 0)<|AB (mC<|.int 1) AE)<|AD 14))) A5)
 (AF (Bt 7) (AF (CO 9<|BP<|AB (AA 6)<|AB (AJ MC<|AB (AA 7)<|AB (BP<|AB (AM (AA 14)<|mC<|.int 0)<|AB (m2 Bi (mC<|.int 2)<|AM (AA 14)<|mC<|.int 1) AE) AE) AE)
 (AF (Bt 15) (AF (CO 9<|BP<|AB (AA 6)<|AB (AA 15) AE)
 (AF (Bt 15) (AF (Bh 7<|m1 Jr<|AA 15)
 (AF (Bt 15) (AF (Bh 16<|m1 Jr<|AA 15)
 (AF (BV (Aj<|AM (AA 13)<|mC<|.int 3) (AD 8) MW)
 (AF (Bt 7) (AF (Bt 15) (AF (Bt 16) (AX (Bq (AJ EG<|AB (AM (AA 13)<|mC<|.int 2)<|AB (AA 15) AE)<|AJ EG<|AB (AJ IA<|AB (AA 0)<|AB (AM (AA 13)<|mC<|.int 1) AE)<|AB (AA 16) AE) (AF (AV (AM (AA 13)<|mC<|.int 1)<|AD 6)
 (AF (Bt 16) (AF (Bh 7<|AA 16)
 (AF (Bt 7)<|CO 9<|BP<|AB (AA 6)<|AB (AA 7) AE)))) A5))))))))))))))))))))))))))))
def Kx:AG:=
 (AF (AV (AM (AM (AA 0)<|mC<|.int 0)<|mC<|.int 0)<|AD 6)
 (AF (Bh 7 GL)
 (AF (BV (Aj<|AA 4) (AD 8) MV)
 (AF (Bt 7) (AF (Bh 9<|BQ<|BK (BP<|AB (AA 6)<|AB (AA 7) AE) AE)
 (AF (Bt 7) (AF (Bt 15) (AF (Bt 16) (AF (AX (BJ<|AJ EG<|AB (AM (AM (AA 0)<|mC<|.int 0)<|mC<|.int 1)<|AB (AA 7) AE) (AN<|BQ AE) A5)
 (AF (BV (Aj<|AA 3) (AD 10) JR)
 (AN<|AA 9)))))))))))
def Pl:qD->Option Ru:=AW 6 17 Kx
abbrev kW:=fA 3 6 Sg Pl
abbrev zgv:Gx:={ Bb with fo:=["_law_values","_law_later_here","_law_behind"],gt:=["_law_values","_law_later_here","_law_behind"] }
abbrev zh6:Gm:=gA Sg 2 [("_law_meets",Vy),("_law_stream",Vx),("_law_wait_for",kU),("_law_later",k8),("_law_stay",kX)] ["len","dict"] ["_law_values","_law_found","_law_behind","_law_later_here"] (ox:=zgv) (dc:=["_law_values","_law_later_here","_law_behind"]) (N:=["_law_rooms","_law_doors","_law_goal","_law_cells","_law_watches","_law_unit","_law_room","_law_values","_law_watch","_law_found","_law_cell","_law_xs","_law_here","_law_door","_law_wait","_law_later_here","_law_behind"])
theorem zhp:Ck zh6 kW Sg Kx:={}
def zl2{P:Int}{X:Nat->Int}(d:X 0=0){l:Nat×Nat×Int}(j:l.2.1<5)(h:Dn P (X l.1) l.2.1 l.2.2=true):∀x∈DX l,Db.sat P !x.2.2<|X x.1 - X x.2.1:=by
 let(p,w,n):=l;let e:(2 * n) / 2=n:=by lia
 let f:(2 * n+1) / 2=n:=by lia
 let g:(2 * -n) / 2=-n:=by lia
 let i:(2 * -n+1) / 2=-n:=by lia
 let m1:(2 * n) % 2=0:=by lia
 let m2:(2 * n+1) % 2=1:=by lia
 let k:(2 * -n) % 2=0:=by lia
 let m:(2 * -n+1) % 2=1:=by lia
 let en:-n * P=-(n * P):=Int.neg_mul ..
 let o:w=0\/w=1\/w=2\/w=3\/w=4:=by
  let:w<5:=j;lia
 let c:X p<=n * P->Db.sat P (!(2 * n+1)) (X p - X 0):=λz=>by
  show(?_:X p - X 0<=(2 * n+1) / 2 * P - 1+(2 * n+1) % 2);rw[f,m2,d];lia
 let b:n * P<=X p->Db.sat P (!(2 * -n+1)) (X 0 - X p):=λz=>by
  show(?_:X 0 - X p<=(2 * -n+1) / 2 * P - 1+(2 * -n+1) % 2);rw[i,m,d,en];lia
 rcases o with rfl|rfl|rfl|rfl|rfl<;>intro x a;rw[Ì.mp a];let z:X p<n * P:=Ü h;show(?_:X p - X 0<=(2 * n) / 2 * P - 1+(2 * n) % 2);rw[e,m1,d]
 lia;rw[Ì.mp a];show c<|Ü h
 rw[Ì.mp a];let z:n * P<X p:=Ü h;show(?_:X 0 - X p<=(2 * -n) / 2 * P - 1+(2 * -n) % 2);rw[g,k,d,en]
 lia;rw[Ì.mp a];show b<|Ü h
 let z:X p=n * P:=Ü h;rcases Ð.mp a with rfl|a;show c<|by lia
 rw[Ì.mp a];show b<|by lia
def NZ{m:Nat}{L:List<|Nat×Nat×Int}(k:EX m L){f:Db.Z}(s:Db.Nar (m+1) f){P:Int}(n:0<P){X:Nat->Int}(e:X 0=0)(r:∀i,0<=X i)(hl:Db.Lie (m+1) P X f)(hh:C6 P L X=true):∃h,BX L f=!h/\Db.Lie (m+1) P X h:=by
 let g:=LC k
 let q:Db.Lie (m+1) P X<|Dk.puts (L.flatMap DX) f:=(Dk.lie_puts n _ f g).mpr {hl,λx d=>by
  let(l,hl,d):=Ξ.mp d;show zl2 e (k l hl).2.2 (Ñ.mp hh l hl) x d}
 let sd:=Db.lie_sound n e (λi z=>r i) q;let(a,b):=Dk.met_fw s g;unfold BX;cases c:Dk.met (L.flatMap DX) f with
 |none=>show absurd sd (b c)|some h=>
  show{h,rfl,λi j o p=>?_};rw[<- (a h c).2 i j o p];show Db.lie_fw e (λi z=>r i) q (m+1) (Ã _) i j o p
structure Std(M:Mc)(r:Str)(X:Nat->Int):Prop where
 hr:r∈M.nm
 hz:X 0=0
 hn:∀i,0<=X i
 hs:C6 12 (Au M.ws M.rs r) X=true
 hl:∀P,Jl M P=true->M.nm.all (HA M P)=true->∃f∈BZ ⇑M P r,Db.Lie ⇑M 12 X f
def mI{n:Nat}{a:List Db.Z}{q:Db.Z}{X:Nat->Int}(h:Iu n a ↑q=true)(l:Db.Lie n 12 X q):∃f∈a,Db.Lie n 12 X f:=by
 let(f,b,q):=Ě.mp h;show{f,b,Db.lie_mono (by decide) l<|@of_decide_eq_true _ (Classical.propDecidable _) q}
def lk_zB{l:Nat×Nat×Int}(h:Dn 12 0 l.2.1 l.2.2=true):zB l=true:=by
 let(p,w,n):=l
 match w,h with
 |0,h=>show Ä (by let:(0:Int)<n * 12:=Ü h;show(?_:0<n);lia)|1,h=>show Ä (by let:(0:Int)<=n * 12:=Ü h;show(?_:0<=n);lia)|2,h=>show Ä (by let:n * 12<(0:Int):=Ü h;show(?_:n<0);lia)|3,h=>show Ä (by let:n * 12<=(0:Int):=Ü h;show(?_:n<=0);lia)|w+4,h=>show Ä (by let:(0:Int)=n * 12:=Ü h;show(?_:n=0);lia)
def zg6{M:Mc}(h:McOk M)(hh:C6 12 (Au M.ws M.rs<|M.nm.headD "") (λϊ=>0)=true):Std M (M.nm.headD "") λϊ=>0:=by
 show{Kq h,rfl,λϊ=>ł _,hh,λP a z=>?_};have k:(Au M.ws M.rs<|M.nm.headD "").all zB=true:=Ñ.mpr λl hl=>lk_zB<|Ñ.mp hh l hl
 unfold Jl at a;rw[k,ř,ĺ]at a;let(f,b,q):=Ě.mp a;have q:∀i j,i<↥M+1->j<↥M+1->Db.le ↑1 (f i j):=@of_decide_eq_true _ (Classical.propDecidable _) q;show{f,b,λi j d g=>?_}
 have:=q i j d g;show(?_:Db.sat 12 (f i j)<|0 - 0);cases e:f i j with
 |none=>trivial|some c=>
  rw[e]at this;have:(1:Int)<=c:=this;show(?_:(0:Int) - 0<=c / 2 * 12 - 1+c % 2)
  lia
def Std.wait{M:Mc}(h:McOk M){r:Str}{X:Nat->Int}(S:Std M r X){w:Int}(j:0<=w)(hh:C6 12 (Au M.ws M.rs r) (BG X w)=true):Std M r<|BG X w:=by
 let un:∀i,0<=BG X w i:=λi=>by
  unfold BG;split;lia;let:=S.hn i;lia
 show{S.hr,rfl,un,hh,λP e b=>?_};let(f,c,k):=S.hl P e b;let hr:=Ñ.mp (Ñ.mp b r S.hr) f c;let(a,_):=ÿ.mp hr
 let m:=Dm.wtd_lie j k (BG X w) (by rw[S.hz];rfl) λi n z=>by
  show(show (if i=0 then 0 else X i+w)=_ from ?_);rw[if_neg<|by lia]
 let(g,d,l):=NZ (JZ h r) (Dm.wtd_nar<|JN c) (P:=12) (X:=BG X w) (by decide) rfl un m hh;unfold GQ at a;rw[d]at a;show mI a l
def zij{M:Mc}(h:McOk M)(r:Str){x y:Nat->Int}(f:∀p,x p<=y p)(hh:C6 12 (Au M.ws M.rs r) y=true):C6 12 (Au M.ws M.rs r) x=true:=by
 unfold C6 at hh ⊢;rw[Ñ]at hh ⊢;intro l hl;have c:=hh l hl;unfold Au at hl;let(t,d,rfl):=Ò.mp hl;cases e:M.rs.find? λq=>decide (q.1=r) with
 |none=>rw[e]at d;cases d|some q=>
  rw[e]at d;let(a,b,n,rfl,_,hb,_):=(h.r.lk q<|Ŭ e).1 t d
  have i:Er b=0\/Er b=1:=by
   have:∀y∈FN,Er y=0\/Er y=1:=by decide +kernel
   show this b hb
  have j:=f (Bc M.ws<|.tup [.str a,.str b,.int n]).1;change (Bc M.ws<|.tup [.str a,.str b,.int n]).1=p;have g:(Bc M.ws<|.tup [.str a,.str b,.int n]).2=(Er b,n):=rfl;rw[g]at c ⊢
  rcases i with e|e<;>rw[e]at c ⊢;show Ä (by have:y p<n * 12:=Ü c;lia);show Ä (by have:y p<=n * 12:=Ü c;lia)
def Xx{r:Str}{d:Dr}(hs:d.s=r)(hz:d.z=Str.ofString ""):∀{l:qA} (k:Nat),d∈l->∃p∈B0 r k l,p.2=d
 |a::l,k,h=>by
  unfold B0;rcases Ð.mp h with rfl|h;show{(k,d),Č _ (by rw[if_pos {(hz),hs}];show Ì.mpr rfl),rfl};let(p,b,e):=Xx hs hz (k+1) h;show{p,ã _ b,e}
def Std.door{M:Mc}(h:McOk M){r:Str}{X:Nat->Int}(S:Std M r X){d:Dr}(hd:d∈M.ds)(hs:d.s=r)(hz:d.z=Str.ofString "")(u:C6 12 (gK M.ws d) X=true){τ:Nat->Int}(a:∀i,τ i=X (BH (BB M.ws d.n) i))(he:C6 12 (Au M.ws M.rs d.e) τ=true):Std M d.e τ:=by
 let D:=h.d d hd;let B:BH (BB M.ws d.n) 0=0:=by unfold BH;split<;>rfl
 let l:τ 0=0:=by rw[a 0,B];show S.hz
 let m:∀i,0<=τ i:=λi=>by rw[a i];show S.hn _
 show{D.e,l,m,he,λP t j=>?_};let(f,b,w):=S.hl P t j;let hr:=Ñ.mp (Ñ.mp j r S.hr) f b;let(_,A):=ÿ.mp hr;let(p,v,o):=Xx hs hz 0 hd;let q:=Ñ.mp A p v;rw[o]at q;let e:EX ↥M<|gK M.ws d:=J6 D.g;let(g,c,x):=NZ e (JN b) (P:=12) (by decide) S.hz S.hn w u
 let z:=NX (JN b) e c;let y:=Dm.pbk_lie x (s:=BH<|BB M.ws d.n) (λi C=>by unfold BH;split<;>lia) τ λi Z=>a i
 let(k,n,lk):=NZ (JZ h d.e) (TR z _) (P:=12) (by decide) l m y he
 let eb:Ou M.ws M.rs f d=!k:=by
  unfold Ou;rw[c,Ĩ];show n
 unfold E5 at q;rw[eb]at q;show mI q lk
def Std.mark{M:Mc}{r:Str}{X:Nat->Int}(S:Std M r X){P:List<|Str×Db.Z}{K:List<|Str×List (Nat×Nat×Int)}(i:∀k∈K,EX ↥M k.2)(d:Hg M P K=true){k:Str×List (Nat×Nat×Int)}(hk:k∈K)(hr:k.1=r):C6 12 k.2 X=false:=by
 unfold Hg at d;let(b,n):=ÿ.mp d;let(m,b):=ÿ.mp b;let(f,a,l):=S.hl P m n;have j:=Ñ.mp b k hk;rw[<- hr]at a;have e:=Ñ.mp j f a;cases c:C6 12 k.2 X with
 |false=>rfl|true=>
  let(g,h,_):=NZ (i k hk) (JN a) (P:=12) (by decide) S.hz S.hn l c;rw[h]at e;cases e
theorem zqe{ws wd:kq}(tw:Ca ws)(d:Ca wd){l:qD}(h:Ci ws wd l):Fit (.lst l) 2:=Fit.nd λt c=>by
 let(x,y,n,rfl,a,b,_):=h t c;show Fit.tup λs hs=>?_;erw[Ð,û,ý]at hs;rcases hs with rfl|rfl|rfl;show Fit.str (tw _ a) 0;show Fit.str (d _ b) 0;show Fit.int _ 0
theorem zrf{ws ns:kq}(tw:Ca ws)(tn:Ca ns){d:Dr}(D:DrOk ws ns d):Fit (BI d) 3:=Fit.tup λs hs=>by
 erw[Ð,û,ý]at hs;rcases hs with rfl|rfl|rfl|rfl|rfl;show Fit.str (tn _ D.s) 2;show Fit.str (tn _ D.e) 2;show zqe tw QD D.g;show(lH λx a=>tw x<|D.n x a).mono (by decide);show Fit.str (Mm D.z) 2
theorem gW{α:Type}{o:Bool}{f:α->T}{L:List α}{n:Nat}(h:∀x∈L,Fit (f x) n):Fit (.nd o .lst<|L.map f)<|n+1:=Fit.nd λt a=>by
 let(x,b,rfl):=Ò.mp a;show h x b
def Jn{Y:AL}{i:Nat}(h:∀t,Y[i]?=↑!t->t.sh=true):Bt i Y=!(.nx Y):=by
 unfold Bt;cases c:FD (Y.getD i ()) with
 |some a=>let(b,l):=a;have:=h _<|NL c;cases this
 |none=>
  show(show Ed i Y=_ from ?_);unfold Ed;cases e:Y[i]? with
  |none=>rfl|some o=>
   cases o with
   |none=>rfl|some t=>
    have:Y.set i ↑t.share=Y:=by
     rw[Ak _<|h t e];show ķ λj=>?_;rw[Ř];by_cases z:i=j;subst z;rw[if_pos rfl,if_pos (Ê.mp e).1,e];rw[if_neg z]
    show(show ↑(Out.nx<|Y.set i !t.share)=_ from ?_);rw[this]
def fz{Y:AL}{i:Nat}{t:T}(h:Y[i]?=↑!t)(s:t.sh=true):Bt i Y=!(.nx Y):=Jn λx e=>by
 rw[h]at e;cases e;show s
def Jz(M:Mc)(t:T):Prop:=∃r k X,t=.tup [.str r,.obj k<|Ao ↥M 12 X]/\FQ k=!M.ws/\Std M r X
def Cp(M:Mc)(X:Nat->Int):T:=.obj (.fdc M.ws)<|Ao ↥M 12 X
def Js(M:Mc)(X:Nat->Int):(Cp M X).sh=true:=Fv _ _ _
abbrev DL(f e:qD)(G d:T)(g:qD)(u:Int)(r:Str)(h y8:q9)(F:qD)(a y11 y12 y13 y14 b c:q9):AL:=[!(.lst f),!(.lst e),!G,!d,!(.lst g),!(.int u),!(.str r),h,y8,!(.own F),a,y11,y12,y13,y14,b,c]
structure Ch(M:Mc)(r:Str)(d:Dr):Prop where
 g:Ci M.ws CZ d.g
 e:d.e∈M.nm
 n:∀x∈d.n,x∈M.ws
 c:(d∈M.ds/\d.s=r/\d.z=Str.ofString "")\/(d.e=r/\d.n=[])
def Ch.sh{M:Mc}{r:Str}{d:Dr}(C:Ch M r d):(BI d).sh=true:=by
 let:=C.g.sh
 simp![this,BE]
def zr4{M:Mc}(h:McOk M){r:Str}(hr:r∈M.nm)(x:Int):∃H,CK (AD 0) VR XD (M.ds.map BI) [(),!(.str r)]=!H/\AZ H=true/\(Cm (.lst H) (.lst [])=!(.bl false)\/∃d,Ch M r d/\Cm (.lst H) (.lst [])=!(.bl true)/\(H.length:Int)≠0/\A9 H (x.fmod (H.length:Int))=!(BI d)):=by
 show{_,Hf BI BI (λd=>decide (d.s=r) && decide (d.z=Str.ofString "")) (λY=>∃x,Y=[x,!(.str r)]) M.ds [(),!(.str r)] {(()),rfl} λd hd Y l=>?_,?_};let(x,rfl):=l;let D:=h.d d hd;let sd:=Iq D;let b:=Fe (h.tn _ D.s)<|h.tn _ hr;let k:=Fe (Mm D.z) lX;let i:A9 [T.str d.s,.str d.e,.lst d.g,.lst<|d.n.map T.str,.str d.z] 0=!(.str d.s):=CF (by decide) rfl
 let j:A9 [T.str d.s,.str d.e,.lst d.g,.lst<|d.n.map T.str,.str d.z] 4=!(.str d.z):=CF (by decide) rfl;let f:=D.g.sh;let g:AZ (d.n.map T.str)=true:=BE _
 show{[!(BI d),!(.str r)],false,by
  change BI d=DT
  simp_all_arith [sd,Ak _ sd],?_,λϊ=>?_,_,rfl}
 unfold VR BI;change d.n.map T.str=DN;change d.g=DG;by_cases c:d.s=r;rw[Ä c]at b ⊢
 simp_all_arith [i,j,b,k,f,g,A8 _ f,A8 _ g]
 rw[Õ c]at b ⊢
 simp_all_arith [i,j,b,k,f,g,A8 _ f,A8 _ g]
 unfold XD;change BI d=DT
 simp_all_arith [sd]
 let a:∀d∈M.ds.filter λd=>decide (d.s=r) && decide (d.z=Str.ofString ""),d∈M.ds/\d.s=r/\d.z=Str.ofString "":=λd hd=>by
  simpa using Ļ.mp hd
 change (M.ds.filter λd=>decide (d.s=r) && decide (d.z=Str.ofString ""))=H;show{CN λd hd=>Iq<|h.d d (a d hd).1,?_};rw[T9 (o:=false) (by decide)<|gW (o:=false) λd hd=>zrf h.tw h.tn<|h.d d (a d hd).1,À];by_cases z:H=[];show .inl (by rw[z];rfl);let(d,hd,e):=Ks H z x;let D:=a d hd;let σ:=h.d d D.1
 show .inr {d,{σ.g,σ.e,σ.n,.inl D},by
  rw[Õ λq=>z<|Ų.mp q]
  rfl,Nq z,Lc BI e}
def znt{M:Mc}(h:McOk M){r:Str}(hr:r∈M.nm):∃l,IA [.lst<|M.rs.map AS,.str r]=!(.ok<|.lst l)/\AZ l=true/\∀X,EG [.lst l,Cp M X]=!(.ok<|.bl<|C6 12 (Au M.ws M.rs r) X):=by
 let(q,a,e):=Ò.mp hr;let L:=(h.r.lk q a).1;let s:=znr h.r h.tn a;rw[e]at s;show{q.2,s,L.sh,λX=>?_}
 rw[<- e,Qm h.r.nd a];show N0 Fp rfl X L.wd
def zow{m:Nat}{ws ns:kq}(C:ws.length=m)(nd:ws.Nodup)(wl:ws.length<=7)(hn:∀x∈ns,x∈ws)(X:Nat->Int)(E:X 0=0)(h g:qD)(G f:T)(l:qD)(u:Int)(r:Str)(o y8:q9)(F:qD)(a y11 y12 y13 y14 d:q9):∃y,BC (AD 8) MW (ns.map T.str) (DL h g G f l u r o y8 F a y11 y12 y13 y14 d<|!(.osd ws<|Ao m 12 X))=!(.nx<|DL h g G f l u r o y F a y11 y12 y13 y14 d<|!(.osd ws<|Ao m 12 λi=>X<|BH (BB ws ns) i)):=by
 subst C
 let(Y,e,y,rfl):=DI (b:=AD 8) (body:=MW) (ts:=ns.map T.str) (Y:=DL h g G f l u r o y8 F a y11 y12 y13 y14 d<|!(.osd ws<|Ao ws.length 12 X))
  (λi Y=>∃y,Y=DL h g G f l u r o y F a y11 y12 y13 y14 d (!(.osd ws<|Ao ws.length 12 λk=>X<|BH (BB ws<|ns.take i) k))) {y8,by
   rw[Ş]
   rfl} λi t Y v A=>by
   let(y,rfl):=A;rw[É]at v;let(x,n,rfl):=Ø.mp v;let(I,ex):=Ê.mp n;let(j,s,B,H):=Gv<|hn x<|ú n;let D:¬ x∉ws:=λz=>z<|hn x<|ú n
   let p:ws.length<100000:=by lia
   let w:(Ao ws.length 12 λk=>X<|BH (BB ws<|ns.take i) k).set j (.tup [.int 0,.int 1])=Ao ws.length 12 λk=>X<|BH (BB ws<|ns.take<|i+1) k:=by
    show Ek (by rw[Đ,Bj]) λk hk=>?_
    let tk:BB ws (ns.take<|i+1)=BB ws (ns.take i)++[j+1]:=by
     unfold BB;rw[List.take_succ,n,à];show(show _++[(CB ws x).getD 0+1]=_ from ?_);rw[s]
     rfl
    rw[Ř,Bj,Dl hk,tk];unfold BH;show(?_:(if j=k then if j<ws.length then ↑(T.tup [.int 0,.int 1]) else () else !(Cn 12<|X (if k+1∈BB ws (ns.take i) then 0 else k+1)))=!(Cn 12<|X (if k+1∈BB ws (ns.take i)++[j+1] then 0 else k+1)))
    by_cases z:j=k;subst z;rw[if_pos rfl,if_pos B,if_pos<|ã _<|.head _,E,jD<|by decide];rw[if_neg z];by_cases c:k+1∈BB ws (ns.take i);rw[if_pos c,if_pos<|Č _ c]
    rw[if_neg c,if_neg λq=>by
     rcases Ú.mp q with q|q;show c q;let:=Ì.mp q
     lia]
   show{_,by unfold DL;simp_all_arith [],_,?_,!(.str x),rfl};rw[<- w];unfold MW;change (Ao ws.length 12 λk=>X<|BH (BB ws<|ns.take i) k)=V
   simp![Ā,ā,D,s,nd,p]
 rw[À,ă]at e;show{(y),e}
def Jk{c:AH}{a b:AG}{Y:AL}{r:Option Out}(h:c Y=!(.v (.bl true) false))(d:a Y=r):AX c a b Y=r:=by
 unfold AX;rw[h];show d
def Hk{c:AH}{a b:AG}{Y:AL}{r:Option Out}(h:c Y=!(.v (.bl false) false))(d:b Y=r):AX c a b Y=r:=by
 unfold AX;rw[h];show d
nonrec def YN{X:Nat->Int}(a:X 0=0):BG X 0=X:=by
 funext i;unfold BG;split;rename_i e;rw[e,a];lia
def zii{M:Mc}(h:McOk M){u:Int}(hu:0<u)(G N:T)(O:qD){r:Str}{X:Nat->Int}(S:Std M r X)(he:∀i,∃k,X i=2 * k){F:qD}(hF:∀t∈F,Jz M t)(lF:F.length<=1000)(c:Int){y8 y11 y12 y13 y14 n g:q9}(h15:∀t,n=!t->t.sh=true)(Z:∀t,g=!t->t.sh=true) :
  ∃(r':Str) (X':Nat->Int) (F':qD),Std M r' X'/\(∀i,∃k,X' i=2 * k)/\(∀t∈F',Jz M t)/\F'.length<=F.length+3/\∃z8 z11 z12 z13 z14 z15 z16,(∀t,z15=!t->t.sh=true)/\(∀t,z16=!t->t.sh=true)/\JR (DL (M.rs.map AS) (M.ds.map BI) G N O u r (!(Cp M X)) y8 F (!(.int c)) y11 y12 y13 y14 n g)=!(.nx<|DL (M.rs.map AS) (M.ds.map BI) G N O u r' (!(Cp M X')) z8 F' (!(.int c)) z11 z12 z13 z14 z15 z16):=by
 let nd:=h.wd;let wl:=h.wl;let sR:=IW h.r;let sD:AZ (M.ds.map BI)=true:=CN λd hd=>Iq<|h.d d hd
 let lD:(M.ds.map BI).length<=100000:=by let:=h.dl;rw[À];lia
 let sy:=@znt M h;let(xs,st):=Yh c (m:=3)<|by decide
 let st:GZ [.int c,.int 3]=!(.ok<|.own<|mT 3 λi=>.int<|xs i):=st;let a0:A9 (mT 3 λi=>T.int<|xs i) 0=!(.int<|xs 0):=C7 (k:=0)<|by decide
 let a1:A9 (mT 3 λi=>T.int<|xs i) 1=!(.int<|xs 1):=C7 (k:=1)<|by decide
 let sX:AZ (mT 3 λi=>T.int<|xs i)=true:=FP λϊ=>rfl;change (mT 3 λi=>T.int<|xs i)=XS;let(H,hl,sH,hd):=zr4 h S.hr<|xs 0;change M.rs.map AS=RS;change M.ds.map BI=DS;let(Q,eQ):∃Q,Q=DL RS DS G N O u r (!(Cp M X)) y8 F (!(.int c)) (!(.lst XS)) (!(.lst H)):={_,rfl}
 let(d,C,ed):∃d,Ch M r d/\∀y14,AX (m2 Cm (AA 12)<|BQ AE) (AV (AM (AA 12)<|m2 Ba (AM (AA 11)<|mC<|.int 0)<|m1 Bd<|AA 12)<|AD 13) A5 (Q (!(.tup [.str r,.str r,.lst [],.lst [],.str ""])) y14 n g)=!(.nx<|Q (!(BI d)) y14 n g):=by
  subst eQ;unfold DL;rcases hd with ne|⟨d,C,ne,l0,e⟩;show{{r,r,[],[],""},{λt K=>(by cases K),S.hr,λx hx=>(by cases hx),.inr {(rfl),rfl}},λy14=>Hk ?_ rfl}
  simp![sH,ne]
  let sd:=C.sh;show{d,C,λy14=>Jk ?_ ?_}
  .simp![sH,ne]
  change BI d=DT
  simp_all_arith [a0,sH,A8 _ sH,l0,e,sd,Ak _ sd]
 let sdd:=C.sh;let D:=C.g.sh;let E:AZ (d.n.map T.str)=true:=BE _;let b1:A9 [T.str d.s,.str d.e,.lst d.g,.lst<|d.n.map T.str,.str d.z] 1=!(.str d.e):=CF (by decide) rfl
 let b2:A9 [T.str d.s,.str d.e,.lst d.g,.lst<|d.n.map T.str,.str d.z] 2=!(.lst d.g):=CF (by decide) rfl;let b3:A9 [T.str d.s,.str d.e,.lst d.g,.lst<|d.n.map T.str,.str d.z] 3=!(.lst<|d.n.map T.str):=CF (by decide) rfl
 let(a,b,w,W,ew):=zne (kd:=.fdc M.ws) rfl X S.hn he C.g (xs 1) hu;let l1:=hJ Fp nd wl X S.hn W.hb W.ha W.he;let(q,es,sq2,P):=sy S.hr;let P:=P<|BG X w;obtain⟨s,j,f,I,U,J⟩:∃s j f,Wt s j f/\Std M r (BG X f)/\∀g,AX (BJ<|AJ EG<|AB (AJ IA<|AB (AA 0)<|AB (AA 6) AE)<|AB (AA 15) AE) (AF (Bt 7) (AF (Bh 15<|AA 7)
 (AV (BP<|AB (mC<|.int 0)<|AB (mC<|.int 1) AE)<|AD 14))) A5 (Q (!(BI d)) (!(.tup [.int a,.int b])) (!(Cp M<|BG X w)) g)=!(.nx<|Q (!(BI d)) (!(.tup [.int s,.int j])) (!(Cp M<|BG X f)) g):=by
  let B:=Js M X;let l:=Js M<|BG X w;subst eQ;unfold DL;change BI d=DT;cases c:C6 12 (Au M.ws M.rs r) (BG X w) with
  |true=>
   rw[c]at P;show{a,b,w,W,S.wait h W.hn c,λg=>Hk ?_ rfl}
   simp![sR,es,sq2,l,P]
  |false=>
   rw[c]at P;show{0,1,0,{{by decide,by decide +kernel},by decide,by decide,{0,rfl},by decide,by decide},by rw[YN S.hz];show S,λg=>Jk ?_ ?_}
   .simp![sR,es,sq2,l,P]
   rw[YN S.hz];show Bw (fz rfl B)<|by simp_all_arith [B]
 let(A,hk'):=I.hv;let bb2:Bo<|2 * j:={by let:=I.hb.p;lia,Β (b:=24) (by let:=I.hu;lia)<|by decide +kernel}
 let lh:=hJ Fp nd wl X S.hn (w:=A) bb2 I.ha<|by rw[I.he,hk',ç 2 A,Û]
 let k0:0<=A:=by let:=I.hn;lia
 let Sh:Std M r<|BG X A:=S.wait h k0 (zij h r (λp=>by
  unfold BG;split<;>lia) U.hs)
 let eg:EG [.lst d.g,Cp M<|BG X f]=_:=N0 Fp rfl (BG X f) C.g;let(q',es',sq3,eb):=sy C.e
 let he1:∀i,∃k,BG X f i=2 * k:=λi=>by
  unfold BG;split;show{0,rfl};let(k,hk):=he i;show{k+A,by lia}
 let m2b:B9 2 j=true:=EL I.hb.s;let w0:A9 [T.int s,.int j] 0=!(.int s):=CF (by decide) rfl
 let w1:A9 [T.int s,.int j] 1=!(.int j):=CF (by decide) rfl;let(o,e3):∃o,F++[.tup [.str r,.obj (.sdc M.ws)<|Ao ↥M 12<|BG X A]]++[.tup [.str r,Cp M<|BG X f]]=o:={_,rfl}
 let f3:∀t∈o,Jz M t:=by
  rw[<- e3];erw[Ú,Ì];rintro t ((z|rfl)|rfl);show hF t z;show{r,_,_,rfl,rfl,Sh};show{r,_,_,rfl,rfl,U}
 let l3:o.length=F.length+2:=by
  rw[<- e3];simp
 let lF1:F.length<100000:=by lia
 let lF2:∀x:T,(F++[x]).length<100000:=λx=>by simp;lia
 let(z8,Y):=zow (m:=↥M) rfl nd wl C.n (BG X f) rfl RS DS G N O u r (!(.osd M.ws<|Ao ↥M 12<|BG X f)) y8 o (!(.int c)) (!(.lst XS)) (!(.lst H)) (!(BI d)) (!(.tup [.int s,.int j]))<|!(Cp M<|BG X f);let(τ,eY):∃τ:Nat->Int,τ=λi=>BG X f<|BH (BB M.ws d.n) i:={_,rfl}
 let yr:∀i,τ i=BG X f (BH (BB M.ws d.n) i):=λi=>by rw[eY]
 rw[<- eY]at Y;let eb:=eb τ;let l:=Js M<|BG X f;let y:=Js M τ;let(Q2,V):∃Q2,Q2=DL RS DS G N O u r (!(Cp M<|BG X f)) z8 o (!(.int c)) (!(.lst XS)) (!(.lst H)) (!(BI d)) (!(.tup [.int s,.int j])) (!(Cp M<|BG X f)) (!(Cp M τ)):={_,rfl};let(tst,et):∃m,m=Bq (AJ EG<|AB (AM (AA 13)<|mC<|.int 2)<|AB (AA 15) AE) (AJ EG<|AB (AJ IA<|AB (AA 0)<|AB (AM (AA 13)<|mC<|.int 1) AE)<|AB (AA 16) AE):={_,rfl};let pre:JR (DL RS DS G N O u r (!(Cp M X)) y8 F (!(.int c)) y11 y12 y13 y14 n g)=AX tst (AF (AV (AM (AA 13)<|mC<|.int 1)<|AD 6)
 (AF (Bt 16) (AF (Bh 7<|AA 16)
 (AF (Bt 7)<|CO 9<|BP<|AB (AA 6)<|AB (AA 7) AE)))) A5 Q2:=by
  rw[<- e3]at Y V;subst V et;let B:=Js M X;let R:=Fv ↥M 12 X;let vw:=Fv ↥M 12<|BG X w;let vh:=Fv ↥M 12<|BG X A;let L:=Fv ↥M 12<|BG X f;let vy:=Fv ↥M 12 τ;subst eQ;unfold JR;unfold Cp at *;unfold DL BI at ed J Y ⊢;unfold BI at sdd;change d.n.map T.str=DN;change Ao ↥M 12 (BG X w)=VW;change Ao ↥M 12 (BG X A)=VH;change Ao ↥M 12 (BG X f)=V1;change Ao ↥M 12 X=V0;change Ao ↥M 12 τ=VY;show sq (by simp![st,sX]<;>rfl)<|sq (by simp![sD,lD,hl,sH]<;>rfl)<|sq (by simp_all_arith []<;>rfl)<|Bw (fz rfl B)<|Bw (Jn λt e=>h15 t<|Þ e)<|Bw (Jn λt e=>Z t<|Þ e)<|sq (ed _) ?_
  show Bw (fz rfl B)<|sq (by simp_all_arith [b2,D,A8 _ D,E,A8 _ E,R,A8 _ R,sX,A8 _ sX,a1,ew]<;>rfl)<|Bw (fz rfl B)<|sq (by simp_all_arith [R,A8 _ R,l1]<;>rfl)<|Bw (fz rfl B)<|sq (by simp![Ā,ā,vw]<;>rfl)<|Bw (Jn λt e=>Z t<|Þ e)<|sq (J _) ?_
  show Bw (fz rfl B)<|sq (by simp_all_arith [R,A8 _ R,w0,w1,m2b,lh,A8 _ vh,lF1]<;>rfl)<|Bw (fz rfl l)<|sq (by simp_all_arith [L,A8 _ L,lF2]<;>rfl)<|Bw (fz rfl l)<|sq (by simp_all_arith [L,A8 _ L]<;>rfl)<|Bw (fz rfl l)<|sq (by simp_all_arith [L,A8 _ L]<;>rfl) ?_
  show sq (by simp_all_arith [b3,D,A8 _ D,E,A8 _ E,Y]<;>rfl)<|sq (by simp![Ā,ā,L]<;>rfl)<|Bw (fz rfl l)<|sq (by simp![Ā,ā,vy]<;>rfl) rfl
 rw[pre];clear pre Y ed J
 let pc:∀v,(C6 12 (d.g.map<|Bc M.ws) (BG X f) && C6 12 (Au M.ws M.rs d.e) τ)=v->tst Q2=!(.v (.bl v) false):=λv e=>by
  subst V et;unfold DL BI;change d.n.map T.str=DN;rw[<- e];change C6 12 (d.g.map<|Bc M.ws) (BG X f)=g1;change C6 12 (Au M.ws M.rs d.e) τ=g2;cases g1<;>simp_all_arith [b1,b2,D,A8 _ D,E,A8 _ E,l,Ak _ l,eg,sR,A8 _ sR,es',sq3,A8 _ sq3,y,Ak _ y,eb]
 cases hc:C6 12 (d.g.map<|Bc M.ws) (BG X f) && C6 12 (Au M.ws M.rs d.e) τ with
 |false=>subst V;show{r,BG X f,o,U,he1,f3,by lia,_,_,_,_,_,_,_,λt e=>by cases e;show l,λt e=>by cases e;show y,Hk (pc _ hc) rfl}|true=>
  let(cg,cb):=ÿ.mp hc
  let SY:Std M d.e τ:=by
   rcases C.c with ⟨q1,q2,q3⟩|⟨q1,q2⟩;show U.door h q1 q2 q3 cg yr cb
   let:τ=BG X f:=by
    funext i;rw[yr,q2];show(show BG X f (BH [] i)=_ from ?_);unfold BH;rw[if_neg<|by simp]
   rw[this,q1];show U
  let lF4:o.length<100000:=by lia
  show{d.e,τ,o++[.tup [.str d.e,Cp M τ]],SY,λi=>by rw[yr];show he1 _,λt K=>?_,by rw[ß,l3];show Ã _,z8,!(.lst XS),!(.lst H),!(BI d),!(.tup [.int s,.int j]),!(Cp M<|BG X f),!(Cp M τ),λt e=>by cases e;show l,λt e=>by cases e;show y,Jk (pc _ hc) ?_};rcases Ú.mp K with K|K;show f3 t K;show{_,_,_,Ì.mp K,rfl,SY};subst V;unfold DL BI;change d.n.map T.str=DN;show sq (by simp_all_arith [b1,D,A8 _ D,E,A8 _ E]<;>rfl)<|Bw (fz rfl y)<|sq (by simp_all_arith [y,Ak _ y]<;>rfl)<|Bw (fz rfl y)<|by simp![y,lF4]
def zrr{ws:kq}(nd:ws.Nodup)(wl:ws.length<=7)(d c G a f:T)(u:Int)(r:Str):∃y,BC (AD 8) MV (ws.map T.str) [!d,!c,!G,!a,!f,!(.int u),!(.str r),!(.osd [] []),(),(),(),(),(),(),(),(),()]=!(.nx [!d,!c,!G,!a,!f,!(.int u),!(.str r),!(.osd ws<|Ao ws.length 12 λϊ=>0),y,(),(),(),(),(),(),(),()]):=by
 let(Y,e,y,rfl):=DI (b:=AD 8) (body:=MV) (ts:=ws.map T.str) (Y:=[!d,!c,!G,!a,!f,!(.int u),!(.str r),!(.osd [] []),(),(),(),(),(),(),(),(),()])
  (λi Y=>∃y,Y=[!d,!c,!G,!a,!f,!(.int u),!(.str r),!(.osd (ws.take i)<|(Ao ws.length 12 λϊ=>0).take i),y,(),(),(),(),(),(),(),()]) {(()),rfl} λi t Y h m=>by
   let(y,rfl):=m;rw[É]at h;let(x,n,rfl):=Ø.mp h;let(j,ex):=Ê.mp n
   let o:x∉ws.take i:=by
    rw[<- ex];intro z;let(k,hk,g):=Ő.mp z;rw[î]at hk;rw[Λ]at g;let:=(ñ nd).mp g
    lia
   let q:(ws.take i).length<100000:=by rw[î];lia
   let tk:ws.take (i+1)=ws.take i++[x]:=by rw[<- ex,ĳ]
   let s:(Ao ws.length 12 λϊ=>0).take (i+1)=(Ao ws.length 12 λϊ=>0).take i++[.tup [.int 0,.int 1]]:=by
    let hv:i<(Ao ws.length 12 λϊ=>0).length:=by rw[Bj];show j
    let l:(Ao ws.length 12 λϊ=>0)[i]=.tup [.int 0,.int 1]:=by
     let p:(Ao ws.length 12 λϊ=>0)[i]?=!(Cn 12 0):=Dl j;show(Þ<|(Á hv).symm.trans p).trans (jD<|by decide)
    rw[<- l,ĳ]
   show{_,by simp_all_arith [],_,?_,!(.str x),rfl};rw[tk,s];unfold MV;change ws.take i=K;change (Ao ws.length 12 λϊ=>0).take i=V
   simp![Ā,ā,o,q]
 rw[À,ă,List.take_of_length_le (i:=ws.length) (by rw[Bj];show Ã _)]at e;show{(y),e}
def zik{M:Mc}(h:McOk M){u:Int}(hu:0<u){G:T}(sG:G.sh=true){cs:ku}(lc:cs.length<=63):∃F:qD,(∀t∈F,Jz M t)/\F.length<=1000/\Pl [.lst<|M.rs.map AS,.lst<|M.ds.map BI,G,.lst<|cs.map T.int,.lst<|M.ws.map T.str,.int u]=!(.ok<|.own F):=by
 let B:=IW h.r;let sD:AZ (M.ds.map BI)=true:=CN λd hd=>Iq<|h.d d hd
 let P:AZ (M.ws.map T.str)=true:=BE _;let O:AZ (cs.map T.int)=true:=HM _
 let(a,ha,e0,e1):∃a∈M.rs,A9 (M.rs.map AS) 0=!(AS a)/\M.nm.headD ""=a.1:=by
  let l1:=h.r.l1;unfold Mc.nm;cases e:M.rs with
  |nil=>rw[e]at l1;simp at l1|cons a l=>show{a,.head _,CF (by decide) rfl,rfl}
 let L:=(h.r.lk a ha).1;let sa:=L.sh;let sT:(AS a).sh=true:=by simp![sa]
 let H:EG [.lst a.2,Cp M λϊ=>0]=_:=N0 Fp rfl (λϊ=>0) L.wd;rw[<- Qm h.r.nd ha,<- e1]at H;let(Z,eb):=zrr h.wd h.wl (.lst<|M.rs.map AS) (.lst<|M.ds.map BI) G (.lst<|cs.map T.int) (.lst<|M.ws.map T.str) u a.1;let v0:=Fv ↥M 12 λϊ=>0
 let N:=Js M λϊ=>0;let b0:A9 [T.str a.1,.lst a.2] 0=!(.str a.1):=CF (by decide) rfl;let b1:A9 [T.str a.1,.lst a.2] 1=!(.lst a.2):=CF (by decide) rfl
 let ex:∃F:qD,(∀t∈F,Jz M t)/\F.length<=1000/\Kx [!(.lst<|M.rs.map AS),!(.lst<|M.ds.map BI),!G,!(.lst<|cs.map T.int),!(.lst<|M.ws.map T.str),!(.int u),(),(),(),(),(),(),(),(),(),(),()]=!(.rt<|.own F):=by
  let(Q,q):∃Q,Q=DL (M.rs.map AS) (M.ds.map BI) G (.lst<|cs.map T.int) (M.ws.map T.str) u a.1 (!(Cp M λϊ=>0)) Z [.tup [.str a.1,Cp M λϊ=>0]] () () () () () () ():={_,rfl}
  let pre:Kx [!(.lst<|M.rs.map AS),!(.lst<|M.ds.map BI),!G,!(.lst<|cs.map T.int),!(.lst<|M.ws.map T.str),!(.int u),(),(),(),(),(),(),(),(),(),(),()]=AF (AX (BJ<|AJ EG<|AB (AM (AM (AA 0)<|mC<|.int 0)<|mC<|.int 1)<|AB (AA 7) AE) (AN<|BQ AE) A5) (AF (BV (Aj<|AA 3) (AD 10) JR)<|AN<|AA 9) Q:=by
   rw[q];unfold Kx DL;unfold Cp at *;change M.rs.map AS=RS;change M.ds.map BI=DS;change cs.map T.int=CS;change Ao ↥M 12 (λϊ=>0)=V0;show sq (by simp_all_arith [B,A8 _ B,e0,b0,sT,sa]<;>rfl)<|sq (by simp_all_arith []<;>rfl)<|sq (by simp_all_arith [P,A8 _ P,eb]<;>rfl)<|sq (by simp_all_arith [Ā,ā,A8 _ v0]<;>rfl)<|sq (by simp![v0]<;>rfl)<|Bw (fz rfl N)<|Bw (Jn λt e=>by cases e)<|Bw (Jn λt e=>by cases e) rfl
  rw[pre];clear pre eb
  let pc:∀v,C6 12 (Au M.ws M.rs<|M.nm.headD "") (λϊ=>0)=v->BJ (AJ EG<|AB (AM (AM (AA 0)<|mC<|.int 0)<|mC<|.int 1)<|AB (AA 7) AE) Q=!(.v (.bl (not v)) false):=λv z=>by
   rw[z]at H;rw[q];unfold DL;change M.rs.map AS=RS
   simp_all_arith [B,A8 _ B,e0,b1,sT,sa,A8 _ sa,N,Ak _ N,H]
  cases c:C6 12 (Au M.ws M.rs<|M.nm.headD "") (λϊ=>0) with
  |false=>
   show{[],λs hs=>(by cases hs),by decide,sr<|Jk (pc _ c) ?_};rw[q]
   simp_all_arith []
  |true=>
   let D:=zg6 h c;rw[e1]at D
   let(Y,E,r,X,F,S,he,I,lF,C,p,f,g,j,m,n,o,w,y,rfl):=DI (b:=AD 10) (body:=JR) (ts:=cs.map T.int) (Y:=Q)
    (λi Y=>∃(r:Str) (X:Nat->Int) (F:qD),Std M r X/\(∀i,∃k,X i=2 * k)/\(∀t∈F,Jz M t)/\F.length<=1+3 * i/\∃C p f g j m n o,(∀t,n=!t->t.sh=true)/\(∀t,o=!t->t.sh=true)/\Y=DL (M.rs.map AS) (M.ds.map BI) G (.lst<|cs.map T.int) (M.ws.map T.str) u r (!(Cp M X)) C F p f g j m n o)
    {a.1,λϊ=>0,_,D,λϊ=>{0,rfl},λs hs=>{_,_,_,Ì.mp hs,rfl,D},Ã _,Z,(),(),(),(),(),(),(),λt e=>(by cases e),λt e=>(by cases e),q} λi t Y h1 h2=>by
     let(r,X,F,S,he,I,lF,C,p,f,g,j,m,n,o,w,y,rfl):=h2;rw[É]at h1;let(c,hc,rfl):=Ø.mp h1;let hi:=(Ê.mp hc).1;let(r',X',F',S',K,J,lF',y8',R,U,V,W,y15,y16,x,A,e):=zii h hu G (.lst<|cs.map T.int) (M.ws.map T.str) S he I (by lia) c (y8:=C) (y11:=f) (y12:=g) (y13:=j) (y14:=m) w y
     show{_,rfl,_,e,r',X',F',S',K,J,by lia,_,_,_,_,_,_,_,_,x,A,rfl}
   rw[À]at lF;show{F,I,by lia,Bw (Hk (pc _ c) rfl) ?_};rw[q]at E ⊢;unfold DL at E ⊢;change M.rs.map AS=RS;change cs.map T.int=CS;show sq (by simp_all_arith [O,A8 _ O,E]<;>rfl)<|by simp![]
 let(F,f1,f2,f3):=ex;show{F,f1,f2,?_};unfold Pl;change M.rs.map AS=RS;change M.ds.map BI=DS;change M.ws.map T.str=WS;change cs.map T.int=CS
 simp![B,sD,sG,P,O,f3]
abbrev Sl:Stmt:=AK 96
def XI:AH:=
 (BP<|AB (AM (AA 0)<|mC<|.int 0)<|AB (AM (AA 0)<|mC<|.int 1) AE)
def Jc:AG:=
 (AF (AV (BQ AE)<|AD 2)
 (AF (HQ QA (AV (AJ (gD [.non] GW)<|AB (AA 0)<|AB (AA 1)<|AB (mC<|.int 8) AE)<|Al 2<|AI (AD 2)<|AI (AD 3) An)<|AF (AV (BQ AE)<|AD 2) A5)
 (AN<|Az 1 [] (Aj<|AA 2) (AD 0) (mC<|.bl true) XI)))
def JI:qD->Option Ru:=AW 2 4 Jc
abbrev k6:=fA 13 2 Sl JI
abbrev zgw:Gx:={ Bb with xs:=[("TooMany",QA)],dn:=[("searched",jJ,[.non])] }
abbrev zh8:Gm:=gA Sl 12 [] [] (ox:=zgw)
theorem zhr:Ck zh8 k6 Sl Jc:={}
def fK{M:Mc}(h:McOk M){gl:List<|Str×qD}(l:FI M.ws (M.rs.map (·.1)) gl)(hn:gl.length<=1000):∃P:List (Str×Db.Z),(∀p∈P,p.1∈M.nm)/\P.length<=8/\JI [Av M,.lst<|gl.map AS]=!(.ok<|.own<|P.map<|Ai<|↥M+1):=by
 let g:=GJ h;let k:=Ak _ g;let f:=l.sh;let j:=A8 _ f
 let(C,u):∃C,QA.lookup (HV<|Str.ofString "TooMany")=!C:={_,by
  rw[show HV (Str.ofString "TooMany")=Str.ofString "TooMany" from by unfold HV;rfl]
  rfl}
 rcases zo0 h l hn (mx:=8) (by decide) with e|⟨L,e,l1,l2⟩;let a:GW [Av M,.lst<|gl.map AS,.int 8,.non]=!(.exc<|Str.ofString "TooMany"):=e;show{[],λϊ z=>(by cases z),by decide,?_};change Av M=A;change gl.map AS=GT;unfold JI;show Fy rfl ?_;show(show Jc [!A,!(.lst GT),(),()]=_ from ?_);unfold Jc;show sq (by simp![]<;>rfl)<|sq (Y':=[!A,!(.lst GT),!(.lst []),()]) ?_<|by simp_all_arith [CK]
 unfold HQ;rw[show AV (AJ (gD [.non] GW)<|AB (AA 0)<|AB (AA 1)<|AB (mC<|.int 8) AE) (Al 2<|AI (AD 2)<|AI (AD 3) An) [!A,!(.lst GT),!(.lst []),()]=↑(.xc (Str.ofString "TooMany") [!A,!(.lst GT),!(.lst []),()]) by simp![g,k,f,j,a]];erw[u]
 simp_all_arith []
 let c:=Fj ↥M L;let i:=A8 _ c;let a:GW [Av M,.lst<|gl.map AS,.int 8,.non]=!(.ok<|.tup [.lst<|L.map<|AO ↥M,.bl<|OH (Dd M gl) L]):=e;let t:(L.map<|AO ↥M).length<=100000:=by rw[À];lia
 let q:=DW (b:=AD 0) (me:=XI) (AO ↥M) (λd=>Ai ⇑M (d.r,d.z)) (λY=>∃x,Y=[x]) L [()] {(()),rfl} λd y Y r=>by
  let(x,rfl):=r;let sd:=GH ↥M d;let sz:=Bv ⇑M d.z;let z0:=Eg d.p;let m:=Eg d.k;let n:A9 [T.str d.r,zT ⇑M d.z,CJ d.p,CJ d.k] 0=!(.str d.r):=CF (by decide) rfl
  let o:A9 [T.str d.r,zT ⇑M d.z,CJ d.p,CJ d.k] 1=!(zT ⇑M d.z):=CF (by decide) rfl
  show{[!(AO ↥M d)],by
   change AO ↥M d=DT
   simp_all_arith [sd,Ak _ sd],?_,_,rfl}
  unfold XI AO Ai;change zT ⇑M d.z=Z;change CJ d.p=A;change CJ d.k=B
  simp_all_arith [n,o,sz,Ak _ sz,z0,m,Ak _ z0,Ak _ m]
 show{L.map λd=>(d.r,d.z),λp s=>?_,by rw[À];lia,?_};let(d,hd,rfl):=Ò.mp s;show(l2.ok d hd).r;rw[è];show(show _=!(Ru.ok<|.own<|L.map λd=>Ai ⇑M (d.r,d.z)) from ?_)
 change OH (Dd M gl) L=bb;change (L.map λd=>Ai ⇑M (d.r,d.z))=PT;change L.map (AO ↥M)=LT;change Av M=A;change gl.map AS=GT;unfold JI;show Fy rfl ?_;show(show Jc [!A,!(.lst GT),(),()]=_ from ?_);unfold Jc;show sq (by simp![]<;>rfl)<|sq (Y':=[!A,!(.lst GT),!(.lst LT),!(.bl bb)]) ?_<|by simp_all_arith [c,i,t,q]
 unfold HQ;rw[show AV (AJ (gD [.non] GW)<|AB (AA 0)<|AB (AA 1)<|AB (mC<|.int 8) AE) (Al 2<|AI (AD 2)<|AI (AD 3) An) [!A,!(.lst GT),!(.lst []),()]=↑(.nx [!A,!(.lst GT),!(.lst LT),!(.bl bb)]) by simp_all_arith [g,k,f,j,a,c,i]]
abbrev Sd:Stmt:=AK 97
def Oo:AH:=
 (m1 DF<|AA 0)
def QW:AG:=
 (AF (IQ 2 (m2 Ba (AA 1)<|m1 Bd<|AA 2) (m2 Ba (m2 Co (AA 1)<|mC<|.int 3)<|m1 Bd<|AA 2)<|mC .non)
 (AV (m2 Co (AA 1)<|mC<|.int 9)<|AD 1))
def Ni:AG:=
 (AF (Bh 2<|Az 1 [] (Aj<|AA 0) (AD 0) (mC<|.bl true) Oo)
 (AF (BV (C9<|AB (mC<|.int 2) AE) (AD 3) QW)
 (AN<|AA 2)))
def KO:qD->Option Ru:=AW 2 4 Ni
abbrev kT:=fA 1 2 Sd KO
abbrev zju:Gm:=gA Sd 0 [] ["list","range","len"] ["_law_rows"]
theorem zk9:Ck zju kT Sd Ni:={}
def iG{n a:Nat}(h:a<n):CY n (a:Int)=!a:=by
 unfold CY;simp_all
def zkl{n:Nat}(hn:n<=500)(r:0<n)(f:Db.Z)(c:Int):∃f',KO [zT n f,.int c]=!(.ok<|.own<|oZ n f'):=by
 let k:=Ce (n:=n) (me:=Oo) (x:=()) (cs:=[]) (g:=λi=>rT n<|f i) (f:=λi=>.own<|mT n λj=>bT<|f i j) λi H=>by
  unfold Oo;let z:(mT n λj=>bT<|f i j).length<=100000:=by rw[Bj];lia
  simp_all_arith [z]
 let k:CK (AD 0) (mC<|.bl true) Oo (mT n λi=>rT n<|f i) [()]=!(oZ n f):=k;let E:DB 3=true:=Dy (by decide)<|by decide
 let F:DB 9=true:=Dy (by decide)<|by decide
 let B:((n:Int)=0)=False:=eq_false<|by lia
 let(Y,e,g,I,q,rfl):=DI (b:=AD 3) (body:=QW) (ts:=mT 2 λi=>.int (i:Int)) (Y:=[!(zT n f),!(.int c),!(.own<|oZ n f),()])
  (λϊ Y=>∃(g:Db.Z) (c:Int) (q:q9),Y=[!(zT n f),!(.int c),!(.own<|oZ n g),q]) {(f),c,(),rfl} λi t Y u v=>by
   let(_,rfl):=Gn u;let(g,c,q,rfl):=v;let(a,s,ha):=E3 c n r;let(b,eb,hb):=E3 (c.fdiv 3) n r;let A:(BA<|oZ n g).length=n:=by rw[Gh,Bj]
   let w:CY (oZ n g).length (a:Int)=!a:=by
    rw[show(oZ n g).length=n from Bj];show iG ha
   let l:J9 (oZ n g)[a]?=!(mT n λj=>bT<|g a j):=by
    unfold oZ;rw[Dl ha];rfl
   let h:CY (mT n λj=>bT<|g a j).length (b:Int)=!b:=by
    rw[Bj];show iG hb
   let o:(oZ n g).set a (.own<|(mT n λj=>bT<|g a j).set b .non)=oZ n (λi j=>if i=a/\j=b then () else g i j):=aM (c:=());show{_,by simp_all_arith [],[!(zT n f),!(.int<|c.fdiv 9),!(.own<|oZ n (λi j=>if i=a/\j=b then () else g i j)),!(.int (i:Int))],?_,_,_,_,rfl};unfold QW;change zT n f=ZZ;generalize oZ n (λi j=>if i=a/\j=b then () else g i j)=σ2 at *;generalize oZ n g=σ1 at *;change (mT n λj=>bT<|g a j)=RR;show sq (by simp![-J9,E,A,B,s,eb,w,l,h,o]<;>rfl) ?_
   simp_all_arith [F]
 let d:AZ (mT n λi=>rT n<|f i)=true:=FP λi=>J5 _ _;let p:=A8 _ d;let y:(mT n λi=>rT n<|f i).length<=100000:=by rw[Bj];lia
 let G:zT n f=.lst (mT n λi=>rT n<|f i):=rfl;let D:=Bv n f;let m:Cj 2=true:=Eh (n:=2)<|by decide
 let C:Ez 0 (2:Int).toNat=mT 2 λi=>.int (i:Int):=E1 (n:=2);show{g,?_}
 let run:Ni [!(zT n f),!(.int c),(),()]=!(.rt<|.own<|oZ n g):=by
  unfold Ni;rw[G]at e ⊢;generalize oZ n g=σ2 at *;generalize oZ n f=σ1 at *;change (mT n λi=>rT n<|f i)=ZL;show sq (by simp_all_arith [d,p,y,k]<;>rfl)<|sq (by simp_all_arith [m,C,e]<;>rfl) ?_
  simp![]
 unfold KO;change zT n f=ZZ
 simp![D,run]
abbrev Ro:Stmt:=AK 49
def Wn:AH:=
 (AJ Lw<|AB (AA 1)<|AB (AA 0) AE)
def Oj:AH:=
 (Az 1 [0] (C9<|AB (m2 BW (AA 1)<|mC<|.int 1) AE) (AD 0) (mC<|.bl true) Wn)
def U0:AG:=
 (AN<|Az 1 [0] (C9<|AB (m2 BW (AA 0)<|mC<|.int 1) AE) (AD 0) (mC<|.bl true) Oj)
def Lx:qD->Option Ru:=AW 1 1 U0
abbrev kE:=fA 3 1 Ro Lx
abbrev zcl:Gm:=gA Ro 2 [("free_bound",Vn)] ["range"]
theorem zct:Ck zcl kE Ro U0:={}
def ev_ok{m:Nat}(o:m<=1000):Lx [.int m]=!(.ok<|.own<|mT (m+1) λi=>.own<|mT (m+1) λj=>bT<|Db.free i j):=by
 let c:m+1<=100000:=by lia
 let d:Cj ((m:Int)+1)=true:=Eh (n:=m+1)<|by lia
 let e:((m:Int)+1).toNat=m+1:=by lia
 let a:∀i,i<m+1->Oj [!(.int (i:Int)),!(.int (m:Int))]=!(.v (.own<|mT (m+1) λj=>bT<|Db.free i j) false):=λi k=>by
  let h:=Ce (n:=m+1) (me:=Wn) (x:=()) (cs:=[!(.int (i:Int))]) (g:=λj=>.int (j:Int)) (f:=λj=>bT<|Db.free i j) λj l=>by
   unfold Wn
   simp_all_arith [lQ]
  unfold Oj
  simp_all_arith [d,e,E1,h,c]
 let b:=Ce (n:=m+1) (me:=Oj) (x:=()) (cs:=[!(.int (m:Int))]) (g:=λj=>.int (j:Int)) (f:=λi=>.own<|mT (m+1) λj=>bT<|Db.free i j) a;unfold Lx U0
 simp![d,e,E1,b,c]
abbrev Sk:Stmt:=AK 98
def Oq:AH:=
 (m2 Bi (BQ<|BK (mC<|.int 0) AE)<|m2 BW (AA 1)<|mC<|.int 1)
def XH:AH:=
 (BP<|AB (AA 0)<|AB (AJ KO<|AB (AA 1)<|AB (m2 Co (AA 2)<|mC<|.int 7) AE) AE)
def K4:AG:=
 (AF (Ed 4) (AF (Bh 4<|m2 BW (AA 4)<|BQ<|BK (AA 5)<|BK (Jd (AA 5)<|m1 Ej<|mC<|.int 1) AE)
 (AX (m2 Cm (AA 5)<|BQ AE) (AF (AV (m2 Ba (AA 2)<|m1 Bd<|AA 5)<|AD 6)
 (AF (AV (AM (AM (AA 5)<|AA 6)<|mC<|.int 0)<|AD 7)
 (AF (AV (Az 1 [3] (C9<|AB (m2 BW (AA 3)<|mC<|.int 1) AE) (AD 0) (mC<|.bl true) Oq)<|AD 8)
 (AF (CO 4<|m2 BW (Ax (DC (AA 5) ()<|!(AA 6))<|DR (AA 5) ()<|!(AA 6))<|Ax (DC (AA 5) (!(m2 BW (AA 6)<|mC<|.int 1)) ())<|DR (AA 5) (!(m2 BW (AA 6)<|mC<|.int 1)) ())
 (AF (CO 4<|m2 BW (m2 BW (Ax (DC (AA 5) ()<|!(AA 6))<|DR (AA 5) ()<|!(AA 6))<|BQ<|BK (BP<|AB (AA 7)<|AB (AJ Lx<|AB (AA 3) AE) AE) AE)<|Ax (DC (AA 5) (!(m2 BW (AA 6)<|mC<|.int 1)) ())<|DR (AA 5) (!(m2 BW (AA 6)<|mC<|.int 1)) ())
 (AF (CO 4<|m2 BW (AA 5)<|BQ<|BK (BP<|AB (AA 7)<|AB (AA 8) AE) AE)
 (CO 4<|Az 2 [2] (Aj<|AA 5) (Al 2<|AI (AD 0)<|AI (AD 1) An) (mC<|.bl true) XH))))))) A5)))
def Nm:AG:=
 (AF (Bh 4<|BQ AE)
 (AF (BV (Aj<|BQ<|BK (AJ JI<|AB (AA 0)<|AB (AA 1) AE)<|BK (AJ JI<|AB (AA 0)<|AB (BQ AE) AE) AE) (AD 5) K4)
 (AN<|AA 4)))
def Pn:qD->Option Ru:=AW 4 9 Nm
abbrev kZ:=fA 14 4 Sk Pn
abbrev zfk:Gm:=gA Sk 13 [("_law_nodes",k6),("everywhere",kE),("_law_wide",kT)] ["len","range"] ["_law_found"]
theorem zfx:Ck zfk kZ Sk Nm:={}
def Fm:Db.Z:=λϊ z=>!0
def zoc(n:Nat)(x:T):(List.replicate n [x]).flatten=mT n λϊ=>x:=by
 unfold mT;rw[List.flatten_replicate_singleton,List.map_const',ĸ]
theorem zp5{n:Nat}{p:Str×Db.Z}(h:PyData.strOk p.1=true):Fit (Ai n p) 3:=Fit.tup λs hs=>by
 erw[Ð,û,ý]at hs;rcases hs with rfl|rfl;show Fit.str h 2;show znc n p.2
def X7(M:Mc)(P:List<|Str×Db.Z):Prop:=P.length<=20/\∀p∈P,p.1∈M.nm
def MD(M:Mc)(t:T):Prop:=∃P,X7 M P/\t.share=.lst (P.map<|Ai<|↥M+1)
abbrev pq(A G:T)(c:Int)(m:Nat)(F:qD)(a b d y8:q9):AL:=[!A,!G,!(.int c),!(.int (m:Int)),!(.own F),a,b,d,y8]
def aA{M:Mc}(h:McOk M)(A G:T)(c:Int){P:List<|Str×Db.Z}(s:∀p∈P,p.1∈M.nm)(lP:P.length<=8){F:qD}(hF:∀t∈F,MD M t)(lF:F.length<=100)(y6 y7 y8:q9) :
  ∃F':qD,(∀t∈F',MD M t)/\F'.length<=F.length+6/\∃z6 z7 z8,K4 (pq A G c ↥M F (!(.lst<|P.map<|Ai<|↥M+1)) y6 y7 y8)=!(.nx<|pq A G c ↥M F' (!(.lst<|P.map<|Ai<|↥M+1)) z6 z7 z8):=by
 let(n,en):∃n,n=↥M+1:={_,rfl};let wl:=h.wl;let l:=FA n P;let m:=A8 _ l;let W:AZ (BA F)=true:=Gb F;let d:=T9 (o:=false) (by decide)<|gW (o:=false) (f:=Ai n) (L:=P) λp r=>zp5<|h.tn _<|s p r
 rw[À]at d;let e:(BA F).length=F.length:=by rw[Cw,À]
 let rv:AZ (P.map<|Ai n).reverse=true:=by
  rw[Cz,List.all_reverse,<- Cz];show l
 let l0:(BA F).length+2<=BN:=by unfold BN;lia
 let J:∀Q:List (Str×Db.Z),(T.own<|Q.map<|Ai n).share=.lst (Q.map<|Ai n):=λQ=>by rw[T.share,A8 _<|FA n Q]
 let h1:∀t∈BA F++[.lst<|P.map<|Ai n,.lst (P.map<|Ai n).reverse],MD M t:=by
  rw[Cw];erw[Ú,Ò,Ð,û,ý];rintro t (⟨u,hu,rfl⟩|rfl|rfl);let(P,p1,p2):=hF u hu;show{P,p1,by rw[p2];show Ak _<|FA _ P};show{P,{by lia,s},by rw[en];show Ak _<|FA _ P};show{P.reverse,{by rw[ő];lia,λp r=>s p<|List.mem_reverse.mp r},by rw[en,<- List.map_reverse];show Ak _<|FA _ _}
 rw[<- en];let H:=A8 _ W
 by_cases z:P=[]
 let d:Cm (.lst<|P.map<|Ai n) (.lst [])=!(.bl false):=by
  rw[d,z];rfl
 show{_,h1,by rw[ß,e];show(show F.length+2<=_ from ?_);lia,y6,y7,y8,?_};unfold pq K4;change P.map (Ai n)=PP;show sq (by simp![]<;>rfl)<|sq (by simp![Jd,W,H,l,m,rv,l0]<;>rfl)<|Hk (by simp![l,m,d])<|by simp![]
 let d:Cm (.lst<|P.map<|Ai n) (.lst [])=!(.bl true):=by
  rw[d,Õ λq=>z<|Ų.mp q];rfl
 let p0:0<P.length:=List.length_pos_iff.mpr z;let(a,ea,ha):=E3 c P.length p0;let O:(P.map<|Ai n).length=P.length:=À _;let n0:((P.length:Int)=0)=False:=eq_false<|by lia
 let(p,r,ep):∃p∈P,A9 (P.map<|Ai n) (a:Int)=!(Ai n p):={P[a],ë ha,Fq (by rw[É,Á ha];rfl)};let sz:=Bv n p.2;let a0:A9 [T.str p.1,zT n p.2] 0=!(.str p.1):=CF (by decide) rfl
 let D:=Oa (Ai n) P ()<|!(a:Int);let E:=Oa (Ai n) P (!((a:Int)+1)) ();let k1:=Oc P ()<|!(a:Int);let k2:=Oc P (!((a:Int)+1)) ();let q1:∀p∈CM P () (!(a:Int)),p.1∈M.nm:=λp r=>s p<|mK r
 let q2:∀p∈CM P (!((a:Int)+1)) (),p.1∈M.nm:=λp r=>s p<|mK r
 change CM P () (!(a:Int))=C1;change CM P (!((a:Int)+1)) ()=C2;let t1:=FA n C1;let t2:=FA n C2
 let w:=Ce (n:=n) (me:=Oq) (x:=()) (cs:=[!(.int (↥M:Int))]) (g:=λi=>.int (i:Int)) (f:=λi=>.own<|mT n λj=>bT<|Fm i j) λi hi=>by
  let kn:VI ((↥M:Int)+1)=true:=@decide_eq_true _ (Classical.propDecidable _) {Int.lt_trans (b:=9) (by lia) (by decide +kernel),Int.le_trans (b:=0) (by decide +kernel)<|by lia};let tn:((↥M:Int)+1).toNat=n:=by lia
  let kl:1 * n<=BN:=by unfold BN;lia
  let er:=zoc n<|.int 0;unfold Oq;show(show _=!(Rs.v (.own<|mT n λj=>.int 0) false) from ?_)
  rw[<- er]
  simp![kn,tn,kl]
 let w:CK (AD 0) (mC<|.bl true) Oq (mT n λi=>.int (i:Int)) [(),!(.int (↥M:Int))]=!(oZ n Fm):=w;let oE:=Gh (n:=n) (g:=Fm);let sE:AZ (mT n λi=>rT n<|Fm i)=true:=FP λi=>J5 _ _
 let oF:=Gh (n:=n) (g:=Db.free);let C:AZ (mT n λi=>rT n<|Db.free i)=true:=FP λi=>J5 _ _
 let ev:Lx [.int (↥M:Int)]=!(.ok<|.own<|oZ n Db.free):=by
  rw[en];show ev_ok<|by lia
 let wk:∀f:Db.Z,∃g,KO [zT n f,.int<|c.fdiv 7]=!(.ok<|.own<|oZ n g):=λf=>zkl (by lia) (by lia) f _;let(k,N):∃k:Db.Z->Db.Z,∀f,KO [zT n f,.int<|c.fdiv 7]=!(.ok<|.own<|oZ n<|k f):={λf=>Classical.choose<|wk f,λf=>Classical.choose_spec<|wk f};let t7:DB 7=true:=Dy (by decide)<|by decide
 let K:=DW (b:=Al 2<|AI (AD 0)<|AI (AD 1) An) (me:=XH) (Ai n) (λp=>Ai n (p.1,k p.2)) (λY=>∃x y,Y=[x,y,!(.int c)]) P [(),(),!(.int c)] {(()),(),rfl} λp ϊ Y hI=>by
  let(x,y,rfl):=hI;let sz:=Bv n p.2;let lo:=N p.2;let os:=Gh (n:=n) (g:=k p.2);unfold Ai;let ez:zT n (k p.2)=.lst (mT n λi=>rT n<|k p.2 i):=rfl
  show{[!(.str p.1),!(zT n p.2),!(.int c)],by
   change zT n p.2=Z
   simp_all_arith [sz,Ak _ sz],?_,_,_,rfl}
  unfold XH;rw[ez,<- os];change zT n p.2=Z;change oZ n (k p.2)=OZ
  simp_all_arith [sz,Ak _ sz,t7,lo]
 let sW:AZ (P.map λp=>Ai n (p.1,k p.2))=true:=CN λp ϊ=>by
  let:=Bv n<|k p.2;unfold Ai;change zT n (k p.2)=Z
  simp![this]
 let on:Cj ((↥M:Int)+1)=true:=Eh (n:=↥M+1)<|by lia
 let tn:((↥M:Int)+1).toNat=n:=by lia
 let rn:Ez 0 n=mT n λi=>.int (i:Int):=E1;let nl:n<=BN:=by unfold BN;lia
 let ll:(P.map<|Ai n).length<=100000:=by lia
 let z1:(C1.map<|Ai n).length+(C2.map<|Ai n).length<=BN:=by erw[À,BN];lia
 let z2:(C1.map<|Ai n).length+1<=BN:=by erw[À,BN];lia
 let z3:∀x:T,(C1.map (Ai n)++[x]).length+(C2.map<|Ai n).length<=BN:=λx=>by erw[ß,Ę,À,BN];lia
 let z4:(P.map<|Ai n).length+1<=BN:=by unfold BN;lia
 show{BA F++[.lst<|P.map<|Ai n,.lst (P.map<|Ai n).reverse]++[.own<|C1.map (Ai n)++C2.map (Ai n)]++[.own<|C1.map (Ai n)++[Ai n (p.1,Db.free)]++C2.map (Ai n)]++[.own<|P.map (Ai n)++[Ai n (p.1,Fm)]]++[.own<|P.map λp=>Ai n (p.1,k p.2)],λt B=>?_,?_,!(.int (a:Int)),!(.str p.1),!(zT n Fm),?_};rw[ð,ð,ð]at B;rcases Ú.mp B with B|B;show h1 t B;let q0:=s p r;erw[ŏ,ĵ,Ð,û,ý]at B;unfold MD X7;rw[<- en];rcases B with rfl|rfl|rfl|rfl;show{C1++C2,?_,by rw[<- J,à]};erw[ß,ŷ];show{by lia,q1,q2};show{C1++[(p.1,Db.free)]++C2,?_,by rw[<- J,à,à];rfl};erw[ß,ŷ,List.forall_mem_singleton,Ę];show{by lia,{(q1),q0},q2};show{P++[(p.1,Fm)],?_,by rw[<- J,à];rfl};erw[ß,ŷ,List.forall_mem_singleton,Ę];show{by lia,s,q0};show{P.map λp=>(p.1,k p.2),{by rw[À];lia,λx hx=>?_},by rw[<- J,è];rfl};let(y,hy,rfl):=Ò.mp hx;show s y hy;erw[ß,ï,đ,e];lia;let R:∀u v:T,(BA F++[u,v]).length<100000:=λu v=>by simp[e];lia
 let S:∀u v x:T,(BA F++[u,v]++[x]).length<100000:=λu v x=>by simp[e];lia
 let U:∀u v x y:T,(BA F++[u,v]++[x]++[y]).length<100000:=λu v x y=>by simp[e];lia
 let V:∀u v x y z:T,(BA F++[u,v]++[x]++[y]++[z]).length<100000:=λu v x y z=>by simp[e];lia
 let zf:zT n Db.free=.lst (mT n λi=>rT n<|Db.free i):=rfl;let ze:zT n Fm=.lst (mT n λi=>rT n<|Fm i):=rfl;unfold pq K4;change (P.map λp=>Ai n (p.1,k p.2))=WP;change P.map (Ai n)=PP;change C1.map (Ai n)=D1;change C2.map (Ai n)=D2;unfold Ai at ep ⊢;rw[zf,ze];change (mT n λi=>rT n<|Db.free i)=FZ;change (mT n λi=>rT n<|Fm i)=EZ;change oZ n Db.free=OF;change oZ n Fm=OE;change zT n p.2=Z;let I:=A8 _ C
 let X:AZ (D1++[T.tup [.str p.1,.lst FZ]])=true:=by
  rw[Cz,List.all_append,<- Cz,t1,Θ,List.all_cons,List.all_nil,Ś]
  simp![C]
 show sq (by simp![]<;>rfl)<|sq (by simp![Jd,W,H,l,m,rv,l0]<;>rfl)<|Jk (by simp![l,m,d]) ?_
 show sq (by simp_all_arith [l,m,O,n0,ea]<;>rfl)<|sq (by simp_all_arith [l,m,ep,a0,sz]<;>rfl)<|sq (by simp![on,tn,rn,nl,w,oE,sE]<;>rfl) ?_
 show sq (by simp![l,m,D,E,t1,t2,z1,R]<;>rfl)<|sq (by simp![l,m,D,E,t1,t2,ev,oF,C,I,X,z2,z3,S]<;>rfl)<|sq (by simp![l,m,sE,z4,U]<;>rfl) ?_
 simp![l,m,ll,K,V]
def zlz{M:Mc}(h:McOk M){gl:List<|Str×qD}(i:FI M.ws (M.rs.map (·.1)) gl)(hn:gl.length<=1000)(c:Int):∃F:qD,(∀t∈F,MD M t)/\F.length<=100/\Pn [Av M,.lst<|gl.map AS,.int c,.int (↥M:Int)]=!(.ok<|.own F):=by
 let(P,o,p,q):=fK h i hn;let(Q,r,s,d):=fK h (gl:=[]) (λϊ z=>by cases z)<|by decide
 let d:JI [Av M,.lst []]=!(.ok<|.own<|Q.map<|Ai<|↥M+1):=d;let m:=GJ h;let l:=i.sh;let u:=FA ⇑M P;let v:=FA ⇑M Q;let(a,f1,f2,e,f,g,j):=aA h (Av M) (.lst<|gl.map AS) c o p (F:=[]) (λϊ z=>by cases z) (by decide) () () ()
 let(b,g1,g2,w,x,y,k):=aA h (Av M) (.lst<|gl.map AS) c r s f1 (by simp at f2;lia) e f g;let B:a.length<=6:=by simpa using f2
 show{b,g1,by lia,?_};unfold pq at j k;change Av M=A;change gl.map AS=GT;change P.map (Ai<|↥M+1)=PP;change Q.map (Ai<|↥M+1)=QQ
 let run:Nm [!A,!(.lst GT),!(.int c),!(.int (↥M:Int)),(),(),(),(),()]=!(.rt<|.own b):=by
  unfold Nm
  let n:BC (AD 5) K4 [.lst PP,.lst QQ] [!A,!(.lst GT),!(.int c),!(.int (↥M:Int)),!(.own []),(),(),(),()]=!(.nx [!A,!(.lst GT),!(.int c),!(.int (↥M:Int)),!(.own b),!(.lst QQ),w,x,y]):=by
   unfold BC;rw[show AD 5 (.lst PP) [!A,!(.lst GT),!(.int c),!(.int (↥M:Int)),!(.own []),(),(),(),()]=↑[!A,!(.lst GT),!(.int c),!(.int (↥M:Int)),!(.own []),!(.lst PP),(),(),()] from rfl];erw[j];unfold BC;rw[show AD 5 (.lst QQ) [!A,!(.lst GT),!(.int c),!(.int (↥M:Int)),!(.own a),!(.lst PP),e,f,g]=↑[!A,!(.lst GT),!(.int c),!(.int (↥M:Int)),!(.own a),!(.lst QQ),e,f,g] from rfl];erw[k];rfl
  show sq (by simp_all_arith []<;>rfl)<|sq (by simp![m,l,q,d,u,v,n]<;>rfl)<|by simp![]
 unfold Pn
 simp![m,l,run]
abbrev Mq:Stmt:=AK 99
def Wh:AH:=
 (Hb X6 []<|AB (AM (AA 0)<|mC<|.int 0)<|AB (AM (AA 0)<|mC<|.int 1)<|AB (m1 DF<|AM (AA 0)<|mC<|.int 2)<|AB (m1 DF<|AM (AA 0)<|mC<|.int 3)<|AB (AM (AA 0)<|mC<|.int 4) AE)
def Wg:AH:=
 (BP<|AB (AA 0)<|AB (m1 DF<|AA 1) AE)
def MR:AG:=
 (AX (Bq (m2 BS (AA 15)<|AA 12)<|AJ EG<|AB (AA 16)<|AB (AA 13) AE) (AV (mC<|.bl true)<|AD 7) A5)
def QK:AG:=
 (BV (Aj<|AA 11) (Al 2<|AI (AD 15)<|AI (AD 16) An) MR)
def QM:AG:=
 (AF (AV (AJ Lo<|AB (AA 5)<|AB (AA 11)<|AB (AA 8) AE)<|AD 14)
 (AX (Bu (BJ<|m1 (DH "bool")<|AA 14)<|Bq (AA 14)<|AA 7) (AN<|mC<|.bl false) A5))
def N6:AG:=
 (AF (AV (AJ Fh<|AB (AA 0)<|AB (mC<|.int 0) AE)<|AD 1)
 (AF (AV (Ax (DC (AM (BQ<|BK (BQ<|BK (mC<|.str "x")<|BK (mC<|.str "y") AE)<|BK (BQ<|BK (mC<|.str "in")<|BK (mC<|.str "i") AE)<|BK (BQ<|BK (mC<|.str "y")<|BK (mC<|.str "yy") AE) AE)<|m2 Ba (m2 Co (AA 1)<|mC<|.int 3)<|mC<|.int 3) ()<|!(m2 Ba (AA 1)<|mC<|.int 3))<|DR (AM (BQ<|BK (BQ<|BK (mC<|.str "x")<|BK (mC<|.str "y") AE)<|BK (BQ<|BK (mC<|.str "in")<|BK (mC<|.str "i") AE)<|BK (BQ<|BK (mC<|.str "y")<|BK (mC<|.str "yy") AE) AE)<|m2 Ba (m2 Co (AA 1)<|mC<|.int 3)<|mC<|.int 3) ()<|!(m2 Ba (AA 1)<|mC<|.int 3))<|AD 2)
 (AF (AV (AM (BQ<|BK (mC<|.int 1)<|BK (m2 FU (mC<|.int 10)<|mC<|.int 12) AE)<|m2 Ba (m2 Co (AA 1)<|mC<|.int 9)<|mC<|.int 2)<|AD 3)
 (AF (AV (AJ Pm<|AB (AA 0)<|AB (AA 2)<|AB (AA 3) AE)<|Al 3<|AI (AD 9)<|AI (AD 10)<|AI (AD 11) An)
 (AF (AV (Az 1 [] (Aj<|AA 10) (AD 0) (mC<|.bl true) Wh)<|AD 4)
 (AF (AV (Hb Pj []<|AB (m1 DF<|AA 2)<|AB (Az 2 [] (Aj<|AA 9) (Al 2<|AI (AD 0)<|AI (AD 1) An) (mC<|.bl true) Wg)<|AB (AA 4) AE)<|AD 5)
 (AF (AV (AJ Pl<|AB (AA 9)<|AB (AA 10)<|AB (AA 11)<|AB (Ax (DC (AA 0) (!(mC<|.int 9))<|!(mC<|.int 21))<|DR (AA 0) (!(mC<|.int 9))<|!(mC<|.int 21))<|AB (AA 2)<|AB (AA 3) AE)<|AD 6)
 (AF (AV (mC<|.bl false)<|AD 7)
 (AF (BV (Aj<|AA 6) (Al 2<|AI (AD 12)<|AI (AD 13) An) QK)
 (AF (BV (Aj<|AJ Pn<|AB (AA 5)<|AB (AA 11)<|AB (m2 Ba (m2 Co (AA 1)<|mC<|.int 18)<|m2 FU (mC<|.int 10)<|mC<|.int 30)<|AB (m1 Bd<|AA 2) AE) (AD 8) QM)
 (AN<|mC<|.bl true)))))))))))
def X2:qD->Option Ru:=AW 1 17 N6
abbrev zrc:=fA 15 1 Mq X2
abbrev zr5:Gx:={ Bb with nw:=[("Door",WB,[(5,[])]),("Machine",Vv,[(3,[])])] }
abbrev zr7:Gm:=gA Mq 14 [("_law_cell_at",WA),("_law_parts",kY),("_law_steps",kW),("_law_meets",Vy),("_law_papers",kZ),("lets_by",jW)] ["list","len","isinstance","bool"] (ox:=zr5) (N:=["_law_script","_law_first","_law_watches","_law_unit","_law_shut","_law_machine","_law_stood","_law_broken","_law_paper","_law_rooms","_law_doors","_law_goal","_law_room","_law_values","_law_told","_law_name","_law_guard"])
theorem zrl:Ck zr7 zrc Mq N6:={}
def FJ:Nat->kq
 |0=>["x","y"]|1=>["in","i"]|z=>["y","yy"]
def Xz:∀k<3,∀x∈FJ k,(∀i<x.cps.size,97<=x.cps.getD i 0/\x.cps.getD i 0<=122)/\1<=x.cps.size/\x.cps.size<=8:=by decide +kernel
def ww_nd:∀k<3,(FJ k).Nodup:=by decide +kernel
def YA:∀k<3,(FJ k).length=2:=by decide +kernel
abbrev Nu(S:T)(f:Int)(d e g h i j y8 k a y11 y12 y13 y14 b c:q9):AL:=[!S,!(.int f),d,e,g,h,i,j,y8,k,a,y11,y12,y13,y14,b,c]
def MI(M:Mc)(gl:List<|Str×qD):Prop:=∃r X,Std M r X/\∃g∈gl,g.1=r/\C6 12 (g.2.map<|Bc M.ws) X=true
def zrp{M:Mc}(h:McOk M){gl:List<|Str×qD}(H:FI M.ws (M.rs.map (·.1)) gl){r:Str}{k:Ob}{X:Nat->Int}(hk:FQ k=!M.ws)(S:Std M r X)(s u v w x y z y8 A j y14:q9)(b:Bool)(hb:b=true->MI M gl)(a d:q9) :
  ∃b',(b'=true->MI M gl)/\∃z15 z16,BC (Al 2<|AI (AD 15)<|AI (AD 16) An) MR (gl.map AS) [s,u,v,w,x,y,z,!(.bl b),y8,A,j,!(.lst<|gl.map AS),!(.str r),!(.obj k<|Ao ↥M 12 X),y14,a,d]=!(.nx [s,u,v,w,x,y,z,!(.bl b'),y8,A,j,!(.lst<|gl.map AS),!(.str r),!(.obj k<|Ao ↥M 12 X),y14,z15,z16]):=by
 let E:=IG k ↥M 12 X;let me:=λ(l:qD) (L:Ci M.ws CZ l)=>N0 Fp hk X L
 change T.obj k (Ao ↥M 12 X)=D;let(Q,B):∃Q:Bool->q9->q9->AL,Q=λb a d=>[s,u,v,w,x,y,z,!(.bl b),y8,A,j,!(.lst<|gl.map AS),!(.str r),!D,y14,a,d]:={_,rfl}
 let(Y,e,b',p,z15,z16,rfl):=DI (b:=Al 2<|AI (AD 15)<|AI (AD 16) An) (body:=MR) (ts:=gl.map AS) (Y:=Q b a d)
  (λϊ Y=>∃b:Bool,(b=true->MI M gl)/\∃z15 z16,Y=Q b z15 z16) {(b),hb,a,d,rfl} λi t Y C F=>by
   let(b,hb,z15,z16,rfl):=F;rw[É]at C;let(g,f,rfl):=Ø.mp C;let f:=ú f;let G:=H g f;let o:=G.2.1.sh;let m:=Fe (h.tn _ G.1)<|h.tn _ S.hr;let n:=me g.2 G.2.1;subst B;show{_,by simp_all_arith [o,A8 _ o],?_}
   unfold MR;by_cases c:g.1=r;rw[Ä c]at m;cases q:C6 12 (g.2.map<|Bc M.ws) X with
   |true=>
    rw[q]at n;show{_,Jk (by simp![m,o,E,n]) ?_,true,λϊ=>{(r),X,S,g,f,c,q},!(.str g.1),!(.lst g.2),rfl}
    simp_all_arith []
   |false=>rw[q]at n;show{_,Hk (by simp![m,o,E,n]) rfl,b,hb,_,_,rfl}
   rw[Õ c]at m;show{_,Hk (by simp_all_arith [m]) rfl,b,hb,_,_,rfl}
 subst B;show{(b'),p,z15,z16,e}
def law_true(ns:ku)(V:ns.length<=63):X2 [DA ns]=!(.ok<|.bl true):=by
 let FS:=Yl ns;let p:=Yk ns;let c0:=Od ns (k:=0)<|by decide
 change ns.getD (0:Int).toNat 0=f;let(k,ek,hk):=E3 (f.fdiv 3) 3<|by decide
 let(j,ej,hj):=E3 f 3<|by decide
 let(v,ev,hv):=E3 (f.fdiv 9) 2<|by decide
 let ek:(f.fdiv 3).fmod 3=(k:Int):=ek;let ej:f.fmod 3=(j:Int):=ej;let ev:(f.fdiv 9).fmod 2=(v:Int):=ev;let t3:DB 3=true:=Dy (by decide)<|by decide
 let t9:DB 9=true:=Dy (by decide)<|by decide
 let t18:DB 18=true:=Dy (by decide)<|by decide
 let p12:(0:Int)<=12/\(12:Int)<=1000000/\Ey 10=true:={by decide,by decide,DK (by decide)<|by decide};let p30:(0:Int)<=30/\(30:Int)<=1000000/\Ey 10=true:={by decide,by decide,DK (by decide)<|by decide};let r12:(10:Int) ^ (12:Int).toNat=1000000000000:=rfl;let r30:(30:Int).toNat=30:=rfl;let z30:((10:Int) ^ 30=0)=False:=by simp
 let(ws,q):∃ws,ws=(FJ k).take j:={_,rfl};let m:∀x∈ws,x∈FJ k:=λx K=>by rw[q]at K;show List.mem_of_mem_take K
 let hw:∀x∈ws,Iy x:=λx K=>.inr {λi hi=>(Xz k hk x<|m x K).1 i hi,(Xz k hk x<|m x K).2};let tw:Ca ws:=λx K=>K0<|hw x K
 let wd:ws.Nodup:=by rw[q];show(List.take_sublist _ _).nodup (ww_nd k hk)
 let w2:ws.length<=2:=by
  rw[q,î,YA k hk];lia
 let at3:A9 [T.own [.str "x",.str "y"],.own [.str "in",.str "i"],.own [.str "y",.str "yy"]] (k:Int)=!(.own<|(FJ k).map T.str):=by
  let:k=0\/k=1\/k=2:=by lia
  rcases this with rfl|rfl|rfl<;>rfl
 let s3:AZ ((FJ k).map T.str)=true:=BE _
 let ct:CM ((FJ k).map T.str) () (!(j:Int))=ws.map T.str:=by
  let lw:=YA k hk;rw[q,List.map_take];unfold CM;let e2:HT.sIx ((FJ k).map T.str).length 0 ()=0:=rfl
  let e3:HT.sIx ((FJ k).map T.str).length ((FJ k).map T.str).length (!(j:Int))=j:=by
   rw[À,lw];simp[HT.sIx];lia
  rw[e2,e3];simp
 let(u,hu,eu):∃u:Int,0<u/\A9 [T.int 1,.int 1000000000000] (v:Int)=!(.int u):=by
  let:v=0\/v=1:=by lia
  rcases this with rfl|rfl;show{1,by decide,rfl};show{1000000000000,by decide,rfl}
 let(rs,ds,gl,h,ep):=zj5 ns V tw wd (by lia)<|ì hu
 let dl:=h.dl;let gn:=h.gn;let(M,rfl,rfl,rfl):∃M:Mc,M.ws=ws/\M.rs=rs/\M.ds=ds:={{(ws),rs,ds},rfl,rfl,rfl};let H:McOk M:={hw,wd,by lia,h.r,h.d,by lia}
 let J:=h.g;let sM:=GJ H;let I:=Ak _ sM;let sR:=IW h.r;let sD:AZ (M.ds.map BI)=true:=CN λd hd=>Iq<|h.d d hd
 let sE:AZ (M.ds.map BU)=true:=CN λd hd=>Jq<|h.d d hd
 let s:=h.g.sh
 let Z:(T.lst<|gl.map AS).sh=true:=by
  change gl.map AS=L
  simp_all_arith [s]
 let O:AZ (M.ws.map T.str)=true:=BE _;let mi:Pj [.lst<|M.ws.map T.str,.lst<|M.rs.map AS,.lst<|M.ds.map BU]=!(.ok<|Av M):=zme H;let(cs,R):∃cs,cs=CM ns ↑9 !21:={_,rfl};let lcs:cs.length<=63:=by rw[R];show Ö (Oc _ _ _) V
 let cm:CM (ns.map T.int) ↑9 ↑21=cs.map T.int:=by rw[R];show Oa _ _ _ _
 let sC:AZ (cs.map T.int)=true:=HM _;let(F,hF,lF,est):=zik H hu Z lcs;let(PF,U,lPF,epp):=zlz H J (by lia)<|(f.fdiv 18).fmod (10 ^ 30)
 let pg:HH [Av M,.lst<|gl.map AS]=!(.ok<|.own<|(gl.map λg=>(g.1,g.2.map<|Bc M.ws)).map C4):=by
  let:=TQ H J<|by lia
  rw[è,show(gl.map<|C4 ∘ λg=>(g.1,g.2.map<|Bc M.ws))=gl.map λg=>T.tup [.str g.1,.lst<|g.2.map<|Bp M.ws] from Ć λg a=>by
   show(show T.tup [.str g.1,.lst<|(g.2.map<|Bc M.ws).map Am]=_ from ?_);rw[<- NB (J g a).2.1]]
  show this
 let hK:∀k∈(gl.map λg=>(g.1,g.2.map<|Bc M.ws)),k.1∈M.nm/\EX ↥M k.2:=λk hk=>by
  let(g,a,rfl):=Ò.mp hk;show{(J g a).1,J6 (J g a).2.1}
 let lb:∀P,X7 M P->Lo [Av M,.lst<|gl.map AS,.lst<|P.map<|Ai<|↥M+1]=!(.ok<|.bl<|Hg M P<|gl.map λg=>(g.1,g.2.map<|Bc M.ws)):=λP hP=>zqj H (by let:=hP.1;lia) hP.2 Z pg hK (by rw[À];lia)
 let l:∀P,Hg M P (gl.map λg=>(g.1,g.2.map<|Bc M.ws))=true->¬ MI M gl:=λP hl ⟨r,X,S,g,a,e1,e2⟩=>by
  let:=S.mark (λk hk=>(hK k hk).2) hl (Α a) e1;rw[this]at e2;cases e2
 let(Q,eQ):∃Q:Bool->q9->q9->q9->q9->q9->q9->AL,Q=λb y8 w A B n o=>Nu (DA ns) f (!(.lst<|M.ws.map T.str)) (!(.int u)) (!(.lst<|M.ds.map BU)) (!(Av M)) (!(.lst F)) (!(.bl b)) y8 (!(.lst<|M.rs.map AS)) (!(.lst<|M.ds.map BI)) (!(.lst<|gl.map AS)) w A B n o:={_,rfl}
 let(_,eB,b,hb,z12,z13,C,E,rfl):=DI (b:=Al 2<|AI (AD 12)<|AI (AD 13) An) (body:=QK) (ts:=F) (Y:=Q false () () () () () ())
  (λϊ Y=>∃b:Bool,(b=true->MI M gl)/\∃w A n o,Y=Q b () w A () n o) {false,λz=>(by cases z),(),(),(),(),rfl} λi t Y N h2=>by
   let(b,hb,w,A,n,o,rfl):=h2;let(r,k,X,rfl,hk,S):=hF t<|ú N;let so:=IG k ↥M 12 X;let(b',hb',C,E,e):=zrp H J hk S (!(DA ns)) (!(.int f)) (!(.lst<|M.ws.map T.str)) (!(.int u)) (!(.lst<|M.ds.map BU)) (!(Av M)) (!(.lst F)) () (!(.lst<|M.rs.map AS)) (!(.lst<|M.ds.map BI)) () b hb n o;subst eQ;change T.obj k (Ao ↥M 12 X)=D;show{_,by simp_all_arith [so,Ak _ so],_,?_,b',hb',!(.str r),!D,C,E,rfl}
   unfold QK;change gl.map AS=GS
   simp_all_arith [s,A8 _ s,e]
 let(_,eP,z8,z14,rfl):=DI (b:=AD 8) (body:=QM) (ts:=BA PF) (Y:=Q b () z12 z13 () C E)
  (λϊ Y=>∃y8 B,Y=Q b y8 z12 z13 B C E) {(()),(),rfl} λi t Y N h2=>by
   let(y8,B,rfl):=h2;let N:=ú N;rw[Cw]at N;let(t,ht,rfl):=Ò.mp N;let(P,hP,eP):=U t ht;rw[eP];let sP:=FA ⇑M P;let el:=lb P hP;let nb:=l P;subst eQ;change P.map (Ai<|↥M+1)=PP;change Hg M P (gl.map λg=>(g.1,g.2.map<|Bc M.ws))=c
   change gl.map AS=GS;change Av M=MM;show{_,rfl,_,?_,!(.lst PP),!(.bl c),rfl};unfold QM;show sq (by simp_all_arith [sM,I,s,A8 _ s,sP,A8 _ sP,el]<;>rfl)<|Hk ?_<|by simp_all_arith []
   cases c with
   |false=>simp_all_arith []|true=>
    cases b with
    |true=>show absurd (hb rfl) (nb rfl)|false=>simp_all_arith []
 let c5:=DW (b:=AD 0) (me:=Wh) BI BU (λY=>∃x,Y=[x]) M.ds [()] {(()),rfl} λd hd Y hI=>by
  let(x,rfl):=hI;let D:=h.d d hd;let di:=di_ok D;let sd:=Iq D;let so:(BU d).sh=true:=Jq D;let sg:=D.g.sh;let sn:AZ (d.n.map T.str)=true:=BE _
  show{[!(BI d)],by
   change BI d=DT
   simp_all_arith [sd,Ak _ sd],?_,_,rfl}
  let gl1:d.g.length<=100000:=by let:=D.gl;lia
  let T8:(d.n.map T.str).length<=100000:=by let:=D.nl;rw[À];lia
  unfold Wh BI;change BU d=DO;change d.n.map T.str=DN
  simp![sg,sn,gl1,T8,di,so]
 let c6:=DW (b:=Al 2<|AI (AD 0)<|AI (AD 1) An) (me:=Wg) AS AS (λY=>∃x y,Y=[x,y]) M.rs [(),()] {(()),(),rfl} λr hr Y hI=>by
  let(x,y,rfl):=hI;let s2:=(h.r.lk r hr).1.sh;let l2:r.2.length<=100000:=by let:=(h.r.lk r hr).2;lia
  show{[!(.str r.1),!(.lst r.2)],by simp_all_arith [s2,A8 _ s2],?_,_,_,rfl};unfold Wg
  simp_all_arith [s2,A8 _ s2,l2]
 let lw:(M.ws.map T.str).length<=100000:=by rw[À];lia
 let lr:(M.rs.map AS).length<=100000:=by let:=h.r.l64;rw[À];lia
 let ld:(M.ds.map BI).length<=100000:=by rw[À];lia
 let lw':(((M.ws.map T.str).length:Nat):Int)=(↥M:Int):=by rw[À]
 let lF':F.length<=100000:=by lia
 let W:AZ F=true:=by
  rw[Cz]
  show Ñ.mpr λt ht=>by
   let(r,k,X,rfl,_):=hF t ht;let:=IG k ↥M 12 X;change T.obj k (Ao ↥M 12 X)=D
   simp![this]
 let G:∀y2 y3 y4 y5 y9 y10 y11:q9,Ax (DC (AA 0) (!(mC<|.int 9))<|!(mC<|.int 21)) (DR (AA 0) (!(mC<|.int 9))<|!(mC<|.int 21)) (Nu (DA ns) f y2 y3 y4 y5 () () () y9 y10 y11 () () () () ())=!(.v (.own<|cs.map T.int) false):=λy2 y3 y4 y5 y9 y10 y11=>by
  unfold Nu;unfold DA at FS p ⊢
  simp_all_arith [HM,IP,cm]
 unfold X2
 let run:N6 [!(DA ns),(),(),(),(),(),(),(),(),(),(),(),(),(),(),(),()]=!(.rt<|.bl true):=by
  unfold N6;subst eQ;dsimp only[Nu]at eB eP G;clear l lb hK pg U J H m hw hF;change Ax (DC (AA 0) (!(mC<|.int 9))<|!(mC<|.int 21)) (DR (AA 0) (!(mC<|.int 9))<|!(mC<|.int 21))=SL;change DA ns=S;change Av M=MM;change (FJ k).map T.str=W3;change M.ws.map T.str=WS;change M.rs.map AS=RS;change M.ds.map BI=DS;change M.ds.map BU=DO;change gl.map AS=GS;change cs.map T.int=CS;show sq (by simp_all_arith [FS,p,c0]<;>rfl)<|sq (by simp![t3,ek,ej,at3,s3,ct,O]<;>rfl)<|sq (by simp_all_arith [t9,ev,p12,r12,eu]<;>rfl) ?_
  show sq (by simp_all_arith [FS,p,O,A8 _ O,ep,sR,A8 _ sR,sD,A8 _ sD,s,A8 _ s]<;>rfl) ?_;show sq (by simp![sD,ld,c5,sE]<;>rfl)<|sq (by simp![O,lw,sR,lr,c6,sE,mi,sM,I]<;>rfl) ?_
  show sq (by simp![sR,sD,s,G,sC,O,est,W]<;>rfl)<|sq (by simp![]<;>rfl)<|sq (by simp![W,eB]<;>rfl) ?_
  show sq (by simp![sM,I,s,t18,p30,r30,z30,O,lw',epp,eP]<;>rfl)<|by simp![]
 simp![FS,p,run]
end
end Zl
namespace Zl
open PySem PySem.W L2 Zw Zx Pu Hd
abbrev pw:Program:=PySem.Challenge.pw_zonewalk_k62_whole_papers_hold
abbrev Sz:OpenLaw:=PySem.Challenge.rw_zonewalk_k62_whole_papers_hold
abbrev md:String:="__module__"
abbrev fl:String:="__firstlineno__"
abbrev sa:String:="__static_attributes__"
abbrev dc:String:="__doc__"
abbrev cf:Str:="/claim/cut.py"
def tO(l:ke):Obj:={(.type "tuple"),(),(.seq (Array.mk l) 0),Array.mk []}
def dO(l:List DictEntry)(n:Nat):Obj:={(.type "dict"),(),(.dict (Array.mk l) n),Array.mk []}
def eb:ke:=[(.type "ValueError"),(.type "Exception"),(.type "BaseException"),(.type "object")]
def yO(a:Str)(b c:ke)(n:Addr)(d:ke)(r e f:Nat)(w:String):Obj:={(.type "type"),(),(.cls {a,b,c,n,a,true,[],d,false,(),false}),Array.mk [(!(.ref r)),(),(!(.str a e)),(!(.str a f)),(!(.builtin w)),(!(.bool true))]}
def cP(a:Str)(d:Nat)(b:Str)(e f:Nat)(r n k:Int)(c:Nat)(z:Int)(h i j l m:Value)(x y:Int)(g:Nat):Obj:={(.type "code"),(),(.fields<|Array.mk [(.str a d),(.str b e),(.str cf f),(.int r 0),(.int n 0),(.int 0 0),(.int 0 0),(.int k 0),(.ref c),(.bool true),(.int z 0),h,i,j,l,m,(.int x 0),(.int y 0),(.str cf g)]),Array.mk []}
def cL(a b:Str)(t r n q x:Nat):Obj:=cP a t b (t+1) (t+2) r n 3 q 181 (.ref<|q+1) .none (.ref<|q+2) (.ref<|q+3) (.ref<|q+4) x r<|x+1
def cN(a:Str):=cL a a
def cM(a b:Str)(t r n q:Nat):Obj:=cP a t b (t+1) (t+2) r n 3 q 181 (.ref<|q+1) .none .none .none (.ref<|q+2) ((t+3:Nat):Int) r<|t+4
def OL(a:Str)(s:Stmt)(c:Nat):=gO a s "zonewalk.fractions" 287 c
def aN(_:Params):=OL "is_whole" (AK 8) 93
def fB(_:Params):=OL "greatest_divisor" (AK 9) 100
def e9(P:Params):Obj:=tO [(.int 1 307)]
def e8(_:Params):=fO "fraction" "fraction" (AK 10) (.ref 102) "zonewalk.fractions" 287 108 .none
def e7(_:Params):=OL "minus" (AK 11) 115
def eV(_:Params):=OL "under" (AK 12) 122
def Ik(a:Str)(s:Stmt)(c:Nat):=gO a s "zonewalk.bounds" 333 c
def eU(_:Params):=Ik "at_most" (AK 14) 129
def eT(_:Params):=Ik "below" (AK 15) 136
def eO(_:Params):=Ik "number_of" (AK 16) 143
def eM(_:Params):=Ik "is_open" (AK 17) 150
def eK(_:Params):=Ik "added" (AK 18) 157
def eJ(_:Params):=Ik "narrower" (AK 19) 164
def eI(_:Params):=Ik "lets" (AK 20) 171
def eG(P:Params):Obj:=tO [(.str "<" 391),(.str "<=" 392),(.str ">" 393),(.str ">=" 394),(.str "=" 395)]
def eF(P:Params):Obj:=tO [(.str "<" 397),(.str "<=" 398)]
def LU(a:Str)(s:Stmt)(c:Nat):=gO a s "zonewalk.looks" 389 c
def eE(_:Params):=LU "is_look" (AK 24) 180
def eC(_:Params):=LU "is_number" (AK 25) 187
def eA(_:Params):=LU "is_guard" (AK 26) 192
def d9(_:Params):=LU "stands_so" (AK 27) 199
def d7(_:Params):=LU "look_bounds" (AK 28) 206
def Fc(a:Str)(s:Stmt)(c:Nat):=gO a s "zonewalk.machines" 445 c
def dZ(_:Params):=Fc "is_small_letter" (AK 33) 213
def dY(_:Params):=Fc "is_name" (AK 34) 218
def dW(_:Params):=Fc "is_watch_name" (AK 35) 225
def dU(_:Params):=Fc "is_room_name" (AK 36) 230
def dS(_:Params):=Fc "is_sign" (AK 37) 237
def dR(_:Params):=Fc "own_copy" (AK 38) 244
def dQ(P:Params):Obj:=tO [(.str "" 505)]
def dN(_:Params):=fO "__init__" "Door.__init__" (B3 39 0) (.ref 253) "zonewalk.machines" 445 259 .none
def dM(_:Params):=fO "asks" "Door.asks" (B3 39 1) .none "zonewalk.machines" 445 266 .none
def dJ(_:Params):=fO "sets" "Door.sets" (B3 39 2) .none "zonewalk.machines" 445 273 .none
def dH(_:Params):=fO "__init__" "Machine.__init__" (B3 40 0) .none "zonewalk.machines" 445 292 .none
def dF(_:Params):=fO "watches" "Machine.watches" (B3 40 1) .none "zonewalk.machines" 445 299 .none
def dE(_:Params):=fO "rooms" "Machine.rooms" (B3 40 2) .none "zonewalk.machines" 445 306 .none
def dD(_:Params):=fO "doors" "Machine.doors" (B3 40 3) .none "zonewalk.machines" 445 313 .none
def dA(_:Params):=fO "stay" "Machine.stay" (B3 40 4) .none "zonewalk.machines" 445 320 .none
def c9(_:Params):=fO "watch_number" "Machine.watch_number" (B3 40 5) .none "zonewalk.machines" 445 327 .none
def c8(_:Params):=Fc "check_watches" (AK 41) 339
def c7(_:Params):=Fc "are_unlike" (AK 42) 346
def cZ(_:Params):=Fc "check_rooms" (AK 43) 351
def cY(_:Params):=Fc "check_doors" (AK 44) 358
def cX(_:Params):=Fc "are_noughts" (AK 45) 363
def cW(_:Params):=Fc "placed" (AK 46) 368
def HD(a:Str)(s:Stmt)(c:Nat):=gO a s "zonewalk.zones" 652 c
def cV(_:Params):=HD "nought" (AK 48) 373
def cU(_:Params):=HD "everywhere" (AK 49) 378
def cT(_:Params):=HD "free_bound" (AK 50) 385
def cS(_:Params):=HD "lies_in" (AK 51) 392
def cR(_:Params):=HD "narrowest" (AK 52) 397
def cQ(_:Params):=HD "is_broken" (AK 53) 402
def cO(_:Params):=HD "row_over" (AK 54) 409
def cK(_:Params):=HD "within" (AK 55) 416
def cJ(_:Params):=HD "is_wider" (AK 56) 423
def HB(a:Str)(s:Stmt)(c:Nat):=gO a s "zonewalk.moves" 732 c
def cI(_:Params):=HB "holds" (AK 58) 428
def cH(_:Params):=HB "met" (AK 59) 435
def cG(_:Params):=HB "narrowed" (AK 60) 440
def cF(_:Params):=HB "copied" (AK 61) 445
def cE(_:Params):=HB "waited" (AK 62) 452
def cD(_:Params):=HB "put_back" (AK 63) 457
def cC(_:Params):=HB "freed" (AK 64) 464
def cB(_:Params):=HB "folded" (AK 65) 469
def cA(_:Params):=HB "folded_bound" (AK 66) 476
def OK(a:Str)(s:Stmt)(c:Nat):=gO a s "zonewalk.goals" 810 c
def b9(_:Params):=OK "placed_goal" (AK 68) 481
def b7(_:Params):=OK "placed_mark" (AK 69) 488
def bZ(_:Params):=OK "greatest" (AK 70) 493
def bY(_:Params):=OK "all_looks" (AK 71) 498
def V4(a:Str)(s:Stmt)(c:Nat):=gO a s "zonewalk.plans" 839 c
def bX(_:Params):=V4 "placed_stays" (AK 73) 505
def bW(_:Params):=V4 "nought_places" (AK 74) 510
def bV(_:Params):=V4 "doors_out" (AK 75) 517
def bU(_:Params):=fO "__init__" "Sheet.__init__" (B3 77 0) .none "zonewalk.papers" 868 529 .none
def bS(_:Params):=fO "holds_start" "Sheet.holds_start" (B3 77 1) .none "zonewalk.papers" 868 534 .none
def bR(_:Params):=fO "holds_within" "Sheet.holds_within" (B3 77 2) .none "zonewalk.papers" 868 541 .none
def bQ(_:Params):=fO "holds_wait" "Sheet.holds_wait" (B3 77 3) .none "zonewalk.papers" 868 548 .none
def bP(_:Params):=fO "holds_way" "Sheet.holds_way" (B3 77 4) .none "zonewalk.papers" 868 555 .none
def bO(_:Params):=fO "holds_room" "Sheet.holds_room" (B3 77 5) .none "zonewalk.papers" 868 560 .none
def bN(_:Params):=fO "keeps_off" "Sheet.keeps_off" (B3 77 6) .none "zonewalk.papers" 868 565 .none
def i7(a:Str)(s:Stmt)(c:Nat):=gO a s "zonewalk.papers" 868 c
def bM(_:Params):=i7 "narrow_zones_of" (AK 78) 577
def bL(_:Params):=i7 "lets_by" (AK 79) 582
def bK(_:Params):=fO "__init__" "Walk.__init__" (B3 81 0) .none "zonewalk.search" 961 596 .none
def bJ(_:Params):=fO "arrived" "Walk.arrived" (B3 81 1) .none "zonewalk.search" 961 603 .none
def bI(_:Params):=fO "first_nodes" "Walk.first_nodes" (B3 81 2) .none "zonewalk.search" 961 610 .none
def bH(_:Params):=fO "next_nodes" "Walk.next_nodes" (B3 81 3) .none "zonewalk.search" 961 617 .none
def bG(_:Params):=fO "hit_zones" "Walk.hit_zones" (B3 81 4) .none "zonewalk.search" 961 622 .none
def bE(_:Params):=fO "hits" "Walk.hits" (B3 81 5) .none "zonewalk.search" 961 629 .none
def i8(a:Str)(s:Stmt)(c:Nat):=gO a s "zonewalk.search" 961 c
def bD(_:Params):=i8 "listed" (AK 82) 641
def bB(_:Params):=i8 "is_covered" (AK 83) 648
def T4(P:Params):Obj:=tO [(.int 200 1063),.none]
def bA(_:Params):=fO "searched" "searched" (AK 84) (.ref 650) "zonewalk.search" 961 656 .none
def El(a:Str)(s:Stmt)(c:Nat):=gO a s "law_zonewalk_k62_whole_papers_hold" 1076 c
def a9(_:Params):=El "_law_cell_at" (AK 86) 663
def a7(_:Params):=El "_law_stream" (AK 87) 670
def aZ(_:Params):=El "_law_looks" (AK 88) 677
def aY(_:Params):=El "_law_parts" (AK 89) 682
def aX(_:Params):=El "_law_meets" (AK 90) 689
def aW(_:Params):=El "_law_lowest" (AK 91) 696
def aV(_:Params):=El "_law_later" (AK 92) 703
def aU(_:Params):=El "_law_stay" (AK 93) 708
def aT(_:Params):=El "_law_wait_for" (AK 94) 715
def aS(_:Params):=El "_law_steps" (AK 95) 720
def aR(_:Params):=El "_law_nodes" (AK 96) 725
def aQ(_:Params):=El "_law_wide" (AK 97) 730
def aP(_:Params):=El "_law_papers" (AK 98) 735
def aO(_:Params):=El "law" (AK 99) 740
def lS:List Addr:=[2,3,15,22,23,24,25,28,35,36,37,40,47,48,49,52,59,60,61,64,71,72,73,76,83,84,85,93,94,100,101,102,108,109,115,116,122,123,129,130,136,137,143,144,150,151,157,158,164,165,171,172,173,174,180,181,187,188,192,193,199,200,206,207,213,214,218,219,225,226,230,231,237,238,244,245,253,259,260,266,267,273,274,275,276,277,278,279,292,293,299,300,306,307,313,314,320,321,327,328,329,330,331,332,333,339,340,346,347,351,352,358,359,363,364,368,369,373,374,378,379,385,386,392,393,397,398,402,403,409,410,416,417,423,424,428,429,435,436,440,441,445,446,452,453,457,458,464,465,469,470,476,477,481,482,488,489,493,494,498,499,505,506,510,511,517,518,529,530,534,535,541,542,548,549,555,556,560,561,565,566,567,568,569,570,571,577,578,582,583,596,597,603,604,610,611,617,618,622,623,629,630,631,632,633,634,635,641,642,648,649,650,656,657,663,664,670,671,677,678,682,683,689,690,696,697,703,704,708,709,715,716,720,721,725,726,730,731,735,736,740,741]
def Jo(P:Params):Frag:=lS.zip [{.none,(),(.dict (Array.mk []) 0),Array.mk []},dO [en P "__name__" 165<|.str "law_zonewalk_k62_whole_papers_hold" 1076,en P "__doc__" 166 .none,en P "__package__" 167 .none,en P "__loader__" 168<|.builtin "__main__.__loader__#opaque",en P "__spec__" 169 .none,en P "__annotations__" 170<|.ref 6,en P "__builtins__" 171<|.ref 4,en P "__file__" 173<|.str "/claim/cut.py" 172,en P "__cached__" 174 .none,en P "WalkError" 206<|.ref 24,en P "NoNumber" 222<|.ref 37,en P "BadMachine" 238<|.ref 49,en P "TooMany" 254<|.ref 61,en P "NoMark" 270<|.ref 73,en P "NoRoom" 286<|.ref 85,en P "is_whole" 295<|.ref 94,en P "greatest_divisor" 306<|.ref 101,en P "fraction" 316<|.ref 109,en P "minus" 324<|.ref 116,en P "under" 332<|.ref 123,en P "at_most" 341<|.ref 130,en P "below" 348<|.ref 137,en P "number_of" 355<|.ref 144,en P "is_open" 362<|.ref 151,en P "added" 371<|.ref 158,en P "narrower" 379<|.ref 165,en P "lets" 388<|.ref 172,en P "WORDS" 396<|.ref 173,en P "STAY_WORDS" 399<|.ref 174,en P "is_look" 408<|.ref 181,en P "is_number" 415<|.ref 188,en P "is_guard" 421<|.ref 193,en P "stands_so" 433<|.ref 200,en P "look_bounds" 444<|.ref 207,en P "MOST_WATCHES" 448<|.int 7 447,en P "MOST_ROOMS" 450<|.int 64 449,en P "MOST_DOORS" 452<|.int 200 451,en P "is_small_letter" 459<|.ref 214,en P "is_name" 465<|.ref 219,en P "is_watch_name" 472<|.ref 226,en P "is_room_name" 478<|.ref 231,en P "is_sign" 485<|.ref 238,en P "own_copy" 492<|.ref 245,en P "Door" 544<|.ref 277,en P "Machine" 610<|.ref 331,en P "check_watches" 616<|.ref 340,en P "are_unlike" 623<|.ref 347,en P "check_rooms" 629<|.ref 352,en P "check_doors" 639<|.ref 359,en P "are_noughts" 645<|.ref 364,en P "placed" 651<|.ref 369,en P "nought" 659<|.ref 374,en P "everywhere" 665<|.ref 379,en P "free_bound" 673<|.ref 386,en P "lies_in" 686<|.ref 393,en P "narrowest" 692<|.ref 398,en P "is_broken" 698<|.ref 403,en P "row_over" 711<|.ref 410,en P "within" 723<|.ref 417,en P "is_wider" 731<|.ref 424,en P "holds" 739<|.ref 429,en P "met" 754<|.ref 436,en P "narrowed" 760<|.ref 441,en P "copied" 766<|.ref 446,en P "waited" 775<|.ref 453,en P "put_back" 781<|.ref 458,en P "freed" 791<|.ref 465,en P "folded" 797<|.ref 470,en P "folded_bound" 809<|.ref 477,en P "placed_goal" 817<|.ref 482,en P "placed_mark" 826<|.ref 489,en P "greatest" 832<|.ref 494,en P "all_looks" 838<|.ref 499,en P "placed_stays" 849<|.ref 506,en P "nought_places" 855<|.ref 511,en P "doors_out" 867<|.ref 518,en P "Sheet" 948<|.ref 569,en P "narrow_zones_of" 954<|.ref 578,en P "lets_by" 960<|.ref 583,en P "Walk" 1047<|.ref 633,en P "listed" 1053<|.ref 642,en P "is_covered" 1062<|.ref 649,en P "searched" 1075<|.ref 657,en P "_law_cell_at" 1085<|.ref 664,en P "_law_stream" 1097<|.ref 671,en P "_law_looks" 1111<|.ref 678,en P "_law_parts" 1117<|.ref 683,en P "_law_meets" 1131<|.ref 690,en P "_law_lowest" 1141<|.ref 697,en P "_law_later" 1152<|.ref 704,en P "_law_stay" 1158<|.ref 709,en P "_law_wait_for" 1176<|.ref 716,en P "_law_steps" 1182<|.ref 721,en P "_law_nodes" 1188<|.ref 726,en P "_law_wide" 1194<|.ref 731,en P "_law_papers" 1200<|.ref 736,en P "law" 1206<|.ref 741] 97,tO [(.type "ValueError")],tO [],dO [en P md 196<|.str "zonewalk.errors" 187,en P fl 200<|.int 2 199,en P sa 201<|.ref 22,en P "__weakref__" 203<|.ref 25,en P dc 204 .none] 3,yO "WalkError" [(.type "ValueError")] ([(.ref 24)]++eb) 23 [(.ref 37),(.ref 49),(.ref 61),(.ref 73),(.ref 85)] 15 189 197 "ValueError.__new__",{(.type "getset_descriptor"),(),(.fields<|Array.mk [(.str "__weakref__" 202),(.ref 24),(.builtin "ExceptionGroup.__weakref__"),.none]),Array.mk []},tO [(.ref 24)],tO [],dO [en P md 214<|.str "zonewalk.errors" 187,en P fl 218<|.int 4 217,en P sa 219<|.ref 35,en P dc 220 .none] 2,yO "NoNumber" [(.ref 24)] ([(.ref 37),(.ref 24)]++eb) 36 [] 28 207 215 "ValueError.__new__",tO [(.ref 24)],tO [],dO [en P md 230<|.str "zonewalk.errors" 187,en P fl 234<|.int 6 233,en P sa 235<|.ref 47,en P dc 236 .none] 2,yO "BadMachine" [(.ref 24)] ([(.ref 49),(.ref 24)]++eb) 48 [] 40 223 231 "ValueError.__new__",tO [(.ref 24)],tO [],dO [en P md 246<|.str "zonewalk.errors" 187,en P fl 250<|.int 8 249,en P sa 251<|.ref 59,en P dc 252 .none] 2,yO "TooMany" [(.ref 24)] ([(.ref 61),(.ref 24)]++eb) 60 [] 52 239 247 "ValueError.__new__",tO [(.ref 24)],tO [],dO [en P md 262<|.str "zonewalk.errors" 187,en P fl 266<|.int 10 265,en P sa 267<|.ref 71,en P dc 268 .none] 2,yO "NoMark" [(.ref 24)] ([(.ref 73),(.ref 24)]++eb) 72 [] 64 255 263 "ValueError.__new__",tO [(.ref 24)],tO [],dO [en P md 278<|.str "zonewalk.errors" 187,en P fl 282<|.int 12 281,en P sa 283<|.ref 83,en P dc 284 .none] 2,yO "NoRoom" [(.ref 24)] ([(.ref 85),(.ref 24)]++eb) 84 [] 76 271 279 "ValueError.__new__",cN "is_whole" 289 15 1 88 293,aN P,cN "greatest_divisor" 296 17 2 95 304,fB P,e9 P,cN "fraction" 308 25 2 103 314,e8 P,cN "minus" 317 34 2 110 322,e7 P,cN "under" 325 36 2 117 330,eV P,cN "at_most" 335 39 1 124 339,eU P,cN "below" 342 41 1 131 346,eT P,cN "number_of" 349 43 1 138 353,eO P,cN "is_open" 356 45 1 145 360,eM P,cN "added" 363 47 2 152 369,eK P,cN "narrower" 372 54 2 159 377,eJ P,cN "lets" 380 60 2 166 386,eI P,eG P,eF P,cN "is_look" 400 70 3 175 406,eE P,cN "is_number" 409 74 1 182 413,eC P,cM "is_guard" "is_guard" 416 76 3 189,eA P,cN "stands_so" 422 78 3 194 431,d9 P,cN "look_bounds" 434 91 4 201 442,d7 P,cN "is_small_letter" 453 106 1 208 457,dZ P,cM "is_name" "is_name" 460 108 1 215,dY P,cN "is_watch_name" 466 110 1 220 470,dW P,cM "is_room_name" "is_room_name" 473 112 1 227,dU P,cN "is_sign" 479 116 1 232 483,dS P,cN "own_copy" 486 120 1 239 490,dR P,dQ P,cL "__init__" "Door.__init__" 506 124 6 254 515,dN P,cL "asks" "Door.asks" 518 131 1 261 522,dM P,cL "sets" "Door.sets" 525 134 1 268 529,dJ P,tO [(.str "end" 532),(.str "guard" 533),(.str "noughts" 534),(.str "sign" 535),(.str "start" 536)],dO [en P md 500<|.str "zonewalk.machines" 445,en P fl 504<|.int 122 503,en P "__init__" 517<|.ref 260,en P "asks" 524<|.ref 267,en P "sets" 531<|.ref 274,en P sa 537<|.ref 275,en P "__dict__" 539<|.ref 278,en P "__weakref__" 541<|.ref 279,en P dc 542 .none] 4,{(.type "type"),(),(.cls {"Door",[(.type "object")],[(.ref 277),(.type "object")],276,"Door",true,[],[],false,(),false}),Array.mk [(),(),(!(.str "Door" 493)),(!(.str "Door" 501)),(!(.builtin "object.__new__")),(!(.bool true))]},{(.type "getset_descriptor"),(),(.fields<|Array.mk [(.str "__dict__" 538),(.ref 277),(.builtin "function.__dict__"),(.builtin "function.__dict__#set")]),Array.mk []},{(.type "getset_descriptor"),(),(.fields<|Array.mk [(.str "__weakref__" 540),(.ref 277),(.builtin "ExceptionGroup.__weakref__"),.none]),Array.mk []},cM "__init__" "Machine.__init__" 557 138 4 289,dH P,cL "watches" "Machine.watches" 563 150 1 294 567,dF P,cL "rooms" "Machine.rooms" 570 153 1 301 574,dE P,cL "doors" "Machine.doors" 577 156 1 308 581,dD P,cL "stay" "Machine.stay" 584 159 2 315 589,dA P,cL "watch_number" "Machine.watch_number" 592 162 2 322 597,c9 P,tO [(.str "door_list" 600),(.str "stays" 601),(.str "watch_names" 602)],dO [en P md 552<|.str "zonewalk.machines" 445,en P fl 556<|.int 136 555,en P "__init__" 562<|.ref 293,en P "watches" 569<|.ref 300,en P "rooms" 576<|.ref 307,en P "doors" 583<|.ref 314,en P "stay" 591<|.ref 321,en P "watch_number" 599<|.ref 328,en P sa 603<|.ref 329,en P "__dict__" 605<|.ref 332,en P "__weakref__" 607<|.ref 333,en P dc 608 .none] 4,{(.type "type"),(),(.cls {"Machine",[(.type "object")],[(.ref 331),(.type "object")],330,"Machine",true,[],[],false,(),false}),Array.mk [(),(),(!(.str "Machine" 545)),(!(.str "Machine" 553)),(!(.builtin "object.__new__")),(!(.bool true))]},{(.type "getset_descriptor"),(),(.fields<|Array.mk [(.str "__dict__" 604),(.ref 331),(.builtin "function.__dict__"),(.builtin "function.__dict__#set")]),Array.mk []},{(.type "getset_descriptor"),(),(.fields<|Array.mk [(.str "__weakref__" 606),(.ref 331),(.builtin "ExceptionGroup.__weakref__"),.none]),Array.mk []},cM "check_watches" "check_watches" 611 164 1 336,c8 P,cN "are_unlike" 617 169 1 341 621,c7 P,cM "check_rooms" "check_rooms" 624 171 2 348,cZ P,cN "check_doors" 630 181 3 353 637,cY P,cM "are_noughts" "are_noughts" 640 193 2 360,cX P,cM "placed" "placed" 646 197 2 365,cW P,cM "nought" "nought" 654 203 1 370,cV P,cM "everywhere" "everywhere" 660 205 1 375,cU P,cN "free_bound" 666 207 2 380 671,cT P,cN "lies_in" 674 211 2 387 684,cS P,cM "narrowest" "narrowest" 687 218 1 394,cR P,cM "is_broken" "is_broken" 693 226 1 399,cQ P,cN "row_over" 699 228 3 404 709,cO P,cN "within" 712 237 2 411 721,cK P,cN "is_wider" 724 243 2 418 729,cJ P,cM "holds" "holds" 734 248 2 425,cI P,cN "met" 740 250 2 430 752,cH P,cM "narrowed" "narrowed" 755 258 4 437,cG P,cM "copied" "copied" 761 265 1 442,cF P,cN "waited" 767 267 1 447 773,cE P,cM "put_back" "put_back" 776 272 2 454,cD P,cN "freed" 782 275 2 459 789,cC P,cM "folded" "folded" 792 281 2 466,cB P,cN "folded_bound" 798 285 4 471 807,cA P,cM "placed_goal" "placed_goal" 812 296 2 478,b9 P,cN "placed_mark" 818 301 3 483 824,b7 P,cM "greatest" "greatest" 827 307 2 490,bZ P,cM "all_looks" "all_looks" 833 313 2 495,bY P,cN "placed_stays" 841 319 1 500 847,bX P,cM "nought_places" "nought_places" 850 324 2 507,bW P,cN "doors_out" 856 326 1 512 865,bV P,cM "__init__" "Sheet.__init__" 882 338 3 526,bU P,cM "holds_start" "Sheet.holds_start" 888 347 1 531,bS P,cL "holds_within" "Sheet.holds_within" 894 352 3 536 901,bR P,cL "holds_wait" "Sheet.holds_wait" 904 360 3 543 910,bQ P,cL "holds_way" "Sheet.holds_way" 913 363 3 550 921,bP P,cM "holds_room" "Sheet.holds_room" 924 370 2 557,bO P,cM "keeps_off" "Sheet.keeps_off" 930 378 3 562,bN P,tO [(.str "first_room" 936),(.str "first_values" 937),(.str "stays" 938),(.str "ways" 939),(.str "zones" 940)],dO [en P md 877<|.str "zonewalk.papers" 868,en P fl 881<|.int 336 880,en P "__init__" 887<|.ref 530,en P "holds_start" 893<|.ref 535,en P "holds_within" 903<|.ref 542,en P "holds_wait" 912<|.ref 549,en P "holds_way" 923<|.ref 556,en P "holds_room" 929<|.ref 561,en P "keeps_off" 935<|.ref 566,en P sa 941<|.ref 567,en P "__dict__" 943<|.ref 570,en P "__weakref__" 945<|.ref 571,en P dc 946 .none] 4,{(.type "type"),(),(.cls {"Sheet",[(.type "object")],[(.ref 569),(.type "object")],568,"Sheet",true,[],[],false,(),false}),Array.mk [(),(),(!(.str "Sheet" 870)),(!(.str "Sheet" 878)),(!(.builtin "object.__new__")),(!(.bool true))]},{(.type "getset_descriptor"),(),(.fields<|Array.mk [(.str "__dict__" 942),(.ref 569),(.builtin "function.__dict__"),(.builtin "function.__dict__#set")]),Array.mk []},{(.type "getset_descriptor"),(),(.fields<|Array.mk [(.str "__weakref__" 944),(.ref 569),(.builtin "ExceptionGroup.__weakref__"),.none]),Array.mk []},cM "narrow_zones_of" "narrow_zones_of" 949 380 2 574,bM P,cM "lets_by" "lets_by" 955 383 3 579,bL P,cL "__init__" "Walk.__init__" 975 395 4 591 982,bK P,cL "arrived" "Walk.arrived" 985 406 3 598 994,bJ P,cL "first_nodes" "Walk.first_nodes" 997 416 1 605 1002,bI P,cL "next_nodes" "Walk.next_nodes" 1005 420 3 612 1017,bH P,cM "hit_zones" "Walk.hit_zones" 1020 430 2 619,bG P,cL "hits" "Walk.hits" 1026 434 2 624 1031,bE P,tO [(.str "first_room" 1034),(.str "free_place" 1035),(.str "marks" 1036),(.str "mosts" 1037),(.str "stays" 1038),(.str "ways" 1039)],dO [en P md 970<|.str "zonewalk.search" 961,en P fl 974<|.int 393 973,en P "__init__" 984<|.ref 597,en P "arrived" 996<|.ref 604,en P "first_nodes" 1004<|.ref 611,en P "next_nodes" 1019<|.ref 618,en P "hit_zones" 1025<|.ref 623,en P "hits" 1033<|.ref 630,en P sa 1040<|.ref 631,en P "__dict__" 1042<|.ref 634,en P "__weakref__" 1044<|.ref 635,en P dc 1045 .none] 4,{(.type "type"),(),(.cls {"Walk",[(.type "object")],[(.ref 633),(.type "object")],632,"Walk",true,[],[],false,(),false}),Array.mk [(),(),(!(.str "Walk" 963)),(!(.str "Walk" 971)),(!(.builtin "object.__new__")),(!(.bool true))]},{(.type "getset_descriptor"),(),(.fields<|Array.mk [(.str "__dict__" 1041),(.ref 633),(.builtin "function.__dict__"),(.builtin "function.__dict__#set")]),Array.mk []},{(.type "getset_descriptor"),(),(.fields<|Array.mk [(.str "__weakref__" 1043),(.ref 633),(.builtin "ExceptionGroup.__weakref__"),.none]),Array.mk []},cM "listed" "listed" 1048 436 3 638,bD P,cN "is_covered" 1054 452 2 643 1060,bB P,T4 P,cN "searched" 1064 457 4 651 1073,bA P,cN "_law_cell_at" 1078 462 2 658 1083,a9 P,cN "_law_stream" 1086 466 2 665 1095,a7 P,cN "_law_looks" 1098 479 5 672 1109,aZ P,cM "_law_parts" "_law_parts" 1112 486 3 679,aY P,cN "_law_meets" 1118 505 2 684 1129,aX P,cN "_law_lowest" 1132 516 2 691 1139,aW P,cN "_law_later" 1142 522 2 698 1150,aV P,cM "_law_stay" "_law_stay" 1153 527 2 705,aU P,cN "_law_wait_for" 1159 529 4 710 1174,aT P,cM "_law_steps" "_law_steps" 1177 538 6 717,aS P,cM "_law_nodes" "_law_nodes" 1183 568 2 722,aR P,cM "_law_wide" "_law_wide" 1189 575 2 727,aQ P,cM "_law_papers" "_law_papers" 1195 581 4 732,aP P,cM "law" "law" 1201 594 1 737,aO P]
def vq:Program:={ pw with main:={ (pw).main with body:=[AK 99] } }
def loo:kq:=["WalkError","NoNumber","BadMachine","TooMany","NoMark","NoRoom","is_whole","greatest_divisor","fraction","minus","under","at_most","below","number_of","is_open","added","narrower","lets","WORDS","STAY_WORDS","is_look","is_number","is_guard","stands_so","look_bounds","MOST_WATCHES","MOST_ROOMS","MOST_DOORS","is_small_letter","is_name","is_watch_name","is_room_name","is_sign","own_copy","Door","Machine","check_watches","are_unlike","check_rooms","check_doors","are_noughts","placed","nought","everywhere","free_bound","lies_in","narrowest","is_broken","row_over","within","is_wider","holds","met","narrowed","copied","waited","put_back","freed","folded","folded_bound","placed_goal","placed_mark","greatest","all_looks","placed_stays","nought_places","doors_out","Sheet","narrow_zones_of","lets_by","Walk","listed","is_covered","searched","_law_cell_at","_law_stream","_law_looks","_law_parts","_law_meets","_law_lowest","_law_later","_law_stay","_law_wait_for","_law_steps","_law_nodes","_law_wide","_law_papers"].map Str.ofString
abbrev hk:Hook:=kHook Jo lS<|λϊ=>by ext
def zoa(w:World)(os:OsState):(go pw 5110 w os).map (λs=>Mn pw vq loo (xt Sz.row.toRowW vq) hk.obs (boot_heap w.params) s.abs)=!(true,openGood vq loo,hk.val w):=by ext
theorem left:LeftO pw vq loo (xt Sz.row.toRowW vq) hk.obs hk.val 10800 true:=zmn 10800 5110 (by ext) (by decide) (λs=>by ext) (by decide) zoa
abbrev fr(w:World):Frag:=Jo w.params
def ca:Str->Value:=λc=>if c="BadMachine" then .ref 49 else if c="TooMany" then .ref 61 else if c="NoMark" then .ref 73 else if c="NoNumber" then .ref 37 else if c="NoRoom" then .ref 85 else if c="WalkError" then .ref 24 else .none
section
variable {w:World}{mg:Str->Option Value}{base:Heap} [q:Qx pw w (fr w) mg base ca]
theorem Hr:Cls (fr w) Bg:={by ext,by ext,by ext,by ext}
def Kr:∀f∈Bm,Bn (fr w) Bg f:=(A2 (by unfold Bn;ext)<|A2 (by unfold Bn;ext)<|A2 (by unfold Bn;ext)<|A2 (by unfold Bn;ext)<|A2 (by unfold Bn;ext) BD)
theorem EU:Cls (fr w) A7:={by ext,by ext,by ext,by ext}
def GI:∀f∈Aa,Bn (fr w) A7 f:=(A2 (by unfold Bn;ext)<|A2 (by unfold Bn;ext)<|A2 (by unfold Bn;ext) BD)
theorem De:Cls (fr w) Ad:={by ext,by ext,by ext,by ext}
def F7:∀f∈Af,Bn (fr w) Ad f:=(A2 (by unfold Bn;ext)<|A2 (by unfold Bn;ext)<|A2 (by unfold Bn;ext)<|A2 (by unfold Bn;ext)<|A2 (by unfold Bn;ext) BD)
theorem Dt:Cls (fr w) Ac:={by ext,by ext,by ext,by ext}
def F6:∀f∈Ae,Bn (fr w) Ac f:=(A2 (by unfold Bn;ext)<|A2 (by unfold Bn;ext)<|A2 (by unfold Bn;ext)<|A2 (by unfold Bn;ext)<|A2 (by unfold Bn;ext)<|A2 (by unfold Bn;ext) BD)
def yg:specialIn (fr w) (.builtin "object.__class__") "__get__"=!(!(.builtin "getset_descriptor.__get__"))/\takesIn (fr w) (.builtin "object.__class__")=!true:={by ext,by ext}
include q
def zcx:ECls (fr w) mg "BadMachine":=L4 yg 49 (q.c _ _<|by ext)<|by ext
def Xk:∃T:ECls (fr w) mg "BadMachine",ca "BadMachine"=.ref T.C/\EO (fr w) T.C=!():={zcx,by rfl,by ext}
def o5:ECls (fr w) mg "TooMany":=L4 yg 61 (q.c _ _<|by ext)<|by ext
def nW:∃T:ECls (fr w) mg "TooMany",ca "TooMany"=.ref T.C/\EO (fr w) T.C=!():={o5,by rfl,by ext}
def zi9:ECls (fr w) mg "NoMark":=L4 yg 73 (q.c _ _<|by ext)<|by ext
def Xj:∃T:ECls (fr w) mg "NoMark",ca "NoMark"=.ref T.C/\EO (fr w) T.C=!():={zi9,by rfl,by ext}
def zez:ECls (fr w) mg "NoNumber":=L4 yg 37 (q.c _ _<|by ext)<|by ext
def zg0:∃T:ECls (fr w) mg "NoNumber",ca "NoNumber"=.ref T.C/\EO (fr w) T.C=!():={zez,by rfl,by ext}
def zi8:ECls (fr w) mg "NoRoom":=L4 yg 85 (q.c _ _<|by ext)<|by ext
def zkj:∃T:ECls (fr w) mg "NoRoom",ca "NoRoom"=.ref T.C/\EO (fr w) T.C=!():={zi8,by rfl,by ext}
def D1:=Ap a9 664 zey<|Aq A4 A3
def D2:=Ap dZ 214 zav<|Aq A4 A3
def D3:=Ap dY 219 zft<|Aq (AQ D2 A4) A3
def D4:=Ap dW 226 zbd<|Aq (AQ D3 A4) A3
def D5:=Ap dU 231 zbw<|Aq (AQ D2 A4) A3
def D6:=Ap aN 94 zeu<|Aq A4 A3
def D7:=Ap eC 188 zdr<|Aq (AQ D6 A4) A3
def D8:=Ap eE 181 zfu<|Aq (AQ D7 A4) A3
def D9:=Ap eA 193 zev<|Aq (AQ D8 A4) A3
def Xr:=Ap c7 347 zcu<|Aq A4 A3
def zbu:∃u v,mg "MOST_WATCHES"=!u/\Ab v u/\∀F:Hp,Rp (fr w) F F Nx v R0:={(.int (7) 447),(.int 7),q.c _ _ (by ext),{_,rfl},λF=>.int _}
def D11:=Ap c8 340 zbe<|Aq (AQ D4<|AQ Xr A4) (A3 (co:=(ED zbu DV))) (hex:=(A2 Xk BD))
def zco:∃u v,mg "STAY_WORDS"=!u/\Ab v u/\∀F:Hp,Rp (fr w) F F Nw v R0:={_,.ref 174,q.c _ (.ref 174) (by ext),rfl,λF=>As.of_node (k:=.rt) (xs:=[.str "<",.str "<="]) (.inr {eF w.params,_,_,by ext,rfl,rfl,by decide,(.cons {_,rfl}<|.cons {_,rfl} .nil)})<|TB ["<","<="]}
def D12:=Ap cZ 352 zcd<|Aq (AQ D5<|AQ D9<|AQ Xr A4) (A3 (co:=(ED zco DV))) (hex:=(A2 Xk BD))
def D13:=Ap cX 364 zcf<|Aq (AQ D4<|AQ Xr A4) A3
def D14:=Ap dS 238 zfr<|Aq (AQ D3 A4) A3
def D15:=Ap dR 245 zeq<|Aq A4 A3
def mP:∃u v,mg "WORDS"=!u/\Ab v u/\∀F:Hp,Rp (fr w) F F Jh v R0:={_,.ref 173,q.c _ (.ref 173) (by ext),rfl,λF=>As.of_node (k:=.rt) (xs:=[.str "<",.str "<=",.str ">",.str ">=",.str "="]) (.inr {eG w.params,_,_,by ext,rfl,rfl,by decide,(.cons {_,rfl}<|.cons {_,rfl}<|.cons {_,rfl}<|.cons {_,rfl}<|.cons {_,rfl} .nil)})<|TB ["<","<=",">",">=","="]}
def D16:=Ap cY 359 zce<|Aq (AQ D9<|AQ D13<|AQ D14 A4) (A3 (co:=(ED mP DV)) (cl:=(A2 {(Hr),Kr} BD)) (ci:=(ED {277,q.c _ _ (by ext),(ED {{Hr,by ext,by ext,by ext,by ext},by ext}<|ED {{EU,by ext,by ext,by ext,by ext},by ext}<|ED {{De,by ext,by ext,by ext,by ext},by ext}<|ED {{Dt,by ext,by ext,by ext,by ext},by ext} DV),by ext} DV))) (hex:=(A2 Xk BD))
def oY:=O7 "Door" Bg Bm dN 260 zdz<|Ox (AQ D15 A4)<|A3 (sf:=(λC fs h=>by cases h;show{(Hr),Kr}))
theorem E17:Ct (fr w) (oY (w:=w) (mg:=mg) (base:=base)).fd WB.ps []:=λs a X hl=>YM (P:=λa=>BindsTo s _ {a,[]}<|List.zip _<|a++_) (λϊ z z z z z=>binds_K X rfl (show(fr w).lookup 253=↑(dQ w.params) by ext) rfl rfl rfl) a<|by simpa using hl
def zcp:∃u v,mg "MOST_ROOMS"=!u/\Ab v u/\∀F:Hp,Rp (fr w) F F Ny v R0:={(.int (64) 449),(.int 64),q.c _ _ (by ext),{_,rfl},λF=>.int _}
def zcq:∃u v,mg "MOST_DOORS"=!u/\Ab v u/\∀F:Hp,Rp (fr w) F F Nz v R0:={(.int (200) 451),(.int 200),q.c _ _ (by ext),{_,rfl},λF=>.int _}
def oX:=O7 "Machine" A7 Aa dH 293 zc0<|Ox (AQ D11<|AQ D12<|AQ D16 A4) (A3 (co:=(ED zcp<|ED zcq DV)) (sf:=(λC fs h=>by cases h;show{(EU),GI}))) (hex:=(A2 nW BD))
theorem E18:Ct (fr w) (oX (w:=w) (mg:=mg) (base:=base)).fd Vv.ps []:=.all<|M1 λϊ z z z=>rfl
def Xq:=Dq dF 300 zaz EU<|Du A4 (A3 (cl:=(A2 {(EU),GI} BD))) (b:=.all<|HJ λϊ=>rfl)
def JM:=Dq dE 307 zbf EU<|Du A4 (A3 (cl:=(A2 {(EU),GI}<|A2 {(De),F7}<|A2 {(Dt),F6} BD))) (b:=.all<|HJ λϊ=>rfl)
def oW:=Dq dD 314 zbg EU<|Du A4 (A3 (cl:=(A2 {(EU),GI} BD))) (b:=.all<|HJ λϊ=>rfl)
def oV:=Dq dA 321 zbz EU<|Du A4 (A3 (cl:=(A2 {(EU),GI}<|A2 {(De),F7}<|A2 {(Dt),F6} BD))) (b:=.all<|II λϊ z=>rfl)
def oU:=Dq dM 267 ze0 Hr<|Du A4 (A3 (cl:=(A2 {(Hr),Kr} BD))) (b:=.all<|HJ λϊ=>rfl)
def D24:=Dq dJ 274 zdy Hr<|Du A4 (A3 (cl:=(A2 {(Hr),Kr} BD))) (b:=.all<|HJ λϊ=>rfl)
def Xp:=Dq c9 328 za2 EU<|Du A4 (A3 (cl:=(A2 {(EU),GI} BD))) (b:=.all<|II λϊ z=>rfl)
def Py:=Ap cW 369 zhk<|Aq (AQ D9 A4) (A3 (co:=(ED mP DV)) (mt:=(A2 {by decide,{(Xq)}}<|A2 {by decide,{(Xp)}} BD))) (hex:=(A2 Xj BD))
def D27:=Ap b7 489 zca<|Aq (AQ Py A4) A3 (hex:=(A2 Xj BD))
def Xo:=Ap b9 482 zcb<|Aq (AQ D27 A4) (A3 (mt:=(A2 {by decide,{(JM)}} BD))) (hex:=(A2 Xj BD))
def KY:=Ap eU 130 zfv<|Aq A4 A3
def Xn:=Ap eT 137 zk7<|Aq A4 A3
def Xm:=Ap eO 144 zdp<|Aq A4 A3
def oS:=Ap eM 151 zfs<|Aq A4 A3
def D33:=Ap eK 158 zk8<|Aq (AQ Xm<|AQ oS<|AQ Xn<|AQ KY A4) A3
def D34:=Ap eJ 165 zer<|Aq A4 A3
def oR:=Ap cT 386 zcs<|Aq (AQ KY A4) A3
def oQ:=Ap cO 410 zeo<|Aq A4 A3
def D37:=Ap cQ 403 zds<|Aq (AQ KY A4) A3
def oP:=Ap cR 398 zdq<|Aq (AQ D34<|AQ oR<|AQ D37<|AQ oQ A4) A3
def oO:=Ap cJ 424 zet<|Aq A4 A3
def oM:=Ap cK 417 zhi<|Aq (AQ oO A4) A3
def D41:=Ap d7 207 zcc<|Aq (AQ Xn<|AQ KY A4) A3
def oK:=Ap cD 458 zep<|Aq A4 A3
def Xl:=Ap cF 446 zho<|Aq A4 A3
def oJ:=Ap cE 453 zhj<|Aq (AQ Xl A4) A3
def D45:=Ap cG 441 zes<|Aq (AQ oO<|AQ D33<|AQ KY<|AQ oQ A4) A3
def KW:=Ap cH 436 zrk<|Aq (AQ Xl<|AQ D41<|AQ D45 A4) A3
def D47:=Ap bW 511 zbc<|Aq A4<|A3 (mt:=(A2 {by decide,{(D24)}}<|A2 {by decide,{(Xp)}} BD))
def oI:=Ap bX 506 zbv<|Aq (AQ Py A4)<|A3 (mt:=(A2 {by decide,{(JM)}}<|A2 {by decide,{(oV)}} BD))
def oH:=Ap bV 518 zdt<|Aq (AQ Py<|AQ D47 A4)<|A3 (cl:=(A2 {(Hr),Kr} BD)) (mt:=(A2 {by decide,{(JM)}}<|A2 {by decide,{(oW)}}<|A2 {by decide,{(oU)}} BD))
def oG:=Ap eV 123 zk3<|Aq A4 A3
def D51:=Ap fB 101 zag<|Aq A4 A3
def D52:=Ap e8 109 zex<|Aq (AQ D6<|AQ D51 A4) A3 (hex:=(A2 zg0 BD)) (b:=λs a X hl=>II (P:=λa=>BindsTo s _ {a,[]}<|List.zip _<|a++_) (λϊ z=>binds_K X rfl (show(fr w).lookup 102=↑(e9 w.params) by ext) rfl rfl rfl) a<|by simpa using hl)
def D53:=Ap e7 116 zk4<|Aq (AQ D52 A4) A3
def D54:=Ap eI 172 zn5<|Aq (AQ Xm<|AQ oS<|AQ oG A4) A3
def D55:=Ap cS 393 zfp<|Aq (AQ D54<|AQ D53 A4) A3
def D56:=Ap d9 200 zdo<|Aq (AQ oG A4) A3
def D57:=Ap cI 429 zk5<|Aq (AQ D56 A4) A3
def D58:=Ap bM 578 zau<|Aq (AQ oP A4) A3
def oB:=O7 "Sheet" Ad Af bU 530 zcv<|Ox (AQ oI<|AQ oH<|AQ D58 A4)<|A3 (mt:=(A2 {by decide,{(JM)}}<|A2 {by decide,{(Xq)}} BD)) (sf:=(λC fs h=>by cases h;show{(De),F7}))
theorem E59:Ct (fr w) (oB (w:=w) (mg:=mg) (base:=base)).fd Vs.ps []:=.all<|G5 λϊ z z=>rfl
def D60:=Dq bS 535 za8 De<|Du (AQ D57<|AQ D55 A4) (A3 (cl:=(A2 {(EU),GI}<|A2 {(De),F7}<|A2 {(Dt),F6} BD))) (b:=.all<|HJ λϊ=>rfl)
def oA:=Dq bR 542 za5 De<|Du (AQ oM A4) (A3 (cl:=(A2 {(De),F7} BD))) (b:=.all<|G5 λϊ z z=>rfl)
def D62:=Dq bQ 549 zai De<|Du (AQ KW<|AQ oJ A4) (A3 (cl:=(A2 {(EU),GI}<|A2 {(De),F7}<|A2 {(Dt),F6} BD)) (mt:=(A2 {by decide,{(oA)}} BD))) (b:=.all<|G5 λϊ z z=>rfl)
def D63:=Dq bP 556 zay De<|Du (AQ KW<|AQ oK A4) (A3 (cl:=(A2 {(EU),GI}<|A2 {(De),F7}<|A2 {(Dt),F6} BD)) (mt:=(A2 {by decide,{(oA)}} BD))) (b:=.all<|G5 λϊ z z=>rfl)
def D64:=Dq bO 561 zaj De<|Du A4 (A3 (cl:=(A2 {(De),F7}<|A2 {(Dt),F6} BD)) (mt:=(A2 {by decide,{(D62)}}<|A2 {by decide,{(D63)}} BD))) (b:=.all<|II λϊ z=>rfl)
def D65:=Dq bN 566 zax De<|Du (AQ KW A4) (A3 (cl:=(A2 {(De),F7} BD))) (b:=.all<|G5 λϊ z z=>rfl)
def D66:=Ap bL 583 zfq<|Aq (AQ Xo A4) (A3 (mt:=(A2 {by decide,{(JM)}}<|A2 {by decide,{(D60)}}<|A2 {by decide,{(D65)}}<|A2 {by decide,{(D64)}} BD)) (nw:=(NU {by decide,Ad,oB,(ED {[],[],E59,.nil,λϊ=>.nil} DV)} NS))) (hex:=(A2 zkj BD))
def D67:=Ap cV 374 zhl<|Aq (AQ KY A4) A3
def D68:=Ap cA 477 zbx<|Aq (AQ Xm<|AQ Xn A4) A3
def D69:=Ap cB 470 zhn<|Aq (AQ D68<|AQ oP A4) A3
def D70:=Ap cC 465 zk6<|Aq (AQ Xl A4) A3
def D71:=Ap bY 499 zdu<|Aq (AQ Xo<|AQ Py A4)<|A3 (mt:=(A2 {by decide,{(JM)}}<|A2 {by decide,{(oV)}}<|A2 {by decide,{(oW)}}<|A2 {by decide,{(oU)}} BD))
def D72:=Ap bZ 494 zew<|Aq (AQ D71 A4)<|A3 (mt:=(A2 {by decide,{(Xq)}} BD))
def D73:=Ap bB 649 zcr<|Aq (AQ oM A4) A3
def n9:=Dq bJ 604 zby Dt<|Du (AQ KW<|AQ D69<|AQ oJ<|AQ D70 A4) (A3 (cl:=(A2 {(EU),GI}<|A2 {(De),F7}<|A2 {(Dt),F6} BD))) (b:=.all<|G5 λϊ z z=>rfl)
def D75:=Dq bI 611 zah Dt<|Du (AQ D67 A4) (A3 (cl:=(A2 {(De),F7}<|A2 {(Dt),F6} BD)) (mt:=(A2 {by decide,{(n9)}} BD))) (b:=.all<|HJ λϊ=>rfl)
def D76:=Dq bH 618 zaw Dt<|Du (AQ KW<|AQ oK A4) (A3 (cl:=(A2 {(De),F7}<|A2 {(Dt),F6} BD)) (mt:=(A2 {by decide,{(n9)}} BD))) (b:=.all<|G5 λϊ z z=>rfl)
def D77:=Dq bG 623 zb2 Dt<|Du (AQ KW A4) (A3 (cl:=(A2 {(Dt),F6} BD))) (b:=.all<|II λϊ z=>rfl)
def n8:=Dq bE 630 zdw Dt<|Du A4 (A3 (mt:=(A2 {by decide,{(D77)}} BD))) (b:=.all<|II λϊ z=>rfl)
def D79:=Ap bD 642 zhm<|Aq (AQ D73 A4) (A3 (mt:=(A2 {by decide,{(D75)}}<|A2 {by decide,{(n8)}}<|A2 {by decide,{(D76)}} BD))) (hex:=(A2 nW BD))
def n6:=O7 "Walk" Ac Ae bK 597 zdv<|Ox (AQ Xo<|AQ D72<|AQ oI<|AQ oH A4)<|A3 (cl:=(A2 {(Dt),F6} BD)) (mt:=(A2 {by decide,{(JM)}}<|A2 {by decide,{(Xp)}} BD)) (sf:=(λC fs h=>by cases h;show{(Dt),F6}))
theorem E80:Ct (fr w) (n6 (w:=w) (mg:=mg) (base:=base)).fd Vp.ps []:=.all<|M1 λϊ z z z=>rfl
def D81:=Ap bA 657 zen<|Aq (AQ D79 A4) (A3 (mt:=(A2 {by decide,{(n8)}} BD)) (nw:=(NU {by decide,Ac,n6,(ED {[],[],E80,.nil,λϊ=>.nil} DV)} NS))) (b:=λs a X hl=>M1 (P:=λa=>BindsTo s _ {a,[]}<|List.zip _<|a++_) (λϊ z z z=>binds_K X rfl (show(fr w).lookup 650=↑(T4 w.params) by ext) rfl rfl rfl) a<|by simpa using hl)
def n5:=Ap a7 671 zfw<|Aq A4 A3
def D83:=Ap aZ 678 zht<|Aq A4 A3
def D84:=Ap aY 683 zhq<|Aq (AQ D1<|AQ n5<|AQ D83 A4) A3
def nZ:=Ap aW 697 zfy<|Aq A4 A3
def nY:=Ap aX 690 zhs<|Aq A4 A3
def D87:=Ap aV 704 zhu<|Aq (AQ nZ A4) A3
def D88:=Ap aU 709 zka<|Aq A4 A3
def D89:=Ap aT 716 zdx<|Aq (AQ nZ A4) A3
def D90:=Ap aS 721 zhp<|Aq (AQ nY<|AQ n5<|AQ D89<|AQ D87<|AQ D88 A4) A3
def D91:=Ap aR 726 zhr<|Aq A4<|A3 (xs:=(ED (xs_of o5<|by ext) DV)) (dn:=(ED {by decide,D81,[.non],{[.none],λs a X hl=>G5 (P:=λa=>BindsTo s _ {a,[]}<|List.zip _<|a++_) (λϊ z z=>binds_K X rfl (show(fr w).lookup 650=↑(T4 w.params) by ext) rfl rfl rfl) a (by simpa using hl),(.cons rfl .nil)},λF=>(.cons (H:=F) .non .nil)} DV))
def D92:=Ap aQ 731 zk9<|Aq A4 A3
def D93:=Ap cU 379 zct<|Aq (AQ oR A4) A3
def D94:=Ap aP 736 zfx<|Aq (AQ D91<|AQ D93<|AQ D92 A4) A3
def D95:=Ap aO 741 zrl<|Aq (AQ D1<|AQ D84<|AQ D90<|AQ nY<|AQ D94<|AQ D66 A4)<|A3 (nw:=(NU {by decide,Bg,oY,(ED {[],[],E17,.nil,λϊ=>.nil} DV)}<|NU {by decide,A7,oX,(ED {[],[],E18,.nil,λϊ=>.nil} DV)} NS))
end
def all_mk{w:World}{h:Heap}{mg:Str->Option Value}{b:Addr}(X:(Jo w.params).In h)(G:h.Ns mainGlobals mg)(a:mg "law"=!(.ref b))
  : ∃fd:FuncData,(∀(s:Shared) (v:Value),BindsTo s fd {[v],[]} [("_law_script",v)])/\∀base:Heap,(Jo w.params).In base->base.Ns mainGlobals mg->FnOk pw w (Jo w.params) mg base MH 15 b fd ["_law_script"] (Mi<|Jo w.params):=by
 let e:=a.symm.trans<|mg_of X G<|show nsIn (fr w) mainGlobals "law"=↑(!(.ref 741)) by ext
 cases e;show{gF "law" "law" Mq .none "law_zonewalk_k62_whole_papers_hold" 1076 740 .none,λs v=>.of_eq rfl,λbase z z=>?_};let q:Qx pw w (fr w) mg base ca:={λϊ z e=>mg_of X G e,λϊ e=>mg_none_of X G e};show zqk (D95 (mg:=mg)).ok λns h=>law_true ns h
theorem walk{l:PySem.W.OpenLaw}{q:Program}{loose:kq}{XP:(Str->Option Value)->Heap->Prop}{YP:World->Heap->Prop}{d:DefRec}{K:Params->ka}(hn:l.most=!63)(b:d.params.defaults=[])
  (g:∀(w:World) (h:Heap),YP w h->(K w.params).In h)
  (F : ∀ (w : World) (mg : Str -> Option Value) (fa : Addr) (h : Heap), (K w.params).In h -> h.Ns mainGlobals mg -> mg d.name = !(.ref fa) ->
   ∃fd:FuncData,(∀(s:Shared) (u:Value),BindsTo s fd {[u],[]} [("_law_script",u)])/\∀base:Heap,(K w.params).In base->base.Ns mainGlobals mg->FnOk l.prog w (K w.params) mg base MH 15 fa fd ["_law_script"] (Mi<|K w.params)) :
  PySem.W.WalkO q loose XP YP l.row.toRowW d [] (λf vs=>PySem.call f vs):=
 L2.walk_of (n:=63) (k:=15) (x:="_law_script") (CX:=λϊ=>MH) (sp:=λw=>Mi<|K w.params) hn (by decide) b {rfl,by decide,by decide} g F (λϊ y a ns hl c e=>{a,ns,rfl,HG.of c e,hl,λϊ=>rfl}) λϊ y y y y z=>z
end Zl
open PySem PySem.W PyProof.Rows
set_option maxRecDepth 100000 in
set_option maxHeartbeats 0 in
theorem PySem.Challenge.cw_zonewalk_k62_whole_papers_hold_holds : PySem.Challenge.rw_zonewalk_k62_whole_papers_hold.Holds := by
 show holds_law Zl.said λs=>?_
 show holds_open (q:=Zl.vq) (loose:=Zl.loo) (Xt:=Hd.xt PySem.Challenge.rw_zonewalk_k62_whole_papers_hold.row.toRowW Zl.vq) (XP:=XL Zl.vq []) (Yf:=Zl.hk.obs) (Ya:=Zl.hk.val) (YP:=Zl.hk.says) Zl.left Zl.hk.of Zl.hk.keeps (λs e=>xl_of s (ÿ.mp e).1) XL.keeps (by rfl) (by rfl) (by rfl) (λs e=>recFacts_of (ÿ.mp e).2) (by rfl) s (by decide +kernel) ⟨rfl,rfl,rfl,rfl,rfl,by decide +kernel⟩ ?hw ?hc
 case hw=>w_witness2
 case hc=>show Zl.walk (l:=PySem.Challenge.rw_zonewalk_k62_whole_papers_hold) rfl rfl (λw h Y=>kIn_of Y) λw mg fa h X G e=>Zl.all_mk X G e
end
