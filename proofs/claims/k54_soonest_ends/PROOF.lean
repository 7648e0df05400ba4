import PyProof.Rows.All
import Wide.All
import OpenK.AllK
import Wide.FinOn
import Lean
import PyProof.EqAt
import PyProof.EqKinds
import PyProof.TupleCall
import PySem.Challenge.RW_zonewalk_k54_soonest_ends
set_option compiler.extract_closed false
set_option bootstrap.genMatcherCode false
set_option linter.all false
set_option tactic.hygienic false
def Â:=@List.getElem?_eq_getElem
def Á:=@List.length_map
def Ê:=@List.mem_cons_of_mem
def È:=@Bool.and_eq_true
def Ñ:=@List.getElem?_eq_some_iff
def Í:=@List.mem_cons_self
def Ë:=@List.getElem?_map
def Ð:=@PySem.Heap.get?_push_of_some
def Ä:=@PySem.Heap.lt_size
def Ú:=@List.getD_eq_getElem?_getD
def Æ:=@Nat.le_refl
def Ì:=@List.mem_cons
def Ø:=@Option.map_eq_some_iff
def Ô:=@List.mem_singleton
def Ò:=@List.getElem_mem
def Ï:=@List.map_cons
def Ö:=@List.length_cons
def Û:=@Nat.lt_of_lt_of_le
def ß:=@List.mem_append_right
def Ó:=@List.mem_map
def â:=@PySem.Heap.get?_push_size
def à:=@List.length_append
def Õ:=@Nat.ne_of_lt
def é:=@List.getElem?_set_self
def Ý:=@Option.some.inj
def æ:=@List.getElem?_set_ne
def ç:=@List.mem_of_getElem?
def ã:=@List.all_eq_true
def í:=@Int.fmod_nonneg_of_pos
def ä:=@List.mem_append
def á:=@List.mem_range
def Î:=@Ne.symm
def î:=@List.contains_iff_mem
def Ü:=@Nat.le_trans
def å:=@List.lookup_cons
def Þ:=@Nat.lt_irrefl
def ø:=@PySem.Heap.get?_update_other
def è:=@List.map_append
def ï:=@Int.toNat_natCast
def ÿ:=@List.getElem?_append_left
def ù:=@List.mem_append_left
def ð:=@List.not_mem_nil
def Ġ:=@List.exists_cons_of_length_eq_add_one
def ú:=@Int.fmod_lt_of_pos
def û:=@List.size_toArray
def ċ:=@List.drop_eq_getElem_cons
def ġ:=@List.findIdx?_eq_some_iff_getElem
def ó:=@PySem.W.kia_one
def ę:=@PyProof.Rows.callWith_type1
def Ą:=@List.getElem?_eq_none
def Ā:=@Bool.false_ne_true
def ą:=@Bool.false_eq_true
def Ģ:=@Int.mul_le_mul_of_nonneg_right
def Č:=@PySem.Heap.get?_update_self
def č:=@Bool.or_eq_false_iff
def ģ:=@List.getElem?_append_right
def ô:=@Nat.succ.inj
def Ć:=@List.append_nil
def ü:=@List.map_map
def õ:=@Nat.zero_le
def ö:=@Int.le_refl
def Ď:=@List.length_nil
def ď:=@Option.map_some
def Ě:=@PySem.mem_of_lookup
def ĳ:=@Array.getElem?_eq_some_iff
def ā:=@Int.mul_assoc
def Đ:=@List.length_take
def đ:=@Nat.le_add_right
def ć:=@PySem.Heap.size_push
def Ĵ:=@Classical.byContradiction
def Ă:=@Int.mul_comm
def Ē:=@Bool.or_eq_true
def ŋ:=@List.getElem?_cons_succ
def Ĥ:=@PySem.W.hideAll_get
def ĥ:=@List.map_congr_left
def ě:=@Nat.lt_succ_self
def ĵ:=@PyProof.Rows.boot_list
def Ħ:=@Int.lt_of_le_of_lt
def Ķ:=@List.length_singleton
def ħ:=@Nat.lt_succ_of_lt
def Ō:=@PySem.F.plain_extend_loop
def ō:=@Array.getElem?_eq_getElem
def ē:=@Int.le_trans
def Ĩ:=@List.getElem_inj
def Ŏ:=@Option.isSome_iff_exists
def ŏ:=@PySem.F.slot_str_getitem
def Ĕ:=@Int.zero_mul
def Ő:=@Option.bind_eq_some_iff
def ķ:=@PySem.W.of_hideAll
def ĸ:=@List.mem_filterMap
def Ĺ:=@List.getElem?_drop
def ĺ:=@List.zip_cons_cons
def ĕ:=@Nat.le_succ
def Ė:=@Int.mul_pos
def Ļ:=@List.length_range
def ļ:=@List.append_assoc
def Ľ:=@Int.mul_left_comm
def ő:=@List.getElem?_zipWith
def Ĝ:=@Int.ofNat_lt
def Œ:=@PySem.Around.under_plainId
def ľ:=@Option.bind_some
def Ũ:=@Int.fdiv_eq_ediv_of_nonneg
def œ:=@Int.toNat_of_nonneg
def Ŕ:=@List.mem_map_of_mem
def Ŀ:=@List.mem_filter
def ŀ:=@List.nodup_cons
def Ł:=@Int.emod_two_eq
def ĩ:=@Int.le_of_lt
def Ī:=@Nat.ne_of_gt
def ũ:=@List.getElem?_take_of_lt
def ī:=@Int.lt_or_le
def ŕ:=@PySem.Obj.data_mapFields
def Ĭ:=@PySem.F.called_set
def Ū:=@List.take_append_getElem
def Ŗ:=@Nat.add_sub_cancel
def ū:=@List.getElem?_replicate
def Ŭ:=@PySem.F.plainAttrs_list
def ŭ:=@PyProof.Rows.F.plain_set_update_loop
def yda:=@Int.mul_nonpos_of_nonpos_of_nonneg
def ŗ:=@Bool.not_eq_true'
def Ů:=@Option.some.injEq
def ů:=@PyProof.V.reads_dictOf
def Ű:=@PySem.SeqAt.notIn_list_reads
def ű:=@List.take_of_length_le
def ł:=@List.sum_cons
def Ų:=@List.cons_append
def ų:=@List.length_replicate
def Ŵ:=@PySem.Obj.isFreed_of_fields
def Ń:=@Nat.lt_trans
def ń:=@Int.lt_trans
def ŵ:=@PySem.W.hideAll_none
def Ŷ:=@List.length_set
def ŷ:=@List.nil_append
def Ř:=@PySem.F.slot_zip_next
def Ÿ:=@List.mem_iff_getElem
def ř:=@List.map_nil
def Ņ:=@Nat.add_comm
def ņ:=@Int.add_zero
def Ź:=@PySem.W.plainGet_of
def ź:=@PySem.SeqAt.in_list_reads
def Ż:=@List.getElem?_range
def ż:=@Bool.false_and
def Ś:=@Int.mul_le_mul
def Ň:=@Int.sub_mul
def Ž:=@PySem.Calls.spliced_cons
def ž:=@Option.isSome_some
def ſ:=@Int.natCast_nonneg
def Α:=@PySem.W.callWith_K
def Β:=@PySem.F.called_enumerate
def Δ:=@List.findIdx?_cons
def ś:=@PySem.Paired.length
def Ε:=@Bool.or_false
def Ζ:=@Bool.and_true
def Η:=@PySem.W.kitx_list
def Θ:=@PySem.W.kitx_dict
def Ι:=@PySem.Calls.spliced_nil
def Κ:=@PySem.PassesOwn.leaving
def Ŝ:=@Nat.le_of_lt
def Λ:=@List.any_eq_true
def ŝ:=@PySem.Txt.slice_le
def Ş:=@Nat.zero_add
def Μ:=@List.getElem_map
def Ν:=@List.take_length
def Ξ:=@Option.getD_some
def Ο:=@List.mem_flatMap
def Ù:=@decide_eq_false
def ñ:=@PySem.wpAny_mono
def Ĉ:=@PySem.wpAny_truthy_bool
def ş:=@PySem.wpAny_execs_nil
def Ρ:=@PyProof.Rows.assignInOrder_cons
def À:=@PySem.wpAny_bind
def ò:=@PySem.wpAny_holding
def ĭ:=@PySem.wpAny_standAt
def Ç:=@PySem.wpAny_pure
def Τ:=@PySem.wpAny_newObj_type
def ĝ:=@PySem.wpAny_passesOwn
def Į:=@PySem.wpAny_pyIter_list
def ė:=@PySem.sizeLine_eq
def Ğ:=@PySem.wpAny_Call_Name_kw
def į:=@PySem.typeIs_str
def Å:=@if_true
def ň:=@PySem.call_meets
def ĉ:=@PySem.codeAny_mono
def É:=@decide_eq_true
def Š:=@PySem.wpAny_setField
def ý:=@PySem.wpAny_field
def İ:=@PySem.wpAny_call
def Ę:=@beq_iff_eq
def ê:=@decide_eq_true_eq
def Υ:=@PySem.wpAny_nextOf_list_end
def Φ:=@PySem.wpAny_pyIter_enum
def þ:=@or_false
def Χ:=@PySem.wpAny_pyIter_zip
def ë:=@beq_self_eq_true
def š:=@PySem.pushCells_keeps
def ì:=@of_decide_eq_true
def Ã:=@if_false
def Ţ:=@PySem.wpAny_loadPart'
def ı:=@PySem.codeAny_builtin
def Ψ:=@PySem.codeAny_call_builtin
def ğ:=@PySem.wpAny_of_eq
def Ω:=@PySem.wpAny_nextOf_list_item
def ţ:=@PySem.wpAny_isInstance
def Ť:=@PySem.wpAny_updateSeq
def ť:=@PySem.wpAny_specialOf
def ă:=@PySem.wpAny_ite_false
def Ŧ:=@PySem.wpAny_getItem_str_slice
def ŧ:=@PySem.post_val_or_str
def Ĳ:=@beq_eq_false_iff_ne
def Ċ:=@eq_false
def ŉ:=@decide_true
def Ŋ:=@decide_false
noncomputable section
abbrev k7:=List<|PySem.Str×List Int
abbrev k8:=List<|Nat×Nat
abbrev k9:=List PySem.Value
abbrev kA:=Option Int
abbrev kC:=List PySem.Expr
abbrev kD:=List PySem.Stmt
abbrev kE:=List PySem.Str
abbrev kF:=List Int
abbrev kG:=List Nat
local macro_rules|`(tactic|ext)=>`(tactic|kernel_rfl)
local macro_rules|`(tactic|change $e = $x)=>`(tactic|generalize $e = $(⟨x.raw⟩):ident at *)
set_option hygiene false
local macro_rules|`(tactic|symm)=>`(tactic|exact q.elim)
set_option hygiene true
def rcp:Nat->Lean.Syntax->Lean.MacroM (Lean.TSyntax `rcasesPat)
 |n+1,t=>do if t.getKind==`Lean.Parser.Term.tuple then let l<-((t[1][0]::t[1][2].getSepArgs.toList).toArray.mapM (rcp n));`(rcasesPat|⟨$l,*⟩) else if t.isIdent then `(rcasesPat|$(⟨t⟩):ident) else `(rcasesPat|_)
 |ϊ,ϋ=>Lean.Macro.throwUnsupported
theorem hld{g:Prop}(h:∀G:Prop,(g->G)->G):g:=h g id
local macro_rules
  |`(tactic|let $p:term $[:$t]? := $e)=>do
    if p.raw.getKind != `Lean.Parser.Term.tuple then Lean.Macro.throwUnsupported
    let q<-rcp 20 p.raw
    if p.raw[1][2].getSepArgs.size>1 then `(tactic|(refine hld fun G k=>?_;obtain $q:rcasesPat $[:$t]? := $e;refine k ?_;try clear k G)) else `(tactic|obtain $q:rcasesPat $[:$t]? := $e)
local macro_rules(kind:=Lean.Parser.Command.declaration)|s=>do
  let d:=s[1];let k:=d.getKind;let m:=s[0];let t:=s.setArg 1 (d.setArg 0 (.atom .none d[0].getAtomVal))
  if m[4].getNumArgs != 0||(d[0].getHeadInfo matches .none) then Lean.Macro.throwUnsupported
  if k==`Lean.Parser.Command.definition&&(d[3][1].getKind==`Lean.Parser.Term.byTactic||[`«term_=_»,`«term_∧_»,`«term_∨_»,`«term∃_,_»,`«term_≤_»,`«term_<_»,`«term_<->_»,`«term_↔_»,`«term_≠_»,`«term_∈_»,`Lean.Parser.Term.forall].contains d[2][1][0][1].getKind) then return s.setArg 1 (.node .none `Lean.Parser.Command.theorem #[.atom .none "theorem",d[1],.node .none `Lean.Parser.Command.declSig #[d[2][0],d[2][1][0]],d[3]])
  else if k==`Lean.Parser.Command.definition||k==`Lean.Parser.Command.abbrev then return t.setArg 0 (m.setArg 4 (Lean.mkNullNode #[.node .none `Lean.Parser.Command.noncomputable #[.atom .none "noncomputable"]]))
  else if k==`Lean.Parser.Command.theorem then return t else Lean.Macro.throwUnsupported
local macro_rules|`({$x:term,*})=>`(⟨$x,*⟩)
local macro_rules|`(↑$x:term)=>`(some $x)
local macro_rules|`(tactic|erw [$rs,*] $[$l:location]?)=>do let ts:=rs.getElems.map fun r=>(⟨r.raw[1]⟩:Lean.TSyntax `term);`(tactic|simp only [$[$ts:term],*] $[$l]?)
abbrev k6:=PySem.W.Frag
set_option Elab.async false
set_option linter.all false
set_option maxRecDepth 100000
set_option genSizeOf false
set_option genInjectivity false
local macro_rules
  |`(tactic| lia)=>`(tactic| first
    |assumption
    |exact Ü (by assumption) (by decide +kernel)
    |exact Û (by assumption) (by decide +kernel)
    |exact Nat.lt_of_le_of_lt (by assumption) (by decide +kernel)
    |exact Nat.succ_pos _
    |exact Û (by assumption) (Nat.succ_le_succ (Ü (by assumption) (by decide +kernel)))
    |exact Nat.succ_le_succ (Ü (by assumption) (by decide +kernel))
    |exact Ń (by assumption) (by assumption)
    |exact Û (by assumption) (by assumption)
    |exact ń (b:=0) (by decide +kernel) (by assumption)
    |exact Int.lt_of_lt_of_le (b:=0) (by decide +kernel) (by assumption)
    |exact Ħ (by assumption) (by decide +kernel)
    |exact ē (by assumption) (by decide +kernel)
    |exact ĩ (by assumption)
    |exact Int.ne_of_gt (by assumption)
    |lia +clean
    |fail)
def Zl.said:PySem.Challenge.rw_zonewalk_k54_soonest_ends.wellSaid=true:=(congrFun PySem.W.Fast.te9446332074065402090 _).trans<|by ext
namespace L2
open PySem PySem.Spec PyProof.Rows
abbrev Key:=Sum Int Str
def Gy:Key->Value->Bool
 |.inl k,v=>Value.isInt k v|.inr x,v=>Value.isStrOf x v
def keyH(w:World):Key->Int
 |.inl k=>hashInt k|.inr x=>hashStr w x
def Ff:∀{k} {v},Gy k v=true->(∃i t,k=Sum.inl i/\v=Value.int i t)\/(∃x t,k=Sum.inr x/\v=Value.str x t)
 |.inl i,v,h=>by
  let(t,e):=Value.isInt_shape h
  grind
 |.inr x,v,h=>by
  let(t,e):=Value.isStrOf_shape h
  grind
def zfg(i)(t):Gy (.inl i) (.int i t)=true:=by simp[Gy,Value.isInt]
def zff(x)(t):Gy (.inr x) (.str x t)=true:=by simp[Gy,Value.isStrOf]
def zps(a b:Int):decide ((Sum.inl a:Key)=Sum.inl b)=(a == b):=by
 grind
def zpp(a b:Str):decide ((Sum.inr a:Key)=Sum.inr b)=decide (a=b):=by
 simp
def zpr(a:Int)(b:Str):decide (Sum.inl a=Sum.inr b)=false:=Ù<|λq=>nomatch q
def zpq(a:Str)(b:Int):decide (Sum.inr a=Sum.inl b)=false:=Ù<|λq=>nomatch q
def Dh(prog:Program)(w:World):PySem.KeyKind prog w Key where
 is:=Gy
 hash:=keyH w
 inj:=λv a b g f=>by
  rcases Ff g with ⟨i,t,rfl,rfl⟩|⟨x,t,rfl,rfl⟩
  .rcases Ff f with ⟨j,u,rfl,e⟩|⟨y,u,rfl,e⟩
   .injection e with c _;rw[c]
   .exact nomatch e
  .rcases Ff f with ⟨j,u,rfl,e⟩|⟨y,u,rfl,e⟩
   .exact nomatch e
   .injection e with c _;rw[c]
 byValue:=λk v h=>by
  rcases Ff h with ⟨i,t,rfl,rfl⟩|⟨x,t,rfl,rfl⟩<;>rfl
 pyHash:=λd h=>by
  rcases Ff d with ⟨i,t,rfl,rfl⟩|⟨x,t,rfl,rfl⟩
  .exact wpAny_pyHash_int h
  .exact wpAny_pyHash_str h
 eqBool:=λl d h=>by
  rcases Ff l with ⟨i,t,rfl,rfl⟩|⟨x,t,rfl,rfl⟩
  .rcases Ff d with ⟨j,u,rfl,rfl⟩|⟨y,u,rfl,rfl⟩
   .rw[zps]at h;exact wpAny_eqBool_int h
   .rw[zpr]at h;exact SeqAt.EqAt.int_str i t y u _ _ _ _ h
  .rcases Ff d with ⟨j,u,rfl,rfl⟩|⟨y,u,rfl,rfl⟩
   .rw[zpq]at h;exact SeqAt.EqAt.str_int x t j u _ _ _ _ h
   .rw[zpp]at h;exact wpAny_eqBool_str h
 «strs»:=λk x t v h=>by
  rcases Ff h with ⟨i,u,rfl,e⟩|⟨y,u,rfl,e⟩
  .exact nomatch e
  .injection e with c _
   subst c;cases v<;>rfl
def zd5(prog)(w)(i)(t):(Dh prog w).is (.inl i) (.int i t)=true:=zfg i t
def zd4(prog)(w)(x)(t):(Dh prog w).is (.inr x) (.str x t)=true:=zff x t
set_option genInjectivity true in
inductive V where
 |non|bl (b:Bool)|int (i:Int)|str (x:Str)|byt (b:Array UInt8)|flt (b:UInt64)|ref (a:Addr)|ty (n:String)
 deriving DecidableEq
abbrev kK:=List V
def Ab:V->Value->Prop
 |.non,u=>u=Value.none|.bl b,u=>u=Value.bool b|.int i,u=>∃t,u=Value.int i t|.str x,u=>∃t,u=Value.str x t|.byt b,u=>∃t,u=Value.bytes b t|.flt b,u=>∃t,u=Value.float b t|.ref a,u=>u=Value.ref a|.ty n,u=>u=Value.type n
abbrev Ac:kK->k9->Prop:=Paired Ab
def Ac.length(r:Ac xs us):xs.length=us.length:=ś r
def Ac.get:∀{xs} {us} {i:Nat} {x},Ac xs us->xs[i]?=↑x->∃u,us[i]?=↑u/\Ab x u
 |_,_,_,_,.nil,e=>by simp at e|_,_,0,_,.cons r _,e=>by grind|_,_,i+1,x,.cons _ t,e=>by
  let(u,a,b):=Ac.get t<|by simpa using e
  grind
def Ac.set(r:Ab x u):∀{xs} {us} (i),Ac xs us->Ac (xs.set i x) (us.set i u)
 |_,_,_,.nil=>.nil|_,_,0,.cons _ t=>.cons r t|_,_,i+1,.cons q t=>.cons q<|Ac.set r i t
def Ac.append:∀{xs ys} {us ws},Ac xs us->Ac ys ws->Ac (xs++ys) (us++ws)
 |_,_,_,_,.nil,s=>s|_,_,_,_,.cons r t,s=>.cons r<|Ac.append t s
def Ac.take:∀{xs} {us} (n),Ac xs us->Ac (xs.take n) (us.take n)
 |_,_,0,_=>.nil|_,_,_+1,.nil=>.nil|_,_,n+1,.cons r t=>.cons r<|Ac.take n t
def Ac.drop:∀{xs} {us} (n),Ac xs us->Ac (xs.drop n) (us.drop n)
 |_,_,0,r=>r|_,_,_+1,.nil=>.nil|_,_,n+1,.cons _ t=>Ac.drop n t
def Ac.none_of:∀{i:Nat},Ac xs us->xs[i]?=none->us[i]?=none:=λr e=>by
 have a:=r.length
 grind
def EU:Option V->Option Value->Prop
 |some v,↑u=>Ab v u|none,none=>True|ϊ,ϋ=>False
def KV{κ:Type}:List (κ×V)->List (κ×Value)->Prop:=Paired λ(p:κ×V) (q:κ×Value)=>p.1=q.1/\Ab p.2 q.2
def kV:Key->V
 |.inl i=>.int i|.inr x=>.str x
set_option genInjectivity true in
inductive HO where
 |lst (xs:List V)
 |tup (xs:List V)
 |dK (kvs:List<|Key×V)|dT (kvs:List<|List Key×V)
 |set (S:Int->Bool) (n:Nat)
 |ins (C dx:Addr) (fs:List<|Str×V)
 |own (x:Addr)
 |xd (fs:List<|Str×V)
 |met (f x:Addr)
 |rng (lo hi:Int)
 |frz (o:Obj) (u:HO)
 |tbl (ps:Array Value)
 |ext (φ:Heap->Prop)
abbrev Hp:=Addr->Option HO
def upd(H:Hp)(a:Addr)(o:HO):Hp:=λb=>if b=a then ↑o else H b
def CP{H:Hp}{a:Addr}{o:HO}:upd H a o a=↑o:=by unfold upd;simp
def Ap(h:b≠a):upd H a o b=H b:=by unfold upd;rw[if_neg h]
def ne_of{H:Hp}   (h:H a=↑o)(h':H b=↑u)(d:o≠u):a≠b:=by
 grind
def DA{H:Hp}(h:H a=↑o)(h':H b=none):a≠b:=by
 grind
section
variable (P:Program)(w:World)
def DG(H:Hp)(h:Heap)(a:Addr):HO->Prop
 |.lst xs=>xs.length<=sizeLine/\∃(b:k9) (n:Nat),Ac xs b/\h.get? a=↑{ cls:=.type "list",data:=.seq b.toArray n }|.tup xs=>xs.length<=sizeLine/\∃b:k9,Ac xs b/\IsTup h a b.toArray|.dK c=>c.length<=sizeLine/\(a == sysModules)=false/\∃k,KV c k/\h.DictOf (Dh P w) a k|.dT c=>c.length<=sizeLine/\(a == sysModules)=false/\∃xs:List (List Key×Addr×Value),
   Paired (λ(p:List Key×V) (q:List Key×Addr×Value)=>p.1=q.1/\H q.2.1=↑(.tup<|p.1.map kV)/\Ab p.2 q.2.2) c xs /\
   ∃o g l,h.get? a=↑o/\o.ExactDict/\o.data=.dict g l/\g.toList=xs.map (entryOfKey<|tupleKind<|Dh P w)/\(xs.map (·.1)).Nodup
 |.set S n=>h.SetOf (intKind P w) a S n|.ins C e fs=>H e=↑(.own a)/\fs.length<=1000/\e≠a/\h.get? a=↑(W.instObj C e) /\
   ∃d,h.Ns1 e d/\(∀f,EU (fs.lookup f)<|d f)/\PySem.Within d (fs.map (·.1))
 |.own ϊ=>∃o,h.get? a=↑o|.xd fs=>∃d,h.Ns1 a d/\∀f,EU (fs.lookup f) (d f)|.rng r m=>∃t u v,h.get? a=↑{ cls:=.type "range",data:=.fields #[.int r t,.int m u,.int 1 v] }|.frz o u=>h.get? a=↑o/\DG H h a u|.tbl ps=>h.get? a=↑{ cls:=.none,data:=.fields ps }|.met f x=>h.get? a=↑(W.methodObj (.ref f)<|.ref x)|.ext φ=>φ h/\(∃o,h.get? a=↑o)/\∀i j:Heap,φ i->(∀o,i.get? a=↑o->j.get? a=↑o)->φ j
def HOk(H:Hp)(h:Heap):Prop:=∀a o,H a=↑o->DG P w H h a o
end
section
variable {P:Program}{w:World}{H H':Hp}{h h':Heap}{a:Addr}{o:HO}
def DG.lt(x:DG P w H h a o):a<h.objs.size:=by
 cases o with
 |lst xs=>let(_,_,_,_,e):=x;exact Ä e
 |tup xs=>let(_,_,_,p):=x;exact p.lt
 |dK b=>let(_,_,_,_,o,_,_,e,_):=x;exact Ä e
 |dT b=>let(_,_,_,_,o,_,_,e,_):=x;exact Ä e
 |set S n=>let(o,_,_,_,e,_):=x;exact Ä e
 |ins C c fs=>let(_,_,_,e,_):=x;exact Ä e
 |own y=>let(_,e):=x;exact Ä e
 |xd fs=>let(_,(_,_,_,e,_),_):=x;exact Ä e
 |rng g d=>let(_,_,_,e):=x;exact Ä e
 |frz ob u=>let(e,_):=x;exact Ä e
 |tbl ps=>exact Ä (x)|met f y=>exact Ä (x)|ext φ=>let(_,(_,e),_):=x;exact Ä e
def Paired.mapP:∀{l₁:List α} {l₂:List β},Paired F l₁ l₂->(∀a b,F a b->G a b)->Paired G l₁ l₂
 |_,_,.nil,_=>.nil|_,_,.cons r t,f=>.cons (f _ _ r)<|Paired.mapP t f
def DG.stay(x:DG P w H h a o)(k:∀b u,(b=a\/H b=↑(.own a))->h.get? b=↑u->h'.get? b=↑u)
  (B:∀b,H b=↑(.own a)->H' b=↑(.own a)) (D:∀b xs,H b=↑(.tup xs)->H' b=↑(.tup xs)):DG P w H' h' a o:=by
 induction o with
 |lst xs=>let(z,j,n,r,e):=x;exact{z,j,n,r,k _ _ (.inl rfl) e}
 |tup xs=>let(z,j,r,ob,e,c):=x;exact{z,j,r,ob,k _ _ (.inl rfl) e,c}
 |dK l=>let(z,y,F,r,ob,i,g,e,c):=x;exact{z,y,F,r,ob,i,g,k _ _ (.inl rfl) e,c}
 |dT l=>let(z,y,xs,r,ob,i,g,e,c):=x;exact{z,y,xs,Paired.mapP r λp q z=>{z.1,D _ _ z.2.1,z.2.2},ob,i,g,k _ _ (.inl rfl) e,c}
 |set S n=>let(ob,i,g,t,e,c):=x;exact{ob,i,g,t,k _ _ (.inl rfl) e,c}
 |ins C G fs=>let(d,z,ne,e,m,(s,i,g,A,c),r):=x;exact{B _ d,z,ne,k _ _ (.inl rfl) e,m,{s,i,g,k _ _ (.inr d) A,c},r}
 |own y=>let(ob,e):=x;exact{ob,k _ _ (.inl rfl) e}
 |xd fs=>let(m,(s,i,g,e,c),r):=x;exact{m,{s,i,g,k _ _ (.inl rfl) e,c},r}
 |rng J I=>let(t,u,v,e):=x;exact{t,u,v,k _ _ (.inl rfl) e}
 |frz ob u E=>let(e,q):=x;exact{k _ _ (.inl rfl) e,E q}
 |tbl ps=>have e :=x;exact k a _ (.inl rfl) e|met f y=>have e :=x;exact k a _ (.inl rfl) e|ext φ=>let(p,(o,e),st):=x;exact{st _ _ p λo q=>k _ _ (.inl rfl) q,{o,k _ _ (.inl rfl) e},st}
def HOk.lt(x:HOk P w H h)(e:H a=↑o):a<h.objs.size:=(x a o e).lt
def HOk.fresh(x:HOk P w H h)(e:h.objs.size<=a):H a=none:=by
 cases q:H a with
 |none=>rfl|some u=>exact absurd (Û (x.lt q) e)<|Þ _
theorem HOk.kept(x:HOk P w H h)(k:∀b u,h.get? b=↑u->h'.get? b=↑u):HOk P w H h':=λa o e=>
 (x a o e).stay (λb u ϊ q=>k b u q) (λϊ q=>q) λϊ ϊ q=>q
theorem HOk.laid(x:HOk P w H h)(k:∀b u,h.get? b=↑u->h'.get? b=↑u)(g:h.objs.size<=a)(new:DG P w (upd H a o) h' a o):HOk P w (upd H a o) h':=λb u e=>by
 have f:=x.fresh g
 by_cases d:b=a
 .subst d;rw[CP]at e;grind
 .rw[Ap d]at e;exact(x b u e).stay (λc v ϊ q=>k c v q) (λc q=>by rw[Ap<|DA q f];exact q) λc xs q=>by rw[Ap<|DA q f];exact q
end
def Rd(H:Hp)(a:Addr)(u:HO):Prop:=H a=↑u\/∃o,H a=↑(.frz o u)
def Rd.ok(r:Rd H a u)(x:HOk P w H h):DG P w H h a u:=by
 rcases r with r|⟨o,r⟩
 .exact x a u r
 .let(_,q):=x a _ r;exact q
def LS:Option HO->Prop
 |some (.lst ϊ)=>True|some (.dK ϊ)=>True|some (.dT ϊ)=>True|some (.set ϊ ϋ)=>True|some (.ins ϊ ϋ ό)=>True|some (.ext ϊ)=>True|ϊ=>False
section
variable {P:Program}{w:World}{H:Hp}{h h':Heap}{x e:Addr}{o':HO}
theorem HOk.write(ok:HOk P w H h)(mu:LS<|H x)(n:e=x\/H e=↑(.own x))(k:∀b u,b≠e->h.get? b=↑u->h'.get? b=↑u)(g:∃u,h'.get? e=↑u)
  (new:DG P w (upd H x o') h' x o'):HOk P w (upd H x o') h':=λb u q=>by
 have a:∀c y,H c=↑(.own y)->c≠x:=λc y r z=>by subst z;rw[r]at mu;exact mu
 have d:∀c xs,H c=↑(.tup xs)->c≠x:=λc xs r z=>by subst z;rw[r]at mu;exact mu
 by_cases i:b=x
 .subst i;rw[CP]at q;cases q;exact new
 .rw[Ap i]at q
  by_cases f:b=e
  .have j:H b=↑(.own x):=by
    grind
   rw[q]at j;cases j;let(v,l):=g;exact{v,by rw[f];exact l}
  .refine(ok b u q).stay (λc v m r=>k c v ?_ r) (λc r=>by rw[Ap<|a c b r];exact r) λc xs r=>by rw[Ap<|d c xs r];exact r
   grind
end
structure Un(fs ex:List Addr)(H H':Hp)(h h':Heap):Prop where
 keep:∀b o,h.get? b=↑o->H b=none->b∉fs->b∉ex->h'.get? b=↑o
 slot:∀b o,h.get? b=↑o->H b=none->b∈fs->b∉ex->∃sl,h'.get? b=↑{ o with slots:=sl }
 free:∀b o,h.get? b=↑o->H b=none->b∉ex->H' b=none
 there:∀b o,h.get? b=↑o->b∉ex->∃o',h'.get? b=↑o'
 tups:∀b xs,H b=↑(.tup xs)->H' b=↑(.tup xs)
 frzs:∀b o u,H b=↑(.frz o u)->H' b=↑(.frz o u)
 tbls:∀b ps,H b=↑(.tbl ps)->∃more,H' b=↑(.tbl<|ps++more)
section
variable {fs fs' ex ex':List Addr}{H H1 H2:Hp}{h h1 h2 h':Heap}{a x e:Addr}{o:HO}
def Un.any(u:Un fs ex H H1 h h1)(q:h.get? b=↑ob)(n:H b=none)(c:b∉ex):∃sl,h1.get? b=↑{ ob with slots:=sl}:=by
 by_cases a:b∈fs
 .exact u.slot b ob q n a c
 .exact{ob.slots,u.keep b ob q n a c}
theorem Un.kept(k:∀b u,h.get? b=↑u->h'.get? b=↑u):Un fs ex H H h h':=
 {λb ob q ϊ ϊ ϊ=>k b ob q,λb ob q ϊ ϊ ϊ=>{ob.slots,k b ob q},λϊ ϊ ϊ n ϊ=>n,λb ob q ϊ=>{ob,k b ob q},λϊ ϊ q=>q,λϊ ϊ ϊ q=>q,λϊ ps q=>{#[],by rw[q];simp}}
theorem Un.refl:Un fs ex H H h h:=Un.kept λϊ ϊ q=>q
theorem Un.laid(k:∀b u,h.get? b=↑u->h'.get? b=↑u)(d:h.objs.size<=a)(c:H a=none):Un fs ex H (upd H a o) h h' where
 keep:=λb u q ϊ ϊ ϊ=>k b u q
 slot:=λb u q ϊ ϊ ϊ=>{u.slots,k b u q}
 free:=λb u q n ϊ=>by rw[Ap<|Õ<|Û (Ä q) d];exact n
 there:=λb u q ϊ=>{u,k b u q}
 tups:=λb xs q=>by rw[Ap<|DA q c];exact q
 frzs:=λb u xs q=>by rw[Ap<|DA q c];exact q
 tbls:=λb ps q=>{#[],by rw[Ap<|DA q c,q];simp}
def Un.write(mu:LS<|H x)(g:e=x\/H e=↑(.own x))(k:∀b u,b≠e->h.get? b=↑u->h'.get? b=↑u)(d:∃u,h'.get? e=↑u):Un fs ex H (upd H x o) h h':=by
 have f:∀b,H b=none->b≠x:=λb n z=>by subst z;rw[n]at mu;exact mu
 have c:∀b,H b=none->b≠e:=λb n z=>by
  grind
 have a:∀b u,H b=↑u->¬ LS ↑u->b≠x:=λb u q nm z=>by grind
 refine{λb u q n ϊ ϊ=>k b u (c b n) q,λb u q n ϊ ϊ=>{u.slots,k b u (c b n) q},λb u q n ϊ=>by rw[Ap<|f b n];exact n,λb u q ϊ=>?_,
  λb xs q=>by rw[Ap<|a b _ q λz=>z];exact q,λb u xs q=>by rw[Ap<|a b _ q λz=>z];exact q,λb ps q=>{#[],by rw[Ap<|a b _ q λz=>z,q];simp}}
 grind
end
def Lk(h:Heap)(H:Hp):List Addr:=(List.range h.objs.size).filter λa=>(H a).isSome
def HE(h:Heap)(H:Hp):Heap:=W.hideAll h<|Lk h H
def zfk(h)(H):(HE h H).objs.size=h.objs.size:=W.hideAll_size _ _
def zi3(e:h.get? b=↑o)(n:H b=none):(HE h H).get? b=↑o:=
 Ĥ _ e λa=>by
  have q :=(Ŀ.mp a).2
  grind
def zl3(e:(HE h H).get? b=↑o):h.get? b=↑o/\H b=none:=by
 have a :=ķ (Lk h H) e;refine{a,?_};cases q:H b with
 |none=>rfl|some x=>
  have c:b∈Lk h H:=Ŀ.mpr {á.mpr<|Ä a,by simp[q]}
  have z:(HE h H).get? b=none:=ŵ (Lk h H) c
  grind
structure Mod(K:k6)(mg:Str->Option Value)(base:Heap):Prop where
 kin:K.In base
 glob:base.Ns mainGlobals mg
 blt:∃mb,base.Ns builtinsNs mb/\∀x:Str,x≠"__name__"->mb x=bootBuiltins x
 nolimit:base.NoLimit
structure Cx where
 prog:Program
 w:World
 K:k6
 mg:Str->Option Value
 base:Heap
 A:Around
 N:kE
 s₀:Shared
 H₀:Hp
 env:Env
 outer:List Env
 stack:List Env
 ex:List Addr
 fn:Str->Bool
 calm:Bool
 pn:List (Addr×Obj)
 xe:Value->Shared->Prop
def Ba(l:List Env):List Addr:=l.filterMap (·.frame)
abbrev Cx.fs(X:Cx):List Addr:=Ba X.outer
def Em(a:Scope)(x:Str):Prop:=a.names.lookup x=↑.local\/a.names.lookup x=↑.cell\/a.names.lookup x=↑.free
def HP(a:Scope)(x:Str):Prop:=a.names.lookup x=↑.local\/a.names.lookup x=↑.cell
def Look(env:Env)(h:Heap)(m:Str->Option Value)(x:Str)(u:Value):Prop:=
 (env.kindOf x=↑.local/\m x=↑u)\/((env.kindOf x=↑.cell\/env.kindOf x=↑.free)/\∃c,env.cells.lookup x=↑c/\h.IsCell c ↑u)
structure Cx.Ok(X:Cx):Prop where
 mod:Mod X.K X.mg X.base
 kind:X.env.scope.kind=.function
 glob:X.env.globals=mainGlobals
 blt:X.env.builtins=builtinsNs
 above:X.s₀.heap.objs.size<=X.env.locals
 inj:∀x y c,X.env.cells.lookup x=↑c->X.env.cells.lookup y=↑c->x=y
 has:∀x,(X.env.kindOf x=↑.cell\/X.env.kindOf x=↑.free)->∃c,X.env.cells.lookup x=↑c
 cab:∀x c,X.fn x=true->X.env.cells.lookup x=↑c->X.s₀.heap.objs.size<=c
 hd:X.calm=true->X.A.handled=none
 frames:X.A.frames=↑X.stack
 stk:X.stack=X.outer\/(X.stack=X.env::X.outer/\X.env.frame=↑X.env.locals)
 exf:∀b∈X.ex,b≠X.env.locals/\∀x c,X.env.cells.lookup x=↑c->c≠b
 bs:∀b o,X.base.get? b=↑o->X.s₀.heap.get? b=↑o/\X.H₀ b=none
 bsz:X.base.objs.size<=X.s₀.heap.objs.size
 noex:∀b o,X.base.get? b=↑o->b∉X.ex
 exfs:∀b∈X.ex,b∉X.fs
 funs:X.s₀.heap.FunFrames X.base X.outer
 frf:∀b∈X.fs,X.H₀ b=none
structure Inv(X:Cx)(pq:List<|Addr×Obj)(O:List<|Option V)(H:Hp)(s:Shared):Prop where
 ok:X.Ok
 os:s.os=X.s₀.os
 bare:AllBare s.gens
 base:Un X.fs X.ex X.H₀ H X.s₀.heap s.heap
 loc:∃m,s.heap.Ns X.env.locals m/\∀(i:Nat) (x:Str) (v:V),X.N[i]?=↑x->O[i]?=↑↑v->Em X.env.scope x->∃u,Ab v u/\Look X.env s.heap m x u
 cell:∀x c,X.env.cells.lookup x=↑c->∃v,s.heap.IsCell c v
 free:H X.env.locals=none
 freeC:∀x c,X.env.cells.lookup x=↑c->H c=none
 pin:∀p∈X.pn++pq,s.heap.get? p.1=↑p.2/\H p.1=none/\p.1≠X.env.locals/\p.1∉X.fs/\∀v,p.2.data≠.cell v
 hok:HOk X.prog X.w H s.heap
 len:O.length=X.N.length
section
variable {X:Cx}{pq:List<|Addr×Obj}{O:List<|Option V}{H H':Hp}{s:Shared}{h':Heap}
theorem Cx.Ok.nofr(ok:X.Ok)(e:X.base.get? b=↑o):b∉X.fs:=λa=>by
 have:=(ok.funs.mem a).1
 grind
def Inv.bs(I:Inv X pq O H s):∀b o,X.base.get? b=↑o->s.heap.get? b=↑o/\H b=none:=λb o e=>
 {I.base.keep b o (I.ok.bs b o e).1 (I.ok.bs b o e).2 (I.ok.nofr e) (I.ok.noex b o e),I.base.free b o (I.ok.bs b o e).1 (I.ok.bs b o e).2 (I.ok.noex b o e)}
def Inv.bk(I:Inv X pq O H s):∀b o,X.base.get? b=↑o->s.heap.get? b=↑o:=λb o e=>(I.bs b o e).1
theorem Inv.mod(I:Inv X pq O H s):Mod X.K X.mg X.base:=I.ok.mod
theorem Inv.kIn(I:Inv X pq O H s):X.K.In s.heap:=I.ok.mod.kin.keeps I.bk
def Inv.lt(I:Inv X pq O H s):X.env.locals<s.heap.objs.size:=let ⟨_,hn,_⟩:=I.loc;hn.lt
def Inv.sz(I:Inv X pq O H s):X.s₀.heap.objs.size<=s.heap.objs.size:=Ü I.ok.above<|Ŝ I.lt
theorem Inv.nofs(I:Inv X pq O H s){a:Addr}(h:s.heap.objs.size<=a):a∉X.fs:=λb=>by
 let(_,o,c,_):=I.ok.funs.mem b;exact absurd (Û (Ä c)<|Ü I.sz h)<|Þ _
def Inv.cne(I:Inv X pq O H s):∀x c,X.env.cells.lookup x=↑c->c≠X.env.locals:=λx c e z=>by
 let(v,o,g,hd):=I.cell x c e;let(m,(h,f,d,b,a,_),_):=I.loc
 grind
def Inv.funs(I:Inv X pq O H s):s.heap.FunFrames X.base X.outer:=by
 have all:∀(l ),(∀b∈Ba l,b∈X.fs)->X.s₀.heap.FunFrames X.base l->s.heap.FunFrames X.base l:=by
  intro l
  induction l with
  |nil=>intro _ _;trivial|cons env r k=>
   intro f g;let(hk,(L,o,d,h,i,hd),j):=g;have a :=f L (by unfold Ba;grind)
   let(m,e):=I.base.slot L o i (I.ok.frf L a) a λz=>I.ok.exfs L z a
   exact{hk,{L,_,d,h,e,hd},k (λb c=>f b (by unfold Ba;rw[List.filterMap_cons,d];exact Ê _ c)) j}
 exact all X.outer (λϊ c=>c) I.ok.funs
def Inv.stack(I:Inv X pq O H s):s.heap.FunFrames X.base X.stack:=by
 rcases I.ok.stk with e|⟨e,a⟩
 .rw[e];exact I.funs
 .rw[e];let(m,b,_):=I.loc;refine .cons (by rw[I.ok.kind];decide) a b ?_ I.funs
  exact Heap.get?_none_of_le<|Ü I.ok.bsz I.ok.above
def Inv.stkSub(I:Inv X pq O H s):∀b∈Ba X.stack,b∈X.env.locals::X.fs:=λb a=>by
 rcases I.ok.stk with e|⟨e,c⟩
 .grind
 .rw[e]at a;unfold Ba at a;rw[List.filterMap_cons,c]at a;exact a
def Inv.stkFree(I:Inv X pq O H s):∀b∈Ba X.stack,H b=none:=λb a=>by
 rcases Ì.mp (I.stkSub b a) with e|a
 .rw[e];exact I.free
 .let(_,o,c,_):=I.ok.funs.mem a;exact I.base.free b o c (I.ok.frf b a) λz=>I.ok.exfs b z a
def Inv.step{t':Nat}{d':Drawn}{ch:List Addr}(I:Inv X pq O H s)
  (g:∀b∈ch,(b∈X.ex\/X.s₀.heap.objs.size<=b)/\b≠X.env.locals/\(∀x c,X.env.cells.lookup x=↑c->c≠b)/\∀p∈X.pn++pq,p.1≠b)
  (keep:∀b o,b≠X.env.locals->b∉X.fs->b∉ch->s.heap.get? b=↑o->H b=none->h'.get? b=↑o)
  (slot:∀b o,b≠X.env.locals->b∈X.fs->b∉ch->s.heap.get? b=↑o->H b=none->∃sl,h'.get? b=↑{ o with slots:=sl }) (free:∀b o,b∉ch->s.heap.get? b=↑o->H b=none->H' b=none)
  (there:∀b o,b∉ch->s.heap.get? b=↑o->∃o',h'.get? b=↑o')
  (tups:∀b xs,H b=↑(.tup xs)->H' b=↑(.tup xs)) (frzs:∀b o u,H b=↑(.frz o u)->H' b=↑(.frz o u)) (tbls:∀b ps,H b=↑(.tbl ps)->∃more,H' b=↑(.tbl<|ps++more))
  (ns:∀m,s.heap.Ns X.env.locals m->h'.Ns X.env.locals m) (hok:HOk X.prog X.w H' h') (G:AllBare g') :
  Inv X pq O H' { s with heap:=h',gens:=g',drawn:=d',toks:=t' }:=by
 have B:∀b o,X.s₀.heap.get? b=↑o->b≠X.env.locals:=λb o e=>Õ<|Û (Ä e) I.ok.above
 have t:∀b o,X.s₀.heap.get? b=↑o->b∉X.ex->b∉ch:=λb o e a w=>by
  rcases(g b w).1 with z|z
  .exact a z
  .exact absurd (Û (Ä e) z)<|Þ _
 have f:∀x c,X.env.cells.lookup x=↑c->∀v,s.heap.IsCell c v->h'.IsCell c v:=λx c e v ⟨o,y,hd⟩=>by
  have h :=λz=>(g c z).2.2.1 x c e rfl
  by_cases D:c∈X.fs
  .let(sl,q):=slot c o (I.cne x c e) D h y<|I.freeC x c e;exact{_,q,hd}
  .exact{o,keep c o (I.cne x c e) D h y<|I.freeC x c e,hd}
 refine{I.ok,I.os,G,{λb o e n w a=>?_,λb o e n w a=>?_,λb o e n a=>?_,λb o e a=>?_,λb xs e=>tups b xs<|I.base.tups b xs e,λb o xs e=>frzs b o xs<|I.base.frzs b o xs e,λb ps e=>?_},?_,λx c e=>?_,?_,λx c e=>?_,λp E=>?_,hok,I.len}
 .exact keep b o (B b o e) w (t b o e a) (I.base.keep b o e n w a)<|I.base.free b o e n a
 .let(sl,j):=I.base.slot b o e n w a;let(C,A):=slot b _ (B b o e) w (t b o e a) j<|I.base.free b o e n a;exact{(C),A}
 .let(o',j):=I.base.there b o e a;exact free b o' (t b o e a) j<|I.base.free b o e n a
 .let(o',j):=I.base.there b o e a;exact there b o' (t b o e a) j
 .let(m1,j):=I.base.tbls b ps e;let(m2,A):=tbls b _ j;exact{m1++m2,by rw[A,Array.append_assoc]}
 .let(m,K,J):=I.loc;refine{m,ns m K,λi x v j A F=>?_}
  let(u,r,l):=J i x v j A F;refine{u,r,?_}
  rcases l with l|⟨k,c,e,z⟩
  .exact .inl l
  .exact .inr {k,c,e,f x c e _ z}
 .let(v,z):=I.cell x c e;exact{v,f x c e v z}
 .let(m,(o,_,_,y,_),_):=I.loc;exact free _ o (λz=>(g _ z).2.1 rfl) y I.free
 .let(v,o,y,hd):=I.cell x c e;exact free c o (λz=>(g c z).2.2.1 x c e rfl) y<|I.freeC x c e
 .let(e,n,ne,nf,d):=I.pin p E;have h :=λz=>(g p.1 z).2.2.2 p E rfl
  exact{keep p.1 p.2 ne nf h e n,free p.1 p.2 h e n,ne,nf,d}
def Inv.un(I:Inv X pq O H s)(u:Un X.fs [] H H' s.heap h')(hok:HOk X.prog X.w H' h'):Inv X pq O H' { s with heap:=h',toks:=t' }:=by
 let(m,(o,l,k,g,r),_):=id I.loc;let(t,h):=u.any g I.free<|by simp
 exact I.step (ch:=[]) (λϊ z=>nomatch z) (λb o ϊ f ϊ e n=>u.keep b o e n f<|by simp) (λb o ϊ f ϊ e n=>u.slot b o e n f<|by simp) (λb o ϊ e n=>u.free b o e n<|by simp) (λb o ϊ e=>u.there b o e<|by simp) u.tups u.frzs u.tbls (λp i=>by
  let(q,d,c,a,j):=i;rw[g]at a;cases a;exact{_,d,c,h,j}) hok I.bare
def Inv.call(I:Inv X pq O H s)(u:Un (Ba X.stack) ch H H' s.heap h')(hok:HOk X.prog X.w H' h')(l:AllBare g')
  (d:∀b∈ch,(b∈X.ex\/X.s₀.heap.objs.size<=b)/\b≠X.env.locals/\(∀x c,X.env.cells.lookup x=↑c->c≠b)/\∀p∈X.pn++pq,p.1≠b) :
  Inv X pq O H' { s with heap:=h',gens:=g',drawn:=d',toks:=t' }:=by
 let(m,(o,w,v,j,r),_):=id I.loc;let(B,i):=u.any j I.free λz=>(d _ z).2.1 rfl
 exact I.step d (λb o i k a e n=>u.keep b o e n (λz=>(Ì.mp<|I.stkSub b z).elim i k) a) (λb o ϊ ϊ a e n=>u.any e n a) (λb o a e n=>u.free b o e n a) (λb o a e=>u.there b o e a) u.tups u.frzs u.tbls (λy q=>by
  let(A,h,g,f,t):=q;rw[j]at f;cases f;exact{_,h,g,i,t}) hok l
def Inv.turned(I:Inv X pq O H s)(k:∀b o,b≠it->s.heap.get? b=↑o->h'.get? b=↑o)(y:H it=none)(g:it≠X.env.locals)
  (j:it∈X.ex\/X.s₀.heap.objs.size<=it) (l:∀x c,X.env.cells.lookup x=↑c->c≠it) (t:∀p∈X.pn++pq,p.1≠it):Inv X pq O H { s with heap:=h',toks:=t' }:=by
 refine I.step (ch:=[it]) (λb w=>?_) (λb o ϊ ϊ a e ϊ=>k b o (λz=>a<|by simp[z]) e) (λb o ϊ ϊ a e ϊ=>{o.slots,k b o (λz=>a<|by simp[z]) e}) (λϊ ϊ ϊ ϊ n=>n)
  (λb o a e=>{o,k b o (λz=>a<|by simp[z]) e}) (λϊ ϊ e=>e) (λϊ ϊ ϊ e=>e) (λb ps e=>{#[],by rw[e];simp}) (λm h=>?_) (λb u e=>?_) I.bare
 .grind
 .let(o,f,d,i,r):=h;exact{o,f,d,k _ o (Î g) i,r}
 .refine(I.hok b u e).stay (λc v a q=>k c v ?_ q) (λϊ q=>q) λϊ ϊ q=>q
  grind
theorem Inv.tok(I:Inv X pq O H s)(t):Inv X pq O H { s with toks:=t}:=I.un Un.refl I.hok
theorem Inv.kept(I:Inv X pq O H s)(k:∀b u,s.heap.get? b=↑u->h'.get? b=↑u):Inv X pq O H { s with heap:=h',toks:=t' }:=I.un (Un.kept k)<|I.hok.kept k
theorem Inv.laid{a:Addr}   (I:Inv X pq O H s)(k:∀b u,s.heap.get? b=↑u->h'.get? b=↑u)(c:s.heap.objs.size<=a)(new:DG X.prog X.w (upd H a o) h' a o) :
  Inv X pq O (upd H a o) { s with heap:=h',toks:=t' }:=I.un (Un.laid k c<|I.hok.fresh c)<|I.hok.laid k c new
theorem Inv.write(I:Inv X pq O H s)(mu:LS<|H x)(c:e=x\/H e=↑(.own x))(k:∀b u,b≠e->s.heap.get? b=↑u->h'.get? b=↑u)(a:∃u,h'.get? e=↑u)
  (new:DG X.prog X.w (upd H x o) h' x o):Inv X pq O (upd H x o) { s with heap:=h',toks:=t' }:=I.un (Un.write mu c k a)<|I.hok.write mu c k a new
theorem Inv.pins_of(I:Inv X pq O H s)(h:∀p∈pins',s.heap.get? p.1=↑p.2/\H p.1=none/\p.1≠X.env.locals/\p.1∉X.fs/\∀v,p.2.data≠.cell v):Inv X pins' O H s:=
 {I.ok,I.os,I.bare,I.base,I.loc,I.cell,I.free,I.freeC,λp a=>(ä.mp a).elim (λz=>I.pin p<|ù _ z) (h p),I.hok,I.len}
def Z3{N:kE}(e:N.Nodup){i j:Nat}(a:N[i]?=↑x)(b:N[j]?=↑x):i=j:=by
 let(f,c):=Ñ.mp a;let(g,d):=Ñ.mp b;exact(Ĩ e).mp (c.trans d.symm)
def WY(I:Inv X pq O H s)(hN:X.N.Nodup)(R:X.N[i]?=↑x)(w:HP X.env.scope x)(r:Ab v u)
  (h:∀s',Inv X pq (O.set i ↑v) H s'->(∃a,Heap.SameBut a s.heap s'.heap/\(a=X.env.locals\/X.env.cells.lookup x=↑a))->Q () s') (hf:X.fn x=true\/X.env.scope.names.lookup x=↑.local:=by first|exact .inl rfl|exact .inr rfl|assumption):wpAny M A (storeName X.env x u) Q E s:=by
 let(m,Y,hl):=id I.loc;have P:(X.env.scope.kind == .class || (X.env.scope.kind == .module && X.env.locals != X.env.globals))=false:=by rw[I.ok.kind];rfl
 have D:i<O.length:=by rw[I.len];exact(Ñ.mp R).1
 have cne:=I.cne
 have l:∀{a } {K },(∃o,s.heap.get? a=↑o/\H a=none)->Heap.SameBut a s.heap K->HOk X.prog X.w H K:=fun  ha f b ob e=>by
  let(_,_,B):=ha;refine(I.hok b ob e).stay (λc V t q=>(f.2 c ?_).trans q) (λϊ q=>q) λϊ ϊ q=>q
  rintro rfl
  rcases t with rfl|t
  .rw[B]at e;cases e
  .rw[B]at t;cases t
 rcases w with hk|hk
 .refine wpAny_storeName_local hk Y (λK Z f=>?_) P
  let(oL,_,_,hoL,_):=id Y;refine h _ {I.ok,I.os,I.bare,{λb o e n F w=>?_,λb o e n F w=>?_,I.base.free,λb o e w=>?_,I.base.tups,I.base.frzs,I.base.tbls},{_,Z,λj y v' g C W=>?_},λy c e=>?_,I.free,I.freeC,λp hp=>?_,l {(oL),hoL,I.free} f,by simpa using I.len} {_,f,.inl rfl}
  .exact(f.2 b<|Õ<|Û (Ä e) I.ok.above).trans (I.base.keep b o e n F w)
  .let(sl,g):=I.base.slot b o e n F w;exact{sl,(f.2 b<|Õ<|Û (Ä e) I.ok.above).trans g}
  .let(o',g):=I.base.there b o e w;exact{o',(f.2 b<|Õ<|Û (Ä e) I.ok.above).trans g}
  .by_cases J:j=i
   .subst J;rw[R]at g;cases g;rw[é D]at C;cases C;exact{u,r,.inl {hk,by simp}}
   .rw[æ<|Î J]at C;let(u',r',q):=hl j y v' g C W;refine{u',r',?_}
    rcases q with ⟨k,e⟩|⟨k,c,e,z⟩
    .refine .inl {k,?_};have:y≠x:=λe=>J<|Z3 hN g<|e▸R
     simp[this,e]
    .exact .inr {k,c,e,z.sameBut f<|cne y c e}
  .let(V,z):=I.cell y c e;exact{V,z.sameBut f<|cne y c e}
  .let(e,n,ne,nf,d):=I.pin p hp;exact{(f.2 p.1 ne).trans e,n,ne,nf,d}
 .have G:X.fn x=true:=by
   rcases hf with z|z
   .exact z
   .rw[z]at hk;cases hk
  let(c,t):=I.ok.has x<|.inl hk;let(V,z):=I.cell x c t;refine wpAny_storeName_cell I.ok.kind hk t z<|λK L f=>?_
  let(oc,S,T):=id z;refine h { s with heap:=K } {I.ok,I.os,I.bare,{λb o e n F w=>?_,λb o e n F w=>?_,I.base.free,λb o e w=>?_,I.base.tups,I.base.frzs,I.base.tbls},{m,Y.sameBut f<|Î<|cne x c t,λj y v' g C W=>?_},λy U e=>?_,I.free,I.freeC,λp hp=>?_,l {oc,S,I.freeC x c t} f,by simpa using I.len} {c,f,.inr t}
  .exact(f.2 b<|Õ<|Û (Ä e)<|I.ok.cab x c G t).trans (I.base.keep b o e n F w)
  .let(sl,g):=I.base.slot b o e n F w;exact{sl,(f.2 b<|Õ<|Û (Ä e)<|I.ok.cab x c G t).trans g}
  .let(o',g):=I.base.there b o e w;exact{o',(f.2 b<|Õ<|Û (Ä e)<|I.ok.cab x c G t).trans g}
  .by_cases J:j=i
   .subst J;rw[R]at g;cases g;rw[é D]at C;cases C;exact{u,r,.inr {.inl hk,c,t,L}}
   .rw[æ<|Î J]at C;let(u',r',q):=hl j y v' g C W;refine{u',r',?_}
    rcases q with q|⟨k,U,e,z'⟩
    .exact .inl q
    .refine .inr {k,U,e,z'.sameBut f ?_};rintro rfl;exact J<|Z3 hN g<|I.ok.inj _ _ _ e t▸R
  .by_cases N:U=c
   .subst N;exact{_,L}
   .let(w2,z2):=I.cell y U e;exact{w2,z2.sameBut f N}
  .let(e,n,ne,nf,d):=I.pin p hp;refine{(f.2 p.1 ?_).trans e,n,ne,nf,d};intro q;rw[q,S]at e;have q' :=Ý e;exact d V (by rw[<- q'];exact T)
theorem Lv(I:Inv X pq O H s)(b:X.N.Nodup)(d:X.N[i]?=↑x)(e:HP X.env.scope x)(r:Ab v u)
  (h:∀s',Inv X pq (O.set i ↑v) H s'->Q () s') (c:X.fn x=true\/X.env.scope.names.lookup x=↑.local):wpAny M A (storeName X.env x u) Q E s:=
 WY I b d e r (λs' a ϊ=>h s' a) c
def Inv.call'(I:Inv X pq O H s)(f:s'.os=s.os)(u:Un (Ba X.stack) ch H H' s.heap s'.heap)(hok:HOk X.prog X.w H' s'.heap)(d:AllBare s'.gens)
  (a:∀b∈ch,(b∈X.ex\/X.s₀.heap.objs.size<=b)/\b≠X.env.locals/\(∀x c,X.env.cells.lookup x=↑c->c≠b)/\∀p∈X.pn++pq,p.1≠b):Inv X pq O H' s':=by
 let(i,h,g,k,j):=s';have e :=f;subst e;exact I.call u hok d a
end
abbrev XK:=Value->Option Addr->Hp->Prop
abbrev St:=List<|Option V
abbrev VK:=V->Hp->Prop
abbrev TE:=St->Hp->VK->Prop
abbrev TT:=St->Hp->(Bool->Hp->Prop)->Prop
abbrev TA:=St->Hp->(kK->Hp->Prop)->Prop
structure Ends where
 nx:St->Hp->Prop
 rt:VK
 bk:St->Hp->Prop:=λϊ ϊ=>False
 ct:St->Hp->Prop:=λϊ ϊ=>False
abbrev TS:=Ends->St->Hp->Prop
def EP(X:Cx)(b:List<|Addr×Obj)(O:St)(Q:VK)(u:Value)(s':Shared):Prop:=∃v a,Inv X b O a s'/\Ab v u/\Q v a
def TP(X:Cx)(c:List<|Addr×Obj)(O:St)(Q:Bool->Hp->Prop)(b:Bool)(s':Shared):Prop:=∃a,Inv X c O a s'/\Q b a
def AP(X:Cx)(c:List<|Addr×Obj)(O:St)(Q:kK->Hp->Prop)(us:k9)(s':Shared):Prop:=∃b a,Inv X c O a s'/\Ac b us/\Q b a
def SP(X:Cx)(c:List<|Addr×Obj)(D:Ends)(f:Flow)(s':Shared):Prop:=
 match f with
 |.next=>∃b a,Inv X c b a s'/\D.nx b a|.brk=>∃b a,Inv X c b a s'/\D.bk b a|.cont=>∃b a,Inv X c b a s'/\D.ct b a|.ret u=>∃v b a,Inv X c b a s'/\Ab v u/\D.rt v a
def PE(X:Cx)(e:Expr)(t:TE):Prop:=
 ∀(a:List<|Addr×Obj) (s:Shared) (O:St) (H:Hp) (Q:VK),Inv X a O H s->t O H Q->wpAny (model X.prog X.w) X.A (eval e X.env) (EP X a O Q) X.xe s
def PT(X:Cx)(e:Expr)(t:TT):Prop:=
 ∀(a:List<|Addr×Obj) (s:Shared) (O:St) (H:Hp) (Q:Bool->Hp->Prop),Inv X a O H s->t O H Q->wpAny (model X.prog X.w) X.A (isTrue e X.env<|eval e X.env) (TP X a O Q) X.xe s
def PW(X:Cx)(e:Expr)(t:TT):Prop:=
 ∀(a:Sem Value) (b:List<|Addr×Obj) (s:Shared) (O:St) (H:Hp) (Q:Bool->Hp->Prop),Inv X b O H s->t O H Q->wpAny (model X.prog X.w) X.A (isTrue e X.env a) (TP X b O Q) X.xe s
theorem PW.pt{X:Cx}{e:Expr}{t:TT}(h:PW X e t):PT X e t:=h _
def PA(X:Cx)(es:kC)(t:TA):Prop:=
 ∀(a:Pos) (b:List<|Addr×Obj) (s:Shared) (O:St) (H:Hp) (Q:kK->Hp->Prop),Inv X b O H s->t O H Q->wpAny (model X.prog X.w) X.A (spliced<|backTo a<|starEach es X.env) (AP X b O Q) X.xe s
def PS(X:Cx)(st:Stmt)(t:TS):Prop:=
 ∀(a:List<|Addr×Obj) (s:Shared) (O:St) (H:Hp) (D:Ends),Inv X a O H s->t D O H->wpAny (model X.prog X.w) X.A (exec st X.env) (SP X a D) X.xe s
def B8(X:Cx)(st:kD)(t:TS):Prop:=
 ∀(a:List<|Addr×Obj) (s:Shared) (O:St) (H:Hp) (D:Ends),Inv X a O H s->t D O H->wpAny (model X.prog X.w) X.A (execs st X.env) (SP X a D) X.xe s
theorem AX{t:Sem α}      (h:wpAny M A t Q E s)(b:∀a s,Q a s->Q' a s):wpAny M A t Q' E s:=ñ h b λϊ ϊ x=>x
section
variable {X:Cx}
def Vu(i:Nat):TE:=λO H Q=>∃v,O[i]?=↑↑v/\Q v H
def tC(v:V):TE:=λϊ H Q=>Q v H
def Gp{pos}(f:X.N[i]?=↑x)(n:Em X.env.scope x)(hd:(x == "__debug__")=false)(b:(x == "__classdict__")=false):PE X (.Name x pos)<|Vu i:=by
 intro o s O H Q I h;let(v,e,h):=h;let(m,k,g):=I.loc;let(u,r,l):=g i x v f e n;have Az:EP X o O Q u s:={(v),H,I,r,h}
 rcases l with ⟨hk,j⟩|⟨hk,c,d,a⟩
 .exact wpAny_Name (wpAny_loadName_local I.ok.kind hk k j Az) hd
 .rcases hk with hk|hk
  .exact wpAny_Name (wpAny_loadName_cell I.ok.kind hk d a Az) hd
  .exact wpAny_Name (wpAny_loadName_free I.ok.kind hk d a Az b) hd
theorem zon:PE X (.Constant (.int i) j pos)<|tC<|.int i:=λϊ ϊ ϊ H ϊ I h=>wpAny_Constant_int {.int i,H,I.tok _,{_,rfl},h}
theorem pe_bl:PE X (.Constant (.bool b) j pos)<|tC<|.bl b:=λϊ ϊ ϊ H ϊ I h=>Constant_bool {.bl b,H,I,rfl,h}
theorem zok:PE X (.Constant .none j pos)<|tC .non:=λϊ ϊ ϊ H ϊ I h=>Constant_none {.non,H,I,rfl,h}
theorem zoh:PE X (.Constant (.str x) j pos)<|tC<|.str x:=λϊ ϊ ϊ H ϊ I h=>Calls.Constant_str {.str x,H,I.tok _,{_,rfl},h}
def Gl(X:Cx)(x:Str):Prop:=X.env.kindOf x=↑.globalImplicit
theorem Mj{O:St}(I:Inv X pq O H s)(a:Gl X x)(b:X.mg x=↑u)(h:Q u s)
  (hd:(x == "__debug__")=false):wpAny (model X.prog X.w) X.A (eval (.Name x pos) X.env) Q E s:=
 Calls.Name_function_global I.ok.kind a (Calls.loadGlobal_global (by rw[I.ok.glob];exact I.mod.glob.keeps I.bk) b h) hd
def Fu{E}{O:St}{pos}(I:Inv X pq O H s)(c:Gl X x)(d:X.mg x=none)(f:bootBuiltins x=↑u)(h:Q u s)
  (e:x≠"__name__":=by decide) (hd:(x == "__debug__")=false:=by decide):wpAny (model X.prog X.w) X.A (eval (.Name x pos) X.env) Q E s:=by
 let(g,a,b):=I.mod.blt;exact Calls.Name_function_global I.ok.kind c (Calls.loadGlobal_builtin (by rw[I.ok.glob];exact I.mod.glob.keeps I.bk) d (by rw[I.ok.blt];exact a.keeps I.bk) ((b x e).trans f) h) hd
theorem Xf(a:Gl X x)(b:X.mg x=↑u)(r:Ab v u)(hd:(x == "__debug__")=false):PE X (.Name x pos)<|tC v:=
 λϊ ϊ ϊ H ϊ I h=>Mj I a b {(v),H,I,r,h} hd
theorem zkp{x:Str}{v:V}{u:Value}{pos:Pos}(a:Gl X x)(b:X.mg x=none)(d:bootBuiltins x=↑u)(r:Ab v u)(c:x≠"__name__")(hd:(x == ("__debug__":Str))=false):PE X (.Name x pos)<|tC v:=
 λϊ ϊ ϊ H ϊ I h=>Fu I a b d {(v),H,I,r,h} c hd
variable {a b:Expr}{ta tb:TE}{pos:Pos}
def tB(t:TE):TT:=λO H Q=>t O H λx a=>∃c,x=.bl c/\Q c a
def RC(h:PE X e t)(c:∀whole,isTrue e X.env whole=(do let v <- whole;standAt e.pos;holding [v] (truthy v))):PT X e<|tB t:=by
 intro g s O H Q I f;refine isTrue_plain (AX (h g s O H _ I f) λv s1 j=>?_)<|c _
 let(x,a,b,r1,i):=j;let(d,rfl,q):=i;cases r1;exact Ĉ {(a),b,q}
variable {tA tB':TT}{rest:kC}
def tAnd(t u:TT):TT:=λO H Q=>t O H λc a=>if c=true then u O a Q else Q false a
def tOr(t u:TT):TT:=λO H Q=>t O H λc a=>if c=true then Q true a else u O a Q
def WA(t:TT):TT:=λO H Q=>t O H λc a=>Q (!c) a
def zka(b:PT X a tA):PW X (.BoolOp .And [a] pos) tA:=by
 intro f d s O H Q I h;refine isTrue_and<|AX (b d s O H Q I h) λc s1 e=>?_
 cases c with
 |true=>exact isTrue_and_nil e|false=>exact e
def zo5(b:PT X a tA):PW X (.BoolOp .Or [a] pos) tA:=by
 intro f d s O H Q I h;refine isTrue_or<|AX (b d s O H Q I h) λc s1 e=>?_
 cases c with
 |false=>exact isTrue_or_nil e|true=>exact e
def zo6(i:PT X a tA)(j:PW X (.BoolOp .And (b::rest) pos) tB'):PW X (.BoolOp .And (a::b::rest) pos)<|tAnd tA tB':=by
 intro k f s O H Q I h;refine isTrue_and<|AX (i f s O H _ I h) λc s1 l=>?_
 let(d,e,g):=l;cases c with
 |true=>exact j k f s1 O d Q e g|false=>exact{(d),e,g}
def pw_or(i:PT X a tA)(j:PW X (.BoolOp .Or (b::rest) pos) tB'):PW X (.BoolOp .Or (a::b::rest) pos)<|tOr tA tB':=by
 intro k f s O H Q I h;refine isTrue_or<|AX (i f s O H _ I h) λc s1 l=>?_
 let(d,e,g):=l;cases c with
 |true=>exact{(d),e,g}|false=>exact j k f s1 O d Q e g
def X8(d:PT X a tA):PT X (.UnaryOp .Not a pos)<|WA tA:=by
 intro e s O H Q I h;exact isTrue_not<|d e s O H (λc b=>Q (!c) b) I h
def tAndV(b d:TE):TE:=λO H Q=>b O H λx a=>∃c,x=.bl c/\if c=true then d O a Q else Q (.bl false) a
def tOrV(b d:TE):TE:=λO H Q=>b O H λx a=>∃c,x=.bl c/\if c=true then Q (.bl true) a else d O a Q
def Vz(b:TE):TE:=λO H Q=>b O H λx a=>∃c,x=.bl c/\Q (.bl<|!c) a
theorem zoi(h:PE X a t):PE X (.BoolOp op [a] pos) t:=λc s O H Q I b=>BoolOp_one<|h c s O H Q I b
def zoo(i:PE X a ta)(j:PE X (.BoolOp .And (b::rest) pos) tb):PE X (.BoolOp .And (a::b::rest) pos)<|tAndV ta tb:=by
 intro g s O H Q I h;refine BoolOp_and<|AX (i g s O H _ I h) λv s1 k=>?_
 let(x,e,f,r1,d):=k;let(c,rfl,d):=d;cases r1;refine Ĉ ?_;cases c with
 |true=>exact j g s1 O e Q f d|false=>exact{.bl false,e,f,rfl,d}
def pe_or(i:PE X a ta)(j:PE X (.BoolOp .Or (b::rest) pos) tb):PE X (.BoolOp .Or (a::b::rest) pos)<|tOrV ta tb:=by
 intro g s O H Q I h;refine BoolOp_or<|AX (i g s O H _ I h) λv s1 k=>?_
 let(x,e,f,r1,d):=k;let(c,rfl,d):=d;cases r1;refine Ĉ ?_;cases c with
 |false=>exact j g s1 O e Q f d|true=>exact{.bl true,e,f,rfl,d}
def zoj(f:PE X a ta):PE X (.UnaryOp .Not a pos)<|Vz ta:=by
 intro g s O H Q I h;refine UnaryOp_<|AX (f g s O H _ I h) λv s1 i=>?_
 let(x,d,e,r1,b):=i;let(c,rfl,b):=b;cases r1;exact not_of<|Ĉ {.bl<|!c,d,e,rfl,b}
def tIf(t:TT)(b d:TE):TE:=λO H Q=>t O H λc a=>if c=true then b O a Q else d O a Q
def zhj(l:PT X c tA)(j:PE X a ta)(k:PE X b tb):PE X (.IfExp c a b pos)<|tIf tA ta tb:=by
 intro e s O H Q I h;refine wpAny_IfExp<|AX (l e s O H _ I h) λd s1 m=>?_
 let(f,g,i):=m;cases d with
 |true=>exact j e s1 O f Q g i|false=>exact k e s1 O f Q g i
end
def A3(K:k6)(H:Hp)(a:Addr)(xs:kK):Prop:=
 Rd H a (.lst xs) \/
  ∃(o:Obj) (b:Array Value) (n:Nat),K.lookup a=↑o/\o.cls=.type "list"/\o.dict=none/\o.data=.seq b n/\b.size<=sizeLine/\Ac xs b.toList
def By(K:k6)(H:Hp)(a:Addr)(xs:kK):Prop:=
 Rd H a (.tup xs) \/
  ∃(o:Obj) (b:Array Value) (n:Nat),K.lookup a=↑o/\o.cls=.type "tuple"/\o.data=.seq b n/\b.size<=sizeLine/\Ac xs b.toList
def absV:Value->Option V
 |.none=>↑.non|.bool b=>↑(.bl b)|.int i ϊ=>↑(.int i)|.str x ϊ=>↑(.str x)|.bytes b ϊ=>↑(.byt b)|.float b ϊ=>↑(.flt b)|.ref a=>↑(.ref a)|.type n=>↑(.ty n)|ϊ=>none
def Ab.abs(r:Ab x u):absV u=↑x:=by
 cases x with
 |non=>cases r;rfl|bl ϊ=>cases r;rfl|int ϊ=>let(t,rfl):=r;rfl
 |str ϊ=>let(t,rfl):=r;rfl
 |byt ϊ=>let(t,rfl):=r;rfl
 |flt ϊ=>let(t,rfl):=r;rfl
 |ref ϊ=>cases r;rfl|ty ϊ=>cases r;rfl
def Ab.inj(r:Ab x u)(q:Ab y u):x=y:=Ý<|r.abs.symm.trans q.abs
def Ac.inj:∀{xs ys} {us},Ac xs us->Ac ys us->xs=ys
 |_,_,_,.nil,.nil=>rfl|_,_,_,.cons r t,.cons a b=>by rw[r.inj a,Ac.inj t b]
section
variable {X:Cx}{pq:List<|Addr×Obj}{O:St}{H:Hp}{s:Shared}{a:Addr}{xs ys:kK}
theorem A3.of{K:k6}(h:H a=↑(.lst xs)):A3 K H a xs:=.inl<|.inl h
theorem By.of{K:k6}(h:H a=↑(.tup xs)):By K H a xs:=.inl<|.inl h
def Inv.list(I:Inv X pq O H s)(h:A3 X.K H a xs):∃its ,Ac xs its/\PlainL s.heap a its.toArray/\xs.length<=sizeLine:=by
 rcases h with h|⟨o,its,n,hk,b,hd,c,d,r⟩
 .let(z,its,n,r,e):=h.ok I.hok;exact{its,r,{_,n,e,rfl,rfl,rfl},z}
 .refine{its.toList,r,{o,n,I.kIn a o hk,b,hd,by lia},?_}
  have e:=r.length
  grind
def Inv.tuple(I:Inv X pq O H s)(h:By X.K H a xs):∃its ,Ac xs its/\IsTup s.heap a its.toArray/\xs.length<=sizeLine:=by
 rcases h with h|⟨o,its,n,hk,b,c,d,r⟩
 .let(z,its,r,p):=h.ok I.hok
  grind
 .refine{its.toList,r,{o,I.kIn a o hk,b,n,by lia},?_}
  have e:=r.length
  grind
def Inv.list_inj(I:Inv X pq O H s)(h:A3 X.K H a xs)(h':A3 X.K H a ys):xs=ys:=by
 let(c,r,(o,n,e,_,_,d),_):=I.list h;let(b,f,(k,j,i,_,_,g),_):=I.list h';have:c=b:=by grind
 subst this;exact r.inj f
def Inv.tuple_inj(I:Inv X pq O H s)(h:By X.K H a xs)(h':By X.K H a ys):xs=ys:=by
 let(c,r,(o,e,_,n,d),_):=I.tuple h;let(b,f,(k,i,_,j,g),_):=I.tuple h';have:c=b:=by grind
 subst this;exact r.inj f
variable {E:Value->Shared->Prop}
end
section
variable {X:Cx}{st:Stmt}{rest:kD}{t u:TS}{e:Expr}{te:TE}{pos:Pos}
def WC:TS:=λD O H=>D.nx O H
def Vx(t u:TS):TS:=λD O H=>t { D with nx:=u D } O H
theorem zkf:B8 X [] WC:=λϊ ϊ O H ϊ I h=>ş {(O),H,I,h}
def zhd(e:PS X st t)(g:B8 X rest u):B8 X (st::rest)<|Vx t u:=by
 intro a s O H D I h;refine wpAny_execs_cons<|AX (e a s O H { D with nx:=u D } I h) λf s1 q=>?_
 cases f with
 |next=>let(d,b,c,q):=q;exact g a s1 d b D c q
 |ret v=>exact q|brk=>exact q|cont=>exact q
def zke(a:PS X st t):B8 X [st] t:=by
 intro b s O H D I h;refine wpAny_execs_cons<|AX (a b s O H D I h) λf s1 q=>?_
 cases f with
 |next=>exact ş q|ret v=>exact q|brk=>exact q|cont=>exact q
def zn0:TS:=λD O H=>D.bk O H
def tCont:TS:=λD O H=>D.ct O H
theorem zkg:PS X (.Pass pos) WC:=λϊ ϊ O H ϊ I h=>wpAny_Pass {(O),H,I,h}
theorem zhg:PS X (.Break pos) zn0:=λϊ ϊ O H ϊ I h=>wpAny_Break {(O),H,I,h}
theorem zd3:PS X (.Continue pos) tCont:=λϊ ϊ O H ϊ I h=>wpAny_Continue {(O),H,I,h}
def Inv.quiet{O:St}   (I:Inv X pq O H s):interactive X.env=false:=by simp[interactive,I.ok.kind]
def tDrop(b:TE):TS:=λD O H=>b O H λϊ a=>D.nx O a
def RE(a:PE X e te)(b:swapsWith e none pos.line X.env=pure false):PS X (.Expr e pos)<|tDrop te:=by
 intro c s O H D I h;exact wpAny_Expr_any (AX (a c s O H _ I h) λv s1 ⟨x,H1,I1,r1,q1⟩=>{(O),H1,I1,q1}) I.quiet b
def tRet(a:TE):TS:=λD O H=>a O H D.rt
def Xb(a:PE X e te):PS X (.Return ↑e pos)<|tRet te:=by
 intro b s O H D I h;exact wpAny_Return_some<|AX (a b s O H _ I h) λv s1 ⟨x,H1,I1,r1,q1⟩=>{(x),O,H1,I1,r1,q1}
def tRetN:TS:=λD ϊ H=>D.rt .non H
theorem Xa:PS X (.Return none pos) tRetN:=λϊ ϊ O H ϊ I h=>wpAny_Return_none {.non,O,H,I,rfl,h}
def tIfS(c:TT)(t u:TS):TS:=λD O H=>c O H λb a=>if b=true then t D O a else u D O a
def RD(l:PT X c tc)(j:B8 X a t)(k:B8 X b u):PS X (.If c a b pos)<|tIfS tc t u:=by
 intro e s O H D I h;refine wpAny_If<|AX (l e s O H _ I h) λd s1 m=>?_
 let(f,g,i):=m;cases d with
 |true=>exact j e s1 O f D g i|false=>exact k e s1 O f D g i
end
abbrev TG:=V->St->Hp->(St->Hp->Prop)->Prop
abbrev JG:=kK->St->Hp->(St->Hp->Prop)->Prop
def PG(X:Cx)(a:Expr)(t:TG):Prop:=
 ∀(d:List<|Addr×Obj) (s:Shared) (O:St) (H:Hp) (v:V) (u:Value) (Q:St->Hp->Prop),Inv X d O H s->Ab v u->t v O H Q ->
  wpAny (model X.prog X.w) X.A (assign a X.env u) (λϊ e=>∃c b,Inv X d c b e/\Q c b) X.xe s
def EV(X:Cx)(ts:kC)(t:JG):Prop:=
 ∀(c:List<|Addr×Obj) (s:Shared) (O:St) (H:Hp) (e:kK) (d:k9) (Q:St->Hp->Prop),Inv X c O H s->Ac e d->t e O H Q ->
  wpAny (model X.prog X.w) X.A (assignInOrder ((assignEach ts X.env).map (·.2)) d) (λϊ f=>∃b a,Inv X c b a f/\Q b a) X.xe s
abbrev Uq:=V->V->V->Hp->(Hp->Prop)->Prop
def Uz(X:Cx)(t:Uq):Prop:=
 ∀(d:List<|Addr×Obj) (s:Shared) (O:St) (H:Hp) (o i v:V) (c b u:Value) (Q:Hp->Prop),Inv X d O H s->Ab o c->Ab i b->Ab v u->t o i v H Q ->
  wpAny (model X.prog X.w) X.A (setItem c b u) (λϊ e=>∃a,Inv X d O a e/\Q a) X.xe s
section
variable {X:Cx}{pos:Pos}
def GY(i:Nat):TG:=λv O H Q=>Q (O.set i ↑v) H
def zkm{i:Nat}{x:Str}(b:X.N.Nodup)(d:X.N[i]?=↑x)(e:HP X.env.scope x)(c:X.fn x=true\/X.env.scope.names.lookup x=↑.local):PG X (.Name x pos)<|GY i:=by
 intro f s O H v u Q I r h;exact wpAny_assign_Name<|Lv I b d e r (λg a=>{_,H,a,h}) c
def gNil:JG:=λa O H Q=>a=[]/\Q O H
def gCons(t:TG)(u:JG):JG:=λc O H Q=>∃v r,c=v::r/\t v O H λb a=>u r b a Q
def zkl:EV X [] gNil:=by
 intro a s O H c b Q I r h;let(e,h):=h;exact assignInOrder_nil {(O),H,I,h}
def zhi(g:PG X e t)(i:EV X es u)
  (j:(assignEach (e::es) X.env).map (·.2)=assign e X.env::(assignEach es X.env).map (·.2)):EV X (e::es)<|gCons t u:=by
 intro a s O H p n Q I r h;let(v,o,f,h):=h;subst f;cases r with
 |cons r l=>
  rw[j];refine Ρ<|AX (g a s O H _ _ _ I r h) λϊ s1 m=>?_
  let(d,b,c,k):=m;exact i a s1 d b _ _ Q c l k
def T5(K:k6)(n:Nat)(t:JG):TG:=λv O H Q=>∃a xs,v=.ref a/\By K H a xs/\xs.length=n/\t xs O H Q
def zoe{k}(i:X.calm=true)(h:EV X es t)
  (l:(assignEach es X.env).length=n) (c:(assignEach es X.env).findIdx? (·.1)=none):PG X (.Tuple es k pos)<|T5 X.K n t:=by
 intro x s O H v u Q I r d;let(a,xs,g,m,j,d):=d;subst g;cases r;let(w,y,p,A):=I.tuple m;refine assign_Tuple_tuple (I.ok.hd i) p (by simp[l,<- j,y.length]) c λz q=>?_
 have f :=I.kept (t':=s.toks) λb o e=>q b o (Õ<|Ä e) e
 exact h x _ O H xs _ Q f (by lia) d
def gSub(d ti:TE)(t:Uq):TG:=λv O H Q=>d O H λo a=>ti O a λi b=>t o i v b λc=>Q O c
def RI(l:PE X o to)(k:PE X i ti)(m:Uz X t)
  (A : ∀ v, assign (.Subscript o i pos) X.env v = (do
   let ov <- holding [v]<|eval o X.env;let iv <- holding [v,ov] (eval i X.env)
   standAt pos
   holding [v,ov,iv] (setItem ov iv v)
   release [v,ov,iv] []):=by rfl):PG X (.Subscript o i pos)<|gSub to ti t:=by
 intro b s O H v u Q I r h;refine À<|ò<|AX (l b s O H _ I h) λov s1 a=>?_
 let(x,c,f,r1,n):=a;refine À<|ò<|AX (k b s1 O c _ f n) λiv z a=>?_
 let(y,d,g,w,p):=a;refine À<|ĭ<|À<|ò<|AX (m b z O d x y v ov iv u _ g r1 w r p) λϊ B a=>?_
 let(e,j,q):=a;exact wpAny_release {(O),e,j,q}
def Gc(b:TE)(g:TG):TS:=λD O H=>b O H λx a=>g x O a D.nx
def MR{a e:Expr}{c:TE}{g:TG}(j:PE X e c)(k:PG X a g)(l:swapsWithSole [a] e pos.line X.env=pure false)(m:swappedStores [a] e X.env=pure none)
  (i:(assignEach [a] X.env).map (·.2)=[assign a X.env]):PS X (.Assign [a] e pos)<|Gc c g:=by
 intro b s O H D I h;refine wpAny_Assign_stores (AX (j b s O H _ I h) λv s1 o=>?_) l m
 let(x,d,f,r1,n):=o;rw[i];exact AX (k b s1 O d x v _ f r1 n) λϊ p q=>q
def X9(d:X.N.Nodup)(j:X.N[i]?=↑x)(l:HP X.env.scope x)(f:PE X e te)(k:swapsWith e (↑(.Name x pos')) pos.line X.env=pure false)(g:X.fn x=true\/X.env.scope.names.lookup x=↑.local) :
  PS X (.Assign [.Name x pos'] e pos) (Gc te<|GY i):=by
 intro m s O H D I h;refine wpAny_Assign_Name (AX (f m s O H _ I h) λv s1 o=>?_) k
 let(y,a,b,r1,n):=o;exact Lv b d j l r1 (λp c=>{_,a,c,n}) g
def tPar(i j:Nat)(b:TA):TS:=λD O H=>b O H λc a=>∃v w,c=[v,w]/\D.nx ((O.set i ↑v).set j ↑w) a
def zo7(K:X.calm=true)(t:X.N.Nodup)(L:X.N[i]?=↑x)(M:X.N[j]?=↑y)(g:i≠j)
  (u:X.env.scope.names.lookup x=↑.local) (z:X.env.scope.names.lookup y=↑.local) (J:PA X [a,b] ta)
  (P:swappedStores [.Tuple [.Name x px,.Name y py] kt pt] (.Tuple [a,b] k2 pt2) X.env=pure (↑[x,y]))
  (N:swapsWithSole [.Tuple [.Name x px,.Name y py] kt pt] (.Tuple [a,b] k2 pt2) pos.line X.env=pure false) :
  PS X (.Assign [.Tuple [.Name x px,.Name y py] kt pt] (.Tuple [a,b] k2 pt2) pos) (tPar i j ta):=by
 intro A s O H D I h;rw[exec_Assign_arm];refine À<|ĭ ?_;rw[N];refine À<|Ç ?_;rw[if_neg<|by decide]
 refine À<|Tuple_<|AX (J _ A s O H _ I h) λT s1 U=>?_
 let(Z,n,B,r1,l):=U;let(v,w,G,l):=l;subst G
 let(d,f,rfl,S,m):∃d f,T=[d,f]/\Ab v d/\Ab w f:=by
  cases r1 with
  |cons p q=>
   cases q with
   |cons Q R=>cases R;exact{_,_,rfl,p,Q}
 refine Τ ?_ (by show 2<=sizeLine;decide)
 have C:Inv X A O n { s1 with heap:=s1.heap.push { cls:=.type "tuple",data:=.seq [d,f].toArray } }:=B.kept λb o e=>Ð _ e
 rw[P];refine À<|Ç ?_;show wpAny (model X.prog X.w) X.A (do rule "assign.swapped-stores";let c <- unpackItems (.ref s1.heap.objs.size) 2 none;assignInOrder [λv=>bindName X.env y v,λv=>bindName X.env x v] c.reverse;pure Flow.next) _ _ _
 refine À<|wpAny_rule<|À<|unpackItems_tuple (items:=#[d,f]) (I.ok.hd K) (IsTup.new s1.heap _) λV k=>?_
 have E:=C.kept (t':=s1.toks) λb o e=>k b o (Õ<|Ä e) e
 show wpAny _ _ (assignInOrder [λv=>bindName X.env y v,λv=>bindName X.env x v] [f,d] >>= λϊ=>pure Flow.next) _ _ _
 refine À<|Ρ<|wpAny_bindName<|Lv E t M (.inl z) m (λW F=>?_)<|.inr z
 refine Ρ<|wpAny_bindName<|Lv F t L (.inl u) S (λY r=>assignInOrder_nil<|Ç ?_)<|.inr u
 rw[List.set_comm _ _<|Î g]at r;exact{_,n,r,l}
def zmt(c:TT)(g:TS):TS:=λD O H=>∃W:Nat->St->Hp->Prop,(∃m,W m O H)/\∀m O H,W m O H ->
 c O H λb d=>if b=true then ∃N:St->Hp->Prop,(∀e a,N e a->∃f,f<m/\W f e a)/\g { D with nx:=N,ct:=N,bk:=D.nx } O d else D.nx O d
def zhe(q:PassesOwn (model X.prog X.w) X.A X.env X.xe)(x:PT X c tc)(w:B8 X body tb):PS X (.While c body [] pos)<|zmt tc tb:=by
 intro i s O H D I h;let(W,(y,C),a):=h;refine wpAny_While<|codeAny_whileLoop (λn A=>∃p k,Inv X i p k A/\W n p k) ?_ y {(O),H,I,C}
 rintro n s1 ⟨d,l,t,E⟩;refine ĝ q<|AX (x i s1 d l _ t<|a n d l E) λb B F=>?_
 let(m,o,e):=F;cases b with
 |true=>
  let(N,G,e):=e;rw[if_pos rfl];refine ĝ q<|AX (w i B d m _ o e) λf J g=>?_
  cases f with
  |next=>
   let(j,r,u,z):=g
   grind
  |cont=>
   let(j,r,u,z):=g
   grind
  |brk=>exact g|ret v=>exact g
 |false=>rw[if_neg Ā];exact ş {(d),m,o,e}
end
structure It where
 go:Nat->Hp->Prop
 yld:Nat->Hp->V->Hp->Prop
 stop:Nat->Hp->Prop
def C8(X:Cx)(a:List<|Addr×Obj)(H:Hp)(b:Addr):Prop:=
 H b=none/\b≠X.env.locals/\b∉X.fs/\(b∈X.ex\/X.s₀.heap.objs.size<=b)/\(∀x c,X.env.cells.lookup x=↑c->c≠b)/\∀p∈X.pn++a,p.1≠b
def Inv.fpOk{X:Cx}{O:St}{b:Addr}(I:Inv X pq O H s)(a:s.heap.objs.size<=b)(d:H' b=none):C8 X pq H' b:=by
 refine{d,Ī<|Û I.lt a,I.nofs a,.inr<|Ü I.sz a,λx c e z=>?_,λp f z=>?_}
 .let(v,q):=I.cell x c e;exact absurd (Û q.lt<|by grind)<|Þ _
 .exact absurd (Û (Ä (I.pin p f).1)<|by grind)<|Þ _
structure Turn(P:Program)(w:World)(K:k6)(tg:Expr)(Γ:It)(fp:List Addr)(it:Addr)(tn:Nat->Heap->Prop):Prop where
 mem:it∈fp
 obj:∀i h,tn i h->∀b∈fp,∃o,h.get? b=↑o/\∀v,o.data≠.cell v
 keep:∀i h h',tn i h->(∀b∈fp,∀o,h.get? b=↑o->h'.get? b=↑o)->tn i h'
 item:∀(X:Cx),X.prog=P->X.w=w->X.K=K->X.calm=true->∀(i:Nat) (pq:List<|Addr×Obj) (s:Shared) (O:St) (H:Hp) (E:Value->Shared->Prop),Inv X pq O H s->(∀b∈fp,C8 X pq H b)->tn i s.heap->Γ.go i H ->
  wpAny (model P w) X.A (pyNext<|.ref it) (λr s1=>∃u,r=↑u /\
   wpAny (model P w) X.A (letOwnedTupleGo tg (.ref it) u) (λϊ s2=>∃x H',Inv X pq O H' s2/\Ab x u/\Γ.yld i H x H'/\tn (i+1) s2.heap/\∀b∈fp,H' b=none) E s1) E s
 done:∀(X:Cx),X.prog=P->X.w=w->X.K=K->X.calm=true->∀(i:Nat) (pq:List<|Addr×Obj) (s:Shared) (O:St) (H:Hp) (E:Value->Shared->Prop),Inv X pq O H s->(∀b∈fp,C8 X pq H b)->tn i s.heap->Γ.stop i H ->
  wpAny (model P w) X.A (pyNext<|.ref it) (λr s1=>r=none/\Inv X pq O H s1) E s
 self:∀(A:Around) (i:Nat) (s:Shared) (Q:Value->Shared->Prop) (E:Value->Shared->Prop),tn i s.heap->Q (.ref it) s->wpAny (model P w) A (pyIter<|.ref it) Q E s
abbrev TI:=St->Hp->(It->Hp->Prop)->Prop
def iD(X:Cx)(e:List<|Addr×Obj)(O:St)(g:Expr)(R:It->Hp->Prop)(c:Value)(f:Shared):Prop:=
 ∃(it:Addr) (d:List Addr) (tn:Nat->Heap->Prop) (Γ:It) (a:Hp),c=.ref it/\Inv X e O a f/\Turn X.prog X.w X.K g Γ d it tn/\tn 0 f.heap/\(∀b∈d,C8 X e a b)/\R Γ a
def PI(X:Cx)(c a:Expr)(d:TI):Prop:=
 ∀(b:List<|Addr×Obj) (s:Shared) (O:St) (H:Hp) (R:It->Hp->Prop),Inv X b O H s->d O H R ->
  wpAny (model X.prog X.w) X.A (eval a X.env) (λv s1=>wpAny (model X.prog X.w) X.A (pyIter v) (iD X b O c R) X.xe s1) X.xe s
def Mw(d:s.heap.get? it=↑o)(b:o.cls=.type n)(hd:o.data=.fields vs)
    (c:["enumerate","zip","dict_itemiterator","dict_reverseitemiterator","odict_iterator","itertools.zip_longest","itertools.pairwise"].contains n=false) (a:Q () s):wpAny M A (letOwnedTupleGo tg (.ref it) u) Q E s:=by
  unfold letOwnedTupleGo
  cases tg<;>first
    |exact Ç a
    |(cases u<;>first
        |exact Ç a
        | (refine À<|wpAny_load d ?_
           rw[b,hd];show wpAny M A (if (["enumerate","zip","dict_itemiterator","dict_reverseitemiterator","odict_iterator","itertools.zip_longest","itertools.pairwise"].contains n && vs[0]? == ↑(rawInt _))=true then _ else _) Q E s
           rw[if_neg (by intro h;rw[c,ż]at h;cases h)]
           exact Ç a))
def VD(K:k6)(a:Addr):It:=
 {λi H=>∃xs x,A3 K H a xs/\xs[i]?=↑x,λi H x b=>b=H/\∀xs,A3 K H a xs->xs[i]?=↑x,λi H=>∃xs,A3 K H a xs/\xs.length<=i}
def VC(K:k6)(a:Addr):It:=
 {λi H=>∃xs x,By K H a xs/\xs[i]?=↑x,λi H x b=>b=H/\∀xs,By K H a xs->xs[i]?=↑x,λi H=>∃xs,By K H a xs/\xs.length<=i}
def Ny(b:Int)(n:Nat):It:={λi ϊ=>i<n,λi H x a=>a=H/\x=.int (b+i),λi ϊ=>n<=i}
def zex{K}(a it):Turn P w K tg (VD K a) [it] it (λi h=>h.IsListIter it a i) where
 mem:=by simp
 obj:=λi h st b f=>by
  have e :=by simpa using f
  subst e;let(o,e,c,d):=st;exact{o,e,λv z=>by rw[d]at z;cases z}
 keep:=λi h J st k=>st.at λo e=>k it (by simp) o e
 item:=by
  intro X A C y L i T s O H E I j st B;subst A C y;let(xs,x,l,D):=B;let(F,G,p,S):=I.list l;let(u,Q,U):=G.get D;let(m,n,N,q,r,t):=j it<|by simp
  refine wpAny_pyNext_list_item st p.isList (by simpa using Q) λJ g sb=>?_
  have M :=I.turned (t':=s.toks) (λb o f e=>(sb.2 b f).trans e) m n q r t
  let(o,e,c,d):=id g;exact{u,rfl,Mw e c d (by decide) {x,H,M,U,{rfl,λW R=>by rw[I.list_inj R l];exact D},g,λb f=>(j b f).1}}
 done:=by
  intro X A C y L i T s O H E I j st B;subst A C y;let(xs,l,D):=B;let(F,G,p,S):=I.list l;let(m,n,N,q,r,t):=j it<|by simp
  have V:=G.length;exact wpAny_pyNext_list_end (I.ok.hd L) st p.isList (by simp;lia) λJ eb=>{rfl,I.turned (λb o f e=>eb b o f e) m n q r t}
 self:=λϊ ϊ ϊ ϊ ϊ st h=>wpAny_pyIter_listiter st h
def zdv{K}(a it):Turn P w K tg (VC K a) [it] it (λi h=>h.IsTupleIter it a i) where
 mem:=by simp
 obj:=λi h st b f=>by
  have e :=by simpa using f
  subst e;let(o,e,c,d):=st;exact{o,e,λv z=>by rw[d]at z;cases z}
 keep:=λi h J st k=>st.at λo e=>k it (by simp) o e
 item:=by
  intro X A C y L i T s O H E I j st B;subst A C y;let(xs,x,l,D):=B;let(F,G,p,S):=I.tuple l;let(u,Q,U):=G.get D;let(m,n,N,q,r,t):=j it<|by simp
  refine wpAny_pyNext_tuple_item st (p) (by simpa using Q) λJ g sb=>?_
  have M :=I.turned (t':=s.toks) (λb o f e=>(sb.2 b f).trans e) m n q r t
  let(o,e,c,d):=id g;exact{u,rfl,Mw e c d (by decide) {x,H,M,U,{rfl,λW R=>by rw[I.tuple_inj R l];exact D},g,λb f=>(j b f).1}}
 done:=by
  intro X A C y L i T s O H E I j st B;subst A C y;let(xs,l,D):=B;let(F,G,p,S):=I.tuple l;let(m,n,N,q,r,t):=j it<|by simp
  have V:=G.length;exact wpAny_pyNext_tuple_end (I.ok.hd L) st (p) (by simp;lia) λJ eb=>{rfl,I.turned (λb o f e=>eb b o f e) m n q r t}
 self:=λϊ ϊ ϊ ϊ ϊ st h=>wpAny_pyIter_tupleiter st h
def zdw{K}(it)(lo)(n):Turn P w K tg (Ny lo n) [it] it (λi h=>IsRangeIter h it (lo+i * 1) (n - i) 1) where
 mem:=by simp
 obj:=λi h st b a=>by
  have e :=by simpa using a
  subst e
  exact{_,st,λv z=>by
   have G :=z;cases G}
 keep:=λi h p st k=>k it (by simp) _ st
 item:=by
  intro X r y q u i A s O H E I d st x;subst r y q;let(f,g,C,j,l,m):=d it<|by simp
  have W:=Walks.range (prog:=X.prog) (w:=X.w) (I.ok.hd u) it lo 1 n;refine W.item i s _ _ x st λv p tk D c F=>?_
  let(t,rfl):=D;have B:Inv X A O H { s with heap:=p,toks:=tk }:=I.turned (λb o a e=>F b o (by simpa using a) e) f g j l m
  refine{_,rfl,Mw c rfl rfl (by decide) {.int<|lo+i,H,B,{t,?_},{(rfl),rfl},c,λb a=>(d b a).1}}
  rw[Int.mul_one]
 done:=by
  intro X r y q u i A s O H E I d st x;subst r y q;let(f,g,C,j,l,m):=d it<|by simp
  exact wpAny_pyNext_range_end (I.ok.hd u) st (by have:n<=i:=x;lia) λp eb=>{rfl,I.turned (λb o a e=>eb b o a e) f g j l m}
 self:=λϊ ϊ ϊ ϊ ϊ st h=>wpAny_pyIter_rangeiter st h
section
variable {X:Cx}{tg:Expr}
def iList(K:k6)(c:TE):TI:=λO H R=>c O H λx b=>∃a,x=.ref a/\(∃xs,A3 K b a xs)/\R (VD K a) b
def iTup(K:k6)(c:TE):TI:=λO H R=>c O H λx b=>∃a,x=.ref a/\(∃xs,By K b a xs)/\R (VC K a) b
def zkj(f:PE X l tl):PI X tg l<|iList X.K tl:=by
 intro j s O H R I h;refine AX (f j s O H _ I h) λv s1 m=>?_
 let(x,d,c,r1,k):=m;let(a,e,(xs,g),q):=k;subst e;cases r1;let(i,t,p,r):=c.list g;refine Į p.isList ?_;refine{s1.heap.objs.size,[s1.heap.objs.size],_,_,d,rfl,c.kept λb o e=>Ð _ e,zex a _,{_,â _ rfl,rfl,rfl},λb n=>?_,q}
 have e:b=s1.heap.objs.size:=by grind
 subst e;exact c.fpOk (Æ _)<|c.hok.fresh<|Æ _
def zoc(f:PE X l tl):PI X tg l<|iTup X.K tl:=by
 intro j s O H R I h;refine AX (f j s O H _ I h) λv s1 m=>?_
 let(x,d,c,r1,k):=m;let(a,e,(xs,g),q):=k;subst e;cases r1;let(i,t,p,r):=c.tuple g;refine wpAny_pyIter_tuple (p) ?_;refine{s1.heap.objs.size,[s1.heap.objs.size],_,_,d,rfl,c.kept λb o e=>Ð _ e,zdv a _,{_,â _ rfl,rfl,rfl},λb n=>?_,q}
 have e:b=s1.heap.objs.size:=by grind
 subst e;exact c.fpOk (Æ _)<|c.hok.fresh<|Æ _
def zh8{O:St}{H:Hp}    {a c:Int}   (I:Inv X pq O H s)(h:-(2 ^ 62)<=a)(i:a<2 ^ 62)(j:-(2 ^ 62)<=c)(k:c<2 ^ 62)
  (q:R (Ny a (c - a).toNat) H):wpAny (model X.prog X.w) X.A (pyIter<|.ref s.heap.objs.size) (iD X pq O tg R) E { s with heap:=s.heap.push { cls:=.type "range",data:=.fields #[.int a t,.int c u,.int 1 v] },toks:=tk }:=by
 refine wpAny_pyIter_range (IsRange.new ..) (small_one h i j k) ?_;have d:Inv X pq O H { s with heap:=s.heap.push { cls:=.type "range",data:=.fields #[.int a t,.int c u,.int 1 v] },toks:=tk }:=I.kept λb o e=>Ð _ e
 refine{(s.heap.push { cls:=.type "range",data:=.fields #[.int a t,.int c u,.int 1 v] }).objs.size,[(s.heap.push { cls:=.type "range",data:=.fields #[.int a t,.int c u,.int 1 v] }).objs.size],_,_,H,rfl,
  d.kept λb o e=>Ð _ e,zdw _ a (c - a).toNat,?_,λb l=>?_,q}
 .have f:a+(0:Nat) * 1=a:=by simp
  have g:(c - a).toNat - (0:Nat)=Builtin.Range.rangeSize a c 1:=by rw[rangeSize_one];grind
  rw[f,g];exact â _ rfl
 .have e:b=(s.heap.push { cls:=.type "range",data:=.fields #[.int a t,.int c u,.int 1 v] }).objs.size:=by grind
  subst e;exact d.fpOk (Æ _)<|d.hok.fresh<|Æ _
def iRng1(b:TA):TI:=λO H R=>b O H λc a=>∃j:Int,c=[.int j]/\-(2 ^ 62)<=j/\j<2 ^ 62/\R (Ny 0 j.toNat) a
def zf2(f:Gl X "range")(g:X.mg "range"=none)(d:PA X [a] ta)(i:starEach [a] X.env=[(false,eval a X.env)]):PI X tg (.Call (.Name "range" p) [a] [] pos)<|iRng1 ta:=by
 intro k s O H R I h;refine Call_<|Fu I f g boot_range<|ę (AX (d pos k s O H _ I h) λu s1 n=>?_) i rfl
 let(v,o,c,r1,b):=n;let(j,e,b,l,q):=b;subst e;cases r1 with
 |cons r m=>cases m;let(t,rfl):=r;exact call_range_1<|zh8 c (by lia) (by lia) b l<|by simpa using q
def tFor(j:TI)(g:TG)(h:TS):TS:=λD O H=>j O H λΓ d=>∃W:Nat->Nat->St->Hp->Prop,(∃m,W 0 m O d)/\∀i m O H,W i m O H ->
 (Γ.stop i H/\D.nx O H)\/(Γ.go i H/\∃N:St->Hp->Prop,(∀b a,N b a->∃c,c<m/\W (i+1) c b a)/\∀x a,Γ.yld i H x a->g x O a λf e=>h { D with nx:=N,ct:=N,bk:=D.nx } f e)
def HZ(fp:List Addr)(h:Heap):List<|Addr×Obj:=fp.filterMap λb=>(h.get? b).map λo=>(b,o)
def He(a:b∈fp)(e:h.get? b=↑o):(b,o)∈HZ fp h:=ĸ.mpr {b,a,by rw[e];rfl}
def Xn(a:p∈HZ fp h):p.1∈fp/\h.get? p.1=↑p.2:=by
 let(b,c,e):=ĸ.mp a;cases q:h.get? b with
 |none=>grind|some o=>grind
theorem Inv.pinned{O:St}(I:Inv X pq O H s)(c:∀b∈fp,C8 X pq H b)(i:∀b∈fp,∃o,s.heap.get? b=↑o/\∀v,o.data≠.cell v):Inv X (pq++HZ fp s.heap) O H s:=
 I.pins_of λp d=>(ä.mp d).elim (λz=>I.pin p<|ß _ z) λz=>by
  let(a,e):=Xn z;let(f,g,h,_):=c p.1 a
  grind
theorem Inv.unpinned{O:St}(I:Inv X (pq++pl) O H s):Inv X pq O H s:=I.pins_of λp a=>I.pin p<|ß _<|ù _ a
def zo8(F:PassesOwn (model X.prog X.w) X.A X.env X.xe)(hc:X.calm=true)(hi:PI X tg iter wi)(hg:PG X tg g)(l:B8 X body tb)
  (hs:∀x,foldedSetIterable iter X.env x=pure x:=by intro _;rfl):PS X (.For tg iter body [] pos)<|tFor wi g tb:=by
 intro y s O H D I h;refine wpAny_For (AX (hi y s O H _ I h) λv s1 h1=>AX h1 λitv s2 h2=>?_) hs
 let(it,C,tn,Γ,H2,e,I2,T,S,Z,W,(m0,w0),K):=h2;subst e;have p:∀{t },(∀b∈C,t b=none)->∀b∈C,C8 X y t b:=λhn b l=>{hn b l,(Z b l).2}
 refine codeAny_forLoop_any (λn s'=>∃i B t,Inv X y B t s'/\tn i s'.heap/\(∀b∈C,t b=none)/\W i n B t) ?_ m0 {0,O,H2,I2,S,λb l=>(Z b l).1,w0}
 rintro n s3 ⟨i,q,L,Y,J,E,w3⟩
 rcases K i n q L w3 with ⟨stop,qn⟩|⟨go,N,hN,step⟩
 .refine ĝ F<|AX (T.done X rfl rfl rfl hc i y s3 q L X.xe Y (p E) J stop) λr s4 A=>?_
  let(Q,I4):=A;subst Q;exact ş {(q),L,I4,qn}
 .refine ĝ F<|AX (T.item X rfl rfl rfl hc i y s3 q L X.xe Y (p E) J go) λr s4 A=>?_
  let(u,Q,h4):=A;subst Q;refine ĝ F<|AX h4 λϊ s5 A=>?_
  let(x,V,I5,r5,y5,z,P):=A;have M:=I5.pinned (p P)<|T.obj _ _ z;refine ĝ F<|AX (hg _ s5 q V x u _ M r5<|step x V y5) λϊ s6 A=>?_
  let(U,H6,I6,q6):=A;refine ĝ F<|AX (l _ s6 U H6 _ I6 q6) λf R w=>?_
  have k:∀{a } {c },Inv X (y++HZ C s5.heap) a c R->N a c->∃m,m<n/\∃i B t,Inv X y B t R/\tn i R.heap/\(∀b∈C,t b=none)/\W i m B t:=λ{a c} j G=>by
   let(m',hm,w7):=hN a c G;refine{m',hm,i+1,a,c,j.unpinned,T.keep _ _ _ z λb l o e=>(j.pin (b,o)<|ß _<|ß _<|He l e).1,λb l=>?_,w7}
   let(o,e,d):=T.obj _ _ z b l;exact(j.pin (b,o)<|ß _<|ß _<|He l e).2.1
  cases f with
  |next=>let(a,c,j,G):=w;exact k j G
  |cont=>let(a,c,j,G):=w;exact k j G
  |brk=>let(a,c,j,w):=w;exact{(a),c,j.unpinned,w}
  |ret v=>let(x7,a,c,j,r7,w):=w;exact{(x7),a,c,j.unpinned,r7,w}
end
abbrev R2:=V->V->Hp->VK->Prop
def Ag(X:Cx)(f:Value->Value->Sem Value)(r:R2):Prop:=
 ∀(a:List<|Addr×Obj) (s:Shared) (O:St) (H:Hp) (x y:V) (v u:Value) (Q:VK),Inv X a O H s->Ab x v->Ab y u->r x y H Q ->
  wpAny (model X.prog X.w) X.A (f v u) (EP X a O Q) X.xe s
def Kv(X:Cx)(f:Value->Sem Value)(r:V->Hp->VK->Prop):Prop:=
 ∀(a:List<|Addr×Obj) (s:Shared) (O:St) (H:Hp) (x:V) (v:Value) (Q:VK),Inv X a O H s->Ab x v->r x H Q ->
  wpAny (model X.prog X.w) X.A (f v) (EP X a O Q) X.xe s
def Bs(X:Cx)(f:Value)(r:kK->Hp->VK->Prop):Prop:=
 ∀(a:List<|Addr×Obj) (s:Shared) (O:St) (H:Hp) (xs:kK) (b:k9) (Q:VK),Inv X a O H s->Ac xs b->r xs H Q ->
  wpAny (model X.prog X.w) X.A (call f b) (EP X a O Q) X.xe s
def IG(r:R2)(c d:TE):TE:=λO H Q=>c O H λx a=>d O a λy b=>r x y b Q
def Vv(r:V->Hp->VK->Prop)(b:TE):TE:=λO H Q=>b O H λx a=>r x a Q
def rI(C:Int->Int->Prop)(g:Int->Int->V):R2:=λx y H Q=>∃i j,x=.int i/\y=.int j/\C i j/\Q (g i j) H
def Ew(g:Int->Int->V):R2:=λx y H Q=>∃i j,x=.int i/\y=.int j/\Q (g i j) H
def rU(g:Int->V):V->Hp->VK->Prop:=λx H Q=>∃i,x=.int i/\Q (g i) H
section
variable {X:Cx}{a b c:Expr}{ta tb tc:TE}{pos:Pos}
def Uk(e:PE X a ta)(g:PE X b tb){O:St}{R:V->V->Hp->Prop}(I:Inv X pq O H s)
  (h:ta O H λx H1=>tb O H1 λy H2=>R x y H2)  {f:Value->Value->Sem Value}
  (k:∀v u s2 x y H2,Inv X pq O H2 s2->Ab x v->Ab y u->R x y H2->wpAny (model X.prog X.w) X.A (f v u) Q X.xe s2) :
  wpAny (model X.prog X.w) X.A (eval a X.env) (λv s₁=>wpAny (model X.prog X.w) X.A (eval b X.env) (λu s₂=>wpAny (model X.prog X.w) X.A (f v u) Q X.xe s₂) X.xe s₁) X.xe s:=by
 refine AX (e pq s O H _ I h) λv s1 c=>?_
 let(x,H1,d,r1,i):=c;refine AX (g pq s1 O H1 _ d i) λu s2 c=>?_
 let(y,H2,j,m,l):=c;grind
def pe_op(g:Ag X (binaryOp op) r)(e:PE X a ta)(f:PE X b tb):PE X (.BinOp a op b pos)<|IG r ta tb:=by
 intro i s O H Q I h;exact wpAny_BinOp<|Uk e f I h λv u l x y c d j k q=>g i l O c x y v u Q d j k q
def pe_un(d:Kv X (unaryOp op) r)(c:PE X a ta):PE X (.UnaryOp op a pos)<|Vv r ta:=by
 intro b s O H Q I h;exact UnaryOp_<|AX (c b s O H _ I h) λv s1 ⟨x,H1,I1,r1,q1⟩=>d b s1 O H1 x v Q I1 r1 q1
def Js{g:Int->Int->Int}
  (a:∀(i j ) (t u ) (s ) (Q ) (E ),C i j->Q (.int (g i j) s.toks) { s with toks:=s.toks+1 }->wpAny (model X.prog X.w) X.A (f (.int i t)<|.int j u) Q E s) :
  Ag X f (rI C λi j=>.int<|g i j):=by
 intro k s O H x y v u Q I c d h;let(i,j,rfl,rfl,b,q):=h;let(t,rfl):=c;let(e,rfl):=d;exact a i j t e s _ _ b {.int<|g i j,H,I.tok _,{_,rfl},q}
def MY{g:Int->Int->Int}
  (a:∀(i j ) (t u ) (s ) (Q ) (E ),Q (.int (g i j) s.toks) { s with toks:=s.toks+1 }->wpAny (model X.prog X.w) X.A (f (.int i t)<|.int j u) Q E s) :
  Ag X f (Ew λi j=>.int<|g i j):=by
 intro e s O H x y v u Q I b c h;let(i,j,rfl,rfl,q):=h;let(t,rfl):=b;let(d,rfl):=c;exact a i j t d s _ _ {.int<|g i j,H,I.tok _,{_,rfl},q}
def MZ{g:Int->Int->Bool}
  (a:∀(i j ) (t u ) (s ) (Q ) (E ),Q (.bool<|g i j) s->wpAny (model X.prog X.w) X.A (f (.int i t)<|.int j u) Q E s) :
  Ag X f (Ew λi j=>.bl<|g i j):=by
 intro e s O H x y v u Q I b c h;let(i,j,rfl,rfl,q):=h;let(t,rfl):=b;let(d,rfl):=c;exact a i j t d s _ _ {.bl<|g i j,H,I,rfl,q}
def CPow(i j:Int):Prop:=0<=j/\j<=1000000/\i.natAbs<2 ^ 64
def VI(i j:Int):Prop:=(-(2 ^ 64)<i/\i<2 ^ 64)\/(-(2 ^ 64)<j/\j<2 ^ 64)
def VI.ok(h:VI i j):IntMulOk i j:=by
 rcases h with ⟨a,b⟩|⟨a,b⟩
 .exact .of_left<|intBits_le_64 a b
 .exact .of_right<|intBits_le_64 a b
theorem zox:Ag X (binaryOp .Add)<|Ew λi j=>.int<|i+j:=MY λϊ ϊ ϊ ϊ ϊ ϊ ϊ q=>add_int q
theorem zoq:Ag X (binaryOp .Sub)<|Ew λi j=>.int<|i - j:=MY λϊ ϊ ϊ ϊ ϊ ϊ ϊ q=>sub_int q
theorem Xj:Ag X (binaryOp .Mult)<|rI VI λi j=>.int<|i * j:=Js λϊ ϊ ϊ ϊ ϊ ϊ ϊ a q=>mul_int q a.ok
theorem zku:Ag X (binaryOp .Mod)<|rI (λϊ j=>j≠0) λi j=>.int<|i.fmod j:=Js λϊ ϊ ϊ ϊ ϊ ϊ ϊ a q=>mod_int' a q
theorem zos:Ag X (binaryOp .Pow)<|rI CPow λi j=>.int<|i ^ j.toNat:=Js λϊ ϊ ϊ ϊ ϊ ϊ ϊ a q=>pow_int_small a.1 a.2.1 a.2.2 q
theorem zow:Ag X (binaryOp .BitAnd)<|Ew λi j=>.int<|Builtin.bitAnd i j:=MY λϊ ϊ ϊ ϊ ϊ ϊ ϊ q=>and_int q
theorem op_or:Ag X (binaryOp .BitOr)<|Ew λi j=>.int<|Builtin.bitOr i j:=MY λϊ ϊ ϊ ϊ ϊ ϊ ϊ q=>or_int q
def unI{g:Int->Int}
  (a:∀(i ) (t ) (s ) (Q ) (E ),Q (.int (g i) s.toks) { s with toks:=s.toks+1 }->wpAny (model X.prog X.w) X.A (f<|.int i t) Q E s) :
  Kv X f (rU λi=>.int<|g i):=by
 intro c s O H x v Q I b h;let(i,rfl,q):=h;let(t,rfl):=b;exact a i t s _ _ {.int<|g i,H,I.tok _,{_,rfl},q}
theorem zmq:Kv X (unaryOp .USub)<|rU λi=>.int<|-i:=unI λϊ ϊ ϊ ϊ ϊ q=>neg_int q
def Kc{O:St}(I:Inv X pq O H s)(q:Q (.bl k) H)(e:k=k'):EP X pq O Q (.bool k') s:=by
 subst e;exact{.bl k,H,I,rfl,q}
theorem op_lt:Ag X (compareOp .Lt)<|Ew λi j=>.bl<|decide (i<j):=MZ λϊ ϊ ϊ ϊ ϊ ϊ ϊ q=>lt_int q
theorem Xk:Ag X (compareOp .LtE)<|Ew λi j=>.bl<|decide (i<=j):=MZ λϊ ϊ ϊ ϊ ϊ ϊ ϊ q=>le_int q
theorem op_gt:Ag X (compareOp .Gt)<|Ew λi j=>.bl<|decide (j<i):=MZ λϊ ϊ ϊ ϊ ϊ ϊ ϊ q=>gt_int q
theorem op_ge:Ag X (compareOp .GtE)<|Ew λi j=>.bl<|decide (j<=i):=MZ λϊ ϊ ϊ ϊ ϊ ϊ ϊ q=>ge_int q
def zf3:Ag X (compareOp .In) (λx y H Q=>∃i j,x=.str i/\y=.str j/\Q (.bl<|!(Builtin.Str.occurrences j i 0 j.length 1).isEmpty) H):=by
 intro c s O H x y v u Q I a b h;let(i,j,rfl,rfl,q):=h;let(t,rfl):=a;let(d,rfl):=b;exact in_str<|Kc I q rfl
def zot:Ag X (compareOp .Is)<|λx y H Q=>y=.non/\Q (.bl<|decide (x=.non)) H:=by
 intro c s O H x y v u Q I a b h;let(rfl,q):=h;cases b;refine is_none_gen<|Kc I q ?_
 cases x<;>first
  |rfl
  |(let(t,rfl):=a;rfl)
def zkr:Ag X (compareOp .IsNot)<|λx y H Q=>y=.non/\Q (.bl<|!decide (x=.non)) H:=by
 intro c s O H x y v u Q I a b h;let(rfl,q):=h;cases b;refine isnot_none_gen<|Kc I q ?_
 cases x<;>first
  |rfl
  |(let(t,rfl):=a;rfl)
def zko(i:Ag X (compareOp op) r)(e:PE X a ta)(f:PE X b tb)(g:behindInMarks op b=false):PE X (.Compare a [op] [b] pos)<|IG r ta tb:=by
 intro j s O H Q I h;exact wpAny_Compare1 (Uk e f I h λv u m x y c d k l q=>i j m O c x y v u Q d k l q) g
def Vw(t:TE):TT:=λO H Q=>t O H λx a=>∃k,x=.bl k/\Q k a
def zkd(j:Ag X (compareOp op) r)(f:PE X a ta)(g:PE X b tb)(i:behindInMarks op b=false):PT X (.Compare a [op] [b] pos)<|Vw<|IG r ta tb:=by
 intro d s O H Q I h
 refine wpAny_isTrue_Compare1 (AX (f d s O H _ I h) λv s1 ⟨x,H1,I1,r1,q1⟩=>AX (g d s1 O H1 _ I1 q1) λu l ⟨y,H2,I2,r2,q2⟩=>
  AX (j d l O H2 x y v u _ I2 r1 r2 q2) λc m ⟨z,H3,I3,r3,k,e,q3⟩=>?_) i
 subst e;cases r3;exact Ĉ {(H3),I3,q3}
def Oi(r e:R2)(f g h:TE):TE:=λO H Q=>f O H λx b=>g O b λy c=>r x y c λz a=>∃k,z=.bl k /\
 (if k=true then h O a λi d=>e y i d Q else Q (.bl false) a)
def zhk(n:Ag X (compareOp op) r)(g:Ag X (compareOp op') r')(i:PE X a ta)(j:PE X b tb)(l:PE X c tc)
  (m:lastMarks [op,op'] [b,c]=false):PE X (.Compare a [op,op'] [b,c] pos)<|Oi r r' ta tb tc:=by
 intro f s O H Q I h
 refine Compare_chain (AX (i f s O H _ I h) λv s1 ⟨x,H1,I1,r1,q1⟩=>chain_link (AX (j f s1 O H1 _ I1 q1) λu o ⟨y,H2,I2,r2,q2⟩=>
  AX (n f o O H2 x y v u _ I2 r1 r2 q2) λd p ⟨z,H3,I3,r3,k,e,q3⟩=>?_)) m
 subst e;cases r3;refine Ĉ ?_;cases k with
 |false=>exact ite_ff {.bl false,H3,I3,rfl,q3}|true=>exact ite_tt<|chain_last<|AX (l f p O H3 _ I3 q3) λt q ⟨w,H4,I4,r4,q4⟩=>g f q O H4 y w u t Q I4 r2 r4 q4
def zhc(t:Ag X (compareOp op) r)(g:Ag X (compareOp op') r')(n:PE X a ta)(o:PE X b tb)(p:PE X c tc)
  (q:lastMarks [op,op'] [b,c]=false):PT X (.Compare a [op,op'] [b,c] pos)<|Vw<|Oi r r' ta tb tc:=by
 intro f s O H Q I h
 refine isTrue_chain (AX (n f s O H _ I h) λv s1 ⟨x,H1,I1,r1,q1⟩=>test_link (AX (o f s1 O H1 _ I1 q1) λu C ⟨y,H2,I2,r2,q2⟩=>
  AX (t f C O H2 x y v u _ I2 r1 r2 q2) λd D ⟨z,H3,I3,r3,k,e,q3⟩=>?_)) q
 subst e;cases r3;refine Ĉ ?_;cases k with
 |false=>let(L,l,w):=q3;cases l;exact ite_ff {(H3),I3,w}
 |true=>
  refine ite_tt<|test_last<|AX (p f D O H3 _ I3 q3) λF E ⟨G,H4,I4,r4,q4⟩=>AX (g f E O H4 y G u F _ I4 r2 r4 q4) λK N J=>?_
  let(P,i,j,B,M,m,A):=J;subst m;cases B;exact Ĉ {(i),j,A}
def KQ:(sizeLine:Nat)<2 ^ 63:=by rw[ė];decide
def ze1:Ag X (binaryOp .Add) (λx y H Q=>∃i j,x=.str i/\y=.str j/\i.length+j.length<=sizeLine/\Q (.str<|i++j) H):=by
 intro e s O H x y v u Q I b c h;let(i,j,rfl,rfl,a,q):=h;let(t,rfl):=b;let(d,rfl):=c;exact add_str (λd tk=>{.str<|i++j,H,I.tok _,{_,rfl},q}) a
def Er(r:Ac [x] us):∃u,us=[u]/\Ab x u:=by
 cases r with
 |cons r1 a=>cases a;grind
def Ga(r:Ac [x,y] us):∃u w',us=[u,w']/\Ab x u/\Ab y w':=by
 cases r with
 |cons r1 a=>
  cases a with
  |cons b r4=>cases r4;grind
def zj2:Bs X (.builtin "abs") (λxs H Q=>∃i,xs=[.int i]/\Q (.int (if i<0 then -i else i)) H):=by
 intro a s O H xs b Q I r h;let(i,rfl,q):=h;let(u,rfl,t,rfl):=Er r;exact call_abs_int λu tk=>{.int (if i<0 then -i else i),H,I.tok _,{_,rfl},q}
def zgd(b:X.calm=true):Bs X (.builtin "max") (λxs H Q=>∃i j,xs=[.int i,.int j]/\Q (.int (if j > i then j else i)) H):=by
 intro d s O H xs f Q I r h;let(i,j,rfl,q):=h;let(u,g,rfl,(t,rfl),(e,rfl)):=Ga r;refine max_two_ints (I.ok.hd b) λc tk k=>{_,H,I.kept k,?_,q}
 by_cases a:j > i
 .rw[if_pos a,if_pos a];exact{_,rfl}
 .rw[if_neg a,if_neg a];exact{_,rfl}
def zgc(b:X.calm=true):Bs X (.builtin "min") (λxs H Q=>∃i j,xs=[.int i,.int j]/\Q (.int (if j<i then j else i)) H):=by
 intro d s O H xs f Q I r h;let(i,j,rfl,q):=h;let(u,g,rfl,(t,rfl),(e,rfl)):=Ga r;refine min_two_ints (I.ok.hd b) λc tk k=>{_,H,I.kept k,?_,q}
 by_cases a:j<i
 .rw[if_pos a,if_pos a];exact{_,rfl}
 .rw[if_neg a,if_neg a];exact{_,rfl}
def gC:Bs X (.type "int") (λxs H Q=>(∃i,xs=[.int i]/\Q (.int i) H)\/∃k,xs=[.bl k]/\Q (.int (if k then 1 else 0)) H):=by
 intro a s O H xs b Q I r h
 rcases h with ⟨i,rfl,q⟩|⟨k,rfl,q⟩
 .let(u,rfl,t,rfl):=Er r;exact call_int_int {.int i,H,I,{_,rfl},q}
 .let(u,rfl,r1):=Er r;cases r1;exact call_int_bool {.int (if k then 1 else 0),H,I.tok _,{_,rfl},q}
def LenV(K:k6)(x:V)(H:Hp)(n:Nat):Prop:=
 match x with
 |.str y=>y.length<=sizeLine/\n=y.length|.byt y=>y.size<=sizeLine/\n=y.size|.ref p=>(∃xs,A3 K H p xs/\n=xs.length)\/∃xs,By K H p xs/\n=xs.length|ϊ=>False
def gB:Bs X (.builtin "len") (λxs H Q=>∃x n,xs=[x]/\LenV X.K x H n/\Q (.int n) H):=by
 intro o s O H xs v Q I r h;let(x,n,rfl,e,q):=h;let(u,rfl,i):=Er r;have l:=KQ;have m :=ė;cases x with
 |str y=>let(t,rfl):=i;let(j,b):y.length<=sizeLine/\n=y.length:=e;subst b;exact len_str (by lia) {.int _,H,I.tok _,{_,rfl},q}
 |byt y=>let(t,rfl):=i;let(j,b):y.size<=sizeLine/\n=y.size:=e;subst b;exact W.len_bytes (by lia) {.int _,H,I.tok _,{_,rfl},q}
 |ref p=>
  cases i;have b :=e
  rcases b with ⟨xs,c,b⟩|⟨xs,c,b⟩
  .subst b;let(d,g,f,k):=I.list c;have a:=g.length;exact Calls.call_len_list f.isList (by erw[û];lia) {.int xs.length,H,I.tok _,{_,by erw[û];rw[a]},q}
  .subst b;let(d,g,f,k):=I.tuple c;have a:=g.length;exact len_tuple f (by grind) {.int xs.length,H,I.tok _,{_,by erw[û];rw[a]},q}
 |_=>exact(e).elim
end
structure ObjM(h:Heap)(x dx C:Addr)(mA:Str->Option Value):Prop where
 obj:h.get? x=↑(W.instObj C dx)
 ns:h.Ns1 dx mA
 ne:dx≠x
def zfd{h:Heap}(n:h.Ns1 dx mA):∃od,h.get? dx=↑od/\∀name,W.lookIn name od=↑(mA name):=by
 let(o,c,i,f,hd,hk,_,d):=n;refine{o,f,λname=>?_}
 have e:=d name;unfold nsFind findBy at e;rw[<- Array.find?_toList]at e;unfold W.lookIn;rw[hd];dsimp only;split
 .grind
 .have a:c.toList.any (·.refKey)=false:=by
   rw[List.any_eq_false];intro y g;let(z,t,b):=hk y<|Array.mem_toList_iff.mp g;simp[DictEntry.refKey,b]
  grind
def ObjM.look(I:ObjM h x dx C mA):∃od,PySem.W.InstAt h x (W.instObj C dx) C ↑od/\∀name,W.lookIn name od=↑(mA name):=
 let ⟨od,ho,hl⟩:=zfd I.ns
 {od,{(I.obj),rfl,rfl,ho},hl}
section
variable {prog:Program}{w:World}{A:Around}{E:Value->Shared->Prop}{s:Shared}{K:k6}{x dx C f:Addr}{mA:Str->Option Value}{name:Str}{v:Value}
def zlv(X:K.In s.heap)(I:ObjM s.heap x dx C mA)(c:W.plainGet K C name=true)(hh:W.hasDictIn K C=true)
  (b:W.findIn K (.ref C) name=↑none) (e:mA name=↑v) (a:W.handedIn v=true) (h:Q v { s with toks:=s.toks+1 }) :
  wpAny (model prog w) A (getAttr (.ref x) name expr) Q E s:=by
 let(f,Γ,d):=I.look;exact W.get_value X Γ (Ź c).1 (W.findObj_own hh b rfl<|by rw[d,e]) a h
def zii(X:K.In s.heap)(I:ObjM s.heap x dx C mA)(a:W.plainGet K C name=true)
  (b:W.findIn K (.ref C) name=↑(↑(.ref f))) (c:W.isFn K (.ref f)=true) (g:mA name=none) (h:Q (.ref f,[.ref x]) s) :
  wpAny (model prog w) A (getMethod (.ref x) name pl) Q E s:=by
 let(d,Γ,e):=I.look;exact W.method_fn X Γ (Ź a).1 (Ź a).2 b (beq_iff_eq.mp c) (by show(W.lookIn name d).map (·.isSome)=↑false;grind) h
def zjp(X:K.In s.heap)(I:ObjM s.heap x dx C mA)
  (m:W.findIn K (.ref C) "__setattr__"=↑(↑(.builtin "object.__setattr__"))) (l:W.plainOver K C=true) (o:W.takerIn K C name=↑none) (hh:W.hasDictIn K C=true)
  (p:PySem.Within mA ns) (n:ns.length<=sizeLine)
  (h:∀h',ObjM h' x dx C (λy=>if y=name then ↑v else mA y)->Heap.SameBut dx s.heap h'->Q () { s with heap:=h',toks:=s.toks+2 }) :
  wpAny (model prog w) A (setAttr (.ref x) name v) Q E s:=by
 let(u,Γ,r):=I.look;refine W.set_plain X Γ m<|W.osa_open X Γ l o λb=>?_
 let(cd,k,e):=W.any_some hh;have q :=I.obj;refine À<|Ç<|À<|À<|wpAny_loadPart q<|À<|PySem.W.Looks.here (W.looks_clsIn X k) ?_;rw[e];refine Ç<|À<|Ç<|À ?_;refine wpAny_nsSet1 I.ns λh' a c=>?_
 let(t,j,i,g,f,d):=a.count<|PySem.Within.cons name v p;refine À<|wpAny_lookBehind g (by rw[f];exact pastItsLine_dict<|Ü d<|by grind) ?_
 exact Ç<|h _ {(c.2 _<|Î I.ne).trans I.obj,a,I.ne} c
def zhu(X:K.In s.heap)(c:W.makesIn K C=true)
  (b:W.findIn K (.ref C) "__init__"=↑(↑(.ref f))) (a:W.typeIn K (.ref f)=↑(.type "function"))
  (h : codeAny (model prog w) (A.under<|.builtin "type.__call__" {.ref C :: vs, kw}) (.call (.ref f) {.ref (s.heap.objs.size + 1) :: vs, kw}) (PySem.W.InitBack (s.heap.objs.size + 1) R)
   { s with heap:=(s.heap.push W.emptyDict).push (W.instObj C s.heap.objs.size) }) :
  codeAny (model prog w) A (.call (.ref C) {(vs),kw}) R s:=by
 exact W.make_core (W.makes_of X c) (W.looks_findIn X b) (λself=>W.bind_fn X self a) (.inl rfl) h
end
def Dg(f:Str)(v:V):List (Str×V)->List (Str×V)
 |[]=>[(f,v)]|(g,x)::r=>if g=f then (g,v)::r else (g,x)::Dg f v r
theorem aF(f g)(v):∀fs ,(Dg f v fs).lookup g=if g=f then ↑v else fs.lookup g
 |[]=>by
  show List.lookup g [(f,v)]=_
  grind
 |(k,x)::r=>by
  have a:=aF f g v r;rw[show Dg f v ((k,x)::r)=(if k=f then (k,v)::r else (k,x)::Dg f v r) from rfl]
  grind
def Sz(f)(v):∀fs ,f∈(Dg f v fs).map (·.1)/\∀g,g∈fs.map (·.1)->g∈(Dg f v fs).map (·.1)
 |[]=>{by simp[Dg],λg h=>by simp at h}|(k,x)::r=>by
  let(a,b):=Sz f v r;rw[show Dg f v ((k,x)::r)=(if k=f then (k,v)::r else (k,x)::Dg f v r) from rfl]
  grind
def aL(f)(v):∀fs ,(Dg f v fs).length<=fs.length+1
 |[]=>by simp[Dg]|(k,x)::r=>by
  have a:=aL f v r;rw[show Dg f v ((k,x)::r)=(if k=f then (k,v)::r else (k,x)::Dg f v r) from rfl]
  grind
def EU.some_of(r:EU ↑v o):∃u,o=↑u/\Ab v u:=by
 cases o with
 |none=>exact(r).elim|some u=>exact{(u),rfl,r}
def EU.none_of(r:EU none o):o=none:=by
 cases o with
 |none=>rfl|some u=>exact(r).elim
def zfl(r:Ab v u):W.handedIn u=true:=by
 cases v with
 |non=>cases (r);rfl|bl b=>cases (r);rfl|int i=>let(t,e):=(r);cases e;rfl
 |str x=>let(t,e):=(r);cases e;rfl
 |byt b=>let(t,e):=(r);cases e;rfl
 |flt b=>let(t,e):=(r);cases e;rfl
 |ref a=>cases (r);rfl|ty n=>cases (r);rfl
section
variable {P:Program}{w:World}{H H':Hp}{h h':Heap}{a C dx:Addr}{fs fs':List<|Str×V}
def Mt(hok:HOk P w H h)(e:H a=↑(.ins C dx fs)):∃mA,ObjM h a dx C mA/\(∀f,EU (fs.lookup f)<|mA f)/\PySem.Within mA (fs.map (·.1))/\fs.length<=1000/\H dx=↑(.own a):=by
 let(d,z,ne,ob,mA,n,r,q):=(hok a _ e);exact{mA,{(ob),n,ne},r,q,z,d}
end
structure Cls(K:k6)(C:Addr):Prop where
 pg:W.plainGet K C Str.empty=true
 hd:W.hasDictIn K C=true
 po:W.plainOver K C=true
 sa:W.findIn K (.ref C) "__setattr__"=↑(↑(.builtin "object.__setattr__"))
def Cls.get{K}(c:Cls K C)(f):W.plainGet K C f=true:=c.pg
def Cd(K:k6)(C:Addr)(f:Str):Prop:=W.findIn K (.ref C) f=↑none
def Cd.taker{K}(n:Cd K C f):W.takerIn K C f=↑none:=by
 unfold W.takerIn;rw[n]
 rfl
structure Meth(K:k6)(C:Addr)(m:Str)(f:Addr):Prop where
 at_:W.findIn K (.ref C) m=↑(↑(.ref f))
 fn:W.isFn K (.ref f)=true
 kp:W.keepIn K (.ref f)=true
section
variable {X:Cx}{pq:List<|Addr×Obj}{O:St}{H:Hp}{s:Shared}{a C dx:Addr}{fs:List<|Str×V}{f:Str}{v:V}{A:Around}{E:Value->Shared->Prop}
def zeg(I:Inv X pq O H s)(e:H a=↑(.ins C dx fs))(c:Cls X.K C)(n:Cd X.K C f)(l:fs.lookup f=↑v)
  (h:∀u s',Inv X pq O H s'->Ab v u->Q u s'):wpAny (model X.prog X.w) A (getAttr (.ref a) f b) Q E s:=by
 let(i,σ,r,_,_,_):=Mt I.hok e;let(u,g,d):=EU.some_of (v:=v) (o:=i f)<|by grind
 exact zlv I.kIn σ (c.get f) c.hd n g (zfl d)<|h u _ (I.tok _) d
def bZ(I:Inv X pq O H s)(e:H a=↑(.ins C dx fs))(c:Cls X.K C)(k:Meth X.K C m g)(l:fs.lookup m=none)
  (h:Q (.ref g,[.ref a]) s):wpAny (model X.prog X.w) A (getMethod (.ref a) m pl) Q E s:=by
 let(d,σ,r,_,_,_):=Mt I.hok e;have b:d m=none:=EU.none_of<|by grind
 exact zii I.kIn σ (c.get m) k.at_ k.fn b h
def zdy(I:Inv X pq O H s)(e:H a=↑(.ins C dx fs))(c:Cls X.K C)(n:Cd X.K C f)(v:fs.length<1000)(t:Ab y u)
  (h:∀s',Inv X pq O (upd H a<|.ins C dx<|Dg f y fs) s'->Q () s'):wpAny (model X.prog X.w) A (setAttr (.ref a) f u) Q E s:=by
 let(w,σ,r,j,_,i):=Mt I.hok e;have p:(fs.map (·.1)).length<=sizeLine:=by rw[Á,ė];lia
 refine zjp I.kIn σ c.sa c.po n.taker c.hd j p λk d sb=>h _ ?_
 have hd:∃o,k.get? dx=↑o:=let ⟨o,_,_,e',_⟩:=d.ns;{(o),e'};refine I.write (by rw[e];exact True.intro) (.inr i) (λb q l z=>(sb.2 b l).trans z) hd ?_
 refine{by rw[Ap σ.ne];exact i,?_,σ.ne,d.obj,_,d.ns,λg=>?_,λg m=>?_}
 .have:=aL f y fs;lia
 .rw[aF]
  by_cases q:g=f
  .rw[if_pos q,if_pos q];exact t
  .rw[if_neg q,if_neg q];exact r g
 .by_cases q:g=f
  .rw[q];exact(Sz f y fs).1
  .refine(Sz f y fs).2 g (j g λz=>m ?_)
   grind
def Inv.made(I:Inv X pq O H s):Inv X pq O (upd (upd H s.heap.objs.size<|.own<|s.heap.objs.size+1) (s.heap.objs.size+1)<|.ins C s.heap.objs.size [])
  { s with heap:=(s.heap.push W.emptyDict).push (W.instObj C s.heap.objs.size) }:=by
 have a:(s.heap.push W.emptyDict).get? s.heap.objs.size=↑W.emptyDict:=â s.heap rfl
 have d:((s.heap.push W.emptyDict).push (W.instObj C s.heap.objs.size)).get? (s.heap.objs.size+1)=↑(W.instObj C s.heap.objs.size):=by
  have:=â (s.heap.push W.emptyDict) (o:=W.instObj C s.heap.objs.size) rfl
  simp_all
 have f:(s.heap.push W.emptyDict).Ns s.heap.objs.size (λϊ=>none):={W.emptyDict,#[],_,a,rfl,(λe g=>absurd g<|by simp),λϊ=>rfl}
 have c:=I.laid (o:=.own<|s.heap.objs.size+1) (t':=s.toks) (λb u q=>Ð _ q) (Æ _) {_,a}
 refine c.laid (λb u q=>Ð _ q) (Nat.le_of_eq<|ć _ _) ?_
 have ne:s.heap.objs.size≠s.heap.objs.size+1:=Õ<|ě _;refine{by rw[Ap ne,CP],õ _,ne,d,λϊ=>none,(Heap.Ns1.of_empty f).at λo q=>Ð _ q,λϊ=>True.intro,λy h=>absurd rfl h}
theorem zmg(a:attributeBase e f env (eval e env)=eval e env)
  (h:wpAny (model prog w) A (eval e env) (λo s₁=>wpAny (model prog w) A (getAttr o f true) Q E s₁) E s):wpAny (model prog w) A (eval (.Attribute e f pos) env) Q E s:=
 Attribute_any_ h (by rw[arm_eval_Attribute,a])
end
def tFld(K:k6)(d:TE)(f:Str):TE:=λO H Q=>d O H λx b=>∃a C c fs v,x=.ref a/\b a=↑(.ins C c fs)/\Cls K C/\Cd K C f/\fs.lookup f=↑v/\Q v b
def sFld(K:k6)(e g:TE)(f:Str):TS:=λD O H=>g O H λy d=>e O d λx b=>∃a C c fs,x=.ref a/\b a=↑(.ins C c fs)/\Cls K C/\Cd K C f/\fs.length<1000 /\
 D.nx O (upd b a<|.ins C c<|Dg f y fs)
section
variable {X:Cx}{o e value:Expr}{f:Str}{pos pos' tpos:Pos}{ta tv:TE}
def Xg(k:PE X e ta)(j:attributeBase e f X.env (eval e X.env)=eval e X.env):PE X (.Attribute e f pos)<|tFld X.K ta f:=by
 intro m s O H Q I h;refine zmg j<|AX (k m s O H _ I h) λu s1 r=>?_
 let(x,b,d,p,a,C,t,fs,v,ex,i,c,n,l,q):=r;subst ex;obtain rfl:u=Value.ref a:=p;exact zeg d i c n l λy w g o=>{(v),b,g,o,q}
def zo9(i:PE X o ta)(k:PE X value tv)(j:swapsWith value (↑(.Attribute o f pos')) pos.line X.env=pure false):PS X (.Assign [.Attribute o f pos'] value pos)<|sFld X.K ta tv f:=by
 intro b s O H D I h;refine plainObj_wpAny_Assign_Attribute (AX (k b s O H _ I h) λu s1 ⟨y,H1,I1,ry,q⟩=>AX (i b s1 O H1 _ I1 q) λm z t=>?_) j
 let(x,v,d,r,a,C,w,fs,ex,g,c,n,l,p):=t;subst ex;obtain rfl:m=Value.ref a:=r;exact zdy d g c n l ry λA e=>{O,_,e,p}
end
section
variable {X:Cx}{pq:List<|Addr×Obj}{O:St}{H:Hp}{s:Shared}{A:Around}{E:Value->Shared->Prop}{Q:Value->Shared->Prop}{c:Value}{b:Bool}
inductive TyOf(K:k6)(H:Hp):V->Value->Prop where
 |non:TyOf K H .non<|.type "NoneType"
 |bl (x:Bool):TyOf K H (.bl x)<|.type "bool"
 |int (i:Int):TyOf K H (.int i)<|.type "int"
 |str (x:Str):TyOf K H (.str x)<|.type "str"
 |flt (x:UInt64):TyOf K H (.flt x)<|.type "float"
 |lst {a:Addr} {xs:List V} (e:H a=↑(.lst xs)):TyOf K H (.ref a)<|.type "list"
 |frz {a:Addr} {o:Obj} {xs:List V} (e:H a=↑(.frz o<|.lst xs)):TyOf K H (.ref a)<|.type "list"
 |tup {a:Addr} {xs:List V} (e:H a=↑(.tup xs)):TyOf K H (.ref a)<|.type "tuple"
 |dK {a:Addr} {kvs:List<|Key×V} (e:H a=↑(.dK kvs)):TyOf K H (.ref a)<|.type "dict"
 |dT {a:Addr} {kvs:List<|List Key×V} (e:H a=↑(.dT kvs)):TyOf K H (.ref a)<|.type "dict"
 |ins {a C dx:Addr} {fs:List<|Str×V} (e:H a=↑(.ins C dx fs)) (cl:Cls K C) (ha:W.findIn K (.ref C) "__class__"=↑(↑(.builtin "object.__class__")))
   (hn:W.specialIn K (.builtin "object.__class__") "__get__"=↑(↑(.builtin "getset_descriptor.__get__"))) (htk:W.takesIn K (.builtin "object.__class__")=↑true)
   (hm:W.mroIn K C (.type "object")=↑true):TyOf K H (.ref a)<|.ref C
def TM{x:V}  (I:Inv X pq O H s)(f:Ab x u)(ty:TyOf X.K H x t)(e:W.kitOne X.K t c=↑b)(h:∀tk,Q (.bool b) { s with toks:=tk }) :
  wpAny (model X.prog X.w) A (call (.builtin "isinstance") [u,c]) Q E s:=by
 cases ty with
 |non=>cases (f);exact ó W.kitx_none I.kIn True.intro e (λz=>nomatch z) h
 |bl y=>cases (f);exact ó W.kitx_bool I.kIn True.intro e (λz=>nomatch z) h
 |int i=>let(t,q):=(f);cases q;exact ó W.kitx_int I.kIn True.intro e (λz=>nomatch z) h
 |str y=>let(t,q):=(f);cases q;exact ó W.kitx_str I.kIn True.intro e (λz=>nomatch z) h
 |flt y=>let(t,q):=(f);cases q;exact ó W.kitx_float I.kIn True.intro e (λz=>nomatch z) h
 |@lst a xs d=>cases (f);let(_,_,n,_,g):=(I.hok a _ d);exact ó Η I.kIn {_,g,rfl} e (λz=>nomatch z) h
 |@frz a ob xs d=>cases (f);let(_,_,_,n,_,g):=(I.hok a _ d);exact ó Η I.kIn {_,g,rfl} e (λz=>nomatch z) h
 |@tup a xs d=>cases (f);let(_,_,_,p):=(I.hok a _ d);let(o,g,j,_):=p;exact ó W.kitx_tuple I.kIn {(o),g,j} e (λz=>nomatch z) h
 |@dK a l d=>cases (f);let(_,_,J,_,p):=(I.hok a _ d);let(o,r,m,g,j,_):=p;exact ó Θ I.kIn {(o),g,j.1} e (λz=>nomatch z) h
 |@dT a l d=>cases (f);let(_,_,xs,_,o,r,m,g,j,_):=(I.hok a _ d);exact ó Θ I.kIn {(o),g,j.1} e (λz=>nomatch z) h
 |@ins a C D fs d cl v B k w=>cases (f);let(F,σ,_):=Mt I.hok d;let(G,Γ,_):=σ.look;exact ó (W.kitx_own (cl.get _) cl.hd v B k w) I.kIn Γ e (λz=>nomatch z) h
end
structure Room(k:Nat)(A:Around):Prop where
 hd:A.handled=none
 dp:A.depth+3 * k+5<recursionLimit
 un:A.units+16 * k+200<cLine
theorem Room.mono(r:Room k A)(h:j<=k):Room j A:={r.hd,by have:=r.dp;lia,by have:=r.un;lia}
theorem Room.deeper(r:Room (k+1) A)(env):Room k<|A.deeper env:=
 {r.hd,by have:=r.dp;show A.depth+1+3 * k+5<_;lia,by have:=r.un;show A.units+3+16 * k+200<_;lia}
def ze4{A:Around}:(A.under<|.builtin "type.__call__" {.ref C::us,kw}).depth=A.depth+1:=by
 rfl
def ze3{A:Around}:(A.under<|.builtin "type.__call__" {.ref C::us,kw}).units=A.units+1:=by
 rfl
theorem Room.make(r:Room (k+1) A)(C)(us)(kw):Room k<|A.under<|.builtin "type.__call__" {.ref C::us,kw}:=
 {r.hd,by have:=r.dp;rw[ze4];lia,by have:=r.un;rw[ze3];lia}
def Room.depth(r:Room k A):A.depth<recursionLimit:=by have:=r.dp;lia
def Room.units(r:Room k A):A.units+64<cLine:=by have:=r.un;lia
def WB:TA:=λϊ H Q=>Q [] H
def tCons(c:TE)(tr:TA):TA:=λO H Q=>c O H λx a=>tr O a λxs b=>Q (x::xs) b
section
variable {X:Cx}{e:Expr}{es:kC}{te:TE}{t:TA}{pos:Pos}
theorem FZ:PA X [] WB:=λϊ ϊ ϊ ϊ H Q I h=>Ι {[],H,I,.nil,h}
def EL(f:PE X e te)(g:PA X es t)(i:starEach (e::es) X.env=(false,eval e X.env)::starEach es X.env:=by rfl):PA X (e::es)<|tCons te t:=by
 intro a b s O H Q I h;rw[i];refine Ž<|AX (f b s O H _ I h) λu s1 k=>?_
 let(x,c,d,r1,j):=k;exact AX (g a b s1 O c _ d j) λm l ⟨xs,H2,I2,r2,q2⟩=>{x::xs,H2,I2,.cons r1 r2,q2}
def tTup(t:TA):TE:=λO H Q=>t O H λxs a=>xs.length<=sizeLine/\∀p,a p=none->Q (.ref p) (upd a p<|.tup xs)
def tLst(t:TA):TE:=λO H Q=>t O H λxs a=>xs.length<=sizeLine/\∀p,a p=none->Q (.ref p) (upd a p<|.lst xs)
def zog(h:PA X es t):PE X (.Tuple es x1 pos)<|tTup t:=by
 intro d s O H Q I c;refine wpAny_Tuple_spliced<|AX (h pos d s O H _ I c) λf s1 ⟨xs,H1,I1,r,z,q⟩=>{by rw[<- r.length];exact z,?_}
 have a :=I1.hok.fresh<|Æ _;refine{.ref s1.heap.objs.size,upd H1 s1.heap.objs.size<|.tup xs,I1.laid (λb u e=>Ð _ e) (Æ _) ?_,rfl,q _ a}
 exact{z,f,r,{_,â _ rfl,rfl,_,rfl}}
def zol(h:PA X es t):PE X (.List es pos)<|tLst t:=by
 intro d s O H Q I c;refine wpAny_List_spliced<|AX (h pos d s O H _ I c) λf s1 ⟨xs,H1,I1,r,z,q⟩=>{by rw[<- r.length];exact z,?_}
 have a :=I1.hok.fresh<|Æ _;refine{.ref s1.heap.objs.size,upd H1 s1.heap.objs.size<|.lst xs,I1.laid (λb u e=>Ð _ e) (Æ _) ?_,rfl,q _ a}
 exact{z,f,0,r,â _ rfl}
end
abbrev Sp:=kK->Hp->VK->XK->Prop
abbrev GC:=List Env->Hp->Shared->XK->Value->Shared->Prop
structure Env0(P:Program)(w:World)(K:k6)(mg:Str->Option Value)(base:Heap)(A:Around)(outer:List Env)(s:Shared)(H:Hp):Prop where
 frames:A.frames=↑outer
 mod:Mod K mg base
 bs:∀b o,base.get? b=↑o->s.heap.get? b=↑o/\H b=none
 bsz:base.objs.size<=s.heap.objs.size
 funs:s.heap.FunFrames base outer
 frf:∀b∈Ba outer,H b=none
 hok:HOk P w H s.heap
 bare:AllBare s.gens
def CE(outer:List Env)(P:Program)(w:World)(H:Hp)(s:Shared)(Q:VK)(u:Value)(s':Shared):Prop:=
 ∃v a,s'.os=s.os/\AllBare s'.gens/\Un (Ba outer) [] H a s.heap s'.heap/\HOk P w a s'.heap/\Ab v u/\Q v a
def CR(CX:GC)(outer:List Env)(P:Program)(w:World)(H:Hp)(s:Shared)(Q:VK)(E:XK)(r:Result)(s':Shared):Prop:=
 match r with
 |.ok (.ret u)=>CE outer P w H s Q u s'|.ok ϊ=>False|.error e=>CX outer H s E e s'
structure FnOk(P:Program)(w:World)(K:k6)(mg:Str->Option Value)(base:Heap)(CX:GC)(k:Nat)(f:Addr)(fd:FuncData)(ps:kE)(sp:Sp):Prop where
 len:∀vs H Q E,sp vs H Q E->vs.length=ps.length
 run:∀(A:Around) (outer:List Env) (s:Shared) (H:Hp) (args:Args) (us:k9) (vs:kK) (Q:VK) (E:XK),Room k A->Env0 P w K mg base A outer s H->BindsTo s fd args (ps.zip us)->Ac vs us->sp vs H Q E ->
  codeAny (model P w) A (.call (.ref f) args) (CR CX outer P w H s Q E) s
theorem Env0.make{w:World}{K}{s:Shared}{H:Hp}(e:Env0 P w K mg base A outer s H)(C:Addr)(us)(kw) :
  Env0 P w K mg base (A.under<|.builtin "type.__call__" {.ref C::us,kw}) outer s H:={by first|exact e.frames|rfl,e.mod,e.bs,e.bsz,e.funs,e.frf,e.hok,e.bare}
section
variable {X:Cx}{pq:List<|Addr×Obj}{O:St}{H:Hp}{s s':Shared}
theorem Inv.env0(I:Inv X pq O H s):Env0 X.prog X.w X.K X.mg X.base X.A X.stack s H:=
 {I.ok.frames,I.ok.mod,I.bs,Ü I.ok.bsz I.sz,I.stack,I.stkFree,I.hok,I.bare}
def Inv.after(I:Inv X pq O H s)(h:CE X.stack X.prog X.w H s Q u s'):EP X pq O Q u s':=by
 let(v,c,os,bare,un,hok,r,q):=h;let(hh,g,d,t,a):=s';obtain rfl:a=s.os:=os;exact{v,c,I.call un hok bare<|λb z=>absurd z<|by simp,r,q}
end
def Ce(K:k6)(fd:FuncData)(ps:kE)(ds:k9):Prop:=
 ∀(s:Shared) (a:k9),K.In s.heap->(a++ds).length=ps.length->BindsTo s fd {a,[]} (ps.zip<|a++ds)
theorem Ce.all{K }   (h:∀us ,us.length=ps.length->bindArgs fd {us,[]}=pure (ps.zip us)):Ce K fd ps []:=λs us ϊ a=>by
 rw[Ć]at a ⊢;exact .of_eq<|h us a
section
variable {X:Cx}{CX:GC}{k:Nat}{f C:Addr}{fd:FuncData}{ps:kE}{sp:Sp}{dvs:kK}{ds:k9}{E:XK}{x m:Str}{p pos apos:Pos}{e o:Expr}{es:kC}{ta:TE}{t:TA}
structure Mk(K:k6)(C f:Addr):Prop where
 makes:W.makesIn K C=true
 init:W.findIn K (.ref C) "__init__"=↑(↑(.ref f))
 fn:W.isFn K (.ref f)=true
 kp:W.keepIn K (.ref C)=true
end
section
variable {X:Cx}{CX:GC}{k:Nat}{f C:Addr}{fd:FuncData}{ps ks:kE}{sp:Sp}{E:XK}{x m:Str}{p pos apos kpos:Pos}{e o:Expr}{es:kC}{kws:List Keyword}{te ta:TE}{t tk:TA}{nm:Option Str}
variable {g:k9->k9->k9}{gV:kK->kK->kK}
end
structure FnScope(N P:kE)(sc:Scope):Prop where
 kind:sc.kind=.function
 co:sc.isCoroutine=false
 gen:sc.isGenerator=false
 nd:N.Nodup
 pre:N.take P.length=P
 par:∀x∈P,sc.names.lookup x=↑.local\/sc.names.lookup x=↑.cell
 nofree:∀y∈sc.names,y.2≠.free
def gQ{kindOf}:∀{binds} {m},(∀v,(x,v)∉binds)->bindL kindOf binds m x=m x
 |[],ϊ,ϋ=>rfl|(n,v)::r,m,h=>by
  unfold bindL;rw[gQ λw a=>h w<|Ê _ a]
  split
  .grind
  .rfl
def gU{kindOf}:∀{binds} {m},(∀v,(x,v)∉binds)->bindC kindOf binds m x=m x
 |[],ϊ,ϋ=>rfl|(n,v)::r,m,h=>by
  unfold bindC;rw[gU λw a=>h w<|Ê _ a]
  split
  .rfl
  grind
def gR{kindOf}{x:Str}{v}:∀{P:kE} {vs} {i:Nat} {m},P.Nodup->P[i]?=↑x->vs[i]?=↑v->kindOf x=↑.local ->
  bindL kindOf (P.zip vs) m x=↑v
 |[],ϊ,ϋ,ό,ύ,h,ώ,Ϗ=>by simp at h|ϊ::ϋ,[],ό,ύ,ώ,Ϗ,h,ϐ=>by simp at h|p::P,w::vs,0,m,nd,a,b,hk=>by
  simp at a b;subst a;subst b;show bindL kindOf ((p,w)::P.zip vs) m p=_;unfold bindL;rw[gQ λv c=>(ŀ.mp nd).1 (List.of_mem_zip c).1,if_pos hk]
  simp
 |p::P,w::vs,i+1,m,nd,a,b,hk=>by
  unfold bindL;exact gR (i:=i) (ŀ.mp nd).2 (by grind) (by grind) hk
def gW{kindOf}{x:Str}{v}:∀{P:kE} {vs} {i:Nat} {m},P.Nodup->P[i]?=↑x->vs[i]?=↑v->kindOf x≠↑.local ->
  bindC kindOf (P.zip vs) m x=↑v
 |[],ϊ,ϋ,ό,ύ,h,ώ,Ϗ=>by simp at h|ϊ::ϋ,[],ό,ύ,ώ,Ϗ,h,ϐ=>by simp at h|p::P,w::vs,0,m,nd,a,b,hk=>by
  simp at a b;subst a;subst b;show bindC kindOf ((p,w)::P.zip vs) m p=_;unfold bindC;rw[gU λv c=>(ŀ.mp nd).1 (List.of_mem_zip c).1,if_neg hk]
  simp
 |p::P,w::vs,i+1,m,nd,a,b,hk=>by
  unfold bindC;exact gW (i:=i) (ŀ.mp nd).2 (by grind) (by grind) hk
def start(N:kE)(vs:kK):St:=vs.map some++List.replicate (N.length - vs.length) none
def Fh(CX:GC)(P:Program)(w:World)(K:k6)(mg:Str->Option Value)(base:Heap)(N:kE)(b:Str)(a:Scope)(f:Addr)(cd:Value)(A:Around)(outer:List Env)(s:Shared)(H:Hp)(E:XK):Cx where
 prog:=P
 w:=w
 K:=K
 mg:=mg
 base:=base
 A:=A.deeper (envOfC b a s.heap.objs.size f cd)
 N:=N
 s₀:=s
 H₀:=H
 env:=envOfC b a s.heap.objs.size f cd
 outer:=outer
 stack:=envOfC b a s.heap.objs.size f cd::outer
 ex:=[]
 calm:=true
 fn:=λϊ=>true
 pn:=[]
 xe:=λe g=>wpAny (model P w) (A.deeper<|envOfC b a s.heap.objs.size f cd) (leaving (envOfC b a s.heap.objs.size f cd) e) (λϊ c=>CX outer H s E e c) (λd c=>CX outer H s E d c) g
def f6{a:Scope}(h:a.names.lookup x=↑.cell):∃c,(cellsFrom n a.names []).lookup x=↑c:=by
 have q:=W.cellsFrom_some a.names n []<|.inl h;exact Ŏ.mp q
def zfi{CX:GC}{P:Program}{w:World}{K:k6}{base:Heap}{N ps:kE}{g:Str}{d:Scope}{f:Addr}{cd:Value}{A:Around}{s s1:Shared}{H:Hp}{E:XK}{vs:kK}
  (S:FnScope N ps d) (hd:A.handled=none) (l:Env0 P w K mg base A outer s H) (L:vs.length=ps.length) (r:Ac vs us)
  (x:InCallC s s.heap.objs.size (bindL (envOfC g d s.heap.objs.size f cd).kindOf (ps.zip us) λϊ=>none) (cellsFrom (s.heap.objs.size+1) d.names []) (bindC (envOfC g d s.heap.objs.size f cd).kindOf (ps.zip us) λϊ=>none) s1) :
  Inv (Fh CX P w K mg base N g d f cd A outer s H E) [] (start N vs) H s1:=by
 have G :=by have:=congrArg List.length S.pre;rw[Đ]at this;lia
 let(B,tk,rfl,hk):=x.done;have n:∀b ,b∉(Fh CX P w K mg base N g d f cd A outer s H E).ex:=λb z=>absurd (show b∈[] from z)<|by simp
 refine{{l.mod,S.kind,rfl,rfl,Æ _,λy z c B j=>?_,λy m=>?_,λy c ϊ h=>?_,λϊ=>hd,Around.frames_deeper l.frames,.inr {(rfl),rfl},λb z=>absurd z<|n b,l.bs,l.bsz,λb ϊ ϊ=>n b,λb z=>absurd z<|n b,l.funs,l.frf},
  rfl,l.bare,Un.kept hk,{_,x.toInCall.ns,λi y v B j J=>?_},λy c h=>{_,x.cell y c h},l.hok.fresh<|Æ _,λy c h=>?_,λp o=>absurd (show p∈[] from o) (by simp),l.hok.kept hk,?_}
 .exact name_of_addr x.apart (Ě B)<|Ě j
 .have m :=m
  rcases m with m|m
  .exact f6 m
  .exact absurd rfl<|S.nofree _<|Ě m
 .exact Ŝ<|x.above y c<|Ě h
 .have C:i<vs.length:=by
   unfold start at j
   by_cases C:i<vs.length
   .exact C
   .rw[ģ<|by simpa using C]at j
    rw[ū]at j;split at j<;>cases j
  have F:vs[i]?=↑v:=by
   unfold start at j;rw[ÿ (by simpa using C),Ë]at j
   cases e:vs[i]? with
   |none=>rw[e]at j;cases j|some a=>rw[e]at j;cases j;rfl
  let(u,D,I):=r.get F
  have o:ps[i]?=↑y:=by
   rw[<- S.pre,ũ<|by lia];exact B
  have t:ps.Nodup:=by rw[<- S.pre];exact S.nd.sublist<|List.take_sublist _ _
  refine{u,I,?_}
  rcases S.par y (ç o) with k|k
  .exact .inl {k,gR t o D k}
  .let(c,e):=f6 k;refine .inr {.inl k,c,e,?_};have q:=x.cell y c e;rw[gW t o D (by show d.names.lookup y≠_;rw[k];decide)]at q
   exact q
 .exact l.hok.fresh<|Ŝ<|x.above y c<|Ě h
 .unfold start;show _=N.length;rw[à,Á,ų]
  lia
def fn_of{CX:GC}   {K }   {k:Nat}{f:Addr}     {F kV h G a ct T:Value}
   {sp:Sp} (lk:K.lookup f=↑{T,od,.func<|W.fnOf name qual params body scope F kV h G an a ct,osl}) (m:W.codeIn K a qual=true) (S:FnScope N ps scope)
  (len:∀vs H Q E,sp vs H Q E->vs.length=ps.length)
  (c : ∀ (A : Around) (outer ) (s : Shared) (H : Hp) (vs : kK) (Q : VK) (E : XK), Room k (A.deeper<|envOfC qual scope s.heap.objs.size f a) -> sp vs H Q E ->
   ∃t,B8 (Fh CX P w K mg base N qual scope f a A outer s H E) body t/\t { nx:=λϊ H'=>Q .non H',rt:=Q } (start N vs) H) :
  FnOk P w K mg base CX (k+1) f (W.fnOf name qual params body scope F kV h G an a ct) ps sp:=by
 refine{len,λA outer s H D U vs Q E p i J r j=>?_}
 have M:=len _ _ _ _ j;have C :=i.mod.kin.keeps λb o e=>(i.bs b o e).1
 have BW :=i.mod.nolimit.keeps λb o e=>(i.bs b o e).1
 have d:∀y∈ps.zip U,scope.names.lookup y.1=↑.local\/(scope.names.lookup y.1=↑.cell/\((cellsFrom (s.heap.objs.size+1) scope.names []).lookup y.1).isSome=true):=λ⟨n,v⟩ hy=>by
  rcases S.par n (List.of_mem_zip hy).1 with q|q
  .exact .inl q
  .exact .inr {q,W.cellsFrom_some _ _ _<|.inl q}
 refine codeAny_call_function p.depth (C _ _ lk) rfl S.co S.gen rfl (W.codeRec_of C m)<|J _ _ _ _ ?_;refine wpAny_newFunctionEnv_cells S.kind d λenv L s1 x=>?_
 subst L;refine{BW.keeps x.toInCall.keep,codeAny_func ?_};let(t,R,O):=c A outer s H vs Q E (p.deeper _) j;have I:Inv (Fh CX P w K mg base N qual scope f a A outer s H E) [] (start N vs) H s1:=zfi S p.hd i M r x;refine ñ (R [] s1 (start N vs) H _ I O) (λfl B g=>?_) λe B g=>g
 have Az:∀{l } {H' } {v } {u },Inv (Fh CX P w K mg base N qual scope f a A outer s H E) [] l H' B->Ab v u->Q v H'->CE outer P w H s Q u B:=
  λ{l H' v u} Γ z q=>{(v),H',Γ.os,Γ.bare,Γ.base,Γ.hok,z,q}
 cases fl with
 |ret u=>let(v,l,H',Γ,z,q):=g;exact Az Γ z q
 |next=>let(l,H',Γ,q):=g;exact Az (v:=V.non) Γ rfl q
 |brk=>let(_,_,_,q):=g;exact False.elim q
 |cont=>let(_,_,_,q):=g;exact False.elim q
section
variable {X:Cx}{x:Str}{p pos:Pos}{e:Expr}{es:kC}{t:TA}{id T:String}{r:kK->Hp->VK->Prop}
def WN(r:kK->Hp->VK->Prop)(t:TA):TE:=λO H Q=>t O H λb a=>r b a Q
def MS(f:Bs X (.builtin id) r)(i:Gl X x)(j:X.mg x=none)(l:bootBuiltins x=↑(.builtin id))(d:PA X (e::es) t)(k:x≠"__name__")(a:(x == "__debug__")=false)
  (g:starEach (e::es) X.env=(false,eval e X.env)::starEach es X.env) (b:(backTo pos<|starEach es X.env).any (·.1)=false):PE X (.Call (.Name x p) (e::es) [] pos)<|WN r t:=by
 intro c s O H Q I h;refine Ğ<|Fu I i j l ?_ k a;exact PyProof.Rows.callWith_builtin1 (AX (d pos c s O H _ I h) λm s1 ⟨n,H1,I1,r1,q1⟩=>f c s1 O H1 n m Q I1 r1 q1) g b
def Xh(f:Bs X (.type T) r)(i:Gl X x)(j:X.mg x=none)(l:bootBuiltins x=↑(.type T))(d:PA X (e::es) t)(k:x≠"__name__")(a:(x == "__debug__")=false)
  (g:starEach (e::es) X.env=(false,eval e X.env)::starEach es X.env) (b:(backTo pos<|starEach es X.env).any (·.1)=false):PE X (.Call (.Name x p) (e::es) [] pos)<|WN r t:=by
 intro c s O H Q I h;refine Ğ<|Fu I i j l ?_ k a;exact ę (AX (d pos c s O H _ I h) λm s1 ⟨n,H1,I1,r1,q1⟩=>f c s1 O H1 n m Q I1 r1 q1) g b
end
end L2
namespace HT
open PySem PyProof.Rows
section
open PySem.SeqAt
open PySem.AutoSeq1 (wpAny_loadPart')
open PySem.MeetsSeq PySem.MeetsSeq2 PySem.MeetsSeq3
end
section
variable {prog:Program}{w:World}{A:Around}{E:Value->Shared->Prop}{s:Shared}
def sIx(n d:Nat):kA->Nat
 |none=>d|some v=>if v<0 then (v+(n:Int)).toNat else min v.toNat n
def sIx_nat(n d k:Nat):sIx n d (↑(k:Int))=min k n:=by
 rfl
end
end HT
namespace L2
open PySem PySem.Spec PyProof.Rows
abbrev TO:=St->Hp->(kA->Hp->Prop)->Prop
def PO(X:Cx)(e:Option Expr)(t:TO):Prop:=
 ∀(b:List<|Addr×Obj) (s:Shared) (O:St) (H:Hp) (Q:kA->Hp->Prop),Inv X b O H s->t O H Q ->
  wpAny (model X.prog X.w) X.A (evalPart e X.env) (λu c=>∃o a,Inv X b O a c/\IsPart u o/\Q o a) X.xe s
def zji:TO:=λϊ H Q=>Q none H
def tPart(t:TE):TO:=λO H Q=>t O H λx a=>∃i,x=.int i/\Q ↑i a
section
variable {X:Cx}{e:Expr}{te:TE}{lo hi:Option Expr}{tl th:TO}{pos p2:Pos}
def zki:PO X none zji:=by
 intro a s O H Q I h;exact Ç {none,H,I,.none,h}
def zkh(h:PE X e te):PO X ↑e<|tPart te:=by
 intro d s O H Q I c;refine AX (h d s O H _ I c) λu s1 g=>?_
 let(x,a,b,r1,f):=g;let(i,rfl,q):=f;let(t,rfl):=r1;exact{↑i,a,b,.int i t,q}
def Ur(X:Cx)(r:V->kA->kA->Hp->VK->Prop):Prop:=
 ∀(c:List<|Addr×Obj) (s:Shared) (O:St) (H:Hp) (x:V) (v vl e:Value) (b a:kA) (d:Addr) (Q:VK),Inv X c O H s->Ab x v->s.heap.IsSliceOf d vl e .none->IsPart vl b->IsPart e a->r x b a H Q ->
  ∃T id,typeLookup (.type T) "__getitem__"=pure (↑(.builtin id))/\s.TypeIs v T/\wpAny (model X.prog X.w) X.A (getItem v<|.ref d) (EP X c O Q) X.xe s
def tSl(r:V->kA->kA->Hp->VK->Prop)(d:TE)(e th:TO):TE:=λO H Q=>d O H λx a=>e O a λl b=>th O b λu c=>r x l u c Q
def Xe(w:Ur X r)(o:PE X e te)(t:PO X lo tl)(z:PO X hi th):PE X (.Subscript e (.Slice lo hi none p2) pos)<|tSl r te tl th:=by
 intro a s O H Q I h;refine Subscript_<|AX (o a s O H _ I h) λv s1 f=>?_
 let(x,i,j,r1,B):=f;refine wpAny_Slice<|AX (t a s1 O i _ j B) λvl D ⟨l,H2,I2,pl,q2⟩=>AX (z a D O H2 _ I2 q2) λd c f=>?_
 let(u,g,k,A,C):=f;refine Ç ?_;have m:Inv X a O g { c with heap:=c.heap.push { cls:=.type "slice",data:=.fields #[vl,d,.none] } }:=k.kept λb ob q=>Ð _ q
 let(T,id,n,y,p):=w a { c with heap:=c.heap.push { cls:=.type "slice",data:=.fields #[vl,d,.none] } } O g x v vl d l u c.heap.objs.size Q m r1 (Heap.IsSliceOf.new ..) pl A C
 exact tail_any y n p<|by rfl
def Kj(xs:kK)(a b:kA):kK:=(xs.drop<|HT.sIx xs.length 0 a).take (HT.sIx xs.length xs.length b - HT.sIx xs.length 0 a)
def zdh(xs)(lo hi):(Kj xs lo hi).length<=xs.length:=by
 unfold Kj
 grind
end
def CA(n:Nat)(i:Int):Option Nat:=if 0<=i then (if i<n then ↑i.toNat else none) else if -(n:Int)<=i then ↑(i+n).toNat else none
def AW{α:Type}(xs:List α)(i:Int):Option α:=(CA xs.length i).bind λj=>xs[j]?
def KW(h:CA n i=↑j):seqIndex? i n=↑j/\j<n/\-n<=i/\i<n:=by
 unfold CA at h
 by_cases b:0<=i
 .rw[if_pos b]at h
  by_cases a:i<n
  .rw[if_pos a]at h;have e :=Ý h;exact{by rw[seqIndex_of b a,e],by lia,by lia,a}
  grind
 .rw[if_neg b]at h
  by_cases a:-n<=i
  .rw[if_pos a]at h;have e :=Ý h;exact{by rw[seqIndex_neg (by lia) a,e],by lia,a,by lia}
  grind
def Uo(h:AW xs i=↑v):∃j,seqIndex? i xs.length=↑j/\xs[j]?=↑v/\j<xs.length/\-xs.length<=i/\i<xs.length:=by
 unfold AW at h;cases e:CA xs.length i with
 |none=>grind|some j=>
  let(a,b,c,d):=KW e
  grind
def C7{j:Nat}{v}(h:xs[j]?=↑v):AW xs j=↑v:=by
 have a :=(Ñ.mp h).1
 have e:CA xs.length j=↑j:=by
  unfold CA
  grind
 unfold AW;grind
def LP(b:Expr):Prop:=∀o i,subscripted b false o i=operate [o,i] (getItem o i)
def GB(X:Cx)(r:R2):Prop:=
 ∀(b a:Expr) (c:List<|Addr×Obj) (s:Shared) (O:St) (H:Hp) (x y:V) (v u:Value) (Q:VK),Inv X c O H s->Ab x v->Ab y u->r x y H Q ->
  subscripted a false v u=operate [v,u] (getItem v u)->wpAny (model X.prog X.w) X.A (subscriptTail b a v u) (EP X c O Q) X.xe s
def MtR(X:Cx)(id:String)(r:V->kK->Hp->VK->Prop):Prop:=
 ∀(a:List<|Addr×Obj) (s:Shared) (O:St) (H:Hp) (x:V) (xs:kK) (v:Value) (b:k9) (Q:VK),Inv X a O H s->Ab x v->Ac xs b->r x xs H Q ->
  wpAny (model X.prog X.w) X.A (call (.builtin id)<|v::b) (EP X a O Q) X.xe s
section
variable {X:Cx}{a b:Expr}{ta tb:TE}{pos:Pos}
def GB.or(h:GB X r)(h':GB X r'):GB X<|λx y H Q=>r x y H Q\/r' x y H Q:=by
 intro b a d s O H x y v u Q I e f q c
 rcases q with q|q
 .exact h b a d s O H x y v u Q I e f q c
 .exact h' b a d s O H x y v u Q I e f q c
def RJ(g:GB X r)(e:PE X a ta)(f:PE X b tb)(i:LP b):PE X (.Subscript a b pos)<|IG r ta tb:=by
 intro j s O H Q I h;exact Subscript_<|Uk e f I h λv u m x y c d k l q=>g a b j m O c x y v u Q d k l q<|i _ _
def X5(K:k6):R2:=λx y H Q=>∃p xs i v,x=.ref p/\y=.int i/\A3 K H p xs/\AW xs i=↑v/\Q v H
def X3(K:k6):R2:=λx y H Q=>∃p xs i v,x=.ref p/\y=.int i/\By K H p xs/\AW xs i=↑v/\Q v H
def X4:R2:=λx y H Q=>∃z i c,x=.str z/\y=.int i/\z.length<=sizeLine/\AW z.cps.toList i=↑c/\Q (.str {#[c]}) H
def bE:GB X<|X5 X.K:=by
 intro g f D s O H x y v u Q I E F h m;let(p,xs,i,z,rfl,rfl,C,B,q):=h;cases E;let(t,rfl):=F;let(c,r,d,L):=I.list C;let(j,a,n,G,o,A):=Uo B;let(w,k,e):=r.get n;have J:=r.length;have K:=KQ;have Az:EP X D O Q w s:={(z),H,I,e,q}
 by_cases l:0<=i
 .have b :=by
   rw[seqIndex_of l A]at a;exact Ý a
  exact item_listR d.isList l (by lia) (by rw[b];simpa using k) Az m
 .have b:(i+c.toArray.size).toNat=j:=by
   rw[seqIndex_neg (by lia) o]at a
   grind
  exact subscriptTail_builtinR d.isList.typeIs slot_list_getitem.lookup
   (wpAny_getItem_list_neg d.isList (by lia) (by rw[û]<;>lia) (by lia) (by rw[b];simpa using k) {(rfl),Az}) m
def zpu:GB X<|X3 X.K:=by
 intro c b m s O H x y v u Q I n o h k;let(p,xs,i,z,rfl,rfl,g,f,q):=h;cases n;let(t,rfl):=o;let(l,r,d,J):=I.tuple g;let(j,B,e,C,D,E):=Uo f;let(w,A,a):=r.get e;have F:=r.length;have G:=KQ;have Az:EP X m O Q w s:={(z),H,I,a,q}
 exact subscriptTail_builtinR d.typeIs slot_tuple_getitem.lookup
  (getItem_tuple (j:=j) d (by lia) (by lia) (by grind) (by grind) {(rfl),Az}) k
def zpv:GB X X4:=by
 intro b a A s O H x y v u Q I m n h l;let(z,i,c,rfl,rfl,w,g,q):=h;let(t,rfl):=m;let(B,rfl):=n;let(j,d,o,p,e,f):=Uo g;have k:z.cps.toList.length=z.length:=by simp[Str.length]
 rw[k]at d e f;have r:=KQ
 exact tail_any (į s z t) slot_str_getitem.lookup (getItem_str (by
  grind) (by grind) {.str {#[c]},H,I.tok _,{_,rfl},q}) l
def X6(K:k6):R2:=λx y H Q=>X5 K x y H Q\/X3 K x y H Q\/X4 x y H Q
theorem zpw:GB X<|X6 X.K:=bE.or<|zpu.or zpv
def ze2(a:k9)(n j )(u ):Obj.mapSeq (·.setIfInBounds j u) { cls:=.type "list",data:=.seq a.toArray n }={ cls:=.type "list",data:=.seq (a.set j u).toArray n }:=by
 simp[Obj.mapSeq]
def Inv.lst{a:List<|Addr×Obj}{O:St}{H:Hp}{s:Shared}{p:Addr}{xs:kK}(I:Inv X a O H s)(h:H p=↑(.lst xs)) :
  ∃(its:k9) (n:Nat),Ac xs its/\s.heap.get? p=↑{ cls:=.type "list",data:=.seq its.toArray n }/\xs.length<=sizeLine:=by
 let(z,its,n,r,e):=I.hok p _ h
 grind
def Inv.lstUpd{O:St}     {c a:k9}   (I:Inv X pq O H s)(h:H p=↑(.lst xs))
  (i:s.heap.get? p=↑{ cls:=.type "list",data:=.seq c.toArray n }) (d:f { cls:=.type "list",data:=.seq c.toArray n }={ cls:=.type "list",data:=.seq a.toArray n' }) (r:Ac ys a) (hz:ys.length<=sizeLine) (t:Nat) :
  Inv X pq O (upd H p<|.lst ys) { s with heap:=s.heap.update p f,toks:=t }:=by
 have e:(s.heap.update p f).get? p=↑{ cls:=.type "list",data:=.seq a.toArray n' }:=by
  rw[Č f i (by rw[d]<;>rfl),d]
 refine I.write (by rw[h];trivial) (.inl rfl) (λb u g q=>(ø _ _<|Î g).trans q) {_,e} ?_
 exact{(hz),a,n',r,e}
def rSetL:V->V->V->Hp->(Hp->Prop)->Prop:=λo i v H Q=>∃p xs k j,o=.ref p/\i=.int k/\H p=↑(.lst xs)/\CA xs.length k=↑j/\Q (upd H p<|.lst<|xs.set j v)
def Wh:Uz X rSetL:=by
 intro F s O H o i v E D u Q I y x z h;let(p,xs,k,j,rfl,rfl,f,m,q):=h;cases y;let(t,rfl):=x;let(a,n,r,c,w):=I.lst f;let(b,A,g,l):=KW m;have B:=r.length;have C:=KQ
 have d :=
  I.lstUpd f c (ze2 a n j u) (r.set z j) (by rw[Ŷ];exact w) s.toks
 by_cases e:0<=k
 .have hk :=by
   rw[seqIndex_of e l]at b;exact Ý b
  exact W.ki_setAt c e (by lia) (by grind) (by rw[hk];exact{_,d,q})
 .have hk:(k+a.toArray.size).toNat=j:=by
   rw[seqIndex_neg (by lia) g]at b
   grind
  exact W.ki_setBack c (by lia) (by grind) (by lia) (by rw[hk];exact{_,d,q})
def zc2(lo hi)(n):(sliceBounds lo hi none n).1=HT.sIx n 0 lo/\(sliceBounds lo hi none n).2.1=HT.sIx n n hi/\(sliceBounds lo hi none n).2.2=1:=by
 refine{?_,?_,rfl}
 .cases lo with
  |none=>simp[sliceBounds,HT.sIx]|some i=>
   erw[sliceBounds,HT.sIx,Option.getD_none,Å]
   grind
 .cases hi with
  |none=>simp[sliceBounds,HT.sIx]|some i=>
   erw[sliceBounds,HT.sIx,Option.getD_none,Å]
   grind
def zbo(a:k9)(lo hi):slicePick a.toArray lo hi none=((a.drop<|HT.sIx a.length 0 lo).take (HT.sIx a.length a.length hi - HT.sIx a.length 0 lo)).toArray:=by
 let(b,c,d):=zc2 lo hi a.toArray.size;unfold slicePick;rw[b,c,d];erw[sliceRange_one,pick_run]<;>rfl
def X2(K:k6):V->kA->kA->Hp->VK->Prop:=λx c b H Q=>∃a xs,x=.ref a/\A3 K H a xs/\∀p,H p=none->Q (.ref p) (upd H p<|.lst<|Kj xs c b)
def zjn:Ur X<|X2 X.K:=by
 intro o s O H x v vl t d e p Q I n g l m h;let(a,xs,rfl,i,q):=h;cases n;let(k,r,f,j):=I.list i;have c:=r.length;refine{"list",_,slot_list_getitem.lookup,f.isList.typeIs,?_};refine wpAny_getItem_list_slice f.isList g l m .none (by simp) ?_<|by grind
 rw[zbo,<- c];refine{.ref s.heap.objs.size,_,I.laid (λb ob q=>Ð _ q) (Æ _) ?_,rfl,q _<|I.hok.fresh<|Æ _}
 exact{Ü (zdh xs d e) j,_,0,(r.drop<|HT.sIx xs.length 0 d).take (HT.sIx xs.length xs.length e - HT.sIx xs.length 0 d),â _ rfl}
def zd1:Bs X (.type "list") (λxs H Q=>∃p ys,xs=[.ref p]/\(A3 X.K H p ys\/By X.K H p ys)/\∀l,H l=none->Q (.ref l) (upd H l<|.lst ys)):=by
 intro w s O H xs y Q I r h;let(p,ys,rfl,i,q):=h;let(u,rfl,x):=Er r;cases x
 have Az:∀(a ),Ac ys a->ys.length<=sizeLine->∀(c ) (d ),(∀b v,s.heap.get? b=↑v->c.get? b=↑v) ->
   c.get? s.heap.objs.size=↑{ cls:=.type "list",dict:=none,data:=.seq a.toArray d,slots:=#[] }->EP X w O Q (.ref s.heap.objs.size) { s with heap:=c }:=λa f j c d kp e=>
  {.ref s.heap.objs.size,_,I.laid kp (Æ _) (show DG X.prog X.w _ c _ (.lst ys) from{(j),a,d,f,e}),rfl,q _<|I.hok.fresh<|Æ _}
 rcases i with i|i
 .let(a,f,t,j):=I.list i;have g:=f.length;let(o,m,k,n,hd):=t.isList;exact call_list_seq p (.inl rfl) m k hd (λc d kp e=>Az a f j c d kp e)<|by grind
 .let(a,f,t,j):=I.tuple i;have g:=f.length;let(o,m,k,n,hd):=t;exact call_list_seq p (.inr rfl) m k hd (λc d kp e=>Az a f j c d kp e)<|by grind
def Ve(K:k6)(T:String)(x:V)(H:Hp):Prop:=match x with
 |.str ϊ=>T="str"|.int ϊ=>T="int"|.ref p=>(T="list"/\∃xs,A3 K H p xs)\/(T="tuple"/\∃o,K.lookup p=↑o/\o.cls=.type "tuple"/\o.dict=none) \/
   (T="dict"/\((∃a,H p=↑(.dK a))\/∃a,H p=↑(.dT a)))\/(T="set"/\∃S n,H p=↑(.set S n))
 |ϊ=>False
def zmr{O:St}{x:V}(I:Inv X pq O H s)(r:Ab x v)(ty:Ve X.K T x H) :
  s.TypeIs v T/\∀a,v=.ref a->∃ob,s.heap.get? a=↑ob/\ob.dict=none:=by
 cases x with
 |str z=>let(t,rfl):=r;cases (ty);exact{į s z t,λϊ e=>nomatch e}
 |int i=>let(t,rfl):=r;cases (ty);exact{typeIs_int s i t,λϊ e=>nomatch e}
 |ref p=>
  cases r
  rcases ty with ⟨rfl,xs,h⟩|⟨rfl,o,hk,g,hd⟩|⟨rfl,hk⟩|⟨rfl,S,n,hk⟩
  .let(j,_,f,_):=I.list h;refine{f.isList.typeIs,λa e=>?_}
   cases e;let(o,n,e,c,hd,_):=f;exact{(o),e,hd}
  .refine{{o,I.kIn p o hk,g},λa e=>?_}
   cases e;exact{o,I.kIn _ o hk,hd}
  .have z:∃o,s.heap.get? p=↑o/\o.ExactDict:=by
    rcases hk with ⟨d,hk⟩|⟨d,hk⟩
    .let(_,_,_,_,o,_,_,e,ex,_):=I.hok p _ hk;exact{(o),e,ex}
    .let(_,_,_,_,o,_,_,e,ex,_):=I.hok p _ hk;exact{(o),e,ex}
   let(o,e,ex):=z;refine{{(o),e,ex.1},λa b=>?_}
   cases b;exact{(o),e,ex.2.1}
  .let(o,_,_,_,e,ex,_):=I.hok p _ hk;refine{{(o),e,ex.1},λa b=>?_}
   cases b;exact{(o),e,ex.2.1}
 |_=>exact False.elim ty
def tBM(K:k6)(T:String)(r:V->kK->Hp->VK->Prop)(c:TE)(t:TA):TE:=λO H Q=>c O H λx a=>Ve K T x a/\t O a λxs b=>r x xs b Q
variable {o e:Expr}{es:kC}{to:TE}{t:TA}{name:Str}{apos cpos:Pos}{T id:String}{r:V->kK->Hp->VK->Prop}
def MT(w:PlainAttrs T)(slot:Slot T name id)(f:typeOf (.builtin id)=pure (.type "method_descriptor"))(p:MtR X id r)(q:PE X o to)(n:PA X (e::es) t)
  (a:attributeBase o name X.env (eval o X.env)=eval o X.env)
  (c : ((backTo cpos<|starEach (e :: es) X.env).all (fun x => !x.1) && (backToKw cpos<|keywordEach [] X.env).all (fun x => x.1.isSome)
   && decide ((e::es).length+([]:List Keyword).length+(if ([]:List Keyword).isEmpty then 0 else 1)<30))=true:=by rfl)
  (b:(apos.endLine == cpos.line)=true) (u:starEach (e::es) X.env=(false,eval e X.env)::starEach es X.env) (d:(backTo cpos<|starEach es X.env).any (·.1)=false) :
  PE X (.Call (.Attribute o name apos) (e::es) [] cpos) (tBM X.K T r to t):=by
 intro g s O H Q I h;refine wpAny_Call_method_late a c b rfl<|AX (q g s O H _ I h) λv s1 C=>?_
 let(x,k,i,r1,ty,y):=C;let(l,m):=zmr i r1 ty;refine{T,id,w,slot,f,l,m,?_};have j:=n cpos g s1 O k _ i y;rw[u]at j ⊢;refine Calls.callWith_builtin (by grind)<|Calls.evalArgs_plain ?_
 exact AX j λA z ⟨B,H2,I2,r2,q2⟩=>p g z O H2 x B v A Q I2 r1 r2 q2
end
def Nw(X:Cx)(id:String)(r:V->kK->Hp->VK->Prop):Prop:=
 ∀(a:List<|Addr×Obj) (s:Shared) (O:St) (H:Hp) (x:V) (xs:kK) (v:Value) (b:k9) (Q:VK),Inv X a O H s->Ab x v->Ac xs b->r x xs H Q ->
  wpAny (model X.prog X.w) X.A (call (.builtin id)<|v::b) (EP X a O Q) X.xe s
def Ac.one:∀{x} {us},Ac [x] us->∃u,us=[u]/\Ab x u
 |_,_,.cons r .nil=>{_,rfl,r}
def Ac.rep(h:Ac xs us):∀k ,Ac (List.replicate k xs).flatten (List.replicate k us).flatten
 |0=>.nil|k+1=>by
  exact Ac.append h<|Ac.rep h k
def cC(its):∀(k) (acc:k9),
  List.foldl (λx1 x2=>x1++x2) acc.toArray (List.replicate k its.toArray)=(acc++(List.replicate k its).flatten).toArray
 |0,acc=>by simp|k+1,acc=>by
  have e:acc.toArray++its.toArray=(acc++its).toArray:=by simp
  have a:(acc++its)++(List.replicate k its).flatten=acc++(List.replicate (k+1) its).flatten:=by
   grind
  rw[<- a,<- cC its k<|acc++its,<- e,List.replicate_succ,List.foldl_cons]
section
variable {X:Cx}{pq:List<|Addr×Obj}{O:St}{H:Hp}{s:Shared}{l b:Addr}{xs ys zs:kK}
def Inv.lset{b a:k9}(I:Inv X pq O H s)(c:H l=↑(.lst xs))
  (e:s.heap.get? l=↑{ cls:=.type "list",data:=.seq b.toArray n }) (g:f b.toArray=a.toArray) (i:Ac ys a) (hz:ys.length<=sizeLine) :
  Inv X pq O (upd H l<|.lst ys) { s with heap:=s.heap.update l<|Obj.mapSeq f,toks:=t' }:=by
 have q:=PySem.IsL.update e f;rw[g]at q;refine I.write (by rw[c];exact trivial) (.inl rfl) (λj u d h=>(ø s.heap (Obj.mapSeq f)<|Î d).trans h) {_,q} ?_
 exact{hz,a,_,i,q}
theorem Inv.lnew(I:Inv X pq O H s)(a:Ac ys its)(hz:ys.length<=sizeLine) :
  Inv X pq O (upd H s.heap.objs.size<|.lst ys) { s with heap:=s.heap.push { cls:=.type "list",data:=.seq its.toArray },toks:=t' }:=
 I.laid (λϊ ϊ q=>Ð _ q) (Æ _) {hz,its,0,a,â _ rfl}
def Inv.fresh(I:Inv X pq O H s):H s.heap.objs.size=none:=I.hok.fresh<|Æ _
def Inv.lstM(I:Inv X pq O H s)(a:H l=↑(.lst xs)):xs.length<=sizeLine/\∃(its:k9) (n:Nat),Ac xs its/\xs.length=its.length/\s.heap.get? l=↑{ cls:=.type "list",data:=.seq its.toArray n }:=by
 let(z,its,n,r,e):=I.hok l _ a;exact{(z),its,n,r,r.length,e}
def Z1(h:n<=sizeLine):Builtin.List.listTooLong n=false:=by
 exact Ù<|by lia
end
section
variable {X:Cx}
def zk9:V->kK->Hp->VK->Prop:=λx a H Q=>∃l xs y,x=.ref l/\a=[y]/\H l=↑(.lst xs)/\xs.length<sizeLine/\Q .non (upd H l<|.lst<|xs++[y])
def zf8:Nw X "list.append" zk9:=by
 intro j s O H x m v k Q I f d h;let(l,xs,y,rfl,rfl,b,i,q):=h;cases f;let(u,rfl,c):=d.one;let(z,a,n,r,g,e):=I.lstM b;refine ň F.slot_list_append {_,e,rfl} F.entry_list_append (F.args_list_append_2 _ _) (PySem.list_append l a.toArray n u<|by grind) {e,?_}
 refine{.non,_,I.lset b e (by simp) (r.append<|.cons c .nil) ?_,rfl,q}
 grind
def zk8:V->kK->Hp->VK->Prop:=λx c H Q=>∃l b xs a,x=.ref l/\c=[.ref b]/\H l=↑(.lst xs)/\H b=↑(.lst a)/\xs.length+a.length<=sizeLine/\Q .non (upd H l<|.lst<|xs++a)
def zf7:Nw X "list.extend" zk8:=by
 intro B s O H x D v C Q I w t h;let(l,b,xs,G,rfl,rfl,g,j,A,q):=h;cases w;let(u,rfl,p):=t.one;cases p;let(z,c,n,r,y,e):=I.lstM g;let(E,a,m,o,k,i):=I.lstM j;have f:c.toArray.size+a.toArray.size<=sizeLine:=by grind
 have d:¬ (!c.toArray.isEmpty && Builtin.List.listTooLong (c.toArray.size+a.toArray.size))=true:=by
  rw[Z1 f];simp
 refine ň F.slot_list_extend {_,e,rfl} F.entry_list_extend (F.args_list_extend_2 _ _)
  (AutoSeq1.list_extend_list_list_0 l c.toArray n b a.toArray m d (by lia)<|by lia) {e,i,?_}
 refine{.non,_,I.lset g e (by simp) (r.append o) ?_,rfl,q}
 grind
def rCat:R2:=λx y H Q=>∃l b xs a,x=.ref l/\y=.ref b/\H l=↑(.lst xs)/\H b=↑(.lst a)/\xs.length+a.length<=sizeLine/\∀p,H p=none->Q (.ref p) (upd H p<|.lst<|xs++a)
def zov:Ag X (binaryOp .Add) rCat:=by
 intro A s O H x y v u Q I m o h;let(l,b,xs,C,rfl,rfl,i,g,t,q):=h;cases m;cases o;let(z,c,n,r,p,e):=I.lstM i;let(B,a,w,k,j,d):=I.lstM g;refine PySem.P.add_list e d ?_<|by grind
 have f:c.toArray++a.toArray=(c++a).toArray:=by simp
 rw[f];exact{.ref _,_,I.lnew (r.append k) (by grind),rfl,q _ I.fresh}
def rRep:R2:=λx y H Q=>∃l k xs,x=.ref l/\y=.int k/\H l=↑(.lst xs)/\-(2 ^ 63)<=k/\k<2 ^ 63/\xs.length * k.toNat<=sizeLine /\
 ∀p,H p=none->Q (.ref p) (upd H p<|.lst (List.replicate k.toNat xs).flatten)
def zli{α:Type}(xs:List α)(k):(List.replicate k xs).flatten.length=k * xs.length:=by
 simp
def zor:Ag X (binaryOp .Mult) rRep:=by
 intro J s O H x y v u Q I C D h;let(l,k,xs,rfl,rfl,A,p,w,j,q):=h;cases C;let(t,rfl):=D;let(z,b,n,r,B,e):=I.lstM A;have g:b.toArray.size * k.toNat<=sizeLine:=by rw[û,<- B];exact j
 have d:¬ b.toArray.size * k.toNat > (2 ^ 63 - 1) / 8:=by
  have:sizeLine<=(2 ^ 63 - 1) / 8:=by decide
  lia
 have f:¬ (!Builtin.List.listFitsIndex k)=true:=by
  rw[fitsIndex_both p w];exact Ā
 have c:¬ Builtin.List.listTooLong (b.toArray.size * k.toNat)=true:=by
  rw[Z1 g];exact Ā
 have i:List.foldl (λG x2=>G++x2) #[] (List.replicate (if b.toArray.isEmpty=true then 0 else k.toNat) b.toArray)=(List.replicate k.toNat b).flatten.toArray:=by
  have o :=λm=>by
   have:=cC b m [];rw[ŷ]at this;exact this
  rw[o];cases b with
  |nil=>simp|cons a K=>rw[if_neg<|by simp]
 refine wpAny_binaryOp_repeat_ref (by decide) {_,e,rfl} (λE=>typeIs_int E k t) noFill_list_mul F.fills_int_mul F.slot_int_rmul repeat_list F.slot_int_index.lookup
  (ň F.slot_int_rmul (typeIs_int s k t) F.entry_int_rmul (F.args_int_rmul_2 _ _) (int___rmul___int_list k t l b.toArray n)
   {e,rfl,{_,e,rfl},ň F.slot_list_mul {_,e,rfl} F.entry_list_mul (F.args_list_mul_2 _ _) (AutoListH.list___mul___list_int_3 l b.toArray n k t f d c) {e,?_}})
 rw[i];exact{.ref _,_,I.lnew (r.rep k.toNat) (by rw[zli,Nat.mul_comm];exact j),rfl,q _ I.fresh}
variable {prog:Program}{w:World}{A:Around}{E:Value->Shared->Prop}{s:Shared}
end
section
variable {X:Cx}
end
end L2
namespace Att
open PySem PySem.W PySem.Calls PyProof.Rows
def zaq:∀(ns) (vs),WellAll P h vs (ns.map WData.int)->IntsAre vs ns:=by
 intro ns
 induction ns with
 |nil=>intro vs w;cases w;exact .nil|cons n ns c=>
  intro vs w;cases w with
  |cons a b=>cases a;exact .cons _ _<|c _ b
def zez{l:OpenLaw}(t:l.most=↑n)
  (b:l.row.toRowW.claim.pre args=true) (g:WellAll P h vals args) :
  ∃a vs ns,vals=[Value.ref a]/\args=[WData.list<|ns.map WData.int]/\h.get? a=↑{ cls:=.type "list",data:=.seq vs.toArray }/\IntsAre vs ns/\ns.length<=n:=by
 have f :=(pre_splitW b).1;have o:l.pre.holds [] { args:=args }=true:=(pre_splitW b).2;let(d,r,rfl,j,k):=hasAllW_cons f;obtain rfl:=hasAllW_nil k;let(xs,rfl,m):=hasW_list j;let(ns,rfl):=items_int m
 have e:ns.length<=n:=by
  have i:(WTm.not<|.lt (.lit<|.int n)<|.len<|.arg 0).holds [] { args:=[.list<|ns.map .int] }=true:=by
   have i:=(holds_andW o).1
   grind
  have s:=condW_of i<|w_not<|w_lt w_lit<|w_len_list<|w_arg rfl
  grind
 cases g with
 |cons q w2=>
  cases w2;cases q with
  |list p c=>exact{_,_,ns,rfl,rfl,p,zaq ns _ c,e}
def zf1(l:OpenLaw)(args):l.row.toRowW.claim.post args (.bool true) args=true:=
 postW_of
  (by rfl)
  (w_eq_bool (w_res rfl) w_lit) rfl
def attach_call{l:OpenLaw}
  (C:l.most=↑n) (i:d.params.defaults=[])
  (call : ∀ (w ) (s₀ s₁ ) (mg mb ) (fa ) (o ) (pm cd doc ) (a ) (vs ) (ns ),
   Ground q loose [] XP w s₀ mg mb s₁.heap->YP w s₁.heap ->
   s₁.heap.get? fa=↑o->o.data=.func (docDef d.name d.params d.body d.scope pm cd doc)->s₁.heap.CodeRec cd d.name->mg d.name=↑(.ref fa) ->
   s₁.heap.get? a=↑{ cls:=.type "list",data:=.seq vs.toArray }->IntsAre vs ns->ns.length<=n->s₁.gens=#[] ->
   codeAny (model l.prog w) callerA (.call (.ref fa) {[.ref a],[]}) (λr s'=>r=.ok (.ret<|.bool true)/\OldK s₁.heap s'.heap/\s'.os=s₁.os/\AllBare s'.gens) s₁) :
  WalkO q loose XP YP l.row.toRowW d [] (λf vs=>PySem.call f vs):=by
 intro w s₀ s₁ mg mb G τ fa o pm cd doc u kV D hd h p j z m t H g s F k A;obtain rfl:u=.none:=Dflts.none p i;obtain rfl:kV=.none:=Dflts.noKw p;let(a,vs,ns,rfl,rfl,e,b,c):=zez C g k;refine enter_call<|ĉ (call w s₀ s₁ mg mb fa o pm cd doc a vs ns G τ D (fd_plain hd) h j e b c z) λr s' E=>?_
 let(rfl,v,x,y):=E;exact{.inl {.bool true,.bool true,[],rfl,λϊ=>rfl,.bool true,zf1 l _,λϊ=>{List.Pairwise.nil,λϊ B=>(nomatch B)}},v,x,y}
section
variable {prog:Program}{w:World}{A:Around}{E:Value->Shared->Prop}{s:Shared}{K:Frag}
end
end Att
namespace L2
open PySem PySem.Spec PyProof.Rows
def V9:∀{vs} {ns},IntsAre vs ns->Ac (ns.map V.int) vs
 |_,_,.nil=>.nil|_,_,.cons n t h=>.cons {(t),rfl}<|V9 h
def Nv(H:Hp):Prop:=∀b,H b=none\/∃o xs,H b=↑(.frz o<|.lst xs)
def zhw{K }   {k:Nat}   {x:Str}{sp:Sp}
  (I:K.In s₁.heap) (p:s₁.heap.Ns mainGlobals mg) (f:s₁.heap.Ns builtinsNs mb) (E:∀x:Str,x≠"__name__"->mb x=bootBuiltins x) (l:s₁.heap.NoLimit) (W:s₁.gens=#[])
  (ha:s₁.heap.get? a=↑{ cls:=.type "list",data:=.seq vs.toArray }) (hi:IntsAre vs ns) (hl:ns.length<=sizeLine) (hr:Room k callerA)
  (F:∀base:Heap,K.In base->base.Ns mainGlobals mg->FnOk P w K mg base CX k fa fd [x] sp) (hbind:∀(s:Shared) (u:Value),BindsTo s fd {[u],[]} [(x,u)])
  (hsp:∀H:Hp,Nv H->A3 K H a (ns.map V.int)->sp [.ref a] H (λv ϊ=>v=.bl true) λϊ ϊ ϊ=>False)
  (hCX:∀H e s',CX [] H s₁ (λϊ ϊ ϊ=>False) e s'->False) :
  codeAny (model P w) callerA (.call (.ref fa) {[.ref a],[]}) (λr s'=>r=.ok (.ret<|.bool true)/\OldK s₁.heap s'.heap/\s'.os=s₁.os/\AllBare s'.gens) s₁:=by
 have N:=V9 hi;have y:=hi.length
 have i:∀H ,Nv H->A3 K H a (ns.map V.int)->HOk P w H s₁.heap->(∀b,H b≠none->b=a)->(H a≠none->K.lookup a=none) ->
   codeAny (model P w) callerA (.call (.ref fa) {[.ref a],[]}) (λr s'=>r=.ok (.ret<|.bool true)/\OldK s₁.heap s'.heap/\s'.os=s₁.os/\AllBare s'.gens) s₁:=by
  intro H M U hok L S;have c:∀{b } {o },s₁.heap.get? b=↑o->H b=none->(HE s₁.heap H).get? b=↑o:=λe n=>zi3 e n
  have G:∀{b } {o } {C } {B },s₁.heap.get? b=↑o->o.data=.dict C B->H b=none:=λ{b o C B} e d=>by
   cases q:H b with
   |none=>rfl|some u=>
    have D :=L b (by rw[q];simp)
    subst D;rw[ha]at e;cases e;have O :=d;cases O
  have g:∀{b } {m },s₁.heap.Ns b m->(HE s₁.heap H).Ns b m:=λ{b m} ⟨o,C,B,e,d,r⟩=>{o,C,B,c e<|G e d,d,r}
  have j :=λb o e=>c (I b o e) (by
   cases q:H b with
   |none=>rfl|some u=>
    have D :=L b (by rw[q];simp)
    subst D;rw[S (by rw[q];simp)]at e;cases e)
  have T:Mod K mg<|HE s₁.heap H:={j,g p,{mb,g f,E},let ⟨mc,h1,h2⟩:=l;{mc,g h1,h2}};have Q:Env0 P w K mg (HE s₁.heap H) callerA [] s₁ H:={rfl,T,λb o e=>zl3 e,Nat.le_of_eq<|zfk _ _,trivial,λb f=>absurd (show b∈[] from f) (by simp),hok,.of_eq W}
  refine ĉ ((F _ j<|g p).run callerA [] s₁ H {[.ref a],[]} [.ref a] [.ref a] _ _ hr Q (hbind s₁<|.ref a) (.cons rfl .nil) (hsp H M U)) λr s' h=>?_
  cases r with
  |error e=>exact(hCX H e s' h).elim|ok fl=>
   cases fl with
   |next=>exact False.elim h|brk=>exact False.elim h|cont=>exact False.elim h|ret u=>
    let(v,H',os,bare,un,t,Y,q):=h;have X :=q;subst X;obtain rfl:u=Value.bool true:=Y;refine{rfl,OldK.of_keep λb o e=>?_,os,bare}
    cases q:H b with
    |none=>exact un.keep b o e q (by intro z;exact absurd (show b∈[] from z)<|by simp) (by simp)|some u=>
     rcases M b with z|⟨ob,xs,z⟩
     .rw[q]at z;cases z
     .have Z:=un.frzs b ob _ z;let(J,_):=hok b _ z;let(R,_):=t b _ Z;rw[e]at J;cases J;exact R
 cases hk:K.lookup a with
 |some o=>have e:=I a o hk;rw[ha]at e;cases e;refine i (λϊ=>none) (λϊ=>.inl rfl) (.inr {_,vs.toArray,_,hk,rfl,rfl,rfl,by rw[û,y];exact hl,by simpa using N}) (λb u z=>by have A :=z;cases A) (λb z=>absurd rfl z) λz=>absurd rfl z|none=>
  refine i (λb=>if b=a then ↑(.frz { cls:=.type "list",data:=.seq vs.toArray }<|.lst<|ns.map V.int) else none) (λb=>?_) (.inl<|.inr {{ cls:=.type "list",data:=.seq vs.toArray },if_pos rfl}) (λb u z=>?_) (λb z=>?_) λϊ=>hk
  .by_cases f:b=a
   .exact .inr {_,_,if_pos f}
   .exact .inl<|if_neg f
  .by_cases f:b=a
   .have A:=(if_pos f).symm.trans z;cases A;subst f;exact{ha,by rw[Á];exact hl,vs,_,N,ha}
   .have A:=(if_neg f).symm.trans z;cases A
  .by_cases f:b=a
   .exact f
   .exact absurd (if_neg f) z
def walk_of{l:PySem.W.OpenLaw}{n k:Nat}     {d:DefRec}{K:Params->k6}{CX:World->GC}{sp:World->Sp}{x:Str}
  (L:l.most=↑n) (r:n<=sizeLine) (m:d.params.defaults=[]) (M:Room k callerA)
  (D:∀(w:World) (h:Heap),YP w h->(K w.params).In h)
  (F : ∀ (w : World) (mg ) (fa : Addr) (h : Heap), (K w.params).In h -> h.Ns mainGlobals mg -> mg d.name = ↑(.ref fa) ->
   ∃fd:FuncData,(∀(s:Shared) (u:Value),BindsTo s fd {[u],[]} [(x,u)]) /\
    ∀base:Heap,(K w.params).In base->base.Ns mainGlobals mg->FnOk l.prog w (K w.params) mg base (CX w) k fa fd [x] (sp w))
  (t:∀(w:World) (H:Hp) (a:Addr) (ns:kF),ns.length<=n->Nv H->A3 (K w.params) H a (ns.map V.int)->sp w [.ref a] H (λv ϊ=>v=.bl true) λϊ ϊ ϊ=>False)
  (j:∀(w:World) (H:Hp) (s:Shared) (e:Value) (s':Shared),CX w [] H s (λϊ ϊ ϊ=>False) e s'->False) :
  PySem.W.WalkO q loose XP YP l.row.toRowW d [] (λf vs=>PySem.call f vs):=by
 refine Att.attach_call L m λw s₀ i mg O fa o P cd z a vs ns G τ N hd I p g c b J=>?_
 have y:=D w _ τ;let(fd,E,A):=F w mg fa _ y G.T.g p;exact zhw y G.T.g G.T.b G.T.builtins G.T.nolimit J g c (Ü b r) M A E (λH B C=>t w H a ns b B C) λH e s'=>j w H i e s'
def NI(s:Stmt):Arguments:=match s with
 |.FunctionDef ϊ a ϋ ό ύ ώ Ϗ ϐ ϑ ϒ=>a|ϊ=>{ posonlyargs:=[],args:=[],vararg:=none,kwonlyargs:=[],kw_defaults:=[],kwarg:=none,defaults:=[] }
def G0(s:Stmt):kD:=match s with
 |.FunctionDef ϊ ϋ b ό ύ ώ Ϗ ϐ ϑ ϒ=>b|ϊ=>[]
def Cs(s:Stmt):Scope:=match s with
 |.FunctionDef ϊ ϋ ό ύ ώ Ϗ a ϐ ϑ ϒ=>a|ϊ=>{ kind:=.function,names:=[],isGenerator:=false,isCoroutine:=false }
abbrev LX:GC:=λϊ ϊ ϊ ϊ ϊ ϊ=>False
abbrev E0:XK:=λϊ ϊ ϊ=>False
section
variable {P:Program}{w:World}{K:k6}{mg:Str->Option Value}{base:Heap}
variable {X:Cx}
end
def KZ{A B:Prop}(h:B):if false=true then A else B:=by
 grind
def KY{A B:Prop}(h:A):if true=true then A else B:=by
 rw[if_pos rfl];exact h
def A5(H H':Hp):Prop:=∀b o,H b=↑o->H' b=↑o
theorem A5.refl(H:Hp):A5 H H:=λϊ ϊ h=>h
theorem A5.trans(a:A5 H H1)(b:A5 H1 H2):A5 H H2:=λc o h=>b c o<|a c o h
def A5.seq{K}(e:A5 H H')(h:A3 K H a xs):A3 K H' a xs:=by
 rcases h with (h|⟨o,h⟩)|h
 .exact .inl<|.inl<|e _ _ h
 .exact .inl<|.inr {o,e _ _ h}
 .exact .inr h
section
variable {κ:Type} [DecidableEq κ]
def EW(a:List<|κ×V)(k:κ):Option V:=(a.find? λb=>decide (b.1=k)).map (·.2)
def EY(a:List<|κ×V)(k:κ)(v:V):List<|κ×V:=
 if (a.any λb=>decide (b.1=k))=true then a.map (λb=>if b.1=k then (b.1,v) else b) else a++[(k,v)]
def Le{k:κ}(e:p.1=k):EW (p::r) k=↑p.2:=by simp[EW,e]
def Lg{k:κ}(e:¬ p.1=k):EW (p::r) k=EW r k:=by simp[EW,e]
def Vb(k:κ):∀kvs ,(kvs.any λkv=>decide (kv.1=k))=(EW kvs k).isSome
 |[]=>rfl|p::r=>by
  rw[List.any_cons]
  by_cases e:p.1=k
  .erw[Le e,É e,Bool.true_or,ž]
  .rw[Lg e,Ù e];exact Vb k r
def aK(kvs)(k:κ)(v):(EY kvs k v).length<=kvs.length+1:=by
 unfold EY
 grind
def EU.isSome_eq(r:EU o u):o.isSome=u.isSome:=by
 cases o with
 |none=>cases u with
  |none=>rfl|some ϊ=>exact(r).elim
 |some ϊ=>cases u with
  |none=>exact(r).elim|some ϊ=>rfl
def KV.val(r:KV kvs vs)(k:κ):EU (EW kvs k)<|valueAt vs k:=by
 induction r with
 |nil=>exact True.intro|@cons p q ps c h t g=>
  let(d,f):=h
  by_cases e:p.1=k
  .have a :=d.symm.trans e;have b:valueAt (q::c) k=↑q.2:=by simp[valueAt,a]
   rw[Le e,b];exact f
  .have a:¬ q.1=k:=λz=>e<|d.trans z
   have b:valueAt (q::c) k=valueAt c k:=by simp[valueAt,a]
   rw[Lg e,b];exact g
def KV.any(r:KV kvs vs)(k:κ):(kvs.any λkv=>decide (kv.1=k))=vs.any λkv=>decide (kv.1=k):=by
 induction r with
 |nil=>rfl|cons h t a=>grind
def KV.repl(r:KV kvs vs)(k:κ)(c:Ab y u) :
  KV (kvs.map λkv=>if kv.1=k then (kv.1,y) else kv) (vs.map λkv=>if kv.1=k then (kv.1,u) else kv):=by
 induction r with
 |nil=>exact .nil|@cons p q ps b h t a=>
  refine .cons ?_ a
  grind
def KV.put(r:KV kvs vs)(k:κ)(a:Ab y u):KV (EY kvs k y)<|stored vs k u:=by
 unfold EY stored;rw[r.any k]
 by_cases e:(vs.any λb=>decide (b.1=k))=true
 .rw[if_pos e,if_pos e];exact r.repl k a
 .rw[if_neg e,if_neg e];exact Paired.snoc r {(rfl),a}
def KV.length{a:List<|κ×V}(r:KV a vs):a.length=vs.length:=ś r
end
def TF(r:Ab (kV k) u):(Dh P w).is k u=true:=by
 cases k with
 |inl i=>let(t,e):=(r);subst e;exact zd5 P w i t
 |inr x=>let(t,e):=(r);subst e;exact zd4 P w x t
def bI:∀{ks} {us},Ac (ks.map kV) us->ItemsAre (Dh P w) ks us
 |[],ϊ,r=>by cases r;exact .nil|k::ks,ϊ,r=>by
  cases r with
  |cons h t=>exact .cons (TF h)<|bI t
abbrev KT(H:Hp):List (List Key×V)->List (List Key×Addr×Value)->Prop:=Paired λp q=>p.1=q.1/\H q.2.1=↑(.tup<|p.1.map kV)/\Ab p.2 q.2.2
def KT.val(r:KT H kvs xs)(k):EU (EW kvs k) ((atKey xs k).map (·.2)):=by
 induction r with
 |nil=>exact True.intro|@cons p q ps c h t g=>
  let(d,_,f):=h
  by_cases e:p.1=k
  .have a :=d.symm.trans e;have b:atKey (q::c) k=↑q.2:=by simp[atKey,a]
   rw[Le e,b];exact f
  .have a:¬ q.1=k:=λz=>e<|d.trans z
   have b:atKey (q::c) k=atKey c k:=by simp[atKey,a]
   rw[Lg e,b];exact g
def KT.repl(r:KT H kvs xs)(k)(c:Ab y u) :
  KT H (kvs.map λkv=>if kv.1=k then (kv.1,y) else kv) (xs.map<|putAt k u):=by
 induction r with
 |nil=>exact .nil|@cons p q ps b h t a=>
  refine .cons ?_ a;unfold putAt
  grind
def KT.put{H:Hp}(r:KT H kvs xs)(k:List Key){y:V}(c:H b=↑(.tup<|k.map kV))(a:Ab y u) :
  KT H (EY kvs k y) (storedH xs k b u):=by
 have e:(kvs.any λd=>decide (d.1=k))=(atKey xs k).isSome:=by
  rw[Vb,(r.val k).isSome_eq,Option.isSome_map]
 unfold EY storedH;rw[e]
 by_cases q:(atKey xs k).isSome=true
 .rw[if_pos q,if_pos q];exact r.repl k a
 .rw[if_neg q,if_neg q];exact Paired.snoc r {(rfl),c,a}
theorem KT.keeps(r:KT H kvs xs)(a:∀b ys,H b=↑(.tup ys)->H' b=↑(.tup ys)):KT H' kvs xs:=
 Paired.mapP r λϊ ϊ z=>{z.1,a _ _ z.2.1,z.2.2}
section
variable {P:Program}{w:World}{H:Hp}{h:Heap}{a:Addr}
theorem XG{u:HO}(ok:HOk P w H h)(e:Rd H a u):DG P w H h a u:=e.ok ok
theorem fM(ok:HOk P w H h)(e:Rd H a<|.dK kvs):kvs.length<=sizeLine/\(a == sysModules)=false/\∃vs,KV kvs vs/\h.DictOf (Dh P w) a vs:=
 XG ok e
theorem fN(ok:HOk P w H h)(e:H a=↑(.dK kvs)):kvs.length<=sizeLine/\(a == sysModules)=false/\∃vs,KV kvs vs/\h.DictOf (Dh P w) a vs:=fM ok<|.inl e
def TC(ok:HOk P w H h)(e:H a=↑(.tup<|ks.map kV)):(tupleKind<|Dh P w).is h ks a:=by
 let(_,b,r,o,c,d,n,f):=(ok a _ e);exact{o,b.toArray,n,c,d,f,by simpa using bI r}
def fK(ok:HOk P w H h)(e:Rd H a<|.dT kvs):kvs.length<=sizeLine/\(a == sysModules)=false /\
  ∃xs,KT H kvs xs/\h.DictOfH (tupleKind<|Dh P w) a xs:=by
 let(z,y,xs,r,o,d,c,f,g,i,j,k):=(XG ok e);refine{z,y,xs,r,o,d,c,f,g,i,j,λx b=>?_,k}
 have all:∀{l } {m },KT H l m->∀x∈m,(tupleKind<|Dh P w).is h x.1 x.2.1:=by
  intro l m q
  induction q with
  |nil=>simp|@cons p q ps u n t s=>
   intro x b
   rcases(Ì.mp b) with e|b
   .exact TC ok<|by grind
   grind
 grind
theorem dt_of(ok:HOk P w H h)(e:H a=↑(.dT kvs)):kvs.length<=sizeLine/\(a == sysModules)=false /\
  ∃xs,KT H kvs xs/\h.DictOfH (tupleKind<|Dh P w) a xs:=fK ok<|.inl e
end
def OE(H:Hp)(a:Addr)(y:V)(r:Option V):Prop:=
 (∃c k,Rd H a (.dK c)/\y=kV k/\r=EW c k)\/∃c k b,Rd H a (.dT c)/\y=.ref b/\H b=↑(.tup<|k.map kV)/\r=EW c k
def OD(H:Hp)(a:Addr)(y v:V)(H':Hp):Prop:=
 (∃c k,H a=↑(.dK c)/\y=kV k/\c.length<sizeLine/\H'=upd H a (.dK<|EY c k v)) \/
 ∃c k b,H a=↑(.dT c)/\y=.ref b/\H b=↑(.tup<|k.map kV)/\c.length<sizeLine/\H'=upd H a (.dT<|EY c k v)
theorem OE.k{k}(e:H a=↑(.dK kvs)):OE H a (kV k)<|EW kvs k:=.inl {kvs,k,.inl e,rfl,rfl}
theorem OD.k{k}(e:H a=↑(.dK kvs))(b:kvs.length<sizeLine):OD H a (kV k) v<|upd H a<|.dK<|EY kvs k v:=.inl {(kvs),k,e,rfl,b,rfl}
section
variable {X:Cx}{pq:List<|Addr×Obj}{O:St}{H:Hp}{s:Shared}{a:Addr}{y v:V}{u r:Value}{o:Option V}{A:Around}{E:Value->Shared->Prop}
def Inv.big(I:Inv X pq O H s):sysModules<s.heap.objs.size:=by
 have h :=(I.mod.glob.keeps I.bk).lt;exact Ń (by decide) h
def zg0(r:A.units+1<cLine)(I:Inv X pq O H s)(g:OE H a y ↑v)(o:Ab y u)(h:∀w' s',Inv X pq O H s'->Ab v w'->Q w' s') :
  wpAny (model X.prog X.w) A (getItem (.ref a) u) Q E s:=by
 rcases g with ⟨n,k,e,i,l⟩|⟨n,k,b,e,i,eb,l⟩
 .subst i;let(z,hd,t,c,f):=fM I.hok e;let(w',m,d):=EU.some_of (by rw[l];exact c.val k)
  exact wpAny_getItem_of (TF o) f.mapOf m<|h w' _ (I.tok _) d
 .subst i;cases (o);let(z,hd,xs,c,f):=fK I.hok e;let(w',m,d):=EU.some_of (by rw[l];exact c.val k)
  let(p,q,j):=Ø.mp m;refine wpAny_getItem_heap (tupleKind_room_in1 r) (TC I.hok eb) f q ?_;rw[j];exact h w' _ (I.tok _) d
theorem fT(I:Inv X pq O H s)(mu:LS<|H a)(e:Heap.SameBut a s.heap h')(d:∃q,h'.get? a=↑q)(new:DG X.prog X.w (upd H a ob) h' a ob) :
  Inv X pq O (upd H a ob) { s with heap:=h',toks:=t' }:=
 I.write mu (.inl rfl) (λb q c z=>(e.2 b c).trans z) d new
theorem zq9(z:kvs.length<=sizeLine)(hd:(a == sysModules)=false)(b:KV kvs vs)(dd:h'.DictOf (Dh P w) a vs) :
  DG P w H' h' a (.dK kvs):={(z),hd,vs,b,dd}
def zfz(N:A.units+1<cLine)(I:Inv X pq O H s)(g:OD H a y v H')(C:Ab y u)(B:Ab v r)(h:∀s',Inv X pq O H' s'->Q () s') :
  wpAny (model X.prog X.w) A (setItem (.ref a) u r) Q E s:=by
 rcases g with ⟨d,k,e,o,l,n⟩|⟨d,k,b,e,o,eb,l,n⟩
 .subst o n;let(z,hd,R,f,m):=fN I.hok e;have P:R.length<=sizeLine:=by rw[<- f.length];exact z
  have p:(EY d k v).length<=sizeLine:=by have:=aK d k v;lia
  refine wpAny_setItem_pairs (TF C) m λx i t=>h _ ?_
  have M:∃q,x.get? a=↑q:=let ⟨q,_,_,j,_⟩:=i;{(q),j};exact fT I (by rw[e];exact True.intro) t M<|zq9 p hd (f.put k B) i
 .subst o n;cases (C);let(z,hd,xs,f,m):=dt_of I.hok e;have P:xs.length<=sizeLine:=by rw[<- ś f];exact z
  have p:(EY d k v).length<=sizeLine:=by have:=aK d k v;lia
  refine wpAny_setItem_heap (tupleKind_room_in1 N) (TC I.hok eb) m λx i t=>h _ ?_
  let(q,F,D,j,G,J,K,_,L):=i;refine fT I (by rw[e];exact True.intro) t {(q),j} {p,hd,_,(f.put k eb B).keeps λc S w=>?_,q,F,D,j,G,J,K,L}
  rw[Ap<|ne_of w e<|λz=>nomatch z]
  exact w
variable {kvs:List<|Key×V}{k:Key}
end
section
variable {X:Cx}{o i e value:Expr}{pos pos' tpos:Pos}{td ty tv:TE}
end
theorem zil(h:Heap)(a:sysModules<h.objs.size):DG P w H (h.push { cls:=.type "dict",data:=.dict #[]}) h.objs.size<|.dK []:=
 {õ _,beq_eq_false_iff_ne.mpr<|Î<|Õ a,[],.nil,Heap.DictOf.new h}
section
variable {X:Cx}{pos:Pos}
variable {pq:List<|Addr×Obj}{O:St}{H:Hp}{s:Shared}{a:Addr}{y d:V}{u r:Value}{o:Option V}{A:Around}{E:Value->Shared->Prop}
end
section
variable {X:Cx}{o e f:Expr}{apos cpos:Pos}{td ty tx:TE}
variable {pq:List<|Addr×Obj}{O:St}{H:Hp}{s:Shared}{a:Addr}{kvs:List<|Key×V}{A:Around}{E:Value->Shared->Prop}
end
section
variable {X:Cx}{pq:List<|Addr×Obj}{O:St}{H:Hp}{s:Shared}{a:Addr}{y:V}{u:Value}{A:Around}{E:Value->Shared->Prop}
end
end L2
namespace Zm
def zij(a b):Int.gcd b (a.fmod b)=Int.gcd a b:=by
 rw[Int.fmod_def,Int.gcd_comm a b];simp
def fmod_less(a:Int)(h:b≠0):(a.fmod b).natAbs<b.natAbs:=by
 rcases Int.lt_or_gt_of_ne h with c|c
 .have e:a.fmod b=-((-a).fmod (-b)):=by rw[Int.neg_fmod_neg,Int.neg_neg]
  have d:=í (-a)<|show 0 < -b by lia
  have f:=ú (-a)<|show 0 < -b by lia
  lia
 .have d:=í a c;have f:=ú a c
  lia
def gd(a b:Int):Int:=(Int.gcd a b:Nat)
def gd_end(d:gd a b=gd a0 b0)(c:b=0):(if a<0 then -a else a)=gd a0 b0:=by
 subst c;rw[<- d];unfold gd;rw[Int.gcd_zero_right]
 lia
def gd_turn(c:gd a b=gd a0 b0):gd b (a.fmod b)=gd a0 b0:=by
 rw[<- c];unfold gd;rw[zij]
def gd_abs(a b):gd (if a<0 then -a else a) (if b<0 then -b else b)=gd a b:=by
 unfold gd
 have c:Int.gcd (if a<0 then -a else a) (if b<0 then -b else b)=Int.gcd a b:=by
  split<;>split<;>simp[Int.gcd_neg]
 rw[c]
def gd_pos{a b:Int}(h:b≠0):0<gd a b:=by
 unfold gd
 simp_all
def gd_le(h:0<b):gd a b<=b:=by
 exact Int.le_of_dvd h<|Int.gcd_dvd_right a b
def lt(t b:Int):Int:=t.fdiv<|gd t b
def lb(t b:Int):Int:=b.fdiv<|gd t b
def eZ{x g:Int}(a:g≠0)(h:g ∣ x):x.fdiv g * g=x:=by
 rw[Ă];exact Int.mul_fdiv_cancel' h
def lt_mul(h:b≠0):lt t b * gd t b=t:=by
 exact eZ (by have:=gd_pos (a:=t) h;lia)<|Int.gcd_dvd_left t b
def lb_mul(h:b≠0):lb t b * gd t b=b:=by
 exact eZ (by have:=gd_pos (a:=t) h;lia)<|Int.gcd_dvd_right t b
def lb_pos(h:0<b):0<lb t b:=by
 have d:=lb_mul (t:=t)<|show b≠0 by lia
 have c:=gd_pos (a:=t)<|show b≠0 by lia
 rcases ī 0 (lb t b) with q|q
 .exact q
 .have:=yda q<|ĩ c
  lia
def zet{x g:Int}(h:0<g):x.natAbs<=(x * g).natAbs:=by
 rw[Int.natAbs_mul];exact Nat.le_mul_of_pos_right _<|by lia
def lb_le(h:0<b):lb t b<=b:=by
 have c:=lb_mul (t:=t)<|show b≠0 by lia
 have d:=zet (x:=lb t b)<|gd_pos (a:=t)<|show b≠0 by lia
 grind
def gd_low(h:b≠0):gd (lt t b) (lb t b)=1:=by
 have d:=gd_pos (a:=t) h;unfold lt lb gd;have c:0<Int.gcd t b:=by unfold gd at d;lia
 have e:=Int.gcd_ediv_gcd_ediv_gcd c;rw[Ũ _<|ſ _,Ũ _<|ſ _,e]
 rfl
end Zm
namespace Zw
open PySem PySem.Spec PyProof.Rows L2
def Sm(i:Int):Prop:=-(10 ^ 70)<i/\i<10 ^ 70
def Sm.nat{i:Int}(h:Sm i):i.natAbs<10 ^ 70:=by
 unfold Sm at h
 lia
def zoa:10 ^ 70<=2 ^ 300:=by decide +kernel
def Sm.log(h:Sm i):i.natAbs.log2<300:=by
 by_cases z:i.natAbs=0
 .simp_all
 .exact(Nat.log2_lt z).mpr (Û h.nat zoa)
def Sm.bits(h:Sm i):Builtin.Int.intBits i<=2 ^ 20:=by
 have q:=h.log;unfold Builtin.Int.intBits
 grind
section
variable {X:Cx}
theorem zkt:Ag X (binaryOp .Mult)<|rI (λi j=>Sm i/\Sm j) λi j=>.int<|i * j:=Js λϊ ϊ ϊ ϊ ϊ ϊ ϊ a q=>mul_int q<|.of_bits a.1.bits a.2.bits
theorem zhn:Ag X (binaryOp .FloorDiv)<|rI (λϊ j=>j≠0/\Sm j) λi j=>.int<|i.fdiv j:=
 Js λϊ ϊ ϊ ϊ ϊ ϊ ϊ a q=>floordiv_int a.1 q<|.inl<|PyProof.noPylong_of_log2<|Ń a.2.log<|by decide
def bL(r:Ab x v):PySem.plainIs v (.bool b)=true/\(v == Value.bool b)=decide (x=V.bl b):=by
 cases x with
 |non=>cases r;exact{rfl,by simp}|bl c=>cases r;exact{rfl,by grind}|int i=>let(t,rfl):=r;exact{rfl,by simp}
 |str i=>let(t,rfl):=r;exact{rfl,by simp}
 |byt i=>let(t,rfl):=r;exact{rfl,by simp}
 |flt i=>let(t,rfl):=r;exact{rfl,by simp}
 |ref i=>cases r;exact{rfl,by simp}|ty i=>cases r;exact{rfl,by simp}
def zou:Ag X (compareOp .Is) (λx y H Q=>∃b,y=.bl b/\Q (.bl<|decide (x=.bl b)) H):=by
 intro f s O H x y v u Q I d e h;let(b,rfl,q):=h;cases e;let(a,c):=bL d;exact wpAny_is_plain a<|Kc I q c.symm
def zks:Ag X (compareOp .IsNot) (λx y H Q=>∃b,y=.bl b/\Q (.bl<|!decide (x=.bl b)) H):=by
 intro f s O H x y v u Q I d e h;let(b,rfl,q):=h;cases e;let(a,c):=bL d;exact wpAny_isNot_plain a<|Kc I q<|by rw[c]
def ziz:Bs X (.builtin "isinstance") (λxs H Q=>∃x t b,xs=[x,.ty c]/\TyOf X.K H x t/\W.kitOne X.K t (.type c)=↑b/\Q (.bl b) H):=by
 intro f s O H xs g Q I r h;let(x,t,b,rfl,ty,e,q):=h;let(u,i,rfl,a,d):=Ga r;cases d;exact TM I a ty e λtk=>{.bl b,H,I.tok _,rfl,q}
variable {pos:Pos}
end
section
variable {X:Cx}
end
def zd7:W.kitMeta "int"=true:=by decide +kernel
def zc5:W.kitMeta "bool"=true:=by decide +kernel
def zbp:W.kitMeta "tuple"=true:=by decide +kernel
def zhx(K)(c):W.kitOne K (.type c) (.type c)=↑true:=by
 unfold W.kitOne;simp
def zpo(K){l:k9}(h:t≠c)(d:W.kitMeta c=true)(a:(fastBuiltinMro t).map (·.contains (Value.type c))=↑b):W.kitOne K (.type t) (.type c)=↑b:=by
 unfold W.kitOne;rw[if_neg<|by simpa using h]
 show(if W.kitMeta c=true then W.subIn K (.type t) (.type c) else none)=↑b
 rw[if_pos d];exact a
structure FunD(K:k6)(x qual:Str)(st:Stmt)(f:Addr)(fd:FuncData):Prop where
 ex:∃(oc:Value) (od:Option Addr) (dV kV doc pm:Value) (an:Option Addr) (cdv ct:Value) (osl:Array<|Option Value),
  fd=W.fnOf x qual (NI st) (G0 st) (Cs st) dV kV doc pm an cdv ct/\K.lookup f=↑{oc,od,.func fd,osl}/\W.codeIn K cdv qual=true
 kp:W.keepIn K (.ref f)=true
theorem zly{K}{st}{dV kV doc pm cdv ct}(l:K.lookup f=↑{oc,od,.func<|W.fnOf x qual (NI st) (G0 st) (Cs st) dV kV doc pm an cdv ct,osl})
  (c:W.codeIn K cdv qual=true) (k:W.keepIn K (.ref f)=true):FunD K x qual st f<|W.fnOf x qual (NI st) (G0 st) (Cs st) dV kV doc pm an cdv ct:={{(oc),od,dV,kV,doc,pm,an,cdv,ct,osl,rfl,l,c},k}
structure Tx(K:k6)(mg:Str->Option Value)(x:Str)(st:Stmt)(ps:kE) where
 f:Addr
 fd:FuncData
 F:FunD K x x st f fd
 m:mg x=↑(.ref f)
 b:Ce K fd ps []
section
variable {X:Cx}{k j:Nat}{x:Str}{ps:kE}{sp:Sp}{p pos:Pos}{e:Expr}{es:kC}{t:TA}
end
theorem Fo(h:H p=none)(o):A5 H<|upd H p o:=λb u q=>by
 rw[Ap<|DA q h];exact q
def zqc(X:Cx)(a:Scope)(cl:List<|Str×Addr)(b:kE)(C:Addr)(s₀:Shared)(H₀:Hp)(ex:List Addr):Cx:=
 { X with N:=b,s₀:=s₀,H₀:=H₀,env:=compEnvC a cl C X.env,outer:=X.stack,ex:=ex,fn:=λϊ=>false,xe:=λϊ ϊ=>False }
theorem HOk.adopt(x:HOk P w H h)(f:H a=none)(new:DG P w (upd H a o) h a o):HOk P w (upd H a o) h:=λb u e=>by
 by_cases d:b=a
 .subst d;rw[CP]at e
  grind
 .rw[Ap d]at e;exact(x b u e).stay (λc v ϊ q=>q) (λc q=>by rw[Ap<|DA q f];exact q) λc xs q=>by rw[Ap<|DA q f];exact q
section
variable {X:Cx}{elt iter tg:Expr}{scope:Scope}{pos:Pos}{cl:List<|Str×Addr}{N':kE}{wi:TI}{g:TG}{te:TE}
end
end Zw
namespace Zx
open PySem PySem.Spec PyProof.Rows L2 Zw
def NY(h B:Heap)(a:Addr)(b:Value×Option Addr)(fl:Value):Prop:=
 ∃oe c T oT d,h.get? a=↑oe/\((oe.cls,oe.dict)=b/\c[2]?=↑.none)/\oe.data=.fields c/\c[1]?=↑(.ref T)/\B.get? T=none/\T≠a/\h.get? T=↑oT/\oT.data=.fields d/\d[3]?=↑fl
def LU(B:Heap)(l:List Env)(a:Addr)(b:Value×Option Addr)(h:Heap):Prop:=B.StaysIn h/\B.get? a=none/\h.FunFrames B l/\NY h B a b .none
def VE(B:Heap)(l:List Env)(a:Addr)(b:Value×Option Addr)(L:Addr)(h:Heap):Prop:=B.StaysIn h/\B.get? a=none/\h.FunFrames B l/\NY h B a b (rawInt L)
def zfa(f)(o):((Obj.mapFields f o).cls,(Obj.mapFields f o).dict)=(o.cls,o.dict):=by
 unfold Obj.mapFields;split<;>rfl
section
variable {M:Model}{A:Around}{E:Value->Shared->Prop}{s:Shared}{B:Heap}{env v:Env}{l:List Env}{L a:Addr}{cls:Value×Option Addr}{Q:Unit->Shared->Prop}
def fG(m:A.frames=↑(v::l))(i:s.heap.FunFrames B<|v::l)(D:v.frame=↑L)(k:s.heap.get? a=↑oe)(hk:B.StaysIn s.heap)(w:B.get? a=none)
  (hd:oe.data=.fields vs) (g:1<vs.size) (C:vs[2]?=↑.none) (h:∀h',VE B (v::l) a (oe.cls,oe.dict) L h'->s.heap.UpToSlots h'->Q () { s with heap:=h' }) :
  wpAny M A (do let f <- frameOf v;let pl <- entryPlaceOf L hn;let b <- EntryCells.newEntry head f .none (rawInt L) .none pl;setField (.ref a) 1 b) Q E s:=by
 have r:a∉(v::l).filterMap (·.frame):=λz=>by
  let(_,o,x,n):=i.mem z;rw[k]at x;cases x;exact n vs hd
 refine À<|wpAny_frameOf_fun m i D λc p=>?_
 refine À<|wpAny_entryPlaceOf λpl e=>?_
 unfold EntryCells.newEntry newFields;refine À<|Τ ?_<|e.sizeOk5 _ _ _ _ _;have j :=(p.2.1 a r).trans k;have u:B.StaysIn c:=λb o q=>(p.2.1 b λz=>by rw[(i.mem z).1]at q;cases q).trans (hk b o q)
 have ne :=Ī<|Ä j;refine Š (Ð _ j) hd g ?_;have d:=ŕ hd (·.setIfInBounds 1 (Value.ref c.objs.size));have kp:∀nw b o,b≠a->c.get? b=↑o->((c.push nw).update a (Obj.mapFields (·.setIfInBounds 1 (Value.ref c.objs.size)))).get? b=↑o:=λnw b o n q=>(ø _ _<|Î n).trans (Ð _ q)
 have nr:∀b o,s.heap.get? b=↑o->(∀ws,o.data≠.fields ws)->b≠a:=λb o q n z=>by
  rw[z,k]at q;cases q;exact n vs hd
 have sm:∀nw,s.heap.UpToSlots ((c.push nw).update a (Obj.mapFields (·.setIfInBounds 1 (Value.ref c.objs.size)))):=λnw b o q n=>by
  let(y,t):=p.2.2 b o q;exact{y,kp nw b _ (nr b o q n) t}
 refine h _ {λb o q=>kp _ b o (λz=>by rw[z,w]at q;cases q)<|u b o q,w,i.of_keeps λb o q n=>?_,_,_,c.objs.size,_,_,Č _ (Ð _ j)<|Ŵ d,{by rw[zfa],?_},d,by simp[g],u.fresh,ne,
  (ø _ _<|Î ne).trans (â c rfl),rfl,?_}<|sm _
 .let(y,t):=sm _ b o q n;exact{_,t,rfl}
 .rw[Array.getElem?_setIfInBounds_ne<|by decide]
  exact C
 .first|(simp;done)|(rcases e with rfl|⟨_,_,_,_,_,_,_,rfl⟩<;>simp)
def zm0(hk:B.StaysIn s.heap)(p:B.get? a=none)(u:s.heap.FunFrames B l)(v:NY s.heap B a cls fl)(h:∀h',LU B l a cls h'->s.heap.UpToSlots h'->Q () { s with heap:=h' }):wpAny M A (setFlight (.ref a) none) Q E s:=by
 let(oe,w,T,oT,k,g,t,hd,g1,i,d,e,dT,m):=v;have j:3<k.size:=(ĳ.mp m).1;have c:∀b,b≠T->(s.heap.update T (Obj.mapFields (·.setIfInBounds 3 ((none:Option Addr).elim Value.none λf=>rawInt f)))).get? b=s.heap.get? b:=λb r=>ø _ _<|Î r
 have nr:∀b o,s.heap.get? b=↑o->(∀ws,o.data≠.fields ws)->b≠T:=λb o q n z=>by
  rw[z,e]at q;cases q;exact n k dT
 unfold setFlight;refine À<|ý g hd g1 ?_;rw[if_pos<|by simp]
 exact Š e dT j (h _ {λb o q=>(c b λz=>by rw[z,i]at q;cases q).trans (hk b o q),p,u.of_keeps λb o q n=>{o,(c b<|nr b o q n).trans q,rfl},
  oe,w,T,_,_,(c a<|Î d).trans g,t,hd,g1,i,d,Č _ e<|Ŵ<|ŕ dT _,ŕ dT _,by simp[j]} λb o q n=>{o.slots,(c b<|nr b o q n).trans q})
theorem aT(hh:VE B l a cls L s.heap)(b:∀h',LU B l a cls h'->s.heap.UpToSlots h'->Q () { s with heap:=h' }):wpAny M A (setFlight (.ref a) none) Q E s:=
 zm0 hh.1 hh.2.1 hh.2.2.1 hh.2.2.2 b
structure MadeO(h h':Heap)(a:Addr)(cls:Value×Option Addr):Prop where
 keeps:∀b o,h.get? b=↑o->h'.get? b=↑o
 new:h.get? a=none
 there:∃oe t,h'.get? a=↑oe/\(oe.cls,oe.dict)=cls/\oe.data=.fields #[.ref t,.none,.none,.none,.bool false,.none]
theorem madeO(b:Heap.MadeExcOf h h' a c args):MadeO h h' a (c,none):=
 {b.keeps,b.new,let ⟨t,he,_,_⟩:=b.there;{_,t,he,rfl,rfl}}
def madeX(d:A.frames=↑(v::l))(i:v.frame=↑L)(hk:B.StaysIn h)(n:h.FunFrames B<|v::l)(c:MadeO h s.heap a cls)
  (m:∀h',LU B l a cls h'->s.heap.UpToSlots h'->Q () { s with heap:=h' }):wpAny M A (leaving v<|.ref a) Q E s:=by
 let(oe,t,j,rfl,hd):=c.there
 have fr:B.get? a=none:=by
  cases q:B.get? a with
  |none=>rfl|some o=>have:=hk a o q;rw[c.new]at this;cases this
 unfold leaving noteFrame;erw[i];refine À<|À<|ý j hd rfl ?_;refine fG d (n.of_keeps λb o q ϊ=>{o,c.keeps b o q,rfl}) i j (λb o q=>c.keeps b o<|hk b o q) fr hd (by simp) rfl λu e sm=>aT e λk f g=>?_
 let(e,f,(_,_,p),r):=f;exact m k {(e),f,p,r}<|sm.trans g
end
def OC(B:Heap)(l:List Env)(a:Addr)(b:Value×Option Addr)(h:Heap):Prop:=∃fl,B.StaysIn h/\B.get? a=none/\h.FunFrames B l/\NY h B a b fl
theorem eP(x:LU B l a cls h):OC B l a cls h:={.none,x}
section
variable {M:Model}{A:Around}{E:Value->Shared->Prop}{s:Shared}{B:Heap}{env v:Env}{l:List Env}{L a:Addr}{cls:Value×Option Addr}{Q:Unit->Shared->Prop}
def ZZ(r:A.frames=↑(v::l))(D:env.frame=v.frame)(q:v.frame=↑L)(F:OC B (v::l) a cls s.heap)(x:∀h',VE B (v::l) a cls L h'->s.heap.UpToSlots h'->Q () { s with heap:=h' }):wpAny M A (noteFrame (.ref a) env) Q E s:=by
 have en:noteFrame (.ref a) env=noteFrame (.ref a) v:=by
  unfold noteFrame PySem.frameOf;rw[D]
 rw[en];let(fl,t,u,w,n):=F
 by_cases g:fl=rawInt L
 .subst g;let(oe,ws,h,oT,y,j,_,hd,g1,_,_,f,dT,i):=id n;unfold noteFrame;erw[q];refine À<|ý j hd g1 ?_;rw[if_pos<|by simp]
  refine À<|ý f dT i ?_;rw[if_pos<|by simp]
  exact Ç<|x _ {(t),u,w,n}<|.refl _
 .let(oe,ws,h,oT,y,j,(rfl,C),hd,g1,H,m,f,dT,i):=n;have p:=(ĳ.mp i).1;have d:∀b,b≠h->(s.heap.update h (Obj.mapFields (·.setIfInBounds 3 Value.none))).get? b=s.heap.get? b:=λb c=>ø _ _<|Î c
  have nr:∀b o,s.heap.get? b=↑o->(∀I,o.data≠.fields I)->b≠h:=λb o c e z=>by
   rw[z,f]at c;cases c;exact e y dT
  unfold noteFrame;erw[q];refine À<|ý j hd g1 ?_;rw[if_pos<|by simp]
  refine À<|ý f dT i ?_;rw[if_neg<|λz=>g<|beq_iff_eq.mp z]
  refine À<|Š f dT p ?_;refine fG r (w.of_keeps λb o c e=>{o,(d b<|nr b o c e).trans c,rfl}) q ((d a<|Î m).trans j) (λb o c=>(d b λz=>by rw[z,H]at c;cases c).trans (t b o c)) u hd (ĳ.mp g1).1 C λh' k G=>?_
  exact x h' k λb o c e=>G b o ((d b<|nr b o c e).trans c) e
def leavX(b:A.frames=↑(v::l))(f:v.frame=↑L)(i:OC B (v::l) a cls s.heap)(g:∀h',LU B l a cls h'->s.heap.UpToSlots h'->Q () { s with heap:=h' }):wpAny M A (leaving v<|.ref a) Q E s:=by
 refine À<|ZZ b rfl f i λo hh c=>aT hh λe h d=>?_
 let(j,k,(_,_,m),n):=h;exact g e {(j),k,m,n}<|c.trans d
end
def DH(P:Program)(w:World):GC:=λouter H s E e d=>∃(a:Addr) (c:Value×Option Addr) (f:Hp) (B:Heap),
 e=.ref a/\d.os=s.os/\AllBare d.gens/\Un (Ba outer) [] H f s.heap d.heap/\HOk P w f B/\(∀b o,s.heap.get? b=↑o->H b=none->b∉Ba outer->B.get? b=↑o) /\
 (∀b o,s.heap.get? b=↑o->b∉Ba outer->∃g,B.get? b=↑g)/\OC B outer a c d.heap/\E c.1 c.2 f
def DF(X:Cx)(E:L2.St->XK):Prop:=∀(b:List<|Addr×Obj) (O:L2.St) (H:Hp) (s:Shared) (e:Value) (a:Shared),Inv X b O H s->DH X.prog X.w X.stack H s (E O) e a->X.xe e a
def VA(X:Cx)(E:L2.St->XK):Prop:=∀(d:List<|Addr×Obj) (O:L2.St) (H:Hp) (s:Shared) (a:Addr) (b:Value) (e:k9) (c:Heap),Inv X d O H s->Heap.MadeExcOf s.heap c a b e->E O b none H->X.xe (.ref a) { s with heap:=c }
section
variable {X:Cx}{pq:List<|Addr×Obj}{O:L2.St}{H:Hp}{s:Shared}
theorem M0(I:Inv X pq O H s)(e:X.s₀.heap.get? b=↑o)(a:b∉Ba X.outer):b∉Ba X.stack:=λz=>by
 rcases Ì.mp (I.stkSub b z) with q|q
 .exact absurd (Û (Ä e) I.ok.above) (by rw[q];exact Þ _)
 .exact a q
def zey(a:X.stack=X.env::X.outer)(e:b∈Ba X.outer):b∈Ba X.stack:=by
 rw[a];let(v,c,d):=ĸ.mp e;exact ĸ.mpr {v,Ê _ c,d}
theorem zq0(I:Inv X pq O H s):HOk X.prog X.w H<|W.hideAll s.heap<|Ba X.stack:=λb u e=>(I.hok b u e).stay (λc v a q=>Ĥ _ q λz=>by
  have f:=I.stkFree c z
  grind) (λϊ q=>q) λϊ ϊ q=>q
def made_ok(h:X.stack=X.env::X.outer)(x:X.env.frame=↑X.env.locals)(hex:X.ex=[])       (I:Inv X pq O H s)(k:Heap.MadeExcOf s.heap h' a cls vs)(w:E cls none H) :
  wpAny (model X.prog X.w) X.A (leaving X.env<|.ref a) (λϊ s2=>DH X.prog X.w X.outer X.H₀ X.s₀ E (.ref a) s2) Ex { s with heap:=h' }:=by
 have d:∀b ,b∉X.ex:=λb z=>by grind
 have i :=h▸I.ok.frames
 have p:s.heap.FunFrames (W.hideAll s.heap<|Ba X.stack)<|X.env::X.outer:=by
  rw[<- h];exact W.funFrames_hide I.stack λv y b c=>ĸ.mpr {(v),y,c}
 refine madeX i x (λb o q=>ķ _ q) p (madeO k) λu fl sm=>?_
 have l :=λb o e n c=>Ĥ _ (I.base.keep b o e n c<|d b)<|M0 I e c
 have tB:∀b o,X.s₀.heap.get? b=↑o->b∉Ba X.outer->∃f,(W.hideAll s.heap<|Ba X.stack).get? b=↑f:=λb o e c=>by
  let(f,r):=I.base.there b o e<|d b;exact{f,Ĥ _ r<|M0 I e c}
 have m:∀b o,X.s₀.heap.get? b=↑o->X.H₀ b=none->b∈Ba X.outer->∃z,u.get? b=↑{ o with slots:=z }:=λb o e n c=>by
  let(z,j):=I.base.slot b o e n c<|d b;let(_,o2,g,hd):=I.funs.mem c;rw[j]at g;cases g;let(A,t):=sm b { o with slots:=z } (k.keeps b _ j) hd
  exact{(A),t}
 refine{a,(cls,none),H,_,rfl,I.os,I.bare,{λb o e n c ϊ=>fl.1 b o<|l b o e n c,λb o e n c ϊ=>m b o e n c,λb o e n ϊ=>I.base.free b o e n<|d b,λb o e ϊ=>?_,I.base.tups,I.base.frzs,I.base.tbls},zq0 I,l,tB,eP fl,w}
 by_cases c:b∈Ba X.outer
 .let(z,q):=m b o e (I.ok.frf b c) c;exact{_,q}
 .let(f,q):=tB b o e c;exact{f,fl.1 b f q}
def zkq(g:X.stack=X.env::X.outer)(G:X.env.frame=↑X.env.locals)(hex:X.ex=[])     (I:Inv X pq O H s)(h:DH X.prog X.w X.stack H s E e s') :
  wpAny (model X.prog X.w) X.A (leaving X.env e) (λϊ s2=>DH X.prog X.w X.outer X.H₀ X.s₀ E e s2) Ex s':=by
 let(a,k,A,B,rfl,os,bare,un,hok,v,w,p,F):=h;have d:∀b ,b∉X.ex:=λb z=>by rw[hex]at z;cases z
 have t :=g▸I.ok.frames;have r :=g▸p;refine leavX t G r λD fl sm=>?_
 have x :=λb o e n c=>v b o (I.base.keep b o e n c<|d b) (I.base.free b o e n<|d b)<|M0 I e c
 have tB:∀b o,X.s₀.heap.get? b=↑o->b∉Ba X.outer->∃f,B.get? b=↑f:=λb o e c=>by
  let(f,l):=I.base.there b o e<|d b;exact w b f l<|M0 I e c
 have y:∀b o,X.s₀.heap.get? b=↑o->X.H₀ b=none->b∈Ba X.outer->∃z,D.get? b=↑{ o with slots:=z }:=λb o e n c=>by
  let(z,j):=I.base.slot b o e n c<|d b;let(_,o2,i,hd):=I.funs.mem c;rw[j]at i;cases i;let(J,m):=un.slot b { o with slots:=z } j (I.base.free b o e n<|d b) (zey g c)<|by simp
  let(K,C):=sm b { o with slots:=J } m hd
  exact{(K),C}
 refine{a,k,A,B,rfl,os.trans I.os,bare,{λb o e n c ϊ=>fl.1 b o<|x b o e n c,λb o e n c ϊ=>y b o e n c,λb o e n ϊ=>?_,λb o e ϊ=>?_,λb xs e=>un.tups b xs<|I.base.tups b xs e,λb o u e=>un.frzs b o u<|I.base.frzs b o u e,λb ps e=>?_},hok,x,tB,eP fl,F}
 .let(f,l):=I.base.there b o e<|d b;exact un.free b f l (I.base.free b o e n<|d b)<|by simp
 .by_cases c:b∈Ba X.outer
  .let(z,q):=y b o e (I.ok.frf b c) c;exact{_,q}
  .let(f,q):=tB b o e c;exact{f,fl.1 b f q}
 .let(m1,j):=I.base.tbls b ps e;let(m2,m):=un.tbls b _ j;exact{m1++m2,m.trans<|by rw[Array.append_assoc]}
end
section
variable {P:Program}{w:World}{K:k6}{mg:Str->Option Value}{base:Heap}
theorem RL:DF (Fh (DH P w) P w K mg base N qual sc f cd A outer s H E)<|λϊ=>E:=
 λϊ ϊ ϊ ϊ ϊ ϊ I h=>zkq rfl rfl rfl I h
theorem RW:VA (Fh (DH P w) P w K mg base N qual sc f cd A outer s H E)<|λϊ=>E:=
 λϊ ϊ ϊ ϊ ϊ ϊ ϊ ϊ I b a=>made_ok rfl rfl rfl I b a
def RO{st }      (F:FunD K x qual st f fd)(S:FnScope N ps<|Cs st)(len:∀vs H Q E,sp vs H Q E->vs.length=ps.length)
  (a : ∀ (cdv ) (A ) (outer ) (s ) (H ) (vs ) (Q ) (E ), Room k (A.deeper<|envOfC qual (Cs st) s.heap.objs.size f cdv) -> sp vs H Q E ->
   ∃t,B8 (Fh (DH P w) P w K mg base N qual (Cs st) f cdv A outer s H E) (G0 st) t/\t { nx:=λϊ H'=>Q .non H',rt:=Q } (start N vs) H):FnOk P w K mg base (DH P w) (k+1) f fd ps sp:=by
 let(j,l,i,kV,d,m,h,cdv,ct,g,rfl,lk,b):=F.ex;exact fn_of lk b S len λA outer s H vs Q E e c=>a cdv A outer s H vs Q E e c
end
structure DefX(P:Program)(w:World)(K:k6)(mg:Str->Option Value)(base:Heap)(k:Nat)(x:Str)(ps:kE)(sp:Sp) where
 f:Addr
 fd:FuncData
 ok:FnOk P w K mg base (DH P w) k f fd ps sp
 m:mg x=↑(.ref f)
 kp:W.keepIn K (.ref f)=true
 b:Ce K fd ps []
structure DefsX(K:k6)(fd:FuncData)(ps:kE)(dvs:kK):Prop where
 ex:∃ds,Ce K fd ps ds/\Ac dvs ds
section
variable {X:Cx}{k j:Nat}{f:Addr}{fd:FuncData}{x:Str}{ps:kE}{sp:Sp}{p pos:Pos}{e:Expr}{es:kC}{t:TA}{E:L2.St->XK}{dvs:kK}
def Qc{O:L2.St}      (F:FnOk X.prog X.w X.K X.mg X.base (DH X.prog X.w) k f fd ps sp)(e:Room k X.A)(c:Ce X.K fd ps ds)(hd:Ac dvs ds)(g:DF X E)
  (I:Inv X pq O H s) (r:Ac vs us) (h:sp (vs++dvs) H Q<|E O):wpAny (model X.prog X.w) X.A (call (.ref f) us) (EP X pq O Q) X.xe s:=by
 have b :=r.append hd;have d :=b.length.symm.trans<|F.len _ _ _ _ h;refine İ<|ĉ (F.run X.A X.stack s H {us,[]} (us++ds) (vs++dvs) Q (E O) e I.env0 (c s us I.kIn d) b h) λr i a=>?_
 cases r with
 |error v=>exact g pq O H s v i I a|ok fl=>
  cases fl with
  |ret u=>exact I.after a|_=>exact False.elim a
def WM(sp:Sp)(dvs:kK)(E:L2.St->XK)(t:TA):TE:=λO H Q=>t O H λb a=>sp (b++dvs) a Q<|E O
def px(D:DefX X.prog X.w X.K X.mg X.base k x ps sp)(g:Room j X.A)(i:DF X E)(c:PA X (e::es) t)(hk:k<=j)(f:Gl X x)(a:(x == "__debug__")=false)
  (d:starEach (e::es) X.env=(false,eval e X.env)::starEach es X.env) (b:(backTo pos<|starEach es X.env).any (·.1)=false):PE X (.Call (.Name x p) (e::es) [] pos)<|WM sp [] E t:=by
 intro l s O H Q I h;refine Ğ<|Mj I f D.m ?_ a;refine Α I.ok.mod.kin D.kp (AX (c pos l s O H _ I h) λm s1 ⟨n,H1,I1,r,q⟩=>{I1.kIn,?_}) d b
 exact Qc D.ok (g.mono hk) D.b .nil i I1 r q
end
abbrev O5:k9:=[.type "ValueError",.type "Exception",.type "BaseException",.type "object"]
def Qm:Value->Bool
 |.type s=>s == "type"|ϊ=>false
def Qp:Data->Option ClassData
 |.cls k=>↑k|ϊ=>none
def Qn:Value->Option Addr
 |.ref D=>↑D|ϊ=>none
def Qq:Value->Bool
 |.builtin n=>n == "ValueError.__new__"|ϊ=>false
def Kf(K:k6)(C:Addr):Bool:=match K.lookup C with
 |some o=>(match Qp o.data with
  |some k=>Qm o.cls && (o.slots.toList.length == 6 && ((o.slots.toList.getD 4 none).elim false Qq && (!k.hasDel && (k.mro.head?.bind Qn == ↑C && (W.tailIn K O5 k.mro.tail && W.nsOkIn K k.ns)))))|none=>false)
 |none=>false
def DX(K:k6)(C:Addr):Option<|Option Value:=(W.clsIn K C).bind λk=>W.nsIn K k.ns "__init__"
structure ExcK(K:k6)(C:Addr):Prop where
 q:Kf K C=true
 self:W.subIn K (.ref C) (.ref C)=↑true
 cd:∃cd,W.clsIn K C=↑cd
 ty:W.typeIn K (.ref C)=↑(.type "type")
 ga:W.findIn K (.ref C) "__getattribute__"=↑(↑(.builtin "BaseException.__getattribute__"))
 gt:W.findIn K (.ref C) "__getattr__"=↑none
 ca:W.findIn K (.ref C) "__class__"=↑(↑(.builtin "object.__class__"))
 ob:W.mroIn K C (.type "object")=↑true
 be:W.mroIn K C (.type "BaseException")=↑true
 gs:W.specialIn K (.builtin "object.__class__") "__get__"=↑(↑(.builtin "getset_descriptor.__get__"))
 tk:W.takesIn K (.builtin "object.__class__")=↑true
structure ECls(K:k6)(mg:Str->Option Value)(x:Str) where
 C:Addr
 m:mg x=↑(.ref C)
 k:ExcK K C
def znm{c:Value}(h:Qm c=true):c=.type "type":=by
 cases c<;>first|exact congrArg _ (eq_of_beq h)|cases h
def zno{d:Data}{k:ClassData}(h:Qp d=↑k):d=.cls k:=by
 cases d<;>cases h;rfl
def znn{l:k9}{C:Addr}(h:l.head?.bind Qn=↑C):∃bm,l=.ref C::bm:=by
 cases l with
 |nil=>cases h|cons w bm=>refine{bm,congrArg (·::bm) ?_};cases w<;>cases h;rfl
def znp{o:Option Value}(h:o.elim false Qq=true):o=↑(.builtin "ValueError.__new__"):=by
 cases o with
 |none=>cases h|some v=>cases v<;>first|exact congrArg (λn=>↑(Value.builtin n)) (eq_of_beq h)|cases h
def six{l:List<|Option Value}(h:l.length=6):l=[l.getD 0 none,l.getD 1 none,l.getD 2 none,l.getD 3 none,l.getD 4 none,l.getD 5 none]:=by
 let(a,l,rfl):=Ġ h;let(b,l,rfl):=Ġ<|ô h;let(c,l,rfl):=Ġ<|ô<|ô h;have h:l.length=3:=ô<|ô<|ô h;let(d,l,rfl):=Ġ h;let(e,l,rfl):=Ġ<|ô h;let(f,l,rfl):=Ġ<|ô<|ô h;rw[List.eq_nil_of_length_eq_zero<|ô<|ô<|ô h]
 rfl
def zm1{K:k6}{C:Addr}(q:Kf K C=true):∃c dd sl k,K.lookup C=↑{c,dd,.cls k,sl}/\Qm c=true/\sl.toList.length=6/\(sl.toList.getD 4 none).elim false Qq=true/\k.hasDel=false/\k.mro.head?.bind Qn=↑C/\W.tailIn K O5 k.mro.tail=true/\W.nsOkIn K k.ns=true:=by
 unfold Kf at q;cases a:K.lookup C with
 |none=>rw[a]at q;exact absurd q Ā|some o=>
  rw[a]at q;let(c,dd,b,sl):=o;dsimp only at q;cases hk:Qp b with
  |none=>rw[hk]at q;exact absurd q Ā|some k=>rw[hk]at q;cases zno hk;erw[È,Ę,ŗ]at q;exact{(c),dd,sl,k,rfl,q}
def zq6{K}(X:K.In h)(q:Kf K C=true):∃(k:ClassData) (bm:k9) (dd:Option Addr) (f:Nat->Option Value) (mN:Str->Option Value),h.get? C=↑(excClassObj k.name k.qualname C k.ns k.bases bm k.hasDict k.slotNames k.subclasses k.abstract k.collection dd (f 0) (f 1) (f 2) (f 3) (f 5) "ValueError.__new__")/\h.Ns k.ns mN/\(W.clsIn K C=↑k/\k.mro=.ref C::bm)/\OwnTail h O5 bm:=by
 let(c,dd,a,k,e,l,m,n,o,p,g,hok):=zm1 q;let(bm,b):=znn p
 have j:a=#[a.toList.getD 0 none,a.toList.getD 1 none,a.toList.getD 2 none,a.toList.getD 3 none,↑(.builtin "ValueError.__new__"),a.toList.getD 5 none]:=by
  rw[<- znp n];exact congrArg List.toArray<|six m
 have d:h.get? C=↑{c,dd,.cls {(k.name),k.bases,k.mro,k.ns,k.qualname,k.hasDict,k.slotNames,k.subclasses,k.abstract,k.collection,k.hasDel},a}:=X _ _ e;rw[znm l,b,o,j]at d;rw[b]at g;exact{k,bm,dd,λi=>a.toList.getD i none,_,d,.of_isNs<|W.isNs_of_in X hok,{by unfold W.clsIn;rw[e],b},W.tail_of_in X g}
def zi2{K}(X:K.In h)(G:h.Ns N mN)(a:W.clsIn K C=↑cd)(b:cd.ns=N)(q:DX K C=↑none):mN "__init__"=none:=by
 unfold DX at q;rw[a]at q;subst b;exact W.ns_none_of X G q
section
variable {X:Cx}{x:Str}{p cpos pos:Pos}{e:Expr}{es:kC}{t:TA}{E:L2.St->XK}
def zmw(C:Addr)(E:L2.St->XK)(t:TA):TS:=λϊ O H=>t O H λb a=>b.length<=sizeLine/\E O (.ref C) none a
def zhf(T:ECls X.K X.mg x)(b:DX X.K T.C=↑none)(w:X.calm=true)(C:VA X E)(v:PA X (e::es) t)(A:Gl X x)(f:(x == ("__debug__":Str))=false)
  (y:starEach (e::es) X.env=(false,eval e X.env)::starEach es X.env) (i:(backTo cpos<|starEach (e::es) X.env).any (·.1)=false) :
  PS X (.Raise (↑(.Call (.Name x p) (e::es) [] cpos)) none pos) (zmw T.C E t):=by
 intro n s O H D I h;let(cd,G,k,c,J,u,m,(d,_),j):=zq6 I.mod.kin T.k.q;have g:=zi2 I.mod.kin m d rfl b
 refine wpAny_Raise_call_subT (nm:=cd.name) (q:=cd.qualname) (N:=cd.ns) (bs:=cd.bases) (hdct:=cd.hasDict) (sn:=cd.slotNames) (sub:=cd.subclasses) (ab:=cd.abstract) (col:=cd.collection) (dd:=k) (k0:=c 0) (k1:=c 1) (k2:=c 2) (k3:=c 3) (k5:=c 5)
  PySem.F.excBase_ValueError (j.hasType PySem.F.excBase_ValueError.hasBase) (I.ok.hd w) i g (Mj I A T.m {rfl,?_} f)
 have l:=v cpos n s O H _ I h;rw[y]at l ⊢;exact Calls.evalArgs_plain<|AX l λF s1 ⟨K,H1,I1,r,z,q1⟩=>{rfl,r.length▸z,I1.bk _ _ u,m.keeps I1.bk,j.keeps I1.bk,λo a B=>C n O H1 s1 a _ F o I1 B q1}
end
def IsX(H:Hp)(a C:Addr):Prop:=∃ob,H a=↑(.frz ob<|.own 0)/\ob.cls=.ref C/\∃b,ob.data=.fields b/\b[2]?=↑.none
def OB(H:Hp)(a C:Addr)(c:Option Addr):Prop:=∃ob,H a=↑(.frz ob<|.own 0)/\(ob.cls,ob.dict)=(.ref C,c)/\∃b,ob.data=.fields b/\b[2]?=↑.none
theorem OB.of(x:OB H a C dx)(e:∀u,H a=↑u->F a=↑u):OB F a C dx:=
 let ⟨ob,y,r⟩:=x;{ob,e _ y,r}
section
variable {K:k6}{a C:Addr}
variable {X:Cx}
end
section
variable {X:Cx}{pq:List<|Addr×Obj}{O:L2.St}{H:Hp}{s:Shared}{xe:Value->Shared->Prop}
variable {A:Around}{E:Value->Shared->Prop}{M:Model}
end
section
variable {X:Cx}{i:Nat}{x n:Str}{np pos hpos:Pos}{body suite:kD}{b₀:Stmt}{tb th:TS}{E:L2.St->XK}
end
end Zx
namespace Pu
open PySem PySem.Spec PyProof.Rows L2 Zw Zx
abbrev Rg:=Addr->Prop
def R0:Rg:=λϊ=>False
set_option genInjectivity true in
inductive Kd where
 |lst|rl|tup|rt|pin (p:Addr)
set_option genInjectivity true in
inductive Ob where
 |ins (C:Addr) (fs:List Str)|exn (C:Addr)|sdc (ks:List Str)|lab (p:Addr)
set_option genInjectivity true in
inductive T where
 |non|bl (b:Bool)|int (i:Int)|str (x:Str)|nd (o:Bool) (k:Kd) (l:List T)|dic (ks:List Int) (l:List T)|pdc (ks:List Int) (l:List T)|odc (ks:List Int) (l:List T)
 |obj (k:Ob) (l:List T)|oob (p C:Addr) (fs:List Str) (l:List T)|osd (ks:List Str) (l:List T)
abbrev kH:=Option T
abbrev kL:=List T
abbrev T.lst(l:kL):T:=.nd false .lst l
abbrev T.own(l:kL):T:=.nd true .lst l
abbrev T.tup(l:kL):T:=.nd false .tup l
mutual
noncomputable def T.share:T->T
 |.nd ϊ k l=>.nd false k (BQ l)|.dic a l=>.dic a (BQ l)|.pdc a l=>.pdc a (BQ l)|.odc a l=>.pdc a (BQ l)|.obj k l=>.obj k (BQ l)|.oob ϊ C fs l=>.obj (.ins C fs) (BQ l)|.osd a l=>.obj (.sdc a) (BQ l)|.non=>.non|.bl b=>.bl b|.int i=>.int i|.str x=>.str x
noncomputable def BQ:List T->List T
 |[]=>[]|t::r=>t.share::BQ r
end
mutual
noncomputable def T.sh:T->Bool
 |.nd o ϊ l=>!o && A4 l|.dic ϊ l=>A4 l|.pdc ϊ l=>A4 l|.odc ϊ ϋ=>false|.obj ϊ l=>A4 l|.oob ϊ ϋ ό ύ=>false|.osd ϊ ϋ=>false|.non=>true|.bl ϊ=>true|.int ϊ=>true|.str ϊ=>true
noncomputable def A4:List T->Bool
 |[]=>true|t::r=>t.sh && A4 r
end
def T.flat:T->Bool
 |.nd ϊ ϋ ό=>false|.dic ϊ ϋ=>false|.pdc ϊ ϋ=>false|.odc ϊ ϋ=>false|.obj ϊ ϋ=>false|.oob ϊ ϋ ό ύ=>false|.osd ϊ ϋ=>false|.non=>true|.bl ϊ=>true|.int ϊ=>true|.str ϊ=>true
def FW:∀l ,BQ l=l.map T.share
 |[]=>rfl|t::r=>by rw[BQ,FW r];rfl
def De:∀l ,A4 l=l.all T.sh
 |[]=>rfl|t::r=>by rw[A4,De r];rfl
mutual
theorem CW:∀t:T,t.sh=true->t.share=t
 |.nd o k l,h=>by
  rw[T.sh,È]at h;have b:o=false:=by simpa using h.1
  subst b;rw[T.share,AJ l h.2]
 |.dic a l,h=>by
  rw[T.sh]at h;rw[T.share,AJ l h]
 |.pdc a l,h=>by
  rw[T.sh]at h;rw[T.share,AJ l h]
 |.odc a l,h=>by
  rw[T.sh]at h;cases h
 |.obj k l,h=>by
  rw[T.sh]at h;rw[T.share,AJ l h]
 |.oob p C fs l,h=>by
  rw[T.sh]at h;cases h
 |.osd a l,h=>by
  rw[T.sh]at h;cases h
 |.non,ϊ=>rfl|.bl ϊ,ϋ=>rfl|.int ϊ,ϋ=>rfl|.str ϊ,ϋ=>rfl
theorem AJ:∀l:List T,A4 l=true->BQ l=l
 |[],ϊ=>rfl|t::r,h=>by
  rw[A4,È]at h;rw[BQ,CW t h.1,AJ r h.2]
end
mutual
theorem zh0:∀t:T,t.share.sh=true
 |.nd o k l=>by
  rw[T.share,T.sh,GG l]
  rfl
 |.dic a l=>by rw[T.share,T.sh,GG l]|.pdc a l=>by rw[T.share,T.sh,GG l]|.odc a l=>by rw[T.share,T.sh,GG l]|.obj k l=>by rw[T.share,T.sh,GG l]|.oob p C fs l=>by rw[T.share,T.sh,GG l]|.osd a l=>by rw[T.share,T.sh,GG l]|.non=>rfl|.bl ϊ=>rfl|.int ϊ=>rfl|.str ϊ=>rfl
theorem GG:∀l:List T,A4 (BQ l)=true
 |[]=>rfl|t::r=>by rw[BQ,A4,zh0 t,GG r];rfl
end
def zjo(h:A4 l=true){i:Nat}(e:l[i]?=↑t):t.sh=true:=by
 rw[De]at h;exact ã.mp h _<|ç e
def G5(K:k6)(F:Hp)(p:Addr)(xs:kK):Prop:=(∃o,F p=↑(.frz o<|.lst xs))\/∃(o:Obj) (a:Array Value) (n:Nat),K.lookup p=↑o/\o.cls=.type "list"/\o.dict=none/\o.data=.seq a n/\a.size<=sizeLine/\Ac xs a.toList
theorem G5.l{K}(h:G5 K F p xs):A3 K F p xs:=h.elim (λz=>.inl<|.inr z) .inr
def GA(K:k6)(F:Hp)(k:Kd)(p:Addr)(xs:kK):Prop:=match k with
 |.lst=>F p=↑(.lst xs)|.rl=>G5 K F p xs|.tup=>F p=↑(.tup xs)|.rt=>By K F p xs|.pin ϊ=>F p=↑(.lst xs)
def Ge{K}(s:A5 F F')(h:By K F p xs):By K F' p xs:=by
 rcases h with (h|⟨o,h⟩)|h
 .exact .inl<|.inl<|s _ _ h
 .exact .inl<|.inr {o,s _ _ h}
 .exact .inr h
def GA.same{K}(h:GA K F k p xs)(s:A5 F F'):GA K F' k p xs:=by
 cases k with
 |lst=>exact s _ _ h|rl=>exact h.elim (λ⟨o,z⟩=>.inl {o,s _ _ z}) .inr|tup=>exact s _ _ h|rt=>exact Ge s h|pin q=>exact s _ _ h
def Kd.isT:Kd->Bool
 |.tup=>true|ϊ=>false
def JZ(k:Kd)(p:Addr):Prop:=match k with
 |.lst=>True|.pin q=>q=p|.tup=>True|ϊ=>False
def TV:Kd->kK->HO
 |.tup,xs=>.tup xs|ϊ,xs=>.lst xs
def bW(h:k.isT=false):TV k xs=.lst xs:=by cases k<;>first|rfl|cases h
def JZ.node{K}(hk:JZ k p)(h:F p=↑(TV k xs)):GA K F k p xs:=by
 cases k with
 |lst=>exact h|pin q=>exact h|tup=>exact h|_=>exact hk.elim
def Il(ks:kF)(xs:kK):List<|Key×V:=List.zipWith (λk x=>(Sum.inl k,x)) ks xs
def Cp(ks:kE)(xs:kK):List<|Key×V:=List.zipWith (λk x=>(Sum.inr k,x)) ks xs
def Kw(F:Hp)(b:Option Addr)(v:V):Prop:=∃d a u,b=↑d/\F d=↑(.frz a<|.own 0)/\Ab v u/\W.lookIn "step" a=↑↑u
theorem Kw.of(h:Kw F dx v)(s:∀a u,F a=↑u->F' a=↑u):Kw F' dx v:=
 let ⟨d,od,u,e,h1,r⟩:=h;{d,od,u,e,s _ _ h1,r}
def LQ(F:Hp)(k:Ob)(p:Addr)(xs:kK):Prop:=match k with
 |.ins C fs=>∃a,F p=↑(.ins C a<|fs.zip xs)|.exn C=>∃a,OB F p C a/\∀v∈xs,Kw F a v|.sdc b=>b.length=xs.length/\F p=↑(.dK<|Cp b xs)|.lab q=>q=p/\xs=[.ref p]
def LQ.same(h:LQ F k p xs)(s:A5 F F'):LQ F' k p xs:=by
 cases k with
 |ins C fs=>exact h.elim λa e=>{a,s _ _ e}|exn C=>exact h.elim λa e=>{a,e.1.of λu=>s p u,λv b=>(e.2 v b).of s}|sdc c=>exact{h.1,s _ _ h.2}|lab q=>exact h
inductive Rp(K:k6)(F H:Hp):T->V->Rg->Prop where
 |non:Rp K F H .non .non R0
 |bl (b:Bool):Rp K F H (.bl b) (.bl b) R0
 |int (i:Int):Rp K F H (.int i) (.int i) R0
 |str (x:Str):Rp K F H (.str x) (.str x) R0
 |shr {k:Kd} {p:Addr} {xs:List V} {l:List T} (h:GA K F k p xs) (e:l.length=xs.length) (c:∀(i:Nat) (t:T) (x:V),l[i]?=↑t->xs[i]?=↑x->Rp K F H t x R0):Rp K F H (.nd false k l) (.ref p) R0
 |dic {p:Addr} {ob:Obj} {ks:List Int} {xs:List V} {l:List T} (h:F p=↑(.frz ob<|.dK<|Il ks xs)) (e:l.length=xs.length) (ek:ks.length=xs.length) (c:∀(i:Nat) (t:T) (x:V),l[i]?=↑t->xs[i]?=↑x->Rp K F H t x R0):Rp K F H (.dic ks l) (.ref p) R0
 |pdc {p:Addr} {ks:List Int} {xs:List V} {l:List T} (h:F p=↑(.dK<|Il ks xs)) (e:l.length=xs.length) (ek:ks.length=xs.length) (c:∀(i:Nat) (t:T) (x:V),l[i]?=↑t->xs[i]?=↑x->Rp K F H t x R0):Rp K F H (.pdc ks l) (.ref p) R0
 |odc {p:Addr} {ks:List Int} {xs:List V} {l:List T} (f:F p=none) (h:H p=↑(.dK<|Il ks xs)) (e:l.length=xs.length) (ek:ks.length=xs.length) (c:∀(i:Nat) (t:T) (x:V),l[i]?=↑t->xs[i]?=↑x->Rp K F H t x R0):Rp K F H (.odc ks l) (.ref p)<|λa=>a=p
 |obj {k:Ob} {p:Addr} {xs:List V} {l:List T} (h:LQ F k p xs) (e:l.length=xs.length) (c:∀(i:Nat) (t:T) (x:V),l[i]?=↑t->xs[i]?=↑x->Rp K F H t x R0):Rp K F H (.obj k l) (.ref p) R0
 |oob {C p dx:Addr} {fs:List Str} {xs:List V} {l:List T} (R:Nat->Rg) (f:F p=none) (h:H p=↑(.ins C dx<|fs.zip xs)) (e:l.length=xs.length) (c:∀(i:Nat) (t:T) (x:V),l[i]?=↑t->xs[i]?=↑x->Rp K F H t x (R i))
   (d:∀i j a,i≠j->R i a->¬ R j a) (dp:∀i,¬ R i p) (o:∀i a,R i a->i<l.length):Rp K F H (.oob p C fs l) (.ref p) (λa=>a=p\/∃i,R i a)
 |osd {p:Addr} {ks:List Str} {xs:List V} {l:List T} (R:Nat->Rg) (f:F p=none) (h:H p=↑(.dK<|Cp ks xs)) (e:l.length=xs.length) (ek:ks.length=xs.length) (c:∀(i:Nat) (t:T) (x:V),l[i]?=↑t->xs[i]?=↑x->Rp K F H t x (R i))
   (d:∀i j a,i≠j->R i a->¬ R j a) (dp:∀i,¬ R i p) (o:∀i a,R i a->i<l.length):Rp K F H (.osd ks l) (.ref p) (λa=>a=p\/∃i,R i a)
 |own {k:Kd} {p:Addr} {xs:List V} {l:List T} (hk:JZ k p) (R:Nat->Rg) (f:F p=none) (h:H p=↑(TV k xs)) (e:l.length=xs.length) (c:∀(i:Nat) (t:T) (x:V),l[i]?=↑t->xs[i]?=↑x->Rp K F H t x (R i))
   (d:∀i j a,i≠j->R i a->¬ R j a) (dp:∀i,¬ R i p) (o:∀i a,R i a->i<l.length):Rp K F H (.nd true k l) (.ref p) (λa=>a=p\/∃i,R i a)
theorem reg0{p:Addr}:(λa=>a=p\/∃_:Nat,R0 a)=λa=>a=p:=funext λϊ=>propext {λz=>z.elim id λ⟨_,w⟩=>w.elim,.inl}
def Rp.osd0{K}{F H:Hp}{p:Addr}{ks:kE}{xs:kK}{l:kL}(f:F p=none)(h:H p=↑(.dK<|Cp ks xs))(e:l.length=xs.length)(b:ks.length=xs.length)(c:∀(i:Nat) (t:T) (x:V),l[i]?=↑t->xs[i]?=↑x->Rp K F H t x R0):Rp K F H (.osd ks l) (.ref p)<|λa=>a=p:=by
 have r:Rp K F H (.osd ks l) (.ref p) (λa=>a=p\/∃_:Nat,R0 a):=.osd (λϊ=>R0) f h e b c (λϊ ϊ ϊ ϊ z=>z.elim) (λϊ z=>z)<|λϊ ϊ z=>z.elim
 rwa[reg0]at r
section
variable {K:k6}{F F' H H':Hp}{t:T}{x:V}{A:Rg}
def Rp.frame(h:Rp K F H t x A)(s:A5 F F')(k:∀a,A a->H' a=H a/\F' a=none):Rp K F' H' t x A:=by
 induction h with
 |non=>exact .non|bl b=>exact .bl b|int i=>exact .int i|str y=>exact .str y|shr h e c l=>exact .shr (h.same s) e λi t x g j=>l i t x g j λa z=>z.elim|dic h e m c l=>exact .dic (s _ _ h) e m λi t x g j=>l i t x g j λa z=>z.elim|pdc h e m c l=>exact .pdc (s _ _ h) e m λi t x g j=>l i t x g j λa z=>z.elim|odc f h e m c l=>have q:=k _ rfl;exact .odc q.2 (q.1.trans h) e m λi t x g j=>l i t x g j λa z=>z.elim|obj h e c l=>exact .obj (h.same s) e λi t x g j=>l i t x g j λa z=>z.elim|oob R f h e c d dp o l=>have q:=k _<|.inl rfl;exact .oob R q.2 (q.1.trans h) e (λi t x g j=>l i t x g j λa z=>k a<|.inr {(i),z}) d dp o|osd R f h e m c d dp o l=>have q:=k _<|.inl rfl;exact .osd R q.2 (q.1.trans h) e m (λi t x g j=>l i t x g j λa z=>k a<|.inr {(i),z}) d dp o|own hk R f h e c d dp o l=>have q:=k _<|.inl rfl;exact .own hk R q.2 (q.1.trans h) e (λi t x g j=>l i t x g j λa z=>k a<|.inr {(i),z}) d dp o
def Rp.dom(h:Rp K F H t x A)(g:A a):F a=none/\∃u,H a=↑u:=by
 induction h with
 |non=>exact g.elim|bl b=>exact g.elim|int i=>exact g.elim|str y=>exact g.elim|shr h e c j=>exact g.elim|dic h e n c j=>exact g.elim|pdc h e n c j=>exact g.elim|odc f h e n c j=>grind|obj h e c j=>exact g.elim|@osd p s xs l R f h e n c d dp o j=>
  rcases g with rfl|⟨i,z⟩
  .grind
  .have k:=o i a z;have m:i<xs.length:=by lia
   exact j i _ _ (Â k) (Â m) z
 |@oob C p q fs xs l R f h e c d dp o j=>
  rcases g with rfl|⟨i,z⟩
  .grind
  .have k:=o i a z;have m:i<xs.length:=by lia
   exact j i _ _ (Â k) (Â m) z
 |@own r p xs l hk R f h e c d dp o j=>
  rcases g with rfl|⟨i,z⟩
  .grind
  .have k:=o i a z;have m:i<xs.length:=by lia
   exact j i _ _ (Â k) (Â m) z
def Rp.share(h:Rp K F H t x A)(s:A5 F F')(k:∀a u,A a->H a=↑u->F' a=↑u):Rp K F' H' t.share x R0:=by
 induction h with
 |non=>exact .non|bl b=>exact .bl b|int i=>exact .int i|str y=>exact .str y|@shr w p xs l h e c m=>
  rw[T.share,FW];refine .shr (h.same s) (by rw[Á];exact e) λi t x g j=>?_
  rw[Ë]at g;let(q,n,rfl):=Ø.mp g;exact m i q x n j λa u z=>z.elim
 |@dic p ob v xs l h e r c m=>
  rw[T.share,FW];refine .dic (s _ _ h) (by rw[Á];exact e) r λi t x g j=>?_
  rw[Ë]at g;let(q,n,rfl):=Ø.mp g;exact m i q x n j λa u z=>z.elim
 |@pdc p v xs l h e r c m=>
  rw[T.share,FW];refine .pdc (s _ _ h) (by rw[Á];exact e) r λi t x g j=>?_
  rw[Ë]at g;let(q,n,rfl):=Ø.mp g;exact m i q x n j λa u z=>z.elim
 |@odc p v xs l f h e r c m=>
  rw[T.share,FW];refine .pdc (k _ _ rfl h) (by rw[Á];exact e) r λi t x g j=>?_
  rw[Ë]at g;let(q,n,rfl):=Ø.mp g;exact m i q x n j λa u z=>z.elim
 |@obj w p xs l h e c m=>
  rw[T.share,FW];refine .obj (h.same s) (by rw[Á];exact e) λi t x g j=>?_
  rw[Ë]at g;let(q,n,rfl):=Ø.mp g;exact m i q x n j λa u z=>z.elim
 |@oob C p B fs xs l R f h e c d dp o m=>
  rw[T.share,FW];refine .obj {B,k _ _ (.inl rfl) h} (by rw[Á];exact e) λi t x g j=>?_
  grind
 |@osd p v xs l R f h e r c d dp o m=>
  rw[T.share,FW];refine .obj {r,k _ _ (.inl rfl) h} (by rw[Á];exact e) λi t x g j=>?_
  grind
 |@own w p xs l hk R f h e c d dp o m=>
  rw[T.share,FW];refine .shr (hk.node<|k _ _ (.inl rfl) h) (by rw[Á];exact e) λi t x g j=>?_
  grind
def Rp.r0(h:Rp K F H t x A)(s:t.sh=true):A=R0:=by
 cases h with
 |own hk R f h e c d dp o=>cases s|odc f h e a c=>cases s|oob R f h e c d dp o=>cases s|osd R f h e a c d dp o=>cases s|_=>rfl
def Rp.move(h:Rp K F H t x A)(s:t.sh=true)(q:A5 F F'):Rp K F' H' t x R0:=by
 have e:=h.r0 s;subst e;exact h.frame q λa z=>z.elim
def Rp.flat_any(h:Rp K F H t x A)(s:t.flat=true):Rp K F' H' t x R0:=by
 cases h with
 |non=>exact .non|bl b=>exact .bl b|int i=>exact .int i|str y=>exact .str y|shr h e c=>cases s|dic h e a c=>cases s|pdc h e a c=>cases s|odc f h e a c=>cases s|obj h e c=>cases s|oob R f h e c d dp o=>cases s|osd R f h e a c d dp o=>cases s|own hk R f h e c d dp o=>cases s
def Rp.int_inv{i:Int}(h:Rp K F H (.int i) x A):x=.int i:=by cases h;rfl
def Rp.bl_inv{b:Bool}(h:Rp K F H (.bl b) x A):x=.bl b:=by cases h;rfl
def Rp.non_inv(h:Rp K F H .non x A):x=.non:=by cases h;rfl
def Rp.str_inv{y:Str}(h:Rp K F H (.str y) x A):x=.str y:=by cases h;rfl
end
def Ah(K:k6)(F:Hp)(ts:kL)(xs:kK):Prop:=ts.length=xs.length/\∀(i:Nat) (t:T) (x:V),ts[i]?=↑t->xs[i]?=↑x->Rp K F F t x R0
theorem Ah.nil{K}:Ah K F [] []:={rfl,λi t x h=>by simp at h}
theorem Rp.any{K}(h:Rp K F H t x R0):Rp K F H' t x R0:=h.frame (A5.refl F) λa z=>z.elim
def Ah.cons{K:k6}{F H:Hp}{t:T}{x:V}{ts:kL}{xs:kK}(h:Rp K F H t x R0)(r:Ah K F ts xs):Ah K F (t::ts)<|x::xs:=by
 refine{by simp[r.1],λi c d a b=>?_}
 cases i with
 |zero=>simp at a b;subst a;subst b;exact h.any|succ j=>exact r.2 j c d (by simpa using a)<|by simpa using b
def Ah.inv{K}(r:Ah K F (t::ts) xs):∃x xs',xs=x::xs'/\Rp K F F t x R0/\Ah K F ts xs':=by
 let(e,h):=r;cases xs with
 |nil=>simp at e|cons x xs'=>exact{x,xs',rfl,h 0 t x rfl rfl,by simpa using e,λi c d a b=>h (i+1) c d (by simpa using a)<|by simpa using b}
def Ah.inv0{K}(r:Ah K F [] xs):xs=[]:=by
 let(e,h):=r
 grind
theorem Ah.same{K}(r:Ah K F ts xs)(s:A5 F F'):Ah K F' ts xs:={r.1,λi t x b c=>((r.2 i t x b c).frame s λa z=>z.elim)}
def Ah.node{K}(h:Rp K F H (.nd false k l) (.ref p) A):∃xs,GA K F k p xs/\Ah K F l xs:=by
 cases h with
 |shr h e c=>exact{_,h,e,λi t x a b=>(c i t x a b).any}
def Rp.ref_inv{K}(h:Rp K F H (.nd o k l) x A):∃p,x=.ref p:=by
 cases h with
 |shr h e c=>exact{_,rfl}|own hk R f h e c d dp o=>exact{_,rfl}
theorem Ah.of_node{K}(h:GA K F k p xs)(r:Ah K F l xs):Rp K F H (.nd false k l) (.ref p) R0:=.shr h r.1 λi t x a b=>(r.2 i t x a b).any
structure Ext(F H F' H':Hp)(B:Rg):Prop where
 hh:A5 H H'
 ff:A5 F F'
 fh:A5 F' H'
 nb:∀b,B b->H b=none
 nf:∀b u,F' b=↑u->F b=↑u\/H b=none
def GP(s:A5 H H')(h:H' b=none):H b=none:=by
 cases e:H b with
 |none=>rfl|some u=>rw[s b u e]at h;cases h
section
variable {F H F1 H1 F2 H2:Hp}{B C:Rg}
theorem Ext.refl(s:A5 F H):Ext F H F H R0:={.refl _,.refl _,s,λϊ z=>z.elim,λϊ ϊ e=>.inl e}
theorem Ext.trans(a:Ext F H F1 H1 B)(b:Ext F1 H1 F2 H2 C):Ext F H F2 H2 (λx=>B x\/C x) where
 hh:=a.hh.trans b.hh
 ff:=a.ff.trans b.ff
 fh:=b.fh
 nb:=λx z=>z.elim (a.nb x) λz=>GP a.hh (b.nb x z)
 nf:=λx u e=>(b.nf x u e).elim (a.nf x u) λz=>.inr<|GP a.hh z
theorem Ext.mono(a:Ext F H F1 H1 B)(h:∀x,C x->B x):Ext F H F1 H1 C:={a.hh,a.ff,a.fh,λx z=>a.nb x<|h x z,a.nf}
theorem Ext.trans0(a:Ext F H F1 H1 R0)(b:Ext F1 H1 F2 H2 C):Ext F H F2 H2 C:=(a.trans b).mono λx z=>.inr z
open Classical in
def frz(F H:Hp)(A:Rg):Hp:=λb=>if A b then H b else F b
def ET{A:Rg}{b:Addr}(h:A b):frz F H A b=H b:=by unfold frz;rw[if_pos h]
def Ej{A:Rg}{b:Addr}(h:¬ A b):frz F H A b=F b:=by unfold frz;rw[if_neg h]
theorem Ek(n:∀a,A a->F a=none):A5 F<|frz F H A:=λb u e=>by
 by_cases h:A b
 .grind
 .rw[Ej h];exact e
theorem Ho(s:A5 F H):A5 (frz F H A) H:=λb u e=>by
 by_cases h:A b
 .rw[ET h]at e;exact e
 .rw[Ej h]at e;exact s b u e
theorem Ext.frz(a:Ext F H F1 H1 B)(n:∀b,B b->F1 b=none):Ext F H (frz F1 H1 B) H1 R0 where
 hh:=a.hh
 ff:=a.ff.trans (Ek n)
 fh:=Ho a.fh
 nb:=λϊ z=>z.elim
 nf:=λb u e=>by
  by_cases h:B b
  .exact .inr<|a.nb b h
  .rw[Ej h]at e;exact a.nf b u e
theorem Rp.ext{K }    (h:Rp K F H t x A)(a:Ext F H F1 H1 B):Rp K F1 H1 t x A:=h.frame a.ff λb z=>by
 let(f,u,e):=h.dom z;refine{(a.hh b u e).trans e.symm,?_};cases q:F1 b with
 |none=>rfl|some c=>
  rcases a.nf b c q with z|z
  .grind
  grind
theorem Rp.apart{K}(h:Rp K F H t x A)(a:Ext F H F1 H1 B)(c:B b):¬ A b:=λz=>by
 let(f,u,e):=h.dom z;rw[a.nb b c]at e;cases e
theorem Ext.new(s:A5 F H)(h:H p=none):Ext F H (upd F p o) (upd H p o) R0 where
 hh:=Fo h o
 ff:=Fo (GP s h) o
 fh:=λb u e=>by
  by_cases a:b=p
  .subst a;rw[CP]at e ⊢;exact e
  .rw[Ap a]at e ⊢;exact s b u e
 nb:=λϊ z=>z.elim
 nf:=λb u e=>by
  by_cases a:b=p
  .grind
  .rw[Ap a]at e;exact .inl e
theorem Ext.newO(s:A5 F H)(h:H p=none):Ext F H F (upd H p o) (λa=>a=p) where
 hh:=Fo h o
 ff:=.refl _
 fh:=λb u e=>Fo h o b u (s b u e)
 nb:=λb z=>by grind
 nf:=λb u e=>.inl e
end
abbrev AN:=List<|kH
structure StR(K:k6)(F H:Hp)(O:L2.St)(Y:AN)(R:Nat->Rg):Prop where
 fh:A5 F H
 len:O.length=Y.length
 rep:∀i t,Y[i]?=↑↑t->∃x,O[i]?=↑↑x/\Rp K F H t x (R i)
 out:∀i a,R i a->∃t,Y[i]?=↑↑t
 dis:∀i j a,i≠j->R i a->¬ R j a
section
variable {K:k6}{F H F1 H1:Hp}{O:L2.St}{Y:AN}{R:Nat->Rg}{B:Rg}
def StR.dom(h:StR K F H O Y R)(b:R i a):F a=none/\∃u,H a=↑u:=by
 let(t,e):=h.out i a b;let(x,_,r):=h.rep i t e;exact r.dom b
theorem StR.ext(h:StR K F H O Y R)(a:Ext F H F1 H1 B):StR K F1 H1 O Y R where
 fh:=a.fh
 len:=h.len
 rep:=λi t e=>by
  let(x,b,r):=h.rep i t e;exact{x,b,r.ext a}
 out:=h.out
 dis:=h.dis
theorem StR.apart(h:StR K F H O Y R)(a:Ext F H F1 H1 B)(c:B b)(i):¬ R i b:=λz=>by
 let(f,u,e):=h.dom z;rw[a.nb b c]at e;cases e
end
def aY:Key->PyData
 |.inl i=>.int i|.inr x=>.str x
mutual
noncomputable def T.data:T->PyData
 |.non=>.none|.bl b=>.bool b|.int i=>.int i|.str x=>.str x|.nd ϊ .lst l=>.list (Bj l)|.nd ϊ .rl l=>.list (Bj l)|.nd ϊ .tup l=>.tuple (Bj l)|.nd ϊ .rt l=>.tuple (Bj l)|.nd ϊ (.pin ϋ) l=>.list (Bj l)|.dic a l=>.dict ((a.map PyData.int).zip (Bj l))|.pdc a l=>.dict ((a.map PyData.int).zip (Bj l))|.odc a l=>.dict ((a.map PyData.int).zip (Bj l))|.obj ϊ ϋ=>.none|.oob ϊ ϋ ό ύ=>.none|.osd ϊ ϋ=>.none
noncomputable def Bj:List T->List PyData
 |[]=>[]|t::r=>t.data::Bj r
end
mutual
noncomputable def T.pln:T->Bool
 |.nd ϊ ϋ l=>Ez l|.dic ϊ l=>Ez l|.pdc ϊ l=>Ez l|.odc ϊ l=>Ez l|.obj ϊ ϋ=>false|.oob ϊ ϋ ό ύ=>false|.osd ϊ ϋ=>false|.non=>true|.bl ϊ=>true|.int ϊ=>true|.str ϊ=>true
noncomputable def Ez:List T->Bool
 |[]=>true|t::r=>t.pln && Ez r
end
def Ey:∀{l},Ez l=true->∀{i:Nat} {t},l[i]?=↑t->t.pln=true
 |[],ϊ,i,t,e=>by simp at e|a::r,h,i,t,e=>by
  rw[Ez,È]at h;cases i with
  |zero=>simp at e;subst e;exact h.1|succ i=>exact Ey h.2<|by simpa using e
def XD:∀{l} {us},l.length=us.length->(∀(i:Nat) (t) (u),l[i]?=↑t->us[i]?=↑u->∃as,Reads h u t.data as)->∃as,ReadsAll h us (Bj l) as
 |[],[],ϊ,ϋ=>{_,.nil}|[],ϊ::ϋ,e,ό=>by simp at e|ϊ::ϋ,[],e,ό=>by simp at e|t::l,u::us,e,f=>by
  let(j,r1):=f 0 t u rfl rfl;let(k,c):=XD (l:=l) (us:=us) (by simpa using e) λi d g a b=>f (i+1) d g (by simpa using a)<|by simpa using b
  exact{_,.cons r1 c}
def TB(e:(Dh P w).is k v=true):Reads h v (aY k) []:=by
 rcases Ff (e) with ⟨i,t,rfl,rfl⟩|⟨x,t,rfl,rfl⟩
 .exact .int i t
 .exact .str x t
def MV:∀(ks) (xs) (l) (vs),KV (Il ks xs) vs->l.length=xs.length->ks.length=xs.length->(∀(i:Nat) (t) (x),l[i]?=↑t->xs[i]?=↑x->∀{u},Ab x u->∃as,Reads h u t.data as) ->
  ∃bs,PyProof.V.PairsRead h aY vs ((ks.map PyData.int).zip (Bj l)) bs
 |[],xs,l,vs,r,ϊ,ϋ,ό=>by
  have b:Paired _ [] vs:=(show Paired _ (Il [] xs) vs from r);cases b;exact{_,.nil}
 |k::ks,[],l,vs,r,ϊ,a,ϋ=>by simp at a|k::ks,x::xs,[],vs,r,e,ϊ,ϋ=>by simp at e|k::ks,x::xs,t::l,vs,r,e,a,f=>by
  have b:Paired (λ(p:Key×V) (q:Key×Value)=>p.1=q.1/\Ab p.2 q.2) ((Sum.inl k,x)::Il ks xs) vs:=r
  cases b with
  |@cons ϊ q ϋ j hd o=>
   let(v,r1):=f 0 t x rfl rfl hd.2;let(w,m):=MV ks xs l j o (by simpa using e) (by simpa using a) λi n s c d=>f (i+1) n s (by simpa using c)<|by simpa using d
   let(g,y):=q;cases (show Sum.inl k=g from hd.1);exact{_,.cons r1 m}
section
variable {X:Cx}{pq:List<|Addr×Obj}{O:L2.St}{F H:Hp}{s:Shared}
def Gk(I:Inv X pq O H s)(fh:A5 F H)(h:Rp X.K F H t x A)(g:t.pln=true):∀{u},Ab x u->∃as,Reads s.heap u t.data as:=by
 have D:∀{l } {xs } {B },Ac xs B->l.length=xs.length->(∀(i:Nat) (t ) (x ),l[i]?=↑t->xs[i]?=↑x->∀{u },Ab x u->∃as,Reads s.heap u t.data as)->∃as,ReadsAll s.heap B (Bj l) as:=by
  intro l xs B r e j;refine XD (e.trans r.length) λi t u a m=>?_
  have T:i<xs.length:=by
   have:=(Ñ.mp a).1
   lia
  let(Y,E,r1):=r.get<|Â T;rw[m]at E;cases E;exact j i t _ a (Â T) r1
 have w:∀{p } {l } {xs },A3 X.K H p xs->l.length=xs.length->(∀(i:Nat) (t ) (x ),l[i]?=↑t->xs[i]?=↑x->∀{u },Ab x u->∃as,Reads s.heap u t.data as)->∃as,Reads s.heap (.ref p) (.list<|Bj l) as:=by
  intro p l xs Q e j;let(B,r,(o,n,E,N,V,P),_):=I.list Q;let(as,S):=D r e j;exact{_,.list E N P<|by simpa using S}
 have tups:∀{p } {l } {xs },By X.K H p xs->l.length=xs.length->(∀(i:Nat) (t ) (x ),l[i]?=↑t->xs[i]?=↑x->∀{u },Ab x u->∃as,Reads s.heap u t.data as)->∃as,Reads s.heap (.ref p) (.tuple<|Bj l) as:=by
  intro p l xs Q e j;let(B,r,(o,E,N,n,P),_):=I.tuple Q;let(as,S):=D r e j;exact{_,.tuple E N P<|by simpa using S}
 induction h with
 |non=>intro u r;cases r;exact{_,.none}|bl b=>intro u r;cases r;exact{_,.bool b}|int i=>intro u r;let(t,rfl):=r;exact{_,.int i t}
 |str y=>intro u r;let(t,rfl):=r;exact{_,.str y t}
 |@shr k p xs l h e c j=>
  intro u r;cases r;cases k with
  |lst=>exact w (A3.of<|fh _ _ h) e λi t x a m=>j i t x a m (Ey g a)|rl=>exact w (fh.seq h.l) e λi t x a m=>j i t x a m (Ey g a)|tup=>exact tups (By.of<|fh _ _ h) e λi t x a m=>j i t x a m (Ey g a)|rt=>exact tups (Ge fh h) e λi t x a m=>j i t x a m (Ey g a)|pin q=>exact w (A3.of<|fh _ _ h) e λi t x a m=>j i t x a m<|Ey g a
 |@dic p ob K xs l h e G c j=>
  intro u r;cases r;let(W,z,hd,M,C,J):=(I.hok p _<|fh _ _ h);let(bs,L):=MV K xs l M C e G λi t x a m=>j i t x a m<|Ey g a
  exact{_,ů (λk v q=>TB q) J L}
 |@pdc p K xs l h e G c j=>
  intro u r;cases r;let(z,hd,M,C,J):=(I.hok p _<|fh _ _ h);let(bs,L):=MV K xs l M C e G λi t x a m=>j i t x a m<|Ey g a
  exact{_,ů (λk v q=>TB q) J L}
 |@odc p K xs l f h e G c j=>
  intro u r;cases r;let(z,hd,M,C,J):=(I.hok p _ h);let(bs,L):=MV K xs l M C e G λi t x a m=>j i t x a m<|Ey g a
  exact{_,ů (λk v q=>TB q) J L}
 |obj h e c j=>cases g|oob R f h e c d dp o j=>cases g|osd R f h e G c d dp o j=>cases g|@own U p xs l hk R f h e c d dp o j=>
  intro u r;cases r;cases U with
  |lst=>exact w (A3.of h) e λi t x a m=>j i t x a m (Ey g a)|pin q=>exact w (A3.of h) e λi t x a m=>j i t x a m (Ey g a)|tup=>exact tups (By.of h) e λi t x a m=>j i t x a m (Ey g a)|_=>exact hk.elim
end
def E8(t:T):Bool:=t.pln && t.data.canLay0
def JC(t u:T):Bool:=PyData.eqv t.data u.data
def HF(t u:T):Bool:=E8 t && E8 u && decide (min t.data.depth u.data.depth<=60)
def Au(t u:T):kH:=if HF t u then ↑(.bl<|JC t u) else none
def CJ(t u:T):kH:=if HF t u then ↑(.bl<|!JC t u) else none
def Ir(t:T)(l:kL):Bool:=E8 t && (Ez l && PyData.canLayAll0 (Bj l)) && decide (min (PyData.depthAll<|Bj l) t.data.depth<=60)
def TX(t:T)(l:kL):Bool:=(Bj l).any λy=>PyData.eqv y t.data
def bS(t:T)(y:Str):kH:=match t with
 |.str x=>↑(.bl<|!(Builtin.Str.occurrences y x 0 y.length 1).isEmpty)|ϊ=>none
def ES(t c:T):kH:=match c with
 |.nd ϊ ϋ l=>if Ir t l then ↑(.bl<|TX t l) else none
 |.str y=>bS t y|ϊ=>none
def Ha(t c:T):kH:=match c with
 |.nd ϊ ϋ l=>if Ir t l then ↑(.bl<|!TX t l) else none
 |ϊ=>none
def Dq(K:k6)(F H:Hp)(v:T)(Q:VK):Prop:=∀b a z C,Ext F H b a C->Rp K b a v z C->Q z a
def Bg(K:k6)(g:T->T->kH):R2:=λx y H Q=>∃F t u v,A5 F H/\Rp K F F t x R0/\Rp K F F u y R0/\g t u=↑v/\Dq K F H v Q
def MQ(K:k6)(g:T->kH):V->Hp->VK->Prop:=λx H Q=>∃F t v,A5 F H/\Rp K F F t x R0/\g t=↑v/\Dq K F H v Q
def DR(K:k6)(g:kL->kH):kK->Hp->VK->Prop:=λxs H Q=>∃F a v,A5 F H/\Ah K F a xs/\g a=↑v/\Dq K F H v Q
section
variable {K:k6}{F H:Hp}{Q:VK}
theorem Dq.int(q:Dq K F H (.int i) Q)(s:A5 F H):Q (.int i) H:=q F H _ _ (Ext.refl s)<|.int i
theorem Dq.bl(q:Dq K F H (.bl b) Q)(s:A5 F H):Q (.bl b) H:=q F H _ _ (Ext.refl s)<|.bl b
theorem Dq.str(q:Dq K F H (.str x) Q)(s:A5 F H):Q (.str x) H:=q F H _ _ (Ext.refl s)<|.str x
def Dq.list(q:Dq K F H (.own l) Q)(s:A5 F H)(r:Ah K F l xs)  (b:H p=none):Q (.ref p)<|upd H p<|.lst xs:=by
 refine q F (upd H p<|.lst xs) (.ref p) _ ((Ext.newO s b).mono ?_)<|.own (k:=.lst) trivial (λϊ=>R0) (GP s b) CP r.1 (λi t x c d=>?_) (λϊ ϊ ϊ ϊ z=>z.elim) (λϊ z=>z) (λϊ ϊ z=>z.elim)
 .rintro a (z|⟨i,z⟩)
  .exact z
  .exact z.elim
 .exact(r.2 i t x c d).any
def Dq.tuple(q:Dq K F H (.tup l) Q)(s:A5 F H)(r:Ah K F l xs)(a:H p=none):Q (.ref p)<|upd H p<|.tup xs:=by
 have e:=Ext.new (o:=.tup xs) s a;exact q _ _ _ _ e<|Ah.of_node CP<|r.same e.ff
end
def DJ(i:Int):Bool:=@decide (-(2 ^ 64)<i/\i<2 ^ 64) (Classical.propDecidable _)
def Bd(i:Int):Bool:=@decide (-(10 ^ 70)<i/\i<10 ^ 70) (Classical.propDecidable _)
def KU(k:Int):Bool:=@decide (k<2 ^ 63/\-(2 ^ 63)<=k) (Classical.propDecidable _)
def Be(i j:Int):Bool:=DJ i || DJ j || (Bd i && Bd j)
def BW:Nat:=16777216
def Aj:T->T->kH
 |.int i,.int j=>↑(.int<|i+j)|.str x,.str y=>if x.length+y.length<=BW then ↑(.str<|x++y) else none
 |.nd ϊ .lst l,.nd ϋ .lst m=>if l.length+m.length<=BW then ↑(.own<|l++m) else none
 |ϊ,ϋ=>none
def EI:T->T->kH
 |.int i,.int j=>↑(.int<|i - j)|ϊ,ϋ=>none
def B9:T->T->kH
 |.int i,.int j=>if Be i j then ↑(.int<|i * j) else none
 |.nd ϊ .lst l,.int k=>if KU k=true/\l.length * k.toNat<=BW then ↑(.own (List.replicate k.toNat l).flatten) else none
 |.str x,.int k=>if 0<=k/\k<=1000000/\x.length<=16 then ↑(.str<|Txt.mul x k) else none
 |ϊ,ϋ=>none
def Aq:T->T->kH
 |.int i,.int j=>if j≠0 then ↑(.int<|i.fmod j) else none
 |ϊ,ϋ=>none
def BX:T->T->kH
 |.int i,.int j=>if j≠0/\Bd j then ↑(.int<|i.fdiv j) else none
 |ϊ,ϋ=>none
def DS:T->T->kH
 |.int i,.int j=>if 0<=j/\j<=1000000/\DJ i then ↑(.int<|i ^ j.toNat) else none
 |ϊ,ϋ=>none
def Kr:T->T->kH
 |.int i,.int j=>↑(.int<|Builtin.bitOr i j)|ϊ,ϋ=>none
def Kt:T->T->kH
 |.int i,.int j=>↑(.int<|Builtin.bitAnd i j)|ϊ,ϋ=>none
def BP(f:Int->Int->Bool):T->T->kH
 |.int i,.int j=>↑(.bl<|f i j)|ϊ,ϋ=>none
def E1:T->kH
 |.int i=>↑(.int<|-i)|ϊ=>none
def Q7(h:DJ i=true):-(2 ^ 64)<i/\i<2 ^ 64:=@of_decide_eq_true _ (Classical.propDecidable _) h
theorem Q6(h:Bd i=true):Sm i:=@of_decide_eq_true _ (Classical.propDecidable _) h
def bB(h:KU k=true):k<2 ^ 63/\-(2 ^ 63)<=k:=@of_decide_eq_true _ (Classical.propDecidable _) h
def GU:BW=sizeLine:=by rw[ė];rfl
def MK{K}{F}:∀{l m} {xs ys},Ah K F l xs->Ah K F m ys->Ah K F (l++m) (xs++ys)
 |[],m,xs,ys,r,q=>by rw[r.inv0];exact q|t::l,m,xs,ys,r,q=>by
  let(x,b,rfl,r1,a):=r.inv;exact .cons r1<|MK a q
def Wy{K}(r:Ah K F l xs):∀n ,Ah K F (List.replicate n l).flatten (List.replicate n xs).flatten
 |0=>.nil|n+1=>by
  exact MK r<|Wy r n
section
variable {X:Cx}
def Dy{K}(h:Rp K F H (.nd o k l) x R0):∃p xs,x=.ref p/\o=false/\GA K F k p xs/\Ah K F l xs:=by
 generalize a:R0=A at h;cases h with
 |shr h e c=>exact{_,_,rfl,rfl,h,e,λi t x b g=>(a▸c i t x b g).any}|@own j p xs l hk R f h e c d dp o=>
  exfalso
  have z:=congrFun a p;have:R0 p:=by rw[z];exact .inl rfl
  exact this
set_option tactic.hygienic true in
def zl2:Ag X (binaryOp .Add)<|Bg X.K Aj:=by
 intro f s O H x y v u Q I b c h;let(F,t,w,r,fh,r1,g,e,q):=h;unfold Aj at e;split at e
 .cases e;rw[r1.int_inv]at b;rw[g.int_inv]at c;exact zox f s O H _ _ v u Q I b c {_,_,rfl,rfl,q.int fh}
 .split at e
  .cases e;rename_i d;rw[r1.str_inv]at b;rw[g.str_inv]at c;exact ze1 f s O H _ _ v u Q I b c {_,_,rfl,rfl,by rw[<- GU];exact d,q.str fh}
  .cases e
 .split at e
  .cases e;rename_i d;let(p,xs,rfl,rfl,l,i):=Dy r1;let(n,o,rfl,rfl,m,j):=Dy g;refine zov f s O H _ _ v u Q I b c {p,n,xs,o,rfl,rfl,fh _ _ l,fh _ _ m,?_,λa k=>q.list fh (MK i j) k}
   rw[<- i.1,<- j.1,<- GU];exact d
  .cases e
 .cases e
def H9(m:Ag X f<|rI C g)(l:∀t u v,gT t u=↑v->∃i j,t=.int i/\u=.int j/\C i j/\((∃k,v=.int k/\g i j=.int k)\/∃k,v=.bl k/\g i j=.bl k)):Ag X f<|Bg X.K gT:=by
 intro o s O H x y v u Q I b c h;let(F,w,z,r,fh,r1,p,e,q):=h;let(i,j,rfl,rfl,d,n):=l _ _ _ e;rw[r1.int_inv]at b;rw[p.int_inv]at c;refine m o s O H _ _ v u Q I b c {i,j,rfl,rfl,d,?_}
 rcases n with ⟨k,rfl,a⟩|⟨k,rfl,a⟩
 .rw[a];exact q.int fh
 .rw[a];exact q.bl fh
theorem Ag.weak(h:Ag X f r)(w:∀x y H Q,r' x y H Q->r x y H Q):Ag X f r':=λa s O H x y v u Q I b c q=>h a s O H x y v u Q I b c<|w x y H Q q
theorem ML(h:Ag X f<|Ew g):Ag X f<|rI (λϊ ϊ=>True) g:=Ag.weak h λx y H Q ⟨i,j,a,b,_,q⟩=>{(i),j,a,b,q}
theorem zkv:Ag X (binaryOp .Sub)<|Bg X.K EI:=H9 (ML zoq) λt u v h=>by
 unfold EI at h;split at h
 .cases h;exact{_,_,rfl,rfl,trivial,.inl {_,rfl,rfl}}
 .cases h
theorem zl1:Ag X (binaryOp .BitOr)<|Bg X.K Kr:=H9 (ML op_or) λt u v h=>by
 unfold Kr at h;split at h
 .cases h;exact{_,_,rfl,rfl,trivial,.inl {_,rfl,rfl}}
 .cases h
theorem zhp:Ag X (binaryOp .BitAnd)<|Bg X.K Kt:=H9 (ML zow) λt u v h=>by
 unfold Kt at h
 grind
theorem zky:Ag X (binaryOp .Mod)<|Bg X.K Aq:=H9 zku λt u v h=>by
 unfold Aq at h;split at h
 .split at h
  .cases h;exact{_,_,rfl,rfl,by assumption,.inl {_,rfl,rfl}}
  .cases h
 .cases h
set_option tactic.hygienic true in
theorem zho:Ag X (binaryOp .FloorDiv)<|Bg X.K BX:=H9 zhn λt u v h=>by
 unfold BX at h;split at h
 .split at h
  .cases h;rename_i a;exact{_,_,rfl,rfl,{a.1,Q6 a.2},.inl {_,rfl,rfl}}
  .cases h
 .cases h
set_option tactic.hygienic true in
theorem zkw:Ag X (binaryOp .Pow)<|Bg X.K DS:=H9 zos λt u v h=>by
 unfold DS at h;split at h
 .split at h
  .cases h;rename_i a;have q:=Q7 a.2.2;exact{_,_,rfl,rfl,{a.1,a.2.1,by lia},.inl {_,rfl,rfl}}
  .cases h
 .cases h
theorem MX(a:Ag X (compareOp op)<|Ew λi j=>.bl<|g i j):Ag X (compareOp op)<|Bg X.K<|BP g:=H9 (ML a) λt u v h=>by
 unfold BP at h
 grind
set_option tactic.hygienic true in
def zkx:Ag X (binaryOp .Mult)<|Bg X.K B9:=by
 intro f s O H x y v u Q I d c h;let(F,o,t,r,fh,r1,g,e,q):=h;unfold B9 at e;split at e
 .rename_i i j;split at e
  .cases e;rename_i b;rw[r1.int_inv]at d;rw[g.int_inv]at c;unfold Be at b;rw[Ē,Ē,È]at b
   rcases b with (b|b)|b
   .exact Xj f s O H _ _ v u Q I d c {i,j,rfl,rfl,.inl<|Q7 b,q.int fh}
   .exact Xj f s O H _ _ v u Q I d c {i,j,rfl,rfl,.inr<|Q7 b,q.int fh}
   .exact zkt f s O H _ _ v u Q I d c {i,j,rfl,rfl,{Q6 b.1,Q6 b.2},q.int fh}
  .cases e
 .split at e
  .cases e;rename_i b;let(p,xs,rfl,rfl,n,l):=Dy r1;rw[g.int_inv]at c;refine zor f s O H _ _ v u Q I d c {p,_,xs,rfl,rfl,fh _ _ n,(bB b.1).2,(bB b.1).1,?_,λa m=>q.list fh (Wy l _) m}
   rw[<- l.1,<- GU];exact b.2
  .cases e
 .split at e
  .cases e;rename_i b;rw[r1.str_inv]at d;rw[g.int_inv]at c;let(o,rfl):=d;let(t,rfl):=c;exact SB.mul (mulOk_of 16 1048576 b.2.2 (by lia) (by lia) (by decide)<|by decide) λw k=>{.str _,H,I.tok _,{_,rfl},q.str fh}
  .cases e
 .cases e
def zjg:Kv X (unaryOp .USub)<|MQ X.K E1:=by
 intro b s O H x v Q I a h;let(F,t,r,fh,r1,e,q):=h;unfold E1 at e;split at e
 .cases e;rw[r1.int_inv]at a;exact zmq b s O H _ v Q I a {_,rfl,q.int fh}
 .cases e
def fQ{A:Around}(a:A.units+64<cLine)(h:n<=60):A.units+n<cLine:=by lia
set_option tactic.hygienic true in
def Xl(b:X.A.units+64<cLine):Ag X (compareOp .Eq)<|Bg X.K Au:=by
 intro l s O H x y v u Q I g i h;let(F,m,n,r,fh,r1,f,e,q):=h;unfold Au at e;split at e
 .cases e;rename_i a;unfold HF E8 at a;rw[È,È,È,È,ê]at a;let(j,c):=Gk I fh (r1.any) a.1.1.1 g;let(k,d):=Gk I fh (f.any) a.1.2.1 i;exact SeqAt.compareEq_reads c d a.1.1.2 a.1.2.2 (fQ b a.2) {.bl _,H,I,rfl,q.bl fh}
 .cases e
set_option tactic.hygienic true in
def zp0(p:X.A.units+64<cLine):Ag X (compareOp .In)<|Bg X.K ES:=by
 intro i s O H x y v u Q I d f h;let(F,j,t,r,fh,r1,g,e,q):=h;unfold ES at e;split at e
 .rename_i o k l;split at e
  .cases e;rename_i a;unfold Ir E8 at a;rw[È,È,È,È,ê]at a;let(m,b):=Gk I fh (r1.any) a.1.1.1 d;let(n,c):=Gk I fh (g.any) (a.1.2.1) f;have hd:X.A.units+1+min (PyData.depthAll<|Bj l) j.data.depth<cLine:=by lia
   cases k with
   |lst=>exact ź c b a.1.2.2 a.1.1.2 hd {.bl _,H,I,rfl,q.bl fh}|rl=>exact ź c b a.1.2.2 a.1.1.2 hd {.bl _,H,I,rfl,q.bl fh}|tup=>exact SeqAt.in_tuple_reads c b a.1.2.2 a.1.1.2 hd {.bl _,H,I,rfl,q.bl fh}|rt=>exact SeqAt.in_tuple_reads c b a.1.2.2 a.1.1.2 hd {.bl _,H,I,rfl,q.bl fh}|pin ϊ=>exact ź c b a.1.2.2 a.1.1.2 hd {.bl _,H,I,rfl,q.bl fh}
  .cases e
 .unfold bS at e;split at e
  .cases e;rw[r1.str_inv]at d;rw[g.str_inv]at f;exact zf3 i s O H _ _ v u Q I d f {_,_,rfl,rfl,q.bl fh}
  .cases e
 .cases e
set_option tactic.hygienic true in
def zf4(n:X.A.units+64<cLine):Ag X (compareOp .NotIn)<|Bg X.K Ha:=by
 intro p s O H x y v u Q I f g h;let(F,i,t,r,fh,r1,d,e,q):=h;unfold Ha at e;split at e
 .rename_i o k l;split at e
  .cases e;rename_i a;unfold Ir E8 at a;rw[È,È,È,È,ê]at a;let(j,b):=Gk I fh (r1.any) a.1.1.1 f;let(m,c):=Gk I fh (d.any) (a.1.2.1) g;have hd:X.A.units+1+min (PyData.depthAll<|Bj l) i.data.depth<cLine:=by lia
   cases k with
   |lst=>exact Ű c b a.1.2.2 a.1.1.2 hd {.bl _,H,I,rfl,q.bl fh}|rl=>exact Ű c b a.1.2.2 a.1.1.2 hd {.bl _,H,I,rfl,q.bl fh}|tup=>exact SeqAt.notIn_tuple_reads c b a.1.2.2 a.1.1.2 hd {.bl _,H,I,rfl,q.bl fh}|rt=>exact SeqAt.notIn_tuple_reads c b a.1.2.2 a.1.1.2 hd {.bl _,H,I,rfl,q.bl fh}|pin ϊ=>exact Ű c b a.1.2.2 a.1.1.2 hd {.bl _,H,I,rfl,q.bl fh}
  .cases e
 .cases e
def isT(b:T)(a:Bool)(t c:T):kH:=↑(.bl (if a then !(decide (t.data.depth=0) && eqIs t b) else eqIs t b))
where eqIs:T->T->Bool
  |.non,.non=>true|.bl x,.bl y=>x == y|ϊ,ϋ=>false
end
set_option genInjectivity true in
inductive Rs where
 |v (t:T) (b:Bool)|x (c:Str)
abbrev AI:=AN->Option Rs
set_option genInjectivity true in
inductive RsL where
 |v (ts:List T) (b:Bool)|x (c:Str)
abbrev Ay:=AN->Option RsL
def tot(R:Nat->Rg):Rg:=λa=>∃i,R i a
def Dp(K:k6)(F H:Hp)(R:Nat->Rg)(v:T)(b:Bool)(x:V)(B:Rg):Prop:=match b with
 |true=>B=R0/\∃A,(∀a,A a->tot R a)/\Rp K F H v x A|false=>Rp K F H v x B
def Gz(b:Bool)(F H:Hp)(R:Nat->Rg):Hp:=match b with
 |true=>frz F H (tot R)|false=>F
section
variable {K:k6}{F H F1 H1:Hp}{O:L2.St}{Y:AN}{R:Nat->Rg}{B:Rg}{b c:Bool}{v:T}{x:V}
def StR.tot(S:StR K F H O Y R)(h:tot R a):F a=none/\∃u,H a=↑u:=by
 let(i,z):=h;exact S.dom z
def Mu(S:StR K F H O Y R):A5 F<|Gz b F H R:=by
 cases b with
 |true=>exact Ek λa z=>(S.tot z).1|false=>exact .refl _
def TY(S:StR K F H O Y R):A5 (Gz b F H R) H:=by
 cases b with
 |true=>exact Ho S.fh|false=>exact S.fh
def zlr(S:StR K F H O Y R)(e:Ext F H F1 H1 B)(h:b=true->c=true):A5 (Gz b F H R)<|Gz c F1 H1 R:=by
 have f:=S.ext e;cases b with
 |false=>exact e.ff.trans (Mu f)|true=>
  rw[h rfl];intro a u q;show frz F1 H1 (Pu.tot R) a=↑u
  by_cases z:Pu.tot R a
  .rw[ET z];have d:frz F H (Pu.tot R) a=↑u:=q;rw[ET z]at d;exact e.hh _ _ d
  .rw[Ej z];have d:frz F H (Pu.tot R) a=↑u:=q;rw[Ej z]at d;exact e.ff _ _ d
def Dp.frz(S:StR K F H O Y R)(e:Ext F H F1 H1 B)(g:Dp K F1 H1 R v b x B):∃F2,Ext F H F2 H1 R0/\A5 F1 F2/\Rp K (Gz b F2 H1 R) (Gz b F2 H1 R) v.share x R0:=by
 have d:=S.ext e;cases b with
 |true=>
  let(rfl,A,f,r):=g
  exact{F1,e,.refl _,r.share (Mu d) λa u z q=>by
   show Pu.frz F1 H1 (Pu.tot R) a=↑u;rw[ET<|f a z];exact q}
 |false=>
  have c :=g;have n:∀a,B a->F1 a=none:=λa z=>(c.dom z).1
  exact{_,e.frz n,Ek n,c.share (Ek n) λa u z q=>by
   show Pu.frz F1 H1 B a=↑u;rw[ET z];exact q}
theorem Ext.grow(e:Ext F H F1 H1 R0)(s:A5 H1 H2):Ext F H F1 H2 R0:={e.hh.trans s,e.ff,e.fh.trans s,λϊ z=>z.elim,e.nf}
end
def GK(c:Str):Option Nat:=match c.cps.toList with
 |[78,111,82,117,110,n]=>↑n|ϊ=>none
def Xi(c:Str):Str:=match GK c with
 |some ϊ=>"NoRun"|none=>c
def RK(c:Str):kK:=match GK c with
 |some n=>[.int n]|none=>[]
def Uy(F:Hp)(c:Str)(a:Option Addr):Prop:=∀v∈RK c,Kw F a v
def XE(E:XK)(ca:Str->Value)(c:Str)(F H:Hp):Prop:=∀a,Uy F c a->E (ca<|Xi c) a H
def XE.plain(h:XE E ca c F H)(a:GK c=none):E (ca c) none H:=by
 have:=h none (by unfold Uy RK;grind)
 unfold Xi at this
 grind
theorem XE.any(h:XE E ca c F H)(b:GK c=none):XE E ca c F' H:=λa ϊ=>h a (by unfold Uy RK;grind)
def pM(K:k6)(E:L2.St->XK)(ca:Str->Value)(O:L2.St)(Q:VK)(F H:Hp)(R:Nat->Rg):Option Rs->Prop
 |some (.v v b)=>∀d a x B,Ext F H d a B->Dp K d a R v b x B->Q x a|some (.x c)=>∀d a,Ext F H d a R0->XE (E O) ca c d a|none=>False
def tM(K:k6)(E:L2.St->XK)(ca:Str->Value)(m:AI):TE:=λO H Q=>∃F Y R,StR K F H O Y R/\pM K E ca O Q F H R (m Y)
def pMs(K:k6)(E:L2.St->XK)(ca:Str->Value)(O:L2.St)(Q:kK->Hp->Prop)(F H:Hp)(R:Nat->Rg):Option RsL->Prop
 |some (.v e b)=>∀d a xs,Ext F H d a R0->Ah K (Gz b d a R) e xs->Q xs a|some (.x c)=>∀d a,Ext F H d a R0->XE (E O) ca c d a|none=>False
def CU(K:k6)(E:L2.St->XK)(ca:Str->Value)(m:Ay):TA:=λO H Q=>∃F Y R,StR K F H O Y R/\pMs K E ca O Q F H R (m Y)
def pMB(K:k6)(E:L2.St->XK)(ca:Str->Value)(O:L2.St)(Q:Bool->Hp->Prop)(F H:Hp):Option Rs->Prop
 |some (.v (.bl c) ϊ)=>∀b a,Ext F H b a R0->Q c a|some (.v ϊ ϋ)=>False|some (.x c)=>∀b a,Ext F H b a R0->XE (E O) ca c b a|none=>False
def BM(K:k6)(E:L2.St->XK)(ca:Str->Value)(m:AI):TT:=λO H Q=>∃F Y R,StR K F H O Y R/\pMB K E ca O Q F H (m Y)
def AA(i:Nat):AI:=λY=>match Y[i]? with
 |some ↑t=>↑(.v t<|!t.sh)|ϊ=>none
def mC(t:T):AI:=λϊ=>↑(.v t false)
def AE:Ay:=λϊ=>↑(.v [] false)
def AB(m:AI)(ms:Ay):Ay:=λY=>match m Y with
 |some (.v t b)=>(match ms Y with
  |some (.v d a)=>↑(.v (t.share::d)<|b || a)|r=>r)
 |some (.x c)=>↑(.x c)|none=>none
def Az(b:Bool)(v:T):Option Rs:=if b && !v.flat then none else ↑(.v v false)
def BV(g:kL->kH)(ms:Ay):AI:=λY=>match ms Y with
 |some (.v a b)=>(match g a with
  |some v=>Az b v|none=>none)
 |some (.x c)=>↑(.x c)|none=>none
def g2(g:T->T->kH):kL->kH
 |[t,u]=>g t u|ϊ=>none
def g1(g:T->kH):kL->kH
 |[t]=>g t|ϊ=>none
abbrev m1(g:T->kH)(a:AI):AI:=BV (g1 g)<|AB a AE
abbrev m2(g:T->T->kH)(a b:AI):AI:=BV (g2 g)<|AB a<|AB b AE
def EN(c:AI)(a b:AI):AI:=λY=>match c Y with
 |some (.v (.bl true) ϊ)=>a Y|some (.v (.bl false) ϊ)=>b Y|some (.x c)=>↑(.x c)|ϊ=>none
def As(c:AI):AI:=λY=>match c Y with
 |some (.v (.bl b) ϊ)=>↑(.v (.bl<|!b) false)|some (.x c)=>↑(.x c)|ϊ=>none
def Bx(a b:AI):AI:=EN a b<|mC<|.bl false
def BE(a b:AI):AI:=EN a (mC<|.bl true) b
section
variable {X:Cx}{E:L2.St->XK}{ca:Str->Value}{O:L2.St}{H:Hp}{m ma mb mc:AI}{ms:Ay}{K:k6}{a b c e:Expr}{es:kC}{pos:Pos}
theorem PE.weak(h:PE X e t)(w:∀O H Q,t' O H Q->t O H Q):PE X e t':=λa s O H Q I q=>h a s O H Q I<|w O H Q q
theorem PT.weak(h:PT X e t)(w:∀O H Q,t' O H Q->t O H Q):PT X e t':=λa s O H Q I q=>h a s O H Q I<|w O H Q q
theorem PA.weak(h:PA X es t)(w:∀O H Q,t' O H Q->t O H Q):PA X es t':=λa b s O H Q I q=>h a b s O H Q I<|w O H Q q
def tM.mono(h:tM K E ca m O H Q)(w:∀x H',Q x H'->Q' x H'):tM K E ca m O H Q':=by
 let(F,Y,R,S,q):=h;refine{F,Y,R,S,?_};cases a:m Y with
 |none=>rw[a]at q;exact q|some r=>
  rw[a]at q;cases r with
  |v v b=>exact λd H' x B e g=>w _ _ (q d H' x B e g)|x c=>exact q
def HS(h:CU K E ca AE O H Q):Q [] H:=by
 let(F,Y,R,S,q):=h;exact q F H [] (Ext.refl S.fh) .nil
def HU(h:CU K E ca (AB m ms) O H Q):tM K E ca m O H λx H1=>CU K E ca ms O H1 λxs H2=>Q (x::xs) H2:=by
 let(F,Y,R,S,q):=h;refine{F,Y,R,S,?_};unfold AB at q;cases l:m Y with
 |none=>rw[l]at q;exact q|some r=>
  rw[l]at q;cases r with
  |x c=>exact q|v t b=>
   intro u w x B e g;let(o,k,_,s):=Dp.frz S e g;have j:=S.ext k;refine{o,Y,R,j,?_};cases n:ms Y with
   |none=>rw[n]at q;symm|some r=>
    erw[n]at q;cases r with
    |x c=>exact λi f d=>q i f (k.trans0 d)|v y p=>
     intro i f xs d rs;refine q i f (x::xs) (k.trans0 d) ?_;refine .cons (H:=f) ((s.frame (zlr j d<|by grind) λa z=>z.elim)) ?_
     cases p with
     |true=>grind|false=>
      cases b with
      |false=>exact rs|true=>exact rs.same<|Mu<|j.ext d
def HV(h:tM K E ca (BV g ms) O H Q):CU K E ca ms O H λxs H1=>DR K g xs H1 Q:=by
 let(F,Y,R,S,q):=h;refine{F,Y,R,S,?_};unfold BV at q;cases k:ms Y with
 |none=>rw[k]at q;symm|some r=>
  erw[k]at q;cases r with
  |x c=>exact q|v m b=>
   intro f H1 xs a rs;have o:=S.ext a;cases e:g m with
   |none=>erw[e]at q;symm|some v=>
    erw[e]at q;refine{Gz b f H1 R,m,v,TY o,rs,e,λn i z C j l=>?_}
    unfold Az at q;cases b with
    |false=>exact q n i z C (a.trans0 j) l|true=>
     cases d:v.flat with
     |false=>rw[d]at q;exact False.elim q|true=>rw[d]at q;exact q f i z R0 (a.grow j.hh)<|l.flat_any d
def rTn2(h:DR K (g2 g) [x,y] H Q):Bg K g x y H Q:=by
 let(F,k,v,fh,rs,e,q):=h;unfold g2 at e;split at e
 .let(l,i,b,r1,a):=rs.inv;let(x2,j,c,d,f):=a.inv;cases b;cases c;exact{F,_,_,v,fh,r1,d,e,q}
 .cases e
def rTn1(h:DR K (g1 g) [x] H Q):MQ K g x H Q:=by
 let(F,d,v,fh,rs,e,q):=h;unfold g1 at e;split at e
 .let(f,c,a,r1,b):=rs.inv;cases a;exact{F,_,v,fh,r1,e,q}
 .cases e
theorem Og(h:tM K E ca (BV (g2 g)<|AB ma<|AB mb AE) O H Q):IG (Bg K g) (tM K E ca ma) (tM K E ca mb) O H Q:=
 (HU<|HV h).mono λx c a=>(HU a).mono λy d b=>rTn2<|HS b
theorem zmy(h:tM K E ca (BV (g1 g)<|AB ma AE) O H Q):Vv (MQ K g) (tM K E ca ma) O H Q:=
 (HU<|HV h).mono λx b a=>rTn1<|HS a
set_option tactic.hygienic true in
def zmo(h:tM K E ca (AA i) O H Q):Vu i O H Q:=by
 let(F,Y,R,S,q):=h;unfold AA at q;split at q
 .rename_i t c;let(x,e,r):=S.rep i t c;refine{x,e,q F H x R0 (Ext.refl S.fh) ?_};cases b:t.sh with
  |true=>exact r.move b (.refl _)|false=>exact{rfl,R i,λa z=>{(i),z},r}
 .exact False.elim q
theorem r_var(b:X.N[i]?=↑x)(c:Em X.env.scope x)(hd:(x == "__debug__")=false)(a:(x == "__classdict__")=false):PE X (.Name x pos)<|tM X.K E ca<|AA i:=PE.weak (Gp b c hd a) λϊ ϊ ϊ h=>zmo h
theorem MO(h:PE X e<|tC v)(r:∀F H,Rp X.K F H t v R0):PE X e<|tM X.K E ca<|mC t:=PE.weak h λO H Q h=>by
 let(F,Y,R,S,q):=h;exact q F H v R0 (Ext.refl S.fh)<|r _ _
theorem XX:PA X []<|CU X.K E ca AE:=PA.weak FZ λO H Q h=>HS h
theorem X0(a:PE X e<|tM X.K E ca m)(b:PA X es<|CU X.K E ca ms)(c:starEach (e::es) X.env=(false,eval e X.env)::starEach es X.env):PA X (e::es)<|CU X.K E ca<|AB m ms:=
 PA.weak (EL a b c) λO H Q h=>HU h
theorem r_bin(e:Ag X (binaryOp op)<|Bg X.K g)(c:PE X a<|tM X.K E ca ma)(d:PE X b<|tM X.K E ca mb):PE X (.BinOp a op b pos)<|tM X.K E ca<|BV (g2 g)<|AB ma<|AB mb AE:=
 PE.weak (pe_op e c d) λO H Q h=>Og h
theorem r_un(c:Kv X (unaryOp op)<|MQ X.K g)(b:PE X a<|tM X.K E ca ma):PE X (.UnaryOp op a pos)<|tM X.K E ca<|BV (g1 g)<|AB ma AE:=
 PE.weak (pe_un c b) λO H Q h=>zmy h
theorem r_cmp(f:Ag X (compareOp op)<|Bg X.K g)(c:PE X a<|tM X.K E ca ma)(d:PE X b<|tM X.K E ca mb)(e:behindInMarks op b=false):PE X (.Compare a [op] [b] pos)<|tM X.K E ca<|BV (g2 g)<|AB ma<|AB mb AE:=
 PE.weak (zko f c d e) λO H Q h=>Og h
def Ll(h:BM K E ca m O H Q):tM K E ca m O H λx H1=>∃k,x=.bl k/\Q k H1:=by
 let(F,Y,R,S,q):=h;refine{F,Y,R,S,?_};cases a:m Y with
 |none=>rw[a]at q;exact q|some r=>
  rw[a]at q;cases r with
  |x c=>exact q|v v b=>
   cases v with
   |bl k=>
    intro d f x B e g
    have i:x=.bl k:=by
     cases b with
     |true=>let(_,A,_,r):=g;exact r.bl_inv
     |false=>exact(g).bl_inv
    exact{k,i,q d f<|e.mono λϊ z=>z.elim}
   |_=>symm
theorem znu(f:Ag X (compareOp op)<|Bg X.K g)(c:PE X a<|tM X.K E ca ma)(d:PE X b<|tM X.K E ca mb)(e:behindInMarks op b=false):PT X (.Compare a [op] [b] pos)<|BM X.K E ca<|BV (g2 g)<|AB ma<|AB mb AE:=
 PT.weak (zkd f c d e) λO H Q h=>Og<|Ll h
theorem XU(h:PE X e<|tM X.K E ca m)(a:∀whole,isTrue e X.env whole=(do let v <- whole;standAt e.pos;holding [v] (truthy v))):PT X e<|BM X.K E ca m:=PT.weak (RC h a) λO H Q h=>Ll h
def WL(h:BM K E ca (EN mc ma mb) O H Q):BM K E ca mc O H λk H1=>if k=true then BM K E ca ma O H1 Q else BM K E ca mb O H1 Q:=by
 let(F,Y,R,S,q):=h;refine{F,Y,R,S,?_};unfold EN at q;cases j:mc Y with
 |none=>rw[j]at q;symm|some r=>
  erw[j]at q;cases r with
  |x c=>exact q|v v b=>
   cases v with
   |bl k=>
    intro l H1 i;have m:=S.ext i
    have f:∀{g },(match g Y with
      |some (.v (.bl c) ϊ)=>∀d a,Ext F H d a R0->Q c a|some (.v ϊ ϋ)=>False|some (.x c)=>∀d a,Ext F H d a R0->XE (E O) ca c d a|none=>False)->BM K E ca g O H1 Q:=λ{g} q=>by
     refine{l,Y,R,m,?_};cases n:g Y with
     |none=>grind|some r=>
      erw[n]at q;cases r with
      |x c=>exact λd a e=>q d a (i.trans0 e)|v v b=>
       cases v with
       |bl k=>exact λd a e=>q d a (i.trans0 e)|_=>symm
    cases k with
    |true=>exact KY (f q)|false=>exact KZ<|f q
   |_=>symm
def WH(h:tM K E ca (EN mc ma mb) O H Q):BM K E ca mc O H λk H1=>if k=true then tM K E ca ma O H1 Q else tM K E ca mb O H1 Q:=by
 let(F,Y,R,S,q):=h;refine{F,Y,R,S,?_};unfold EN at q;cases l:mc Y with
 |none=>rw[l]at q;symm|some r=>
  erw[l]at q;cases r with
  |x c=>exact q|v v b=>
   cases v with
   |bl k=>
    intro m H1 j;have n:=S.ext j
    have f:∀{i },(match i Y with
      |some (.v v b)=>∀d a x B,Ext F H d a B->Dp K d a R v b x B->Q x a|some (.x c)=>∀d a,Ext F H d a R0->XE (E O) ca c d a|none=>False)->tM K E ca i O H1 Q:=λ{i} q=>by
     refine{m,Y,R,n,?_};cases o:i Y with
     |none=>grind|some r=>
      erw[o]at q;cases r with
      |x c=>exact λd a e=>q d a (j.trans0 e)|v v b=>exact λd a x B e g=>q d a x B (j.trans0 e) g
    cases k with
    |true=>exact KY (f q)|false=>exact KZ<|f q
   |_=>symm
theorem r_ife(f:PT X c<|BM X.K E ca mc)(d:PE X a<|tM X.K E ca ma)(e:PE X b<|tM X.K E ca mb):PE X (.IfExp c a b pos)<|tM X.K E ca<|EN mc ma mb:=PE.weak (zhj f d e) λO H Q h=>WH h
def zjj(h:BM K E ca (As mc) O H Q):WA (BM K E ca mc) O H Q:=by
 let(F,Y,R,S,q):=h;refine{F,Y,R,S,?_};unfold As at q;cases a:mc Y with
 |none=>rw[a]at q;symm|some r=>
  erw[a]at q;cases r with
  |x c=>exact q|v v b=>
   cases v with
   |bl k=>exact q|_=>symm
theorem znt(a:PT X c<|BM X.K E ca mc):PT X (.UnaryOp .Not c pos)<|BM X.K E ca<|As mc:=PT.weak (X8 a) λO H Q h=>zjj h
def zmz(h:tM K E ca (As mc) O H Q):Vz (tM K E ca mc) O H Q:=by
 let(F,Y,R,S,q):=h;refine{F,Y,R,S,?_};unfold As at q;cases a:mc Y with
 |none=>rw[a]at q;symm|some r=>
  erw[a]at q;cases r with
  |x c=>exact q|v v b=>
   cases v with
   |bl k=>
    intro d f x B e g
    have i:x=.bl k:=by
     cases b with
     |true=>let(_,A,_,r):=g;exact r.bl_inv
     |false=>exact(g).bl_inv
    exact{k,i,q d f _ R0 (e.mono λϊ z=>z.elim)<|.bl _}
   |_=>symm
theorem r_not(b:PE X a<|tM X.K E ca ma):PE X (.UnaryOp .Not a pos)<|tM X.K E ca<|As ma:=PE.weak (zoj b) λO H Q h=>zmz h
theorem WG(h:tM K E ca (EN mc ma mb) O H Q):tM K E ca mc O H λx H1=>∃k,x=.bl k/\if k=true then tM K E ca ma O H1 Q else tM K E ca mb O H1 Q:=Ll<|WH h
def WJ(r:∀F H,Rp K F H t v R0)(h:tM K E ca (mC t) O H Q):Q v H:=by
 let(F,Y,R,S,q):=h;exact q F H v R0 (Ext.refl S.fh)<|r _ _
theorem r_and{rest}(c:PE X a<|tM X.K E ca ma)(d:PE X (.BoolOp .And (b::rest) pos)<|tM X.K E ca mb):PE X (.BoolOp .And (a::b::rest) pos)<|tM X.K E ca<|Bx ma mb:=
 PE.weak (zoo c d) λO H Q h=>(WG h).mono λx f ⟨k,e,q⟩=>{k,e,by
  cases k with
  |true=>exact q|false=>exact WJ (λϊ ϊ=>.bl _) q}
theorem r_or{rest}(c:PE X a<|tM X.K E ca ma)(d:PE X (.BoolOp .Or (b::rest) pos)<|tM X.K E ca mb):PE X (.BoolOp .Or (a::b::rest) pos)<|tM X.K E ca<|BE ma mb:=
 PE.weak (pe_or c d) λO H Q h=>(WG h).mono λx f ⟨k,e,q⟩=>{k,e,by
  cases k with
  |true=>exact WJ (λϊ ϊ=>.bl _) q|false=>exact q}
theorem r_one(b:PE X a<|tM X.K E ca ma):PE X (.BoolOp op [a] pos)<|tM X.K E ca ma:=zoi b
def BM.mono(h:BM K E ca m O H Q)(w:∀x H',Q x H'->Q' x H'):BM K E ca m O H Q':=by
 let(F,Y,R,S,q):=h;refine{F,Y,R,S,?_};cases a:m Y with
 |none=>rw[a]at q;exact q|some r=>
  rw[a]at q;cases r with
  |v v b=>
   cases v with
   |bl k=>exact λd H' e=>w _ _ (q d H' e)|_=>symm
  |x c=>exact q
def Oh(h:BM K E ca (mC<|.bl k) O H Q):Q k H:=by
 let(F,Y,R,S,q):=h;exact q F H<|Ext.refl S.fh
theorem PW.weak(h:PW X e t)(w:∀O H Q,t' O H Q->t O H Q):PW X e t':=λb a s O H Q I q=>h b a s O H Q I<|w O H Q q
theorem zns{rest}(c:PT X a<|BM X.K E ca ma)(d:PW X (.BoolOp .And (b::rest) pos)<|BM X.K E ca mb):PW X (.BoolOp .And (a::b::rest) pos)<|BM X.K E ca<|Bx ma mb:=
 PW.weak (zo6 c d) λO H Q h=>(WL h).mono λk e q=>by
  cases k with
  |true=>exact q|false=>exact Oh q
theorem r_wor{rest}(c:PT X a<|BM X.K E ca ma)(d:PW X (.BoolOp .Or (b::rest) pos)<|BM X.K E ca mb):PW X (.BoolOp .Or (a::b::rest) pos)<|BM X.K E ca<|BE ma mb:=
 PW.weak (pw_or c d) λO H Q h=>(WL h).mono λk e q=>by
  cases k with
  |true=>exact Oh q|false=>exact q
theorem zk4(b:PT X a<|BM X.K E ca ma):PW X (.BoolOp .And [a] pos)<|BM X.K E ca ma:=zka b
theorem zk3(b:PT X a<|BM X.K E ca ma):PW X (.BoolOp .Or [a] pos)<|BM X.K E ca ma:=zo5 b
end
section
variable {X:Cx}{pq:List<|Addr×Obj}{O:L2.St}{H:Hp}{s:Shared}{h':Heap}
def Gb{ch:List Addr}(I:Inv X pq O H s)(k:∀b o,b∉ch->s.heap.get? b=↑o->h'.get? b=↑o)(f:∀b∈ch,C8 X pq H b):Inv X pq O H { s with heap:=h',toks:=t'}:=by
 have d:∀b u,H b=↑u->b∉ch:=λb u e z=>by rw[(f b z).1]at e;cases e
 refine I.step (g':=s.gens) (d':=s.drawn) (ch:=ch) (λb t=>?_) (λb o ϊ ϊ a e ϊ=>k b o a e) (λb o ϊ ϊ a e ϊ=>{o.slots,k b o a e}) (λϊ ϊ ϊ ϊ n=>n)
  (λb o a e=>{o,k b o a e}) (λϊ ϊ e=>e) (λϊ ϊ ϊ e=>e) (λb ps e=>{#[],by rw[e];simp}) (λm w=>?_) (λb u e=>?_) I.bare
 .let(_,i,y,j,l,p):=f b t;exact{(j),i,l,p}
 .let(o,h,g,x,r):=w;exact{o,h,g,k _ o (λz=>(f _ z).2.1 rfl) x,r}
 .refine(I.hok b u e).stay (λc v a q=>k c v ?_ q) (λϊ q=>q) λϊ ϊ q=>q
  rcases a with z|z
  .rw[z];exact d b u e
  .exact d c _ z
def Oa{ch:List Addr}{p:Addr}(I:Inv X pq O H s)(k:∀b o,b∉ch->s.heap.get? b=↑o->h'.get? b=↑o)(f:∀b∈ch,C8 X pq H b)(i:s.heap.objs.size<=p)(new:DG X.prog X.w (upd H p o) h' p o) :
  Inv X pq O (upd H p o) { s with heap:=h',toks:=t' }:=by
 have d :=I.hok.fresh i;have C:∀b u,H b=↑u->b∉ch:=λb u e z=>by rw[(f b z).1]at e;cases e
 have h:∀b ob,s.heap.get? b=↑ob->b≠p:=λb ob e z=>by
  subst z;exact absurd (Ä e)<|Nat.not_lt.mpr i
 refine I.step (λb g=>?_) (λb o ϊ ϊ a e ϊ=>k b o a e) (λb o ϊ ϊ a e ϊ=>{o.slots,k b o a e}) (λb ob a e n=>by rw[Ap<|h b ob e];exact n)
  (λb o a e=>{o,k b o a e}) (λb xs e=>by rw[Ap<|DA e d];exact e) (λb o u e=>by rw[Ap<|DA e d];exact e) (λb ps e=>{#[],by rw[Ap<|DA e d,e];simp}) (λm A=>?_) (λb u e=>?_) I.bare
 .let(_,t,D,w,x,y):=f b g;exact{(w),t,x,y}
 .let(o,l,j,B,r):=A;exact{o,l,j,k _ o (λz=>(f _ z).2.1 rfl) B,r}
 .by_cases g:b=p
  .subst g;rw[CP]at e;cases e;exact new
  .rw[Ap g]at e;refine(I.hok b u e).stay (λc v a q=>k c v ?_ q) (λc q=>by rw[Ap<|DA q d];exact q) λc xs q=>by rw[Ap<|DA q d];exact q
   grind
theorem K7(f:C8 X pq H b)(h:b≠p):C8 X pq (upd H p o) b:={by rw[Ap h];exact f.1,f.2}
end
def Nz(K:k6)(k:Nat)(l:Addr):It:=
 {λi H=>∃xs x,A3 K H l xs/\xs[i]?=↑x,λi H x a=>∃p y,x=.ref p/\H p=none/\a=upd H p (.tup [.int ((k+i:Nat):Int),y])/\∀xs,A3 K H l xs->xs[i]?=↑y,λi H=>∃xs,A3 K H l xs/\xs.length<=i}
theorem drw{w:World}    {n:Nat}  {St }(D:Draws P w A it fp n Q St)(k:Nat):Draws P w A it fp (k+n) (λj x=>∃i,j=k+i/\Q i x) (λj h=>∃i,j=k+i/\St i h) where
 live:=λ_ h ⟨i,_,st⟩=>D.live i h st
 frame:=λ_ h a ⟨i,e,st⟩ c=>{i,e,D.frame i h a st c}
 item:=λj s R E d ⟨i,e,st⟩ hQ=>D.item i s R E (by lia) st λx a tk q b sb=>hQ x a tk {(i),e,q} {i+1,by lia,b} sb
 done:=λs R E ⟨i,e,st⟩ hE=>D.done s R E (by grind) hE
def zm4(f:IsEnum h e it i old)(a:h.IsListIter it l j)(b:h.IsList l its):l≠it/\l≠e:=by
 let(o,c,c1,_):=b;let(o2,d,c2,_):=a
 grind
theorem drw0(hh:A.handled=none)(d:its[i]?=none):Draws P w A it [it,l] i (λϊ ϊ=>True) (λj h=>j=i/\h.IsListIter it l i/\h.IsList l its) where
 live:=λ_ _ ⟨_,⟨o,ho,_⟩,_⟩=>{(o),ho}
 frame:=λ_ _ _ ⟨e,a,b⟩ c=>{e,a.at λo q=>c it (by simp) o q,b.at λo q=>c l (by simp) o q}
 item:=λj _ _ _ f ⟨e,_⟩=>absurd f<|by lia
 done:=λ_ _ _ ⟨_,a,b⟩ hE=>Υ hh a b d hE
def Vh{K}(k:Nat)(l e it:Addr)(j:e≠it) :
  Turn P w K (.Tuple elts kk tpos) (Nz K k l) [e,it] e (λi h=>(∃old,IsEnum h e it (k+i:Nat) old)/\h.IsListIter it l i) where
 mem:=by simp
 obj:=λi h st b a=>by
  let((old,f),o,N,y,hd):=st;obtain rfl|a:=Ì.mp a
  .exact{_,f,λv z=>by
    have z' :=z;cases z'}
  .have q :=by simpa using a
   subst q;exact{o,N,λv z=>by rw[hd]at z;cases z}
 keep:=λi h F st k=>by
  let((old,f),N):=st;exact{{old,k e (by simp) _ f},N.at λo q=>k it (by simp) o q}
 item:=by
  intro X J Q G y i T s O H E I B st M;subst J Q G;let((old,f),c):=st;let(xs,x,C,R):=M;let(r,U,p,hz):=I.list C;let(u,Y,ru):=U.get R;have D :=Ä f;have S:it<s.heap.objs.size:=by let(o,q,_):=c;exact Ä q
  have hn :=I.hok.fresh<|Æ _;let(n1,n2):=zm4 f c p.isList;have hlt:i<r.toArray.size:=by simpa using (Ñ.mp Y).1
  refine wpAny_pyNext_enum_itemD (drw (Draws.list (A:=X.A.in1) (I.ok.hd y) it l n1 _) k) f {(i),rfl,c,p.isList} (by lia) j (by simp[j,Î n2]) λx' F tk g ho d hT hsz hk=>?_
  let(n,V,g):=g;have V:n=i:=by lia
  subst V
  have t :=by
   rw[List.getElem?_toArray,Y]at g;exact(Ý g).symm
  subst t;let(i2,t,d,_):=d;have t:i2=n+1:=by lia
  subst t
  have Z:Inv X T O (upd H s.heap.objs.size<|.tup [.int<|k+n,x]) { s with heap:=F,toks:=tk+1 }:=by
   refine Oa I (λb o a q=>hk b o (λz=>a<|by simp[z]) (λz=>a<|by simp[z]) q) B (Æ _) ?_
   exact{by erw[Ö,Ď];rw[ė];decide,[.int (k+n) tk,x'],.cons {_,rfl}<|.cons ru .nil,_,hT,rfl,0,rfl}
  have W:∀b∈[e,it],C8 X T (upd H s.heap.objs.size<|.tup [.int (k+n:Nat),x]) b:=λb a=>K7 (B b a) (by
   obtain rfl|a:=Ì.mp a
   .exact Õ D
   .have q :=by simpa using a
    subst q;exact Õ S)
  refine{.ref s.heap.objs.size,rfl,wpAny_letOwnedTupleGo_enum ho λh2 L m=>?_}
  refine{.ref s.heap.objs.size,_,Gb (ch:=[e]) Z (λb o a q=>m.extBut b o (λz=>a<|by simp[z]) q)<|λb a=>W b (by simp at a;simp[a]),rfl,{_,x,rfl,hn,rfl,λys hy=>by rw[I.list_inj hy C];exact R},{{_,by simpa[Int.add_assoc] using L},d.extBut m.extBut j.symm},λb a=>(W b a).1}
 done:=by
  intro X J Q G y i T s O H E I B st M;subst J Q G;let((old,f),c):=st;let(xs,C,R):=M;let(r,U,p,hz):=I.list C;have hl:=U.length;exact wpAny_pyNext_enum_endD (drw0 (I.ok.hd y) (by simp;lia)) f {(rfl),c,p.isList} λF eb=>{rfl,Gb (ch:=[it]) I (λb o a q=>eb b o (λz=>a<|by simp[z]) q)<|λb a=>B b (by simp at a;simp[a])}
 self:=λϊ ϊ ϊ ϊ ϊ st h=>Φ st.1.choose_spec h
def VB(K:k6)(l1 l2:Addr):It:=
  {λi H=>∃xs x a y,A3 K H l1 xs/\xs[i]?=↑x/\A3 K H l2 a/\a[i]?=↑y,
   λi H x b=>∃p y z,x=.ref p/\H p=none/\b=upd H p (.tup [y,z])/\(∀xs,A3 K H l1 xs->xs[i]?=↑y)/\∀xs,A3 K H l2 xs->xs[i]?=↑z,
   λi H=>∃xs a,A3 K H l1 xs/\A3 K H l2 a/\(xs.length<=i\/a.length<=i)}
def zgu{K}(z TI TO i1 i2 l1 l2)(D:ZipApart z TI TO i1 i2 l1 l2) :
  Turn P w K (.Tuple elts kk tpos) (VB K l1 l2) [z,TI,TO,i1,i2] z (λi h=>IsZip h z TI TO .none/\IsPair h TI (.ref i1) (.ref i2)/\(∃a b,IsPair h TO a b)/\h.IsListIter i1 l1 i/\h.IsListIter i2 l2 i) where
 mem:=by simp
 obj:=λi h st b d=>by
  let(l,e,(a,c,f),(o1,e1,_,d1),(o2,e2,_,d2)):=st;erw[Ì,ð,þ]at d;rcases d with rfl|rfl|rfl|rfl|rfl
  .exact{_,l,λv z=>by
    have F :=z;cases F}
  .exact{_,e,λv z=>by
    have F :=z;cases F}
  .exact{_,f,λv z=>by
    have F :=z;cases F}
  .exact{o1,e1,λv z=>by rw[d1]at z;cases z}
  .exact{o2,e2,λv z=>by rw[d2]at z;cases z}
 keep:=λi h L st k=>by
  let(l,e,(a,c,f),r,t):=st;exact{k z (by simp) _ l,k TI (by simp) _ e,{a,c,k TO (by simp) _ f},r.at λo q=>k i1 (by simp) o q,t.at λo q=>k i2 (by simp) o q}
 item:=by
  intro X N S M hc i Y s O H E I G st Q;subst N S M;let(l,e,(a,c,f),r,t):=st;let(xs,x,ys,y,J,A,j,hy):=Q;let(V,rv,p,U):=I.list J;let(C,n,W,B):=I.list j;let(u,hu,ru):=rv.get A;let(u2,R,Z):=n.get hy;have hn :=I.hok.fresh<|Æ _
  have lt:∀b∈[z,TI,TO,i1,i2],b≠s.heap.objs.size:=λb d=>by
   erw[Ì,ð,þ]at d;rcases d with rfl|rfl|rfl|rfl|rfl
   .exact Õ<|Ä l
   .exact Õ<|Ä e
   .exact Õ<|Ä f
   .let(o,q,_):=r;exact Õ<|Ä q
   .let(o,q,_):=t;exact Õ<|Ä q
  refine wpAny_pyNext_zip_item D l e f r t p.isList W.isList (by simpa using hu) (by simpa using R) λL a1 a2 a3 a4 a5 a6 hk=>?_
  have I1:Inv X Y O (upd H s.heap.objs.size<|.tup [x,y]) { s with heap:=L,toks:=s.toks }:=by
   refine Oa I (λb o d q=>hk b o (λz=>d<|by simp[z]) (λz=>d<|by simp[z]) (λz=>d<|by simp[z]) (λz=>d<|by simp[z]) q) G (Æ _) ?_
   exact{by erw[Ö,Ď];rw[ė];decide,[u,u2],.cons ru<|.cons Z .nil,_,a5,rfl,0,rfl}
  have f1:∀b∈[z,TI,TO,i1,i2],C8 X Y (upd H s.heap.objs.size<|.tup [x,y]) b:=λb d=>K7 (G b d)<|lt b d
  refine{.ref s.heap.objs.size,rfl,wpAny_letOwnedTupleGo_zip a1 λh3 T g=>?_}
  refine{.ref s.heap.objs.size,_,Gb (ch:=[z]) I1 (λb o d q=>g.extBut b o (λz=>d<|by simp[z]) q)<|λb d=>f1 b (by simp at d;simp[d]),rfl,{_,x,y,rfl,hn,rfl,(λzs m=>by rw[I.list_inj m J];exact A),λzs m=>by rw[I.list_inj m j];exact hy},?_,λb d=>(f1 b d).1}
  exact{T,g.extBut _ _ D.TIz<|hk _ _ D.TIz D.TITO D.TIi1 D.TIi2 e,{_,_,g.extBut _ _ D.TOz a2},a3.extBut g.extBut D.i1z,a4.extBut g.extBut D.i2z}
 done:=by
  intro X N S M hc i Y s O H E I G st Q;subst N S M;let(l,e,(a,c,f),r,t):=st;let(xs,ys,J,j,A):=Q;let(V,rv,p,U):=I.list J;let(C,n,W,B):=I.list j;have hl:=rv.length;have hl2:=n.length;refine wpAny_pyNext_zip_end (I.ok.hd hc) D l e f r t p.isList W.isList ?_ λL hk=>{rfl,Gb I (λb o d q=>hk b o (λz=>d<|by simp[z]) (λz=>d<|by simp[z]) (λz=>d<|by simp[z]) (λz=>d<|by simp[z]) q) G}
  rcases A with A|A
  .exact .inl (by simp;lia)
  .exact .inr (by simp;lia)
 self:=λϊ ϊ ϊ ϊ ϊ st h=>Χ st.1 h
section
variable {X:Cx}{elts:kC}{kk:Nat}{tpos:Pos}
def iEnum(K:k6)(c:TA):TI:=λO H R=>c O H λd b=>∃a,d=[.ref a]/\(∃xs,A3 K b a xs)/\R (Nz K 0 a) b
def zkk(o:Gl X "enumerate")(r:X.mg "enumerate"=none)(n:PA X [a] ta)(v:starEach [a] X.env=[(false,eval a X.env)]):PI X (.Tuple elts kk tpos) (.Call (.Name "enumerate" p) [a] [] pos)<|iEnum X.K ta:=by
 intro j s O H R I h;refine Call_<|Fu I o r boot_enumerate<|ę (AX (n pos j s O H _ I h) λF s1 B=>?_) v rfl
 let(G,g,d,r1,z):=B;let(l,e,(xs,t),q):=z;subst e;let(u,rfl,A):=Er r1;cases A;let(x,E,y,D):=d.list t;refine call_enumerate_list y.isList λm i f w hk=>?_
 have k:Inv X j O g { s1 with heap:=m,toks:=s1.toks }:=d.kept hk
 refine Φ i {s1.heap.objs.size+1,[s1.heap.objs.size+1,s1.heap.objs.size],_,_,g,rfl,k,Vh 0 l _ _ (by simp),{{_,by simpa using i},f},λb C=>?_,q}
 have c:s1.heap.objs.size<=b:=by
  grind
 exact d.fpOk c<|d.hok.fresh c
def iZip(K:k6)(d:TA):TI:=λO H R=>d O H λe c=>∃a b,e=[.ref a,.ref b]/\(∃xs,A3 K c a xs)/\(∃xs,A3 K c b xs)/\R (VB K a b) c
def zob(M:Gl X "zip")(N:X.mg "zip"=none)(L:PA X [a,b] ta)(Q:starEach [a,b] X.env=[(false,eval a X.env),(false,eval b X.env)])(f:starEach [b] X.env=[(false,eval b X.env)]):PI X (.Tuple elts kk tpos) (.Call (.Name "zip" p) [a,b] [] pos)<|iZip X.K ta:=by
 intro B s O H R I h;refine Call_<|Fu I M N boot_zip<|ę (AX (L pos B s O H _ I h) λus s1 Y=>?_) (by rw[Q,f]) (by rw[f];rfl)
 let(vs,v,c,r1,U):=Y;let(l1,l2,e,(xs,P),(ys,m),q):=U;subst e;let(u,u2,rfl,V,t):=Ga r1;cases V;cases t;let(T,rv,A,hz):=c.list P;let(y,W,i,S):=c.list m;have r:l1<s1.heap.objs.size:=by let(o,n,e,_):=A;exact Ä e
 have g:l2<s1.heap.objs.size:=by let(o,n,e,_):=i;exact Ä e
 refine call_zip_2 A.isList i.isList λK w E F G J Z hk=>?_
 have C:Inv X B O v { s1 with heap:=K,toks:=s1.toks }:=c.kept hk
 have D:ZipApart (s1.heap.objs.size+4) (s1.heap.objs.size+2) (s1.heap.objs.size+3) s1.heap.objs.size (s1.heap.objs.size+1) l1 l2:=by
  have j:∀k:Nat,l1≠s1.heap.objs.size+k:=λk z=>Þ _<|Û r<|z▸đ _ _
  have l:∀k:Nat,l2≠s1.heap.objs.size+k:=λk z=>Þ _<|Û g<|z▸đ _ _
  refine{?_,?_,?_,?_,?_,?_,?_,?_,?_,?_,j 4,j 3,j 0,j 1,l 4,l 3,l 0,l 1}<;>intro z<;>simp at z
 refine Χ w {_,[s1.heap.objs.size+4,s1.heap.objs.size+2,s1.heap.objs.size+3,s1.heap.objs.size,s1.heap.objs.size+1],_,_,v,rfl,C,zgu _ _ _ _ _ l1 l2 D,{w,E,{_,_,F},G,J},λb x=>?_,q}
 have d:s1.heap.objs.size<=b:=by
  erw[Ì,ð,þ]at x;rcases x with rfl|rfl|rfl|rfl|rfl
  .exact đ _ _
  .exact đ _ _
  .exact đ _ _
  .exact Æ _
  .exact đ _ _
 exact c.fpOk d<|c.hok.fresh d
variable {pq:List<|Addr×Obj}{O:L2.St}{H:Hp}{s:Shared}{a:Addr}{o:Obj}{kvs:List<|Key×V}
def zpn(r:KV kvs vs):kvs.length=vs.length:=ś<|r
end
section
variable {X:Cx}{o:Expr}{to:TE}{ap cp:Pos}{elts:kC}{kk:Nat}{tpos:Pos}
end
def J6(a:kC)(env:Env):Sem Bool:=forIn a true λc r=>if r=true then do let ok <- isTrue c env<|eval c env;pure (ForInStep.yield ok) else pure (ForInStep.yield r)
def HN(X:Cx)(a:kC)(t:TT):Prop:=
 ∀(b:List<|Addr×Obj) (s:Shared) (O:L2.St) (H:Hp) (Q:Bool->Hp->Prop),Inv X b O H s->t O H Q->wpAny (model X.prog X.w) X.A (J6 a X.env) (TP X b O Q) X.xe s
theorem zkc:HN X []<|λϊ H Q=>Q true H:=λa s O H Q I h=>Ç {(H),I,h}
theorem zkb(h:PT X c t):HN X [c] t:=λd s O H Q I q=>by
 have e:J6 [c] X.env=(isTrue c X.env (eval c X.env) >>= λok=>pure ok):=by
  unfold J6;simp
 rw[e];exact À<|ñ (h d s O H Q I q) (λb s1 a=>Ç a) λϊ ϊ z=>z
def zeh:compTurn (.ListComp elt [{target,iter,ifs,0}] scope pos) 0 it acc env=(standAt iter.pos >>= λϊ=>pyNext it >>= λr=>match r with
  |none=>pure (.done .next)|some u=>letOwnedTupleGo target it u >>= λϊ=>assign target env u >>= λϊ=>J6 ifs env >>= λok=>
   if ok=true then ((eval elt env >>= λx=>call (.builtin "list.append") [acc,x] >>= λϊ=>pure ()) >>= λϊ=>again<|.compLoop (.ListComp elt [{target,iter,ifs,0}] scope pos) 0 it acc env)
   else again (.compLoop (.ListComp elt [{target,iter,ifs,0}] scope pos) 0 it acc env)):=by rfl
def zei(j:NE=notedBy (model prog w) A env λe s'=>R (.error e) s')(I:Nat->Shared->Prop)
  (c : ∀ n s, I n s -> wpAny (model prog w) A (pyNext it) (fun r s₁ => match r with
   |none=>R (.ok .next) s₁|some v=>wpAny (model prog w) A (letOwnedTupleGo target it v) (λϊ s₁'=>wpAny (model prog w) A (assign target env v) (λϊ s₂=>wpAny (model prog w) A (J6 ifs env) (λok s₂'=>if ok=true then wpAny (model prog w) A (eval elt env) (λx s₃=>
     wpAny (model prog w) A (call (.builtin "list.append") [acc,x]) (λϊ s₄=>∃m,m<n/\I m s₄) NE s₃)
     NE s₂' else ∃m,m<n/\I m s₂') NE s₂) NE s₁') NE s₁) NE s)
  (k ) (hk:I k s):codeAny (model prog w) A (.compLoop (.ListComp elt [{target,iter,ifs,0}] scope pos) 0 it acc env) R s:=by
 subst j;refine codeAny_loop rfl I (λn s i=>?_) k hk
 refine wpAny_noted ?_;rw[zeh];refine À<|ĭ<|À<|ñ (c n s i) (λr s₁ b=>?_) λϊ ϊ z=>z
 cases r with
 |none=>exact Ç b|some v=>
  refine À<|ñ b (λϊ s₁' d=>?_) λϊ ϊ z=>z
  refine À<|ñ d (λϊ s₂ f=>À<|ñ f (λok s₂' a=>?_) λϊ ϊ z=>z) λϊ ϊ z=>z
  cases ok with
  |false=>
   rw[if_neg<|by decide]at a ⊢
   exact Ç {(rfl),a}
  |true=>rw[if_pos rfl]at a ⊢;exact À<|À<|ñ a (λx s₃ g=>À<|ñ g (λϊ s₄ h=>Ç<|Ç {(rfl),h}) λϊ ϊ z=>z) λϊ ϊ z=>z
def UM(env ):∀(names:List<|Str×NameKind),(∀y∈names,y.2=.free->∃c,env.cells.lookup y.1=↑c)->∀acc ,∃cl ,
  (forIn names acc λ(x:Str×NameKind) r=>if (x.2 == NameKind.free)=true then do let a <- cellOf env x.1;pure (ForInStep.yield<|(x.1,a)::r) else pure (ForInStep.yield r))=pure cl /\
  (∀y c,cl.lookup y=↑c->acc.lookup y=↑c\/env.cells.lookup y=↑c)/\(∀y∈names,y.2=.free->∃c,cl.lookup y.1=↑c)/\∀y c,acc.lookup y=↑c->∃c',cl.lookup y=↑c'
 |[],ϊ,acc=>{acc,rfl,λϊ ϊ e=>.inl e,(λϊ z=>by cases z),λϊ c e=>{(c),e}}|(n,k)::r,h,acc=>by
  rw[List.forIn_cons]
  by_cases hk:k=.free
  .subst hk;let(c,l):=h (n,.free) (Í ..) rfl;have m:cellOf env n=pure c:=by unfold cellOf;rw[l]
   let(cl,e,g,i,d):=UM env r (λy b=>h y<|Ê _ b)<|(n,c)::acc
   refine{cl,?_,λy c' q=>?_,λy b f=>?_,λy c' q=>?_}
   .erw[ë,Å,m,pure_bind];exact e
   .rcases g y c' q with z|z
    .rw[å]at z;cases b:y == n with
     |true=>rw[b]at z;cases z;exact .inr (by rw[eq_of_beq b];exact l)|false=>rw[b]at z;exact .inl z
    .exact .inr z
   .obtain rfl|b:=Ì.mp b
    .exact d n c<|by simp
    .exact i y b f
   .by_cases b:y=n
    .subst b;exact d y c<|by simp
    .exact d y c' (by rw[å,beq_eq_false_iff_ne.mpr b];exact q)
  .have j:(k == NameKind.free)=false:=beq_eq_false_iff_ne.mpr hk;let(cl,e,g,i,d):=UM env r (λy b=>h y<|Ê _ b) acc
   refine{cl,?_,g,λy b f=>?_,d}
   .erw[j,pure_bind];exact e
   .obtain rfl|b:=Ì.mp b
    .exact absurd f hk
    .exact i y b f
def zdi(scope)(env)(h:∀y∈scope.names,y.2=.free->∃c,env.cells.lookup y.1=↑c):∃cl,closureFor scope env=pure cl/\(∀y c,cl.lookup y=↑c->env.cells.lookup y=↑c)/\∀y∈scope.names,y.2=.free->∃c,cl.lookup y.1=↑c:=by
 let(cl,e,d,f,_):=UM env scope.names h [];refine{cl,?_,λy c q=>?_,f}
 .have b:closureFor scope env=(forIn scope.names [] λ(x:Str×NameKind) (r:List<|Str×Addr)=>(if (x.2 == NameKind.free)=true then do let a <- cellOf env x.1;pure (ForInStep.yield<|(x.1,a)::r) else pure (ForInStep.yield r):Sem<|ForInStep<|List<|Str×Addr)) >>= pure:=rfl
  rw[b,e,pure_bind]
 .rcases d y c q with z|z
  .cases z
  .exact z
set_option tactic.hygienic true in
def UO:∀(names ) (h:Heap) (acc ) (y ) (c ),(cellsFrom h.objs.size names acc).lookup y=↑c->acc.lookup y=↑c\/(h.objs.size<=c/\(pushCells h names).IsCell c none/\(y,NameKind.cell)∈names)
 |[],h,acc,y,c,e=>.inl e|(n,k)::r,h,acc,y,c,e=>by
  unfold cellsFrom at e;unfold pushCells;split at e
  .rename_i hk;rw[if_pos hk];have g:(h.push { cls:=.type "cell",data:=.cell none }).objs.size=h.objs.size+1:=ć ..;rw[<- g]at e
   rcases UO r _ _ y c e with q|⟨a,d,f⟩
   .rw[å]at q;cases b:y == n with
    |true=>rw[b]at q;cases q;have i:y=n:=eq_of_beq b;subst i;exact .inr {Æ _,{_,š _ _ _ _<|â _ rfl,rfl},by rw[eq_of_beq hk];exact Í ..}|false=>rw[b]at q;exact .inl q
   .exact .inr {by rw[g]at a;exact Ü (ĕ _) a,d,Ê _ f}
  .rename_i hk;rw[if_neg hk]
   rcases UO r h acc y c e with q|⟨a,d,f⟩
   .exact .inl q
   .exact .inr {a,d,Ê _ f}
def UP:∀(names) (h:Heap) (acc:List<|Str×Addr),(∀y z c,acc.lookup y=↑c->acc.lookup z=↑c->y=z)->(∀y c,acc.lookup y=↑c->c<h.objs.size) ->
  ∀y z c,(cellsFrom h.objs.size names acc).lookup y=↑c->(cellsFrom h.objs.size names acc).lookup z=↑c->y=z
 |[],h,acc,f,ϊ=>f|(n,k)::r,h,acc,f,g=>by
  unfold cellsFrom;split
  .have i:(h.push { cls:=.type "cell",data:=.cell none }).objs.size=h.objs.size+1:=ć ..;rw[<- i];refine UP r _ _ (λy z c a b=>?_)<|λy c a=>?_
   .rw[å]at a b;cases d:y == n with
    |true=>
     rw[d]at a;cases a;cases e:z == n with
     |true=>rw[eq_of_beq d,eq_of_beq e]|false=>rw[e]at b;exact absurd (g z _ b)<|Þ _
    |false=>
     rw[d]at a;cases e:z == n with
     |true=>rw[e]at b;cases b;exact absurd (g y _ a) (Þ _)|false=>rw[e]at b;exact f y z c a b
   .rw[å]at a;rw[i];cases d:y == n with
    |true=>rw[d]at a;cases a;exact ě _|false=>rw[d]at a;exact ħ<|g y c a
  .exact UP r h acc f g
set_option tactic.hygienic true in
def UN:∀(names) (n lo:Nat) (acc:List<|Str×Addr) (y) (c),lo<=n->((y,NameKind.cell)∈names\/∃c0,acc.lookup y=↑c0/\lo<=c0)->(cellsFrom n names acc).lookup y=↑c->lo<=c
 |[],n,lo,acc,y,c,a,h,e=>by
  rcases h with h|⟨c0,b,d⟩
  .cases h
  .have g:acc.lookup y=↑c:=e;rw[b]at g;cases g;exact d
 |(m,k)::r,n,lo,acc,y,c,a,h,e=>by
  unfold cellsFrom at e;split at e
  .refine UN r (n+1) lo _ y c (Nat.le_succ_of_le a) ?_ e
   by_cases f:y=m
   .subst f;exact .inr {n,by simp,a}
   .rcases h with h|⟨c0,b,d⟩
    .rcases Ì.mp h with z|z
     .cases z;exact absurd rfl f
     .exact .inl z
    .exact .inr {c0,by rw[å,beq_eq_false_iff_ne.mpr f];exact b,d}
  .rename_i hk;refine UN r n lo acc y c a ?_ e
   rcases h with h|h
   .rcases Ì.mp h with z|z
    .cases z;exact absurd rfl hk
    .exact .inl z
   .exact .inr h
def zc3{code}
  (c:Q (newEnv scope s.heap.objs.size globals (cellsFrom (s.heap.objs.size+1) scope.names cl) qual func code ↑outer builtins) { s with heap:=pushCells (s.heap.push { cls:=.type "dict",data:=.dict #[] }) scope.names }) :
  wpAny M A (newFunctionEnv scope globals cl [] qual func code ↑outer builtins) Q E s:=by
 erw[newFunctionEnv,ž,Å];refine À<|wpAny_alloc ?_;refine À<|wpAny_layCells _ (λb kind a=>by rfl) _ _ _ _ ?_;rw[ć ..]
 exact À<|Ç<|Ç c
abbrev Dn(X:Cx)(a:Scope)(cl:List<|Str×Addr)(b:kE)(C:Addr)(s₀:Shared)(H₀:Hp)(ex:List Addr)(c:Value->Shared->Prop):Cx:={ zqc X a cl b C s₀ H₀ ex with fn:=λx=>decide (a.names.lookup x=↑.cell),xe:=c }
def eY{h h' B a:Heap}(k:∀b o,B.get? b=none->h.get? b=↑o->(∀us,o.data≠.fields us)->a.get? b=none/\∃o',h'.get? b=↑o'/\∀us,o'.data≠.fields us):∀{l},h.FunFrames B l->h'.FunFrames a l
 |[],ϊ=>trivial|_::_,{x,{(L),o,c,d,e,f},r}=>by
  let(g,o',i,j):=k L o d e f;exact{x,{(L),o',c,g,i,j},eY k r}
def Hy(X:Cx):Prop:=∃v l,X.stack=v::l/\X.env.frame=v.frame
def zg1{X:Cx}   {O:L2.St}{H:Hp}        (hx:DF X E)(hst:Hy X)(I:Inv X pq O H s)(Y:C8 X pq H C)(hC:∃m,s.heap.Ns C m)(nC:C∉Ba X.stack)
  (hb:benv.frame=X.env.frame) (h:DH X.prog X.w X.stack H s (E O) e s'):wpAny (model X.prog X.w) X.A (noteFrame e benv) (λϊ s2=>compPost (model X.prog X.w) X.A X.xe use QQ acc C (.error e) s2) EE s':=by
 let(v,l,st,hv):=hst;let(a,U,H',B,rfl,os,bare,un,hok,kB,tB,Z,he):=h;have F :=st▸Z
 let(L,hL):∃L,v.frame=↑L:=by
  let(_,_,_,(_,(L,_,y,_),_),_):=F;exact{(L),y}
 refine ZZ (st▸I.ok.frames) (hb.trans hv) hL F λh4 M sm=>?_
 let(m,S,es,ep,G,dC,rC):=hC;have bC :=kB C S G Y.1 nC;let(f1,f2,f3,oe,ws,Q,oT,ts,ha,hcl,hd,g1,nT,A,hT,dT,g3):=M
 have r:∀{b },B.get? b=none->b≠C:=λz w=>by
  rw[w,bC]at z;cases z
 have key:∃m,h4.Ns C m/\∀h',Heap.SameBut C h4 h'->∀i ,i.locals=C->wpAny (model X.prog X.w) X.A (PySem.passOn "comprehension.variables-let-go" (.ref a) i:Sem Value) (λϊ ϊ=>False) X.xe { s' with heap:=h' }:=by
  refine{m,{S,es,ep,f1 C S bC,dC,rC},λh5 sb i ϊ=>?_}
  have p :=(sb.2 a<|r f2).trans ha;have J :=(sb.2 Q<|r nT).trans hT;unfold PySem.passOn;refine À<|ý p hd g1 ?_;rw[if_neg<|by simp]
  refine À ?_;unfold setFlight;refine À<|ý p hd g1 ?_;rw[if_pos<|by simp]
  refine Š J dT (ĳ.mp g3).1 (wpAny_throw ?_);generalize hfl:(i.frame.elim Value.none λf=>rawInt f)=fl
  have D:=ŕ dT (·.setIfInBounds 3 fl);have K:=Č (Obj.mapFields (·.setIfInBounds 3 fl)) J<|Ŵ D;generalize N:h5.update Q (Obj.mapFields (·.setIfInBounds 3 fl))=h6 at K ⊢
  have t:∀b o,b≠C->b≠Q->h4.get? b=↑o->h6.get? b=↑o:=λb o n1 n2 e=>by
   rw[<- N,ø _ _<|Î n2];exact(sb.2 b n1).trans e
  have T :=λb o n e=>t b o n (λz=>by rw[z,nT]at e;cases e)<|f1 b o e
  have g:∀{b } {o },(W.hideAll s.heap [C]).get? b=↑o->s.heap.get? b=↑o/\b≠C:=λ{b o} e=>{ķ _ e,λz=>by
   rw[z,ŵ [C]<|Ô.mpr rfl]at e;cases e}
  have j:∀{b } {o },b≠C->B.get? b=↑o->(W.hideAll B [C]).get? b=↑o:=λ{b o} n e=>Ĥ _ e<|λz=>n<|Ô.mp z
  have k:∀{b },B.get? b=none->(W.hideAll B [C]).get? b=none:=λ{b} e=>by
   cases q:(W.hideAll B [C]).get? b with
   |none=>rfl|some o=>rw[ķ _ q]at e;cases e
  have IX :=Gb (t':=s.toks) I (λb o n e=>Ĥ _ e n) λb z=>by
   rw[Ô.mp z];exact Y
  have slot:∀b o,s.heap.get? b=↑o->H b=none->b∈Ba X.stack->∃z,h6.get? b=↑{ o with slots:=z }:=λb o e n z=>by
   let(_,o2,P,d2):=I.stack.mem z;rw[e]at P;cases P;let(z2,e2):=un.slot b o e n z<|by simp
   let(z3,V):=sm b _ e2 d2;refine{z3,t b _ (λw=>nC<|w▸z) (λw=>?_) V}
   rw[w,hT]at V;cases V;exact d2 _ dT
  have HC :=un.free C S G Y.1<|by simp
  refine hx pq O H _ _ _ IX {a,U,H',W.hideAll B [C],rfl,os,bare,{λb o e n z ϊ=>?_,λb o e n z ϊ=>slot b o (g e).1 n z,λb o e n z=>un.free b o (g e).1 n z,λb o e ϊ=>?_,un.tups,un.frzs,un.tbls},?_,λb o e n z=>j (g e).2 (kB b o (g e).1 n z),λb o e z=>?_,{fl,λb o e=>?_,k f2,?_,?_},he}
  .exact T b o (g e).2 (kB b o (g e).1 n z)
  .by_cases z:b∈Ba X.stack
   .let(w,q):=slot b o (g e).1 (I.stkFree b z) z;exact{_,q}
   .let(R,q):=tB b o (g e).1 z;exact{R,T b R (g e).2 q}
  .intro b u e;refine(hok b u e).stay (λc x hc q=>j (λw=>?_) q) (λϊ q=>q) λϊ ϊ q=>q
   rcases hc with y|y
   .rw[<- y,w,HC]at e;cases e
   .rw[w,HC]at y;cases y
  .let(R,q):=tB b o (g e).1 z;exact{R,j (g e).2 q}
  .have e':=ķ _ e;refine T b o (λw=>?_) e'
   rw[w,ŵ [C]<|Ô.mpr rfl]at e;cases e
  .rw[st];refine eY (λb o n e d=>{k n,o,t b o (r n) (λw=>?_) e,d}) f3
   rw[w,hT]at e;cases e;exact d _ dT
  .refine{oe,ws,Q,_,_,?_,hcl,hd,g1,k nT,A,K,D,?_}
   .rw[<- N,ø _ _ A];exact p
   .simp[Array.getElem?_setIfInBounds,(ĳ.mp g3).1]
 cases use<;>exact key
structure TurnG(cq:Cx->Prop)(P:Program)(w:World)(K:k6)(tg:Expr)(Γ:It)(fp:List Addr)(it:Addr)(tn:Nat->Heap->Prop):Prop where
 obj:∀i h,tn i h->∀b∈fp,∃o,h.get? b=↑o/\∀v,o.data≠.cell v
 keep:∀i h h',tn i h->(∀b∈fp,∀o,h.get? b=↑o->h'.get? b=↑o)->tn i h'
 item:∀(X:Cx),X.prog=P->X.w=w->X.K=K->cq X->∀(i:Nat) (pq:List<|Addr×Obj) (s:Shared) (O:L2.St) (H:Hp) (E:Value->Shared->Prop),Inv X pq O H s->(∀b∈fp,C8 X pq H b)->tn i s.heap->Γ.go i H ->
  wpAny (model P w) X.A (pyNext<|.ref it) (λr s1=>∃u,r=↑u/\wpAny (model P w) X.A (letOwnedTupleGo tg (.ref it) u) (λϊ s2=>∃x H',Inv X pq O H' s2/\Ab x u/\Γ.yld i H x H'/\tn (i+1) s2.heap/\∀b∈fp,H' b=none) E s1) E s
 done:∀(X:Cx),X.prog=P->X.w=w->X.K=K->cq X->∀(i:Nat) (pq:List<|Addr×Obj) (s:Shared) (O:L2.St) (H:Hp) (E:Value->Shared->Prop),Inv X pq O H s->(∀b∈fp,C8 X pq H b)->tn i s.heap->Γ.stop i H ->
  wpAny (model P w) X.A (pyNext<|.ref it) (λr s1=>r=none/\Inv X pq O H s1) E s
 self:∀(A:Around) (i:Nat) (s:Shared) (Q:Value->Shared->Prop) (E:Value->Shared->Prop),tn i s.heap->Q (.ref it) s->wpAny (model P w) A (pyIter<|.ref it) Q E s
def PJ(cq:Cx->Prop)(X:Cx)(h a:Expr)(i:TI):Prop:=
 ∀(e:List<|Addr×Obj) (s:Shared) (O:L2.St) (H:Hp) (R:It->Hp->Prop),Inv X e O H s->i O H R ->
  wpAny (model X.prog X.w) X.A (eval a X.env) (λv s1=>wpAny (model X.prog X.w) X.A (pyIter v) (λd g=>∃(it:Addr) (f:List Addr) (tn:Nat->Heap->Prop) (Γ:It) (c:Hp),d=.ref it/\Inv X e O c g/\TurnG cq X.prog X.w X.K h Γ f it tn/\tn 0 g.heap/\(∀b∈f,C8 X e c b)/\R Γ c) X.xe s1) X.xe s
theorem Xd(h:PI X tg iter wi):PJ (λX=>X.calm=true) X tg iter wi:=λb s O H R I q=>
 AX (h b s O H R I q) λϊ ϊ a=>AX a λ_ _ ⟨it,fp,tn,Γ,H',e,I2,T,r⟩=>{it,fp,tn,Γ,H',e,I2,{(T.obj),T.keep,T.item,T.done,T.self},r}
section
variable {X:Cx}{elt iter tg:Expr}{ifs:kC}{scope:Scope}{pos pos2:Pos}{cl:List<|Str×Addr}{N':kE}{wi:TI}{g:TG}{tt:TT}{te:TE}
def Lm(j:L2.St->L2.St)(o:TI)(g:TG)(m:TT)(l:TE):TE:=λO H Q=>o O H λΓ e=>∃(W:Nat->kK->L2.St->Hp->Prop) (n:Nat),n<=sizeLine/\W 0 [] (j O) e/\∀i b Y H,W i b Y H->b.length<=i/\i<=n /\
 ((Γ.stop i H/\∀p,H p=none->Q (.ref p) (upd H p<|.lst b))\/(i<n/\Γ.go i H/\∀x c,Γ.yld i H x c->g x Y c λa f=>m a f λk d=>if k=true then l a d λy h=>W (i+1) (b++[y]) a h else W (i+1) b a d))
def AC(X:Cx)(a:Scope)(b:kE)(E:L2.St->XK)(F:Cx->Prop):Prop:=∀cl C s₀ H₀ ex c,DF (Dn X a cl b C s₀ H₀ ex c) E->F (Dn X a cl b C s₀ H₀ ex c)
structure BlkC(X:Cx)(scope:Scope)(N':kE)(O':L2.St->L2.St)(cl:List<|Str×Addr):Prop where
 clos:closureFor scope X.env=pure cl
 kind:scope.kind=.function
 names:∀y∈scope.names,y.2=.local->scope.names.lookup y.1=↑.local
 sub:∀y c,cl.lookup y=↑c->X.env.cells.lookup y=↑c
 has:∀y,(relabel scope X.env).names.lookup y=↑.cell\/(relabel scope X.env).names.lookup y=↑.free->(y,NameKind.cell)∈scope.names\/∃c,cl.lookup y=↑c
 cap:∀(O:L2.St) (i:Nat) (y:Str) (v:V),N'[i]?=↑y->(O' O)[i]?=↑↑v->(y,NameKind.cell)∉scope.names
 len:∀O:L2.St,O.length=X.N.length->(O' O).length=N'.length
 vis:∀(O:L2.St) (i:Nat) (y:Str) (v:V),N'[i]?=↑y->(O' O)[i]?=↑↑v->((relabel scope X.env).names.lookup y=↑.cell\/(relabel scope X.env).names.lookup y=↑.free)/\∃j:Nat,X.N[j]?=↑y/\O[j]?=↑↑v/\Em X.env.scope y/\X.env.kindOf y≠↑.local
set_option tactic.hygienic true in
def aQ{O':L2.St->L2.St}(L:BlkC X scope N' O' cl){cq:Cx->Prop}(hc:∀Z O H s cl C ex xb,Inv X Z O H s->cq (Dn X scope cl N' C s H ex xb))(hi:PJ cq X tg iter wi){E:L2.St->XK}(hps:DF X E)(hst:Hy X){O:L2.St}(hg:AC X scope N' (λϊ=>E O) λτ=>PG τ tg g/\HN τ ifs tt/\PE τ elt te)
  (hs:∀x,foldedSetIterable iter X.env x=pure x) {use:Option<|Value->Sem Unit} {Z:List<|Addr×Obj} {s:Shared} {H:Hp} {Q:VK} {QQ:Value->Shared->Prop} (I:Inv X Z O H s) (h:Lm O' wi g tt te O H Q)
  (hend:∀(D C:Addr) (s5:Shared) (H5:Hp),Inv X Z O H5 s5->Q (.ref D) H5->(∃m,s5.heap.Ns C m)->C8 X Z H5 C->compPost (model X.prog X.w) X.A X.xe use QQ (.ref D) C (.ok .next) s5) :
  wpAny (model X.prog X.w) X.A (comprehension (.ListComp elt [{tg,iter,ifs,0}] scope pos) scope X.env pos2 (newList []) false (eval iter X.env) use) QQ X.xe s:=by
 let(hclos,hkind,hnames,hcl,hhas,hcap,hσ,hvis):=L;refine wpAny_comprehension_free (use:=use) rfl hs hclos hkind hnames<|AX (hi Z s O H _ I h) λv s1 h1=>AX h1 λitv f h2=>?_
 let(it,G,tn,Γ,P,e,t,T,st2,f2,W,n,hn,w0,turn):=h2;subst e;refine Τ<|zc3 ?_;dsimp only;generalize hHp:f.heap.push { cls:=.type "list",dict:=none,data:=.seq ([]:k9).toArray }=P2;generalize N:cellsFrom (P2.objs.size+1) scope.names cl=cl';generalize hh1:pushCells (P2.push { cls:=.type "dict",data:=.dict #[] }) scope.names=h₁;have hC:P2.objs.size=f.heap.objs.size+1:=by rw[<- hHp,ć]
 have hP3:(P2.push { cls:=.type "dict",data:=.dict #[] }).objs.size=P2.objs.size+1:=ć ..;have hDC:f.heap.objs.size≠P2.objs.size:=by rw[hC];exact Õ<|ě _
 have J:∀b,b<f.heap.objs.size->b≠P2.objs.size/\b≠f.heap.objs.size:=λb a=>{by rw[hC];exact Õ<|ħ a,Õ a}
 have V:∀b o,f.heap.get? b=↑o->h₁.get? b=↑o:=λb o e=>by
  rw[<- hh1];exact š _ _ _ _<|Ð _<|hHp▸Ð _ e
 have hacc:h₁.PlainList f.heap.objs.size #[]:={_,by
  rw[<- hh1];exact š _ _ _ _<|Ð _<|hHp▸â _ rfl}
 have hns₁:h₁.Ns P2.objs.size<|λϊ=>none:=by
  rw[<- hh1];exact(Heap.Ns.new P2<|.type "dict").keeps (š _ _)
 have K:∀y c,cl'.lookup y=↑c->X.env.cells.lookup y=↑c\/(P2.objs.size<c/\h₁.IsCell c none/\(y,NameKind.cell)∈scope.names):=λy c e=>by
  rw[<- N,<- hP3]at e
  rcases UO _ _ _ y c e with q|⟨q1,q2,q3⟩
  .exact .inl<|hcl y c q
  .rw[hP3]at q1;rw[hh1]at q2;exact .inr {(q1),q2,q3}
 have has':∀y,(y,NameKind.cell)∈scope.names\/(∃c,cl.lookup y=↑c)->∃c,cl'.lookup y=↑c:=λy hy=>by
  rw[<- N]
  have go:∀(names:List<|Str×NameKind) (n:Nat) (acc:List<|Str×Addr),((y,NameKind.cell)∈names\/∃c,acc.lookup y=↑c)->∃c,(cellsFrom n names acc).lookup y=↑c:=by
   intro names
   induction names with
   |nil=>
    intro n acc h
    rcases h with h|h
    .cases h
    .exact h
   |cons x r ih=>
    let(m,k):=x;intro n acc h;unfold cellsFrom;split
    .refine ih _ _ ?_
     by_cases hm:y=m
     .subst hm;exact .inr {n,by simp}
     .rcases h with h|⟨c,h⟩
      .rcases Ì.mp h with z|z
       .cases z;exact absurd rfl hm
       .exact .inl z
      .exact .inr {c,by rw[å,beq_eq_false_iff_ne.mpr hm];exact h}
    .rename_i hk;refine ih _ _ ?_
     rcases h with h|h
     .rcases Ì.mp h with z|z
      .cases z;exact absurd rfl hk
      .exact .inl z
     .exact .inr h
  exact go _ _ _ hy
 have fsub:∀b∈Ba X.stack,b∈X.env.locals::X.fs:=t.stkSub
 have fpfs:∀b∈G,b∉Ba X.stack:=λb a z=>by
  let(_,h2,h3,_):=f2 b a
  rcases Ì.mp (fsub b z) with q|q
  .exact h2 q
  .exact h3 q
 have F:∀b∈G,b<f.heap.objs.size:=λb a=>by
  let(o,e,_):=T.obj 0 _ st2 b a;exact Ä e
 have cold:∀y c,cl'.lookup y=↑c->c<f.heap.objs.size\/P2.objs.size<c:=λy c e=>by
  rcases K y c e with q|q
  .let(v,z):=t.cell y c q;exact .inl z.lt
  .exact .inr q.1
 have cneD:∀y c,cl'.lookup y=↑c->c≠f.heap.objs.size:=λy c e z=>by
  rcases cold y c e with q|q
  .rw[z]at q;exact Þ _ q
  .rw[z,hC]at q;exact absurd q<|Nat.not_lt.mpr<|ĕ _
 have cneF:∀b,b<f.heap.objs.size->(∀y c,X.env.cells.lookup y=↑c->c≠b)->∀y c,cl'.lookup y=↑c->c≠b:=λb a hx y c e z=>by
  rcases K y c e with q|q
  .exact hx y c q z
  .have:=q.1;rw[z,hC]at this;exact absurd (Ń a<|Nat.lt_of_succ_lt this)<|Þ _
 have A:∀b,f.heap.objs.size<=b->P b=none:=λb a=>t.hok.fresh a
 have CS:f.heap.objs.size<=P2.objs.size:=by rw[hC];exact ĕ _
 let(xb,hxb):∃xb,xb=notedBy (model X.prog X.w) X.A (compEnvC scope cl' P2.objs.size X.env) λe s'=>compPost (model X.prog X.w) X.A X.xe use QQ (.ref f.heap.objs.size) P2.objs.size (.error e) s':={_,rfl}
 have hpb:DF (Dn X scope cl' N' P2.objs.size f P G xb)<|λϊ=>E O:=by
  subst hxb;intro pins4 σ4 H4 s4 e s' I4 hcx
  have IX:Inv X Z O H4 s4:=t.call' (s':=s4) (ch:=G) I4.os I4.base I4.hok I4.bare λb a=>by
   let(g1,g2,g3,g4,g5,g6):=f2 b a;exact{(g4),g2,g5,g6}
  let(m4,hm4,_):=I4.loc
  exact zg1 hps hst IX {I4.free,(t.fpOk (H':=P) CS<|A _ CS).2} {(m4),hm4} (λz=>by
   let(o,ho,_):=(t.stack.mem z).2;exact absurd (Ä ho)<|Nat.not_lt.mpr CS) rfl hcx
 let(hg,ht,he):=hg _ _ _ _ _ _ hpb
 have ok':(Dn X scope cl' N' P2.objs.size f P G xb).Ok:=by
  refine{t.ok.mod,hkind,t.ok.glob,t.ok.blt,CS,?inj,λy hy=>has' y<|hhas y hy,?cab,t.ok.hd,t.ok.frames,.inl rfl,λb a=>{(J b<|F b a).1,cneF b (F b a) λy c e=>(f2 b a).2.2.2.2.1 y c e},
   λb o e=>t.bs b o e,Ü t.ok.bsz t.sz,λb o e a=>?_,λb a=>fpfs b a,t.stack,t.stkFree}
  case inj=>
   intro y z c h1 h2;have h1':(cellsFrom (P2.push { cls:=.type "dict",data:=.dict #[] }).objs.size scope.names cl).lookup y=↑c:=by rw[hP3,N];exact h1
   have h2':(cellsFrom (P2.push { cls:=.type "dict",data:=.dict #[] }).objs.size scope.names cl).lookup z=↑c:=by rw[hP3,N];exact h2
   refine UP scope.names _ cl (λy z c g1 g2=>t.ok.inj y z c (hcl y c g1)<|hcl z c g2) (λy c g=>?_) y z c h1' h2'
   let(v,q):=t.cell y c<|hcl y c g;rw[hP3,hC];exact ħ<|ħ q.lt
  case cab=>
   intro y c hy e;have hy':scope.names.lookup y=↑.cell:=ì hy;have e':(cellsFrom (P2.objs.size+1) scope.names cl).lookup y=↑c:=by rw[N];exact e
   exact Ü CS<|Ü (ĕ _)<|UN scope.names _ (P2.objs.size+1) cl y c (Æ _) (.inl<|Ě hy') e'
  .let(_,_,_,q,_):=f2 b a
   rcases q with q|q
   .exact t.ok.noex b o e q
   .exact absurd (Û (Ä e)<|Ü t.ok.bsz q)<|Þ _
 have I':Inv (Dn X scope cl' N' P2.objs.size f P G xb) Z (O' O) P { f with heap:=h₁ }:=by
  refine{ok',rfl,t.bare,Un.kept V,{_,hns₁,λi y v h1 h2 h3=>?_},λy c e=>?_,A _ CS,?fc,λp hp=>?_,t.hok.kept V,hσ O t.len}
  case fc=>
   intro y c e
   rcases K y c e with q|q
   .exact t.freeC y c q
   .exact A c<|Ü CS<|Ŝ q.1
  .let(hk,j,h4,h5,h6,h7):=hvis O i y v h1 h2;have hno:=hcap O i y v h1 h2;let(m,hn',hl):=t.loc;let(u,r,l):=hl j y v h4 h5 h6;let(c,hcc):=has' y<|hhas y hk;refine{u,r,.inr {hk,c,hcc,?_}}
   rcases l with ⟨k1,_⟩|⟨_,c',e',z⟩
   .exact absurd k1 h7
   .rcases K y c hcc with w|w
    .rw[w]at e';cases e';let(o,ho,hd):=z;exact{o,V _ _ ho,hd}
    .exact absurd w.2.2 hno
  .rcases K y c e with w|w
   .let(v,o,ho,hd):=t.cell y c w;exact{v,o,V _ _ ho,hd}
   .exact{(none),w.2.1}
  .let(M,e2,e3,e4,e5):=t.pin p hp;refine{V _ _ M,e2,(J _<|Ä M).1,λz=>?_,e5}
   rcases Ì.mp (fsub _ z) with q|q
   .exact e3 q
   .exact e4 q
 have stat:∀{R:Hp},(∀b∈G,R b=none)->∀b∈G,C8 (Dn X scope cl' N' P2.objs.size f P G xb) Z R b:=λhn' b a=>
  {hn' b a,(J b<|F b a).1,fpfs b a,.inl a,cneF b (F b a) λy c e=>(f2 b a).2.2.2.2.1 y c e,(f2 b a).2.2.2.2.2}
 have Dok:∀{R:Hp},R f.heap.objs.size=none->C8 (Dn X scope cl' N' P2.objs.size f P G xb) Z R f.heap.objs.size:=λhn'=>
  {hn',hDC,(λz=>by
   let(o,ho,_):=(t.stack.mem z).2;exact absurd (Ä ho)<|Þ _),.inr<|Æ _,cneD,λp hp z=>absurd (Ä (t.pin p hp).1) (by rw[z];exact Þ _)}
 have loop:∀s3:Shared,s3={ f with heap:=h₁ } ->
   codeAny (model X.prog X.w) X.A (.compLoop (.ListComp elt [{tg,iter,ifs,0}] scope pos) 0 (.ref it) (.ref f.heap.objs.size)<|compEnvC scope cl' P2.objs.size X.env)
    (compPost (model X.prog X.w) X.A X.xe use QQ (.ref f.heap.objs.size) P2.objs.size) s3:=by
  rintro s3 rfl
  refine zei hxb (λm s'=>∃i ys Y R,m=n - i/\Inv (Dn X scope cl' N' P2.objs.size f P G xb) Z Y R s'/\tn i s'.heap/\(∀b∈G,R b=none)/\R f.heap.objs.size=none/\(∃U:k9,Ac ys U/\s'.heap.PlainList f.heap.objs.size U.toArray)/\W i ys Y R)
   ?_ n {0,[],O' O,P,rfl,I',T.keep _ _ _ st2 λb ϊ o e=>V b o e,λb a=>(f2 b a).1,A _<|Æ _,{[],.nil,hacc},w0}
  rintro m s4 ⟨i,ys,Y,H4,rfl,I4,st4,fr4,S,⟨U,rv,hpl⟩,w4⟩;let(hly,hin,c):=turn i ys Y H4 w4
  have statp:∀{R:Hp},(∀b∈G,R b=none)->∀b∈G,C8 (Dn X scope cl' N' P2.objs.size f P G xb) (Z++HZ [f.heap.objs.size] s4.heap) R b:=λ{R} fr' b a=>by
    let(g1,g2,g3,g4,g5,g6):=stat fr' b a;refine{g1,g2,g3,g4,g5,λp hp z=>?_}
    rcases ä.mp hp with y|y
    .exact g6 p (ù _ y) z
    .rcases ä.mp y with y|y
     .exact g6 p (ß _ y) z
     .let(hb',_):=Xn y;rw[z,Ô]at hb';exact absurd (F b a) (by rw[hb'];exact Þ _)
  rcases c with ⟨stop,q⟩|⟨hlt,go,step⟩
  .let(k,hDo):=hpl;have I4p:=I4.pinned (fp:=[f.heap.objs.size]) (λb a=>by rw[Ô.mp a];exact Dok S) (λb a=>by rw[Ô.mp a];exact{_,hDo,λv z=>(by cases z)})
   refine AX (T.done (Dn X scope cl' N' P2.objs.size f P G xb) rfl rfl rfl (hc _ _ _ _ _ _ _ _ t) i _ s4 Y H4 _ I4p (statp fr4) st4 stop) λr s5 zz=>?_
   let(hr,I5):=zz;subst hr;have hD5 :=(I5.pin (f.heap.objs.size,_)<|ß _<|ß _<|He (Ô.mpr rfl) hDo).1;let(m5,hn5,_):=I5.loc;have fC:H4 P2.objs.size=none:=I5.free
   have U5:Un (Ba X.stack) G P (upd H4 f.heap.objs.size<|.lst ys) f.heap s5.heap:=by
    have B:=I5.base;refine{λb o M e2 e3 e4=>B.keep b o M e2 e3 e4,λb o M e2 e3 e4=>B.slot b o M e2 e3 e4,λb o M e2 e4=>?_,λb o M e4=>B.there b o M e4,λb xs M=>?_,λb o u M=>?_,λb ps M=>?_}
    .rw[Ap (J b<|Ä M).2];exact B.free b o M e2 e4
    .have q':=B.tups b xs M;rw[Ap<|DA q' S];exact q'
    .have q':=B.frzs b o u M;rw[Ap<|DA q' S];exact q'
    .let(more,q'):=B.tbls b ps M;exact{more,by rw[Ap<|DA q' S];exact q'}
   have hzy:ys.length<=sizeLine:=Ü hly<|Ü hin hn;have HK:HOk X.prog X.w (upd H4 f.heap.objs.size<|.lst ys) s5.heap:=Zw.HOk.adopt I5.hok S {(hzy),U,k,rv,hD5};have os5:s5.os=f.os:=I5.os
   have IX:Inv X Z O (upd H4 f.heap.objs.size<|.lst ys) s5:=t.call' (s':=s5) (ch:=G) os5 U5 HK I5.bare (λb a=>by
    let(g1,g2,g3,g4,g5,g6):=f2 b a;exact{(g4),g2,g5,g6})
   refine hend f.heap.objs.size P2.objs.size s5 _ IX (q _ S) {(m5),hn5} ?_;have CL:f.heap.objs.size<=P2.objs.size:=CS;have fp0:C8 X Z P P2.objs.size:=t.fpOk CS<|A _ CS;exact{by rw[Ap<|Î hDC];exact fC,fp0.2}
  .let(k,hDo):=hpl;have I4p:=I4.pinned (fp:=[f.heap.objs.size]) (λb a=>by rw[Ô.mp a];exact Dok S) (λb a=>by rw[Ô.mp a];exact{_,hDo,λv z=>(by cases z)})
   refine AX (T.item (Dn X scope cl' N' P2.objs.size f P G xb) rfl rfl rfl (hc _ _ _ _ _ _ _ _ t) i _ s4 Y H4 _ I4p (statp fr4) st4 go) λr s5 zz=>?_
   let(u,hr,h5):=zz;subst hr;refine AX h5 λϊ s6 zz=>?_
   let(x,H6,I6,r6,y6,st6,fr6):=zz;have I6':=I6.pinned (statp fr6)<|T.obj _ _ st6;refine AX (hg _ s6 Y H6 x u _ I6' r6<|step x H6 y6) λϊ s7 zz=>?_
   let(τ7,H7,I7,q7):=zz;refine AX (ht _ s7 τ7 H7 _ I7 q7) λok s7b zz=>?_
   let(H7b,I7b,q7b):=zz;have Az:∀{H8:Hp} {s8:Shared} {τ8:L2.St},Inv (Dn X scope cl' N' P2.objs.size f P G xb) (Z++HZ [f.heap.objs.size] s4.heap++HZ G s6.heap) τ8 H8 s8->∀h9:Heap,(∀b o,b≠f.heap.objs.size->s8.heap.get? b=↑o->h9.get? b=↑o)->tn (i+1) h9/\∀b∈G,H8 b=none:=λ{H8 s8 τ8} I8 h9 sb=>by
    refine{T.keep _ _ _ st6 λb a o e=>?_,λb a=>?_}
    .exact sb b o (J b<|F b a).2 (I8.pin (b,o)<|ß _<|ß _<|He a e).1
    .let(o,e,d):=T.obj _ _ st6 b a;exact(I8.pin (b,o)<|ß _<|ß _<|He a e).2.1
   cases ok with
   |false=>
    rw[if_neg<|by decide]at q7b ⊢
    have hD8:=I7b.pin (f.heap.objs.size,_)<|ß _<|ù _<|ß _<|He (Ô.mpr rfl) hDo;let(t9,f9):=Az I7b s7b.heap λb o ϊ e=>e
    exact{n - (i+1),by lia,i+1,ys,τ7,H7b,rfl,I7b.unpinned.unpinned,t9,f9,hD8.2.1,{(U),rv,k,hD8.1},q7b}
   |true=>
    rw[if_pos rfl]at q7b ⊢;refine AX (he _ s7b τ7 H7b _ I7b q7b) λuy s8 zz=>?_
    let(y,H8,I8,ry,w8):=zz;have hD8:=I8.pin (f.heap.objs.size,_)<|ß _<|ù _<|ß _<|He (Ô.mpr rfl) hDo;have P8:s8.heap.PlainList f.heap.objs.size U.toArray:={(k),hD8.1};have hlen:=rv.length;refine wpAny_list_append_plain P8 (λh' pl' sb=>?_) (by rw[û,<- hlen];lia)
    have I8u :=I8.unpinned.unpinned;let(d1,d2,d3,d4,d5,d6):=Dok hD8.2.1;have I9 :=I8u.turned (t':=s8.toks) (λb o a e=>(sb.2 b a).trans e) d1 d2 d4 d5 d6
    let(t9,f9):=Az I8 h' λb o a e=>(sb.2 b a).trans e
    exact{n - (i+1),by lia,i+1,ys++[y],τ7,H8,rfl,I9,t9,f9,hD8.2.1,{U++[uy],rv.append<|.cons ry .nil,by simpa using pl'},w8}
 refine codeAny_compStart_list (loop _ rfl)<|T.self _ 0 _ _ _ (T.keep _ _ _ st2 λb ϊ o e=>V b o e)<|loop _ rfl
def zpi(L:BlkC X scope N' O' cl)(k:∀pq O H s cl C ex xb,Inv X pq O H s->cq (Dn X scope cl N' C s H ex xb))(n:PJ cq X tg iter wi)(a:DF X E)(c:Hy X){O:L2.St}(l:AC X scope N' (λϊ=>E O) λτ=>PG τ tg g/\HN τ ifs tt/\PE τ elt te)
  (p:∀x,foldedSetIterable iter X.env x=pure x)   {H:Hp} {Q:VK} (I:Inv X pq O H s) (h:Lm O' wi g tt te O H Q) :
  wpAny (model X.prog X.w) X.A (eval (.ListComp elt [{tg,iter,ifs,0}] scope pos) X.env) (EP X pq O Q) X.xe s:=by
 refine aQ L k n a c l p I h λD C t i j q ⟨m,hm⟩ f=>{m,hm,λr sb=>?_}
 exact{.ref D,i,Gb (ch:=[C]) j (λb o d e=>(sb.2 b<|λz=>d<|by simp[z]).trans e) (λb d=>by grind),rfl,q}
def zpj(L:BlkC X scope N' O' cl)(B:X.calm=true)(G:PI X tg iter wi)(l:DF X E)(n:Hy X)(F:AC X scope N' (λϊ=>E O) λτ=>PG τ tg g/\HN τ ifs tt/\PE τ elt te)
  (K:∀x,foldedSetIterable iter X.env x=pure x)   {H:Hp} {D:Ends} {i:Nat} {x:Str}  (y:X.N.Nodup) (k:X.N[i]?=↑x) (r:X.env.scope.names.lookup x=↑.local)
  (p:swapsWith (.ListComp elt [{tg,iter,ifs,0}] scope pos) (↑(.Name x pos')) pos2.line X.env=pure true)
  (I:Inv X pq O H s) (h:Lm O' wi g tt te O H λv H1=>D.nx (O.set i ↑v) H1) :
  wpAny (model X.prog X.w) X.A (exec (.Assign [.Name x pos'] (.ListComp elt [{tg,iter,ifs,0}] scope pos) pos2) X.env) (SP X pq D) X.xe s:=by
 rw[exec_Assign_Name_used _ _ _ _ p];refine À<|ĭ<|À ?_;refine À<|ñ (aQ L (λϊ ϊ ϊ ϊ ϊ ϊ ϊ ϊ ϊ=>B) (Xd G) l n F K I h λA C R t u M ⟨m,hm⟩ f=>?_) (λϊ Q J=>Ç<|Ç J) λϊ ϊ e=>e
 show wpAny _ X.A (assign (.Name x pos') X.env<|.ref A) _ _ _;refine wpAny_assign_Name<|WY u y k (.inl r) (v:=.ref A) rfl (λS w N=>?_)<|.inr r
 let(a,sb,d):=N;have c:C≠a:=by
  rcases d with rfl|d
  .exact f.2.1
  .exact λz=>f.2.2.2.2.1 x a d z.symm
 refine{m,hm.sameBut sb c,λP q=>{_,t,Gb (ch:=[C]) w (λb o j e=>(q.2 b<|λz=>j<|by simp[z]).trans e) (λb j=>by rw[Ô.mp j];exact f),M}}
end
structure RpO(K:k6)(F H:Hp)(l:kL)(xs:kK)(R:Nat->Rg):Prop where
 len:l.length=xs.length
 rep:∀(i:Nat) (t:T) (x:V),l[i]?=↑t->xs[i]?=↑x->Rp K F H t x (R i)
 dis:∀i j a,i≠j->R i a->¬ R j a
 out:∀i a,R i a->i<l.length
section
variable {K:k6}{F H F1 H1:Hp}{l:kL}{xs:kK}{R:Nat->Rg}{B:Rg}
theorem RpO.nil:RpO K F H [] []<|λϊ=>R0:={rfl,λi t x h=>by simp at h,λϊ ϊ ϊ ϊ z=>z.elim,λϊ ϊ z=>z.elim}
def RpO.dom(h:RpO K F H l xs R)(z:R i a):F a=none/\∃u,H a=↑u:=by
 have b:=h.out i a z;have c:i<xs.length:=by have:=h.len;lia
 exact(h.rep i _ _ (Â b)<|Â c).dom z
theorem RpO.ext(h:RpO K F H l xs R)(e:Ext F H F1 H1 B):RpO K F1 H1 l xs R:={h.len,λi t x a b=>(h.rep i t x a b).ext e,h.dis,h.out}
theorem RpO.apart(h:RpO K F H l xs R)(e:Ext F H F1 H1 B)(a:B b)(i):¬ R i b:=λz=>by
 let(f,u,q):=h.dom z;rw[e.nb b a]at q;cases q
def RpO.snoc(h:RpO K F H l xs R)   (r:Rp K F H t x B)(d:∀i a,R i a->¬ B a):RpO K F H (l++[t]) (xs++[x]) (λj=>if j=l.length then B else R j):=by
 have o:=h.len;refine{by simp[o],λi p q g k=>?_,λi j a e f c=>?_,λi a z=>?_}
 .by_cases b:i=l.length
  .subst b;rw[if_pos rfl];have s:t=p:=by simpa using g
   have u:x=q:=by rw[o]at k;simpa using k
   subst s;subst u;exact r
  .rw[if_neg b]
   have n:i<l.length:=by
    have:=(Ñ.mp g).1;simp at this
    lia
   rw[ÿ n]at g;rw[ÿ<|by lia]at k
   exact h.rep i p q g k
 .by_cases b:i=l.length
  .erw[b,Å]at f;have m:¬ j=l.length:=λz=>e<|b.trans z.symm
   erw[m,Ã]at c;exact d j a c f
  .erw[b,Ã]at f
   by_cases m:j=l.length
   .erw[m,Å]at c;exact d i a f c
   .erw[m,Ã]at c;exact h.dis i j a e f c
 .by_cases b:i=l.length
  .simp[b]
  .erw[b,Ã]at z;have:=h.out i a z;simp
   lia
def RpO.cons(h:RpO K F H l xs R)   (r:Rp K F H t x B)(d:∀i a,R i a->¬ B a):RpO K F H (t::l) (x::xs) (λj=>match j with|0=>B|j+1=>R j):=by
 refine{by simp[h.len],λi k m c e=>?_,λi j a b f g=>?_,λi a z=>?_}
 .cases i with
  |zero=>simp at c e;subst c;subst e;exact r|succ i=>exact h.rep i k m (by simpa using c)<|by simpa using e
 .cases i with
  |zero=>
   cases j with
   |zero=>exact b rfl|succ j=>exact d j a g f
  |succ i=>
   cases j with
   |zero=>exact d i a f g|succ j=>exact h.dis i j a (λz=>b<|by rw[z]) f g
 .cases i with
  |zero=>simp|succ i=>have:=h.out i a z;simp;lia
def RpO.list(h:RpO K F H l xs R)(s:A5 F H)  (b:H p=none):Rp K F (upd H p<|.lst xs) (.own l) (.ref p) (λa=>a=p\/∃i,R i a)/\Ext F H F (upd H p<|.lst xs) (λa=>a=p):=by
 have e:=Ext.newO (o:=.lst xs) s b;have c:=h.ext e;exact{.own (k:=.lst) trivial R (GP s b) CP h.len c.rep h.dis (λi z=>h.apart e rfl i z) h.out,e}
end
def AH(ma mk:AI):AI:=λY=>match ma Y with
 |some (.v t b)=>(match mk Y with
  |some (.v (.int i) ϊ)=>(match t with
   |.nd ϊ ϋ l=>(match AW l i with
    |some c=>↑(.v c<|b && !c.sh)|none=>none)
   |.str z=>if z.length<=BW then (match AW z.cps.toList i with
    |some c=>↑(.v (.str {#[c]}) false)|none=>none) else none
   |ϊ=>none)
  |some (.v ϊ ϋ)=>none|r=>r)
 |r=>r
def zmh{c:α}(e:l.length=m.length)(h:AW l i=↑c):∃(j:Nat) (d:β),l[j]?=↑c/\m[j]?=↑d/\AW m i=↑d:=by
 unfold AW at h ⊢;rw[<- e];cases q:CA l.length i with
 |none=>rw[q]at h;cases h|some j=>
  rw[q]at h;have a:l[j]?=↑c:=h
  have b:j<m.length:=by
   have:=(Ñ.mp a).1
   lia
  exact{j,m[j],a,Â b,Â b}
section
variable {K:k6}{F H:Hp}
def Rp.seq(s:A5 F H)(h:Rp K F H (.nd o k l) x A):∃p xs,x=.ref p/\(A3 K H p xs\/By K H p xs)/\l.length=xs.length/\∀(i:Nat) (t ) (x ),l[i]?=↑t->xs[i]?=↑x->∃B,(∀a,B a->A a)/\Rp K F H t x B:=by
 cases h with
 |@shr k p xs l h e c=>
  refine{p,xs,rfl,?_,e,λi t x b g=>{R0,λϊ z=>z.elim,c i t x b g}}
  cases k with
  |lst=>exact .inl (A3.of<|s _ _ h)|rl=>exact .inl (s.seq h.l)|tup=>exact .inr (By.of<|s _ _ h)|rt=>exact .inr (Ge s h)|pin q=>exact .inl<|A3.of<|s _ _ h
 |@own j p xs l hk R f h e c d dp o=>
  refine{p,xs,rfl,?_,e,λi t x b g=>{R i,λa z=>.inr {(i),z},c i t x b g}}
  cases k with
  |tup=>exact .inr (By.of h)|_=>exact .inl<|A3.of h
end
section
variable {X:Cx}{E:L2.St->XK}{ca:Str->Value}{O:L2.St}{H:Hp}{m ma mb mc:AI}{ms:Ay}{K:k6}{a b c e:Expr}{es:kC}{pos:Pos}
def tM_ix(h:tM K E ca (AH ma mb) O H Q):IG (X6 K) (tM K E ca ma) (tM K E ca mb) O H Q:=by
 let(F,Y,R,S,q):=h;refine{F,Y,R,S,?_};unfold AH at q;cases X:ma Y with
 |none=>erw[X]at q<;>symm|some r=>
  erw[X]at q;cases r with
  |x c=>exact q|v t n=>
   intro F1 H1 x B J g1;have V:=S.ext J;refine{F1,Y,R,V,?_};cases hk:mb Y with
   |none=>erw[hk]at q<;>symm|some r=>
    erw[hk]at q;cases r with
    |x c=>exact λF' H' e=>q F' H' ((J.trans e).mono λϊ z=>z.elim)|v tk bk=>
     cases tk with
     |int i=>
      intro g m y C G g2
      have hy:y=.int i:=by
       cases bk with
       |true=>let(_,A,_,r):=g2;exact r.int_inv
       |false=>exact(g2).int_inv
      subst hy;have b :=(J.trans G).mono λϊ z=>.inl z
      have S2:=V.ext G;cases t with
      |nd o k l=>
       simp only at q;cases f:AW l i with
       |none=>erw[f]at q<;>symm|some D=>
        erw[f]at q
        have node:∃w,(n=true->∀a,w a->tot R a)/\(n=false->∀a,w a->B a)/\Rp K g m (.nd o k l) x w:=by
         cases n with
         |true=>let(_,A,I,r):=g1;exact{A,λϊ=>I,(λz=>by cases z),r.ext G}
         |false=>exact{B,(λz=>by cases z),λϊ ϊ z=>z,(g1).ext G}
        let(w,L,M,rn):=node;let(p,xs,rfl,s,hl,u):=Rp.seq S2.fh rn;let(j,d,h1,h2,W):=zmh hl f;let(U,I,T):=u j D d h1 h2
        have Z :=by
         cases n with
         |false=>exact q g m d U (b.mono λa z=>M rfl a<|I a z) T|true=>
          cases N:D.sh with
          |true=>rw[N]at q;exact q g m d R0 (b.mono λϊ z=>z.elim) (T.move N<|.refl _)|false=>rw[N]at q;exact q g m d R0 (b.mono λϊ z=>z.elim) {rfl,U,λa z=>L rfl a<|I a z,T}
        rcases s with s|s
        .exact .inl {(p),xs,i,d,rfl,rfl,s,W,Z}
        .exact .inr<|.inl {(p),xs,i,d,rfl,rfl,s,W,Z}
      |str z=>
       by_cases P:z.length<=BW
       .erw[P,Å]at q;cases f:AW z.cps.toList i with
        |none=>erw[f]at q<;>symm|some D=>
         erw[f]at q
         have hx:x=.str z:=by
          cases n with
          |true=>let(_,A,_,r):=g1;exact r.str_inv
          |false=>exact(g1).str_inv
         subst hx;exact .inr<|.inr {z,i,D,rfl,rfl,by rw[<- GU];exact P,f,q g m _ R0 (b.mono λϊ z=>z.elim)<|.str _}
       .erw[P,Ã]at q<;>symm
      |_=>symm
     |_=>symm
theorem r_ix(c:PE X a<|tM X.K E ca ma)(d:PE X b<|tM X.K E ca mb)(e:LP b):PE X (.Subscript a b pos)<|tM X.K E ca<|AH ma mb:=PE.weak (RJ zpw c d e) λO H Q h=>tM_ix h
def B0{α:Type}(l:List α)(a b:kA):List α:=(l.drop<|HT.sIx l.length 0 a).take (HT.sIx l.length l.length b - HT.sIx l.length 0 a)
def F8(m:Option<|AI):AN->Option (kA):=λY=>match m with
 |none=>↑none|some m=>match m Y with
  |some (.v (.int i) ϊ)=>↑↑i|ϊ=>none
def FD(ma:AI)(d c:Option<|AI):AI:=λY=>match ma Y with
 |some (.v t false)=>(match F8 d Y with
  |some b=>(match F8 c Y with
   |some a=>(match t with
    |.nd ϊ .lst l=>↑(.v (.own<|B0 (BQ l) b a) false)|.nd ϊ .rl l=>↑(.v (.own<|B0 (BQ l) b a) false)|ϊ=>none)
   |none=>none)
  |none=>none)
 |some (.v ϊ true)=>none|r=>r
def HR(K:k6)(m:Option<|AI):TO:=λO H Q=>∃F Y R o,StR K F H O Y R/\F8 m Y=↑o/\∀b a,Ext F H b a R0->Q o a
theorem r_po0:PO X none<|HR X.K none:=λa s O H Q I h=>by
 let(F,Y,R,o,S,e,q):=h;cases e;exact zki a s O H Q I<|q F H<|Ext.refl S.fh
theorem r_po1(j:PE X e<|tM X.K E ca m):PO X ↑e<|HR X.K ↑m:=λn s O H Q I h=>by
 let(F,Y,R,o,S,a,q):=h;refine zkh j n s O H Q I {F,Y,R,S,?_};unfold F8 at a;simp only at a;cases k:m Y with
 |none=>grind|some r=>
  rw[k]at a;cases r with
  |x c=>cases a|v v b=>
   cases v with
   |int i=>
    cases a;intro d f x B e g
    have l:x=.int i:=by
     cases b with
     |true=>let(_,A,_,r):=g;exact r.int_inv
     |false=>exact(g).int_inv
    exact{i,l,q d f<|e.mono λϊ z=>z.elim}
   |_=>cases a
set_option tactic.hygienic true in
def zim(r:Ah K F l xs)(lo hi):Ah K F (B0 l lo hi)<|Kj xs lo hi:=by
 have d:=r.1;unfold B0 Kj;rw[d];refine{by simp[d],λi t x a b=>?_}
 rw[List.getElem?_take]at a b;split at a
 .rename_i c;rw[if_pos c,Ĺ]at b;rw[Ĺ]at a;exact r.2 _ t x a b
 .cases a
def XW{lo hi}(ha:PE X a<|tM X.K E ca ma)(hl:PO X lo<|HR X.K ml)(hh:PO X hi<|HR X.K mh):PE X (.Subscript a (.Slice lo hi none p2) pos)<|tM X.K E ca<|FD ma ml mh:=by
 refine PE.weak (Xe zjn ha hl hh) λO H Q h=>?_
 let(F,Y,R,S,q):=h;refine{F,Y,R,S,?_};unfold FD at q;cases M:ma Y with
 |none=>erw[M]at q<;>symm|some r=>
  erw[M]at q;cases r with
  |x c=>exact q|v t V=>
   cases V with
   |true=>symm|false=>
    intro F1 H1 x B W g1;let(n,i,_,r1):=Dp.frz S W g1;have K:=S.ext i;simp only at q;cases G:F8 ml Y with
    |none=>erw[G]at q<;>symm|some d=>
     erw[G]at q;refine{n,Y,R,d,K,G,λU H2 A=>?_}
     have L:=K.ext A;cases I:F8 mh Y with
     |none=>erw[I]at q<;>symm|some b=>
      erw[I]at q;refine{U,Y,R,b,L,I,λs u D=>?_}
      have w:=L.ext D;have y:=i.trans0<|A.trans0 D;have P:Rp X.K s s t.share x R0:=(r1).frame (A.ff.trans D.ff) λϊ z=>z.elim
      have j:∀{o } {k } {l },t=.nd o k l->(k=.lst\/k=.rl)->(∀m f x B,Ext F H m f B->Rp X.K m f (.own<|B0 (BQ l) d b) x B->Q x f)->X2 X.K x d b u Q:=by
       intro o k l Z hk qq;subst Z;rw[T.share]at P;let(p,xs,rfl,_,N,k3):=Dy P
       have sq:A3 X.K u p xs:=by
        rcases hk with rfl|rfl
        .exact A3.of<|w.fh _ _ N
        .exact w.fh.seq N.l
       refine{p,xs,rfl,sq,λp' J=>?_}
       have gg:Dq X.K s u (.own<|B0 (BQ l) d b) Q:=λm f z C e g=>qq m f z C (y.trans0 e) g
       exact gg.list w.fh (zim k3 d b) J
      cases t with
      |nd o k l=>
       cases k with
       |lst=>exact j rfl (.inl rfl) q|rl=>exact j rfl (.inr rfl) q|tup=>symm|rt=>symm|pin ϊ=>symm
      |_=>symm
def pMo(K:k6)(E:L2.St->XK)(ca:Str->Value)(O:L2.St)(Q:kK->Hp->Prop)(F H:Hp):Option RsL->Prop
 |some (.v e ϊ)=>∀b a xs (d:Nat->Rg),Ext F H b a (tot d)->RpO K b a e xs d->Q xs a|some (.x c)=>∀b a,Ext F H b a R0->XE (E O) ca c b a|none=>False
def J8(K:k6)(E:L2.St->XK)(ca:Str->Value)(m:Ay):TA:=λO H Q=>∃F Y R,StR K F H O Y R/\pMo K E ca O Q F H (m Y)
def Am(m:AI)(ms:Ay):Ay:=λY=>match m Y with
 |some (.v t false)=>(match ms Y with
  |some (.v a ϊ)=>↑(.v (t::a) false)|r=>r)
 |some (.v ϊ true)=>none|some (.x c)=>↑(.x c)|none=>none
theorem znw:PA X []<|J8 X.K E ca AE:=PA.weak FZ λO H Q h=>by
 let(F,Y,R,S,q):=h;exact q F H [] (λϊ=>R0) ((Ext.refl S.fh).mono λa ⟨i,z⟩=>z.elim) .nil
def zk6(y:PE X e<|tM X.K E ca m)(A:PA X es<|J8 X.K E ca ms)(d:starEach (e::es) X.env=(false,eval e X.env)::starEach es X.env):PA X (e::es)<|J8 X.K E ca<|Am m ms:=by
 refine PA.weak (EL y A d) λO H Q h=>?_
 let(F,Y,R,S,q):=h;refine{F,Y,R,S,?_};unfold Am at q;cases k:m Y with
 |none=>erw[k]at q<;>symm|some r=>
  erw[k]at q;cases r with
  |x c=>exact q|v t w=>
   cases w with
   |true=>symm|false=>
    intro n D x B f g1;have u:=S.ext f;refine{n,Y,R,u,?_};cases d:ms Y with
    |none=>erw[d]at q<;>symm|some r=>
     erw[d]at q;cases r with
     |x c=>exact λl p e=>q l p ((f.trans e).mono λϊ z=>z.elim)|v J I=>
      intro o s xs G g C;have b :=g1;refine q o s (x::xs) _ ((f.trans g).mono ?_)<|C.cons (b.ext g) λi a z=>?_
      .rintro a ⟨j,z⟩;cases j with
       |zero=>exact .inl z|succ j=>exact .inr {(j),z}
      .exact b.apart g {(i),z}
def BJ(ms:Ay):AI:=λY=>match ms Y with
 |some (.v a ϊ)=>if a.length<=BW then ↑(.v (.own a) false) else none
 |some (.x c)=>↑(.x c)|none=>none
def r_lst(h:PA X es<|J8 X.K E ca ms):PE X (.List es pos)<|tM X.K E ca<|BJ ms:=by
 refine PE.weak (zol h) λO H Q h=>?_
 let(F,Y,R,S,q):=h;refine{F,Y,R,S,?_};unfold BJ at q;cases f:ms Y with
 |none=>erw[f]at q<;>symm|some r=>
  erw[f]at q;cases r with
  |x c=>exact q|v m b=>
   intro j n xs o e g
   by_cases d:m.length<=BW
   .erw[d]at q;refine{by rw[<- g.len];exact d,λp l=>?_}
    let(r,k):=g.list e.fh l;refine q j _ _ _ ((e.trans k).mono ?_) r;rintro a (z|⟨i,z⟩)
    .exact .inr z
    .exact .inl {(i),z}
   .erw[d]at q<;>symm
def BN(ms:Ay):AI:=λY=>match ms Y with
 |some (.v a false)=>if a.length<=BW then ↑(.v (.tup a) false) else none
 |some (.v ϊ true)=>none|some (.x c)=>↑(.x c)|none=>none
def r_tup(h:PA X es<|CU X.K E ca ms):PE X (.Tuple es k pos)<|tM X.K E ca<|BN ms:=by
 refine PE.weak (zog h) λO H Q h=>?_
 let(F,Y,R,S,q):=h;refine{F,Y,R,S,?_};unfold BN at q;cases f:ms Y with
 |none=>erw[f]at q<;>symm|some r=>
  erw[f]at q;cases r with
  |x c=>exact q|v i b=>
   cases b with
   |true=>symm|false=>
    intro l n xs d rs
    by_cases a:i.length<=BW
    .erw[a]at q;refine{by rw[<- rs.1];exact a,λp s=>?_}
     have o:Dq X.K l n (.tup i) Q:=λj m z C e g=>q j m z C (d.trans0 e) g
     exact o.tuple d.fh rs s
    .erw[a]at q<;>symm
theorem zo3{id}(d:Bs X (.builtin id)<|DR X.K g)(i:Gl X x)(j:X.mg x=none)(l:bootBuiltins x=↑(.builtin id))(c:PA X (e::es)<|CU X.K E ca ms)(k:x≠"__name__")(a:(x == "__debug__")=false)
  (f:starEach (e::es) X.env=(false,eval e X.env)::starEach es X.env) (b:(backTo pos<|starEach es X.env).any (·.1)=false):PE X (.Call (.Name x p) (e::es) [] pos)<|tM X.K E ca<|BV g ms:=
 PE.weak (MS d i j l c k a f b) λO H Q h=>HV h
theorem X1(d:Bs X (.type T')<|DR X.K g)(i:Gl X x)(j:X.mg x=none)(l:bootBuiltins x=↑(.type T'))(c:PA X (e::es)<|CU X.K E ca ms)(k:x≠"__name__")(a:(x == "__debug__")=false)
  (f:starEach (e::es) X.env=(false,eval e X.env)::starEach es X.env) (b:(backTo pos<|starEach es X.env).any (·.1)=false):PE X (.Call (.Name x p) (e::es) [] pos)<|tM X.K E ca<|BV g ms:=
 PE.weak (Xh d i j l c k a f b) λO H Q h=>HV h
end
def BC:T->kH
 |.nd ϊ ϋ l=>↑(.int l.length)|.str z=>if z.length<=BW then ↑(.int z.length) else none
 |ϊ=>none
def C1:T->kH
 |.nd ϊ ϋ l=>↑(.own l)|ϊ=>none
def JE:T->kH
 |.int i=>↑(.int (if i<0 then -i else i))
 |ϊ=>none
def Jz:T->T->kH
 |.int i,.int j=>↑(.int (if j<i then j else i))
 |ϊ,ϋ=>none
def M1:T->T->kH
 |.int i,.int j=>↑(.int (if j > i then j else i))
 |ϊ,ϋ=>none
def Hk:kL->Option (kF)
 |[]=>↑[]|.int i::r=>(Hk r).map (i::·)|ϊ=>none
def M3(ns:kF):Int:=ns.getD (argBest (λi j=>decide (ns.getD i 0 > ns.getD j 0))<|ns.length - 1) 0
def Hm:kL->kH
 |[.nd ϊ .lst l]=>(match Hk l with
  |some (i::r)=>↑(.int<|M3<|i::r)|ϊ=>none)
 |[t,u]=>M1 t u|ϊ=>none
def K2:T->kH
 |.int i=>↑(.int i)|.bl k=>↑(.int (if k then 1 else 0))
 |.str x=>if x.length<=640 then (intText? x).map T.int else none
 |ϊ=>none
def G1:kL->Option (List Bool)
 |[]=>↑[]|.bl b::r=>(match G1 r with
  |some l=>↑(b::l)|none=>none)
 |ϊ::ϋ=>none
def Fz:T->kH
 |.nd ϊ .lst l=>(match G1 l with
  |some bs=>↑(.bl<|bs.all id)|none=>none)
 |ϊ=>none
def Ku:T->kH
 |.nd ϊ .lst l=>(match G1 l with
  |some bs=>↑(.bl<|bs.any id)|none=>none)
 |ϊ=>none
def Vg:Kd->Option String
 |.lst=>↑"list"|.tup=>↑"tuple"|.rl=>↑"list"|.rt=>none|.pin ϊ=>none
def Lj:T->Option String
 |.non=>↑"NoneType"|.bl ϊ=>↑"bool"|.int ϊ=>↑"int"|.str ϊ=>↑"str"|.nd ϊ k ϋ=>Vg k|.dic ϊ ϋ=>↑"dict"|.pdc ϊ ϋ=>↑"dict"|.odc ϊ ϋ=>none|.obj ϊ ϋ=>none|.oob ϊ ϋ ό ύ=>none|.osd ϊ ϋ=>none
def ID:List String:=["int","bool","str","list","tuple"]
def Lq(a c:String):Bool:=a == c || (a == "bool" && c == "int")
def Bm(c:String)(t:T):kH:=match Lj t with
 |some a=>if c∈ID then ↑(.bl<|Lq a c) else none
 |none=>none
def zd6:W.kitMeta "str"=true:=by decide +kernel
def zc4:W.kitMeta "list"=true:=by decide +kernel
def aX(K)(d:a∈["NoneType","bool","int","str","list","tuple","dict"])(b:c∈ID):W.kitOne K (.type a) (.type c)=↑(Lq a c):=by
 have e:W.kitMeta c=true:=by
  erw[ID,Ì,ð,þ]at b
  rcases b with rfl|rfl|rfl|rfl|rfl
  .exact zd7
  .exact zc5
  .exact zd6
  .exact zc4
  .exact zbp
 by_cases h:a=c
 .subst h;rw[zhx];simp[Lq]
 .refine zpo K (l:=[]) h e ?_;erw[ID,Ì,ð,þ]at b d
  rcases d with rfl|rfl|rfl|rfl|rfl|rfl|rfl<;>rcases b with rfl|rfl|rfl|rfl|rfl<;>first|exact absurd rfl h|decide +kernel
section
variable {X:Cx}
set_option tactic.hygienic true in
def zgh:Bs X (.builtin "len")<|DR X.K<|g1 BC:=by
 intro d s O H xs f Q I r h;let(F,k,v,fh,rs,e,q):=h;unfold g1 at e;split at e
 .let(l,j,rfl,r1,b):=rs.inv;cases b.inv0;unfold BC at e;split at e
  .cases e;let(p,c,rfl,a,g,_):=Rp.seq fh<|r1.any;refine gB d s O H _ f Q I r {_,c.length,rfl,?_,by rw[<- g];exact q.int fh}
   rcases a with a|a
   .exact .inl {(c),a,rfl}
   .exact .inr {(c),a,rfl}
  .split at e
   .cases e;rename_i i;rw[r1.str_inv]at r;exact gB d s O H _ f Q I r {_,_,rfl,{by exact i,rfl},q.int fh}
   .cases e
  .cases e
 .cases e
def zf6{K}(s:A5 F H)(h:GA K F k p xs):A3 K H p xs\/By K H p xs:=by
 cases k with
 |lst=>exact .inl (A3.of<|s _ _ h)|rl=>exact .inl (s.seq h.l)|tup=>exact .inr (By.of<|s _ _ h)|rt=>exact .inr (Ge s h)|pin q=>exact .inl<|A3.of<|s _ _ h
def gE:Bs X (.type "list")<|DR X.K<|g1 C1:=by
 intro g s O H xs i Q I r h;let(F,m,v,fh,rs,e,q):=h;unfold g1 at e;split at e
 .let(n,j,rfl,r1,a):=rs.inv;cases a.inv0;unfold C1 at e;split at e
  .cases e;let(p,k,rfl,rfl,f,d):=Dy r1;have c :=zf6 fh f;exact zd1 g s O H _ i Q I r {p,k,rfl,c,λl b=>q.list fh d b}
  .cases e
 .cases e
def zgm:Bs X (.builtin "abs")<|DR X.K<|g1 JE:=by
 intro b s O H xs c Q I r h;let(F,f,v,fh,rs,e,q):=h;unfold g1 at e;split at e
 .let(g,d,rfl,r1,a):=rs.inv;cases a.inv0;unfold JE at e;split at e
  .cases e;rw[r1.int_inv]at r;exact zj2 b s O H _ c Q I r {_,rfl,q.int fh}
  .cases e
 .cases e
def zgj:Bs X (.type "int")<|DR X.K<|g1 K2:=by
 intro b s O H xs c Q I r h;let(F,i,v,fh,rs,e,q):=h;unfold g1 at e;split at e
 .let(j,g,rfl,r1,a):=rs.inv;cases a.inv0;unfold K2 at e;split at e
  .cases e;rw[r1.int_inv]at r;exact gC b s O H _ c Q I r<|.inl {_,rfl,q.int fh}
  .cases e;rw[r1.bl_inv]at r;exact gC b s O H _ c Q I r<|.inr {_,rfl,q.int fh}
  .split at e
   .let(n,d,rfl):=Ø.mp e;rw[r1.str_inv]at r;let(u,rfl,f):=r.one;let(t,rfl):=f;exact PySem.W.KIN.call_text d ‹_› {.int n,H,I.tok _,{_,rfl},q.int fh}
   .cases e
  .cases e
 .cases e
def gD{c:Int->Int->Int}(d:Bs X (.builtin f) (λxs H Q=>∃i j,xs=[.int i,.int j]/\Q (.int<|c i j) H))(k:∀t u v,g t u=↑v->∃i j,t=.int i/\u=.int j/\v=.int (c i j)):Bs X (.builtin f)<|DR X.K<|g2 g:=by
 intro l s O H xs n Q I r h;let(F,w,v,fh,rs,e,q):=h;unfold g2 at e;split at e
 .let(x,o,rfl,r1,a):=rs.inv;let(x2,p,rfl,m,b):=a.inv;cases b.inv0;let(i,j,rfl,rfl,rfl):=k _ _ _ e;rw[r1.int_inv,m.int_inv]at r;exact d l s O H _ n Q I r {_,_,rfl,q.int fh}
 .cases e
theorem zgf(a:X.calm=true):Bs X (.builtin "min")<|DR X.K<|g2 Jz:=gD (zgc a) λt u v h=>by
 unfold Jz at h;split at h
 .cases h;exact{_,_,rfl,rfl,rfl}
 .cases h
theorem zgg(a:X.calm=true):Bs X (.builtin "max")<|DR X.K<|g2 M1:=gD (zgd a) λt u v h=>by
 unfold M1 at h;split at h
 .cases h;exact{_,_,rfl,rfl,rfl}
 .cases h
def bP:∀{l} {ns} {ys} {its},Hk l=↑ns->Ah X.K F l ys->Ac ys its->∃xs:List (Int×Tok),its=xs.map (λp=>.int p.1 p.2)/\xs.map (·.1)=ns
 |[],ns,ys,its,h,r,a=>by
  cases h;cases r.inv0;cases a;simp
 |t::l,ns,ys,its,h,r,a=>by
  cases t with
  |int i=>
   let(ms,b,rfl):=Ø.mp h;let(x,e,rfl,r1,c):=r.inv;rw[r1.int_inv]at a;cases a with
   |cons d a=>let(tk,rfl):=d;let(xs,rfl,rfl):=bP b c a;exact{(i,tk)::xs,rfl,rfl}
  |_=>cases h
set_option tactic.hygienic true in
def zj3(c:X.calm=true):Bs X (.builtin "max")<|DR X.K Hm:=by
 intro z s O H xs C Q I r h;let(F,K,v,fh,rs,e,q):=h;unfold Hm at e;split at e
 .split at e
  .rename_i l i m g;cases e;let(L,D,rfl,r1,b):=rs.inv;cases b.inv0;let(p,E,rfl,_,w,o):=Dy r1;let(u,rfl,A):=Er r;cases A;let(n,B,y,J):=I.list (A3.of (fh _ _ w):A3 X.K H p E);let(a,rfl,en):=bP g o B;have f:(a.map λp=>Value.int p.1 p.2).toArray=intItems a.toArray:=by simp[intItems]
   have d:a.length=(i::m).length:=by rw[<- en,Á]
   have x:numAt a.toArray=λk=>(i::m).getD k 0:=funext λk=>by
    rw[<- en];simp[numAt]
   refine max_intList (I.ok.hd c) (f▸y.isList) (by rw[û,d];simp) λv G tk j hk=>?_
   let(t,rfl):=intItems_at j;rw[û,d,x];exact{.int _,H,I.kept hk,{_,rfl},q.int fh}
  .cases e
 .exact zgg c z s O H xs C Q I r {F,_,v,fh,rs,e,q}
 .cases e
def gK:∀{l} {bs},G1 l=↑bs->l.length=bs.length/\∀(i:Nat) (t),l[i]?=↑t->∃b,bs[i]?=↑b/\t=.bl b
 |[],bs,h=>by cases h;exact{rfl,λi t e=>by simp at e}|t::r,bs,h=>by
  unfold G1 at h;cases t with
  |bl b=>
   simp only at h;cases a:G1 r with
   |none=>erw[a]at h;cases h|some l=>
    erw[a]at h;cases h;let(c,d):=gK a;refine{by simp[c],λi t e=>?_}
    cases i with
    |zero=>simp at e;exact{(b),rfl,e.symm}|succ i=>exact d i t<|by simpa using e
  |_=>cases h
def XR{bs:List Bool}(h:∀(i:Nat) (b:Bool),bs[i]?=↑b->tr i=b):(List.range bs.length).all tr=bs.all id/\(List.range bs.length).any tr=bs.any id:=by
 have e:(List.range bs.length).map tr=bs:=by
  apply List.ext_getElem?;intro i;rw[Ë]
  by_cases a:i<bs.length
  .rw[Ż a,Â a];erw[ď];rw[h i _<|Â a]
  .rw[Ą (by simp;lia),Ą<|by lia]
   rfl
 constructor
 .have:(List.range bs.length).all tr=((List.range bs.length).map tr).all id:=by rw[List.all_map];rfl
  rw[this,e]
 .have:(List.range bs.length).any tr=((List.range bs.length).map tr).any id:=by rw[List.any_map];rfl
  rw[this,e]
def V6(M:X.calm=true)   {O:L2.St}{H:Hp}{F:Hp}       (I:Inv X pq O H s)(fh:A5 F H)(r1:Rp X.K F F (.nd o .lst l) (.ref p) R0)(L:G1 l=↑bs)
  (K : ∀ (I0 : Addr) (wr fp ) (St ) (PP ) (tr ) (s2 : Shared), Walks X.prog X.w X.A.in1 I0 fp wr bs.length PP St -> St 0 s2.heap -> TruthOf X.prog X.w X.A.in1 PP tr -> (∀ (i : Nat) (b : Bool), bs[i]? = ↑b -> tr i = b) ->
   (∀h' tk,(∀b o,b∉wr->s2.heap.get? b=↑o->h'.get? b=↑o)->Inv X pq O H { s2 with heap:=h',toks:=tk })->P (.ref I0) s2):wpAny (model X.prog X.w) X.A.in1 (pyIter<|.ref p) P E' s:=by
 let(Y,T,J,rfl,S,y):=Dy r1;cases J;let(f,c):=gK L;let(a,E,A,V):=I.list<|A3.of<|fh _ _ S;have N:=E.length
 have t :=Õ (by
  let(o,n,e,_):=A;exact Ä e)
 have hh:X.A.in1.handled=none:=I.ok.hd M
 have val:∀(i:Nat) (v ),a[i]?=↑v->∃b,bs[i]?=↑b/\v=.bool b:=λi v g=>by
  have r:i<T.length:=by
   have:=(Ñ.mp g).1
   lia
  have d:i<l.length:=by rw[y.1];exact r
  let(b,h,j):=c i _<|Â d;have C:=y.2 i _ _ (Â d)<|Â r;rw[j]at C;let(u,B,D):=E.get<|Â r;rw[g]at B;cases B;rw[C.bl_inv]at D;exact{(b),h,D}
 have q:a.toArray.size=bs.length:=by rw[û,<- N,<- y.1,f]
 refine Į A.isList ?_;have W:=Walks.list (prog:=X.prog) (w:=X.w) hh s.heap.objs.size p t a.toArray;rw[q]at W;refine K s.heap.objs.size _ _ _ _ (λi=>bs.getD i false) _ W {{_,â _ rfl,rfl,rfl},?_} ?_ ?_ ?_
 .let(o,Q,R):=A.isList;exact{o,Ð _ Q,R}
 .intro i v Z U G g x;let(b,h,j):=val i v<|by simpa using g
  subst j;refine Ĉ ?_;have e:bs.getD i false=b:=by rw[Ú,h];rfl
  rw[<- e];exact x
 .intro i b m;show bs.getD i false=b;rw[Ú,m]
  rfl
 .intro h' tk k
  exact I.kept λb o e=>k b o (λz=>by
   rw[Ô]at z;exact absurd (Ä e) (by rw[z];exact Þ _))<|Ð _ e
set_option tactic.hygienic true in
def zgl(m:X.calm=true):Bs X (.builtin "all")<|DR X.K<|g1 Fz:=by
 intro w s O H xs z Q I r h;let(F,y,v,fh,rs,e,q):=h;unfold g1 at e;split at e
 .let(A,t,rfl,r1,c):=rs.inv;cases c.inv0;unfold Fz at e;split at e
  .split at e
   .cases e;rename_i bs a;let(p,rfl):=r1.ref_inv;let(u,rfl,n):=Er r;cases n;refine call_all_walk<|V6 m I fh r1 a λg o j St i tr x W d f b Az=>{g,j,o,bs.length,i,St,tr,rfl,W,d,f,λl tk k=>?_}
    rw[(XR b).1];exact{.bl _,H,Az l tk k,rfl,q.bl fh}
   .cases e
  .cases e
 .cases e
set_option tactic.hygienic true in
def zgk(m:X.calm=true):Bs X (.builtin "any")<|DR X.K<|g1 Ku:=by
 intro w s O H xs z Q I r h;let(F,y,v,fh,rs,e,q):=h;unfold g1 at e;split at e
 .let(A,t,rfl,r1,c):=rs.inv;cases c.inv0;unfold Ku at e;split at e
  .split at e
   .cases e;rename_i bs a;let(p,rfl):=r1.ref_inv;let(u,rfl,n):=Er r;cases n;refine call_any_walk<|V6 m I fh r1 a λg o j St i tr x W d f b Az=>{g,j,o,bs.length,i,St,tr,rfl,W,d,f,λl tk k=>?_}
    rw[(XR b).2];exact{.bl _,H,Az l tk k,rfl,q.bl fh}
   .cases e
  .cases e
 .cases e
def Up(K:k6)(H:Hp)(x:V)(a:String):Prop:=(a="dict"/\∃p ob b,x=.ref p/\H p=↑(.frz ob<|.dK b))\/(a="list"/\∃p xs,x=.ref p/\A3 K H p xs)
def bJ{O:L2.St}(I:Inv X pq O H s)(d:Ab x u)(ty:Up X.K H x a)(e:W.kitOne X.K (.type a) c=↑b)(h:∀tk,Q (.bool b) { s with toks:=tk }) :
  wpAny (model X.prog X.w) A (call (.builtin "isinstance") [u,c]) Q E s:=by
 rcases ty with ⟨rfl,p,ob,t,rfl,i⟩|⟨rfl,p,xs,rfl,l⟩
 .cases d;let(_,_,_,C,_,q):=(I.hok p _ i);let(o,B,y,j,k,_):=q;exact ó Θ I.kIn {(o),j,k.1} e (λz=>nomatch z) h
 .cases d;let(m,r,(o,n,f,g,v,w),_):=I.list l;exact ó Η I.kIn {(o),f,g} e (λz=>nomatch z) h
def Vf(fh:A5 F H)(r:Rp X.K F F t x R0)(h:Lj t=↑a):(TyOf X.K H x (.type a)\/Up X.K H x a)/\a∈["NoneType","bool","int","str","list","tuple","dict"]:=by
 cases t with
 |non=>cases h;rw[r.non_inv];exact{.inl .non,by simp}|bl b=>cases h;rw[r.bl_inv];exact{.inl<|.bl b,by simp}|int i=>cases h;rw[r.int_inv];exact{.inl<|.int i,by simp}|str y=>cases h;rw[r.str_inv];exact{.inl<|.str y,by simp}|nd o k l=>
  let(p,xs,rfl,_,n,_):=Dy r;cases k with
  |lst=>cases h;exact{.inl<|.lst<|fh _ _ n,by simp}|tup=>cases h;exact{.inl<|.tup<|fh _ _ n,by simp}|rl=>cases h;exact{.inr<|.inr {rfl,p,xs,rfl,fh.seq<|G5.l n},by simp}|rt=>cases h|pin ϊ=>cases h
 |dic d l=>
  cases h;cases r with
  |dic h e f c=>exact{.inr<|.inl {rfl,_,_,_,rfl,fh _ _ h},by simp}
 |pdc d l=>
  cases h;cases r with
  |pdc h e f c=>exact{.inl<|.dK<|fh _ _ h,by simp}
 |odc d l=>cases h|obj k l=>cases h|oob p C fs l=>cases h|osd d l=>cases h
set_option tactic.hygienic true in
def zgi:Bs X (.builtin "isinstance") (λxs H Q=>∃x,xs=[x,.ty c]/\DR X.K (g1<|Bm c) [x] H Q):=by
 intro j s O H xs n Q I r h;let(x,rfl,F,p,v,fh,rs,e,q):=h;unfold g1 at e;split at e
 .let(w,o,f,r1,k):=rs.inv;cases f;unfold Bm at e;split at e
  .rename_i a g;split at e
   .cases e;rename_i b;let(ty,d):=Vf fh r1 g
    rcases ty with ty|i
    .exact ziz j s O H _ n Q I r {x,_,_,rfl,ty,aX X.K d b,q.bl fh}
    .let(u,t,rfl,l,m):=Ga r;cases m;exact bJ I l i (aX X.K d b) λtk=>{.bl _,H,I.tok _,rfl,q.bl fh}
   .cases e
  .cases e
 .cases e
def T.isN:T->Bool
 |.non=>true|ϊ=>false
def T.isB(b:Bool):T->Bool
 |.bl c=>c == b|ϊ=>false
def CM(a:Bool)(t u:T):kH:=match u with
 |.non=>↑(.bl<|a ^^ t.isN)|.bl b=>↑(.bl<|a ^^ t.isB b)|ϊ=>none
def fR{K}(r:Rp K F H t x A):decide (x=V.non)=t.isN:=by
 cases r<;>simp[T.isN]
def fS{K}(r:Rp K F H t x A):decide (x=V.bl b)=t.isB b:=by
 cases r<;>simp[T.isB]
 rfl
def zoz:Ag X (compareOp .Is)<|Bg X.K<|CM false:=by
 intro b s O H x y v u Q I d a h;let(F,f,g,r,fh,r1,c,e,q):=h;unfold CM at e;split at e
 .cases e;rw[c.non_inv]at a;refine zot b s O H _ _ v u Q I d a {rfl,?_};rw[fR r1];have:=q.bl fh
  simp_all
 .cases e;rw[c.bl_inv]at a;refine zou b s O H _ _ v u Q I d a {_,rfl,?_};rw[fS r1];have:=q.bl fh
  simp_all
 .cases e
def zf5:Ag X (compareOp .IsNot)<|Bg X.K<|CM true:=by
 intro b s O H x y v u Q I d a h;let(F,f,g,r,fh,r1,c,e,q):=h;unfold CM at e;split at e
 .cases e;rw[c.non_inv]at a;refine zkr b s O H _ _ v u Q I d a {rfl,?_};rw[fR r1];have:=q.bl fh
  simp_all
 .cases e;rw[c.bl_inv]at a;refine zks b s O H _ _ v u Q I d a {_,rfl,?_};rw[fS r1];have:=q.bl fh
  simp_all
 .cases e
end
section
variable {X:Cx}{E:L2.St->XK}{ca:Str->Value}{O:L2.St}{H:Hp}{m ma mb mc:AI}{ms:Ay}{K:k6}{a b c e:Expr}{es:kC}{pos p p2:Pos}
def r_isT{c}(l:bootBuiltins cn=↑(.type c))(i:Gl X "isinstance")(j:X.mg "isinstance"=none)(a:Gl X cn)(b:X.mg cn=none)(k:cn≠"__name__")(hd:(cn == "__debug__")=false)(g:PE X e<|tM X.K E ca m)(d:starEach [e,.Name cn p2] X.env=(false,eval e X.env)::starEach [.Name cn p2] X.env) :
  PE X (.Call (.Name "isinstance" p) [e,.Name cn p2] [] pos) (tM X.K E ca<|BV (g1<|Bm c)<|AB m AE):=by
 refine PE.weak (MS (zgi (c:=c)) i j PyProof.Rows.boot_isinstance (EL g (EL (zkp (v:=.ty c) a b l rfl k hd) FZ) d) (by decide) (by decide) d rfl) λO H Q h=>?_
 exact(HU<|HV h).mono λx n f=>{x,rfl,HS f}
set_option genInjectivity true in
inductive Ru where
 |ok (t:T)|exc (c:Str)
def Bc(K:k6)(ca:Str->Value)(g:kL->Option Ru):Sp:=λe H Q E=>∃F d,A5 F H/\Ah K F d e/\match g d with
 |some (.ok v)=>Dq K F H v Q|some (.exc c)=>∀a b,Ext F H a b R0->XE E ca c a b|none=>False
def Ke:Bool->Str->Option Rs
 |false,c=>↑(.x c)|true,c=>(match GK c with
  |none=>↑(.x c)|some ϊ=>none)
def AM(g:kL->Option Ru)(ms:Ay):AI:=λY=>match ms Y with
 |some (.v a b)=>(match g a with
  |some (.ok v)=>Az b v|some (.exc c)=>Ke b c|none=>none)
 |some (.x c)=>↑(.x c)|none=>none
def zmd(h:tM K E ca (AM g ms) O H Q):WM (Bc K ca g) [] E (CU K E ca ms) O H Q:=by
 let(F,Y,R,S,q):=h;refine{F,Y,R,S,?_};unfold AM at q;cases o:ms Y with
 |none=>erw[o]at q<;>symm|some r=>
  erw[o]at q;cases r with
  |x c=>exact q|v s b=>
   intro e u xs d rs;have w:=S.ext d;rw[Ć];refine{Gz b e u R,s,TY w,rs,?_};cases m:g s with
   |none=>erw[m]at q<;>symm|some r=>
    erw[m]at q;cases r with
    |exc c=>
     cases b with
     |false=>exact λk f a=>q k f (d.trans0 a)|true=>
      erw[Ke]at q;cases j:GK c with
      |none=>rw[j]at q;exact λk f a=>(q e f<|d.grow a.hh).any j|some n=>rw[j]at q;symm
    |ok v=>
     intro t l z C a p;simp only at q;unfold Az at q;cases b with
     |false=>exact q t l z C (d.trans0 a) p|true=>
      cases i:v.flat with
      |false=>rw[i]at q;cases q|true=>rw[i]at q;exact q e l z R0 (d.grow a.hh)<|p.flat_any i
theorem zo2(D:DefX X.prog X.w X.K X.mg X.base k x ps<|Bc X.K ca g)(i:Room j X.A)(l:DF X E)(c:PA X (e::es)<|CU X.K E ca ms)(hk:k<=j)(f:Gl X x)(a:(x == "__debug__")=false)
  (d:starEach (e::es) X.env=(false,eval e X.env)::starEach es X.env) (b:(backTo pos<|starEach es X.env).any (·.1)=false):PE X (.Call (.Name x p) (e::es) [] pos)<|tM X.K E ca<|AM g ms:=PE.weak (px D i l c hk f a d b) λϊ ϊ ϊ h=>zmd h
end
section
variable {X:Cx}{E:L2.St->XK}{ca:Str->Value}{ms:Ay}{e:Expr}{es:kC}{p pos:Pos}
end
def G9(K:k6)(Γ:It)(F:Hp)(ts:kL):Prop:=∀(i:Nat) (d c:Hp),A5 F d->A5 d c ->
 (∀t,ts[i]?=↑t->Γ.go i c/\∀x a,Γ.yld i c x a->∃b,Ext d c b a R0/\Rp K b a t x R0)/\(i=ts.length->Γ.stop i c)
def pI(K:k6)(E:L2.St->XK)(ca:Str->Value)(O:L2.St)(P:It->Hp->Prop)(F H:Hp):Option RsL->Prop
 |some (.v d ϊ)=>∀a b Γ,Ext F H a b R0->G9 K Γ a d->P Γ b|some (.x c)=>∀a b,Ext F H a b R0->XE (E O) ca c a b|none=>False
def tI(K:k6)(E:L2.St->XK)(ca:Str->Value)(m:Ay):TI:=λO H P=>∃F Y R,StR K F H O Y R/\pI K E ca O P F H (m Y)
def GX:T->Bool
 |.nd ϊ .lst ϋ=>true|.nd ϊ .rl ϋ=>true|.nd ϊ (.pin ϋ) ό=>true|ϊ=>false
def Iu(m:AI):Ay:=λY=>match m Y with
 |some (.v (.nd ϊ k l) false)=>↑(.v (BQ l) false)|some (.x c)=>↑(.x c)|ϊ=>none
def Br(a:Int)(n:Nat):kL:=(List.range n).map λ(i:Nat)=>.int<|a+(i:Int)
def CI(j:Int):Bool:=@decide (-(2 ^ 62)<=j/\j<2 ^ 62) (Classical.propDecidable _)
def NW:kL->kA
 |[.int j]=>↑j|ϊ=>none
def CN(ms:Ay):Ay:=λY=>match ms Y with
 |some (.v a ϊ)=>(match NW a with
  |some j=>if CI j then ↑(.v (Br 0 j.toNat) false) else none
  |none=>none)
 |r=>r
def E9:Nat->kL->kL
 |ϊ,[]=>[]|i,t::r=>.tup [.int (i:Int),t]::E9 (i+1) r
def Hu:kL->Option (kL)
 |[.nd o k l]=>if GX (.nd o k l) then ↑l else none
 |ϊ=>none
def NV:kL->Option (kL×kL)
 |[.nd o k l,.nd b a m]=>if GX (.nd o k l) && GX (.nd b a m) then ↑(l,m) else none
 |ϊ=>none
def E7(ms:Ay):Ay:=λY=>match ms Y with
 |some (.v a false)=>(match Hu a with
  |some l=>↑(.v (E9 0 l) false)|none=>none)
 |some (.v ϊ true)=>none|r=>r
def DO(l m:kL):kL:=List.zipWith (λa b=>T.tup [a,b]) l m
def HB(ms:Ay):Ay:=λY=>match ms Y with
 |some (.v a false)=>(match NV a with
  |some (l,m)=>↑(.v (DO l m) false)|none=>none)
 |some (.v ϊ true)=>none|r=>r
def fF:∀(l) (n i),(E9 n l)[i]?=(l[i]?).map λt=>T.tup [.int (n+i:Nat),t]
 |[],n,i=>by rfl|t::r,n,i=>by
  cases i with
  |zero=>rfl|succ i=>
   erw[E9,ŋ];rw[fF r (n+1) i]
   grind
def zcn(l):∀n,(E9 n l).length=l.length:=by
 induction l with
 |nil=>intro n;rfl|cons t r a=>simp[E9,a]
section
variable {X:Cx}{E:L2.St->XK}{ca:Str->Value}{O:L2.St}{H:Hp}{m ma mb mc:AI}{ms:Ay}{K:k6}{a b c e tg:Expr}{es elts:kC}{pos p tpos:Pos}{kk:Nat}
def TK{p}(n:∀F' H' ,A5 F F'->A5 F' H'->A3 K H' p xs)(r:Ah K F l xs):G9 K (VD K p) F l:=by
 intro i F' H' s1 b;have sq:=n F' H' s1 b;refine{λt a=>?_,λe=>{xs,sq,by rw[e,r.1];simp}}
 have d:i<xs.length:=by
  have:=(Ñ.mp a).1;have:=r.1
  lia
 refine{{xs,xs[i],sq,Â d},λx c y=>?_}
 let(rfl,y):=y;have f:=y xs sq;exact{F',Ext.refl b,((r.same s1).2 i t x a f).any}
def bG{p}(n:∀F' H' ,A5 F F'->A5 F' H'->By K H' p xs)(r:Ah K F l xs):G9 K (VC K p) F l:=by
 intro i F' H' s1 b;have sq:=n F' H' s1 b;refine{λt a=>?_,λe=>{xs,sq,by rw[e,r.1];simp}}
 have d:i<xs.length:=by
  have:=(Ñ.mp a).1;have:=r.1
  lia
 refine{{xs,xs[i],sq,Â d},λx c y=>?_}
 let(rfl,y):=y;have f:=y xs sq;exact{F',Ext.refl b,((r.same s1).2 i t x a f).any}
def zfh{lo}:G9 K (Ny lo n) F<|Br lo n:=by
 intro i d l s1 k;refine{λt b=>?_,λe=>?_}
 .unfold Br at b;rw[Ë]at b;let(j,a,g):=Ø.mp b
  have c:i<n:=by
   have:=(Ñ.mp a).1
   simpa using this
  have h:i=j:=by rw[Ż c]at a;exact Ý a
  subst h;subst g;refine{c,λx f y=>?_}
  let(rfl,rfl):=y;exact{d,Ext.refl k,.int _}
 .have:n<=i:=by rw[e];simp[Br]
  exact this
def bH{p}(n:∀F' H' ,A5 F F'->A5 F' H'->A3 K H' p xs)(r:Ah K F l xs):G9 K (Nz K k p) F<|E9 k l:=by
 intro i F' H' s1 c;have sq:=n F' H' s1 c;refine{λt b=>?_,λe=>{xs,sq,by rw[e,zcn,r.1];simp}}
 rw[fF]at b;let(m,a,rfl):=Ø.mp b
 have g:i<xs.length:=by
  have:=(Ñ.mp a).1;have:=r.1
  lia
 refine{{xs,xs[i],sq,Â g},λx f y=>?_}
 let(q,d,rfl,h,rfl,y):=y;have j:=y xs sq;have e:=Ext.new (o:=.tup [.int<|k+i,d]) c h;refine{_,e,Ah.of_node CP ?_};exact .cons (H:=H') (.int _)<|.cons (H:=H') (((r.same<|s1.trans e.ff).2 i m d a j).any) .nil
def zlo{p p2}(n:∀F' H' ,A5 F F'->A5 F' H'->A3 K H' p xs)(A:∀F' H' ,A5 F F'->A5 F' H'->A3 K H' p2 ys)(r:Ah K F l xs)(h:Ah K F l2 ys):G9 K (VB K p p2) F<|DO l l2:=by
 intro i F' H' s1 g;have sq:=n F' H' s1 g;have b:=A F' H' s1 g;have l1:=r.1;have w:=h.1;refine{λt a=>?_,λe=>{xs,ys,sq,b,?_}}
 .unfold DO at a;rw[ő]at a;cases c:l[i]? with
  |none=>rw[c]at a;cases a|some B=>
   cases d:l2[i]? with
   |none=>rw[c,d]at a;cases a|some C=>
    rw[c,d]at a;cases a;have m:i<xs.length:=by have:=(Ñ.mp c).1;lia
    have f:i<ys.length:=by grind
    refine{{xs,xs[i],ys,ys[i],sq,Â m,b,Â f},λx k y=>?_}
    let(q,j,z0,rfl,s,rfl,y,z):=y;have u:=y xs sq;have v:=z ys b;have e:=Ext.new (o:=.tup [j,z0]) g s;refine{_,e,Ah.of_node CP ?_};exact .cons (H:=H') (((r.same<|s1.trans e.ff).2 i B j c u).any)<|.cons (H:=H') (((h.same<|s1.trans e.ff).2 i C z0 d v).any) .nil
 .have:i=min l.length l2.length:=by rw[e];simp[DO]
  lia
theorem PI.weak(h:PI X tg e t)(w:∀O H P,t' O H P->t O H P):PI X tg e t':=λa s O H P I q=>h a s O H P I<|w O H P q
theorem PI.or(h:PI X tg e t)(h':PI X tg e t'):PI X tg e<|λO H P=>t O H P\/t' O H P:=λa s O H P I q=>q.elim (h a s O H P I)<|h' a s O H P I
def XY(z:PE X e<|tM X.K E ca m):PI X tg e<|tI X.K E ca<|Iu m:=by
 refine PI.weak (PI.or (zkj z)<|zoc z) λO H P h=>?_
 let(F,Y,R,S,q):=h;unfold Iu at q
 have j:∀{o } {k } {l },m Y=↑(.v (.nd o k l) false)->(∀u w Γ,Ext F H u w R0->G9 X.K Γ u (BQ l)->P Γ w)->∀g a x B,Ext F H g a B->Dp X.K g a R (.nd o k l) false x B->∃(d:Hp) (p:Addr) (xs:kK),x=.ref p/\Ext F H d a R0/\GA X.K d k p xs/\Ah X.K d (BQ l) xs:=by
  intro o k l f q g a x B i g1;let(d,b,_,C):=Dp.frz S i g1;have y :=C;rw[T.share]at y;let(p,xs,rfl,_,n,kd):=Dy y;exact{(d),p,xs,rfl,b,n,kd}
 cases f:m Y with
 |none=>erw[f]at q<;>symm|some r=>
  erw[f]at q;cases r with
  |x c=>exact .inl {F,Y,R,S,by rw[f];exact q}|v t A=>
   cases t with
   |nd o k l=>
    cases A with
    |true=>symm|false=>
     simp only at q;cases k with
     |lst=>refine .inl {F,Y,R,S,?_};rw[f];intro g a x B i g1;let(d,p,xs,rfl,b,n,kd):=j f q g a x B i g1;exact{p,rfl,{xs,A3.of<|b.fh _ _ n},q d a _ b<|TK (λu w s1 s=>A3.of<|s _ _<|s1 _ _ n) kd}
     |pin ϊ=>refine .inl {F,Y,R,S,?_};rw[f];intro g a x B i g1;let(d,p,xs,rfl,b,n,kd):=j f q g a x B i g1;exact{p,rfl,{xs,A3.of<|b.fh _ _ n},q d a _ b<|TK (λu w s1 s=>A3.of<|s _ _<|s1 _ _ n) kd}
     |rl=>refine .inl {F,Y,R,S,?_};rw[f];intro g a x B i g1;let(d,p,xs,rfl,b,n,kd):=j f q g a x B i g1;exact{p,rfl,{xs,b.fh.seq n.l},q d a _ b<|TK (λu w s1 s=>s.seq<|s1.seq n.l) kd}
     |tup=>refine .inr {F,Y,R,S,?_};rw[f];intro g a x B i g1;let(d,p,xs,rfl,b,n,kd):=j f q g a x B i g1;exact{p,rfl,{xs,By.of<|b.fh _ _ n},q d a _ b<|bG (λu w s1 s=>By.of<|s _ _<|s1 _ _ n) kd}
     |rt=>refine .inr {F,Y,R,S,?_};rw[f];intro g a x B i g1;let(d,p,xs,rfl,b,n,kd):=j f q g a x B i g1;exact{p,rfl,{xs,Ge b.fh n},q d a _ b<|bG (λu w s1 s=>Ge s<|Ge s1 n) kd}
   |_=>symm
def Ln{f:(Ay)->Ay}   (i:∀Y c,ms Y=↑(.x c)->f ms Y=↑(.x c))(d:∀Y,ms Y=none->f ms Y=none)
  (g : ∀ F Y R ts b, StR K F H O Y R -> ms Y = ↑(.v ts b) -> (match f ms Y with
   |some (.v us ϊ)=>∀F' H' Γ,Ext F H F' H' R0->G9 K Γ F' us->P Γ H'|some (.x c)=>∀F' H',Ext F H F' H' R0->XE (E O) ca c F' H'|none=>False)->∀F' H' xs,Ext F H F' H' R0->Ah K (Gz b F' H' R) ts xs->W xs H') (h:tI K E ca (f ms) O H P):CU K E ca ms O H W:=by
 let(F,Y,R,S,q):=h;refine{F,Y,R,S,?_};cases a:ms Y with
 |none=>rw[d Y a]at q;symm|some r=>
  cases r with
  |x c=>rw[i Y c a]at q;exact q|v ts b=>exact λF' H' xs e rs=>g F Y R ts b S a q F' H' xs e rs
def zhq(h:CI j=true):-(2 ^ 62)<=j/\j<2 ^ 62:=@of_decide_eq_true _ (Classical.propDecidable _) h
def zha(o:Gl X "range")(r:X.mg "range"=none)(n:PA X [a]<|CU X.K E ca ms)(s:starEach [a] X.env=[(false,eval a X.env)]):PI X tg (.Call (.Name "range" p) [a] [] pos)<|tI X.K E ca<|CN ms:=by
 refine PI.weak (zf2 o r n s) λO H P h=>?_
 refine Ln (f:=CN) (λY c e=>by unfold CN;rw[e]) (λY e=>by unfold CN;rw[e]) (λF Y R t b S e q k l xs m rs=>?_) h
 unfold CN at q;rw[e]at q;simp only at q;cases d:NW t with
 |none=>erw[d]at q<;>symm|some j=>
  erw[d]at q
  by_cases g:CI j=true
  .erw[g,Å]at q;let(g1,g2):=zhq g;unfold NW at d;split at d
   .cases d;let(v,u,rfl,r1,i):=rs.inv;cases i.inv0;rw[r1.int_inv];exact{j,rfl,g1,g2,q k l _ m zfh}
   .cases d
  .erw[g]at q;symm
def K0(h:GX (.nd o k l)=true)(r:Rp K F F (.nd o k l) x R0):∃p xs,x=.ref p/\(∀F' H' ,A5 F F'->A5 F' H'->A3 K H' p xs)/\Ah K F l xs:=by
 let(p,xs,rfl,_,n,kd):=Dy r;refine{p,xs,rfl,λF' H' s1 a=>?_,kd}
 cases k with
 |lst=>exact A3.of (a _ _<|s1 _ _ n)|rl=>exact a.seq (s1.seq n.l)|tup=>cases h|rt=>cases h|pin q=>exact A3.of<|a _ _<|s1 _ _ n
set_option tactic.hygienic true in
def XZ(o:Gl X "enumerate")(r:X.mg "enumerate"=none)(n:PA X [a]<|CU X.K E ca ms)(s:starEach [a] X.env=[(false,eval a X.env)]):PI X (.Tuple elts kk tpos) (.Call (.Name "enumerate" p) [a] [] pos)<|tI X.K E ca<|E7 ms:=by
 refine PI.weak (zkk o r n s) λO H P h=>?_
 refine Ln (f:=E7) (λY c e=>by unfold E7;rw[e]) (λY e=>by unfold E7;rw[e]) (λF Y R u b S e q i j xs k rs=>?_) h
 unfold E7 at q;rw[e]at q;cases b with
 |true=>symm|false=>
  simp only at q;cases d:Hu u with
  |none=>erw[d]at q<;>symm|some l=>
   erw[d]at q;unfold Hu at d;split at d
   .split at d
    .cases d;rename_i m;let(x,v,rfl,r1,g):=rs.inv;cases g.inv0;let(t,w,rfl,sq,kd):=K0 m r1;exact{t,rfl,{w,sq i j (.refl _) k.fh},q i j _ k<|bH sq kd}
    .cases d
   .cases d
set_option tactic.hygienic true in
def r_zip(t:Gl X "zip")(u:X.mg "zip"=none)(s:PA X [a,b]<|CU X.K E ca ms)(v:starEach [a,b] X.env=[(false,eval a X.env),(false,eval b X.env)])(m:starEach [b] X.env=[(false,eval b X.env)]):PI X (.Tuple elts kk tpos) (.Call (.Name "zip" p) [a,b] [] pos)<|tI X.K E ca<|HB ms:=by
 refine PI.weak (zob t u s v m) λO H P h=>?_
 refine Ln (λY c e=>by unfold HB;rw[e]) (λY e=>by unfold HB;rw[e]) (λF Y R A b S e q g i xs j rs=>?_) h
 unfold HB at q;rw[e]at q;cases b with
 |true=>symm|false=>
  simp only at q;cases d:NV A with
  |none=>erw[d]at q<;>symm|some w=>
   let(l,I):=w;erw[d]at q;unfold NV at d;split at d
   .split at d
    .cases d;rename_i k;rw[È]at k;let(J,B,rfl,r1,o):=rs.inv;let(x2,C,rfl,z,r):=o.inv;cases r.inv0;let(x,D,rfl,sq,kd):=K0 k.1 r1;let(y,G,rfl,f,n):=K0 k.2 z;exact{x,y,rfl,{D,sq g i (.refl _) j.fh},{G,f g i (.refl _) j.fh},q g i _ j<|zlo sq f kd n}
    .cases d
   .cases d
end
def StR.set{K}(S:StR K F H O Y R)(r:Rp K F H t x A)(d:∀j a,j≠i->R j a->¬ A a)(l:i<Y.length) :
  StR K F H (O.set i ↑x) (Y.set i ↑t) (λj=>if j=i then A else R j):=by
 have n:=S.len;refine{S.fh,by simp[n],λj h e=>?_,λj a z=>?_,λj k a f g c=>?_}
 .by_cases b:j=i
  .subst b;rw[é l]at e;cases e;exact{x,é (by lia),by simpa using r}
  .rw[æ<|Î b]at e ⊢;let(y,m,r1):=S.rep j h e;exact{y,m,by simpa[b] using r1}
 .by_cases b:j=i
  .subst b;exact{t,é l}
  .erw[b,Ã]at z;let(h,e):=S.out j a z;exact{h,by rw[æ<|Î b];exact e}
 .by_cases b:j=i
  .erw[b,Å]at g;have hk:¬ k=i:=λz=>f<|b.trans z.symm
   erw[hk,Ã]at c;exact d k a hk c g
  .erw[b,Ã]at g
   by_cases hk:k=i
   .erw[hk,Å]at c;exact d j a b g c
   .erw[hk,Ã]at c;exact S.dis j k a f g c
def Ef(K:k6)(b:T->AN->Option AN):TG:=λv O H Q=>∃F Y R t e,StR K F H O Y R/\Rp K F H t v R0/\b t Y=↑e/\∀c d,StR K F H c e d->(∀i a,d i a->R i a)->Q c H
def HW(K:k6)(b:kL->AN->Option AN):JG:=λg O H Q=>∃F Y R f e,StR K F H O Y R/\Ah K F f g/\b f Y=↑e/\∀c d,StR K F H c e d->(∀i a,d i a->R i a)->Q c H
def AD(i:Nat):T->AN->Option AN:=λt Y=>if i<Y.length then ↑(Y.set i ↑t) else none
def Ao:kL->AN->Option AN
 |[],Y=>↑Y|ϊ::ϋ,ό=>none
def AL(b:T->AN->Option AN)(bs:kL->AN->Option AN):kL->AN->Option AN
 |t::c,Y=>(match b t Y with
  |some a=>bs c a|none=>none)
 |[],ϊ=>none
def An(n:Nat)(bs:kL->AN->Option AN):T->AN->Option AN
 |.nd ϊ .tup l,Y=>if l.length=n then bs l Y else none
 |.nd ϊ .rt l,Y=>if l.length=n then bs l Y else none
 |.nd ϊ .lst l,Y=>if l.length=n then bs l Y else none
 |ϊ,ϋ=>none
def zof(i:X.calm=true)(h:EV X es t)(j:(assignEach es X.env).length=n)(c:(assignEach es X.env).findIdx? (·.1)=none):PG X (.Tuple es k pos) (λv O H Q=>T5 X.K n t v O H Q\/∃a xs,v=.ref a/\A3 X.K H a xs/\xs.length=n/\t xs O H Q):=by
 intro l s O H v u Q I r d
 rcases d with d|⟨a,xs,q,y,w,d⟩
 .exact zoe i h j c l s O H v u Q I r d
 .subst q;cases r;let(g,A,(o,m,x,f,_,hd),C):=I.list y;refine À<|ĭ ?_;unfold unpack;rw[c,j,show n=g.toArray.size by simp[<- w,A.length]]
  refine À<|ò<|W.kun_itemsOf (I.ok.hd i) {(o),x,f,m,hd} λB z=>?_
  have p :=I.kept (t':=s.toks) λb o e=>z b o (Õ<|Ä e) e
  exact h l _ O H xs _ Q p (by grind) d
section
variable {X:Cx}{e:Expr}{es:kC}{pos:Pos}{b:T->AN->Option AN}{bs:kL->AN->Option AN}
theorem PG.weak(h:PG X e t)(w:∀v O H Q,t' v O H Q->t v O H Q):PG X e t':=λa s O H v u Q I r q=>h a s O H v u Q I r<|w v O H Q q
theorem EV.weak(h:EV X es t)(w:∀v O H Q,t' v O H Q->t v O H Q):EV X es t':=λa s O H v u Q I r q=>h a s O H v u Q I r<|w v O H Q q
set_option tactic.hygienic true in
def g_nm(b:X.N.Nodup)(d:X.N[i]?=↑x)(k:HP X.env.scope x)(c:X.fn x=true\/X.env.scope.names.lookup x=↑.local):PG X (.Name x pos)<|Ef X.K<|AD i:=by
 refine PG.weak (zkm b d k c) λv O H Q h=>?_
 let(F,Y,R,t,l,S,r,e,q):=h;unfold AD at e;split at e
 .cases e;rename_i g;refine q _ _ (S.set r (λϊ ϊ ϊ ϊ z=>z.elim) g) λj a z=>?_
  by_cases f:j=i
  .erw[f]at z;exact z.elim
  grind
 .cases e
theorem g_nil:EV X []<|HW X.K Ao:=EV.weak zkl λv O H Q h=>by
 let(F,Y,R,a,b,S,r,e,q):=h;cases a with
 |nil=>cases e;exact{r.inv0,q O R S λϊ ϊ z=>z}|cons ϊ ϋ=>cases e
def zq2(n:PG X e<|Ef X.K b)(o:EV X es<|HW X.K bs)(p:(assignEach (e::es) X.env).map (·.2)=assign e X.env::(assignEach es X.env).map (·.2)):EV X (e::es)<|HW X.K<|AL b bs:=by
 refine EV.weak (zhi n o p) λv O H Q h=>?_
 let(F,Y,R,d,m,S,r,e,q):=h;cases d with
 |nil=>cases e|cons t d=>
  let(x,xs,rfl,r1,rs):=r.inv;unfold AL at e;simp only at e;cases f:b t Y with
  |none=>grind|some c=>rw[f]at e;exact{x,xs,rfl,F,Y,R,t,c,S,r1.any,f,λu j k s=>{F,c,j,d,m,k,rs,e,λg R2 l w2=>q g R2 l λi a z=>s i a<|w2 i a z}}
set_option tactic.hygienic true in
def g_tup(s:X.calm=true)(h:EV X es<|HW X.K bs)(w:(assignEach es X.env).length=n)(g:(assignEach es X.env).findIdx? (·.1)=none):PG X (.Tuple es k pos)<|Ef X.K<|An n bs:=by
 refine PG.weak (zof s h w g) λv O H Q h=>?_
 let(F,Y,R,t,f,S,r,e,q):=h
 have c:∀{o:Bool} {kd:Kd} {l:kL},t=.nd o kd l->(kd=.tup\/kd=.rt\/kd=.lst)->(if l.length=n then bs l Y else none)=↑f->(T5 X.K n (HW X.K bs) v O H Q\/∃a xs,v=.ref a/\A3 X.K H a xs/\xs.length=n/\HW X.K bs xs O H Q):=by
  intro o kd l m hk d;subst m;split at d
  .rename_i u;let(p,xs,rfl,_,j,b):=Dy<|r.any (H':=F);have i:xs.length=n:=by rw[<- b.1];exact u
   rcases hk with rfl|rfl|rfl
   .exact .inl {p,xs,rfl,By.of<|S.fh _ _ j,i,F,Y,R,l,f,S,b,d,q}
   .exact .inl {p,xs,rfl,Ge S.fh j,i,F,Y,R,l,f,S,b,d,q}
   .exact .inr {p,xs,rfl,A3.of<|S.fh _ _ j,i,F,Y,R,l,f,S,b,d,q}
  .cases d
 unfold An at e;split at e
 .exact c rfl (.inl rfl) e
 .exact c rfl (.inr<|.inl rfl) e
 .exact c rfl (.inr<|.inr rfl) e
 .cases e
end
section
abbrev KP(l:Addr):Obj:={ cls:=.type "list_iterator",data:=.fields #[.ref l,.int 0 0] }
abbrev UE(p:Addr)(k:Int):Obj:={ cls:=.type "enumerate",data:=.fields #[.none,.bool false,.ref p,rawInt k,.none,.none] }
set_option maxHeartbeats 1000001 in
set_option tactic.hygienic true in
theorem zl7(l:Addr)(b:Array Value)(n:Nat)(d:Option Addr)(k:Array<|Option Value)(t:Tok) :
  Meets (Builtin.«enumerate.__new__» {[.type "enumerate",.ref l],[("start",.int 1 t)]}) (λϊ R s=>s.heap.get? l=↑{.type "list",d,.seq b n,k} /\
   R (.ok<|.ret<|.ref (s.heap.push<|KP l).objs.size) { s with heap:=(s.heap.push<|KP l).push (UE s.heap.objs.size 1) }):=Meets.of_wp λprog w A R s h=>by
 let(j,g,i,tk,os):=s;let(a,h):=h;have f:=sub_enumerate;have e:Heap.IsList (Shared.heap {(j),g,i,tk,os}) l b:={_,a,rfl,n,rfl}
 wp_walk using Ţ a
 refine wpAny_stack_any λst=>Ç ?_
 split
 .rename_i c _ _ _ _ _;cases (c == Value.type "enumerate")
  .wp_walk using Ţ a,Į e
   exact{_,rfl,h}
  .wp_walk using Ţ a,Į e
   exact{_,rfl,h}
 .wp_walk using Ţ a,Į e
  exact{_,rfl,h}
set_option maxHeartbeats 1000001 in
theorem zi1(x l:Addr)(t:Tok):Meets (Builtin.«object.__init__» {[.ref x,.ref l],[("start",.int 1 t)]})<|λϊ R s=>s.TypeIs (.ref x) "enumerate"/\R (.ok<|.ret .none) s:=Meets.of_wp λprog w A R s c=>by
 let(d,b):=c;have e:=Β.init.lookup;have f:=Β.made;have a:(↑"enumerate.__new__" != ↑"object.__new__")=true:=by decide
 repeat (any_goals (first|assumption|wp_step))
 exact{_,rfl,b}
set_option maxHeartbeats 1000001 in
def zj1{prog:Program}{w:World}{A:Around}{E:Value->Shared->Prop}{s:Shared}{l:Addr}{g:Array Value}{t:Tok}{Q:Value->Shared->Prop}(G:s.heap.IsList l g)
  (h:∀h',IsEnum h' (s.heap.objs.size+1) s.heap.objs.size 1 .none->h'.IsListIter s.heap.objs.size l 0->h'.objs.size=s.heap.objs.size+2->(∀b o,s.heap.get? b=↑o->h'.get? b=↑o)->Q (.ref<|s.heap.objs.size+1) { s with heap:=h' }) :
  wpAny (model prog w) A (call (.type "enumerate") [.ref l] [("start",.int 1 t)]) Q E s:=by
 let((c,d,D,M),J,j,n,hd):=G
 replace j:c=.type "list":=j
 replace hd:D=.seq g n:=hd
 subst j hd;have a:=Β;let(c,P,y):=a.mro;have m:=a.made;have B:=a.sub;have I:checkTypeCall "enumerate" {[.ref l],[("start",.int 1 t)]}=pure ():=by ext
 have k:checkBuiltinCall "enumerate.__new__" {[.type "enumerate",.ref l],[("start",.int 1 t)]}=pure ():=by ext
 refine İ<|codeAny_of_tree ?_;refine Ç {Code.quiet_builtin _ (by decide +kernel),ı F.entry_type_call ?_}
 rw[Around.under_plain (weight_type_call_type "enumerate" _ _)<|units_type_call_type "enumerate" _ _];have N:=a.notType;have O:=a.canCreate
 repeat (any_goals (first|assumption|wp_step))
 refine ĉ (Ψ a.plain F.entry_enumerate_new<|ğ k<|zl7 l g n d M t prog w A.in1 (wants (λo s1=>o=.ref (s.heap.objs.size+1)/\s1.TypeIs o "enumerate"/\Q o s1) E) s {J,?_}) λr s1 p=>?_
 .have q:(s.heap.push<|KP l).objs.size=s.heap.objs.size+1:=ć ..
  have v:IsEnum ((s.heap.push<|KP l).push (UE s.heap.objs.size 1)) (s.heap.objs.size+1) s.heap.objs.size 1 .none:=by
   have:=â (s.heap.push<|KP l) (o:=UE s.heap.objs.size 1) rfl;rw[q]at this;exact this
  show _/\_;rw[q];exact{rfl,{_,v,rfl},h _ v {_,Ð _<|â _ rfl,rfl,rfl} (by rw[ć,q]) λb o x=>Ð _<|Ð _ x}
 .cases r with
  |error e=>exact p|ok fl=>
   cases fl with
   |ret obj=>
    let(rfl,u,z):=p;have K:=a.init.lookup;have H:=a.init.bind<|.ref<|s.heap.objs.size+1;have hok:argsOk "object.__init__" {[.ref<|s.heap.objs.size+1,.ref l],[("start",.int 1 t)]}:=by ext
    repeat (any_goals (first|assumption|wp_step))
    refine ĉ (Ψ a.init.plain F.entry_object_init<|a.init.check _ _ _ _ _ _ _ _ u hok<|zi1 _ l t prog w A.in1 (wants (λr C=>r=.none/\Q (.ref<|s.heap.objs.size+1) C) E) s1 {(u),rfl,z}) λL C f=>?_
    cases L with
    |error e=>exact f|ok i=>
     cases i with
     |ret r=>
      let(rfl,z):=f
      repeat (any_goals (first|assumption|wp_step))
     |_=>exact f.elim
   |_=>exact p.elim
end
section
variable {X:Cx}{a:Expr}{elts:kC}{kk ko:Nat}{tpos p pos kp vp:Pos}{E:L2.St->XK}{ca:Str->Value}{ms:Ay}
abbrev Mm(a:Nat)(b kp:Pos):List Keyword:=[{↑(Str.ofString "start"),.Constant (.int 1) a b,kp}]
def zqa{T}(b:args.any (·.1)=false)(c:ks.any (·.1.isNone)=false)
  (h:wpAny M A (evalArgs (.type T) true args ks) (λa s1=>wpAny M A (call (.type T) a.pos a.kw) Q R s1) R s):wpAny M A (callWith pos (.type T) [] args ks) Q R s:=by
 refine À<|ò<|AX h λa s1 q=>À<|ĭ ?_
 erw[b,c];exact À<|Ç<|À<|AX q λr d z=>À<|ò<|wpAny_point<|Ç z
def zpz(K:k6)(c:TA):TI:=λO H R=>c O H λd b=>∃a,d=[.ref a]/\(∃xs,A3 K b a xs)/\R (Nz K 1 a) b
def zhh(t:Gl X "enumerate")(v:X.mg "enumerate"=none)(r:PA X [a] ta)(m:starEach [a] X.env=[(false,eval a X.env)]):PI X (.Tuple elts kk tpos) (.Call (.Name "enumerate" p) [a] (Mm ko vp kp) pos)<|zpz X.K ta:=by
 intro i s O H R I h;have f:eval (.Call (.Name "enumerate" p) [a] (Mm ko vp kp) pos) X.env=(do callWith pos (<- eval (.Name "enumerate" p) X.env) [] (backTo pos<|starEach [a] X.env) (backToKw pos<|keywordEach (Mm ko vp kp) X.env)):=by rfl
 rw[f];refine À<|Fu I t v boot_enumerate<|zqa (by rw[m];rfl) rfl ?_
 have c:backTo pos (starEach [a] X.env)=[(false,eval a X.env)]:=by rw[m];rfl
 have k:=r pos i s O H _ I h;rw[c]at k ⊢;refine evalArgs_kwB rfl<|AX k λD s1 ⟨E,H1,I1,r1,q1⟩=>kws_cons ?_
 refine wpAny_Constant_int<|kws_nil ?_;let(l,e,(xs,w),q):=q1;subst e;let(u,rfl,A):=Er r1;cases A;have j:Inv X i O H1 { s1 with toks:=s1.toks+1 }:=I1.tok _
 let(y,C,z,B):=j.list w;refine zj1 z.isList λo f g x hk=>?_
 have n:Inv X i O H1 { s1 with heap:=o,toks:=s1.toks+1 }:=j.kept hk
 refine Φ f {s1.heap.objs.size+1,[s1.heap.objs.size+1,s1.heap.objs.size],_,_,H1,rfl,n,Vh 1 l _ _ (by simp),{{_,by simpa using f},g},λb c=>?_,q}
 have d:s1.heap.objs.size<=b:=by
  obtain rfl|c:=Ì.mp c
  .exact ĕ _
  .rw[Ô.mp c];exact Æ _
 exact I1.fpOk d<|I1.hok.fresh d
def HD(ms:Ay):Ay:=λY=>match ms Y with
 |some (.v a false)=>(match Hu a with
  |some l=>↑(.v (E9 1 l) false)|none=>none)
 |some (.v ϊ true)=>none|r=>r
set_option tactic.hygienic true in
def r_en1(o:Gl X "enumerate")(r:X.mg "enumerate"=none)(n:PA X [a]<|CU X.K E ca ms)(s:starEach [a] X.env=[(false,eval a X.env)]):PI X (.Tuple elts kk tpos) (.Call (.Name "enumerate" p) [a] (Mm ko vp kp) pos)<|tI X.K E ca<|HD ms:=by
 refine PI.weak (zhh o r n s) λO H P h=>?_
 refine Ln (f:=HD) (λY c e=>by unfold HD;rw[e]) (λY e=>by unfold HD;rw[e]) (λF Y R u b S e q i j xs k rs=>?_) h
 unfold HD at q;rw[e]at q;cases b with
 |true=>symm|false=>
  simp only at q;cases d:Hu u with
  |none=>erw[d]at q<;>symm|some l=>
   erw[d]at q;unfold Hu at d;split at d
   .split at d
    .cases d;rename_i m;let(x,v,rfl,r1,g):=rs.inv;cases g.inv0;let(t,w,rfl,sq,kd):=K0 m r1;exact{t,rfl,{w,sq i j (.refl _) k.fh},q i j _ k<|bH sq kd}
    .cases d
   .cases d
end
abbrev G4(h:Heap)(z TI TO:Addr)(a:Value)(f:Bool):Prop:=
 h.get? z=↑{ cls:=.type "zip",dict:=none,data:=.fields #[a,.bool f,.bool false,.ref TI,.ref TO],slots:=#[] }
section
variable {prog:Program}{w:World}{A:Around}{E:Value->Shared->Prop}{s:Shared}
def zjc{z TI TO a:Addr}{f:Bool}{e:Obj}(hz:G4 s.heap z TI TO (rawInt a) f)(d:s.heap.get? a=↑e) :
  wpAny (model prog w) A (Builtin.SmallTypes.ownedTupleIsFree<|.ref z) (λb s'=>b=false/\∃h',s'={ s with heap:=h' }/\G4 h' z TI TO (rawInt a) true/\Heap.SameBut z s.heap h') E s:=by
 refine À<|ý hz rfl (x:=rawInt a) rfl ?_;refine À<|W.kdx_alive d ?_;refine À<|ý hz rfl (x:=.bool f) rfl ?_;cases f with
 |true=>exact Ç {rfl,_,rfl,hz,Heap.SameBut.refl _ _}|false=>exact À<|wpAny_setField_rec hz (by simp) λh c g=>Ç {rfl,_,rfl,c,g}
def VL{z TI TO i1 i2 a:Addr}{f:Bool}{e:Obj}{Q:Fin->Shared->Prop}(hz:G4 s.heap z TI TO (rawInt a) f)(d:s.heap.get? a=↑e)(c:IsPair s.heap TI (.ref i1)<|.ref i2)
  (h:∀h',G4 h' z TI TO (rawInt a) true->Heap.SameBut z s.heap h'->wpAny (model prog w) A (Builtin.SmallTypes.nextOf<|.ref i1) (λx s1=>wpAny (model prog w) A (Builtin.SmallTypes.nextOf<|.ref i2) (λy s2=>wpAny (model prog w) A (newTuple [x,y]) (λr s3=>Q (.done<|.ret r) s3) E s2) E s1) E { s with heap:=h' }) :
  wpAny (model prog w) A (Builtin.«zip.__next__» {[.ref z],[]}) Q E s:=by
 show wpAny _ _ (field (.ref z) 2 >>= _) _ _ _;refine À<|ý hz rfl (x:=.bool false) rfl ?_;show wpAny _ _ (field (.ref z) 3 >>= _) _ _ _;refine À<|ý hz rfl (x:=.ref TI) rfl ?_;refine À<|wpAny_seqItems c rfl ?_;refine À<|ñ (zjc hz d) (λb j ⟨eb,h₁,es,hz₁,hs₁⟩=>?_) λϊ ϊ z=>z
 subst eb es;erw[ą,Ã];refine À ?_;simp only[<- Array.forIn_toList,List.forIn_cons,List.forIn_nil];refine À<|À<|ò ?_;show wpAny _ _ (Builtin.SmallTypes.nextOf (.ref i1) >>= _) _ _ _;refine À<|AX (h h₁ hz₁ hs₁) λx s1 q=>Ç<|Ç ?_
 refine À<|À<|ò ?_;show wpAny _ _ (Builtin.SmallTypes.nextOf (.ref i2) >>= _) _ _ _;refine À<|AX q λy s2 g=>Ç<|Ç<|Ç ?_
 exact À<|AX g λr s3 i=>Ç i
def zjb{z TI TO i1 i2 l1 l2 a:Addr}{f:Bool}{J:Obj}{k1 k2:Nat}{xs ys:Array Value}{x y:Value}{Q:Value->Shared->Prop}(D:ZipApart z TI TO i1 i2 l1 l2)
  (hz:G4 s.heap z TI TO (rawInt a) f) (G:s.heap.get? a=↑J) (m:IsPair s.heap TI (.ref i1)<|.ref i2)
  (B:s.heap.IsListIter i1 l1 k1) (C:s.heap.IsListIter i2 l2 k2) (n:s.heap.IsList l1 xs) (p:s.heap.IsList l2 ys) (H:xs[k1]?=↑x) (I:ys[k2]?=↑y)
  (F : ∀ h', G4 h' z TI TO (rawInt a) true -> h'.IsListIter i1 l1 (k1 + 1) -> h'.IsListIter i2 l2 (k2 + 1) -> IsPair h' s.heap.objs.size x y ->
   (∀c o,c∉[z,i1,i2]->s.heap.get? c=↑o->h'.get? c=↑o)->Q (.ref s.heap.objs.size) { s with heap:=h' }) :
  wpAny (model prog w) A (Builtin.«zip.__next__» {[.ref z],[]}) (λAz s'=>∃v,Az=.done (.ret v)/\Q v s') E s:=by
 refine VL hz G m λt k b=>?_
 refine Ω (B.extBut b.extBut D.i1z) (n.extBut b.extBut D.l1z) H λu i d=>?_
 refine Ω ((C.extBut b.extBut D.i2z).extBut d.extBut D.i12.symm) ((p.extBut b.extBut D.l2z).extBut d.extBut D.l2i1) I λh j g=>?_
 refine wpAny_newTuple {_,rfl,?_};have q:h.objs.size=s.heap.objs.size:=by rw[g.1,d.1,b.1]
 show Q (.ref h.objs.size) _;have r:(h.push { cls:=.type "tuple",data:=.seq #[x,y] }).get? h.objs.size=↑{ cls:=.type "tuple",data:=.seq #[x,y] }:=â _ rfl;rw[q]at r ⊢;refine F _ (Ð _<|g.extBut _ _ D.i2z.symm<|d.extBut _ _ D.i1z.symm k) ((i.extBut g.extBut D.i12).at λo e=>Ð _ e) (j.at λo e=>Ð _ e) r λc o l e=>?_
 erw[Ì,ð,þ,not_or]at l;exact Ð _<|g.extBut _ _ l.2.2<|d.extBut _ _ l.2.1<|b.extBut _ _ l.1 e
def zmi{z TI TO i1 i2 l1 l2 a:Addr}{f:Bool}{G:Obj}{k1 k2:Nat}{xs ys:Array Value}{Q:Fin->Shared->Prop}(hh:A.handled=none)(D:ZipApart z TI TO i1 i2 l1 l2)
  (hz:G4 s.heap z TI TO (rawInt a) f) (C:s.heap.get? a=↑G) (m:IsPair s.heap TI (.ref i1)<|.ref i2)
  (r:s.heap.IsListIter i1 l1 k1) (B:s.heap.IsListIter i2 l2 k2) (j:s.heap.IsList l1 xs) (p:s.heap.IsList l2 ys) (u:xs[k1]?=none\/ys[k2]?=none)
  (t:∀h' e,(∀c o,c∉[z,TO,i1,i2]->s.heap.get? c=↑o->h'.get? c=↑o)->(∃o,h'.get? e=↑o/\o.cls=.type "StopIteration")->E (.ref e) { s with heap:=h' }) :
  wpAny (model prog w) A (Builtin.«zip.__next__» {[.ref z],[]}) Q E s:=by
 refine VL hz C m λy q b=>?_
 cases v:xs[k1]? with
 |none=>
  refine Υ hh (r.extBut b.extBut D.i1z) (j.extBut b.extBut D.l1z) v λh e d n=>t h e (λc o g x=>?_) n
  erw[Ì,ð,þ,not_or]at g;exact d _ _ g.2.2.1<|b.extBut _ _ g.1 x
 |some x=>
  have F:ys[k2]?=none:=by grind
  refine Ω (r.extBut b.extBut D.i1z) (j.extBut b.extBut D.l1z) v λh l d=>?_
  refine Υ hh ((B.extBut b.extBut D.i2z).extBut d.extBut D.i12.symm) ((p.extBut b.extBut D.l2z).extBut d.extBut D.l2i1) F λk e i n=>t k e (λc o g x=>?_) n
  erw[Ì,ð,þ,not_or]at g;exact i _ _ g.2.2.2<|d.extBut _ _ g.2.2.1<|b.extBut _ _ g.1 x
def ZS(h:Heap)(z TI TO i1 i2 l1 l2 i:Nat)(p:Option Addr):Prop:=(match p with
 |none=>G4 h z TI TO .none false|some a=>∃f c,G4 h z TI TO (rawInt a) f/\h.get? a=↑c)/\IsPair h TI (.ref i1) (.ref i2)/\(∃a b,IsPair h TO a b)/\h.IsListIter i1 l1 i/\h.IsListIter i2 l2 i
def zj9{z TI TO i1 i2 l1 l2 i:Nat}{p:Option Addr}{xs ys:Array Value}{x y:Value}{Q:Option Value->Shared->Prop}(D:ZipApart z TI TO i1 i2 l1 l2)(u:ZS s.heap z TI TO i1 i2 l1 l2 i p)(P:∀a∈p,a∉[z,TO,i1,i2])
  (k:s.heap.IsList l1 xs) (l:s.heap.IsList l2 ys) (M:xs[i]?=↑x) (N:ys[i]?=↑y)
  (J : ∀ h', ZS h' z TI TO i1 i2 l1 l2 (i + 1) (↑(p.getD s.heap.objs.size)) -> IsPair h' s.heap.objs.size x y ->
   (∀c o,c∉[z,TO,i1,i2]->s.heap.get? c=↑o->h'.get? c=↑o)->Q (↑(.ref s.heap.objs.size)) { s with heap:=h' }) :
  wpAny (model prog w) A (pyNext<|.ref z) Q E s:=by
 let(G,d,(a,b,j),H,I):=u;have B:TI∉[z,TO,i1,i2]:=by simp[D.TIz,D.TITO,D.TIi1,D.TIi2]
 cases p with
 |none=>
  refine wpAny_pyNext_zip_item D G d j H I k l M N λh' n q r t C R hk=>?_
  refine J h' {{_,_,n,C},hk _ _ D.TIz D.TITO D.TIi1 D.TIi2 d,{_,_,q},r,t} C λc o g e=>?_
  erw[Ì,ð,þ,not_or]at g;exact hk c o g.1 g.2.1 g.2.2.1 g.2.2.2 e
 |some v=>
  let(f,S,O,L):=G;have K:s.TypeIs (.ref z) "zip":={_,O,rfl};unfold pyNext
  refine À (wpAny_attempt (wpAny_callSpecial?_slot (name:=Str.ofString "__next__") K Ř (wpAny_call_entry Ř K F.entry_zip_next
   (zjb D O L d H I k l M N λh' n q r t hk=>Ç ?_) (F.args_zip_next_1 _))))
  have h:∀c o,c∉[z,TO,i1,i2]->s.heap.get? c=↑o->h'.get? c=↑o:=λc o g e=>hk c o (λm=>g<|by grind) e
  exact J h' {{_,_,n,h _ _ (P v rfl) L},h _ _ B d,{_,_,hk _ _ (by simp[D.TOz,D.TOi1,D.TOi2]) j},q,r} t h
def zja{z TI TO i1 i2 l1 l2 i:Nat}{p:Option Addr}{xs ys:Array Value}{Q:Option Value->Shared->Prop}(hh:A.handled=none)(D:ZipApart z TI TO i1 i2 l1 l2)(l:ZS s.heap z TI TO i1 i2 l1 l2 i p)
  (h:s.heap.IsList l1 xs) (j:s.heap.IsList l2 ys) (d:xs[i]?=none\/ys[i]?=none)
  (r:∀h',(∀c o,c∉[z,TO,i1,i2]->s.heap.get? c=↑o->h'.get? c=↑o)->Q none { s with heap:=h' }) :
  wpAny (model prog w) A (pyNext<|.ref z) Q E s:=by
 let(m,g,(a,b,k),n,q):=l;cases p with
 |none=>
  refine wpAny_pyNext_zip_end hh D m g k n q h j d λh' hk=>r h' λc o u e=>?_
  grind
 |some v=>
  let(f,G,x,y):=m;have t:s.TypeIs (.ref z) "zip":={_,x,rfl};unfold pyNext
  refine À (wpAny_attempt (wpAny_callSpecial?_slot (name:=Str.ofString "__next__") t Ř (wpAny_call_entry Ř t F.entry_zip_next
   (zmi hh D x y g n q h j d λh' e hk B=>?_) (F.args_zip_next_1 _))))
  let(o,C,u):=B;exact À<|ţ (T:="StopIteration") (b:=true) {(o),C,u} isSubtype_stop<|Ç<|r _ hk
end
structure Zg(xs ys:kK)(H Hh:Hp)(ps:List Addr):Prop where
 same:A5 H Hh
 new:∀p∈ps,H p=none
 at':∀(j:Nat) (p:Addr),ps[j]?=↑p->∃x y,xs[j]?=↑x/\ys[j]?=↑y/\Hh p=↑(.tup [x,y])
def Fl{K}{H H':Hp}{a:Addr}{xs:kK}(h:A3 K H a xs)(s:A5 H H'):A3 K H' a xs:=by
 rcases h with (h|⟨o,h⟩)|h
 .exact .inl<|.inl<|s _ _ h
 .exact .inl<|.inr {o,s _ _ h}
 .exact .inr h
section
variable {X:Cx}{A:Around}{pq:List<|Addr×Obj}{O:L2.St}{R:Result->Shared->Prop}
def zjd{z TI TO i1 i2 l1 l2 S:Nat}{H:Hp}{xs ys:kK}{Z:Value}(hh:A.handled=none)(D:ZipApart z TI TO i1 i2 l1 l2)(hS:S∉[z,TI,TO,i1,i2])(q1:A3 X.K H l1 xs)(q2:A3 X.K H l2 ys)
  (hR:∀s' Hh ps,Inv X pq O (upd Hh S<|.lst<|ps.map V.ref) s'->Hh S=none->Zg xs ys H Hh ps->ps.length=min xs.length ys.length->R (.ok<|.ret Z) s') :
  ∀(k i:Nat) (s:Shared) (Hh:Hp) (ps:List Addr),min xs.length ys.length - i=k->ps.length=i->i<=min xs.length ys.length->Inv X pq O (upd Hh S<|.lst<|ps.map V.ref) s->Hh S=none->Zg xs ys H Hh ps ->
   ZS s.heap z TI TO i1 i2 l1 l2 i ps[0]?->(∀b∈[z,TI,TO,i1,i2],C8 X pq Hh b)->codeAny (model X.prog X.w) A (.builtin "list.extend.loop" {[.ref S,.ref z,Z],[]}) R s:=by
 have B:∀b∈[z,TI,TO,i1,i2],b≠S:=λb d e=>hS<|e▸d
 have hSl:S∉[z,TO,i1,i2]:=λm=>hS<|by grind
 intro k
 induction k with
 |zero=>
  intro i s Hh ps hk M hi I t G st P;have F:=Fl (Fl q1 G.same)<|Fo t<|.lst<|ps.map V.ref;have J:=Fl (Fl q2 G.same)<|Fo t<|.lst<|ps.map V.ref;let(its,rv,p,hz):=I.list F;let(W,K,p2,hz2):=I.list J;refine ı PySem.F.entry_extend_loop ?_;rw[Œ Ō _];show wpAny _ A.in1 (pyNext (.ref z) >>= _) _ _ _;refine À<|zja (A:=A.in1) hh D st p.isList p2.isList ?_ λq C=>Ç ?_
  .have h1:=rv.length;have h2:=K.length
   rcases Nat.le_total xs.length ys.length with h|h
   .exact .inl (by simp;lia)
   .exact .inr (by simp;lia)
  .exact hR _ Hh ps (Gb (t':=s.toks) I C λb d=>K7 (P b<|by grind)<|B b<|by grind) t G<|by lia
 |succ k ih=>
  intro i s Hh ps hk M hi I t G st P;have F:=Fl (Fl q1 G.same)<|Fo t<|.lst<|ps.map V.ref;have J:=Fl (Fl q2 G.same)<|Fo t<|.lst<|ps.map V.ref;let(its,rv,p,hz):=I.list F;let(W,K,p2,hz2):=I.list J;have T:i<xs.length:=by lia
  have U:i<ys.length:=by lia
  let(u,hu,ru):=rv.get<|Â T;let(u2,hu2,ru2):=K.get<|Â U;have Q:∀b∈[z,TI,TO,i1,i2],C8 X pq (upd Hh S<|.lst<|ps.map V.ref) b:=λb d=>K7 (P b d)<|B b d
  have pz:∀a∈ps,a∉[z,TO,i1,i2]:=λa n m=>by
   let(j,L):=List.mem_iff_getElem?.mp n;let(x,y,_,_,e):=G.at' j a L;rw[(P a<|by grind).1]at e
   cases e
  refine ı PySem.F.entry_extend_loop ?_;rw[Œ Ō _];show wpAny _ A.in1 (pyNext (.ref z) >>= _) _ _ _;refine À<|zj9 D st (λa n=>pz a<|ç n) p.isList p2.isList (by simpa using hu) (by simpa using hu2) λq st' pr C=>?_
  have l:=I.hok.fresh<|Æ s.heap.objs.size;have g:S≠s.heap.objs.size:=λe=>by rw[<- e,CP]at l;cases l
  have w:Hh s.heap.objs.size=none:=by rwa[Ap<|Î g]at l
  have I1:Inv X pq O (upd (upd Hh S<|.lst<|ps.map V.ref) s.heap.objs.size<|.tup [xs[i],ys[i]]) { s with heap:=q,toks:=s.toks }:=by
   refine Oa I C (λb d=>Q b<|by grind) (Æ _) ?_
   exact{by erw[Ö,Ď];rw[ė];decide,[u,u2],.cons ru<|.cons ru2 .nil,_,pr,rfl,0,rfl}
  let(hzl,js,c,rj,ej):=I1.hok S _ (by rw[Ap g];exact CP)
  have lj:js.length=i:=by rw[<- rj.length,Á,M]
  show wpAny _ A.in1 (updateSeq S (·.push (Value.ref s.heap.objs.size)) >>= _) _ _ _;refine À<|Ť ej rfl ?_ (by simp[lj];lia) (by simp[lj];lia)
  refine Ç {plainId_quiet Ō _,?_};have up:∀b o,b≠S->q.get? b=↑o->(q.update S (Obj.mapSeq (·.push (Value.ref s.heap.objs.size)))).get? b=↑o:=λb o d e=>(ø _ _<|Î d).trans e
  have eS:=Č (Obj.mapSeq (·.push (Value.ref s.heap.objs.size))) ej rfl
  have I2:=I1.write (x:=S) (e:=S) (t':=s.toks) (o:=.lst<|(ps++[s.heap.objs.size]).map V.ref) (h':=q.update S (Obj.mapSeq (·.push (Value.ref s.heap.objs.size)))) (by rw[Ap g,CP];trivial) (.inl rfl) (λb o d e=>up b o d e) {_,eS}
   {by simp[M];lia,js++[.ref s.heap.objs.size],_,by rw[è];exact rj.append<|.cons rfl .nil,by simpa[Obj.mapSeq] using eS}
  have eH:upd (upd (upd Hh S<|.lst<|ps.map V.ref) s.heap.objs.size<|.tup [xs[i],ys[i]]) S (.lst<|(ps++[s.heap.objs.size]).map V.ref)=upd (upd Hh s.heap.objs.size<|.tup [xs[i],ys[i]]) S (.lst<|(ps++[s.heap.objs.size]).map V.ref):=by
   funext b
   unfold upd
   grind
  rw[eH]at I2;refine ih (i+1) _ _ (ps++[s.heap.objs.size]) (by lia) (by simp[M]) (by lia) I2 (by rw[Ap g];exact t) {G.same.trans<|Fo w _,?_,?_} ?_ ?_
  .intro a n
   rcases ä.mp n with n|n
   .exact G.new a n
   .rw[Ô.mp n];exact GP G.same w
  .intro j a L
   by_cases h1:j<ps.length
   .rw[ÿ h1]at L;let(x,y,e1,e2,e3):=G.at' j a L;exact{x,y,e1,e2,Fo w _ _ _ e3}
   .have h2:j=ps.length:=by
     have:=(Ñ.mp L).1;simp at this
     lia
    subst h2;have:s.heap.objs.size=a:=by simpa using L
    subst this;exact{_,_,by rw[M];exact Â T,by rw[M];exact Â U,CP}
  .let(N,s1,(a,b,s2),s3,s4):=st';have Y:∀b∈[z,TI,TO,i1,i2],∀o,q.get? b=↑o->(q.update S (Obj.mapSeq (·.push (Value.ref s.heap.objs.size)))).get? b=↑o:=λb d o e=>up b o (B b d) e
   have e0:(ps++[s.heap.objs.size])[0]?=↑(ps[0]?.getD s.heap.objs.size):=by cases ps<;>rfl
   rw[e0];let(f,oa,y1,y2):=N;refine{{f,oa,Y _ (by simp) _ y1,up _ _ ?_ y2},Y _ (by simp) _ s1,{a,b,Y _ (by simp) _ s2},s3.at λo e=>Y _ (by simp) o e,s4.at λo e=>Y _ (by simp) o e}
   cases ps with
   |nil=>exact Î g|cons a r=>intro e;let(x,y,_,_,e3):=G.at' 0 a rfl;have e':a=S:=e;rw[e',t]at e3;cases e3
  .intro b d;refine K7 (P b d) λe=>?_
   have:=(Q b d).1
   rcases st with ⟨N,s1,⟨a,c,s2⟩,⟨o3,s3,_⟩,⟨o4,s4,_⟩⟩
   have E:∃o,s.heap.get? z=↑o:=by
    cases hp:ps[0]? with
    |none=>rw[hp]at N;exact{_,N}|some v=>rw[hp]at N;let(f,oa,y,_):=N;exact{_,y}
   let(o0,E):=E
   have:b<s.heap.objs.size:=by
    erw[Ì,ð,þ]at d
    rcases d with rfl|rfl|rfl|rfl|rfl
    .exact Ä E
    .exact Ä s1
    .exact Ä s2
    .exact Ä s3
    .exact Ä s4
   exact absurd (e▸this)<|Þ _
def zdt:typeLookup (.type "zip") "__len__"=pure none:=by ext
def zd2:typeLookup (.type "zip") "__length_hint__"=pure none:=by ext
def zje{E:Value->Shared->Prop}{s:Shared}{z TI TO i1 i2 l1 l2:Nat}{H:Hp}{xs ys:kK}{Q:Value->Shared->Prop}(hh:A.handled=none)(D:ZipApart z TI TO i1 i2 l1 l2)(R:A3 X.K H l1 xs)(T:A3 X.K H l2 ys)(I:Inv X pq O H s)
  (st:ZS s.heap z TI TO i1 i2 l1 l2 0 none) (K:∀b∈[z,TI,TO,i1,i2],C8 X pq H b)
  (J:∀s' Hh ps S,Inv X pq O (upd Hh S<|.lst<|ps.map V.ref) s'->Hh S=none->Zg xs ys H Hh ps->ps.length=min xs.length ys.length->Q (.ref S) s') :
  wpAny (model X.prog X.w) A (call (.type "list") [.ref z]) Q E s:=by
 let(n,i,(ta,tb,l),w,x):=id st
 have u:∀b∈[z,TI,TO,i1,i2],b<s.heap.objs.size:=λb B=>by
  erw[Ì,ð,þ]at B;let(o3,U,_):=w;let(o4,W,_):=x
  rcases B with rfl|rfl|rfl|rfl|rfl
  .exact Ä n
  .exact Ä i
  .exact Ä l
  .exact Ä U
  .exact Ä W
 have y:s.heap.objs.size∉[z,TI,TO,i1,i2]:=λm=>Þ _<|u _ m
 refine callType_codes (Q₁:=λobj d=>obj=.ref s.heap.objs.size/\d={ s with heap:=s.heap.push { cls:=.type "list",data:=.seq #[] } }) F.called_list (F.typeCall_list_1 _) F.entry_list_init (code_list_new _ {(rfl),rfl}) λobj d h=>?_
 let(rfl,rfl):=h;have gS:(s.heap.push { cls:=.type "list",data:=.seq #[] }).get? s.heap.objs.size=↑{ cls:=.type "list",data:=.seq #[] }:=â _ rfl;refine{{_,gS,rfl},F.args_list_init_2 _ _,?_};show wpAny _ _ (Builtin.List.listItems (.ref s.heap.objs.size) >>= _) _ _ _;refine À ?_;unfold Builtin.List.listItems;refine À<|wpAny_seqItems gS rfl<|Ç ?_;show wpAny _ _ (updateSeq s.heap.objs.size (λϊ=>#[]) >>= _) _ _ _
 refine À<|Ť gS rfl ?_;have a:=Č (Obj.mapSeq<|λϊ=>(#[]:Array Value)) gS rfl
 refine À<|wpAny_letGo ?_;have v:s.heap.objs.size≠z:=λe=>y<|by simp[e]
 have q:∀b o,s.heap.get? b=↑o->((s.heap.push { cls:=.type "list",data:=.seq #[] }).update s.heap.objs.size (Obj.mapSeq<|λϊ=>(#[]:Array Value))).get? b=↑o:=λb o e=>
  (ø _ _<|Ī<|Ä e).trans (Ð _ e)
 have t:∀r:Heap,(∀b o,s.heap.get? b=↑o->r.get? b=↑o)->Shared.TypeIs { s with heap:=r } (.ref z) "zip":=λr k=>{_,k _ _ n,rfl}
 unfold Builtin.List.listExtendWith;refine À<|wpAny_typeOf (t _ q) ?_;have Y:Builtin.List.listSameRef (.ref s.heap.objs.size) (.ref z)=false:=by simp[Builtin.List.listSameRef,v]
 have Z:(Value.type "zip" == Value.type "list")=false:=by decide
 have t3:(Value.type "zip" == Value.type "tuple")=false:=by decide
 erw[Y,Z,t3,Ε,ą,Ã];refine À<|Χ (q _ _ n) ?_;refine À<|ò ?_;unfold Builtin.List.listLengthHint;refine À<|ť (t _ q) zdt ?_;show wpAny _ _ (specialOf (.ref z) (Str.ofString "__length_hint__") >>= _) _ _ _;refine À<|ť (t _ q) zd2 ?_;refine Ç ?_;show wpAny _ _ (rule "list.extend.makes-room" >>= λϊ=>Builtin.List.listTouch (.ref s.heap.objs.size) >>= λϊ=>again<|.builtin "list.extend.loop" {[.ref s.heap.objs.size,.ref z,.none],[]}) _ _ _
 refine À<|wpAny_rule ?_;refine À ?_;show wpAny _ _ (updateSeq s.heap.objs.size (·.push .none) >>= λϊ=>updateSeq s.heap.objs.size (·.pop)) _ _ _
 refine À<|Ť a rfl ?_;have c:=Č (Obj.mapSeq (·.push Value.none)) a rfl;refine Ť (hz:=by seq_fits) c rfl ?_
 have f:=Č (Obj.mapSeq (·.pop)) c rfl
 have g:∀b o,s.heap.get? b=↑o->((((s.heap.push { cls:=.type "list",data:=.seq #[] }).update s.heap.objs.size (Obj.mapSeq<|λϊ=>(#[]:Array Value))).update s.heap.objs.size (Obj.mapSeq (·.push Value.none))).update s.heap.objs.size (Obj.mapSeq (·.pop))).get? b=↑o:=λb o e=>
  (ø _ _<|Ī<|Ä e).trans ((ø _ _<|Ī<|Ä e).trans (q b o e))
 have M:=I.hok.fresh<|Æ s.heap.objs.size;refine Ç {plainId_quiet Ō _,zjd (A:=A.in1) (i1:=i1) (i2:=i2) (l1:=l1) (l2:=l2) (H:=H) hh D y R T (λs' Hh ps C P G e=>{rfl,J s' Hh ps _ C P G e}) _ 0 _ H [] rfl rfl (õ _) ?_ M {.refl _,λp N=>(ð N).elim,λj p L=>by simp at L} ?_ K}
 .refine I.laid g (Æ _) {õ _,[],_,.nil,f}
 .exact{g _ _ n,g _ _ i,{_,_,g _ _ l},w.at λo e=>g _ o e,x.at λo e=>g _ o e}
def VM(K:k6)(Q:VK)(vs:kK)(H:Hp):Prop:=∃a b xs d,vs=[.ref a,.ref b]/\A3 K H a xs/\A3 K H b d /\
 ∀c ps S,c S=none->Zg xs d H c ps->ps.length=min xs.length d.length->Q (.ref S) (upd c S<|.lst<|ps.map V.ref)
def tLz(K:k6)(c d:TE):TE:=λO H Q=>c O H λx a=>d O a λy b=>VM K Q [x,y] b
def pe_lz{K L:TE}{a b:Expr}{p E pos pos2:Pos}(hc:X.calm=true)(hg:Gl X "list")(hm:X.mg "list"=none)(r:Gl X "zip")(t:X.mg "zip"=none)(Z:PE X a K)(y:PE X b L)(B:starEach [a,b] X.env=(false,eval a X.env)::starEach [b] X.env)(g:starEach [b] X.env=[(false,eval b X.env)]) :
  PE X (.Call (.Name "list" p) [.Call (.Name "zip" E) [a,b] [] pos2] [] pos) (tLz X.K K L):=by
 intro J s O H Q I h;refine Ğ<|Fu I hg hm ĵ ?_ (by decide)<|by decide
 refine ę ?_ rfl rfl;show wpAny _ _ (spliced<|(false,eval (.Call (.Name "zip" E) [a,b] [] pos2) X.env)::backTo pos (starEach [] X.env)) _ _ s;refine Ž<|Ğ<|Fu I r t boot_zip ?_ (by decide)<|by decide
 refine ę (AX (EL Z (EL y FZ g) B pos2 J s O H (VM X.K Q) I h) λus s1 zz=>?_) B (by rw[g];rfl)
 let(vs,M,c,r1,q1):=zz;let(l1,l2,xs,ys,rfl,A,f,q):=q1;let(u,u2,rfl,ru,w):=Ga r1;cases ru;cases w;let(its,rv,F,hz):=c.list A;let(C,rv2,j,hz2):=c.list f;have v:l1<s1.heap.objs.size:=by let(o,n,e,_):=F;exact Ä e
 have i:l2<s1.heap.objs.size:=by let(o,n,e,_):=j;exact Ä e
 refine call_zip_2 F.isList j.isList λY R T U V W a6 hk=>Ι ?_
 have x:Inv X J O M { s1 with heap:=Y,toks:=s1.toks }:=c.kept hk
 have l:∀k,l1≠s1.heap.objs.size+k:=λk z=>Þ _<|Û v<|z▸đ _ _
 have m:∀k,l2≠s1.heap.objs.size+k:=λk z=>Þ _<|Û i<|z▸đ _ _
 have D:ZipApart (s1.heap.objs.size+4) (s1.heap.objs.size+2) (s1.heap.objs.size+3) s1.heap.objs.size (s1.heap.objs.size+1) l1 l2:=by
  refine{?_,?_,?_,?_,?_,?_,?_,?_,?_,?_,l 4,l 3,l 0,l 1,m 4,m 3,m 0,m 1}<;>intro z<;>simp at z
 refine zje (x.ok.hd hc) D A f x {R,T,{_,_,U},V,W} (λb y=>?_) λs' N ps S P hn G e=>{.ref S,_,P,rfl,q N ps S hn G e}
 have d:s1.heap.objs.size<=b:=by grind
 exact c.fpOk d<|c.hok.fresh d
def IK:T->Option (kL)
 |.nd o k l=>if GX (.nd o k l) && A4 l then ↑l else none
 |ϊ=>none
def KG(m n:AI):AI:=λY=>match m Y with
 |some (.v t ϊ)=>(match n Y with
  |some (.v u ϊ)=>(match IK t with
   |some l=>(match IK u with
    |some r=>↑(.v (.own<|DO l r) false)|none=>none)
   |none=>none)
  |r=>r)
 |r=>r
def bX{K}{F H:Hp}{R:Nat->Rg}{t:T}{b:Bool}{x:V}{B:Rg}{l:kL}(s:A5 F H)(g:Dp K F H R t b x B)(h:IK t=↑l):∃p xs,x=.ref p/\A3 K H p xs/\Ah K F l xs:=by
 have u:∃w,Rp K F H t x w:=by
  cases b with
  |true=>exact g.2.elim λA z=>{(A),z.2}|false=>exact{_,g}
 let(w,u):=u;cases t with
 |nd o k j=>
  change (if (GX (.nd o k j) && A4 j)=true then ↑j else none)=↑l at h
  by_cases a:(GX (.nd o k j) && A4 j)=true
  .rw[if_pos a]at h;cases h;rw[È]at a;cases u with
   |shr n e c=>
    refine{_,_,rfl,?_,e,λi t x m v=>(c i t x m v).any}
    cases k with
    |lst=>exact A3.of (s _ _ n)|rl=>exact Fl n.l s|pin q=>exact A3.of (s _ _ n)|tup=>cases a.1|rt=>cases a.1
   |own hk C f n e c d dp o=>
    refine{_,_,rfl,?_,e,λi t x m v=>?_}
    .cases k with
     |lst=>exact A3.of n|pin q=>exact A3.of n|rl=>exact hk.elim|tup=>cases a.1|rt=>cases a.1
    .have r:=c i t x m v;have y:=r.r0<|zjo a.2 m;rw[y]at r;exact r.any
  grind
 |_=>cases h
def r_lz{E:L2.St->XK}{ca:Str->Value}{m n:AI}{a b:Expr}{p p2 pos pos2:Pos}(hc:X.calm=true)(hg:Gl X "list")(hm:X.mg "list"=none)(N:Gl X "zip")(P:X.mg "zip"=none)(M:PE X a<|tM X.K E ca m)(D:PE X b<|tM X.K E ca n)(hs:starEach [a,b] X.env=(false,eval a X.env)::starEach [b] X.env)(U:starEach [b] X.env=[(false,eval b X.env)]) :
  PE X (.Call (.Name "list" p) [.Call (.Name "zip" p2) [a,b] [] pos2] [] pos) (tM X.K E ca<|KG m n):=by
 refine PE.weak (pe_lz hc hg hm N P M D hs U) λO H Q h=>?_
 let(F,Y,R,S,q):=h;refine{F,Y,R,S,?_};unfold KG at q;cases h1:m Y with
 |none=>rw[h1]at q;symm|some r=>
  rw[h1]at q;cases r with
  |x c=>exact q|v t b1=>
   intro I W x B Z g1;have i:Ext F H I W R0:=Z.mono λϊ z=>z.elim
   refine{I,Y,R,S.ext i,?_};cases h2:n Y with
   |none=>erw[h2]at q<;>symm|some r=>
    erw[h2]at q;cases r with
    |x c=>exact λd s g=>q d s (i.trans0 g)|v u b2=>
     simp only at q;cases C:IK t with
     |none=>erw[C]at q<;>symm|some l=>
      cases L:IK u with
      |none=>erw[C,L]at q<;>symm|some r=>
       erw[C,L]at q;intro d s y B2 g g2;have J:Ext I W d s R0:=g.mono λϊ z=>z.elim
       let(a1,xs,rfl,s1,k1):=bX Z.fh g1 C;let(a2,ys,rfl,s2,k2):=bX g.fh g2 L;refine{a1,a2,xs,ys,rfl,Fl s1 g.hh,s2,λf ps S' hS G el=>?_}
       have o:=k1.same g.ff;have nF:∀a,a∈ps->d a=none:=λa M=>GP g.fh<|G.new a M
       have s3:A5 d f:=g.fh.trans G.same
       have w:Ext d s (frz d f (·∈ps)) f R0:={G.same,Ek nF,Ho s3,λϊ z=>z.elim,λb u e=>by
        by_cases D:b∈ps
        .exact .inr<|G.new b D
        .rw[Ej (A:=(·∈ps)) D]at e;exact .inl e}
       have T:RpO X.K (frz d f (·∈ps)) f (DO l r) (ps.map V.ref)<|λϊ=>R0:=by
        refine{by simp[DO,el,o.1,k2.1],λj t x g1 g2=>?_,λϊ ϊ ϊ ϊ z=>z.elim,λϊ ϊ z=>z.elim}
        rw[Ë]at g2;let(pj,g3,rfl):=Ø.mp g2;let(x,y,y1,y2,y3):=G.at' j pj g3;unfold DO at g1;rw[ő]at g1;cases gl:l[j]? with
        |none=>rw[gl]at g1;cases g1|some lt=>
         cases K:r[j]? with
         |none=>rw[gl,K]at g1;cases g1|some rt=>rw[gl,K]at g1;cases g1;refine Ah.of_node (k:=.tup) (xs:=[x,y]) ?_<|.cons (H:=f) ((o.same w.ff).2 j lt x gl y1).any<|.cons (H:=f) ((k2.same w.ff).2 j rt y K y2).any .nil;show frz d f (·∈ps) pj=_;rw[ET (A:=(·∈ps))<|ç g3];exact y3
       let(w1,w2):=T.list w.fh hS;refine q _ _ (.ref S') _ ((((i.trans0 J).trans0 w).trans0 w2).mono ?_) w1;rintro x (z|⟨_,z⟩)
       .exact z
       .exact z.elim
end
def Bi(b:T->AN->Option AN)(mt me:AI):kL->AN->Option (kL)
 |[],ϊ=>↑[]|t::c,Y=>(match b t Y with
  |some a=>(match mt a with
   |some (.v (.bl true) ϊ)=>(match me a with
    |some (.v v false)=>(match Bi b mt me c a with
     |some l=>↑(v::l)|none=>none)
    |ϊ=>none)
   |some (.v (.bl false) ϊ)=>Bi b mt me c a|ϊ=>none)
  |none=>none)
def GW(b:T->AN->Option AN)(mt me:AI):kL->AN->Option Str
 |[],ϊ=>none|t::d,Y=>(match b t Y with
  |some a=>(match mt a with
   |some (.v (.bl true) ϊ)=>(match me a with
    |some (.v ϊ false)=>GW b mt me d a|some (.x c)=>↑c|ϊ=>none)
   |some (.v (.bl false) ϊ)=>GW b mt me d a|some (.x c)=>↑c|ϊ=>none)
  |none=>none)
def NJ(Y:AN)(j:Nat):kH:=match Y[j]? with
 |some ↑t=>if t.sh then ↑t else none
 |ϊ=>none
def blk(n:Nat)(a:kG)(Y:AN):AN:=List.replicate n none++a.map (NJ Y)
def US(O:L2.St)(j:Nat):Option V:=match O[j]? with
 |some ↑v=>↑v|ϊ=>none
def HJ(n:Nat)(a:kG)(O:L2.St):L2.St:=List.replicate n none++a.map (US O)
def BG(n:Nat)(a:kG)(e:Ay)(b:T->AN->Option AN)(mt me:AI):AI:=λY=>match e Y with
 |some (.v d ϊ)=>if d.length<=BW then (match Bi b mt me d (blk n a Y) with
  |some l=>↑(.v (.own l) false)|none=>(match GW b mt me d (blk n a Y) with
   |some c=>↑(.x c)|none=>none)) else none
 |some (.x c)=>↑(.x c)|none=>none
set_option tactic.hygienic true in
def zqi{K}(S:StR K F H O Y R)(n:Nat)(caps):StR K F H (HJ n caps O) (blk n caps Y)<|λϊ=>R0:=by
 refine{S.fh,by simp[HJ,blk],λi t e=>?_,λϊ ϊ z=>z.elim,λϊ ϊ ϊ ϊ z=>z.elim}
 unfold blk at e;unfold HJ
 by_cases c:i<n
 .rw[ÿ (by simpa using c),ū,if_pos c]at e
  cases e
 .rw[ģ (by simp;lia),Ë]at e ⊢
  erw[ų]at e ⊢;cases b:caps[i - n]? with
  |none=>rw[b]at e;cases e|some j=>
   rw[b]at e;erw[ď]at e ⊢;have a:NJ Y j=↑t:=Ý e;unfold NJ at a;split at a
   .rename_i g f;split at a
    .cases a;rename_i d;let(x,ex,r):=S.rep j _ f;refine{x,?_,r.move d<|.refl _};unfold US;rw[ex]
    .cases a
   .cases a
def Wc{l:kL}(h:tot (λj=>if j=l.length then B else Rr j) a):tot Rr a\/B a:=by
 let(j,z):=h
 by_cases b:j=l.length
 .grind
 .erw[b]at z;exact .inl {(j),z}
section
variable {X:Cx}{E:L2.St->XK}{ca:Str->Value}{O:L2.St}{H:Hp}{K:k6}{n:Nat}{caps:kG}{mi:Ay}{b:T->AN->Option AN}{mt me:AI}
set_option tactic.hygienic true in
def zfe(h:Bi b mt me (t::us) τ1=↑l2):∃τ2,b t τ1=↑τ2/\((∃bt,mt τ2=↑(.v (.bl false) bt)/\Bi b mt me us τ2=↑l2)\/∃bt w l3,mt τ2=↑(.v (.bl true) bt)/\me τ2=↑(.v w false)/\Bi b mt me us τ2=↑l3/\l2=w::l3):=by
 unfold Bi at h;split at h
 .rename_i τ2 d;refine{τ2,d,?_};split at h
  .rename_i bt a;split at h
   .rename_i w e;split at h
    .rename_i l3 c;cases h;exact .inr {(bt),w,l3,a,e,c,rfl}
    .cases h
   .cases h
  .rename_i bt a;exact .inl {(bt),a,h}
  .cases h
 .cases h
set_option tactic.hygienic true in
def zhv(h:GW b mt me (t::us) τ1=↑c):∃τ2,b t τ1=↑τ2/\((∃bt,mt τ2=↑(.v (.bl false) bt)/\GW b mt me us τ2=↑c)\/(∃bt,mt τ2=↑(.v (.bl true) bt)/\((∃w,me τ2=↑(.v w false)/\GW b mt me us τ2=↑c)\/me τ2=↑(.x c)))\/mt τ2=↑(.x c)):=by
 unfold GW at h;split at h
 .rename_i τ2 f;refine{τ2,f,?_};split at h
  .rename_i bt a;split at h
   .rename_i w d;exact .inr<|.inl {bt,a,.inl {(w),d,h}}
   .rename_i e d;cases h;exact .inr<|.inl {bt,a,.inr d}
   .cases h
  .rename_i bt a;exact .inl {(bt),a,h}
  .rename_i e a;cases h;exact .inr<|.inr a
  .cases h
 .cases h
def WE(h:tM K E ca (BG n caps mi b mt me) O H Q):Lm (HJ n caps) (tI K E ca mi) (Ef K b) (BM K (λϊ=>E O) ca mt) (tM K (λϊ=>E O) ca me) O H Q:=by
 let(F,Y,R,S,q):=h;refine{F,Y,R,S,?_};unfold BG at q;cases hi:mi Y with
 |none=>erw[hi]at q<;>symm|some r=>
  erw[hi]at q;cases r with
  |x c=>exact q|v s bb=>
   intro F1 H1 Γ e1 its
   by_cases M:¬ s.length<=BW
   .erw[M,Ã]at q<;>symm
   have hz :=Decidable.not_not.mp M;erw[hz,Å]at q
   obtain⟨G,g1,g0,gs⟩:∃G:kL->AN->kL->Prop,(∀t u d l,G (t::u) d l->∃f,b t d=↑f/\((∃bt,mt f=↑(.v (.bl false) bt)/\G u f l)\/(∃bt,mt f=↑(.v (.bl true) bt)/\((∃w,me f=↑(.v w false)/\G u f (l++[w]))\/∃c,me f=↑(.x c)/\∀g k,Ext F H g k R0->XE (E O) ca c g k))\/∃c,mt f=↑(.x c)/\∀g k,Ext F H g k R0->XE (E O) ca c g k)) /\
     (∀d l,G [] d l->∀g k x B,Ext F H g k B->Rp K g k (.own l) x B->Q x k)/\G s (blk n caps Y) []:=by
    cases hg:Bi b mt me s (blk n caps Y) with
    |some N=>
     erw[hg]at q;refine{λu d l=>∃l2,Bi b mt me u d=↑l2/\l++l2=N,λt u d l z=>?_,λd l z=>?_,N,hg,rfl}
     .let(l2,z,e):=z;obtain⟨f,y,w|⟨bt,w,l3,Z,T,y3,rfl⟩⟩:=zfe z
      .let(bt,w1,w2):=w;exact{f,y,.inl {(bt),w1,l2,w2,e}}
      .exact{f,y,.inr<|.inl {bt,Z,.inl {w,T,l3,y3,by simpa using e}}}
     .let(l2,z,e):=z;cases z;rw[Ć]at e;subst e;exact q
    |none=>
     erw[hg]at q;cases hx:GW b mt me s (blk n caps Y) with
     |none=>erw[hx]at q<;>symm|some c=>
      erw[hx]at q;refine{λu d l=>GW b mt me u d=↑c,λt u d l z=>?_,λd l z=>(by cases z),hx}
      obtain⟨f,y,w|⟨bt,Z,⟨w,T,y3⟩|T⟩|w⟩:=zhv z
      .exact{f,y,.inl w}
      .exact{f,y,.inr<|.inl {bt,Z,.inl {(w),T,y3}}}
      .exact{f,y,.inr<|.inl {bt,Z,.inr {(c),T,q}}}
      .exact{f,y,.inr<|.inr {(c),w,q}}
   have S1:=S.ext e1;refine{λi ys st k=>∃(g:Hp) (V:AN) (l:kL) (U:Nat->Rg),Ext F1 H1 g k (tot U)/\RpO K g k l ys U/\StR K g k st V (λϊ=>R0)/\i<=s.length/\G (s.drop i) V l/\l.length<=i,s.length,by rw[<- GU];exact hz,?_,?_}
   .exact{F1,blk n caps Y,[],λϊ=>R0,(Ext.refl S1.fh).mono λa ⟨_,z⟩=>z.elim,.nil,zqi S1 n caps,õ _,gs,Æ _}
   .rintro i ys st k ⟨g,V,l,U,I,X,S2,hle,m,hll⟩;have hly:=X.len;refine{by lia,hle,?_}
    let(i1,i2):=its i g k I.ff I.fh
    by_cases o:i<s.length
    .refine .inr {o,?_};let(go,yld):=i1 _<|Â o;refine{go,λx J y=>?_}
     let(D,A,rx):=yld x J y;have S3:=S2.ext A;rw[ċ o]at m;let(d,hb,m):=g1 _ _ _ _ m;refine{D,V,_,s[i],d,S3,rx,hb,λst1 R1 S4 hR1=>?_}
     have R1e :=funext λj=>funext λa=>propext {λz=>hR1 j a z,λz=>z.elim}
     subst R1e;refine{D,d,_,S4,?_};have eX:∀{c },(∀g k,Ext F H g k R0->XE (E O) ca c g k)->∀g k,Ext D J g k R0->XE (E O) ca c g k:=λz g k e=>z g k<|((e1.trans0 I).trans (A.trans0 e)).mono λϊ z=>z.elim
     rcases m with ⟨bt,L,m⟩|⟨bt,L,m⟩|⟨c,L,hX⟩
     .rw[L];intro F4 H4 C;exact KZ {F4,d,l,U,(I.trans<|(A.trans0 C).mono λϊ z=>z).mono λa z=>.inl z,(X.ext A).ext C,S4.ext C,o,m,by lia}
     .rw[L];intro F4 H4 C;have S5:=S4.ext C;have e24:=I.trans<|(A.trans0 C).mono λϊ z=>z
      refine KY {F4,d,_,S5,?_}
      rcases m with ⟨ve,he,m⟩|⟨c,he,hX⟩
      .rw[he];intro F5 H5 y B W ry;have ry' :=ry;have P:=(X.ext A).ext C;have ro5:=P.ext W;refine{F5,d,l++[ve],_,(e24.trans W).mono ?_,ro5.snoc ry'<|λj a z1 z2=>P.apart W z2 j z1,S5.ext W,o,m,by simp;lia}
       intro a z
       rcases Wc z with z|z
       .exact .inl<|.inl z
       .exact .inr z
      .rw[he];exact λg k e=>eX hX g k<|C.trans0 e
     .rw[L];exact eX hX
    .have hi':i=s.length:=by lia
     subst hi';refine .inl {i2 rfl,λp hp=>?_}
     rw[List.drop_length]at m;let(rl,A):=X.list I.fh hp;refine g0 _ _ m g _ _ _ (((e1.trans0 I).trans A).mono ?_) rl;rintro a (z|⟨j,z⟩)
     .exact .inr z
     .exact .inl {(j),z}
structure BlkOk(X:Cx)(scope:Scope)(N':kE)(n:Nat)(caps:kG):Prop where
 kind:scope.kind=.function
 names:∀y∈scope.names,y.2=.local->scope.names.lookup y.1=↑.local
 len:N'.length=n+caps.length
 cap:∀(k j:Nat),caps[k]?=↑j->∃y,X.N[j]?=↑y/\N'[n+k]?=↑y/\scope.names.lookup y=↑.free/\(y,NameKind.cell)∉scope.names
 free:∀y∈scope.names,y.2=.free->scope.names.lookup y.1=↑.free/\(X.env.scope.names.lookup y.1=↑.cell\/X.env.scope.names.lookup y.1=↑.free)
theorem Sr{env:Env}(y:Str):∀(names:List<|Str×NameKind),(names.map λ(n,k)=>if (k == NameKind.free && env.scope.kind == .function && env.kindOf n == ↑.cell) then (n,NameKind.cell) else (n,k)).lookup y =
  (names.lookup y).map λk=>if (k == NameKind.free && env.scope.kind == .function && env.kindOf y == ↑.cell) then .cell else k
 |[]=>rfl|(n,k)::r=>by
  rw[Ï];cases b:y == n with
  |true=>
   have e:y=n:=eq_of_beq b;subst e
   by_cases a:(k == NameKind.free && env.scope.kind == .function && env.kindOf y == ↑.cell)=true
   .erw[a,Å,å,ë,ď]
   .erw[a,å,ë,ď];simp
  |false=>
   by_cases a:(k == .free && env.scope.kind == .function && env.kindOf n == ↑.cell)=true
   .erw[a,Å,å,b];exact Sr y r
   .erw[a,å,b];erw[ą,Ã,å,b];exact Sr y r
theorem Qk(scope)(env)(y):(relabel scope env).names.lookup y=(scope.names.lookup y).map λk=>if (k == NameKind.free && env.scope.kind == .function && env.kindOf y == ↑.cell) then .cell else k:=Sr y scope.names
def Ss:∀{names:List<|Str×NameKind},names.lookup y=↑k->(y,k)∈names:=λh=>Ě h
set_option tactic.hygienic true in
def gN(B:BlkOk X scope N' n caps)   (I:Inv X pq O H s) :
  ∃cl,BlkC X scope N' (HJ n caps) cl:=by
 let(cl,q,r,t):=zdi scope X.env λy a e=>I.ok.has y.1 (B.free y a e).2
 have Fy:∀(O ) (i:Nat) (y ) (v ),N'[i]?=↑y->(HJ n caps O)[i]?=↑↑v->∃j:Nat,X.N[j]?=↑y/\O[j]?=↑↑v/\scope.names.lookup y=↑.free/\(y,NameKind.cell)∉scope.names:=by
  intro O i y v c b;unfold HJ at b
  by_cases o:i<n
  .rw[ÿ (by simpa using o),ū,if_pos o]at b
   cases b
  .rw[ģ (by simp;lia),Ë]at b
   erw[ų]at b;cases h:caps[i - n]? with
   |none=>rw[h]at b;cases b|some j=>
    rw[h]at b;erw[ď]at b;have f :=Ý b;let(C,g1,g2,g,m):=B.cap (i - n) j h;have en:n+(i - n)=i:=by lia
    rw[en,c]at g2;cases g2
    have sv :=by
     unfold US at f;split at f
     .rename_i A u;cases f;exact u
     .cases f
    exact{(j),g1,sv,g,m}
 refine{cl,q,B.kind,B.names,r,λy a=>?_,λO i y v c b=>?_,λO x=>by simp[HJ,B.len],λO i y v c b=>?_}
 .cases hk:scope.names.lookup y with
  |none=>
   rw[Qk,hk]at a
   rcases a with a|a<;>cases a
  |some k=>
   by_cases e:k=.free
   .subst e;exact .inr<|t _ (Ss hk) rfl
   .rw[Qk,hk]at a;erw[ď]at a;have l :=beq_eq_false_iff_ne.mpr e;erw[l,ż,ą,Ã]at a
    rcases a with a|a
    .cases a;exact .inl<|Ss hk
    .cases a;exact absurd rfl e
 .exact(Fy O i y v c b).choose_spec.2.2.2
 .let(j,g1,sv,g,m):=Fy O i y v c b;have fr:=B.free _ (Ss g) rfl;refine{?_,j,g1,sv,?_,?_}
  .rw[Qk,g];erw[ď]
   by_cases d:(NameKind.free == NameKind.free && X.env.scope.kind == .function && X.env.kindOf y == ↑.cell)=true
   .exact .inl<|by rw[if_pos d]
   .exact .inr<|by rw[if_neg d]
  .rcases fr.2 with z|z
   .exact .inr<|.inl z
   .exact .inr<|.inr z
  .intro z;have p:X.env.scope.names.lookup y=↑.local:=z
   rcases fr.2 with w|w
   .rw[p]at w;cases w
   .rw[p]at w;cases w
def r_lcV(B:BlkOk X scope N' n caps)(d:∀pq O H s cl C ex xb,Inv X pq O H s->cq (Dn X scope cl N' C s H ex xb))(f:PJ cq X tg iter<|tI X.K E ca mi)
  (a:DF X E) (c:Hy X) (e:∀E',AC X scope N' E' λτ=>PG τ tg (Ef X.K b)/\HN τ ifs (BM X.K E' ca mt)/\PE τ elt (tM X.K E' ca me))
  (g:∀x,foldedSetIterable iter X.env x=pure x):PE X (.ListComp elt [{tg,iter,ifs,0}] scope pos)<|tM X.K E ca<|BG n caps mi b mt me:=by
 intro pq s O H Q I h;let(cl,L):=gN B I;exact zpi L d f a c (e _) g I<|WE h
def r_lcS(B:BlkOk X scope N' n caps)(g:X.calm=true)(k:PI X tg iter<|tI X.K E ca mi)
  (c:DF X E) (d:Hy X) (j:∀E',AC X scope N' E' λτ=>PG τ tg (Ef X.K b)/\HN τ ifs (BM X.K E' ca mt)/\PE τ elt (tM X.K E' ca me))
  (l:∀x,foldedSetIterable iter X.env x=pure x)  {x:Str} (f:X.N.Nodup) (a:X.N[i]?=↑x) (m:X.env.scope.names.lookup x=↑.local)
  (e:swapsWith (.ListComp elt [{tg,iter,ifs,0}] scope pos) (↑(.Name x pos')) pos2.line X.env=pure true):PS X (.Assign [.Name x pos'] (.ListComp elt [{tg,iter,ifs,0}] scope pos) pos2)<|λD O H=>tM X.K E ca (BG n caps mi b mt me) O H λv H1=>D.nx (O.set i ↑v) H1:=by
 intro o s O H D I h;let(cl,L):=gN B I;exact zpj L g k c d (j _) l f a m e I<|WE h
variable {m mk mv:AI}{o k v:Expr}{pos p p2 ap cp:Pos}{elts:kC}{kk:Nat}{tpos:Pos}
end
set_option genInjectivity true in
inductive Out where
 |nx (Y:AN)|rt (t:T)|bk (Y:AN)|ct (Y:AN)|xc (c:Str) (Y:AN)
abbrev AG:=AN->Option Out
structure Stp(F H:Hp)(σ:Rg)(F' H':Hp)(σ':Rg):Prop where
 ff:A5 F F'
 fh:A5 F' H'
 kp:∀b u,¬ σ b->H b=↑u->H' b=↑u
 nw:∀b,σ' b->σ b\/H b=none
 nf:∀b u,F' b=↑u->F b=↑u\/σ b\/H b=none
section
variable {F H F1 H1 F2 H2:Hp}{σ σ1 σ2 B:Rg}{R:Nat->Rg}
theorem Stp.refl(s:A5 F H):Stp F H σ F H σ:={.refl _,s,λϊ ϊ ϊ e=>e,λϊ z=>.inl z,λϊ ϊ e=>.inl e}
theorem Stp.trans(a:Stp F H σ F1 H1 σ1)(b:Stp F1 H1 σ1 F2 H2 σ2):Stp F H σ F2 H2 σ2 where
 ff:=a.ff.trans b.ff
 fh:=b.fh
 kp:=λx u n e=>b.kp x u (λz=>(a.nw x z).elim n λw=>by grind) (a.kp x u n e)
 nw:=λx z=>(b.nw x z).elim (a.nw x) λw=>by
  by_cases c:σ x
  .exact .inl c
  .cases e:H x with
   |none=>simp|some u=>rw[a.kp x u c e]at w;cases w
 nf:=λx u e=>(b.nf x u e).elim (a.nf x u) λz=>.inr (z.elim (a.nw x) λw=>by
  by_cases c:σ x
  .exact .inl c
  .cases d:H x with
   |none=>simp|some f=>rw[a.kp x f c d]at w;cases w)
theorem Stp.mono(a:Stp F H σ F1 H1 σ1)(h:∀x,σ2 x->σ1 x):Stp F H σ F1 H1 σ2:={a.ff,a.fh,a.kp,λx z=>a.nw x<|h x z,a.nf}
theorem Ext.stp(e:Ext F H F1 H1 B):Stp F H σ F1 H1<|λx=>σ x\/B x:={e.ff,e.fh,λb u ϊ q=>e.hh b u q,λb z=>z.elim .inl λz=>.inr<|e.nb b z,λb u q=>(e.nf b u q).elim .inl λz=>.inr<|.inr z}
theorem Ext.stp0(e:Ext F H F1 H1 B):Stp F H σ F1 H1 σ:=e.stp.mono λϊ z=>.inl z
end
section
def Wr(K:k6)(mu:Bool)(F H:Hp)(t:T)(x:V)(B:Rg):Prop:=match mu with
 |false=>Rp K F H t x B|true=>∃v q l,t=.own [v,.nd true (.pin q) l]/\v.flat=true/\Rp K F H v x R0/\Rp K F H (.nd true (.pin q) l) (.ref q) B
def pS(K:k6)(E:L2.St->XK)(ca:Str->Value)(mu:Bool)(D:Ends)(F H:Hp)(R:Nat->Rg):Option Out->Prop
 |some (.nx f)=>∀b a d e,Stp F H (tot R) b a (tot e)->StR K b a d f e->D.nx d a|some (.bk f)=>∀b a d e,Stp F H (tot R) b a (tot e)->StR K b a d f e->D.bk d a|some (.ct f)=>∀b a d e,Stp F H (tot R) b a (tot e)->StR K b a d f e->D.ct d a|some (.rt t)=>∀b a x B,Stp F H (tot R) b a B->Wr K mu b a t x B->D.rt x a|some (.xc c f)=>∀b a d e,Stp F H (tot R) b a (tot e)->StR K b a d f e->XE (E d) ca c b a|none=>False
def tS(K:k6)(E:L2.St->XK)(ca:Str->Value)(mu:Bool)(m:AG):TS:=λD O H=>∃F Y R,StR K F H O Y R/\pS K E ca mu D F H R (m Y)
end
def AF(m n:AG):AG:=λY=>match m Y with
 |some (.nx a)=>n a|r=>r
def A6:AG:=λY=>↑(.nx Y)
def MF:AG:=λϊ=>none
def MG:AG:=λY=>↑(.bk Y)
def Ws:AG:=λY=>↑(.ct Y)
def HX(m:AI):AG:=λY=>match m Y with
 |some (.v ϊ ϋ)=>↑(.nx Y)|some (.x c)=>↑(.xc c Y)|none=>none
def AQ(m:AI):AG:=λY=>match m Y with
 |some (.v t ϊ)=>↑(.rt t)|some (.x c)=>↑(.xc c Y)|none=>none
def Q4:AG:=λϊ=>↑(.rt .non)
def AO(m:AI)(b:T->AN->Option AN):AG:=λY=>match m Y with
 |some (.v t false)=>(match b t.share Y with
  |some a=>↑(.nx a)|none=>none)
 |some (.v ϊ true)=>none|some (.x c)=>↑(.xc c Y)|none=>none
def Ca(i:Nat)(m:AI):AG:=λY=>match m Y with
 |some (.v t false)=>if i<Y.length then ↑(.nx<|Y.set i ↑t) else none
 |some (.v ϊ true)=>none|some (.x c)=>↑(.xc c Y)|none=>none
def Eg(i:Nat):AG:=λY=>match Y[i]? with
 |some ↑t=>↑(.nx<|Y.set i ↑t.share)|ϊ=>↑(.nx Y)
def Aa(c:AI)(a b:AG):AG:=λY=>match c Y with
 |some (.v (.bl true) ϊ)=>a Y|some (.v (.bl false) ϊ)=>b Y|some (.x c)=>↑(.xc c Y)|ϊ=>none
def Ak(b:T->AN->Option AN)(body:AG):kL->AG
 |[],Y=>↑(.nx Y)|t::d,Y=>(match b t Y with
  |some c=>(match body c with
   |some (.nx a)=>Ak b body d a|some (.ct a)=>Ak b body d a|some (.bk a)=>↑(.nx a)|r=>r)
  |none=>none)
def B5(a:Ay)(b:T->AN->Option AN)(body:AG):AG:=λY=>match a Y with
 |some (.v d ϊ)=>Ak b body d Y|some (.x c)=>↑(.xc c Y)|none=>none
def DP(c:AI)(body:AG):Nat->AG
 |0,ϊ=>none|n+1,Y=>(match c Y with
  |some (.v (.bl true) ϊ)=>(match body Y with
   |some (.nx a)=>DP c body n a|some (.ct a)=>DP c body n a|some (.bk a)=>↑(.nx a)|r=>r)
  |some (.v (.bl false) ϊ)=>↑(.nx Y)|some (.x c)=>↑(.xc c Y)|ϊ=>none)
open Classical in
def Fp(c:AI)(body:AG):AG:=λY=>if h:∃n,(DP c body n Y).isSome=true then DP c body h.choose Y else none
def zh2(h:Fp c body Y=↑o):∃n,DP c body n Y=↑o:=by
 unfold Fp at h;split at h
 .grind
 .cases h
def OK:∀{n} {Y} {o},DP c body n Y=↑o->DP c body (n+1) Y=↑o
 |0,Y,o,h=>by cases h|n+1,Y,o,h=>by
  unfold DP at h ⊢;split at h
  .split at h
   .exact OK h
   .exact OK h
   .exact h
   .exact h
  .exact h
  .exact h
  .cases h
def V2(h:DP c body n Y=↑o)(a:n<=m):DP c body m Y=↑o:=by
 induction a with
 |refl=>exact h|step ϊ b=>exact OK b
def zni(h:DP c body n Y=↑o):Fp c body Y=↑o:=by
 unfold Fp;have a:∃n,(DP c body n Y).isSome=true:={n,by rw[h];rfl}
 let(f,e):=Ŏ.mp a.choose_spec;have b:=V2 e<|Nat.le_max_left a.choose n;have d:=V2 h<|Nat.le_max_right a.choose n
 grind
section
variable {mu:Bool}{X:Cx}{E:L2.St->XK}{ca:Str->Value}{O:L2.St}{H:Hp}{K:k6}{m mk mc:AI}{ms mi:Ay}{b:T->AN->Option AN}{u w:AG}{D:Ends}{e c tg iter:Expr}{st:Stmt}{rest body sa sb:kD}{pos pos':Pos}
theorem PS.weak(h:PS X st t)(w:∀D O H,t' D O H->t D O H):PS X st t':=λa s O H D I q=>h a s O H D I<|w D O H q
theorem B8.weak(h:B8 X rest t)(w:∀D O H,t' D O H->t D O H):B8 X rest t':=λa s O H D I q=>h a s O H D I<|w D O H q
def zmu(h:tS K E ca mu (AF u w) D O H):Vx (tS K E ca mu u) (tS K E ca mu w) D O H:=by
 let(F,Y,R,S,q):=h;refine{F,Y,R,S,?_};unfold AF at q;cases f:u Y with
 |none=>erw[f]at q<;>symm|some o=>
  erw[f]at q;cases o with
  |nx e=>
   intro i l m j s1 k;refine{i,e,j,k,?_};cases g:w e with
   |none=>erw[g]at q<;>symm|some o=>
    erw[g]at q;cases o with
    |nx ϊ=>exact λa b c d s S=>q a b c d (s1.trans s) S|bk ϊ=>exact λa b c d s S=>q a b c d (s1.trans s) S|ct ϊ=>exact λa b c d s S=>q a b c d (s1.trans s) S|rt ϊ=>exact λa b x B s r=>q a b x B (s1.trans s) r|xc ϊ ϋ=>exact λa b c d s S=>q a b c d (s1.trans s) S
  |rt ϊ=>exact q|bk ϊ=>exact q|ct ϊ=>exact q|xc ϊ ϋ=>exact q
theorem s_nil:B8 X []<|tS X.K E ca mu A6:=B8.weak zkf λD O H h=>by
 let(F,Y,R,S,q):=h;exact q F H O R (Stp.refl S.fh) S
theorem Wn(a:PS X st<|tS X.K E ca mu u)(b:B8 X rest<|tS X.K E ca mu w):B8 X (st::rest)<|tS X.K E ca mu<|AF u w:=B8.weak (zhd a b) λD O H h=>zmu h
theorem Wj(a:PS X st<|tS X.K E ca mu u):B8 X [st]<|tS X.K E ca mu u:=zke a
theorem Wk:PS X st<|tS X.K E ca mu MF:=λa s O H D I h=>by
 let(_,_,_,_,q):=h;symm
theorem znd:PS X (.Pass pos)<|tS X.K E ca mu A6:=PS.weak zkg λD O H h=>by
 let(F,Y,R,S,q):=h;exact q F H O R (Stp.refl S.fh) S
theorem zjv:PS X (.Break pos)<|tS X.K E ca mu MG:=PS.weak zhg λD O H h=>by
 let(F,Y,R,S,q):=h;exact q F H O R (Stp.refl S.fh) S
theorem zdz:PS X (.Continue pos)<|tS X.K E ca mu Ws:=PS.weak zd3 λD O H h=>by
 let(F,Y,R,S,q):=h;exact q F H O R (Stp.refl S.fh) S
def zmv(h:tS K E ca mu (AF (Eg i) w) D O H):tS K E ca mu w D O H:=by
 let(F,Y,R,S,q):=h;unfold AF Eg at q;cases p:Y[i]? with
 |none=>rw[p]at q;exact{(F),Y,R,S,q}|some P=>
  rw[p]at q;cases P with
  |none=>exact{(F),Y,R,S,q}|some t=>
   simp only at q;let(x,ex,r):=S.rep i t p;have N :=(Ñ.mp p).1;have n:∀a,R i a->F a=none:=λa z=>(r.dom z).1
   have L:StR K (frz F H<|R i) H O (Y.set i ↑t.share) (λj=>if j=i then R0 else R j):=by
    refine{Ho S.fh,by simpa using S.len,λj G e=>?_,λj a z=>?_,λj k a C v A=>?_}
    .by_cases c:j=i
     .subst c;rw[é N]at e;cases e;exact{x,ex,by simpa using r.share (Ek n) λa u z q=>by rw[ET z];exact q}
     .rw[æ<|Î c]at e;let(y,M,r1):=S.rep j G e;refine{y,M,?_};erw[c,Ã]
      exact r1.frame (Ek n) λa z=>{rfl,by
       rw[Ej<|λQ=>S.dis j i a c z Q]
       exact(r1.dom z).1}
    .by_cases c:j=i
     .erw[c,Å]at z;exact z.elim
     .erw[c,Ã]at z;let(G,e):=S.out j a z;exact{G,by rw[æ<|Î c];exact e}
    .by_cases c:j=i
     .erw[c,Å]at v;exact v.elim
     .by_cases hk:k=i
      .erw[hk,Å]at A;exact A.elim
      .erw[c,Ã]at v;erw[hk,Ã]at A;exact S.dis j k a C v A
   have d:Stp F H (tot R) (frz F H<|R i) H (tot λj=>if j=i then R0 else R j):=by
    refine{Ek n,Ho S.fh,λϊ ϊ ϊ e=>e,λb ⟨j,z⟩=>?_,λb u e=>?_}
    .by_cases c:j=i
     .erw[c,Å]at z;exact z.elim
     .erw[c,Ã]at z;exact .inl {(j),z}
    .by_cases I:R i b
     .exact .inr<|.inl {(i),I}
     .rw[Ej I]at e;exact .inl e
   refine{_,_,_,L,?_};cases J:w (Y.set i ↑t.share) with
   |none=>erw[J]at q<;>symm|some o=>
    erw[J]at q;cases o with
    |nx ϊ=>exact λf g l m s S=>q f g l m (d.trans s) S|bk ϊ=>exact λf g l m s S=>q f g l m (d.trans s) S|ct ϊ=>exact λf g l m s S=>q f g l m (d.trans s) S|rt ϊ=>exact λf g x B s r=>q f g x B (d.trans s) r|xc ϊ ϋ=>exact λf g l m s S=>q f g l m (d.trans s) S
theorem s_frz(h:B8 X rest<|tS X.K E ca mu w):B8 X rest<|tS X.K E ca mu<|AF (Eg i) w:=B8.weak h λD O H h=>zmv h
def s_exp(f:PE X e<|tM X.K E ca m)(i:swapsWith e none pos.line X.env=pure false):PS X (.Expr e pos)<|tS X.K E ca mu<|HX m:=by
 refine PS.weak (RE f i) λD O H h=>?_
 let(F,Y,R,S,q):=h;refine{F,Y,R,S,?_};unfold HX at q;cases d:m Y with
 |none=>erw[d]at q<;>symm|some r=>
  erw[d]at q;cases r with
  |x c=>exact λa b e=>q a b O R e.stp0 (S.ext e)|v t j=>exact λa b x B e g=>q a b O R e.stp0<|S.ext e
def s_ret(k:PE X e<|tM X.K E ca m):PS X (.Return ↑e pos)<|tS X.K E ca false<|AQ m:=by
 refine PS.weak (Xb k) λD O H h=>?_
 let(F,Y,R,S,q):=h;refine{F,Y,R,S,?_};unfold AQ at q;cases f:m Y with
 |none=>erw[f]at q<;>symm|some r=>
  erw[f]at q;cases r with
  |x c=>exact λb d e=>q b d O R e.stp0 (S.ext e)|v t i=>
   intro b d x B e g;cases i with
   |false=>exact q b d x B (e.stp.mono λϊ z=>.inr z) g|true=>let(_,A,j,r):=g;exact q b d x A (e.stp.mono λa z=>.inl<|j a z) r
theorem znb:PS X (.Return none pos)<|tS X.K E ca false Q4:=PS.weak Xa λD O H h=>by
 let(F,Y,R,S,q):=h;exact q F H .non R0 ((Stp.refl S.fh).mono λϊ z=>z.elim) .non
def s_if(G:PT X c<|BM X.K E ca mc)(A:B8 X sa<|tS X.K E ca mu u)(C:B8 X sb<|tS X.K E ca mu w):PS X (.If c sa sb pos)<|tS X.K E ca mu<|Aa mc u w:=by
 refine PS.weak (RD G A C) λD O H h=>?_
 let(F,Y,R,S,q):=h;refine{F,Y,R,S,?_};unfold Aa at q;cases m:mc Y with
 |none=>erw[m]at q<;>symm|some r=>
  erw[m]at q;cases r with
  |x c=>exact λb a e=>q b a O R e.stp0 (S.ext e)|v t I=>
   cases t with
   |bl k=>
    intro p y i;have z:=S.ext i
    have j:∀{l },(match l Y with
      |some (.nx g)=>∀b a d f,Stp F H (tot R) b a (tot f)->StR X.K b a d g f->D.nx d a|some (.bk g)=>∀b a d f,Stp F H (tot R) b a (tot f)->StR X.K b a d g f->D.bk d a|some (.ct g)=>∀b a d f,Stp F H (tot R) b a (tot f)->StR X.K b a d g f->D.ct d a|some (.rt t)=>∀b a x B,Stp F H (tot R) b a B->Wr X.K mu b a t x B->D.rt x a|some (.xc c g)=>∀b a d f,Stp F H (tot R) b a (tot f)->StR X.K b a d g f->XE (E d) ca c b a|none=>False)->tS X.K E ca mu l D O y:=λ{l} q=>by
     refine{p,Y,R,z,?_};cases n:l Y with
     |none=>erw[n]at q<;>symm|some o=>
      erw[n]at q;cases o with
      |nx ϊ=>exact λb a d f s S=>q b a d f (i.stp0.trans s) S|bk ϊ=>exact λb a d f s S=>q b a d f (i.stp0.trans s) S|ct ϊ=>exact λb a d f s S=>q b a d f (i.stp0.trans s) S|rt ϊ=>exact λb a x B s r=>q b a x B (i.stp0.trans s) r|xc ϊ ϋ=>exact λb a d f s S=>q b a d f (i.stp0.trans s) S
    cases k with
    |true=>exact KY (j q)|false=>exact KZ<|j q
   |_=>symm
def Oe(G:∀v O H Q,Ef K b v O H Q->g v O H Q)(h:tS K E ca mu (AO m b) D O H):Gc (tM K E ca m) g D O H:=by
 let(F,Y,R,S,q):=h;refine{F,Y,R,S,?_};unfold AO at q;cases k:m Y with
 |none=>erw[k]at q<;>symm|some r=>
  erw[k]at q;cases r with
  |x c=>exact λl n e=>q l n O R e.stp0 (S.ext e)|v t y=>
   cases y with
   |true=>symm|false=>
    intro J o x B A g1;let(f,j,_,I):=Dp.frz S A g1;cases d:b t.share Y with
    |none=>erw[d]at q<;>symm|some w=>
     erw[d]at q;refine G _ _ _ _ {f,Y,R,t.share,w,S.ext j,(I).any,d,λp s u C=>?_}
     exact q f o p s (j.stp0.mono λa ⟨i,z⟩=>{i,C i a z}) u
set_option tactic.hygienic true in
def b6(h:Ef K (AD i) v O H Q):GY i v O H Q:=by
 let(F,Y,R,t,d,S,r,e,q):=h;unfold AD at e;split at e
 .cases e;rename_i c;refine q _ _ (S.set r (λϊ ϊ ϊ ϊ z=>z.elim) c) λj a z=>?_
  by_cases b:j=i
  .erw[b]at z;exact z.elim
  grind
 .cases e
theorem zn9(a:X.N.Nodup)(d:X.N[i]?=↑x)(g:HP X.env.scope x)(b:PE X e<|tM X.K E ca m)(f:swapsWith e (↑(.Name x pos')) pos.line X.env=pure false)(c:X.fn x=true\/X.env.scope.names.lookup x=↑.local) :
  PS X (.Assign [.Name x pos'] e pos) (tS X.K E ca mu<|AO m<|AD i):=PS.weak (X9 a d g b f c) λD O H h=>Oe (λϊ ϊ ϊ ϊ z=>b6 z) h
theorem zna(c:PE X e<|tM X.K E ca m)(d:PG X tg<|Ef X.K b)(f:swapsWithSole [tg] e pos.line X.env=pure false)(g:swappedStores [tg] e X.env=pure none)(a:(assignEach [tg] X.env).map (·.2)=[assign tg X.env]) :
  PS X (.Assign [tg] e pos) (tS X.K E ca mu<|AO m b):=PS.weak (MR c d f g a) λD O H h=>Oe (λϊ ϊ ϊ ϊ z=>z) h
def Vy(h:tS K E ca mu (Ca i m) D O H):Gc (tM K E ca m) (GY i) D O H:=by
 let(F,Y,R,S,q):=h;refine{F,Y,R,S,?_};unfold Ca at q;cases g:m Y with
 |none=>erw[g]at q<;>symm|some r=>
  erw[g]at q;cases r with
  |x c=>exact λk n e=>q k n O R e.stp0 (S.ext e)|v t s=>
   cases s with
   |true=>symm|false=>
    intro l o x B b g1;have d :=g1;have p:=S.ext b
    by_cases f:i<Y.length
    .erw[f]at q;refine q l o _ _ (b.stp.mono ?_)<|p.set d (λj a ϊ w y=>S.apart b y j w) f
     rintro a ⟨j,z⟩
     by_cases u:j=i
     .grind
     .erw[u]at z;exact .inl {(j),z}
    .erw[f]at q<;>symm
theorem zne(a:X.N.Nodup)(d:X.N[i]?=↑x)(g:HP X.env.scope x)(b:PE X e<|tM X.K E ca m)(f:swapsWith e (↑(.Name x pos')) pos.line X.env=pure false)(c:X.fn x=true\/X.env.scope.names.lookup x=↑.local) :
  PS X (.Assign [.Name x pos'] e pos) (tS X.K E ca mu<|Ca i m):=PS.weak (X9 a d g b f c) λD O H h=>Vy h
def s_for(hp:PassesOwn (model X.prog X.w) X.A X.env X.xe)(hc:X.calm=true)(hi:PI X tg iter<|tI X.K E ca mi)(N:PG X tg<|Ef X.K b)(hb:B8 X body<|tS X.K E ca mu u)(hs:∀x,foldedSetIterable iter X.env x=pure x) :
  PS X (.For tg iter body [] pos) (tS X.K E ca mu<|B5 mi b u):=by
 refine PS.weak (zo8 hp hc hi N hb hs) λD O H h=>?_
 let(F,Y,R,S,q):=h;refine{F,Y,R,S,?_};unfold B5 at q;cases hm:mi Y with
 |none=>erw[hm]at q<;>symm|some r=>
  erw[hm]at q;cases r with
  |x c=>exact λs w e=>q s w O R e.stp0 (S.ext e)|v g bb=>
   intro Q H1 Γ e1 its;simp only at q;have S1:=S.ext e1;cases N:Ak b u g Y with
   |none=>erw[N]at q<;>symm|some out=>
    erw[N]at q;refine{λi mm V w=>mm=g.length - i/\i<=g.length/\∃s M L,Stp F H (tot R) s w (tot L)/\A5 Q s/\StR X.K s w V M L/\Ak b u (g.drop i) M=↑out,{g.length,by simp,õ _,Q,Y,R,e1.stp0,.refl _,S1,by simpa using N},?_}
    rintro i mm V w ⟨rfl,hle,s,M,L,st,sf,W,d⟩;let(i1,i2):=its i s w sf W.fh
    by_cases k:i<g.length
    .refine .inr {(i1 _<|Â k).1,λO2 U=>i+1<=g.length/\∃T f R2,Stp F H (tot R) T U (tot R2)/\A5 Q T/\StR X.K T U O2 f R2/\Ak b u (g.drop<|i+1) f=↑out,λO2 U n2=>{g.length - (i+1),by lia,rfl,n2},λx K y=>?_}
     let(t,P,rx):=(i1 _<|Â k).2 x K y;have S3:=W.ext P;rw[ċ k]at d;unfold Ak at d;cases I:b g[i] M with
     |none=>erw[I]at d;cases d|some J=>
      erw[I]at d;refine{t,M,L,g[i],J,S3,rx,I,λσ3 R3 S4 Z=>?_}
      have m:Stp F H (tot R) t K<|tot R3:=(st.trans P.stp0).mono λa ⟨j,z⟩=>{j,Z j a z}
      refine{t,J,R3,S4,?_};cases hu:u J with
      |none=>erw[hu]at d;cases d|some o=>
       erw[hu]at d;cases o with
       |nx f=>exact λp A n C l G=>{k,p,f,C,m.trans l,(sf.trans P.ff).trans l.ff,G,d}|ct f=>exact λp A n C l G=>{k,p,f,C,m.trans l,(sf.trans P.ff).trans l.ff,G,d}|bk f=>cases d;exact λp A n C l G=>q p A n C (m.trans l) G|rt v=>cases d;exact λp A x B l r=>q p A x B (m.trans l) r|xc cc f=>cases d;exact λp A n C l G=>q p A n C (m.trans l) G
    .have hi':i=g.length:=by lia
     subst hi';refine .inl {i2 rfl,?_};rw[List.drop_length]at d;unfold Ak at d;cases d;exact q s w V L st W
def s_wh(V:PassesOwn (model X.prog X.w) X.A X.env X.xe)(T:PT X c<|BM X.K E ca mc)(Q:B8 X body<|tS X.K E ca mu u):PS X (.While c body [] pos)<|tS X.K E ca mu<|Fp mc u:=by
 refine PS.weak (zhe V T Q) λD O H h=>?_
 let(F,Y,R,S,q):=h;cases J:Fp mc u Y with
 |none=>erw[J]at q<;>symm|some out=>
  erw[J]at q;let(n,U):=zh2 J;refine{λy C G=>∃A s l,Stp F H (tot R) A G (tot l)/\StR X.K A G C s l/\DP mc u y s=↑out,{n,F,Y,R,Stp.refl S.fh,S,U},?_}
  rintro y C G ⟨A,s,l,st,I,a⟩;cases y with
  |zero=>cases a|succ y=>
   refine{A,s,l,I,?_};unfold DP at a;cases L:mc s with
   |none=>erw[L]at a;cases a|some r=>
    erw[L]at a;cases r with
    |x P=>cases a;exact λi w z=>q i w C l (st.trans z.stp0) (I.ext z)|v t bb=>
     cases t with
     |bl k=>
      intro i w z;have K:=I.ext z;have d :=st.trans z.stp0;cases k with
      |false=>cases a;exact KZ (q i w C l d K)|true=>
       simp only at a;refine KY {λN w=>∃i b R2,Stp F H (tot R) i w (tot R2)/\StR X.K i w N b R2/\DP mc u y b=↑out,λZ H3 W=>{y,ě _,W},i,s,l,K,?_}
       cases M:u s with
       |none=>erw[M]at a;cases a|some o=>
        erw[M]at a;cases o with
        |nx b=>exact λf j e m g p=>{f,b,m,d.trans g,p,a}|ct b=>exact λf j e m g p=>{f,b,m,d.trans g,p,a}|bk b=>cases a;exact λf j e m g p=>q f j e m (d.trans g) p|rt v=>cases a;exact λf j x B g r=>q f j x B (d.trans g) r|xc P b=>cases a;exact λf j e m g p=>q f j e m (d.trans g) p
     |_=>cases a
end
section
variable {K:k6}{F H:Hp}{l:kL}{xs:kK}{Rr:Nat->Rg}{p:Addr}{o:HO}
def Rp.own_inv(h:Rp K F H (.nd true k l) x A)(n:k.isT=false):∃p xs Rr,x=.ref p/\A=(λa=>a=p\/∃j,Rr j a)/\F p=none/\H p=↑(.lst xs)/\RpO K F H l xs Rr/\(∀j,¬ Rr j p)/\JZ k p:=by
 cases h with
 |own hk R f h e c d dp o=>exact{_,_,R,rfl,rfl,f,bW n▸h,{(e),c,d,o},dp,hk}
theorem IU(hk:JZ k p)(r:RpO K F H l xs Rr)(f:F p=none)(h:H p=↑(.lst xs))(dp:∀j,¬ Rr j p)(n:k.isT=false):Rp K F H (.nd true k l) (.ref p) (λa=>a=p\/∃j,Rr j a):=.own hk Rr f (bW n▸h) r.len r.rep r.dis dp r.out
theorem RpO.upd(r:RpO K F H l xs Rr)(dp:∀j,¬ Rr j p):RpO K F (L2.upd H p o) l xs Rr:={r.len,λi t x b c=>(r.rep i t x b c).frame (.refl _) λa z=>{Ap<|λe=>dp i<|e▸z,(r.dom z).1},r.dis,r.out}
theorem Rp.upd(r:Rp K F H t x A)(dp:¬ A p):Rp K F (L2.upd H p o) t x A:=r.frame (.refl _) λa z=>{Ap<|λe=>dp<|e▸z,(r.dom z).1}
def RpO.set(r:RpO K F H l xs Rr)(m:j0<l.length)(rt:Rp K F H t y B)(d:∀j a,j≠j0->Rr j a->¬ B a):RpO K F H (l.set j0 t) (xs.set j0 y) (λj=>if j=j0 then B else Rr j):=by
 have n:=r.len;refine{by simp[n],λi o p g h=>?_,λi k a e f c=>?_,λi a z=>?_}
 .by_cases b:i=j0
  .subst b;rw[é m]at g;rw[é<|by lia]at h
   cases g;cases h
   simpa using rt
  .rw[æ<|Î b]at g h
   simpa[b] using r.rep i o p g h
 .by_cases b:i=j0
  .erw[b,Å]at f;have hk:¬ k=j0:=λz=>e<|b.trans z.symm
   erw[hk,Ã]at c;exact d k a hk c f
  .erw[b,Ã]at f
   by_cases hk:k=j0
   .erw[hk,Å]at c;exact d i a b f c
   .erw[hk,Ã]at c;exact r.dis i k a e f c
 .by_cases b:i=j0
  .simp[b];lia
  .erw[b,Ã]at z
   simpa using r.out i a z
variable {O:L2.St}{Y:AN}{R:Nat->Rg}
def StR.upd(S:StR K F H O Y R){l B:Rg}(D:Y[i]?=↑↑t)(E:O[i]?=↑↑x)(q:R i p)(G:Rp K F (L2.upd H p o) t' x l)(m:∀a,l a->R i a\/B a)(s:∀j a,R j a->¬ B a) :
  StR K F (L2.upd H p o) O (Y.set i ↑t') (λj=>if j=i then l else R j)/\Stp F H (λa=>Pu.tot R a\/B a) F (L2.upd H p o) (Pu.tot λj=>if j=i then l else R j):=by
 have C :=(S.dom q).1;have v :=(Ñ.mp D).1
 have g:A5 F<|L2.upd H p o:=λb u e=>by
  rw[Ap (λz=>by rw[z,C]at e;cases e)]
  exact S.fh b u e
 refine{{g,by simpa using S.len,λj r e=>?_,λj a z=>?_,λj k a h f d=>?_},{.refl _,g,λb u n e=>?_,λb ⟨j,z⟩=>?_,λb u e=>.inl e}}
 .by_cases c:j=i
  .subst c;rw[é v]at e;cases e;exact{x,E,by simpa using G}
  .rw[æ<|Î c]at e;let(y,A,r1):=S.rep j r e;exact{y,A,by simpa[c] using r1.upd (λz=>S.dis j i p c z q)}
 .by_cases c:j=i
  .subst c;exact{t',é v}
  .erw[c,Ã]at z;let(r,e):=S.out j a z;exact{r,by rw[æ<|Î c];exact e}
 .by_cases c:j=i
  .erw[c,Å]at f;have hk:¬ k=i:=λz=>h<|c.trans z.symm
   erw[hk,Ã]at d
   rcases m a f with w|w
   .exact S.dis i k a (Î hk) w d
   .exact s k a d w
  .erw[c,Ã]at f
   by_cases hk:k=i
   .erw[hk,Å]at d
    rcases m a d with w|w
    .exact S.dis i j a (Î c) w f
    .exact s j a f w
   .erw[hk,Ã]at d;exact S.dis j k a h f d
 .rw[Ap<|λz=>n<|.inl (by rw[z];exact{(i),q})]
  exact e
 .by_cases c:j=i
  .erw[c,Å]at z
   rcases m b z with w|w
   .exact .inl<|.inl {(i),w}
   .exact .inl<|.inr w
  .erw[c,Ã]at z;exact .inl<|.inl {(j),z}
end
def EM(Y:AN)(i:Nat):Option<|Kd×kL:=match Y[i]? with
 |some (↑(.nd true k l))=>(match k with
  |.tup=>none|k=>↑(k,l))
 |ϊ=>none
def Jq(h:EM Y i=↑(k,l)):Y[i]?=↑(↑(.nd true k l)):=by
 unfold EM at h
 grind
def F6(h:EM Y i=↑(k,l)):k.isT=false:=by
 unfold EM at h;cases k<;>first|rfl|(exfalso;grind)
def Cv(i:Nat)(m:AI):AG:=λY=>match EM Y i with
 |some (kd,l)=>(match m Y with
  |some (.v t false)=>if l.length<BW then ↑(.nx<|Y.set i<|↑(.nd true kd<|l++[t])) else none
  |some (.v ϊ true)=>none|some (.x c)=>↑(.xc c Y)|none=>none)
 |none=>none
def GH(i:Nat)(m:AI):AG:=λY=>match EM Y i with
 |some (kd,l)=>(match m Y with
  |some (.v (.nd ϊ .lst r) false)=>if l.length+r.length<=BW then ↑(.nx<|Y.set i<|↑(.nd true kd<|l++BQ r)) else none
  |some (.v ϊ ϋ)=>none|some (.x c)=>↑(.xc c Y)|none=>none)
 |none=>none
def Gf(i:Nat)(mk m:AI):AG:=λY=>match m Y with
 |some (.v t false)=>(match EM Y i with
  |some (kd,l)=>(match mk Y with
   |some (.v (.int k) ϊ)=>(match CA l.length k with
    |some j=>↑(.nx<|Y.set i<|↑(.nd true kd<|l.set j t))|none=>none)
   |some (.v ϊ ϋ)=>none|some (.x c)=>↑(.xc c Y)|none=>none)
  |none=>none)
 |some (.v ϊ true)=>none|some (.x c)=>↑(.xc c Y)|none=>none
def MW:kH->Option (kL)
 |some (.nd true .lst l)=>↑l|ϊ=>none
def Jf(i:Nat)(mk mn m:AI):AG:=λY=>match m Y with
 |some (.v t false)=>(match EM Y i with
  |some (kd,l)=>(match mk Y with
   |some (.v (.int k) ϊ)=>(match CA l.length k with
    |some j=>(match MW l[j]? with
     |some r=>(match mn Y with
      |some (.v (.int n) ϊ)=>(match CA r.length n with
       |some a=>↑(.nx<|Y.set i<|↑(.nd true kd<|l.set j<|.own<|r.set a t))|none=>none)
      |some (.v ϊ ϋ)=>none|some (.x c)=>↑(.xc c Y)|none=>none)
     |none=>none)
    |none=>none)
   |some (.v ϊ ϋ)=>none|some (.x c)=>↑(.xc c Y)|none=>none)
  |none=>none)
 |some (.v ϊ true)=>none|some (.x c)=>↑(.xc c Y)|none=>none
section
variable {mu:Bool}{X:Cx}{E:L2.St->XK}{ca:Str->Value}{O:L2.St}{H:Hp}{K:k6}{m mk mn:AI}{D:Ends}{e k n:Expr}{pos apos cpos p1 pos2 pos3:Pos}{i:Nat}{x:Str}
def T3(g:Dp K F H R (.int j) b y B):y=.int j:=by
 cases b with
 |true=>let(_,A,_,r):=g;exact r.int_inv
 |false=>exact(g).int_inv
def Wb{l:kL}{b:Nat->Rg}(h:∃j,(λj=>if j=l.length then B else b j) j a):(∃j,b j a)\/B a:=Wc h
def MB{b:Nat->Rg}(h:∃j,(λj=>if j=j0 then B else b j) j a):(∃j,b j a)\/B a:=by
 grind
def s_app(hN:X.N[i]?=↑x)(hv:Em X.env.scope x)(hd:(x == "__debug__")=false)(A:(x == "__classdict__")=false)(he:PE X e<|tM X.K E ca m)(G:starEach [e] X.env=[(false,eval e X.env)])(d:(apos.endLine == cpos.line)=true) :
  PS X (.Expr (.Call (.Attribute (.Name x p1) "append" apos) [e] [] cpos) pos) (tS X.K E ca mu<|Cv i m):=by
 refine PS.weak (RE (MT Ŭ PySem.F.slot_list_append PySem.F.type_list_append zf8 (Gp hN hv hd A) (EL he FZ G) rfl (by rw[G];rfl) d G rfl) rfl) λD O H h=>?_
 let(F,Y,R,S,q):=h;unfold Cv at q;cases f:EM Y i with
 |none=>erw[f]at q<;>symm|some kl=>
  let(kd,l):=kl;erw[f]at q;have W:=Jq f;let(y,T,ry):=S.rep i _ W;let(p,xs,Rr,rfl,s,fp,g,J,dp,u):=ry.own_inv<|F6 f;refine{_,T,.inl {rfl,xs,A3.of g},F,Y,R,S,?_};cases V:m Y with
  |none=>erw[V]at q<;>symm|some r=>
   erw[V]at q;cases r with
   |x c=>exact λF' H' e=>q F' H' O R e.stp0 (S.ext e)|v t bb=>
    cases bb with
    |true=>symm|false=>
     intro Q H1 y B b g1;have o :=g1
     by_cases I:l.length<BW
     .erw[I,Å]at q;have S1:=S.ext b;have K:=J.ext b;have C:=b.hh _ _ g;have Z:¬ B p:=λz=>by rw[b.nb p z]at g;cases g
      have n :=(ry.ext b |>.dom (by rw[s];exact .inl rfl)).1
      refine{p,xs,y,rfl,rfl,C,by rw[<- J.len,<- GU];exact I,?_}
      have L:RpO X.K Q (upd H1 p<|.lst<|xs++[y]) (l++[t]) (xs++[y]) _:=(K.upd dp).snoc (o.upd Z) λj a N P=>J.apart b P j N
      have k:∀j,¬ (if j=l.length then B else Rr j) p:=λj z=>by
       by_cases U:j=l.length
       .erw[U,Å]at z;exact Z z
       .erw[U,Ã]at z;exact dp j z
      have r2:=IU u L n CP k<|F6 f
      let(S3,M):=S1.upd W T (by rw[s];exact .inl rfl) r2 (λa z=>by
       rw[s]
       rcases z with z|z
       .exact .inl<|.inl z
       .rcases Wb z with w|w
        .exact .inl<|.inr w
        .exact .inr w)<|λj a N P=>S.apart b P j N
      exact q Q _ O _ (b.stp.trans M) S3
     .erw[I,Ã]at q<;>symm
def s_ext(hN:X.N[i]?=↑x)(hv:Em X.env.scope x)(hd:(x == "__debug__")=false)(K:(x == "__classdict__")=false)(he:PE X e<|tM X.K E ca m)(N:starEach [e] X.env=[(false,eval e X.env)])(f:(apos.endLine == cpos.line)=true) :
  PS X (.Expr (.Call (.Attribute (.Name x p1) "extend" apos) [e] [] cpos) pos) (tS X.K E ca mu<|GH i m):=by
 refine PS.weak (RE (MT Ŭ PySem.F.slot_list_extend PySem.F.type_list_extend zf7 (Gp hN hv hd K) (EL he FZ N) rfl (by rw[N];rfl) f N rfl) rfl) λD O H h=>?_
 let(F,Y,R,S,q):=h;unfold GH at q;cases n:EM Y i with
 |none=>erw[n]at q<;>symm|some kl=>
  let(kd,l):=kl;erw[n]at q;have ht:=Jq n;let(y,ey,ry):=S.rep i _ ht;let(p,xs,A,rfl,I,fp,hp,ro,dp,J):=ry.own_inv<|F6 n;refine{_,ey,.inl {rfl,xs,A3.of hp},F,Y,R,S,?_};cases hm:m Y with
  |none=>erw[hm]at q<;>symm|some r=>
   erw[hm]at q;cases r with
   |x c=>exact λF' H' e=>q F' H' O R e.stp0 (S.ext e)|v t bb=>
    cases t with
    |nd o Q r=>
     cases Q with
     |lst=>
      cases bb with
      |true=>symm|false=>
       intro F1 H1 y B e1 g1;let(w,g,_,r2):=Dp.frz S e1 g1;have u :=r2;rw[T.share]at u;let(p2,ys,rfl,_,nn,s):=Dy u
       by_cases P:l.length+r.length<=BW
       .erw[P,Å]at q;have S1:=S.ext g;have U:=ro.ext g;have M:=g.hh _ _ hp;have G :=(ry.ext g |>.dom (by rw[I];exact .inl rfl)).1
        have L :=nn;have lr :=by have:=s.1;rw[FW,Á]at this;exact this
        refine{p,p2,xs,ys,rfl,rfl,M,g.fh _ _ L,by rw[<- ro.len,<- lr,<- GU];exact P,?_}
        have C:∀(l2 ) (d ),Ah X.K w l2 d->∀(l ) (xs ) (k ),RpO X.K w k l xs A->RpO X.K w k (l++l2) (xs++d) A:=by
         intro l2
         induction l2 with
         |nil=>intro d hk l xs k b;rw[hk.inv0,Ć,Ć];exact b|cons t l2 ih=>
          intro d hk l xs k b;let(y,ys',rfl,r1,W):=hk.inv;have h2:=b.snoc (r1.any)<|λϊ ϊ ϊ z=>z
          have e3:(λj=>if j=l.length then R0 else A j)=A:=funext λj=>by
           by_cases hj:j=l.length
           .erw[hj,Å];exact funext λa=>propext {λz=>z.elim,λz=>absurd (b.out _ a z)<|Þ _}
           .erw[hj,Ã]
          rw[e3]at h2;have h3:=ih ys' W (l++[t]) (xs++[y]) k h2
          simpa using h3
        have V:=C _ _ s l xs _<|U.upd (o:=.lst<|xs++ys) dp;have r3:=IU J V G CP dp<|F6 n;let(S3,Z):=S1.upd ht ey (by rw[I];exact .inl rfl) r3 (λa z=>.inl (by rw[I];exact z))<|λj a z1 z2=>z2
        exact q w _ O _ ((g.stp).trans Z) S3
       .erw[P,Ã]at q<;>symm
     |_=>symm
    |_=>symm
def s_sto(hN:X.N[i]?=↑x)(hv:Em X.env.scope x)(hd:(x == "__debug__")=false)(N:(x == "__classdict__")=false)(he:PE X e<|tM X.K E ca m)(hk:PE X k<|tM X.K E ca mk)(hs:swapsWithSole [.Subscript (.Name x p1) k pos2] e pos.line X.env=pure false)(hw:swappedStores [.Subscript (.Name x p1) k pos2] e X.env=pure none)
  (ha : ∀ v, assign (.Subscript (.Name x p1) k pos2) X.env v = (do
   let ov <- holding [v]<|eval (.Name x p1) X.env;let iv <- holding [v,ov] (eval k X.env)
   standAt pos2
   holding [v,ov,iv] (setItem ov iv v)
   release [v,ov,iv] [])) :
  PS X (.Assign [.Subscript (.Name x p1) k pos2] e pos) (tS X.K E ca mu<|Gf i mk m):=by
 refine PS.weak (MR he (RI (Gp hN hv hd N) hk Wh ha) hs hw rfl) λD O H h=>?_
 let(F,Y,R,S,q):=h;refine{F,Y,R,S,?_};unfold Gf at q;cases hm:m Y with
 |none=>erw[hm]at q<;>symm|some r=>
  erw[hm]at q;cases r with
  |x c=>exact λG I e=>q G I O R e.stp0 (S.ext e)|v t bb=>
   cases bb with
   |true=>symm|false=>
    intro F1 H1 y B d g1;have K :=g1;simp only at q;cases n:EM Y i with
    |none=>erw[n]at q<;>symm|some kl=>
     let(kd,l):=kl;erw[n]at q;have o:=S.ext d;have ht:=Jq n;let(y2,ey,ry):=o.rep i _ ht;refine{y2,ey,F1,Y,R,o,?_};cases g:mk Y with
     |none=>erw[g]at q<;>symm|some r=>
      erw[g]at q;cases r with
      |x c=>exact λG I e=>q G I O R ((d.stp0).trans e.stp0) (o.ext e)|v tk bk=>
       cases tk with
       |int kk=>
        simp only at q;cases A:CA l.length kk with
        |none=>erw[A]at q<;>symm|some j=>
         erw[A]at q;intro Z H2 z C s g2;have hz:=T3 g2;subst hz;have S2:=o.ext s;have T:=ry.ext s;let(p,xs,Rr,rfl,u,fp,hp,ro,dp,M):=T.own_inv<|F6 n;have P:=(KW A).2.1;have L:=K.ext s
         have pB :=λz=>by
          have:R i p:=by rw[u];exact .inl rfl
          exact S.apart d z i this
         refine{p,xs,kk,j,rfl,rfl,hp,by rw[<- ro.len];exact A,?_}
         have Q:RpO X.K Z (upd H2 p<|.lst<|xs.set j y) (l.set j t) (xs.set j y) _:=(ro.upd dp).set P (L.upd pB) λb a ϊ V W=>S.apart d W i (by rw[u];exact .inr {(b),V})
         have J:∀b,¬ (if b=j then B else Rr b) p:=λb z=>by
          by_cases f:b=j
          .erw[f,Å]at z;exact pB z
          .erw[f,Ã]at z;exact dp b z
         have r3:=IU M Q fp CP J<|F6 n
         let(S3,U):=S2.upd ht ey (by rw[u];exact .inl rfl) r3 (λa z=>by
          rw[u]
          rcases z with z|z
          .exact .inl<|.inl z
          .rcases MB z with w|w
           .exact .inl<|.inr w
           .exact .inr w)<|λj a V W=>S.apart d W j V
         exact q Z _ O _ ((d.stp.trans s.stp0).trans U) S3
       |_=>symm
set_option tactic.hygienic true in
def zn8(hN:X.N[i]?=↑x)(hv:Em X.env.scope x)(hd:(x == ("__debug__":Str))=false)(hcd:(x == ("__classdict__":Str))=false)(he:PE X e<|tM X.K E ca m)(hk:PE X k<|tM X.K E ca mk)(hn:PE X n<|tM X.K E ca mn)(hpl:LP k)(hs:swapsWithSole [.Subscript (.Subscript (.Name x p1) k pos2) n pos3] e pos.line X.env=pure false)(hw:swappedStores [.Subscript (.Subscript (.Name x p1) k pos2) n pos3] e X.env=pure none)
  (ha : ∀ v, assign (.Subscript (.Subscript (.Name x p1) k pos2) n pos3) X.env v = (do
   let ov <- holding [v]<|eval (.Subscript (.Name x p1) k pos2) X.env;let iv <- holding [v,ov] (eval n X.env)
   standAt pos3
   holding [v,ov,iv] (setItem ov iv v)
   release [v,ov,iv] [])) :
  PS X (.Assign [.Subscript (.Subscript (.Name x p1) k pos2) n pos3] e pos) (tS X.K E ca mu<|Jf i mk mn m):=by
 refine PS.weak (MR he (RI (RJ bE (Gp hN hv hd hcd) hk hpl) hn Wh ha) hs hw rfl) λD O H h=>?_
 let(F,Y,R,S,q):=h;refine{F,Y,R,S,?_};unfold Jf at q;cases hm:m Y with
 |none=>erw[hm]at q<;>symm|some r=>
  erw[hm]at q;cases r with
  |x c=>exact λZ H' e=>q Z H' O R e.stp0 (S.ext e)|v t bb=>
   cases bb with
   |true=>symm|false=>
    intro F1 H1 y B L g1;have g1' :=g1;simp only at q;cases ho:EM Y i with
    |none=>erw[ho]at q<;>symm|some kl=>
     let(kd,l):=kl;erw[ho]at q;have S1:=S.ext L;have ht:=Jq ho;let(y2,ey,ry):=S1.rep i _ ht;refine{y2,ey,F1,Y,R,S1,?_};cases hkk:mk Y with
     |none=>erw[hkk]at q<;>symm|some r=>
      erw[hkk]at q;cases r with
      |x c=>exact λZ H' e=>q Z H' O R ((L.stp0).trans e.stp0) (S1.ext e)|v tk bk=>
       cases tk with
       |int kk=>
        simp only at q;cases hj:CA l.length kk with
        |none=>erw[hj]at q<;>symm|some j=>
         erw[hj]at q;cases W:MW l[j]? with
         |none=>erw[W]at q<;>symm|some r=>
          erw[W]at q;intro F2 H2 z C e2 g2;have hz:=T3 g2;subst hz;have S2:=S1.ext e2;have ry2:=ry.ext e2;let(p,xs,Rr,rfl,V,fp,hp,ro,dp,hOw):=ry2.own_inv<|F6 ho;have hjl:=(KW hj).2.1;have P:j<xs.length:=by have:=ro.len;lia
          have hlj :=by
           unfold MW at W;split at W
           .rename_i e;cases W;exact e
           .cases W
          have rk:=ro.rep j _ _ hlj<|Â P
          have Fy:AW xs kk=↑xs[j]:=by
           unfold AW;rw[<- ro.len,hj];exact Â P
          refine{p,xs,kk,xs[j],rfl,rfl,A3.of hp,Fy,F2,Y,R,S2,?_};cases hnn:mn Y with
          |none=>erw[hnn]at q<;>symm|some r'=>
           erw[hnn]at q;cases r' with
           |x c=>exact λZ H' e=>q Z H' O R ((L.stp0.trans e2.stp0).trans e.stp0) (S2.ext e)|v tn bn=>
            cases tn with
            |int nn=>
             simp only at q;cases N:CA r.length nn with
             |none=>erw[N]at q<;>symm|some u=>
              erw[N]at q;intro F3 H3 z C T g3;have hz:=T3 g3;subst hz;have S3:=S2.ext T;have g:=ro.ext T;have hp3:=T.hh _ _ hp;have NA :=(ry2.ext T |>.dom (by rw[V];exact .inl rfl)).1
              have rk3:=rk.ext T;let(J,ys,Rq,ep,A,fp2,hp2,rq,dq,_):=rk3.own_inv rfl;have g3':=(g1'.ext e2).ext T;have U:∀a,Rr j a->R i a:=λa z=>by rw[V];exact .inr {(j),z}
              have f:Rr j J:=by rw[A];exact .inl rfl
              have p2B :=λz=>S.apart L z i<|U _ f
              have pp2:p≠J:=λz=>dp j<|z▸f
              have hj2l:=(KW N).2.1;rw[ep];refine{J,ys,nn,u,rfl,rfl,hp2,by rw[<- rq.len];exact N,?_}
              have rq2:RpO X.K F3 (upd H3 J<|.lst<|ys.set u y) (r.set u t) (ys.set u y) _:=(rq.upd dq).set hj2l (g3'.upd p2B) λb a ϊ M K=>S.apart L K i<|U _ (by rw[A];exact .inr {(b),M})
              have dq2:∀b,¬ (if b=u then B else Rq b) J:=λb z=>by
               by_cases d:b=u
               .erw[d,Å]at z;exact p2B z
               .erw[d,Ã]at z;exact dq b z
              have rrow:=IU (k:=.lst) trivial rq2 fp2 CP dq2 rfl;have Q :=λb hne z=>ro.dis b j J hne z f
              have xsj:xs.set j (.ref J)=xs:=by
               have :=ep;rw[<- this];exact List.set_getElem_self P
              have ro4:RpO X.K F3 (upd H3 J<|.lst<|ys.set u y) (l.set j<|.own<|r.set u t) xs (λb=>if b=j then (λa=>a=J\/∃b,(if b=u then B else Rq b) a) else Rr b):=by
               refine{by simpa using g.len,λI t' x' h1 h2=>?_,λI k' a hik M K=>?_,λI a z=>?_}
               .by_cases s:I=j
                .subst s;rw[é hjl]at h1;cases h1;rw[Â P]at h2;cases h2;rw[ep]
                 simpa using rrow
                .rw[æ<|Î s]at h1;have:=(g.rep I t' x' h1 h2).upd (o:=.lst<|ys.set u y) (Q I s)
                 simpa[s] using this
               .have sub:∀a,(a=J\/∃b,(if b=u then B else Rq b) a)->Rr j a\/B a:=λa z=>by
                 rcases z with z|z
                 .exact .inl (by rw[z];exact f)
                 .rcases MB z with w|w
                  .exact .inl (by rw[A];exact .inr w)
                  .exact .inr w
                by_cases s:I=j
                .erw[s,Å]at M;have G:¬ k'=j:=λz=>hik<|s.trans z.symm
                 erw[G,Ã]at K
                 rcases sub a M with w|w
                 .exact g.dis j k' a (Î G) w K
                 .exact S.apart L w i (by rw[V];exact .inr {(k'),K})
                .erw[s,Ã]at M
                 by_cases G:k'=j
                 .erw[G,Å]at K
                  rcases sub a K with w|w
                  .exact g.dis I j a s M w
                  .exact S.apart L w i (by rw[V];exact .inr {(I),M})
                 .erw[G,Ã]at K;exact g.dis I k' a hik M K
               .by_cases s:I=j
                .simpa[s] using hjl
                .erw[s,Ã]at z
                 simpa using g.out I a z
              have dp3:∀b,¬ (if b=j then (λa=>a=J\/∃b,(if b=u then B else Rq b) a) else Rr b) p:=λb z=>by
               by_cases d:b=j
               .erw[d,Å]at z
                rcases z with z|z
                .exact pp2 z
                .rcases MB z with w|w
                 .exact dp j (by rw[A];exact .inr w)
                 .exact S.apart L w i (by rw[V];exact .inl rfl)
               .erw[d,Ã]at z;exact dp b z
              have rall:=IU hOw ro4 NA (by rw[Ap pp2];exact hp3) dp3<|F6 ho
              let(S4,st4):=S3.upd ht ey (U _ f) rall (λa z=>by
               rw[V]
               rcases z with z|⟨b,z⟩
               .exact .inl<|.inl z
               .by_cases d:b=j
                .erw[d,Å]at z
                 rcases z with z|z
                 .exact .inl<|.inr {j,by rw[z];exact f}
                 .rcases MB z with w|w
                  .exact .inl<|.inr {j,by rw[A];exact .inr w}
                  .exact .inr w
                .erw[d,Ã]at z;exact .inl<|.inr {(b),z})<|λj a M K=>S.apart L K j M
              exact q F3 _ O _ (((L.stp.trans e2.stp0).trans T.stp0).trans st4) S4
            |_=>symm
       |_=>symm
def Jh(i j:Nat)(ms:Ay):AG:=λY=>match ms Y with
 |some (.v a false)=>(match a with
  |[t,u]=>if i<Y.length/\j<Y.length then ↑(.nx<|(Y.set i ↑t).set j ↑u) else none
  |ϊ=>none)
 |some (.v ϊ true)=>none|some (.x c)=>↑(.xc c Y)|none=>none
def s_par{px py pt}(L:X.calm=true)(J:X.N.Nodup)(M:X.N[i]?=↑x)(N:X.N[j]?=↑y)(g:i≠j)
  (T:X.env.scope.names.lookup x=↑.local) (U:X.env.scope.names.lookup y=↑.local) (K:PA X [a,b]<|CU X.K E ca ms)
  (Q:swappedStores [.Tuple [.Name x px,.Name y py] kt pt] (.Tuple [a,b] k2 pt2) X.env=pure (↑[x,y]))
  (P:swapsWithSole [.Tuple [.Name x px,.Name y py] kt pt] (.Tuple [a,b] k2 pt2) pos.line X.env=pure false) :
  PS X (.Assign [.Tuple [.Name x px,.Name y py] kt pt] (.Tuple [a,b] k2 pt2) pos) (tS X.K E ca mu<|Jh i j ms):=by
 refine PS.weak (zo7 L J M N g T U K Q P) λD O H h=>?_
 let(F,Y,R,S,q):=h;refine{F,Y,R,S,?_};unfold Jh at q;cases o:ms Y with
 |none=>erw[o]at q<;>symm|some r=>
  erw[o]at q;cases r with
  |x c=>exact λp w e=>q p w O R e.stp0 (S.ext e)|v W I=>
   cases I with
   |true=>symm|false=>
    intro s A xs n rs;simp only at q
    match W,q,rs with
    |[t,u],q,rs=>
     simp only at q
     by_cases f:i<Y.length/\j<Y.length
     .erw[f,Å]at q;let(Z,xs1,rfl,r1,l):=rs.inv;let(x2,xs2,rfl,V,m):=l.inv;cases m.inv0;have B:=S.ext n;have C:=B.set ((r1).any) (λϊ ϊ ϊ ϊ z=>z.elim) f.1
      have G:=C.set ((V).any) (λϊ ϊ ϊ ϊ z=>z.elim)<|by simpa using f.2
      refine{Z,x2,rfl,q s A _ _ (n.stp0.mono ?_) G};rintro a ⟨k,z⟩
      by_cases hk:k=j
      .erw[hk,Å]at z;exact z.elim
      .erw[hk,Ã]at z
       by_cases d:k=i
       .erw[d,Å]at z;exact z.elim
       .erw[d,Ã]at z;exact{(k),z}
     .erw[f,Ã]at q<;>symm
    |[],q,rs=>symm|[ϊ],q,rs=>symm|ϊ::ϋ::ό::ύ,q,rs=>symm
end
section
variable {X:Cx}{E:L2.St->XK}{ca:Str->Value}{O:L2.St}{H F:Hp}{K:k6}{m mk:AI}{ms:Ay}{D:Ends}{e:Expr}{es:kC}{pos apos cpos p1 p2:Pos}{i j:Nat}{x y:Str}{Y:AN}{R:Nat->Rg}{mu:Bool}
def Rp.kind(h:Rp K F H (.nd true k l) (.ref p) A)(o:JZ k' p)(n:k.isT=false)(c:k'.isT=false):Rp K F H (.nd true k' l) (.ref p) A:=by
 let(g,xs,f,e,rfl,a,b,d,dp,_):=h.own_inv n;cases e;exact IU o d a b dp c
def Rp.pin_at{x}(h:Rp K F H (.nd true (.pin q) l) x A):x=.ref q:=by
 let(e,xs,b,rfl,rfl,c,d,f,dp,o):=h.own_inv rfl;have a :=o;rw[a]
def GI(t:T)(Y:AN):Option Out:=match Y[(0:Nat)]? with
 |some (↑(.nd true (.pin q) l))=>↑(.rt<|.own [t,.nd true (.pin q) l])|ϊ=>none
def Qj(h:GI t Y=↑o):∃q l,Y[0]?=↑(↑(.nd true (.pin q) l))/\o=.rt (.own [t,.nd true (.pin q) l]):=by
 unfold GI at h
 grind
def Qi{x}(S:StR K F' H' O Y R)(h:Y[0]?=↑(↑(.nd true (.pin q) l)))(b:t.flat=true)(r:Rp K F' H' t x R0):Wr K true F' H' (.own [t,.nd true (.pin q) l]) x<|R 0:=by
 let(y,_,a):=S.rep 0 _ h;have c:=a.pin_at;subst c;exact{(t),q,l,rfl,b,r,a}
def Jg(m:AI):AG:=λY=>match m Y with
 |some (.v t ϊ)=>if t.flat then GI t Y else none
 |some (.x c)=>↑(.xc c Y)|none=>none
def Q5:AG:=λY=>GI .non Y
def zi5{x}(g:Dp K F H R t b x B)(a:t.flat=true):Rp K F H t x R0:=by
 cases b with
 |true=>let(_,A,_,r):=g;exact r.flat_any a
 |false=>exact(g).flat_any a
def znc(n:PE X e<|tM X.K E ca m):PS X (.Return ↑e pos)<|tS X.K E ca true<|Jg m:=by
 refine PS.weak (Xb n) λD O H h=>?_
 let(F,Y,R,S,q):=h;refine{F,Y,R,S,?_};unfold Jg at q;cases j:m Y with
 |none=>erw[j]at q<;>symm|some r=>
  erw[j]at q;cases r with
  |x c=>exact λd f e=>q d f O R e.stp0 (S.ext e)|v t s=>
   intro d f x B e g;simp only at q;cases b:t.flat with
   |false=>rw[b]at q;cases q|true=>
    rw[b]at q;cases i:GI t Y with
    |none=>rw[i]at q;symm|some o=>rw[i]at q;let(p,l,k,rfl):=Qj i;exact q d f x (R 0) (e.stp0.mono λa z=>{0,z})<|Qi (S.ext e) k b<|zi5 g b
theorem zjt:PS X (.Return none pos)<|tS X.K E ca true Q5:=PS.weak Xa λD O H h=>by
 let(F,Y,R,S,q):=h;unfold Q5 at q;cases b:GI .non Y with
 |none=>erw[b]at q<;>symm|some o=>erw[b]at q;let(p,l,c,rfl):=Qj b;exact q F H .non (R 0) ((Stp.refl S.fh).mono λa z=>{0,z})<|Qi S c rfl .non
set_option genInjectivity true in
inductive Mo where
 |ok (v:T) (Y:AN)|exc (c:Str) (Y:AN)
def pMM(K:k6)(E:L2.St->XK)(ca:Str->Value)(O:L2.St)(Q:VK)(F H:Hp)(R:Nat->Rg):Option Mo->Prop
 |some (.ok v e)=>∀b a x d,Stp F H (tot R) b a (tot d)->StR K b a O e d->Rp K b a v x R0->Q x a|some (.exc c e)=>∀b a d,Stp F H (tot R) b a (tot d)->StR K b a O e d->XE (E O) ca c b a|none=>False
def J9(K:k6)(E:L2.St->XK)(ca:Str->Value)(m:AN->Option Mo):TE:=λO H Q=>∃F Y R,StR K F H O Y R/\pMM K E ca O Q F H R (m Y)
def T6(g:kL->Option Ru)(l ts:kL)(r:T×kL):Prop:=∀p,g (.nd true (.pin p) l::ts)=↑(.ok<|.own [r.1,.nd true (.pin p) r.2])
open Classical in
def Iz(g:kL->Option Ru)(l ts:kL):Option<|T×kL:=if h:∃r,T6 g l ts r then ↑h.choose else none
def zlx(h:Iz g l ts=↑r):T6 g l ts r:=by
 unfold Iz at h;split at h
 .grind
 .cases h
def b7(h:∀p,g (.nd true (.pin p) l::ts)=↑(.ok<|.own [v,.nd true (.pin p) l'])):Iz g l ts=↑(v,l'):=by
 have a:∃r,T6 g l ts r:={(v,l'),h};unfold Iz;have e:=(a.choose_spec 0).symm.trans (h 0)
 grind
def KE(i:Nat)(g:kL->Option Ru)(ms:Ay):AN->Option Mo:=λY=>match EM Y i with
 |some (kd,l)=>(match ms Y with
  |some (.v b false)=>(match Iz g l b with
   |some (v,a)=>if v.flat then ↑(.ok v<|Y.set i<|↑(.nd true kd a)) else none
   |none=>none)
  |some (.v ϊ true)=>none|some (.x c)=>↑(.exc c Y)|none=>none)
 |none=>none
def D0(K:k6)(ca:Str->Value)(g:kL->Option Ru):Sp:=λf H Q E=>∃F p l e A d,A5 F H/\f=.ref p::d/\Rp K F H (.nd true (.pin p) l) (.ref p) A/\Ah K F e d/\match g (.nd true (.pin p) l::e) with
 |some (.ok t)=>∀b a x B,Stp F H A b a B->Wr K true b a t x B->Q x a|some (.exc c)=>∀b a,Stp F H A b a R0->XE E ca c b a|none=>False
def StR.mut{x A g p:Hp}{B:Rg}{t':T}{C:V}(S:StR K x A O Y R)(D:i<Y.length)(ex:O[i]?=↑↑C)(s:Stp x A (R i) g p B)(r:Rp K g p t' C B) :
  StR K g p O (Y.set i ↑t') (λj=>if j=i then B else R j)/\Stp x A (Pu.tot R) g p (Pu.tot λj=>if j=i then B else R j):=by
 refine{{s.fh,by simpa using S.len,λj t e=>?_,λj a z=>?_,λj k a h o d=>?_},{s.ff,s.fh,λb u n e=>s.kp b u (λz=>n {(i),z}) e,λb ⟨j,z⟩=>?_,λb u e=>?_}}
 .by_cases c:j=i
  .subst c;rw[é D]at e;cases e;exact{C,ex,by simpa using r}
  .rw[æ<|Î c]at e;let(y,F,r1):=S.rep j t e;refine{y,F,?_};erw[c,Ã];refine r1.frame s.ff λa z=>?_
   let(f,u,l):=r1.dom z;have E :=λI=>S.dis j i a c z I
   refine{(s.kp a u E l).trans l.symm,?_};cases q:g a with
   |none=>rfl|some H=>
    rcases s.nf a H q with w|w|w
    .rw[f]at w;cases w
    .exact absurd w E
    .rw[l]at w;cases w
 .by_cases c:j=i
  .subst c;exact{t',é D}
  .erw[c,Ã]at z;let(G,e):=S.out j a z;exact{G,by rw[æ<|Î c];exact e}
 .have m:∀k,k≠i->R k a->¬ B a:=λk hk w z=>by
   rcases s.nw a z with v|v
   .exact S.dis k i a hk w v
   .let(_,u,l):=S.dom w;rw[l]at v;cases v
  by_cases c:j=i
  .have hk:¬ k=i:=λz=>h<|c.trans z.symm
   erw[c,Å]at o;erw[hk,Ã]at d;exact m k hk d o
  .erw[c,Ã]at o
   by_cases hk:k=i
   .erw[hk,Å]at d;exact m j c o d
   .erw[hk,Ã]at d;exact S.dis j k a h o d
 .by_cases c:j=i
  .erw[c,Å]at z
   rcases s.nw b z with w|w
   .exact .inl {(i),w}
   .exact .inr w
  .erw[c,Ã]at z;exact .inl {(j),z}
 .rcases s.nf b u e with w|w|w
  .exact .inl w
  .exact .inr<|.inl {(i),w}
  .exact .inr<|.inr w
def zk7(D:DefX X.prog X.w X.K X.mg X.base k f ps<|D0 X.K ca g)(hr:Room j X.A)(hx:DF X E)(hN:X.N[i]?=↑x)(hv:Em X.env.scope x)(hd:(x == "__debug__")=false)(n:(x == "__classdict__")=false)
  (ha:PA X es<|CU X.K E ca ms) (hk:k<=j) (hg:Gl X f) (o:(f == "__debug__")=false)
  (J:starEach (.Name x p1::es) X.env=(false,eval (.Name x p1) X.env)::starEach es X.env) (s:(backTo pos<|starEach es X.env).any (·.1)=false):PE X (.Call (.Name f p2) (.Name x p1::es) [] pos)<|J9 X.K E ca<|KE i g ms:=by
 refine PE.weak (px D hr hx (EL (Gp hN hv hd n) ha J) hk hg o J s) λO H Q h=>?_
 let(F,Y,R,S,q):=h;unfold KE at q;cases b:EM Y i with
 |none=>erw[b]at q<;>symm|some kl=>
  let(kd,l):=kl;erw[b]at q;have M:=Jq b;let(y,I,N):=S.rep i _ M;let(p,xs0,Rr,rfl,hA,fp,hp,ro,dp,m):=N.own_inv<|F6 b;refine{_,I,F,Y,R,S,?_};cases L:ms Y with
  |none=>erw[L]at q<;>symm|some r=>
   erw[L]at q;cases r with
   |x c=>exact λU W e=>q U W R e.stp0 (S.ext e)|v P bb=>
    cases bb with
    |true=>symm|false=>
     intro A Z xs d rs;simp only at q;cases a:Iz g l P with
     |none=>erw[a]at q<;>symm|some r=>
      let(v,l'):=r;erw[a]at q;cases K:v.flat with
      |false=>rw[K]at q;cases q|true=>rw[K,if_pos rfl]at q;have C:=S.ext d;have u:Rp X.K A Z (.nd true (.pin p) l) (.ref p)<|R i:=(N.ext d).kind rfl (F6 b) rfl;rw[Ć];refine{A,p,l,P,R i,xs,C.fh,rfl,u,rs,?_};rw[zlx a p];intro V H2 z B s2 w2;let(v2,q2,l2,G,hf2,rv,t):=w2;erw[T.nd.injEq,List.cons.injEq,and_true,true_and,Kd.pin.injEq]at G;let(rfl,rfl,rfl):=G;have hi :=(Ñ.mp M).1;let(S2,w):=C.mut hi I s2<|t.kind m rfl<|F6 b;exact q V H2 z _ (d.stp0.trans w) S2 rv
def Gg(e:Bool)(m:AN->Option Mo)(a b:AG):AG:=λY=>match m Y with
 |some (.ok (.bl c) d)=>if (e ^^ c)=true then a d else b d
 |some (.ok ϊ ϋ)=>none|some (.exc c d)=>↑(.xc c d)|none=>none
variable {mm:AN->Option Mo}
def WK{sa sb:kD}(h:tS K E ca mu (Gg neg mm u w) D O H):J9 K E ca mm O H λx H1=>∃c,x=.bl c/\if (neg ^^ c)=true then tS K E ca mu u D O H1 else tS K E ca mu w D O H1:=by
 let(F,Y,R,S,q):=h;refine{F,Y,R,S,?_};unfold Gg at q;cases k:mm Y with
 |none=>erw[k]at q<;>symm|some r=>
  erw[k]at q;cases r with
  |exc c f=>exact λb a d s p=>q b a O d s p|ok v f=>
   cases v with
   |bl c=>
    intro m H1 x n s1 y z;refine{c,z.bl_inv,?_}
    have g:∀{j },(match j f with
      |some (.nx f)=>∀b a e d,Stp F H (tot R) b a (tot d)->StR K b a e f d->D.nx e a|some (.bk f)=>∀b a e d,Stp F H (tot R) b a (tot d)->StR K b a e f d->D.bk e a|some (.ct f)=>∀b a e d,Stp F H (tot R) b a (tot d)->StR K b a e f d->D.ct e a|some (.rt t)=>∀b a x B,Stp F H (tot R) b a B->Wr K mu b a t x B->D.rt x a|some (.xc c f)=>∀b a e d,Stp F H (tot R) b a (tot d)->StR K b a e f d->XE (E e) ca c b a|none=>False)->tS K E ca mu j D O H1:=λ{j} q=>by
     refine{m,f,n,y,?_};cases l:j f with
     |none=>erw[l]at q<;>symm|some o=>
      erw[l]at q;cases o with
      |nx ϊ=>exact λb a e d s S=>q b a e d (s1.trans s) S|bk ϊ=>exact λb a e d s S=>q b a e d (s1.trans s) S|ct ϊ=>exact λb a e d s S=>q b a e d (s1.trans s) S|rt ϊ=>exact λb a x B s r=>q b a x B (s1.trans s) r|xc ϊ ϋ=>exact λb a e d s S=>q b a e d (s1.trans s) S
    by_cases i:(neg ^^ c)=true
    .rw[if_pos i];erw[i,Å]at q;exact g q
    .rw[if_neg i];erw[i,Ã]at q;exact g q
   |_=>symm
def znf(c:PE X e<|J9 X.K E ca mm)(d:∀whole,isTrue e X.env whole=(do let v <- whole;standAt e.pos;holding [v] (truthy v)))(a:B8 X sa<|tS X.K E ca mu u)(b:B8 X sb<|tS X.K E ca mu w):PS X (.If e sa sb pos)<|tS X.K E ca mu<|Gg false mm u w:=by
 refine PS.weak (RD (RC c d) a b) λD O H h=>?_
 have z:=WK (sa:=sa) (sb:=sb) h;erw[Bool.false_xor]at z;exact z
def zju(c:PE X e<|J9 X.K E ca mm)(d:∀whole,isTrue e X.env whole=(do let v <- whole;standAt e.pos;holding [v] (truthy v)))(a:B8 X sa<|tS X.K E ca mu u)(b:B8 X sb<|tS X.K E ca mu w):PS X (.If (.UnaryOp .Not e p1) sa sb pos)<|tS X.K E ca mu<|Gg true mm u w:=by
 refine PS.weak (RD (X8<|RC c d) a b) λD O H h=>?_
 have z:=WK (sa:=sa) (sb:=sb) h;erw[Bool.true_xor]at z;exact z
end
abbrev offA(A:Around):Around:={ A with handled:=none }
structure FnS(P:Program)(w:World)(K:k6)(mg:Str->Option Value)(base:Heap)(k:Nat)(f:Addr)(fd:FuncData)(p:Str)(sp:Sp):Prop where
 run:∀(A:Around) (outer:List Env) (s:Shared) (H:Hp) (args:Args) (a:Addr) (Q:VK),A.handled=↑(.ref a)->(∃C,IsX H a C)->Room k (offA A)->Env0 P w K mg base A outer s H->BindsTo s fd args [(p,.ref a)]->sp [.ref a] H Q E0 ->
  codeAny (model P w) A (.call (.ref f) args) (CR LX outer P w H s Q E0) s
structure DefS(P:Program)(w:World)(K:k6)(mg:Str->Option Value)(base:Heap)(k:Nat)(x p:Str)(sp:Sp) where
 f:Addr
 fd:FuncData
 ok:FnS P w K mg base k f fd p sp
 m:mg x=↑(.ref f)
 kp:W.keepIn K (.ref f)=true
 b:Ce K fd [p] []
section
variable {X:Cx}{pq:List<|Addr×Obj}{O:L2.St}{H:Hp}{s:Shared}{a:Addr}{kvs:List<|Key×V}
end
section
variable {X:Cx}
def tDicO:TE:=λϊ H Q=>∀p,H p=none->Q (.ref p) (upd H p<|.dK [])
theorem zkn:PE X (.Dict [] [] pos) tDicO:=λa s O H Q I h=>by
 refine wpAny_Dict_empty {.ref s.heap.objs.size,_,I.laid (λϊ ϊ q=>Ð _ q) (Æ _)<|zil s.heap I.big,rfl,h _<|I.hok.fresh<|Æ _}
variable {E:L2.St->XK}{ca:Str->Value}{m mk mv:AI}{e k:Expr}{pos p1 pos2:Pos}{mu:Bool}
end
section
variable {X:Cx}{E:L2.St->XK}{ca:Str->Value}{m mk:AI}{e k:Expr}{pos p1 pos2:Pos}{mu:Bool}{i:Nat}{x:Str}
end
set_option tactic.hygienic true in
def zoy(b:X.A.units+64<cLine):Ag X (compareOp .NotEq)<|Bg X.K CJ:=by
 intro l s O H x y v u Q I g i h;let(F,m,n,r,fh,r1,f,e,q):=h;unfold CJ at e;split at e
 .cases e;rename_i a;unfold HF E8 at a;rw[È,È,È,È,ê]at a;let(j,c):=Gk I fh (r1.any) a.1.1.1 g;let(k,d):=Gk I fh (f.any) a.1.2.1 i;exact SeqAt.compareNe_reads c d a.1.1.2 a.1.2.2 (fQ b a.2) {.bl _,H,I,rfl,q.bl fh}
 .cases e
def StR.frz{K }       (S:StR K F H O Y R)(h:Y[i]?=↑↑t):StR K (Pu.frz F H<|R i) H O (Y.set i ↑t.share) (λj=>if j=i then R0 else R j):=by
 let(x,ex,r):=S.rep i t h;have m:i<Y.length:=(Ñ.mp h).1;have n:∀a,R i a->F a=none:=λa z=>(r.dom z).1
 refine{Ho S.fh,by simpa using S.len,λj g e=>?_,λj a z=>?_,λj k a f c d=>?_}
 .by_cases b:j=i
  .subst b;rw[é m]at e;cases e;exact{x,ex,by simpa using r.share (Ek n) λa u z q=>by rw[ET z];exact q}
  .rw[æ<|Î b]at e;let(y,l,r1):=S.rep j g e;refine{y,l,?_};erw[b,Ã]
   exact r1.frame (Ek n) λa z=>{rfl,by
    rw[Ej<|λo=>S.dis j i a b z o]
    exact(r1.dom z).1}
 .by_cases b:j=i
  .erw[b,Å]at z;exact z.elim
  .erw[b,Ã]at z;let(g,e):=S.out j a z;exact{g,by rw[æ<|Î b];exact e}
 .by_cases b:j=i
  .erw[b,Å]at c;exact c.elim
  .by_cases hk:k=i
   .erw[hk,Å]at d;exact d.elim
   .erw[b,Ã]at c;erw[hk,Ã]at d;exact S.dis j k a f c d
open Classical in
def FU(A:Rg)(F:Hp):Hp:=λa=>if A a then none else F a
section
variable {X:Cx}{E:L2.St->XK}{ca:Str->Value}{O:L2.St}{H:Hp}{K:k6}{u w:AG}{D:Ends}
end
def aE{fs:kE}{xs}{f}:∀{j} {x:V},fs.findIdx? (· == f)=↑j->xs[j]?=↑x->(fs.zip xs).lookup f=↑x:=by
 induction fs generalizing xs with
 |nil=>intro j x h;simp at h|cons g r i=>
  intro j x h a;rw[Δ]at h;cases xs with
  |nil=>simp at a|cons y l=>
   rw[ĺ,å]
   by_cases b:g=f
   .subst b;erw[ë,Å,Ů]at h;subst h;simp at a;rw[ë,a]
   .have c:(g == f)=false:=beq_eq_false_iff_ne.mpr b;have d:(f == g)=false:=beq_eq_false_iff_ne.mpr<|Î b;rw[c]at h;erw[ą,Ã,Ø]at h;let(k,e,rfl):=h;rw[d];exact i e<|by simpa using a
def zap{fs:kE}{xs:kK}(h:fs.contains f=false):(fs.zip xs).lookup f=none:=by
 induction fs generalizing xs with
 |nil=>rfl|cons g r a=>
  cases xs with
  |nil=>rfl|cons y b=>rw[List.contains_cons,č]at h;rw[ĺ,å,h.1];exact a h.2
def Rp.obj_inv{K}(h:Rp K F H (.obj k l) x A):∃p xs,x=.ref p/\A=R0/\LQ F k p xs/\l.length=xs.length/\∀(i:Nat) (t) (x),l[i]?=↑t->xs[i]?=↑x->Rp K F H t x R0:=by
 cases h with
 |obj h e c=>exact{_,_,rfl,rfl,h,e,c}
def DW(C:Addr)(fs:kE):T->Option (kL)
 |.obj (.ins b a) l=>if b=C/\a=fs then ↑l else none
 |ϊ=>none
def bR(h:DW C fs t=↑l):t=.obj (.ins C fs) l:=by
 unfold DW at h
 grind
def CK(C:Addr)(fs:kE)(j:Nat)(m:AI):AI:=λY=>match m Y with
 |some (.v t b)=>(match DW C fs t with
  |some l=>(match l[j]? with
   |some u=>↑(.v u<|b && !u.sh)|none=>none)
  |none=>none)
 |some (.x c)=>↑(.x c)|none=>none
def ED(C:Addr)(fs:kE)(g:kL->Option Ru)(m:AI)(ms:Ay):AI:=λY=>match m Y with
 |some (.v t ϊ)=>(match DW C fs t with
  |some ϊ=>(match ms Y with
   |some (.v a b)=>(match g (t.share::a) with
    |some (.ok v)=>Az b v|some (.exc c)=>Ke true c|none=>none)
   |some (.x c)=>↑(.x c)|none=>none)
  |none=>none)
 |some (.x c)=>↑(.x c)|none=>none
def DV(m n:AI):AI:=λY=>match m Y with
 |some r=>↑r|none=>n Y
section
variable {X:Cx}{E:L2.St->XK}{ca:Str->Value}{m n:AI}{ms:Ay}{e o:Expr}{es:kC}{pos p apos:Pos}{C:Addr}{fs:kE}{f:Str}{j:Nat}
theorem RA(c:PE X e<|tM X.K E ca m)(d:PE X e<|tM X.K E ca n):PE X e<|tM X.K E ca<|DV m n:=λb s O H Q I h=>by
 let(F,Y,R,S,q):=h;unfold DV at q;cases a:m Y with
 |none=>rw[a]at q;exact d b s O H Q I {(F),Y,R,S,q}|some r=>rw[a]at q;exact c b s O H Q I {F,Y,R,S,by rw[a];exact q}
def Mv{K}(g:Dp K F H R (.obj k l) b x B):Rp K F H (.obj k l) x R0/\B=R0:=by
 cases b with
 |true=>let(c,A,_,r):=g;let(p,xs,rfl,a,_):=r.obj_inv;exact{a▸r,c}
 |false=>have r:Rp K F H (.obj k l) x B:=g;let(p,xs,rfl,a,_):=r.obj_inv;exact{a▸r,a}
def r_fld(c:Cls X.K C)(K:Cd X.K C f)(I:fs.findIdx? (· == f)=↑j)(L:PE X o<|tM X.K E ca m)(G:attributeBase o f X.env (eval o X.env)=eval o X.env):PE X (.Attribute o f pos)<|tM X.K E ca<|CK C fs j m:=by
 refine PE.weak (Xg L G) λO H Q h=>?_
 let(F,Y,R,S,q):=h;refine{F,Y,R,S,?_};unfold CK at q;cases k:m Y with
 |none=>erw[k]at q<;>symm|some r=>
  erw[k]at q;cases r with
  |x c=>exact q|v t b=>
   intro p s x B i g1;cases g:DW C fs t with
   |none=>erw[g]at q<;>symm|some l=>
    erw[g]at q;have M:=bR g;subst M;cases d:l[j]? with
    |none=>erw[d]at q<;>symm|some u=>
     erw[d]at q;let(r1,A):=Mv g1;subst A;let(a,xs,rfl,_,(y,D),N,w):=r1.obj_inv;have J:=(Ñ.mp d).1;have n:xs[j]?=↑xs[j]:=Â<|by lia
     have e:=w j u _ d n;refine{a,_,y,_,xs[j],rfl,i.fh _ _ D,c,K,aE I n,?_};refine q p s _ R0 i ?_;cases b with
     |false=>exact e|true=>
      cases P:u.sh with
      |true=>exact e|false=>exact{rfl,R0,λϊ z=>z.elim,e}
structure MetX(P:Program)(w:World)(K:k6)(mg:Str->Option Value)(base:Heap)(C:Addr)(m:Str)(k:Nat)(ps:kE)(sp:Sp) where
 f:Addr
 fd:FuncData
 c:Cls K C
 me:Meth K C m f
 ok:FnOk P w K mg base (DH P w) k f fd ps sp
 b:Ce K fd ps []
def Of(C:Addr)(m:Str)(sp:Sp)(E:L2.St->XK)(e:TE)(t:TA):TE:=λO H Q=>e O H λx b=>∃a d fs,x=.ref a/\b a=↑(.ins C d fs)/\fs.lookup m=none /\
 t O b λf c=>sp (x::f) c Q<|E O
def pmx(D:MetX X.prog X.w X.K X.mg X.base C f k ps sp)(y:Room j X.A)(A:DF X E)(w:PE X o ta)(v:PA X (e::es) t)(hk:k<=j)
  (c:starEach (e::es) X.env=(false,eval e X.env)::starEach es X.env) (b:(backTo pos<|starEach es X.env).any (·.1)=false)
  (z : eval (.Call (.Attribute o f apos) (e :: es) [] pos) X.env = (do
   let ov <- eval o X.env
   standAt apos.atName
   let (f,first) <- holding [ov] (getMethod ov f pl)
   callWith pos f first (backTo pos<|starEach (e::es) X.env) (backToKw pos<|keywordEach [] X.env))):PE X (.Call (.Attribute o f apos) (e::es) [] pos)<|Of C f sp E ta t:=by
 intro g s O H Q I h;refine W.methodCall_KW (pl:=pl) (AX (w g s O H _ I h) λu s1 F=>?_) z
 let(x,n,d,B,a,G,fs,ex,p,l,q):=F;subst ex;obtain rfl:u=Value.ref a:=B;refine bZ d p D.c D.me l ?_;refine Α (first:=[.ref a]) (h₀:=X.base) I.ok.mod.kin D.me.kp (AX (v pos g s1 O n _ d q) λi J ⟨m,H2,I2,r,q2⟩=>{I2.kIn,?_}) c b
 exact Qc (us:=.ref a::i) (vs:=.ref a::m) (dvs:=[]) D.ok (y.mono hk) D.b .nil A I2 (.cons rfl r) (by rw[Ć];exact q2)
def pmx0(D:MetX X.prog X.w X.K X.mg X.base C f k ps sp)(e:Room j X.A)(i:DF X E)(d:PE X o ta)(hk:k<=j)
  (g : eval (.Call (.Attribute o f apos) [] [] pos) X.env = (do
   let ov <- eval o X.env
   standAt apos.atName
   let (f,first) <- holding [ov] (getMethod ov f pl)
   callWith pos f first (backTo pos<|starEach [] X.env) (backToKw pos<|keywordEach [] X.env))):PE X (.Call (.Attribute o f apos) [] [] pos)<|Of C f sp E ta WB:=by
 intro m s O H Q I h;refine W.methodCall_KW (AX (d m s O H _ I h) λu s1 p=>?_) g
 let(x,r,b,n,a,t,fs,ex,c,l,q):=p;subst ex;obtain rfl:u=Value.ref a:=n;refine bZ b c D.c D.me l ?_;exact W.callWith_K0 b.kIn D.me.kp<|Qc (vs:=[.ref a]) D.ok (e.mono hk) D.b .nil i b (.cons rfl .nil) q
def WD(i:fs.contains f=false)(h:tM X.K E ca (ED C fs g m ms) O H Q):Of C f (Bc X.K ca g) E (tM X.K E ca m) (CU X.K E ca ms) O H Q:=by
 let(F,Y,R,S,q):=h;refine{F,Y,R,S,?_};unfold ED at q;cases L:m Y with
 |none=>erw[L]at q<;>symm|some r=>
  erw[L]at q;cases r with
  |x c=>exact q|v t b=>
   intro U H1 x B k g1;cases y:DW C fs t with
   |none=>erw[y]at q<;>symm|some l=>
    erw[y]at q;have ht:=bR y;subst ht;let(r1,Z):=Mv g1;subst Z;have I:=S.ext k;let(a,xs,rfl,_,(W,hF),el,cc):=r1.obj_inv;refine{a,W,_,rfl,k.fh _ _ hF,zap i,U,Y,R,I,?_};cases M:ms Y with
    |none=>erw[M]at q<;>symm|some r=>
     erw[M]at q;cases r with
     |x c=>exact λD p e=>q D p (k.trans0 e)|v ts u=>
      intro j s vs w rs;have J:=I.ext w;simp only at q;have r2:Rp X.K (Gz u j s R) s (T.obj (.ins C fs) l).share (.ref a) R0:=(r1.ext w).share (Mu J) λϊ ϊ z=>z.elim
      refine{Gz u j s R,_,TY J,.cons r2 rs,?_};have d:=k.trans0 w;cases K:g ((T.obj (.ins C fs) l).share::ts) with
      |none=>erw[K]at q<;>symm|some r=>
       erw[K]at q;cases r with
       |exc c=>
        erw[Ke]at q;cases A:GK c with
        |none=>rw[A]at q;exact λD p o=>(q j p<|d.grow o.hh).any A|some n=>rw[A]at q;symm
       |ok v=>
        intro V G z P o N;simp only at q;unfold Az at q;cases u with
        |false=>exact q V G z P (d.trans0 o) N|true=>
         cases i:v.flat with
         |false=>rw[i]at q;cases q|true=>rw[i]at q;exact q j G z R0 (d.grow o.hh)<|N.flat_any i
theorem znx(D:MetX X.prog X.w X.K X.mg X.base C f k ps<|Bc X.K ca g)(i:fs.contains f=false)(l:Room j X.A)(p:DF X E)(d:PE X o<|tM X.K E ca m)(c:PA X (e::es)<|CU X.K E ca ms)(hk:k<=j)
  (b:starEach (e::es) X.env=(false,eval e X.env)::starEach es X.env) (a:(backTo pos<|starEach es X.env).any (·.1)=false)
  (n : eval (.Call (.Attribute o f apos) (e :: es) [] pos) X.env = (do
   let ov <- eval o X.env
   standAt apos.atName
   let (f,first) <- holding [ov] (getMethod ov f pl)
   callWith pos f first (backTo pos<|starEach (e::es) X.env) (backToKw pos<|keywordEach [] X.env))):PE X (.Call (.Attribute o f apos) (e::es) [] pos)<|tM X.K E ca<|ED C fs g m ms:=
 PE.weak (pmx D l p d c hk b a n) λO H Q h=>WD i h
structure NewX(P:Program)(w:World)(K:k6)(mg:Str->Option Value)(base:Heap)(x:Str)(C:Addr)(k:Nat)(ps:kE)(sp:Sp) where
 f:Addr
 fd:FuncData
 m:mg x=↑(.ref C)
 ma:Mk K C f
 ok:FnOk P w K mg base (DH P w) k f fd ps sp
def zmx(C:Addr)(sp:Sp)(dvs:kK)(E:L2.St->XK)(t:TA):TE:=λO H Q=>t O H λd b=>∀x a,b x=none->b a=none->a≠x ->
 sp (.ref x::(d++dvs)) (upd (upd b a<|.own x) x<|.ins C a []) (λv c=>v=.non/\Q (.ref x) c) (E O)
def pnx{x:Str}{t:TA}(D:NewX X.prog X.w X.K X.mg X.base x C k ps sp)(y:Ce X.K D.fd ps ds)(hd:Ac dvs ds)(F:Room j X.A)(G:DF X E)(w:PA X (e::es) t)(hk:k+1<=j)(A:Gl X x)(d:(x == ("__debug__":Str))=false)
  (z:starEach (e::es) X.env=(false,eval e X.env)::starEach es X.env) (f:(backTo pos<|starEach es X.env).any (·.1)=false):PE X (.Call (.Name x p) (e::es) [] pos)<|zmx C sp dvs E t:=by
 intro i s O H Q I h;refine Ğ<|Mj I A D.m ?_ d;refine Α I.ok.mod.kin D.ma.kp (AX (w pos i s O H _ I h) λb s1 ⟨M,H1,I1,r,q⟩=>{I1.kIn,?_}) z f
 have g:=q (s1.heap.objs.size+1) s1.heap.objs.size (I1.hok.fresh<|ĕ _) (I1.hok.fresh<|Æ _)<|Õ<|ě _;have c:=Inv.made (C:=C) I1;have l:Ac (V.ref (s1.heap.objs.size+1)::(M++dvs))<|Value.ref (s1.heap.objs.size+1)::(b++ds):=.cons rfl<|r.append hd
 have B :=by
  have e:=l.length;rw[D.ok.len _ _ _ _ g]at e;exact e.symm
 refine İ (zhu I1.kIn D.ma.makes D.ma.init (beq_iff_eq.mp D.ma.fn) (ĉ (D.ok.run _ X.stack _ _ {Value.ref (s1.heap.objs.size+1)::b,[]} (Value.ref (s1.heap.objs.size+1)::(b++ds)) _ _ (E O) ((F.mono hk).make C b [])
  (c.env0.make C b []) (y _ (Value.ref (s1.heap.objs.size+1)::b) c.kIn B) l g) λr L a=>?_))
 cases r with
 |error v=>exact G i O _ _ v L c a|ok fl=>
  cases fl with
  |ret u=>let(v,m,n,K,o,J):=c.after a;subst o;exact{K,{V.ref<|s1.heap.objs.size+1,m,n,rfl,J}}
  |next=>exact False.elim a|brk=>exact False.elim a|cont=>exact False.elim a
def Jd(K:k6)(ca:Str->Value)(C:Addr)(g:kL->Option Ru):Sp:=λi H Q E=>∃F p h f e,A5 F H/\i=.ref p::e/\F p=none/\H p=↑(.ins C h [])/\Ah K F f e/\match g f with
 |some (.ok t)=>∀d b,Stp F H (λa=>a=p) d b R0->Rp K d b t (.ref p) R0->Q .non b|some (.exc c)=>∀d b,Stp F H (λa=>a=p) d b R0->XE E ca c d b|none=>False
def Ih(g:kL->Option Ru)(ds:kL)(ms:Ay):AI:=λY=>match ms Y with
 |some (.v a false)=>(match g (a++ds) with
  |some (.ok t)=>↑(.v t false)|some (.exc c)=>↑(.x c)|none=>none)
 |some (.v ϊ true)=>none|some (.x c)=>↑(.x c)|none=>none
def r_new{k j:Nat}{x:Str}(D:NewX X.prog X.w X.K X.mg X.base x C k ps<|Jd X.K ca C g)(U:Ce X.K D.fd ps ds)(hd:Ac dvs ds)(K:∀F:Hp,Ah X.K F dts dvs)(Z:Room j X.A)(hx:DF X E)(i:PA X (e::es)<|CU X.K E ca ms)(hk:k+1<=j)(B:Gl X x)(J:(x == ("__debug__":Str))=false)
  (V:starEach (e::es) X.env=(false,eval e X.env)::starEach es X.env) (L:(backTo pos<|starEach es X.env).any (·.1)=false):PE X (.Call (.Name x p) (e::es) [] pos)<|tM X.K E ca<|Ih g dts ms:=by
 refine PE.weak (pnx D U hd Z hx i hk B J V L) λO H Q h=>?_
 let(F,Y,R,S,q):=h;refine{F,Y,R,S,?_};unfold Ih at q;cases P:ms Y with
 |none=>erw[P]at q<;>symm|some r=>
  erw[P]at q;cases r with
  |x c=>exact q|v T b=>
   cases b with
   |true=>exact λn G xs y rs=>q.elim|false=>
    intro n G xs y rs a m i l W;simp only at q;have M :=rs
    have s:∀d f,Stp n (upd (upd G m<|.own a) a<|.ins C m []) (λb=>b=a) d f R0->Ext F H d f R0:=λd f st=>by
     refine y.trans0 {λb u z=>?_,st.ff,st.fh,λϊ z=>z.elim,λb u z=>?_}
     .have o :=DA z i;have A :=DA z l;exact st.kp b u o (by rw[Ap o,Ap A];exact z)
     .rcases st.nf b u z with w|w|w
      .exact .inl w
      .rw[w];exact .inr i
      .by_cases o:b=a
       .rw[o];exact .inr i
       .by_cases A:b=m
        .rw[A];exact .inr l
        .rw[Ap o,Ap A]at w;exact .inr w
    have I:A5 n<|upd (upd G m<|.own a) a<|.ins C m []:=λb u z=>by
     have N:=y.fh b u z;rw[Ap<|DA N i,Ap<|DA N l];exact N
    refine{n,a,m,T++dts,xs++dvs,I,rfl,GP y.fh i,CP,MK M<|K n,?_};cases B:g (T++dts) with
    |none=>erw[B]at q<;>symm|some r=>
     erw[B]at q;cases r with
     |exc c=>exact λd f st=>q d f (s d f st)|ok t=>exact λd f st r=>{rfl,q d f _ R0 (s d f st) r}
end
def GL(Y:AN)(i:Nat)(C:Addr)(fs:kE):Option<|Addr×kL:=match Y[i]? with
 |some (↑(.oob p b a l))=>if b=C/\a=fs then ↑(p,l) else none
 |ϊ=>none
set_option tactic.hygienic true in
def RM(h:GL Y i C fs=↑(p,l)):Y[i]?=↑(↑(.oob p C fs l)):=by
 unfold GL at h;split at h
 .rename_i q;split at h
  .rename_i a;cases h;rw[q,a.1,a.2]
  .cases h
 .cases h
def EX(C:Addr)(fs:kE)(j i:Nat)(m:AI):AG:=λY=>match m Y with
 |some (.v t false)=>(match GL Y i C fs with
  |some (p,l)=>if l.length=j then ↑(.nx<|Y.set i<|↑(.oob p C fs<|l++[t])) else none
  |none=>none)
 |some (.v ϊ true)=>none|some (.x c)=>↑(.xc c Y)|none=>none
def Jr:kH->Option (kE×kL)
 |some (.osd a l)=>↑(a,l)|ϊ=>none
def ze0(h:Jr o=↑(ks,l)):o=↑(.osd ks l):=by
 unfold Jr at h
 grind
open Classical in
def Ji(C:Addr)(fs:kE)(j i:Nat)(mk m:AI):AG:=λY=>match m Y with
 |some (.v t false)=>(match GL Y i C fs with
  |some (p,l)=>(match Jr l[j]? with
   |some (a,lv)=>(match mk Y with
    |some (.v (.str k) ϊ)=>if k∉a/\a.length<100000 then ↑(.nx<|Y.set i<|↑(.oob p C fs<|l.set j<|.osd (a++[k])<|lv++[t.share])) else none
    |some (.v ϊ ϋ)=>none|some (.x c)=>↑(.xc c Y)|none=>none)
   |none=>none)
  |none=>none)
 |some (.v ϊ true)=>none|some (.x c)=>↑(.xc c Y)|none=>none
def Mg:AI:=λϊ=>↑(.v (.osd [] []) false)
def X7{y:V}:∀{fs:kE} {xs:kK},fs[xs.length]?=↑f->(fs.take xs.length).contains f=false->Dg f y (fs.zip xs)=fs.zip (xs++[y])
 |[],xs,h,ϊ=>by simp at h|g::r,[],h,ϊ=>by
  simp at h;subst h;simp[Dg]
 |g::r,x::xs,h,a=>by
  rw[Ö,List.take_succ_cons,List.contains_cons,č]at a
  have b:¬ g=f:=λz=>by
   grind
  have c:=X7 (y:=y) (by simpa using h) a.2
  rw[ĺ,Ų,ĺ];show(if g=f then _ else _)=_
  grind
section
variable {K:k6}{F H:Hp}{C:Addr}{fs:kE}{l:kL}
def Rp.oob_inv(h:Rp K F H (.oob p C fs l) x A):∃dx xs Rr,x=.ref p/\A=(λa=>a=p\/∃j,Rr j a)/\F p=none/\H p=↑(.ins C dx<|fs.zip xs)/\RpO K F H l xs Rr/\∀j,¬ Rr j p:=by
 cases h with
 |oob R f h e c d dp o=>exact{_,_,R,rfl,rfl,f,h,{(e),c,d,o},dp}
theorem Xm(r:RpO K F H l xs Rr)(f:F p=none)(h:H p=↑(.ins C dx<|fs.zip xs))(dp:∀j,¬ Rr j p):Rp K F H (.oob p C fs l) (.ref p) (λa=>a=p\/∃j,Rr j a):=.oob Rr f h r.len r.rep r.dis dp r.out
def Rp.osd_inv(h:Rp K F H (.osd ks l) x A):∃p xs Rs,x=.ref p/\A=(λa=>a=p\/∃j,Rs j a)/\F p=none/\H p=↑(.dK<|Cp ks xs)/\RpO K F H l xs Rs/\ks.length=xs.length/\∀j,¬ Rs j p:=by
 cases h with
 |osd R f h e b c d dp o=>exact{_,_,R,rfl,rfl,f,h,{(e),c,d,o},b,dp}
theorem zop(r:RpO K F H l xs Rr)(b:ks.length=xs.length)(f:F p=none)(h:H p=↑(.dK<|Cp ks xs))(dp:∀j,¬ Rr j p):Rp K F H (.osd ks l) (.ref p) (λa=>a=p\/∃j,Rr j a):=.osd Rr f h r.len b r.rep r.dis dp r.out
theorem zhm(r:RpO K F H l xs Rr)(e:ks.length=xs.length)(f:F p=none)(dp:∀j,¬ Rr j p)(rt:Rp K F H t y B)(d:∀j a,Rr j a->¬ B a)(c:¬ B p):Rp K F (upd H p<|.dK<|Cp (ks++[k])<|xs++[y]) (.osd (ks++[k])<|l++[t]) (.ref p) (λa=>a=p\/∃j,(if j=l.length then B else Rr j) a):=
 zop ((r.upd dp).snoc (rt.upd c) d) (by simp[e]) f CP λj z=>by
  by_cases b:j=l.length
  .erw[b,Å]at z;exact c z
  .erw[b,Ã]at z;exact dp j z
end
def zlm(h:ks.length=xs.length):(Cp ks xs).length=xs.length:=by
 unfold Cp;rw[List.length_zipWith,h,Nat.min_self]
def zln(h:kv∈Cp ks xs):∃k∈ks,kv.1=Sum.inr k:=by
 induction ks generalizing xs with
 |nil=>cases xs<;>cases h|cons a r c=>
  cases xs with
  |nil=>cases h|cons b s=>
   unfold Cp at h;rw[List.zipWith_cons_cons]at h
   rcases Ì.mp h with e|e
   .exact{a,Í ..,by rw[e]}
   .let(k,hk,e):=c (xs:=s) e;exact{k,Ê _ hk,e}
def zhb(h:ks.length=xs.length)(hk:k∉ks):EY (Cp ks xs) (Sum.inr k) y=Cp (ks++[k]) (xs++[y]):=by
 unfold EY;rw[if_neg]
 .unfold Cp;rw[List.zipWith_append h]
  rfl
 .intro c;let(g,a,b):=Λ.mp c;let(f,d,e):=zln a
  grind
section
variable {X:Cx}{E:L2.St->XK}{ca:Str->Value}{m mk:AI}{e k:Expr}{pos p1 pos2 pos3:Pos}{mu:Bool}{i j:Nat}{x f:Str}{C:Addr}{fs:kE}
theorem zo1:PE X (.Dict [] [] pos)<|tM X.K E ca Mg:=PE.weak zkn λO H Q h p a=>by
 let(F,Y,R,S,q):=h;exact q F (upd H p<|.dK []) (.ref p) _ (Ext.newO S.fh a) (Rp.osd0 (xs:=[]) (GP S.fh a) CP rfl rfl λi t x h=>by simp at h)
def znh(c:Cls X.K C)(hn:Cd X.K C f)(k:fs[j]?=↑f)(J:(fs.take j).contains f=false)(hjl:j<900)(hN:X.N[i]?=↑x)(hv:Em X.env.scope x)(hd:(x == "__debug__")=false)(G:(x == "__classdict__")=false)(he:PE X e<|tM X.K E ca m)
  (hs:swapsWith e (↑(.Attribute (.Name x p1) f pos2)) pos.line X.env=pure false):PS X (.Assign [.Attribute (.Name x p1) f pos2] e pos)<|tS X.K E ca mu<|EX C fs j i m:=by
 refine PS.weak (zo9 (Gp hN hv hd G) he hs) λD O H h=>?_
 let(F,Y,R,S,q):=h;refine{F,Y,R,S,?_};unfold EX at q;cases hm:m Y with
 |none=>erw[hm]at q<;>symm|some r=>
  erw[hm]at q;cases r with
  |x c=>exact λF' H' e=>q F' H' O R e.stp0 (S.ext e)|v t bb=>
   cases bb with
   |true=>exact λd n y B b g1=>q.elim|false=>
    intro d n y B b g1;have u:Rp X.K d n t y B:=g1;simp only at q;cases K:GL Y i C fs with
    |none=>erw[K]at q<;>symm|some pl=>
     let(p,l):=pl;erw[K]at q
     by_cases I:l.length=j
     .rw[if_pos I]at q;have S1:=S.ext b;have ht:=RM K;let(y2,Z,ry):=S.rep i _ ht;let(W,xs,Rr,rfl,A,fp,L,N,dp):=ry.oob_inv;have g:xs.length=j:=by rw[<- N.len];exact I
      have M:=b.hh _ _ L;have pB:¬ B p:=λz=>by rw[b.nb p z]at L;cases L
      have s:d p=none:=(ry.ext b |>.dom (by rw[A];exact .inl rfl)).1
      refine{_,Z,p,C,W,fs.zip xs,rfl,M,c,hn,?_,?_}
      .rw[List.length_zip]
       lia
      .rw[X7 (by rw[g];exact k) (by rw[g];exact J)]
       have P:=N.ext b;have Q:RpO X.K d (upd n p<|.ins C W<|fs.zip<|xs++[y]) (l++[t]) (xs++[y]) _:=(P.upd dp).snoc (u.upd pB) λj a U V=>N.apart b V j U
       have o:∀j,¬ (if j=l.length then B else Rr j) p:=λj z=>by
        by_cases k:j=l.length
        .erw[k,Å]at z;exact pB z
        .erw[k,Ã]at z;exact dp j z
       have r2:=Xm (C:=C) (fs:=fs) Q s CP o
       let(S3,T):=S1.upd ht Z (by rw[A];exact .inl rfl) r2 (B:=B) (λa z=>by
        rw[A]
        rcases z with z|z
        .exact .inl<|.inl z
        .rcases Wb z with w|w
         .exact .inl<|.inr w
         .exact .inr w)<|λj a U V=>S.apart b V j U
       exact q d _ O _ (b.stp.trans T) S3
     .rw[if_neg I]at q;symm
def rSetS:Uq:=λo i v H Q=>∃p a k,o=.ref p/\i=.str k/\H p=↑(.dK a)/\a.length<sizeLine/\Q (upd H p<|.dK<|EY a (Sum.inr k) v)
def zh1(d:X.A.units+1<cLine):Uz X rSetS:=by
 intro n s O H o i v m l u Q I g f j h;let(p,e,k,rfl,rfl,c,b,q):=h;cases g;exact zfz d I (OD.k (k:=Sum.inr k) c b) (f) j λr a=>{_,a,q}
def Iw{K}(g:Dp K F H R (.str z) b y B):y=.str z:=by
 cases b with
 |true=>let(_,A,_,r):=g;exact r.str_inv
 |false=>exact(g).str_inv
def s_dpf(hu:X.A.units+1<cLine)(c:Cls X.K C)(hn:Cd X.K C f)(hj:fs.findIdx? (· == f)=↑j)(hN:X.N[i]?=↑x)(hv:Em X.env.scope x)(hd:(x == ("__debug__":Str))=false)(hcd:(x == "__classdict__")=false)(he:PE X e<|tM X.K E ca m)(hk:PE X k<|tM X.K E ca mk)
  (hs:swapsWithSole [.Subscript (.Attribute (.Name x p1) f pos3) k pos2] e pos.line X.env=pure false) (hw:swappedStores [.Subscript (.Attribute (.Name x p1) f pos3) k pos2] e X.env=pure none)
  (ha : ∀ v, assign (.Subscript (.Attribute (.Name x p1) f pos3) k pos2) X.env v = (do
   let ov <- holding [v]<|eval (.Attribute (.Name x p1) f pos3) X.env;let iv <- holding [v,ov] (eval k X.env)
   standAt pos2
   holding [v,ov,iv] (setItem ov iv v)
   release [v,ov,iv] [])) :
  PS X (.Assign [.Subscript (.Attribute (.Name x p1) f pos3) k pos2] e pos) (tS X.K E ca mu<|Ji C fs j i mk m):=by
 refine PS.weak (MR he (RI (Xg (Gp hN hv hd hcd) rfl) hk (zh1 hu) ha) hs hw rfl) λD O H h=>?_
 let(F,Y,R,S,q):=h;refine{F,Y,R,S,?_};unfold Ji at q;cases hm:m Y with
 |none=>erw[hm]at q<;>symm|some r=>
  erw[hm]at q;cases r with
  |x c=>exact λL s e=>q L s O R e.stp0 (S.ext e)|v t bb=>
   cases bb with
   |true=>exact λM W y B P g1=>q.elim|false=>
    intro F0 W y B e0 g0;simp only at q;let(M,P,_,g1):=Dp.frz S e0 g0;have g1':Rp X.K M W t.share y R0:=(g1).any;cases ho:GL Y i C fs with
    |none=>erw[ho]at q<;>symm|some pl=>
     let(p,l):=pl;erw[ho]at q;cases g:Jr l[j]? with
     |none=>erw[g]at q<;>symm|some kl=>
      let(K,lv):=kl;erw[g]at q;have I:=ze0 g;have N:=S.ext P;have ht:=RM ho;let(y2,ey,ry):=N.rep i _ ht;let(dx,xs,Rr,rfl,hA,fp,hp,ro,dp):=ry.oob_inv;have A:=(Ñ.mp I).1;have hjx:j<xs.length:=by rw[<- ro.len];exact A
      have hx :=Â hjx;refine{_,ey,p,C,dx,_,xs[j],rfl,hp,c,hn,aE hj hx,M,Y,R,N,?_};cases G:mk Y with
      |none=>erw[G]at q<;>symm|some r=>
       erw[G]at q;cases r with
       |x c=>exact λL s e=>q L s O R ((P.stp0).trans e.stp0) (N.ext e)|v tk bk=>
        cases tk with
        |str J=>
         simp only at q
         by_cases U:J∉K/\K.length<100000
         .rw[if_pos U]at q;intro V Z z CC d g2;have hz:=Iw g2;subst hz;have e2':Ext M W V Z R0:=d.mono λϊ z=>z.elim
          have S2:=N.ext d;have ry2:=ry.ext d;have b:=ro.ext d;have fp2 :=(ry2.dom (by rw[hA];exact .inl rfl)).1
          have hp2:=d.hh _ _ hp;have rk:=b.rep j _ _ I hx;let(o,ys,Rs,u,w,fpd,hpd,rs,Q,ds):=rk.osd_inv;have g2' :=g1'.ext d;have n:Rr j o:=by rw[w];exact .inl rfl
          have pne:o≠p:=λz=>dp j<|z▸n
          refine{o,Cp K ys,J,u,rfl,hpd,?_,?_}
          .rw[zlm Q,<- Q,ė];exact Ń U.2<|by decide
          .rw[zhb Q U.1];have r3:=zhm (k:=J) rs Q fpd ds (g2'.any (H':=Z)) (λϊ ϊ ϊ z=>z.elim)<|λz=>z.elim
           have hE:(λa=>a=o\/∃j,(if j=lv.length then R0 else Rs j) a)=Rr j:=by
            rw[w]
            funext a
            apply propext;constructor
            .rintro(z|⟨j,z⟩)
             .exact .inl z
             .split at z
              .exact z.elim
              .exact .inr {(j),z}
            .rintro(z|⟨j,z⟩)
             .exact .inl z
             .exact .inr {j,by rw[if_neg<|Õ<|rs.out j a z];exact z}
           rw[hE]at r3;have oth :=λk hk z=>b.dis k j o hk z n
           have ro3:RpO X.K V (upd Z o<|.dK<|Cp (K++[J])<|ys++[y]) (l.set j<|.osd (K++[J])<|lv++[t.share]) xs Rr:=by
            refine{by rw[Ŷ];exact b.len,λk t' x' T h2=>?_,b.dis,λk a z=>by rw[Ŷ];exact b.out k a z}
            by_cases hk:k=j
            .subst hk;rw[é A]at T;rw[hx]at h2;cases T;cases h2;rw[u];exact r3
            .rw[æ<|Î hk]at T;exact(b.rep k t' x' T h2).upd (oth k hk)
           have r4:=Xm ro3 fp2 (by rw[Ap<|Î pne];exact hp2) dp
           let(S3,st3):=S2.upd ht ey (by rw[hA];exact .inr {(j),n}) r4 (λa z=>.inl (by rw[hA];exact z))<|λj a z1 z2=>z2
           exact q V _ O _ ((P.stp.trans d.stp0).trans st3) S3
         .rw[if_neg U]at q;symm
        |_=>exact λL s z CC d g2=>q.elim
end
section
variable {X:Cx}{E:L2.St->XK}{ca:Str->Value}{ma mb mc:AI}{a b c:Expr}{pos:Pos}{x:Str}{t:T}
theorem r_con(a:Gl X x)(b:X.mg x=↑u)(c:Ab v u)(hd:(x == "__debug__")=false)(r:∀F ,Rp X.K F F t v R0):PE X (.Name x pos)<|tM X.K E ca<|mC t:=
 PE.weak (Xf a b c hd) λO H Q h=>by
  let(F,Y,R,S,q):=h;exact q F H v R0 (Ext.refl S.fh) (r F).any
def F9(g g':T->T->kH)(ma a mc:AI):AI:=λY=>match ma Y,a Y with
 |some (.v t ϊ),↑(.v u ϋ)=>if t.flat && u.flat then (match g t u with
  |some (.bl true)=>(match mc Y with
   |some (.v w ϊ)=>if w.flat then (match g' u w with
    |some (.bl k)=>↑(.v (.bl k) false)|ϊ=>none) else none
   |ϊ=>none)
  |some (.bl false)=>↑(.v (.bl false) false)|ϊ=>none) else none
 |ϊ,ϋ=>none
def Iy{K}{b}{x}(g:Dp K F H R v b x B)(h:v.flat=true):Rp K F' H' v x R0:=by
 cases b with
 |true=>let(_,A,_,r):=g;exact r.flat_any h
 |false=>exact(g).flat_any h
def WI(h:tM X.K E ca (F9 g g' ma mb mc) O H Q):Oi (Bg X.K g) (Bg X.K g') (tM X.K E ca ma) (tM X.K E ca mb) (tM X.K E ca mc) O H Q:=by
 let(F,Y,R,S,q):=h;refine{F,Y,R,S,?_};unfold F9 at q;cases f:ma Y with
 |none=>erw[f]at q<;>symm|some r1=>
  cases r1 with
  |x c=>erw[f]at q<;>symm|v t b1=>
   cases l:mb Y with
   |none=>erw[f,l]at q<;>symm|some V=>
    cases V with
    |x c=>erw[f,l]at q<;>symm|v u b2=>
     erw[f,l]at q
     by_cases b:(t.flat && u.flat)=true
     .rw[if_pos b]at q;rw[È]at b;intro J H1 x Z C g1;have A:=S.ext C;refine{J,Y,R,A,?_};rw[l];intro m M y B2 D g2;have o:=A.ext D;have e:Ext F H m M R0:=(C.trans D).mono λϊ z=>z.elim
      cases d:g t u with
      |none=>erw[d]at q<;>symm|some k=>
       cases k with
       |bl k=>
        cases k with
        |false=>
         erw[d]at q;refine{m,t,u,_,o.fh,Iy g1 b.1,Iy g2 b.2,d,λn s z I j i=>{false,i.bl_inv,?_}}
         rw[if_neg Ā];exact q n s _ R0 (e.trans0<|j.mono λϊ z=>z.elim)<|.bl false
        |true=>
         erw[d]at q;refine{m,t,u,_,o.fh,Iy g1 b.1,Iy g2 b.2,d,λn s z I j i=>{true,i.bl_inv,?_}}
         rw[if_pos rfl];have B:=o.ext j;refine{n,Y,R,B,?_};cases p:mc Y with
         |none=>erw[p]at q<;>symm|some i=>
          cases i with
          |x c=>erw[p]at q<;>symm|v w b3=>
           erw[p]at q
           by_cases r:w.flat=true
           .rw[if_pos r]at q;intro K H4 z4 B4 G U;have P:=B.ext G;cases a:g' u w with
            |none=>erw[a]at q<;>symm|some k=>
             cases k with
             |bl k=>
              erw[a]at q;refine{K,u,w,_,P.fh,Iy g2 b.2,Iy U r,a,λL N z5 C5 T W=>?_}
              rw[W.bl_inv];exact q L N _ R0 (e.trans0<|((j.trans G).trans T).mono λϊ z=>z.elim)<|.bl k
             |_=>erw[a]at q<;>symm
           .rw[if_neg r]at q;symm
       |_=>erw[d]at q<;>symm
     .rw[if_neg b]at q;symm
theorem r_chn(k:Ag X (compareOp op)<|Bg X.K g)(d:Ag X (compareOp op')<|Bg X.K g')(e:PE X a<|tM X.K E ca ma)(f:PE X b<|tM X.K E ca mb)(i:PE X c<|tM X.K E ca mc)(j:lastMarks [op,op'] [b,c]=false) :
  PE X (.Compare a [op,op'] [b,c] pos) (tM X.K E ca<|F9 g g' ma mb mc):=PE.weak (zhk k d e f i j) λO H Q h=>WI h
theorem znv(k:Ag X (compareOp op)<|Bg X.K g)(d:Ag X (compareOp op')<|Bg X.K g')(e:PE X a<|tM X.K E ca ma)(f:PE X b<|tM X.K E ca mb)(i:PE X c<|tM X.K E ca mc)(j:lastMarks [op,op'] [b,c]=false) :
  PT X (.Compare a [op,op'] [b,c] pos) (BM X.K E ca<|F9 g g' ma mb mc):=PT.weak (zhc k d e f i j) λO H Q h=>WI<|Ll h
end
def OA(x:Str):It:={λi ϊ=>i<x.cps.size,λi H y a=>a=H/\∃c,x.cps[i]?=↑c/\y=.str {#[c]},λi ϊ=>x.cps.size<=i}
def zgv{K}(x)(t)(it):Turn P w K tg (OA x) [it] it (λi h=>h.IsStrIter it (strIterType x) x t i) where
 mem:=by simp
 obj:=λi h st b a=>by
  have e :=by simpa using a
  subst e;let(o,e,c,d):=st;exact{o,e,λv z=>by rw[d]at z;cases z}
 keep:=λi h g st k=>by
  let(o,e,c,d):=st;exact{o,k it (by simp) o e,c,d}
 item:=by
  intro X F L D G i M s O H E I B st J;subst F L D;have j :=J;let(m,p,S,q,r,A):=B it<|by simp
  have Az:∀(g ),g.IsStrIter it (strIterType x) x t (i+1)->Heap.SameBut it s.heap g->∃u,↑(Value.str {#[x.cps[i]]} s.toks)=↑u /\
   wpAny (model X.prog X.w) X.A (letOwnedTupleGo tg (.ref it) u) (λϊ N=>∃y C,Inv X M O C N/\Ab y u/\(OA x).yld i H y C/\N.heap.IsStrIter it (strIterType x) x t (i+1)/\∀b∈[it],C b=none) E { s with heap:=g,toks:=s.toks+1 }:=λg l sb=>by
   have R :=I.turned (t':=s.toks+1) (λb o a e=>(sb.2 b a).trans e) m p q r A
   let(o,e,c,d):=id l;refine{_,rfl,Mw e c d ?_ {.str {#[x.cps[i]]},H,R,{_,rfl},{rfl,_,ō j,rfl},l,λb a=>(B b a).1}}
   unfold strIterType;split<;>decide
  cases f:(x.cps.all λx=>decide (x<128)) with
  |true=>
   have e:strIterType x="str_ascii_iterator":=by unfold strIterType;rw[f];rfl
   rw[e]at st Az ⊢;exact wpAny_pyNext_ascii_item st (ō j) Az
  |false=>
   have e:strIterType x="str_iterator":=by unfold strIterType;rw[f];rfl
   rw[e]at st Az ⊢;exact wpAny_pyNext_wide_item st (ō j) Az
 done:=by
  intro X F L D G i M s O H E I B st J;subst F L D;have j :=J;let(m,p,S,q,r,A):=B it<|by simp
  have n :=Array.getElem?_eq_none j;cases f:(x.cps.all λx=>decide (x<128)) with
  |true=>
   have e:strIterType x="str_ascii_iterator":=by unfold strIterType;rw[f];rfl
   rw[e]at st;exact wpAny_pyNext_ascii_end (I.ok.hd G) st n λg eb=>{rfl,I.turned (λb o a e=>eb b o a e) m p q r A}
  |false=>
   have e:strIterType x="str_iterator":=by unfold strIterType;rw[f];rfl
   rw[e]at st;exact wpAny_pyNext_wide_end (I.ok.hd G) st n λg eb=>{rfl,I.turned (λb o a e=>eb b o a e) m p q r A}
 self:=λϊ i s Q E st h=>by
  cases f:(x.cps.all λx=>decide (x<128)) with
  |true=>
   have e:strIterType x="str_ascii_iterator":=by unfold strIterType;rw[f];rfl
   rw[e]at st;exact wpAny_pyIter_striter_ascii st h
  |false=>
   have e:strIterType x="str_iterator":=by unfold strIterType;rw[f];rfl
   rw[e]at st;exact wpAny_pyIter_striter_wide st h
def iStrT(b:TE):TI:=λO H P=>b O H λx a=>∃y,x=.str y/\P (OA y) a
section
variable {X:Cx}{tg l e:Expr}{tl:TE}{E:L2.St->XK}{ca:Str->Value}{m:AI}
def zod(f:PE X l tl):PI X tg l<|iStrT tl:=by
 intro g s O H R I h;refine AX (f g s O H _ I h) λv s1 j=>?_
 let(x,c,a,r1,i):=j;let(y,rfl,q):=i;let(t,rfl):=(r1);refine wpAny_pyIter_strU ?_;refine{s1.heap.objs.size,[s1.heap.objs.size],_,_,c,rfl,a.kept λb o e=>Ð _ e,zgv y t _,{_,â _ rfl,rfl,rfl},λb d=>?_,q}
 have e :=by simpa using d
 subst e;exact a.fpOk (Æ _)<|a.hok.fresh<|Æ _
def Gd(x:Str):kL:=x.cps.toList.map λc=>.str {#[c]}
def zlp{K}:G9 K (OA x) F<|Gd x:=by
 intro i d k s1 j;refine{λt b=>?_,λe=>?_}
 .unfold Gd at b;rw[Ë]at b;let(c,a,rfl):=Ø.mp b;have h:i<x.cps.size:=by simpa using (Ñ.mp a).1
  refine{h,λy f z=>?_}
  let(rfl,l,g,rfl):=z;rw[Array.getElem?_toList,g]at a;cases a;exact{d,Ext.refl j,.str _}
 .show x.cps.size<=i;rw[e];simp[Gd]
def Ax(m:AI):Ay:=λY=>match m Y with
 |some (.v (.str x) ϊ)=>↑(.v (Gd x) false)|ϊ=>Iu m Y
def zo0(a:PE X e<|tM X.K E ca m):PI X tg e<|tI X.K E ca<|Ax m:=by
 refine PI.weak (PI.or (XY a)<|zod a) λO H P h=>?_
 let(F,Y,R,S,q):=h
 by_cases i:∃x b,m Y=↑(.v (.str x) b)
 .let(x,b,c):=i;have e:Ax m Y=↑(.v (Gd x) false):=by unfold Ax;rw[c]
  rw[e]at q;refine .inr {F,Y,R,S,?_};rw[c];intro d f y B g g1;exact{x,Iw g1,q d f _ (g.mono λϊ z=>z.elim) zlp}
 .have e:Ax m Y=Iu m Y:=by
   unfold Ax
   grind
  rw[e]at q;exact .inl {(F),Y,R,S,q}
end
open Classical in
def met(val:Nat->Key):Nat->List Key
 |0=>[]|i+1=>if val i∈met val i then met val i else met val i++[val i]
open Classical in
def Zn(val:Nat->Key):∀i,(met val i).length<=i
 |0=>Æ 0|i+1=>by
  have:=Zn val i;unfold met;split
  .lia
  .rw[à,Ķ]
   lia
section
variable {prog:Program}{w:World}{A:Around}{E:Value->Shared->Prop}
open Classical in
def aC{knd:PySem.KeyKind prog w Key}{R:Result->Shared->Prop}{I:Addr}{fp J:List Addr}{G:Array GenState->Array GenState->Prop}{n:Nat}{P:Nat->Value->Prop}{St:Nat->Shared->Prop}(W:WalksS prog w A.in1 I fp J G n P St)(S:Addr)(j:S∉fp)(val:Nat->Key)
  (L:∀i v,P i v->knd.is (val i) v=true/\v.scannable=true) (Y:n+1<scanBound):∀(k i:Nat) (s:Shared),n - i=k->i<=n->St i s->Heap.SetOf knd s.heap S (λk'=>decide (k'∈met val i)) (met val i).length ->
   (∀s':Shared,Moved (S::J) G s s'->Heap.SetOf knd s'.heap S (λk'=>decide (k'∈met val n)) (met val n).length->R (Except.ok<|Flow.ret Value.none) s') ->
   codeAny (model prog w) A (Code.builtin "set.update.loop" { pos:=[Value.ref S,Value.ref I] }) R s
 |0,i,s,hk,X,st,a,h=>by
  have e:i=n:=by lia
  subst e;refine ı F.entry_set_update_loop ?_;rw[Œ ŭ];unfold Builtin.«set.update.loop»;refine À<|W.done s _ _ st λs' mv=>?_
  refine Ç ?_;refine h s' (mv.mono λb d=>Ê _ d) ?_
  let(o,m,l,t,p,q):=a;exact{o,m,l,t,mv.heap S o (λz=>j<|W.sub S z) p,q}
 |k+1,i,s,hk,X,st,a,h=>by
  have u:i<n:=by lia
  refine ı F.entry_set_update_loop ?_;rw[Œ ŭ];unfold Builtin.«set.update.loop»;refine À<|W.item i s _ _ u st λv s' Z E mv=>?_
  let(r,x):=L i v Z
  have f:Heap.SetOf knd s'.heap S (λk'=>decide (k'∈met val i)) (met val i).length:=by
   let(o,m,l,t,p,q):=a;exact{o,m,l,t,mv.heap S o (λz=>j<|W.sub S z) p,q}
  refine À<|ò ?_;unfold setAdd;refine ò<|À<|knd.pyHash r ?_;have hl:=Zn val i;refine wpAny_setAddHashed_of (s:={ s' with toks:=s'.toks+1 }) r x f (by lia) λK sb g=>?_
  refine Ç {plainId_quiet ŭ _,?_};have H:=W.frame (i+1) s' K (s'.toks+1) E (ĕ _) λb d o e=>(sb.2 b<|λz=>j<|z▸d).trans e
  have B:Moved (S::J) G s { s' with heap:=K,toks:=s'.toks+1 }:=(mv.mono λb d=>Ê _ d).then_heap (ĕ _) λb o d e=>(sb.2 b<|λz=>d (by rw[z];exact Í ..)).trans e
  refine aC W S j val L Y k (i+1) _ (by lia) (by lia) H ?_ λD C y=>h D (B.trans W.gtrans C) y
  have j:(λk'=>(decide (k'∈met val i) || decide (k'=val i)))=λk'=>decide (k'∈met val (i+1)):=funext λk'=>by
   conv=>rhs;unfold met
   by_cases c:val i∈met val i
   .rw[if_pos c]
    by_cases e:k'=val i
    .rw[e,É c];rfl
    .rw[Ù e,Ε]
   .rw[if_neg c,Bool.eq_iff_iff];erw[Ē,ê,ä,Ô]
  have V:(if decide (val i∈met val i)=true then (met val i).length else (met val i).length+1)=(met val<|i+1).length:=by
   conv=>rhs;unfold met
   by_cases c:val i∈met val i
   .rw[if_pos c,if_pos<|É c]
   .rw[if_neg c,if_neg<|λz=>c<|ì z,à,Ķ]
  let(o,m,l,t,p,q,M,N,O,Q,T,U):=g;refine{o,m,l,t,p,q,M,N,λk'=>?_,Q,T,U.trans V}
  rw[<- O k'];have e:=congrFun j k';show decide (k'∈met val (i+1))=true ↔ _;rw[<- e]
end
open Classical in
def zc0{prog:Program}{w:World}{A:Around}{E:Value->Shared->Prop}{s:Shared}{l:Addr}{items:Array Value}{knd:PySem.KeyKind prog w Key}{val:Nat->Key}{Q:Value->Shared->Prop}(hh:A.handled=none)(hl:s.heap.IsList l items)
  (hP:∀(i:Nat) (v:Value),items[i]?=↑v->knd.is (val i) v=true/\v.scannable=true) (I:items.size+1<scanBound)
  (h:∀(h':Heap) (tk:Nat),Heap.SetOf knd h' s.heap.objs.size (λk'=>decide (k'∈met val items.size)) (met val items.size).length->(∀(b:Nat) (o:Obj),b<s.heap.objs.size->s.heap.get? b=↑o->h'.get? b=↑o)->Q (.ref s.heap.objs.size) { s with heap:=h',toks:=tk }) :
  wpAny (model prog w) A (call (Value.type "set") [Value.ref l]) Q E s:=by
 let(c,tl,x):=Ĭ.mro;have n:=Ĭ.made;have C:=Ĭ.sub;refine İ<|codeAny_of_tree ?_;refine Ç {Code.quiet_builtin _ (by decide +kernel),ı F.entry_type_call ?_}
 have hu:=Around.under_plain (A:=A) (weight_type_call_type "set" [Value.ref l] []) rfl;have h1:=Ĭ.notType;have h2:=Ĭ.canCreate;have J:=F.typeCall_set_1<|Value.ref l;show wpAny (model prog w) (A.under<|Code.builtin "type.__call__" { pos:=[Value.type "set",Value.ref l] }) _ _ _ s;rw[hu];unfold Builtin.«type.__call__»;refine ă (by rw[h1];rfl)<|ă (by rw[h2];rfl) ?_
 refine À<|ğ J<|À<|ğ x<|ă rfl<|À<|ğ n<|À<|Ç<|À<|ò<|İ<|ĉ (code_set_new_1 (E:=λϊ ϊ=>False) (Value.ref l) (Q₁:=λv q=>∃d:Bool,v=.ref s.heap.objs.size/\q={ s with heap:=s.heap.push { cls:=.type "set",data:=.set #[] 0 (SetTable.fresh 0 0 d) } }) λd=>{(d),rfl,rfl}) λr D B=>?_
 cases r with
 |error e=>exact False.elim B|ok fl=>
  cases fl with
  |next=>exact False.elim B|brk=>exact False.elim B|cont=>exact False.elim B|ret v=>
   let(d,rfl,rfl):=(show ∃d:Bool,v=.ref s.heap.objs.size/\D={ s with heap:=s.heap.push { cls:=.type "set",data:=.set #[] 0 (SetTable.fresh 0 0 d) } } from B)
   have N:(s.heap.push { cls:=.type "set",data:=.set #[] 0 (SetTable.fresh 0 0 d) }).get? s.heap.objs.size=↑{ cls:=.type "set",data:=.set #[] 0 (SetTable.fresh 0 0 d) }:=â _ rfl;have H:Shared.TypeIs { s with heap:=s.heap.push { cls:=.type "set",data:=.set #[] 0 (SetTable.fresh 0 0 d) } } (.ref s.heap.objs.size) "set":={_,N,rfl}
   have m:=Ĭ.init;refine À<|ţ H C<|ă rfl<|À<|ò ?_;unfold callSpecial?;refine À<|ť H m.lookup<|ò<|À<|ğ (m.bind _)<|À<|İ<|ĉ (R:=wants (λv q=>v=.none/\∃tk h',q={ s with heap:=h',toks:=tk }/\Heap.SetOf knd h' s.heap.objs.size (λk'=>decide (k'∈met val items.size)) (met val items.size).length/\∀(b:Nat) (o:Obj),b<s.heap.objs.size->s.heap.get? b=↑o->h'.get? b=↑o) λϊ ϊ=>False) (Ψ m.plain F.entry_set_init<|check_set_init_1 H ?_) λr G f=>?_
   .unfold Builtin.«set.__init__» noKeywords;refine À<|wpAny_ite_true rfl<|Ç ?_;unfold typeNameOfCut shownTypeOf;refine À<|À<|À<|wpAny_typeOf H<|ă (by decide +kernel)<|Ç ?_
    refine ğ (rfl:typeNameCut 200 (Value.type "set")=pure _) ?_;refine À<|ğ (rfl:checkCount _ 0 1 1=pure ()) ?_;refine À<|Ç ?_;unfold setUsed setState;refine À<|À<|À<|wpAny_load N<|ă rfl<|Ç<|Ç<|ă rfl ?_;let(P,y,k,nl,u):=id hl;have g:(s.heap.push { cls:=.type "set",data:=.set #[] 0 (SetTable.fresh 0 0 d) }).get? l=↑P:=Ð _ y;have j:Shared.TypeIs { s with heap:=s.heap.push { cls:=.type "set",data:=.set #[] 0 (SetTable.fresh 0 0 d) } } (.ref l) "list":={_,g,k}
    unfold Builtin.Frozenset.updateFrom Builtin.Frozenset.isAnySet;refine À<|À<|À<|ţ j F.sub_list_set ?_;have M:(s.heap.push { cls:=.type "set",data:=.set #[] 0 (SetTable.fresh 0 0 d) }).IsList l items:={(P),g,k,nl,u};refine ţ j F.sub_list_frozenset<|ă rfl<|À<|wpAny_typeOf j<|ă (by decide +kernel)<|À<|Į M ?_
    have lt:l<s.heap.objs.size:=Ä y;have p:(s.heap.push { cls:=.type "set",data:=.set #[] 0 (SetTable.fresh 0 0 d) }).objs.size=s.heap.objs.size+1:=ć _ _;generalize L:s.heap.push { cls:=.type "set",data:=.set #[] 0 (SetTable.fresh 0 0 d) }=hp at *
    have hS:s.heap.objs.size∉[hp.objs.size,l]:=by
     rw[p];intro z
     rcases Ì.mp z with e|e
     .exact absurd e<|Õ<|ě _
     .exact absurd (Ô.mp e)<|Ī lt
    refine À<|wpAny_runValue ?_;refine aC (knd:=knd) (A:=A.in1.in1) (Walks.list (A:=A.in1.in1.in1) hh hp.objs.size l (by rw[p];exact Õ<|ħ lt) items).toS s.heap.objs.size hS val (λi v e=>hP i v e) I items.size 0 _ (by lia) (õ _) {?_,?_} ?_ λq mv O=>?_
    .exact{_,â _ rfl,rfl,rfl}
    .exact{P,Ð _ g,k,nl,u}
    .letI:BEq Key:={λa b=>decide (a=b)}
     haveI:LawfulBEq Key:={ eq_of_beq:=λh=>ì h,rfl:=É rfl }
     have U:=(setObjOf_fresh (prog:=prog) (w:=w) (knd:=knd) d).setOf (h:=hp.push { cls:=.type "list_iterator",data:=.fields #[.ref l,.int 0 0] }) (a:=s.heap.objs.size) (Ð _ N) (by decide)
     let(o,W,V,t,g1,g2,X,Y,Z,g6,g7,g8):=U;refine{o,W,V,t,g1,g2,X,Y,λk'=>?_,g6,g7,g8}
     rw[<- Z k'];simp[met]
    .refine Ç<|Ç ?_
     have T:∀(b:Nat) (o:Obj),b<s.heap.objs.size->s.heap.get? b=↑o->q.heap.get? b=↑o:=λb o I e=>by
      refine mv.heap b o (λz=>?_)<|Ð _ (by rw[<- L];exact Ð _ e)
      rcases Ì.mp z with e|e
      .exact absurd e<|Õ I
      .have e:=Ô.mp e;rw[p]at e;exact absurd e<|Õ<|ħ I
     have m1:=mv.gens;have m2:=mv.drawn;have S:=mv.os;let(K,g',d',t',os'):=q;refine{rfl,t',K,?_,O,T};simp only at m1 m2 S;rw[m1,m2,S]
   .cases r with
    |error e=>exact False.elim f|ok fl=>
     cases fl with
     |next=>exact False.elim f|brk=>exact False.elim f|cont=>exact False.elim f|ret v=>
      let(rfl,tk,h',rfl,hs,hk):=(show v=.none/\∃tk h',G={ s with heap:=h',toks:=tk }/\Heap.SetOf knd h' s.heap.objs.size (λk'=>decide (k'∈met val items.size)) (met val items.size).length/\∀(b:Nat) (o:Obj),b<s.heap.objs.size->s.heap.get? b=↑o->h'.get? b=↑o from f)
      refine Ç<|ă rfl<|Ç ?_;exact h h' tk hs hk
def Uu(P:Program)(w:World)(a:Addr)(ks:List Key):HO:=.ext λh=>Heap.SetOf (Dh P w) h a (λk=>@decide (k∈ks) (Classical.propDecidable _)) ks.length
section
variable {X:Cx}
def zgb(y:X.calm=true):Bs X (.type "set") (λxs H Q=>∃(p:Addr) (ys:kE),xs=[.ref p]/\A3 X.K H p (ys.map V.str)/\ys.length<1000/\∀a,H a=none->Q (.ref a) (upd H a<|Uu X.prog X.w a<|met (λi=>Sum.inr<|ys.getD i Str.empty) ys.length)):=by
 intro L s O H xs M Q I r h;let(p,ys,rfl,z,B,q):=h;let(u,rfl,F):=Er r;cases F;let(g,x,D,_):=I.list z;have c:=x.length;rw[Á]at c;have d:g.toArray.size=ys.length:=by rw[û];exact c.symm
 refine zc0 (knd:=Dh X.prog X.w) (val:=λi=>Sum.inr<|ys.getD i Str.empty) (I.ok.hd y) D.isList (λi v e=>?_) (by rw[d];exact Û (Nat.succ_lt_succ B)<|by decide) λG tk f kp=>?_
 .have j :=by simpa using e
  have w:i<ys.length:=by rw[c];exact(Ñ.mp j).1
  have A:(ys.map V.str)[i]?=↑(.str ys[i]):=by rw[Ë,Â w];rfl
  let(u,l,E):=x.get A;rw[j]at l;cases l;let(t,rfl):=(E);refine{?_,rfl};show Gy (Sum.inr<|ys.getD i Str.empty) (Value.str ys[i] t)=true;rw[Ú,Â w];show(ys[i] == ys[i])=true;exact ë _
 .rw[d]at f;refine{.ref s.heap.objs.size,_,I.laid (o:=Uu X.prog X.w s.heap.objs.size<|met (λi=>Sum.inr<|ys.getD i Str.empty) ys.length) (λb o e=>kp b o (Ä e) e) (Æ _) {?_,?_,?_},rfl,q _<|I.hok.fresh<|Æ _}
  .exact f
  .let(o,n,m,t,g1,_):=f;exact{(o),g1}
  .intro J K C k;let(o,n,m,t,g1,g2):=C;exact{o,n,m,t,k o g1,g2}
def zge:Bs X (.builtin "len") (λxs H Q=>∃a ks,xs=[.ref a]/\H a=↑(Uu X.prog X.w a ks)/\Q (.int ks.length) H):=by
 intro p s O H xs v Q I r h;let(a,ks,rfl,i,q):=h;let(u,rfl,k):=Er r;cases k;let((o,b,l,t,g1,g2,c,m,n,d,f,g),_):=(show _/\_ from I.hok a _ i)
 have j:((b.size:Nat):Int)<2 ^ 63:=by
  have:scanBound<=2 ^ 40:=by decide
  have e:b.size<scanBound:=d
  lia
 refine call_len_set g1 g2 c f j {.int (b.size:Int),H,I.tok _,{_,rfl},?_};rw[show b.size=ks.length from g];exact q
end
def EJ:kL->Option (kE)
 |[]=>↑[]|.str x::r=>(match EJ r with
  |some l=>↑(x::l)|none=>none)
 |ϊ::ϋ=>none
set_option tactic.hygienic true in
def Ls{K}{F}:∀{l} {ys} {xs},EJ l=↑ys->Ah K F l xs->xs=ys.map V.str
 |[],ys,xs,h,r=>by
  cases h;exact r.inv0
 |t::l,ys,xs,h,r=>by
  let(x,c,rfl,r1,b):=r.inv;unfold EJ at h;split at h
  .grind
  .rename_i y r e;cases e;split at h
   .rename_i d a;cases h;rw[r1.str_inv,Ls a b]
    rfl
   .cases h
  .cases h
def O7(ys:kE):Nat:=(met (λi=>Sum.inr<|ys.getD i Str.empty) ys.length).length
def J5:T->kH
 |.nd ϊ .lst l=>(match EJ l with
  |some a=>if a.length<1000 then ↑(.int<|O7 a) else none
  |none=>none)
 |.nd ϊ .rl l=>(match EJ l with
  |some a=>if a.length<1000 then ↑(.int<|O7 a) else none
  |none=>none)
 |ϊ=>none
section
variable {X:Cx}{E:L2.St->XK}{ca:Str->Value}{m:AI}{e:Expr}{pos p p2 p3:Pos}
set_option tactic.hygienic true in
def r_unq(w:X.calm=true)(y:Gl X "len")(A:X.mg "len"=none)(d:Gl X "set")(f:X.mg "set"=none)(b:PE X e<|tM X.K E ca m)(r:starEach [e] X.env=[(false,eval e X.env)]) :
  PE X (.Call (.Name "len" p) [.Call (.Name "set" p2) [e] [] p3] [] pos) (tM X.K E ca<|BV (g1 J5)<|AB m AE):=by
 have c:=Xh (pos:=p3) (p:=p2) (zgb w) d f (rfl) (EL b FZ r) (by decide) (by decide) r rfl
 refine PE.weak (MS (zge) y A PySem.boot_len (EL c FZ rfl) (by decide) (by decide) rfl rfl) λO H Q h=>?_
 refine(HU<|HV h).mono λx G t=>?_
 let(F,I,v,fh,rs,e,q):=HS t;unfold g1 at e;split at e
 .let(J,C,s,r1,B):=rs.inv;cases s;unfold J5 at e;split at e
  .split at e
   .rename_i o l k g;split at e
    .rename_i i;cases e;let(j,D,rfl,_,n,kd):=Dy r1;have u :=n;refine{j,k,rfl,A3.of (by rw[<- Ls g kd];exact fh _ _ u),i,λa b=>{a,_,rfl,CP,?_}}
     exact q F _ _ R0 ((Ext.newO fh b).mono λϊ z=>z.elim)<|Rp.int _
    .cases e
   .cases e
  .split at e
   .rename_i o l k g;split at e
    .rename_i i;cases e;let(j,D,rfl,_,n,kd):=Dy r1;refine{j,k,rfl,by rw[<- Ls g kd];exact fh.seq<|G5.l n,i,λa b=>{a,_,rfl,CP,?_}}
     exact q F _ _ R0 ((Ext.newO fh b).mono λϊ z=>z.elim)<|Rp.int _
    .cases e
   .cases e
  .cases e
 .cases e
end
def FH:T->T->kH
 |.int i,.int j=>↑(.bl<|decide (i<=j))|.str x,.str y=>↑(.bl<|!(@decide (y.cps.toList<x.cps.toList) (Classical.propDecidable _)))|ϊ,ϋ=>none
section
variable {X:Cx}{E:L2.St->XK}{ca:Str->Value}{m mk:AI}{o k:Expr}{pos apos cpos:Pos}
set_option tactic.hygienic true in
def zkz:Ag X (compareOp .LtE)<|Bg X.K FH:=by
 intro g s O H x y v u Q I c d h;let(F,k,l,r,fh,r1,f,e,q):=h;unfold FH at e;split at e
 .cases e;rw[r1.int_inv]at c;rw[f.int_inv]at d;exact Xk g s O H _ _ v u Q I c d {_,_,rfl,rfl,q.bl fh}
 .rename_i a b;cases e;rw[r1.str_inv]at c;rw[f.str_inv]at d;let(t,rfl):=(c);let(j,rfl):=(d);refine PySem.P.le_str {.bl _,H,I,rfl,?_};have i:=q.bl fh
  grind
 .cases e
end
def C4(ys:kE)(y:Str):Option Nat:=ys.findIdx? λx=>@decide (x=y) (Classical.propDecidable _)
def zfj{ys:kE}{y:Str}{j:Nat}(h:C4 ys y=↑j):∃hj:j<ys.length,ys[j]=y/\∀(m:Nat) (hm:m<ys.length),m<j->ys[m]≠y:=by
 unfold C4 at h;let(b,c,d):=ġ.mp h;refine{b,@of_decide_eq_true _ (Classical.propDecidable _) c,λm hm a e=>?_}
 exact d m a<|@decide_eq_true _ (Classical.propDecidable _) e
def fV{x y:Str}:(x.cps.toList == y.cps.toList)=true ↔ x=y:=by
 constructor
 .cases x
  simp_all
 grind
def zo4(K:k6):V->kK->Hp->VK->Prop:=λx b H Q=>∃(l:Addr) (a:kE) (y:Str) (j:Nat),x=.ref l/\b=[.str y]/\A3 K H l (a.map V.str)/\C4 a y=↑j/\a.length<1000000/\Q (.int j) H
section
variable {X:Cx}{E:L2.St->XK}{ca:Str->Value}{m mk:AI}{o k:Expr}{pos apos cpos:Pos}
def zht:Nw X "list.index"<|zo4 X.K:=by
 intro pq s O H x vs v us Q I T S h;let(l,k,y,j,rfl,rfl,J,K,hz,q):=h;cases T;let(u,rfl,D):=S.one;let(d,r,(ob,n,e,c1,c2,c3),R):=I.list J;have M:=r.length;let(W,Z,Y,U):=ob;simp only at c1 c2 c3;subst c1 c2 c3;let(t,rfl):=(D);let(L,w,A):=zfj K;rw[Á]at M
 have at_:∀(i ) (o ),∃(b:Tok) (a:i<k.length),d.toArray[i]=Value.str k[i] b:=λi o=>by
  have p :=by simpa using o
  have a:i<k.length:=by lia
  have P:(k.map V.str)[i]?=↑(.str k[i]):=by rw[Ë,Â a];rfl
  let(u,E,D):=r.get P;let(b,rfl):=(D);rw[Â p]at E;refine{b,a,?_}
  simpa using E
 let G:Value->Bool:=λv=>match v with
  |.str x ϊ=>x.cps.toList == y.cps.toList|ϊ=>false
 have c:∀(x ) (b ),G (.str x b)=(x.cps.toList == y.cps.toList):=λϊ ϊ=>rfl
 have g:j<d.toArray.size:=by rw[û];lia
 refine ň F.slot_list_index {_,e,rfl} F.entry_list_index (F.args_list_index_2 _ _) (SeqAt.list_indexAt l d.toArray n none U (.str y t) G j g (by lia) ?_ λm N B=>?_) {e,λy' C=>?_,.int j,H,I.tok _,{_,rfl},q}
 rotate_left 2
 .let(i,o,rfl):=Array.mem_iff_getElem.mp C;let(b,a,f):=at_ i o;rw[f,c _ b];exact(SeqRoads2.EqGives.str _ _ _ _).at _ _
 .let(b,a,f):=at_ j g;rw[f,c _ b];exact fV.mpr w
 .let(b,a,f):=at_ m N;rw[f,c _ b,Bool.eq_false_iff];exact λz=>A m a B<|fV.mp z
def KL:T->Option (kL)
 |.nd false .lst l=>↑l|.nd false .rl l=>↑l|ϊ=>none
def zlg{t:T}{l:kL}(h:KL t=↑l):∃k,t=.nd false k l/\GX t=true:=by
 unfold KL at h;split at h
 .cases h;exact{_,rfl,rfl}
 .cases h;exact{_,rfl,rfl}
 .cases h
def Hf(m mk:AI):AI:=λY=>match m Y with
  |some (.v t false)=>(match KL t with
   |some l=>(match EJ l with
    |some a=>(match mk Y with
      |some (.v (.str y) ϊ)=>(match C4 a y with
        |some j=>if a.length<1000000 then ↑(.v (.int j) false) else none
        |none=>none)
      |ϊ=>none)
    |none=>none)
   |none=>none)
  |ϊ=>none
def zk5(V:PE X o<|tM X.K E ca m)(hk:PE X k<|tM X.K E ca mk)(d:attributeBase o "index" X.env (eval o X.env)=eval o X.env)(G:starEach [k] X.env=[(false,eval k X.env)])(e:(apos.endLine == cpos.line)=true) :
    PE X (.Call (.Attribute o "index" apos) [k] [] cpos) (tM X.K E ca<|Hf m mk):=by
  refine PE.weak (MT Ŭ PySem.F.slot_list_index PySem.F.type_list_index zht V (EL hk FZ G) d (by rw[G];rfl) e G rfl) λO H Q h=>?_
  let(F,Y,R,S,q):=h;refine{F,Y,R,S,?_};unfold Hf at q;cases n:m Y with
  |none=>erw[n]at q<;>symm|some r=>
    cases r with
    |x c=>erw[n]at q<;>symm|v t b=>
      cases b with
      |true=>erw[n]at q<;>symm|false=>
       erw[n]at q;cases f:KL t with
       |none=>erw[f]at q<;>symm|some l=>
        erw[f]at q;let(kk,rfl,T):=zlg f;intro i M x B u g1;have P:Rp X.K i M (.nd false kk l) x B:=g1;let(p,rfl):=P.ref_inv;let(xs0,U,D):=Ah.node P;let(p1,xs,s,g,W):=K0 T<|Ah.of_node (H:=i) U D;injection s with s
        subst s;cases J:EJ l with
        |none=>erw[J]at q<;>symm|some K=>
          erw[J]at q;have I:=Ls J W;refine{.inl {rfl,xs,g i M (A5.refl _) u.fh},i,Y,R,S.ext u,?_};cases a:mk Y with
          |none=>erw[a]at q<;>symm|some r=>
            cases r with
            |x c=>erw[a]at q<;>symm|v t2 b2=>
              cases t2 with
              |str y=>
                erw[a]at q;intro L N z B2 w g2;have Z:=Iw g2;subst Z;cases A:C4 K y with
                |none=>erw[A]at q<;>symm|some j=>
                  erw[A]at q
                  by_cases C:K.length<1000000
                  . rw[if_pos C]at q
                    refine{p,K,y,j,rfl,rfl,by rw[<- I];exact g L N w.ff w.fh,A,C,?_}
                    exact q L N _ R0 ((u.trans w).mono λϊ z=>z.elim)<|.int _
                  . rw[if_neg C]at q
                    symm
              |_=>erw[a]at q<;>symm
variable {mu:Bool}{i:Nat}{x n:Str}{np hpos:Pos}{body suite:kD}{b₀:Stmt}{u h:AG}{cs:List<|Str×Addr}
end
section
variable {X:Cx}{E:L2.St->XK}{ca:Str->Value}{m:AI}{e:Expr}{pos p p2:Pos}{c:Str}{v:V}{tb:List<|Addr×Bool}
end
section
variable {X:Cx}{E:L2.St->XK}{ca:Str->Value}{mu:Bool}{i j:Nat}{tg it c:Expr}{ret:kD}{mc:AI}{k:T}{ip pos:Pos}
variable {e:Expr}{m:AI}{t:T}{p1 apos cpos bpos:Pos}{x:Str}
end
section
variable {X:Cx}{E:L2.St->XK}{ca:Str->Value}{m mk ma:AI}{o k e a:Expr}{pos apos cpos p p2:Pos}
def rSlS:V->kA->kA->Hp->VK->Prop:=λx b a H Q=>∃z:Str,x=.str z/\z.length<=BW/\Q (.str<|Txt.slice z b a) H
def zn4:Ur X rSlS:=by
 intro r s O H x v vl y p o w Q I n h m f q;let(z,rfl,a,q):=q;let(t,rfl):=(n);let(ob,c,b,hd):=h;rw[GU]at a;cases m with
 |none=>
  cases f with
  |none=>exact{"str",_,ŏ.lookup,į _ _ _,Ŧ (l:=none) (u:=none) (st:=none) {(ob),c,b,hd} rfl<|ŧ {Ü (ŝ z _ _) a,λd k=>{.str _,H,I.tok _,{_,rfl},q}}}|int j e=>exact{"str",_,ŏ.lookup,į _ _ _,Ŧ (l:=none) (u:=↑(j,e)) (st:=none) {(ob),c,b,hd} rfl<|ŧ {Ü (ŝ z _ _) a,λd k=>{.str _,H,I.tok _,{_,rfl},q}}}
 |int i g=>
  cases f with
  |none=>exact{"str",_,ŏ.lookup,į _ _ _,Ŧ (l:=↑(i,g)) (u:=none) (st:=none) {(ob),c,b,hd} rfl<|ŧ {Ü (ŝ z _ _) a,λd k=>{.str _,H,I.tok _,{_,rfl},q}}}|int j e=>exact{"str",_,ŏ.lookup,į _ _ _,Ŧ (l:=↑(i,g)) (u:=↑(j,e)) (st:=none) {(ob),c,b,hd} rfl<|ŧ {Ü (ŝ z _ _) a,λd k=>{.str _,H,I.tok _,{_,rfl},q}}}
def F7(ma:AI)(d c:Option<|AI):AI:=λY=>match ma Y with
 |some (.v (.str z) ϊ)=>(match F8 d Y,F8 c Y with
  |some b,↑a=>if z.length<=BW then ↑(.v (.str<|Txt.slice z b a) false) else none
  |ϊ,ϋ=>none)
 |ϊ=>none
def zh9{lo hi}(A:PE X a<|tM X.K E ca ma)(C:PO X lo<|HR X.K ml)(hh:PO X hi<|HR X.K mh):PE X (.Subscript a (.Slice lo hi none p2) pos)<|tM X.K E ca<|F7 ma ml mh:=by
 refine PE.weak (Xe zn4 A C hh) λO H Q h=>?_
 let(F,Y,R,S,q):=h;refine{F,Y,R,S,?_};unfold F7 at q;cases m:ma Y with
 |none=>rw[m]at q;symm|some r=>
  rw[m]at q;cases r with
  |x c=>symm|v t I=>
   cases t with
   |str z=>
    intro j p x B w g1;have D:=Iw g1;subst D;have b:Ext F H j p R0:=w.mono λϊ z=>z.elim
    have k:=S.ext b;cases d:F8 ml Y with
    |none=>erw[d]at q<;>symm|some i=>
     refine{j,Y,R,i,k,d,λn G l=>?_}
     have u:=k.ext l;cases e:F8 mh Y with
     |none=>erw[d,e]at q<;>symm|some f=>
      erw[d,e]at q;refine{n,Y,R,f,u,e,λo s y=>?_}
      by_cases g:z.length<=BW
      .rw[if_pos g]at q;exact{z,rfl,g,q o s _ R0 (b.trans0<|l.trans0 y)<|.str _}
      .rw[if_neg g]at q;symm
   |_=>symm
def rJoin:V->kK->Hp->VK->Prop:=λx c H Q=>∃(a:Str) (l:Addr) (b:kE),x=.str a/\c=[.ref l]/\H l=↑(.lst<|b.map V.str)/\(b.map (·.length)).sum+b.length * a.length<=BW/\Q (.str<|Txt.join a b) H
def WX:∀{ys} {its},Ac (ys.map V.str) its->StrsAre its ys
 |[],its,r=>by
  cases r;exact .nil
 |y::ys,its,r=>by
  cases r with
  |cons h t=>let(tk,rfl):=h;exact .cons _ _<|WX t
def zlb:Nw X "str.join" rJoin:=by
 intro j s O H x o v n Q I g f h;let(i,l,p,rfl,rfl,a,b,q):=h;let(t,rfl):=(g);let(u,rfl,e):=f.one;cases e;let(c,r,d,_):=I.list<|A3.of a;refine join_list d.isList (WX r) (by exact b) λm k=>{.str _,H,I.tok _,{_,rfl},q}
def KH(m mk:AI):AI:=λY=>match m Y with
 |some (.v (.str a) ϊ)=>(match mk Y with
  |some (.v (.nd ϊ .lst l) ϋ)=>(match EJ l with
   |some b=>if (b.map (·.length)).sum+b.length * a.length<=BW then ↑(.v (.str<|Txt.join a b) false) else none
   |none=>none)
  |ϊ=>none)
 |ϊ=>none
def zpd{K}{o}(s:A5 F H)(h:Rp K F H (.nd o .lst l) x A):∃p xs,x=.ref p/\H p=↑(.lst xs)/\l.length=xs.length/\∀(i:Nat) (t) (x),l[i]?=↑t->xs[i]?=↑x->∃B,Rp K F H t x B:=by
 cases h with
 |shr h e c=>exact{_,_,rfl,s _ _ h,e,λi t x a b=>{_,c i t x a b}}|own hk R f h e c d dp o=>exact{_,_,rfl,h,e,λi t x a b=>{_,c i t x a b}}
set_option tactic.hygienic true in
def WW{K}{F H}:∀{l} {ys} {xs},EJ l=↑ys->l.length=xs.length->(∀(i:Nat) (t) (x),l[i]?=↑t->xs[i]?=↑x->∃B,Rp K F H t x B)->xs=ys.map V.str
 |[],ys,xs,h,e,ϊ=>by
  cases h;cases xs with
  |nil=>rfl|cons ϊ ϋ=>simp at e
 |t::l,ys,[],h,e,ϊ=>by simp at e|t::l,ys,x::xs,h,e,f=>by
  unfold EJ at h;split at h
  .cases ‹_::_=[]›
  .rename_i z r hh;cases hh;split at h
   .rename_i g c;cases h;let(B,r0):=f 0 _ x rfl rfl;have d:xs=g.map V.str:=WW c (by simpa using e) λi t x a b=>f (i+1) t x (by simpa using a)<|by simpa using b
    rw[r0.str_inv,d]
    rfl
   .cases h
  .cases h
def znz(N:PE X o<|tM X.K E ca m)(hk:PE X k<|tM X.K E ca mk)(a:attributeBase o "join" X.env (eval o X.env)=eval o X.env)(i:starEach [k] X.env=[(false,eval k X.env)])(d:(apos.endLine == cpos.line)=true) :
  PE X (.Call (.Attribute o "join" apos) [k] [] cpos) (tM X.K E ca<|KH m mk):=by
 refine PE.weak (MT PySem.F.plainAttrs_str PySem.F.slot_str_join PySem.F.type_str_join zlb N (EL hk FZ i) a (by rw[i];rfl) d i rfl) λO H Q h=>?_
 let(F,Y,R,S,q):=h;refine{F,Y,R,S,?_};unfold KH at q;cases G:m Y with
 |none=>rw[G]at q;symm|some r=>
  rw[G]at q;cases r with
  |x c=>symm|v t b=>
   cases t with
   |str g=>
    simp only at q;intro w I x B K g1;have T:=Iw g1;subst T;have e:Ext F H w I R0:=K.mono λϊ z=>z.elim
    refine{rfl,w,Y,R,S.ext e,?_};cases f:mk Y with
    |none=>rw[f]at q;symm|some V=>
     rw[f]at q;cases V with
     |x c=>symm|v W J=>
      cases W with
      |nd o2 U l=>
       cases U with
       |lst=>
        simp only at q;intro y C z Z D g2
        have P:∃A,Rp X.K y C (.nd o2 .lst l) z A:=by
         cases J with
         |true=>let(_,A,_,r):=g2;exact{(A),r}
         |false=>exact{_,g2}
        let(A,r):=P;let(p,xs,rfl,M,L,kd):=zpd D.fh r;cases n:EJ l with
        |none=>erw[n]at q<;>symm|some u=>
         erw[n]at q;have j:=WW n L kd
         by_cases s:(u.map (·.length)).sum+u.length * g.length<=BW
         .rw[if_pos s]at q;exact{g,p,u,rfl,rfl,by rw[<- j];exact M,s,q y C _ R0 ((e.trans D).mono λϊ z=>z.elim)<|.str _}
         .rw[if_neg s]at q;symm
       |_=>symm
      |_=>symm
   |_=>symm
def rIxD:R2:=λx y H Q=>∃a b k v,x=.ref a/\y=.str k/\H a=↑(.dK b)/\EW b (Sum.inr k)=↑v/\Q v H
def zpx(o:X.A.units+1<cLine):GB X rIxD:=by
 intro d c z s O H x y v u Q I A B h n;let(a,t,k,w,rfl,rfl,i,p,q):=h;cases A;have g :=p▸OE.k i
 have m:s.TypeIs (.ref a) "dict":=by
  let(_,_,D,_,l):=fN I.hok i;exact l.typeIs
 refine À ?_;refine À<|ť m PySem.F.slot_dict_getitem.lookup ?_
 have Az:wpAny (model X.prog X.w) X.A (subscripted c false (.ref a) u) (λr b=>wpAny (model X.prog X.w) X.A (letTemporaryGo d (.ref a) r >>= λϊ=>pure r) (EP X z O Q) X.xe b) X.xe s:=by
  rw[n];exact wpAny_operating<|ñ (zg0 o I g (B) λE C j f=>{(w),H,j,f,q}) (λr b e=>À<|wpAny_letTemporaryGo<|Ç e) λϊ ϊ x=>x
 first|exact Ç (À Az)|rfl|rfl
def KI(m mk:AI):AI:=λY=>match m Y with
 |some (.v (.obj (.sdc a) l) ϊ)=>(match mk Y with
  |some (.v (.str y) ϊ)=>(match C4 a y with
   |some j=>(match l[j]? with
    |some u=>if u.sh then ↑(.v u false) else none
    |none=>none)
   |none=>none)
  |ϊ=>none)
 |ϊ=>none
def Va:∀{ks} {xs} {y} {j} {v},C4 ks y=↑j->xs[j]?=↑v->EW (Cp ks xs) (Sum.inr y)=↑v
 |[],xs,y,j,v,h,ϊ=>by simp[C4]at h|k::ks,[],y,j,v,ϊ,h=>by simp at h|k::ks,x::xs,y,j,v,h,a=>by
  show EW ((Sum.inr k,x)::Cp ks xs) (Sum.inr y)=↑v;unfold C4 at h;rw[Δ]at h
  by_cases e:k=y
  .rw[@decide_eq_true _ (Classical.propDecidable _) e]at h;erw[Å,Ů]at h;subst h;rw[Le (p:=(Sum.inr k,x))<|by rw[e]]
   simpa using a
  .rw[@decide_eq_false _ (Classical.propDecidable _) e]at h;erw[ą,Ã,Ø]at h;let(c,b,rfl):=h;rw[Lg (p:=(Sum.inr k,x))<|λz=>e<|Sum.inr.inj z]
   exact Va (show C4 ks y=↑c from b)<|by simpa using a
def r_gt(U:X.A.units+1<cLine)(P:PE X o<|tM X.K E ca m)(hk:PE X k<|tM X.K E ca mk)(T:LP k):PE X (.Subscript o k pos)<|tM X.K E ca<|KI m mk:=by
 refine PE.weak (RJ (zpx U) P hk T) λO H Q h=>?_
 let(F,Y,R,S,q):=h;refine{F,Y,R,S,?_};unfold KI at q;cases A:m Y with
 |none=>rw[A]at q;symm|some r=>
  rw[A]at q;cases r with
  |x c=>symm|v t b=>
   cases t with
   |obj kd l=>
    cases kd with
    |sdc W=>
     simp only at q;intro s D x B n g1;let(r1,J):=Mv g1;subst J;let(a,xs,rfl,_,(N,K),el,G):=r1.obj_inv;refine{s,Y,R,S.ext n,?_};cases g:mk Y with
     |none=>rw[g]at q;symm|some Z=>
      rw[g]at q;cases Z with
      |x c=>symm|v t2 b2=>
       cases t2 with
       |str y=>
        simp only at q;intro w i z B2 I g2;have V:=Iw g2;subst V;have e:Ext s D w i R0:=I.mono λϊ z=>z.elim
        cases p:C4 W y with
        |none=>erw[p]at q<;>symm|some j=>
         erw[p]at q;cases d:l[j]? with
         |none=>erw[d]at q<;>symm|some u=>
          erw[d]at q
          by_cases f:u.sh=true
          .rw[if_pos f]at q;have M:=(Ñ.mp d).1;have C:xs[j]?=↑xs[j]:=Â<|by lia
           have L:=(G j u _ d C).move (H':=i) f e.ff;exact{a,_,y,_,rfl,rfl,e.hh _ _<|n.fh _ _ K,Va p C,q w i _ R0 (n.trans0 e) L}
          .rw[if_neg f]at q;symm
       |_=>symm
    |_=>symm
   |_=>symm
def tKys(d:TE):TE:=λO H Q=>d O H λx b=>∃a c xs,x=.ref a/\c.length=xs.length/\b a=↑(.dK<|Cp c xs)/\∀p,b p=none->Q (.ref p) (upd b p<|.lst<|c.map V.str)
def aU:∀{ks} {xs},ks.length=xs.length->(Cp ks xs).length=ks.length
 |[],[],ϊ=>rfl|[],ϊ::ϋ,h=>by simp at h|ϊ::ϋ,[],h=>by simp at h|k::ks,x::xs,h=>by
  show(Cp ks xs).length+1=ks.length+1;rw[aU<|by simpa using h]
def aV:∀{ks} {xs} {vs},ks.length=xs.length->KV (Cp ks xs) vs->vs.map (·.1)=ks.map Sum.inr
 |[],[],vs,ϊ,r=>by
  have a :=(r);cases a
  rfl
 |[],ϊ::ϋ,ό,h,ύ=>by simp at h|ϊ::ϋ,[],ό,h,ύ=>by simp at h|k::ks,x::xs,vs,h,r=>by
  have a :=r;cases a with
  |@cons ϊ q ϋ c hd b=>rw[Ï,Ï,<- hd.1,aV (by simpa using h) b]
def zom(U:X.calm=true)(Y:Gl X "list")(Z:X.mg "list"=none)(ho:PE X o to)(J:starEach [o] X.env=[(false,eval o X.env)]) :
  PE X (.Call (.Name "list" p) [o] [] p2) (tKys to):=by
 intro pq s O H Q I h;refine Ğ<|Fu I Y Z ĵ ?_ (by decide)<|by decide
 refine ę ?_ (by rw[J];rfl) rfl
 rw[J];show wpAny _ _ (spliced<|(false,eval o X.env)::backTo p2 (starEach [] X.env)) _ _ s;refine Ž<|AX (ho pq s O H _ I h) λv s1 zz=>?_
 let(x,H1,m,r1,q1):=zz;let(a,g,xs,rfl,F,hd,q):=q1;cases r1;let(z,D,K,l,o',T,S,C,r):=(m.hok a _ hd);have B:s1.heap.DictAt (Dh X.prog X.w) a K S:={(o'),T,C,r};refine Ι ?_;refine W.kdl_call (W.kdl_dict D) (m.ok.hd U) B (by rw[<- zpn l];exact z) λh' tk c L hk G e=>?_
 have b:=aV F l;refine{.ref _,_,m.laid hk (Æ _) ?_,rfl,q _<|m.hok.fresh<|Æ _};refine{by rw[Á,<- aU F];exact z,c.toList,L,?_,by rw[G]}
 have j:c.toList.length=g.length:=by
  rw[Array.length_toList,e.1,<- Á,b,Á]
 have f:∀(n ) (k ) (v ),g[n]?=↑k->c.toList[n]?=↑v->∃t,v=Value.str k t:=λn k v y A=>by
  let(k',x',M,N):=e.2 n v (by rw[<- Array.getElem?_toList];exact A)
  have E:(K.map (·.1))[n]?=↑k':=by rw[Ë,M];rfl
  rw[b,Ë,y]at E;have P :=(Ý E).symm;subst P
  rcases Ff (show Gy (Sum.inr k) v=true from N) with ⟨i,t,w,_⟩|⟨x,t,w,R⟩
  .cases w
  .cases w;exact{(t),R}
 clear G hk e
 generalize c.toList=d at j f
 clear hd q b
 have go:∀(g:kE) (d ),d.length=g.length->(∀(n:Nat) (k ) (v ),g[n]?=↑k->d[n]?=↑v->∃t,v=Value.str k t)->Ac (g.map V.str) d:=by
  intro g
  induction g with
  |nil=>
   intro d u _;cases d with
   |nil=>exact .nil|cons ϊ ϋ=>simp at u
  |cons k g ih=>
   intro d u f;cases d with
   |nil=>simp at u|cons v d=>exact .cons (f 0 k v rfl rfl)<|ih d (by simpa using u) λn k v y A=>f (n+1) k v (by simpa using y)<|by simpa using A
 exact go g d j f
def Gu(m:AI):AI:=λY=>match m Y with
 |some (.v (.obj (.sdc a) ϊ) ϋ)=>↑(.v (.own<|a.map T.str) false)|ϊ=>none
theorem zh3{K}(ks:kE):Ah K F (ks.map T.str)<|ks.map V.str:={by simp,λi t x a b=>by
 rw[Ë]at a b;cases h:ks[i]? with
 |none=>grind|some k=>rw[h]at a b;cases a;cases b;exact .str k}
def r_kys(D:X.calm=true)(G:Gl X "list")(I:X.mg "list"=none)(J:PE X o<|tM X.K E ca m)(L:starEach [o] X.env=[(false,eval o X.env)]):PE X (.Call (.Name "list" p) [o] [] p2)<|tM X.K E ca<|Gu m:=by
 refine PE.weak (zom D G I J L) λO H Q h=>?_
 let(F,Y,R,S,q):=h;refine{F,Y,R,S,?_};unfold Gu at q;cases d:m Y with
 |none=>rw[d]at q;symm|some r=>
  rw[d]at q;cases r with
  |x c=>symm|v t b=>
   cases t with
   |obj kd l=>
    cases kd with
    |sdc j=>
     intro n u x B f g1;let(r1,y):=Mv g1;subst y;let(a,xs,rfl,_,(i,A),N,M):=r1.obj_inv;refine{a,j,xs,rfl,i,f.fh _ _ A,λp K=>?_}
     have w:Dq X.K n u (.own<|j.map T.str) Q:=λk s z C e g=>q k s z C (f.trans0 e) g
     exact w.list f.fh (zh3 j) K
    |_=>symm
   |_=>symm
structure ICls(K:k6)(C:Addr):Prop where
 c:Cls K C
 a:W.findIn K (.ref C) "__class__"=↑(↑(.builtin "object.__class__"))
 n:W.specialIn K (.builtin "object.__class__") "__get__"=↑(↑(.builtin "getset_descriptor.__get__"))
 k:W.takesIn K (.builtin "object.__class__")=↑true
 m:W.mroIn K C (.type "object")=↑true
def TQ(a:List<|Addr×Bool):Ob->kH
 |.ins C ϊ=>(a.lookup C).map .bl|ϊ=>none
def Li:List String:=["NoneType","bool","int","str","list","tuple","dict"]
def K1(a:List<|Addr×Bool):T->kH
 |.obj o ϊ=>TQ a o|t=>(Lj t).map λϊ=>.bl false
def zj0(c:ICls X.K C)(hk:W.kitOne X.K (.ref C) (.ref D)=↑b):Bs X (.builtin "isinstance") (λxs H Q=>∃a dx fs,xs=[.ref a,.ref D]/\H a=↑(.ins C dx fs)/\Q (.bl b) H):=by
 intro g s O H xs i Q I r h;let(a,dx,fs,rfl,e,q):=h;let(u,j,rfl,d,f):=Ga r;cases f;exact TM I d (.ins e c.c c.a c.n c.k c.m) hk λtk=>{.bl b,H,I.tok _,rfl,q}
def r_isC(g:(∀C b,tb.lookup C=↑b->ICls X.K C/\W.kitOne X.K (.ref C) (.ref D)=↑b)/\(Li.all λa=>W.kitOne X.K (.type a) (.ref D) == ↑false)=true)(G:Gl X "isinstance")(f:X.mg "isinstance"=none)(j:Gl X c)(k:X.mg c=↑(.ref D))(hd:(c == "__debug__")=false)(i:PE X e<|tM X.K E ca m)(l:starEach [e,.Name c p2] X.env=(false,eval e X.env)::starEach [.Name c p2] X.env) :
  PE X (.Call (.Name "isinstance" p) [e,.Name c p2] [] pos) (tM X.K E ca<|BV (g1<|K1 tb)<|AB m AE):=by
 have A:Bs X (.builtin "isinstance") (λxs H Q=>(∃C b a d fs,tb.lookup C=↑b/\xs=[.ref a,.ref D]/\H a=↑(.ins C d fs)/\Q (.bl b) H)\/∃x a,xs=[x,.ref D]/\a∈Li/\(TyOf X.K H x (.type a)\/Up X.K H x a)/\Q (.bl false) H):=λK s O H xs N Q I r h=>by
  rcases h with ⟨C,b,a,d,fs,n,h⟩|⟨x,a,rfl,f,ty,q⟩
  .exact zj0 (g.1 C b n).1 (g.1 C b n).2 K s O H xs N Q I r {(a),d,fs,h}
  .have hk :=eq_of_beq<|ã.mp g.2 a f;let(u,T,rfl,o,M):=Ga r;cases M
   rcases ty with ty|J
   .exact TM I o ty hk λtk=>{.bl false,H,I.tok _,rfl,q}
   .exact bJ I o J hk λtk=>{.bl false,H,I.tok _,rfl,q}
 refine PE.weak (MS A G f PyProof.Rows.boot_isinstance (EL i (EL (Xf (v:=.ref D) j k rfl hd) FZ) l) (by decide) (by decide) l rfl) λO H Q h=>?_
 refine(HU<|HV h).mono λx R y=>?_
 let(F,S,w,fh,rs,e,q):=HS y;unfold g1 at e;split at e
 .let(U,P,t,r1,L):=rs.inv;cases t;unfold K1 at e;split at e
  .unfold TQ at e;split at e
   .let(b,B,rfl):=Ø.mp e;let(a,xs,rfl,_,(d,z),_,_):=r1.obj_inv;exact .inl {_,b,a,d,_,B,rfl,fh _ _ z,q.bl fh}
   .cases e
  .let(a,i,rfl):=Ø.mp e;let(ty,f):=Vf fh r1 i;exact .inr {_,a,rfl,f,ty,q.bl fh}
 .cases e
variable {p1 pos2 pos3:Pos}{mu:Bool}{i j:Nat}{x f:Str}
end
end Pu
namespace Zx
open PySem PySem.Spec PyProof.Rows L2 Zw
section
variable {A:Around}{E:Value->Shared->Prop}{M:Model}
end
section
variable {X:Cx}{i1 i2:Nat}{x1 x2 n1 n2:Str}{np1 np2 pos hpos1 hpos2:Pos}{body suite1 suite2:kD}{b1 b2:Stmt}{tb th1 th2:TS}{E:L2.St->XK}
end
end Zx
namespace Pu
open PySem PySem.Spec PyProof.Rows L2 Zw Zx
section
variable {X:Cx}{E:L2.St->XK}{ca:Str->Value}{mu:Bool}{i1 i2:Nat}{x1 x2 n1 n2:Str}{np1 np2 pos hpos1 hpos2:Pos}{body suite1 suite2:kD}{b1 b2:Stmt}{u h1 h2:AG}{cs1 cs2:List<|Str×Addr}
variable {m:AI}{e:Expr}{p p2 p3 p4:Pos}{c1 c2:Str}{t1 t2:List<|Addr×Bool}{kt:Nat}
end
section
variable {X:Cx}{E:L2.St->XK}{ca:Str->Value}{m mk ma:AI}{o k e a:Expr}{pos apos cpos p p2:Pos}
variable {pos':Pos}
end
abbrev bV(ms:Ay):Ay:=E7 ms
theorem r_enX{X:Cx}{E:L2.St->XK}{ca:Str->Value}{ms:Ay}{a:Expr}{b:kC}{h:Nat}{p pos c:Pos}(e:Gl X "enumerate")(f:X.mg "enumerate"=none)(d:PA X [a]<|CU X.K E ca ms)(g:starEach [a] X.env=[(false,eval a X.env)]):PI X (.Tuple b h c) (.Call (.Name "enumerate" p) [a] [] pos)<|tI X.K E ca<|bV ms:=XZ e f d g
def clsO(C N:Addr)(o:Obj):Prop:=∃nm q bs b k sub d c e f g h i j a,o=excClassObj nm q C N bs [.type "object"] b k sub d c e f g h i j a
def keyO(e:DictEntry):Bool:=match e.key with
 |.str n ϊ=>!(n == ("__eq__":Str)) && !(n == ("__ne__":Str))|ϊ=>false
def nsO(o:Obj):Bool:=match o.data with
 |.dict a ϊ=>a.toList.all keyO|ϊ=>false
structure TiOk(K:k6)(C:Addr):Prop where
 i:ICls K C
 k:(ID.all λc=>W.kitOne K (.ref C) (.type c) == ↑false)=true
 o:∃(oC oN:Obj) (N:Addr),K.lookup C=↑oC/\clsO C N oC/\K.lookup N=↑oN/\nsO oN=true
mutual
noncomputable def T.lend:T->T
 |.nd o k l=>match o,k with
  |true,.lst=>.nd false .rl (GV l)|true,.tup=>.nd false .tup (GV l)|ϊ,ϋ=>.nd o k l
 |.dic a l=>.dic a l|.pdc a l=>.pdc a l|.odc a l=>.odc a l|.obj k l=>.obj k l|.oob p C fs l=>.oob p C fs l|.osd a l=>.osd a l|.non=>.non|.bl b=>.bl b|.int i=>.int i|.str x=>.str x
noncomputable def GV:List T->List T
 |[]=>[]|t::r=>t.lend::GV r
end
def TN:T->Bool
 |.nd o k ϊ=>match o,k with
  |true,.lst=>true|ϊ,ϋ=>false
 |ϊ=>false
def zlq(h:TN t=true):∃l,t=.nd true .lst l:=by
 cases t with
 |nd o k l=>
  cases o with
  |false=>cases h|true=>cases k<;>first|exact⟨l,rfl⟩|cases h
 |_=>cases h
mutual
noncomputable def T.lnd:T->Bool
 |.nd o k l=>match o,k with
  |true,.lst=>Fc l|true,.tup=>l.any TN && Fc l|true,ϊ=>false|false,ϊ=>A4 l
 |.dic ϊ l=>A4 l|.pdc ϊ l=>A4 l|.odc ϊ ϋ=>false|.obj ϊ l=>A4 l|.oob ϊ ϋ ό ύ=>false|.osd ϊ ϋ=>false|.non=>true|.bl ϊ=>true|.int ϊ=>true|.str ϊ=>true
noncomputable def Fc:List T->Bool
 |[]=>true|t::r=>t.lnd && Fc r
end
def Mi:∀l,GV l=l.map T.lend
 |[]=>rfl|t::r=>by rw[GV,Mi r];rfl
def Su:∀{l},Fc l=true->∀{i:Nat} {t},l[i]?=↑t->t.lnd=true
 |[],ϊ,i,t,e=>by simp at e|a::r,h,i,t,e=>by
  rw[Fc,È]at h;cases i with
  |zero=>cases e;exact h.1|succ j=>exact Su h.2<|by simpa using e
def aI(n:T.lnd (.nd true .tup l)=true):l.any TN=true/\Fc l=true:=by
 rw[T.lnd,È]at n;exact n
def Rp.lend{K}(r:Rp K F H t x A)(n:t.lnd=true)(s:A5 F F')(k:∀a xs,A a->H a=↑(.lst xs)->∃o,F' a=↑(.frz o<|.lst xs))(k2:∀a xs,A a->H a=↑(.tup xs)->F' a=↑(.tup xs)):Rp K F' H' t.lend x R0:=by
 induction r with
 |non=>exact .non|bl b=>exact .bl b|int i=>exact .int i|str y=>exact .str y|@shr m p xs l h e c g=>
  have C:T.sh (.nd false m l)=true:=by rw[T.sh];rw[T.lnd]at n;exact n
  have B:(T.nd false m l).lend=.nd false m l:=by cases m<;>rfl
  rw[B];exact(Rp.shr (H:=H) h e c).move C s
 |dic h e q c g=>exact(Rp.dic (H:=H) h e q c).move (by rw[T.sh];exact n) s|pdc h e q c g=>exact(Rp.pdc (H:=H) h e q c).move (by rw[T.sh];exact n) s|odc f h e q c g=>cases n|obj h e c g=>exact(Rp.obj (H:=H) h e c).move (by rw[T.sh];exact n) s|oob R f h e c d dp o g=>cases n|osd R f h e q c d dp o g=>cases n|@own m p xs l hk R f h e c d dp o g=>
  have j:Fc l=true->∀i t x,(GV l)[i]?=↑t->xs[i]?=↑x->Rp K F' H' t x R0:=λnl i t x v w=>by
   rw[Mi,Ë]at v;let(D,u,rfl):=Ø.mp v;exact g i D x u w (Su nl u) (λa xs z=>k a xs<|.inr {(i),z}) λa xs z=>k2 a xs<|.inr {(i),z}
  cases m with
  |lst=>rw[T.lend];exact .shr (.inl<|k p xs (.inl rfl) h) (by rw[Mi,Á];exact e) (j n)|tup=>rw[T.lend];exact .shr (k:=.tup) (k2 p xs (.inl rfl) h) (by rw[Mi,Á];exact e) (j (aI n).2)|_=>cases n
def Rp.lnd{K}(r:Rp K F H t x A)(n:t.lnd=true):∀a,A a->(∃xs,H a=↑(.lst xs))\/∃xs,H a=↑(.tup xs)/\∃(j:Nat) (c:Addr) (ys:kK),xs[j]?=↑(.ref c)/\A c/\H c=↑(.lst ys):=by
 induction r with
 |@own T p xs l hk R f h e c d dp o k=>
  have b:Fc l=true->∀a i,R i a->(∃xs,H a=↑(.lst xs))\/∃xs,H a=↑(.tup xs)/\∃(j:Nat) (c:Addr) (ys:kK),xs[j]?=↑(.ref c)/\(c=p\/∃i,R i c)/\H c=↑(.lst ys):=λnl a i z=>by
   have u:=o i a z;have g:i<xs.length:=by lia
   rcases k i _ _ (Â u) (Â g) (Su nl<|Â u) a z with w|⟨W,E,j,c,ys,G,I,J⟩
   .exact .inl w
   .exact .inr {W,E,j,c,ys,G,.inr {(i),I},J}
  cases T with
  |lst=>
   rintro a (rfl|⟨i,z⟩)
   .exact .inl {(xs),h}
   .exact b n a i z
  |tup=>
   let(U,V):=aI n;rintro a (rfl|⟨i,z⟩)
   .let(t,Q,O):=Λ.mp U;let(m,rfl):=zlq O;let(j,M,C):=Ÿ.mp Q;have g:j<xs.length:=by lia
    have s:=c j _ _ (Â M)<|Â g;rw[C]at s;generalize L:R j=B at s;generalize S:xs[j]=y at s;cases s with
    |@own k1 q ys m' N X fq P eq Y Z v oq=>exact .inr {xs,h,j,q,ys,by rw[Â g,S],.inr {j,by rw[L];exact .inl rfl},P}
   .exact b V a i z
  |_=>cases n
 |odc f h e D c k=>cases n|oob R f h e c d dp o k=>cases n|osd R f h e D c d dp o k=>cases n|_=>exact λa z=>z.elim
open Classical in
def fz(A:Rg)(h:Heap)(H:Hp):Hp:=λb=>if A b then (match H b,h.get? b with
 |some (.lst xs),↑o=>↑(.frz o<|.lst xs)|u,ϊ=>u) else H b
open Classical in
def th(A:Rg)(H H':Hp):Hp:=λb=>if A b then H b else H' b
def fz_in{A:Rg}{h:Heap}{H:Hp}(z:A b)(e:H b=↑(.lst xs))(q:h.get? b=↑o):fz A h H b=↑(.frz o<|.lst xs):=by unfold fz;rw[if_pos z,e,q]
def b8{A:Rg}{h:Heap}{H:Hp}(z:¬ A b):fz A h H b=H b:=by unfold fz;rw[if_neg z]
set_option tactic.hygienic true in
def K5{A:Rg}{h:Heap}{H:Hp}(e:∀xs,H b≠↑(.lst xs)):fz A h H b=H b:=by
 unfold fz;split
 .split
  .rename_i xs _ q _;exact absurd q<|e xs
  .rfl
 .rfl
def IE{A:Rg}{H H':Hp}(z:A b):th A H H' b=H b:=by unfold th;rw[if_pos z]
def Fj{A:Rg}{H H':Hp}(z:¬ A b):th A H H' b=H' b:=by unfold th;rw[if_neg z]
section
variable {X:Cx}{pq:List<|Addr×Obj}{O O':L2.St}{H H':Hp}{s s':Shared}{A:Rg}
def Hn(I:Inv X pq O H s)(z:A b)(e:H b=↑(.lst xs)):∃o,s.heap.get? b=↑o/\fz A s.heap H b=↑(.frz o<|.lst xs):=by
 let(_,a,n,_,q):=I.hok b _ e;exact{_,q,fz_in z e q}
def zi0(I:Inv X pq O H s):Inv X pq O (fz A s.heap H) s:=by
 have nf:∀{b},H b=none->fz A s.heap H b=none:=λ{b} e=>by
  rw[K5 (λxs q=>by rw[e]at q;cases q)];exact e
 have nl:∀{b} {u},H b=↑u->(∀xs,u≠.lst xs)->fz A s.heap H b=↑u:=λ{b u} e n=>by
  rw[K5 (λxs q=>by rw[e]at q;exact n xs<|Ý q)];exact e
 refine { I with base:={I.base.keep,I.base.slot,λb o e n l=>nf<|I.base.free b o e n l,I.base.there,λb xs e=>nl (I.base.tups b xs e) (λϊ z=>by cases z),λb o u e=>nl (I.base.frzs b o u e) (λϊ z=>by cases z),λb ps e=>?_},free:=nf I.free,freeC:=λx c e=>nf<|I.freeC x c e,pin:=λp k=>?_,hok:=λa o e=>?_ }
 .let(d,q):=I.base.tbls b ps e;exact{d,nl q<|λϊ z=>by cases z}
 .let(g,h,i):=I.pin p k;exact{g,nf h,i}
 .have st:=λ{u} q=>(I.hok a u q).stay (H':=fz A s.heap H) (λϊ ϊ ϊ e=>e) (λb e=>nl e<|λϊ z=>by cases z) λb xs e=>nl e<|λϊ z=>by cases z
  by_cases z:A a/\∃xs,H a=↑(.lst xs)
  .let(z,xs,q):=z;let(ob,j,w):=Hn I z q;rw[w]at e;cases e;exact{j,st q}
  .by_cases f:A a
   .rw[K5<|λxs q=>z {(f),xs,q}]at e
    exact st e
   .rw[b8 f]at e;exact st e
def zhz(I:Inv X pq O H s)(f:∀a,A a->(∃xs,H a=↑(.lst xs))\/∃xs,H a=↑(.tup xs))(Γ:Inv X pq O' H' s')(hk:∀b,A b->H' b=fz A s.heap H b):Inv X pq O' (th A H H') s':=by
 have nf:∀{b},(A b->H b=none)->H' b=none->th A H H' b=none:=λ{b} j k=>by
  by_cases z:A b
  .rw[IE z];exact j z
  .rw[Fj z];exact k
 have i:∀{b xs},A b->H b=↑(.tup xs)->H' b=↑(.tup xs):=λ{b xs} z e=>by
  rw[hk b z,K5 (λv q=>by rw[e]at q;cases q)];exact e
 have nl:∀{b} {u},H' b=↑u->(∀o xs,u≠.frz o (.lst xs))->th A H H' b=↑u:=λ{b u} e n=>by
  by_cases z:A b
  .rcases f b z with ⟨xs,q⟩|⟨xs,q⟩
   .let(o,_,w):=Hn I z q;rw[hk b z,w]at e;exact absurd (Ý e).symm<|n o xs
   .rw[IE z,q,<- i z q];exact e
  .rw[Fj z];exact e
 refine { Γ with base:={Γ.base.keep,Γ.base.slot,λb o e n h=>nf (λϊ=>I.base.free b o e n h)<|Γ.base.free b o e n h,Γ.base.there,λb xs e=>nl (Γ.base.tups b xs e) (λϊ ϊ z=>by cases z),λb o u e=>?_,λb ps e=>?_},free:=nf (λϊ=>I.free) Γ.free,freeC:=λx c e=>nf (λϊ=>I.freeC x c e)<|Γ.freeC x c e,pin:=λp g=>?_,hok:=λa o e=>?_ }
 .by_cases z:A b
  .rw[IE z];exact I.base.frzs b o u e
  .rw[Fj z];exact Γ.base.frzs b o u e
 .let(d,q):=Γ.base.tbls b ps e;exact{d,nl q<|λϊ ϊ z=>by cases z}
 .let(l,m,r):=Γ.pin p g;exact{l,nf (λϊ=>(I.pin p g).2.1) m,r}
 .have st:=λ{u} (q:DG X.prog X.w H' s'.heap a u)=>q.stay (H':=th A H H') (λϊ ϊ ϊ e=>e) (λb e=>nl e<|λϊ ϊ z=>by cases z) λb xs e=>nl e<|λϊ ϊ z=>by cases z
  by_cases z:A a
  .rcases f a z with ⟨xs,q⟩|⟨xs,q⟩
   .let(ob,t,w):=Hn I z q;rw[IE z,q]at e;cases e;have:=Γ.hok a _<|(hk a z).trans w;exact st this.2
   .rw[IE z,q]at e;cases e;exact st<|Γ.hok a _<|i z q
  .rw[Fj z]at e;exact st<|Γ.hok a o e
end
def Ms:Kd->Bool
 |.rl=>false|.rt=>false|ϊ=>true
def oYng:Ob->Bool
 |.lab ϊ=>false|ϊ=>true
mutual
noncomputable def T.noR:T->Bool
 |.nd ϊ k l=>Ms k && FA l|.dic ϊ l=>FA l|.pdc ϊ l=>FA l|.odc ϊ l=>FA l|.obj k l=>oYng k && FA l|.oob ϊ ϋ ό l=>FA l|.osd ϊ l=>FA l|.non=>true|.bl ϊ=>true|.int ϊ=>true|.str ϊ=>true
noncomputable def FA:List T->Bool
 |[]=>true|t::r=>t.noR && FA r
end
def Ft:∀{l},FA l=true->∀{i:Nat} {t},l[i]?=↑t->t.noR=true
 |[],ϊ,i,t,e=>by simp at e|a::r,h,i,t,e=>by
  rw[FA,È]at h;cases i with
  |zero=>cases e;exact h.1|succ j=>exact Ft h.2<|by simpa using e
def zp5{K}(r:Rp K F H t (.ref c) A)(n:t.noR=true)(b:F c=↑(.frz o<|.lst ys)):False:=by
 cases r with
 |@shr i p xs l a e k=>
  rw[T.noR,È]at n;cases i with
  |lst=>have h:F c=↑(.lst xs):=a;rw[b]at h;cases h|pin q=>have h:F c=↑(.lst xs):=a;rw[b]at h;cases h|tup=>have h:F c=↑(.tup xs):=a;rw[b]at h;cases h|rl=>cases n.1|rt=>cases n.1
 |dic a e g c=>rw[b]at a;cases a|pdc a e g c=>rw[b]at a;cases a|odc f a e g c=>rw[b]at f;cases f|@obj i p xs l a e c=>
  rw[T.noR,È]at n;cases i with
  |ins C fs=>let(j,q):=a;rw[b]at q;cases q
  |exn C=>let(j,(ob,q,_),_):=a;rw[b]at q;cases q
  |sdc m=>have q:=a.2;rw[b]at q;cases q|lab q=>cases n.1
 |oob R f a e c d dp o=>rw[b]at f;cases f|osd R f a e g c d dp o=>rw[b]at f;cases f|own hk R f a e c d dp o=>rw[b]at f;cases f
def Rp.noR{K}{N:Hp}{A:Rg}(r:Rp K F H t x B)(n:t.noR=true)(L:∀b,A b->(∃o xs,F b=↑(.frz o<|.lst xs))\/∃xs,F b=↑(.tup xs)/\∃(j:Nat) (c:Addr) (o:Obj) (ys:kK),xs[j]?=↑(.ref c)/\F c=↑(.frz o<|.lst ys))(D:∀b,B b->¬ A b):Rp K (FU A F) (th A N H) t x B:=by
 have nl:∀{b} {u},F b=↑u->(∀o xs,u≠.frz o (.lst xs))->(∀xs,u≠.tup xs)->FU A F b=↑u:=λ{b u} e m m2=>by
  unfold FU;rw[if_neg<|λz=>?_]
  .exact e
  .rcases L b z with ⟨o,xs,q⟩|⟨xs,q,_⟩
   .rw[e]at q;exact m o xs<|Ý q
   .rw[e]at q;exact m2 xs<|Ý q
 have E:∀{b},F b=none->FU A F b=none:=λ{b} e=>by unfold FU;split;rfl;exact e
 induction r with
 |non=>exact .non|bl b=>exact .bl b|int i=>exact .int i|str y=>exact .str y|@shr J p xs l g e c k=>
  rw[T.noR,È]at n;refine .shr ?_ e λi t x a h=>k i t x a h (Ft n.2 a) λb z=>z.elim
  cases J with
  |lst=>exact nl g (λϊ ϊ z=>by cases z) (λϊ z=>by cases z)|pin q=>exact nl g (λϊ ϊ z=>by cases z) (λϊ z=>by cases z)|tup=>
   have I:F p=↑(.tup xs):=g;show FU A F p=↑(.tup xs);unfold FU;rw[if_neg<|λz=>?_]
   .exact I
   .rcases L p z with ⟨o,ys,q⟩|⟨S,q,j,P,o,ys,a,h⟩
    .rw[I]at q;cases q
    .rw[I]at q;cases q;have M:j<l.length:=by rw[e];exact(Ñ.mp a).1
     exact zp5 (c j _ _ (Â M) a) (Ft n.2<|Â M) h
  |rl=>cases n.1|rt=>cases n.1
 |dic g e w c k=>exact .dic (nl g (λϊ ϊ z=>by cases z)<|λϊ z=>by cases z) e w λi t x a h=>k i t x a h (Ft n a) λb z=>z.elim|pdc g e w c k=>exact .pdc (nl g (λϊ ϊ z=>by cases z)<|λϊ z=>by cases z) e w λi t x a h=>k i t x a h (Ft n a) λb z=>z.elim|odc f g e w c k=>exact .odc (E f) ((Fj<|D _ rfl).trans g) e w λi t x a h=>k i t x a h (Ft n a) λb z=>z.elim|@obj J p xs l g e c k=>
  rw[T.noR,È]at n;refine .obj ?_ e λi t x a h=>k i t x a h (Ft n.2 a) λb z=>z.elim
  cases J with
  |ins C fs=>exact g.elim λG q=>{G,nl q (λϊ ϊ z=>by cases z)<|λϊ z=>by cases z}|exn C=>let(G,(ob,q,r),s):=g;exact{G,{ob,nl q (λϊ ϊ z=>by cases z) (λϊ z=>by cases z),r},λv O=>let ⟨d,od,u,e,a,r⟩:=s v O;{d,od,u,e,nl a (λϊ ϊ z=>by cases z) (λϊ z=>by cases z),r}}
  |sdc Q=>exact{g.1,nl g.2 (λϊ ϊ z=>by cases z)<|λϊ z=>by cases z}|lab q=>exact g
 |oob R f g e c d dp o k=>exact .oob R (E f) ((Fj<|D _<|.inl rfl).trans g) e (λi t x a h=>k i t x a h (Ft n a) λb z=>D b<|.inr {(i),z}) d dp o|osd R f g e w c d dp o k=>exact .osd R (E f) ((Fj<|D _<|.inl rfl).trans g) e w (λi t x a h=>k i t x a h (Ft n a) λb z=>D b<|.inr {(i),z}) d dp o|own hk R f g e c d dp o k=>rw[T.noR,È]at n;exact .own hk R (E f) ((Fj<|D _<|.inl rfl).trans g) e (λi t x a h=>k i t x a h (Ft n.2 a) λb z=>D b<|.inr {(i),z}) d dp o
def E5(i:Nat)(m:AI):AI:=λY=>match Y[i]? with
 |some ↑t=>if t.lnd then (match m (Y.set i ↑t.lend) with
  |some (.v v false)=>if v.noR then ↑(.v v false) else none
  |ϊ=>none) else none
 |ϊ=>none
def zfb(h:E5 i m Y=↑r):∃t v,Y[i]?=↑↑t/\t.lnd=true/\m (Y.set i ↑t.lend)=↑(.v v false)/\v.noR=true/\r=.v v false:=by
 unfold E5 at h
 grind
def aM{X:Cx}{E:L2.St->XK}{ca:Str->Value}{m:AI}{i:Nat}{D:List<|Addr×Obj}{s:Shared}{O:L2.St}{H:Hp}{Q:VK}(I:Inv X D O H s)(h:tM X.K E ca (E5 i m) O H Q) :
  ∃A:Rg,Inv X D O (fz A s.heap H) s/\tM X.K E ca m O (fz A s.heap H) (λv H'=>(∀b,A b->H' b=fz A s.heap H b)/\Q v (th A H H'))/\∀{O':L2.St} {H':Hp} {s':Shared},Inv X D O' H' s'->(∀b,A b->H' b=fz A s.heap H b)->Inv X D O' (th A H H') s':=by
 let(F,Y,R,S,q):=h;cases L:E5 i m Y with
 |none=>rw[L]at q;symm|some r=>
  let(t,v,Z,W,hv,hn,rfl):=zfb L;rw[L]at q;let(x,ex,r):=S.rep i t Z;have hi:i<Y.length:=(Ñ.mp Z).1;have V:=r.lnd W;have n:∀a,R i a->(∃xs,H a=↑(.lst xs))\/∃xs,H a=↑(.tup xs):=λa z=>(V a z).imp_right λ⟨xs,e,_⟩=>{(xs),e}
  have fA:∀a,R i a->F a=none:=λa z=>(r.dom z).1
  have p:∀{b},¬ R i b->fz (R i) s.heap H b=H b:=λz=>b8 z
  have P:∀{b xs},H b=↑(.tup xs)->fz (R i) s.heap H b=↑(.tup xs):=λ{b xs} e=>by rw[K5 (λys z=>by rw[e]at z;cases z)];exact e
  have M:A5 F<|frz F (fz (R i) s.heap H)<|R i:=Ek fA
  have fh:A5 (frz F (fz (R i) s.heap H)<|R i)<|fz (R i) s.heap H:=λb u e=>by
   by_cases z:R i b
   .rw[ET z]at e;exact e
   .rw[Ej z]at e;rw[p z];exact S.fh b u e
  have S':StR X.K (frz F (fz (R i) s.heap H)<|R i) (fz (R i) s.heap H) O (Y.set i ↑t.lend) (λj=>if j=i then R0 else R j):=by
   refine{fh,by simpa using S.len,λj N e=>?_,λj a z=>?_,λj k a K G J=>?_}
   .by_cases d:j=i
    .subst d;rw[é hi]at e;cases e;refine{x,ex,?_};erw[Å];refine r.lend W M (λa xs z f=>?_) λa xs z f=>?_
     .let(o,_,w):=Hn (A:=R j) I z f;exact{o,by rw[ET z];exact w}
     .rw[ET z];exact P f
    .rw[æ<|Î d]at e;let(y,f,r1):=S.rep j N e;refine{y,f,?_};erw[d,Ã];exact r1.frame M λa z=>{p λw=>S.dis j i a d z w,by rw[Ej<|λw=>S.dis j i a d z w];exact(r1.dom z).1}
   .by_cases d:j=i
    .erw[d,Å]at z;exact z.elim
    .erw[d,Ã]at z;let(N,e):=S.out j a z;exact{N,by rw[æ<|Î d];exact e}
   .by_cases d:j=i
    .erw[d,Å]at G;exact G.elim
    .by_cases hk:k=i
     .erw[hk,Å]at J;exact J.elim
     .erw[d,Ã]at G;erw[hk,Ã]at J;exact S.dis j k a K G J
  have l:∀b,R i b->∃u,fz (R i) s.heap H b=↑u:=λb z=>by
   rcases n b z with ⟨xs,e⟩|⟨xs,e⟩
   .let(o,_,w):=Hn (A:=R i) I z e;exact{_,w}
   .exact{_,P e}
  refine{R i,zi0 I,{_,_,_,S',?_},λΓ hk=>zhz I n Γ hk}
  rw[hv];intro T H' y B e g;have g':Rp X.K T H' v y B:=g
  have nB:∀b,B b->¬ R i b:=λb z w=>by
   let(u,C):=l b w;rw[e.nb b z]at C;cases C
  refine{λb z=>?_,q (FU (R i) T) (th (R i) H H') y B {λb u w=>?_,λb u w=>?_,λb u w=>?_,λb z=>?_,λb u w=>?_} ?_}
  .let(u,C):=l b z;rw[C];exact e.hh b _ C
  .by_cases z:R i b
   .rw[IE z];exact w
   .rw[Fj z];exact e.hh b u (by rw[p z];exact w)
  .have z:¬ R i b:=λz=>by rw[fA b z]at w;cases w
   unfold FU;rw[if_neg z];exact e.ff b u<|M b u w
  .unfold FU at w
   by_cases z:R i b
   .rw[if_pos z]at w;cases w
   .rw[if_neg z]at w;rw[Fj z];exact e.fh b u w
  .rw[<- p<|nB b z];exact e.nb b z
  .unfold FU at w
   by_cases z:R i b
   .rw[if_pos z]at w;cases w
   .rw[if_neg z]at w
    rcases e.nf b u w with w|w
    .rw[Ej z]at w;exact .inl w
    .rw[p z]at w;exact .inr w
  .refine g'.noR hn (λb z=>?_) nB
   rcases V b z with ⟨xs,f⟩|⟨xs,f,j,c,ys,h1,U,h3⟩
   .let(o,_,w):=Hn (A:=R i) I z f;exact .inl {o,xs,e.ff b _ (by rw[ET z];exact w)}
   .let(o,_,w):=Hn (A:=R i) I U h3;exact .inr {xs,e.ff b _ (by rw[ET z];exact P f),j,c,o,ys,h1,e.ff c _ (by rw[ET U];exact w)}
def zny{X:Cx}{E:L2.St->XK}{ca:Str->Value}{m:AI}{e:Expr}{i:Nat}(d:PE X e<|tM X.K E ca m):PE X e<|tM X.K E ca<|E5 i m:=by
 intro j s O H Q I h;let(A,b,c,a):=aM I h;refine ñ (d j s O _ _ b c) (λu o g=>?_) λϊ ϊ z=>z
 let(l,n,Γ,k,hk,f):=g;exact{l,_,a Γ hk,k,f}
def zng{X:Cx}{E:L2.St->XK}{ca:Str->Value}{m:AI}{st:Stmt}{i j:Nat}(n:PS X st<|Gc (tM X.K E ca m)<|GY j):PS X st<|Gc (tM X.K E ca<|E5 i m)<|GY j:=by
 intro o s O H D I h;let(A,g,k,a):=aM I h;refine ñ (n o s O _ { nx:=λe d=>(∀b,A b->d b=fz A s.heap H b)/\D.nx e (th A H d),rt:=λϊ ϊ=>False,bk:=λϊ ϊ=>False,ct:=λϊ ϊ=>False } g k) (λf p c=>?_) λϊ ϊ z=>z
 cases f with
 |next=>let(e,d,Γ,hk,l):=c;exact{e,_,a Γ hk,l}
 |brk=>let(_,_,_,z):=c;exact z.elim
 |cont=>let(_,_,_,z):=c;exact z.elim
 |ret u=>let(_,_,_,_,_,z):=c;exact z.elim
end Pu
namespace Zx
open PySem PySem.Spec PyProof.Rows L2 Zw
section
variable {M:Model}{prog:Program}{w:World}{A:Around}{E:Value->Shared->Prop}{env:Env}{nm q:Str}{C N:Addr}{bs bm:k9}{hdct:Bool}{sn:kE}{sub:k9}{ab:Bool}{col:Option Bool}{dd:Option Addr}{k0 k1 k2 k3 k5:Option Value}{newId:String}
variable {K:k6}{s:Shared}{e:Addr}{vs:Array Value}{sl:Array<|Option Value}{name:Str}{v:Value}
end
section
variable {K:k6}{prog:Program}{w:World}{A:Around}{E:Value->Shared->Prop}{s:Shared}{a C:Addr}{name:Str}{u:Value}
variable {X:Cx}{pq:List<|Addr×Obj}{O:L2.St}{H:Hp}{t:Addr}
end
section
variable {X:Cx}{E:L2.St->XK}{C:Addr}{x:Str}{p pos:Pos}{e:Expr}{t:TA}{k j:Nat}
end
section
variable {X:Cx}{pq:List<|Addr×Obj}{O:L2.St}{H:Hp}{s:Shared}{a C t:Addr}{dx:Option Addr}
variable {E:L2.St->XK}{e:Expr}{pos:Pos}{te:TE}
end
end Zx
namespace Pu
open PySem PySem.Spec PyProof.Rows L2 Zw Zx
def GZ(t u:T):kH:=match t,u with
 |.nd ϊ .lst (ϋ::ό),.nd ύ .lst []=>↑(.bl false)|ϊ,ϋ=>Au t u
def zl0(i:X.A.units+64<cLine):Ag X (compareOp .Eq)<|Bg X.K GZ:=by
 intro t s O H x y v u Q I f g h;let(F,z,A,r,fh,r1,d,e,q):=h;unfold GZ at e;split at e
 .cases e;let(p,xs,rfl,rfl,m,k):=Dy r1;let(D,E,rfl,rfl,n,l):=Dy d;cases f;cases g;let(j,w,o,_):=I.list<|A3.of<|fh _ _ m;let(c,b,a,_):=I.list<|A3.of<|fh _ _ n;refine SeqAt.RcAt.lists_lengths o.isList a.isList ?_ (by lia) _ _ _ _ {.bl false,H,I,rfl,q.bl fh}
  have l1:=k.1;have l2:=l.1;have B:=w.length;have C:=b.length
  grind
 .exact Xl i t s O H x y v u Q I f g {F,z,A,_,fh,r1,d,e,q}
end Pu
noncomputable section
namespace Pu
open PySem PySem.Spec PyProof.Rows L2 Zw Zx
structure Fn where
 lv:Nat
 ps:kE
 g:kL->Option Ru
structure Gx where
 co:List (Str×T)
 cl:List (Str×Addr×kE)
 mt:List (Str×Addr×kE×Fn)
 nw:List (Str×Fn×List (Nat×kL))
 nr:Bool
 tx:Bool
 df:Bool
 sf:Option (Addr×kE)
 xs:List (Str×List (Str×Addr))
 sb:List (Str×List (Addr×Bool))
 sv:List (Str×List (Addr×Bool))
 no:Bool
 fo:kE
 ci:List (Str×List (Addr×Bool))
 x2:List (Str×Str×List (Str×Addr))
 gt:kE
 wd:List (Str×Fn)
 pn:kE
 ti:List Addr
 dn:List (Str×Fn×kL)
 rn:Option<|Addr×Nat
abbrev DE:Gx:={[],[],[],[],false,true,true,none,[],[],[],true,[],[],[],[],[],[],[],[],none}
structure Gm where
 N:kE
 nm:List (Str×NameKind)
 ce:kE
 lv:Nat
 fns:List (Str×Fn)
 bl:kE
 ex:kE
 ow:kE
 pk:kE
 mu:Bool
 mus:List (Str×Fn)
 mv:kE
 dc:kE
 ox:Gx
def Cz(x:Str):Bool:=!(x == ("__debug__":Str)) && !(x == ("__classdict__":Str)) && !(x == ("__name__":Str))
def O6(nm:List<|Str×NameKind)(x:Str):Bool:=nm.lookup x == ↑.local || nm.lookup x == ↑.cell || nm.lookup x == ↑.free
def CZ(nm:List<|Str×NameKind)(x:Str):Bool:=nm.lookup x == ↑.globalImplicit
def EO(N:kE)(x:Str):Option Nat:=N.findIdx? (· == x)
def Gm.var(J:Gm)(x:Str):Option Nat:=if Cz x && O6 J.nm x then EO J.N x else none
def Gm.loc(J:Gm)(x:Str):Bool:=Cz x && (J.nm.lookup x == ↑.local || J.ce.contains x)
def Dx:Expr->Bool
 |.Starred ..=>false|ϊ=>true
def GO:Expr->Bool
 |.IfExp ..=>false|.NamedExpr ..=>false|ϊ=>true
def nmOf:Expr->Option (Str×Pos)
 |.Name x p=>↑(x,p)|ϊ=>none
def Od:kC->kE
 |[]=>[]|e::a=>(match nmOf e with
  |some (x,ϊ)=>x::Od a|none=>Od a)
def Ee:Expr->kE
 |.Name x ϊ=>[x]|.Tuple a ϊ ϋ=>Od a|ϊ=>[]
def zpy:Expr->Bool
 |.Tuple ..=>true|ϊ=>false
def Hj:Expr->Bool
 |.Slice ..=>true|ϊ=>false
def El(nm:List<|Str×NameKind):kE:=nm.filterMap λ(y,k)=>if k == .free then ↑y else none
def UQ(nm:List<|Str×NameKind):kE:=nm.filterMap λ(y,k)=>if k == .cell then ↑y else none
def Jn(a outer:List<|Str×NameKind):List<|Str×NameKind:=a.map λ(n,k)=>if (k == .free && outer.lookup n == ↑.cell) then (n,.cell) else (n,k)
def Km(N:kE):kE->Option (kG)
 |[]=>↑[]|y::r=>(match EO N y with
  |some i=>(match Km N r with
   |some l=>↑(i::l)|none=>none)
  |none=>none)
def Ks(J:Gm)(a:Scope)(b:kE):Bool:=
 (a.kind == .function) && a.names.all (λx=>!(x.2 == .local) || a.names.lookup x.1 == ↑.local) &&
 a.names.all (λx=>!(x.2 == .free) || (a.names.lookup x.1 == ↑.free && (J.nm.lookup x.1 == ↑.cell || J.nm.lookup x.1 == ↑.free) && !(a.names.contains (x.1,NameKind.cell)))) &&
 decide b.Nodup && (UQ a.names).all (λy=>(Jn a.names J.nm).lookup y == ↑.cell)
def Gm.blk(J:Gm)(a:Scope)(b:kE):Gm:={ J with N:=b,nm:=Jn a.names J.nm,ce:=(UQ a.names).filter λy=>a.names.lookup y == ↑.cell,ow:=[],ox:={ J.ox with df:=false,nr:=true } }
def RP:Expr->Bool
 |.Set ..=>false|ϊ=>true
def HA:Expr->Bool
 |.ListComp ..=>true|.SetComp ..=>true|.DictComp ..=>true|ϊ=>false
def bM:Expr->Bool
 |.Attribute ..=>true|ϊ=>false
def gtN(J:Gm):Expr->Bool
 |.Name x ϊ=>J.ox.gt.contains x|ϊ=>false
def Gn:Expr->Bool
 |.Call ϊ a ϋ ό=>!a.isEmpty|ϊ=>true
def NQ(h:Gn o=true):attributeBase o f env (eval o env)=eval o env:=by
 cases o with
 |Call g a b c=>
  cases a with
  |nil=>cases h|cons e a=>cases g<;>rfl
 |_=>rfl
def zf9(h:Gn o=true)(a:((backTo pos<|starEach es env).all λx=>!x.1)=true)(d:es.length<30)(c:(ap.endLine == pos.line)=true):∃pl ,eval (.Call (.Attribute o f ap) es [] pos) env=(do
   let ov <- eval o env
   standAt ap.atName
   let (f,first) <- holding [ov] (getMethod ov f pl)
   callWith pos f first (backTo pos<|starEach es env) (backToKw pos<|keywordEach [] env)):=by
 refine{do let b <- importBound o env;pure (b.getD true),?_}
 have e:methodCallForm (es.length+([]:List Keyword).length) (backTo pos<|starEach es env) (backToKw pos<|keywordEach [] env)=true:=by
  unfold methodCallForm;rw[a];show(true && true && decide (es.length+0+0<30))=true;rw[É<|by lia];rfl
 rw[arm_eval_Call,NQ h];unfold methodCall calleeOf methodCallPos;rw[e,c]
 rfl
structure GxOk(G:Gx)(lv:Nat)(P:Program)(w:World)(K:k6)(mg:Str->Option Value)(base:Heap)(ca:Str->Value):Prop where
 co:∀x t,G.co.lookup x=↑t->∃u v,mg x=↑u/\Ab v u/\∀F:Hp,Rp K F F t v R0
 cl:∀c∈G.cl,Cls K c.2.1/\∀f∈c.2.2,Cd K c.2.1 f
 mt:∀c∈G.mt,c.2.2.2.lv<=lv/\Nonempty (MetX P w K mg base c.2.1 c.1 c.2.2.2.lv c.2.2.2.ps<|Bc K ca c.2.2.2.g)
 nw:∀x F ds,G.nw.lookup x=↑(F,ds)->F.lv+1<=lv/\∃(C:Addr) (D:NewX P w K mg base x C F.lv F.ps<|Jd K ca C F.g),∀k dts,ds.lookup k=↑dts->∃dvs us,Ce K D.fd F.ps us/\Ac dvs us/\∀H:Hp,Ah K H dts dvs
 sf:∀C fs,G.sf=↑(C,fs)->Cls K C/\∀f∈fs,Cd K C f
 xs:∀W cs,G.xs.lookup W=↑cs->∃T:ECls K mg W,∀c C,cs.lookup c=↑C->ca c=.ref C/\PySem.W.subIn K (.ref C) (.ref T.C)=↑true
 sb:∀D tb,G.sb.lookup D=↑tb->∃A:Addr,mg D=↑(.ref A)/\∀C b,tb.lookup C=↑b->ExcK K C/\PySem.W.kitOne K (.ref C) (.ref A)=↑b
 sv:∀D tb,G.sv.lookup D=↑tb->mg D=none/\∃t,bootBuiltins D=↑(.type t)/\∀C b,tb.lookup C=↑b->ExcK K C/\PySem.W.kitOne K (.ref C) (.type t)=↑b
 ci:∀x tb,G.ci.lookup x=↑tb->∃D:Addr,mg x=↑(.ref D)/\(∀C b,tb.lookup C=↑b->ICls K C/\PySem.W.kitOne K (.ref C) (.ref D)=↑b)/\(Li.all λa=>PySem.W.kitOne K (.type a) (.ref D) == ↑false)=true
 x2:∀W1 W2 cs,(W1,W2,cs)∈G.x2->∃(T1:ECls K mg W1) (T2:ECls K mg W2),∀c C,cs.lookup c=↑C->ca c=.ref C/\PySem.W.subIn K (.ref C) (.ref T1.C)=↑false/\PySem.W.subIn K (.ref C) (.ref T2.C)=↑true
 wd:∀x F,G.wd.lookup x=↑F->F.lv<=lv/\∃p,F.ps=[p]/\Nonempty (DefS P w K mg base F.lv x p<|Bc K ca F.g)
 ti:∀C∈G.ti,TiOk K C
 dn:∀x y,G.dn.lookup x=↑y->y.1.lv<=lv/\∃(D:DefX P w K mg base y.1.lv x y.1.ps<|Bc K ca y.1.g) (dvs:kK),DefsX K D.fd y.1.ps dvs/\∀H:Hp,Ah K H y.2 dvs
 rn:True
structure CxOk(J:Gm)(X:Cx)(E:L2.St->XK)(ca:Str->Value):Prop where
 N:X.N=J.N
 nd:J.N.Nodup
 nm:X.env.scope.names=J.nm
 kd:X.env.scope.kind=.function
 calm:X.calm=true
 room:Room J.lv X.A
 ce:∀x∈J.ce,X.fn x=true/\J.nm.lookup x=↑.cell
 bl:∀b∈J.bl,X.mg b=none
 ps:DF X E
 po:J.ox.nr=false->PassesOwn (model X.prog X.w) X.A X.env X.xe
 md:J.ox.nr=false->VA X E
 mn:True
 fs:∀f F,J.fns.lookup f=↑F->F.lv<=J.lv/\Nonempty (DefX X.prog X.w X.K X.mg X.base F.lv f F.ps<|Bc X.K ca F.g)
 ex:∀c∈J.ex,∃T:ECls X.K X.mg c,ca c=.ref T.C/\DX X.K T.C=↑none
 ms:∀f F,J.mus.lookup f=↑F->F.lv<=J.lv/\Nonempty (DefX X.prog X.w X.K X.mg X.base F.lv f F.ps<|D0 X.K ca F.g)
 gx:GxOk J.ox J.lv X.prog X.w X.K X.mg X.base ca
 tr:J.ox.df=true->X.stack=X.env::X.outer/\X.env.frame=↑X.env.locals
 fr:Hy X
def Ip(h:EO N x=↑i):N[i]?=↑x:=by
 unfold EO at h;let(a,b,_):=ġ.mp h;rw[Â a];exact congrArg some<|eq_of_beq b
def EK(h:Cz x=true):(x == "__debug__")=false/\(x == "__classdict__")=false/\x≠"__name__":=by
 unfold Cz at h
 grind
def zgt(h:O6 sc.names x=true):Em sc x:=by
 unfold O6 at h;erw[Ē,Ę]at h
 rcases h with (h|h)|h
 .exact .inl h
 .exact .inr<|.inl h
 .exact .inr<|.inr h
def Cu(h:Dx e=true):starEach (e::es) env=(false,eval e env)::starEach es env:=by
 cases e<;>first|rfl|cases h
def GF:∀{es} {env} {pos},(∀e∈es,Dx e=true)->(backTo pos<|starEach es env).any (·.1)=false
 |[],env,pos,ϊ=>rfl|e::es,env,pos,h=>by
  rw[Cu<|h e (Í ..)];have b:=GF (env:=env) (pos:=pos) λx a=>h x<|Ê _ a
  show(false || (backTo pos<|starEach es env).any (·.1))=false
  grind
section
variable {J:Gm}{X:Cx}{E:L2.St->XK}{ca:Str->Value}
set_option tactic.hygienic true in
def CxOk.var(C:CxOk J X E ca){pos:Pos}(h:J.var x=↑i):X.N[i]?=↑x/\Em X.env.scope x/\(x == "__debug__")=false/\(x == "__classdict__")=false:=by
 unfold Gm.var at h;split at h
 .rename_i a;rw[È]at a;let(b,c,d):=EK a.1;exact{by rw[C.N];exact Ip h,zgt (by rw[C.nm];exact a.2),b,c}
 .cases h
def CxOk.gl(C:CxOk J X E ca)(h:CZ J.nm x=true):Gl X x:=by
 show X.env.scope.names.lookup x=↑.globalImplicit;rw[C.nm];exact eq_of_beq h
def CxOk.loc(C:CxOk J X E ca)(h:J.loc x=true)(a:EO J.N x=↑i):X.N[i]?=↑x/\HP X.env.scope x/\(X.fn x=true\/X.env.scope.names.lookup x=↑.local):=by
 unfold Gm.loc at h;erw[È,Ē,Ę]at h;refine{by rw[C.N];exact Ip a,?_}
 rcases h.2 with h|h
 .exact{.inl (by rw[C.nm];exact h),.inr (by rw[C.nm];exact h)}
 .let(c1,c2):=C.ce x<|î.mp h;exact{.inr (by rw[C.nm];exact c2),.inl c1}
def CxOk.nodup(C:CxOk J X E ca):X.N.Nodup:=by rw[C.N];exact C.nd
def aG(C:CxOk J X E ca)(b:J.loc x=true)(c:EO J.N x=↑i):PG X (.Name x pos)<|Ef X.K<|AD i:=by
 let(g1,g2,a):=C.loc b c;exact g_nm C.nodup g1 g2 a
set_option tactic.hygienic true in
def f7:∀{ys} {caps},Km N ys=↑caps->ys.length=caps.length/\∀(k j:Nat),caps[k]?=↑j->∃y,ys[k]?=↑y/\N[j]?=↑y
 |[],caps,h=>by cases h;exact{rfl,λk j e=>by simp at e}|y::r,caps,h=>by
  unfold Km at h;split at h
  .rename_i i c;split at h
   .rename_i l d;cases h;let(a,b):=f7 d;refine{by simp[a],λk j e=>?_}
    cases k with
    |zero=>simp at e;subst e;exact{y,rfl,Ip c}|succ k=>exact b k j<|by simpa using e
   .cases h
  .cases h
def zfw(h:y∈El nm):(y,NameKind.free)∈nm:=by
 unfold El at h
 grind
def gM(C:CxOk J X E ca)(h:Ks J scope (Ee tg++El scope.names)=true)(o:Km J.N (El scope.names)=↑caps):BlkOk X scope (Ee tg++El scope.names) (Ee tg).length caps:=by
 unfold Ks at h;erw[È]at h;let((((l,m),n),r),s):=h;let(l1,l2):=f7 o
 have free:∀y∈scope.names,y.2=.free->scope.names.lookup y.1=↑.free/\(J.nm.lookup y.1=↑.cell\/J.nm.lookup y.1=↑.free)/\(y.1,NameKind.cell)∉scope.names:=λy a c=>by
  have q:=ã.mp n y a;erw[c,ë,Bool.not_true,Bool.false_or,È,Ę,Ē,ŗ]at q;refine{q.1.1,q.1.2,λz=>?_}
  have:=î.mpr z;rw[this]at q;exact Bool.noConfusion q.2
 refine{eq_of_beq l,λy a p=>?_,by simp[l1],λk j e=>?_,λy a c=>?_}
 .have q:=ã.mp m y a;erw[p,ë,Bool.not_true,Bool.false_or,Ę]at q;exact q
 .let(y,d,f):=l2 k j e;have fm:=zfw<|ç d;let(b,_,i):=free _ fm rfl;refine{y,by rw[C.N];exact f,?_,b,i}
  rw[ģ<|by lia]
  simpa using d
 .let(b,g,_):=free y a c;refine{b,?_};rw[C.nm];exact g
def zh5(hk:env.scope.kind=.function):(relabel scope env).names=Jn scope.names env.scope.names:=by
 unfold relabel Jn;have e:(env.scope.kind == ScopeKind.function)=true:=by rw[hk];rfl
 erw[e,Ζ]
 rfl
theorem mn0:True:=trivial
def gP(C:CxOk J X E ca){a:Scope}{c:kE}(h:Ks J a c=true)(cl)(A:Addr)(s₀:Shared)(H₀:Hp)(ex:List Addr)(xb)(g:DF (Dn X a cl c A s₀ H₀ ex xb) E'):CxOk (J.blk a c) (Dn X a cl c A s₀ H₀ ex xb) E' ca:=by
 unfold Ks at h;erw[È]at h;let((((d,j),k),e),f):=h;refine{rfl,ì e,?_,?_,C.calm,C.room,λx i=>?_,C.bl,g,λz=>(by cases z),λz=>(by cases z),mn0,C.fs,C.ex,C.ms,{(C.gx.co),C.gx.cl,C.gx.mt,C.gx.nw,C.gx.sf,C.gx.xs,C.gx.sb,C.gx.sv,C.gx.ci,C.gx.x2,C.gx.wd,C.gx.ti,C.gx.dn,C.gx.rn},λz=>(by cases z),C.fr}
 .show(relabel a X.env).names=Jn a.names J.nm;rw[zh5 C.kd,C.nm]
 .exact eq_of_beq d
 .have b:x∈(UQ a.names).filter λy=>a.names.lookup y == ↑.cell:=i
  rw[Ŀ]at b;refine{É<|eq_of_beq b.2,?_};exact eq_of_beq<|ã.mp f x b.1
end
def T8(h:RP e=true)(x):foldedSetIterable e env x=pure x:=by
 cases e<;>first|rfl|cases h
theorem RG(h:Hj k=false):LP k:=λo i=>by
 cases k<;>first|rfl|cases h
def Dw{b:Bool}(h:(!b)=true):b=false:=by cases b<;>first|rfl|cases h
def gd{α:Type}:(b:Bool)->(b=true->Option α)->Option α
 |true,k=>k rfl|false,ϊ=>none
def oe{α β:Type}:(o:Option α)->((a:α)->o=↑a->β)->β->β
 |some a,k,ϊ=>k a rfl|none,ϊ,d=>d
abbrev ob{α β:Type}(o:Option α)(k:(a:α)->o=↑a->Option β):Option β:=oe o k none
structure ER(J:Gm)(e:Expr) where
 m:AI
 ok:∀{X:Cx} {E:L2.St->XK} {ca:Str->Value},CxOk J X E ca->PE X e (tM X.K E ca m)/\(GO e=true->PT X e (BM X.K E ca m))
structure AR(J:Gm)(es:kC) where
 m:Ay
 ok:∀{X:Cx} {E:L2.St->XK} {ca:Str->Value},CxOk J X E ca->PA X es (CU X.K E ca m)
 st:∀e∈es,Dx e=true
 nl:es=[]->m=AE
structure OR(J:Gm)(es:kC) where
 m:Ay
 ok:∀{X:Cx} {E:L2.St->XK} {ca:Str->Value},CxOk J X E ca->PA X es (J8 X.K E ca m)
structure BR(J:Gm)(op:BoolOp)(es:kC) where
 m:AI
 ok:∀{X:Cx} {E:L2.St->XK} {ca:Str->Value} {pos:Pos},CxOk J X E ca->PE X (.BoolOp op es pos) (tM X.K E ca m)/\PW X (.BoolOp op es pos) (BM X.K E ca m)
structure PR(J:Gm)(o:Option Expr) where
 m:Option (AI)
 ok:∀{X:Cx} {E:L2.St->XK} {ca:Str->Value},CxOk J X E ca->PO X o (HR X.K m)
structure LR(J:Gm)(elt tg iter:Expr)(ifs:kC)(scope:Scope) where
 m:AI
 ok:∀{X:Cx} {E:L2.St->XK} {ca:Str->Value},CxOk J X E ca->∃caps mi b mt me,m=BG (Ee tg).length caps mi b mt me/\BlkOk X scope (Ee tg++El scope.names) (Ee tg).length caps/\PI X tg iter (tI X.K E ca mi) /\
   (∀E',AC X scope (Ee tg++El scope.names) E' λτ=>PG τ tg (Ef X.K b)/\HN τ ifs (BM X.K E' ca mt)/\PE τ elt (tM X.K E' ca me))/\∀x,foldedSetIterable iter X.env x=pure x
structure IR(J:Gm)(tg e:Expr) where
 m:Ay
 ok:∀{X:Cx} {E:L2.St->XK} {ca:Str->Value},CxOk J X E ca->PI X tg e (tI X.K E ca m)
 ns:RP e=true
structure GR(J:Gm)(tg:Expr) where
 m:T->AN->Option AN
 ok:∀{X:Cx} {E:L2.St->XK} {ca:Str->Value},CxOk J X E ca->PG X tg (Ef X.K m)
structure GsR(J:Gm)(es:kC) where
 m:kL->AN->Option AN
 ok:∀{X:Cx} {E:L2.St->XK} {ca:Str->Value},CxOk J X E ca->EV X es (HW X.K m)/\(assignEach es X.env).length=es.length/\(assignEach es X.env).findIdx? (·.1)=none
structure SR(J:Gm)(s:Stmt) where
 m:AG
 ok:∀{X:Cx} {E:L2.St->XK} {ca:Str->Value},CxOk J X E ca->PS X s (tS X.K E ca J.mu m)
structure QR(J:Gm)(ss:kD) where
 m:AG
 ok:∀{X:Cx} {E:L2.St->XK} {ca:Str->Value},CxOk J X E ca->B8 X ss (tS X.K E ca J.mu m)
structure Dc where
 e:(J:Gm)->(e:Expr)->Option (ER J e)
 a:(J:Gm)->(es:kC)->Option (AR J es)
 o:(J:Gm)->(es:kC)->Option (OR J es)
 b:(J:Gm)->(op:BoolOp)->(es:kC)->Option (BR J op es)
 s:(J:Gm)->(s:Stmt)->Option (SR J s)
 q:(J:Gm)->(ss:kD)->Option (QR J ss)
theorem ER.t(r:ER J e)(h:GO e=true)(C:CxOk J X E ca):PT X e<|BM X.K E ca r.m:=(r.ok C).2 h
def O9:Expr->Prop
 |.UnaryOp ..=>False|.BoolOp ..=>False|.IfExp ..=>False|.Compare ..=>False|ϊ=>True
def zjh(h:O9 e)(whole):isTrue e env whole=(do let v <- whole;standAt e.pos;holding [v] (truthy v)):=by
 cases e<;>first|rfl|exact False.elim h
def vl{J:Gm}{e:Expr}(m:AI)(h:∀{X:Cx} {E:L2.St->XK} {ca:Str->Value},CxOk J X E ca->PE X e (tM X.K E ca m))(t:O9 e:=by trivial):Option<|ER J e:=↑{m,λC=>{h C,λϊ=>XU (h C)<|zjh t}}
structure OG(op:Operator) where
 g:T->T->kH
 ok:∀{X:Cx},Ag X (binaryOp op)<|Bg X.K g
def opF:(op:Operator)->Option (OG op)
 |.Add=>↑{(Aj),zl2}|.Sub=>↑{(EI),zkv}|.Mult=>↑{(B9),zkx}|.Mod=>↑{(Aq),zky}|.FloorDiv=>↑{(BX),zho}|.Pow=>↑{(DS),zkw}|.BitOr=>↑{(Kr),zl1}|.BitAnd=>↑{(Kt),zhp}|ϊ=>none
structure CG(op:CmpOp) where
 g:T->T->kH
 ok:∀{J:Gm} {X:Cx} {E:L2.St->XK} {ca:Str->Value},CxOk J X E ca->Ag X (compareOp op) (Bg X.K g)
def fY:(op:CmpOp)->Option (CG op)
 |.Eq=>↑{Au,λC=>Xl C.room.units}|.NotEq=>↑{CJ,λC=>zoy C.room.units}|.Lt=>↑{BP λi j=>decide (i<j),λϊ=>MX op_lt}|.LtE=>↑{BP λi j=>decide (i<=j),λϊ=>MX Xk}|.Gt=>↑{BP λi j=>decide (j<i),λϊ=>MX op_gt}|.GtE=>↑{BP λi j=>decide (j<=i),λϊ=>MX op_ge}|.Is=>↑{CM false,λϊ=>zoz}|.IsNot=>↑{CM true,λϊ=>zf5}|.In=>↑{ES,λC=>zp0 C.room.units}|.NotIn=>↑{Ha,λC=>zf4 C.room.units}
def fZ:(op:CmpOp)->Option (CG op)
 |.LtE=>↑{FH,λϊ=>zkz}|op=>fY op
def eCst(J:Gm)(c:Const)(k:Nat)(pos:Pos):Option<|ER J<|.Constant c k pos:=match c with
 |.int i=>vl (mC<|.int i) λϊ=>MO zon λϊ ϊ=>.int i|.bool b=>vl (mC<|.bl b) λϊ=>MO pe_bl λϊ ϊ=>.bl b|.none=>vl (mC .non) λϊ=>MO zok λϊ ϊ=>.non|.str x=>vl (mC<|.str x) λϊ=>MO zoh λϊ ϊ=>.str x|ϊ=>none
theorem CxOk.v(C:CxOk J X E ca)(h:J.var x=↑i):PE X (.Name x pos)<|tM X.K E ca<|AA i:=
 let ⟨h1,h2,h3,h4⟩:=C.var (pos:=pos) h
 r_var h1 h2 h3 h4
def eNam(J:Gm)(x:Str)(pos:Pos):Option<|ER J<|.Name x pos:=oe (J.var x) (λi b=>vl (AA i) λC=>C.v b) (gd (Cz x && CZ J.nm x) λa=>ob (J.ox.co.lookup x) λt c=>vl (mC t) λC=>by
 rw[È]at a;obtain⟨u,v,d,e,f⟩:=C.gx.co x t c;exact r_con (C.gl a.2) d e (EK a.1).1 f)
def fJ{J:Gm}{e:Expr}(t:O9 e)(a:Option<|ER J e)(b:Option<|ER J e):Option<|ER J e:=a.bind λa=>match b with
 |some b=>vl (DV a.m b.m) (λC=>RA (a.ok C).1 (b.ok C).1) t|none=>↑a
def UI{J:Gm}{o:Expr}{f:Str}{pos:Pos}(r:ER J o)(b:Gn o=true):(L:List<|Str×Addr×kE)->(∀c∈L,c∈J.ox.cl)->Option (ER J<|.Attribute o f pos)
 |[],ϊ=>none|c::L,a=>oe (c.2.2.findIdx? (· == f)) (λj d=>fJ trivial (vl (CK c.2.1 c.2.2 j r.m) λC=>by
   obtain⟨e,g⟩:=C.gx.cl _<|a _ (Í ..)
   have i:f∈c.2.2:=by
    obtain⟨k,l,_⟩:=ġ.mp d;rw[<- eq_of_beq l];exact Ò k
   exact r_fld e (g f i) d (r.ok C).1 (NQ b)) (UI r b L λc h=>a c<|Ê _ h))<|UI r b L λc h=>a c<|Ê _ h
def zle(r:ER J o)(a:AR J es)(s:Gn o=true)(p:(ap.endLine == pos.line)=true)(j:es.length<30)(m:(f,g)∈J.ox.mt)(l:g.2.1.contains f=false){X:Cx}   (C:CxOk J X E ca) :
  PE X (.Call (.Attribute o f ap) es [] pos) (tM X.K E ca<|ED g.1 g.2.1 g.2.2.g r.m a.m):=by
 obtain⟨k,⟨D⟩⟩:=C.gx.mt _ m;have y:=(r.ok C).1;have w:=a.ok C;have i:=a.st;have d:=a.nl;generalize a.m=ms at w d
 clear a
 let(V,A):=zf9 (f:=f) (ap:=ap) (pos:=pos) (es:=es) (env:=X.env) s (by
  have:=GF (env:=X.env) (pos:=pos) i;rw[ã];intro z U;rw[List.any_eq_false]at this
  simpa using this z U) j p
 cases es with
 |cons e es=>exact znx D l C.room C.ps y w k (Cu<|i e (Í ..)) (GF λx T=>i x<|Ê e T) A|nil=>
  refine PE.weak (pmx0 D C.room C.ps y k A) λO H Q h=>?_
  let(F,Y,R,S,q):=WD l h;refine{F,Y,R,S,?_};cases m:r.m Y with
  |none=>rw[m]at q;exact q|some r=>
   rw[m]at q;cases r with
   |x c=>exact q|v t b=>intro G I x B L g1;let(a,K,n,M,N,P,u):=q G I x B L g1;refine{a,K,n,M,N,P,?_};rw[d rfl]at u;exact HS u
def UH{J:Gm}{o:Expr}{f:Str}{ap pos:Pos}{es:kC}(r:ER J o)(a:AR J es)(e:Gn o=true)(d:(ap.endLine == pos.line)=true)(b:es.length<30):(L:List<|Str×Addr×kE×Fn)->(∀c∈L,c∈J.ox.mt)->Option (ER J<|.Call (.Attribute o f ap) es [] pos)
 |[],ϊ=>none|c::L,i=>if h:c.1=f/\c.2.2.1.contains f=false then fJ trivial (vl (ED c.2.1 c.2.2.1 c.2.2.2.g r.m a.m) λC=>zle r a e d b (g:=c.2) (h.1▸i c (Í ..)) h.2 C) (UH r a e d b L λc h=>i c<|Ê _ h) else UH r a e d b L λc h=>i c<|Ê _ h
def eAtt(D:Dc)(J:Gm)(o:Expr)(f:Str)(ap:Pos)(es:kC)(ks:List Keyword)(c:Pos):Option<|ER J<|.Call (.Attribute o f ap) es ks c:=match ks with
 |[]=>gd (Gn o && (ap.endLine == c.line) && decide (es.length<30)) λb=>(D.e J o).bind λr=>(D.a J es).bind λa=>
  have b:(Gn o=true/\(ap.endLine == c.line)=true)/\es.length<30:=by
   rw[È,È,ê]at b;exact b
  if d:f="index" then (match es,a with
   |[k],a=>(D.e J k).bind λmk=>vl (Hf r.m mk.m) λC=>by
    subst d;exact zk5 (r.ok C).1 (mk.ok C).1 (NQ b.1.1) (Cu (es:=[])<|a.st k (Í ..)) b.1.2
   |ϊ,ϋ=>none) else
  if d:f="join" then (match es,a with
   |[k],a=>(D.e J k).bind λmk=>vl (KH r.m mk.m) λC=>by
    subst d;exact znz (r.ok C).1 (mk.ok C).1 (NQ b.1.1) (Cu (es:=[])<|a.st k (Í ..)) b.1.2
   |ϊ,ϋ=>none) else
  UH r a b.1.1 b.1.2 b.2 J.ox.mt λϊ h=>h
 |ϊ=>none
def cmpB(a:CmpOp)(b:Expr):Option<|CG a:=
 match a,b with
 |.Eq,.List [] ϊ=>↑{GZ,λC=>zl0 C.room.units}|a,ϊ=>
 fY a
def eCmp(D:Dc)(J:Gm)(a:Expr)(j:List CmpOp)(bs:kC)(pos:Pos):Option<|ER J<|.Compare a j bs pos:=match j,bs with
 |[h],[b]=>gd (!(behindInMarks h b)) λd=>(cmpB h b).bind λg=>(D.e J a).bind λe=>(D.e J b).bind λf=>↑{BV (g2 g.g)<|AB e.m<|AB f.m AE,λC=>
  have d:=Dw d
  {r_cmp (g.ok C) (e.ok C).1 (f.ok C).1 d,λϊ=>znu (g.ok C) (e.ok C).1 (f.ok C).1 d}}
 |[h,i],[b,c]=>gd (!(lastMarks [h,i] [b,c])) λd=>(fZ h).bind λg=>(fZ i).bind λk=>(D.e J a).bind λe=>(D.e J b).bind λf=>(D.e J c).bind λl=>↑{F9 g.g k.g e.m f.m l.m,λC=>
  have d:=Dw d
  {r_chn (g.ok C) (k.ok C) (e.ok C).1 (f.ok C).1 (l.ok C).1 d,λϊ=>znv (g.ok C) (k.ok C) (e.ok C).1 (f.ok C).1 (l.ok C).1 d}}
 |ϊ,ϋ=>none
def eUn(D:Dc)(J:Gm)(c:UnaryOp)(a:Expr)(pos:Pos):Option<|ER J<|.UnaryOp c a pos:=match c with
 |.USub=>(D.e J a).bind λr=>↑{BV (g1 E1)<|AB r.m AE,λC=>
  have b:=r_un (pos:=pos) zjg (r.ok C).1
  {b,λϊ=>XU b λϊ=>rfl}}
 |.Not=>gd (GO a) λh=>(D.e J a).bind λr=>↑{As r.m,λC=>{r_not (r.ok C).1,λϊ=>znt<|r.t h C}}|ϊ=>none
def dP(D:Dc)(J:Gm):(o:Option Expr)->Option (PR J o)
 |none=>↑{none,λϊ=>r_po0}|some e=>(D.e J e).bind λr=>↑{↑r.m,λC=>r_po1 (r.ok C).1}
def eIx(D:Dc)(J:Gm)(a k:Expr)(pos:Pos):Option<|ER J<|.Subscript a k pos:=gd (!(Hj k)) λc=>(D.e J a).bind λr=>(D.e J k).bind λb=>
 if bM a || gtN J a then vl (KI r.m b.m) λC=>r_gt (by have:=C.room.units;lia) (r.ok C).1 (b.ok C).1 (RG<|Dw c) else
 vl (AH r.m b.m) λC=>r_ix (r.ok C).1 (b.ok C).1 (RG<|Dw c)
def eSub(D:Dc)(J:Gm)(a k:Expr)(pos:Pos):Option<|ER J<|.Subscript a k pos:=match k with
 |.Slice d c st p=>(match st with
  |none=>(D.e J a).bind λr=>(dP D J d).bind λrl=>(dP D J c).bind λb=>if J.ox.tx then vl (DV (FD r.m rl.m b.m)<|F7 r.m rl.m b.m) λC=>RA (XW (r.ok C).1 (rl.ok C) (b.ok C)) (zh9 (r.ok C).1 (rl.ok C) (b.ok C)) else vl (FD r.m rl.m b.m) λC=>XW (r.ok C).1 (rl.ok C) (b.ok C)
  |ϊ=>none
  )
 |k=>eIx D J a k pos
def IM(h:Dx e=true):starEach [e] env=[(false,eval e env)]:=Cu h
section
variable {J:Gm}{f:Str}{p:Pos}{e:Expr}{es:kC}{pos:Pos}{X:Cx}{E:L2.St->XK}{ca:Str->Value}
theorem bF(a:AR J<|e::es)(b:Cz f=true)(h:CZ J.nm f=true)(c:J.bl.contains f=true)(C:CxOk J X E ca){id}(d:Bs X (.builtin id)<|DR X.K g)(i:bootBuiltins f=↑(.builtin id)):PE X (.Call (.Name f p) (e::es) [] pos)<|tM X.K E ca<|BV g a.m:=
 zo3 d (C.gl h) (C.bl f<|î.mp c) i (a.ok C) (EK b).2.2 (EK b).1 (Cu<|a.st e (Í ..)) (GF λx j=>a.st x<|Ê e j)
theorem gX(a:AR J<|e::es)(b:Cz f=true)(h:CZ J.nm f=true)(c:J.bl.contains f=true)(C:CxOk J X E ca){id}(d:Bs X (.type id)<|DR X.K g)(i:bootBuiltins f=↑(.type id)):PE X (.Call (.Name f p) (e::es) [] pos)<|tM X.K E ca<|BV g a.m:=
 X1 d (C.gl h) (C.bl f<|î.mp c) i (a.ok C) (EK b).2.2 (EK b).1 (Cu<|a.st e (Í ..)) (GF λx j=>a.st x<|Ê e j)
def NH(a:AR J<|e::es)(g:Cz f=true)(d:CZ J.nm f=true)(c:J.bl.contains f=true):Option<|ER J<|.Call (.Name f p) (e::es) [] pos:=
 if b:f="len" then vl (BV (g1 BC) a.m) λC=>by subst b;exact bF a g d c C zgh PySem.boot_len else
 if b:f="list" then vl (BV (g1 C1) a.m) λC=>by subst b;exact gX a g d c C gE ĵ else
 if b:f="abs" then vl (BV (g1 JE) a.m) λC=>by subst b;exact bF a g d c C zgm PyProof.Rows.boot_abs else
 if b:f="int" then vl (BV (g1 K2) a.m) λC=>by subst b;exact gX a g d c C zgj PyProof.Rows.boot_int else
 if b:f="min" then vl (BV (g2 Jz) a.m) λC=>by subst b;exact bF a g d c C (zgf C.calm) PyProof.Rows.boot_min else
 if b:f="max" then vl (BV Hm a.m) λC=>by subst b;exact bF a g d c C (zj3 C.calm) PyProof.Rows.boot_max else
 if b:f="all" then vl (BV (g1 Fz) a.m) λC=>by subst b;exact bF a g d c C (zgl C.calm) PyProof.Rows.boot_all else
 if b:f="any" then vl (BV (g1 Ku) a.m) λC=>by subst b;exact bF a g d c C (zgk C.calm) PyProof.Rows.boot_any else
 none
end
structure TyR(c:Str) where
 t:String
 ok:bootBuiltins c=↑(.type t)
def tyF(c:Str):Option<|TyR c:=
 if h:c="int" then ↑{"int",by subst h;exact PyProof.Rows.boot_int} else if h:c="bool" then ↑{"bool",by subst h;exact PyProof.Rows.boot_bool} else if h:c="str" then ↑{"str",by subst h;exact PyProof.Rows.boot_str} else
 if h:c="list" then ↑{"list",by subst h;exact ĵ} else if h:c="tuple" then ↑{"tuple",by subst h;exact PyProof.Rows.boot_tuple} else none
def eIs(D:Dc)(J:Gm)(p:Pos)(e:Expr)(es:kC)(pos:Pos)(d:CZ J.nm "isinstance"=true)(b:J.bl.contains "isinstance"=true):Option<|ER J<|.Call (.Name "isinstance" p) (e::es) [] pos:=match es with
 |[.Name c k]=>gd (CZ J.nm c && Cz c && Dx e) λa=>(D.e J e).bind λr=>
  have a:(CZ J.nm c=true/\Cz c=true)/\Dx e=true:=by
   rw[È,È]at a;exact a
  if g:J.bl.contains c=true then (tyF c).bind λt=>vl (BV (g1<|Bm t.t)<|AB r.m AE) λC=>
   r_isT t.ok (C.gl d) (C.bl _<|î.mp b) (C.gl a.1.1) (C.bl _<|î.mp g) (EK a.1.2).2.2 (EK a.1.2).1 (r.ok C).1 (Cu a.2)
  else ob (J.ox.ci.lookup c) λf h=>vl (BV (g1<|K1 f)<|AB r.m AE) λC=>by
   obtain⟨_,i,j⟩:=C.gx.ci c f h;exact r_isC j (C.gl d) (C.bl _<|î.mp b) (C.gl a.1.1) i (EK a.1.2).1 (r.ok C).1 (Cu a.2)
 |ϊ=>none
def eSet(D:Dc)(J:Gm)(p:Pos)(e:Expr)(pos:Pos)(d:CZ J.nm "len"=true)(c:J.bl.contains "len"=true):Option<|ER J<|.Call (.Name "len" p) [e] [] pos:=match e with
 |.Call (.Name x f) [a] [] g=>if h:x="set" then gd (CZ J.nm "set" && J.bl.contains "set" && Dx a) λb=>(D.e J a).bind λr=>vl (BV (g1 J5)<|AB r.m AE) λC=>by
   rw[È,È]at b;subst h;exact r_unq C.calm (C.gl d) (C.bl _<|î.mp c) (C.gl b.1.1) (C.bl _<|î.mp b.1.2) (r.ok C).1 (IM b.2)
  else none
 |ϊ=>none
def eKys(D:Dc)(J:Gm)(p:Pos)(e:Expr)(pos:Pos)(f:Cz "list"=true)(d:CZ J.nm "list"=true)(g:J.bl.contains "list"=true):Option<|ER J<|.Call (.Name "list" p) [e] [] pos:=if h:bM e=true then (D.e J e).bind λr=>vl (DV (BV (g1 C1)<|AB r.m AE)<|Gu r.m) λC=>by
  have c:Dx e=true:=by cases e<;>first|rfl|cases h
  have a:=λenv=>IM (env:=env) c
  have b:=î.mp g;exact RA (X1 gE (C.gl d) (C.bl _ b) ĵ (X0 (r.ok C).1 XX (a _)) (EK f).2.2 (EK f).1 (a _) rfl)<|r_kys C.calm (C.gl d) (C.bl _ b) (r.ok C).1 (a _)
 else none
def eLz(D:Dc)(J:Gm)(p:Pos)(e:Expr)(pos:Pos)(k:CZ J.nm "list"=true)(i:J.bl.contains "list"=true):Option<|ER J<|.Call (.Name "list" p) [e] [] pos:=match e with
 |.Call (.Name f l) [a,b] [] d=>if j:f="zip" then gd (CZ J.nm "zip" && J.bl.contains "zip") λh=>gd (Dx a && Dx b) λc=>(D.e J a).bind λr=>(D.e J b).bind λg=>vl (KG r.m g.m) λC=>by
   subst j;rw[È]at h c;exact r_lz C.calm (C.gl k) (C.bl _<|î.mp i) (C.gl h.1) (C.bl _<|î.mp h.2) (r.ok C).1 (g.ok C).1 (Cu c.1) (IM c.2) else none
 |ϊ=>none
def eFn1(J:Gm)(f:Str)(p:Pos)(e:Expr)(es:kC)(pos:Pos)(a:AR J<|e::es)(g:Cz f=true)(c:CZ J.nm f=true):Option<|ER J<|.Call (.Name f p) (e::es) [] pos:=
 ob (J.fns.lookup f) λF b=>vl (AM F.g a.m) λC=>by
  obtain⟨d,⟨D⟩⟩:=C.fs f F b;exact zo2 D C.room C.ps (a.ok C) d (C.gl c) (EK g).1 (Cu<|a.st e (Í ..)) (GF λx h=>a.st x<|Ê e h)
def eFn(J:Gm)(f:Str)(p:Pos)(e:Expr)(es:kC)(pos:Pos)(a:AR J<|e::es)(d:Cz f=true)(c:CZ J.nm f=true):Option<|ER J<|.Call (.Name f p) (e::es) [] pos:=
 oe (J.ox.nw.lookup f) (λF i=>ob (F.2.lookup (e::es).length) λb hd=>vl (Ih F.1.g b a.m) λC=>by
   obtain⟨j,o,D,h⟩:=C.gx.nw f F.1 F.2 i;obtain⟨g,q,l,m,n⟩:=h _ _ hd;exact r_new D l m n C.room C.ps (a.ok C) j (C.gl c) (EK d).1 (Cu<|a.st e (Í ..)) (GF λx k=>a.st x<|Ê e k)) <|
 eFn1 J f p e es pos a d c
def eCal(D:Dc)(J:Gm)(f:Str)(p:Pos)(es:kC)(ks:List Keyword)(pos:Pos):Option<|ER J<|.Call (.Name f p) es ks pos:=match es,ks with
 |e::es,[]=>gd (Cz f && CZ J.nm f) λb=>
  have b:Cz f=true/\CZ J.nm f=true:=by
   rw[È]at b;exact b
  if c:J.bl.contains f=true then
   (if d : f = "isinstance" then (match f, d, b, c with
    |_,rfl,b,c=>eIs D J p e es pos b.2 c) else
   match es with
   |[]=>
    (if d : f = "len" then (match f, d, b, c with
     |_,rfl,b,c=>(eSet D J p e pos b.2 c).orElse λϊ=>(D.a J [e]).bind λa=>NH a b.1 b.2 c) else
    if d:f="list" then (match f,d,b,c with
     |_,rfl,b,c=>
      (eLz D J p e pos b.2 c).orElse λϊ=>
      (eKys D J p e pos b.1 b.2 c).orElse λϊ=>(D.a J [e]).bind λa=>NH a b.1 b.2 c) else
    (D.a J [e]).bind λa=>NH a b.1 b.2 c)
   |ϊ=>(D.a J _).bind λa=>NH a b.1 b.2 c)
  else (D.a J<|e::es).bind λa=>eFn J f p e es pos a b.1 b.2
 |ϊ,ϋ=>none
def fU(J:Gm):(es:kC)->Option (GsR J es)
 |[]=>↑{Ao,λϊ=>{(g_nil),rfl,rfl}}|e::es=>(match e with
  |.Name x p=>gd (J.loc x) λb=>ob (EO J.N x) λi a=>(fU J es).bind λr=>↑{AL (AD i) r.m,λ{X} {E} {ca} C=>by
   obtain⟨c,d,f⟩:=r.ok C;refine{zq2 (aG C b a) c rfl,?_,?_}
   .show(assignEach es X.env).length+1=es.length+1;rw[d]
   .show List.findIdx? (·.1) ((false,assign (.Name x p) X.env)::assignEach es X.env)=none
    rw[Δ,f]
    rfl}
  |ϊ=>none)
def dG(J:Gm):(tg:Expr)->Option (GR J tg)
 |.Name x ϊ=>gd (J.loc x) λc=>ob (EO J.N x) λi b=>↑{AD i,λC=>aG C c b}|.Tuple a ϊ ϋ=>(fU J a).bind λr=>↑{An a.length r.m,λC=>g_tup C.calm (r.ok C).1 (r.ok C).2.1 (r.ok C).2.2}|ϊ=>none
def iV(D:Dc)(J:Gm)(a e:Expr):Option<|IR J a e:=gd (RP e) λh=>(D.e J e).bind λr=>if J.ox.tx then ↑{Ax r.m,λC=>zo0 (r.ok C).1,h} else ↑{Iu r.m,λC=>XY (r.ok C).1,h}
def Fv(C:CxOk J X E ca)(h:(CZ J.nm f && J.bl.contains f)=true):Gl X f/\X.mg f=none:=by
 rw[È]at h;exact{C.gl h.1,C.bl f<|î.mp h.2}
def iRg(D:Dc)(J:Gm)(b a:Expr)(p c:Pos):Option<|IR J b<|.Call (.Name "range" p) [a] [] c:=gd (CZ J.nm "range" && J.bl.contains "range") λh=>(D.a J [a]).bind λr=>↑{CN r.m,λC=>zha (Fv C h).1 (Fv C h).2 (r.ok C) (Cu<|r.st a (Í ..)),rfl}
def iEn(D:Dc)(J:Gm)(b a:Expr)(p c:Pos):Option<|IR J b<|.Call (.Name "enumerate" p) [a] [] c:=match b with
 |.Tuple ..=>gd (CZ J.nm "enumerate" && J.bl.contains "enumerate") λh=>(D.a J [a]).bind λr=>if J.ox.tx then ↑{bV r.m,λC=>r_enX (Fv C h).1 (Fv C h).2 (r.ok C) (Cu<|r.st a (Í ..)),rfl} else
  ↑{E7 r.m,λC=>XZ (Fv C h).1 (Fv C h).2 (r.ok C) (Cu<|r.st a (Í ..)),rfl}
 |ϊ=>none
def iZp(D:Dc)(J:Gm)(e a b:Expr)(p c:Pos):Option<|IR J e<|.Call (.Name "zip" p) [a,b] [] c:=match e with
 |.Tuple ..=>gd (CZ J.nm "zip" && J.bl.contains "zip") λh=>(D.a J [a,b]).bind λr=>↑{HB r.m,λC=>
   have d:=λenv=>IM (env:=env) (r.st b<|Ê _ (Í ..))
   r_zip (Fv C h).1 (Fv C h).2 (r.ok C) (by rw[Cu<|r.st a (Í ..),d]) (d _),rfl}
 |ϊ=>none
def iE1(D:Dc)(J:Gm)(b a:Expr)(p c:Pos)(k:Keyword):Option<|IR J b<|.Call (.Name "enumerate" p) [a] [k] c:=match b,k with
 |.Tuple ..,{↑y,.Constant (.int i) e f,kp}=>if d:y="start"/\i=1 then gd (CZ J.nm "enumerate" && J.bl.contains "enumerate") λh=>(D.a J [a]).bind λr=>↑{HD r.m,λC=>by
   obtain⟨rfl,rfl⟩:=d;exact r_en1 (Fv C h).1 (Fv C h).2 (r.ok C) (Cu<|r.st a (Í ..)),rfl} else none
 |ϊ,ϋ=>none
def dI(D:Dc)(J:Gm)(d e:Expr):Option<|IR J d e:=match e with
 |.Call (.Name f p) g i c=>(match g,i with
  |[a],[]=>if h:f="range" then (match f,h with|_,rfl=>iRg D J d a p c) else
   if h:f="enumerate" then (match f,h with|_,rfl=>iEn D J d a p c) else
   iV D J d _
  |[a,b],[]=>
   if h:f="zip" then (match f,h with|_,rfl=>iZp D J d a b p c) else
   iV D J d _
  |[a],[k]=>if h:f="enumerate" then (match f,h with|_,rfl=>iE1 D J d a p c k) else none
  |ϊ,ϋ=>iV D J d _)
 |e=>iV D J d e
def dC(D:Dc)(J:Gm)(k d e:Expr)(l:kC)(a:Scope):Option<|LR J k d e l a:=
 gd (Ks J a<|Ee d++El a.names) λm=>ob (Km J.N<|El a.names) λb p=>(dI D J d e).bind λf=>(dG (J.blk a<|Ee d++El a.names) d).bind λj=>(D.e (J.blk a<|Ee d++El a.names) k).bind λi=>match l with
  |[]=>↑{BG (Ee d).length b f.m j.m (mC<|.bl true) i.m,λ{X} {E} {ca} C=>{b,f.m,j.m,_,i.m,rfl,gM C m p,f.ok C,λh cl A s₀ H₀ ex o n=>
    have g:=gP C m cl A s₀ H₀ ex o (E':=h) n
    {j.ok g,λr s O H Q I q=>zkc r s O H Q I<|Oh (K:=X.K) (E:=h) (ca:=ca) q,(i.ok g).1},T8 f.ns}}
  |[c]=>gd (GO c) λhk=>(D.e (J.blk a<|Ee d++El a.names) c).bind λrt=>↑{BG (Ee d).length b f.m j.m rt.m i.m,λ{X} {E} {ca} C=>{b,f.m,j.m,rt.m,i.m,rfl,gM C m p,f.ok C,λh cl A s₀ H₀ ex o n=>
    have g:=gP C m cl A s₀ H₀ ex o (E':=h) n
    {j.ok g,zkb<|rt.t hk g,(i.ok g).1},T8 f.ns}}
  |ϊ=>none
def eLC(D:Dc)(J:Gm)(d:Expr)(c:List Comprehension)(a:Scope)(pos:Pos):Option<|ER J<|.ListComp d c a pos:=match c with
 |[{l,e,f,0}]=>(dC D J d l e f a).bind λr=>vl r.m λC=>by
  obtain⟨g,m,b,mt,me,h,B,j,i,k⟩:=r.ok C;rw[h];exact r_lcV B (cq:=λX=>X.calm=true) (λϊ ϊ ϊ ϊ ϊ ϊ ϊ ϊ ϊ=>C.calm) (Xd j) C.ps C.fr i k
 |ϊ=>none
def eIf(D:Dc)(J:Gm)(c a b:Expr)(pos:Pos):Option<|ER J<|.IfExp c a b pos:=gd (GO c) λh=>(D.e J c).bind λf=>(D.e J a).bind λd=>(D.e J b).bind λe=>↑{EN f.m d.m e.m,λC=>{r_ife (f.t h C) (d.ok C).1 (e.ok C).1,λz=>by cases z}}
def dEs(D:Dc)(J:Gm):(e:Expr)->Option (ER J e)
 |.Constant c k d=>eCst J c k d|.Name x d=>eNam J x d|.Attribute o f d=>gd (Gn o) λh=>(D.e J o).bind λr=>UI r h J.ox.cl λϊ h=>h|.Call f j s c=>(match f with
  |.Attribute o f v=>eAtt D J o f v j s c|.Name f p=>eCal D J f p j s c|ϊ=>none)
 |.Compare a q bs d=>eCmp D J a q bs d|.BinOp a m b d=>(opF m).bind λg=>(D.e J a).bind λt=>(D.e J b).bind λu=>vl (BV (g2 g.g)<|AB t.m<|AB u.m AE) λC=>r_bin g.ok (t.ok C).1 (u.ok C).1|.UnaryOp m a d=>eUn D J m a d|.BoolOp m w d=>(D.b J m w).bind λr=>↑{r.m,λC=>{(r.ok C).1,λϊ=>(r.ok C).2.pt}}|.IfExp c a b d=>eIf D J c a b d|.List j d=>(D.o J j).bind λr=>vl (BJ r.m) λC=>r_lst (r.ok C)|.Tuple j k d=>(D.a J j).bind λr=>vl (BN r.m) λC=>r_tup (r.ok C)|.Subscript a k d=>eSub D J a k d|.ListComp n l i d=>eLC D J n l i d|ϊ=>none
def dAs(D:Dc)(J:Gm):(es:kC)->Option (AR J es)
 |[]=>↑{AE,λϊ=>XX,λϊ h=>(by cases h),λϊ=>rfl}|e::es=>gd (Dx e) λh=>(D.e J e).bind λr=>(D.a J es).bind λa=>↑{AB r.m a.m,λC=>X0 (r.ok C).1 (a.ok C) (Cu h),λx b=>(Ì.mp b).elim (λz=>z▸h) (a.st x),λz=>by cases z}
def dOs(D:Dc)(J:Gm):(es:kC)->Option (OR J es)
 |[]=>↑{AE,λϊ=>znw}|e::es=>gd (Dx e) λh=>(D.e J e).bind λr=>(D.o J es).bind λa=>↑{Am r.m a.m,λC=>zk6 (r.ok C).1 (a.ok C) (Cu h)}
def dBs(D:Dc)(J:Gm)(d:BoolOp):(es:kC)->Option (BR J d es)
 |[]=>none|[a]=>gd (GO a) λh=>(D.e J a).bind λr=>↑{r.m,λC=>{r_one (r.ok C).1,by
   cases d with
   |And=>exact zk4 (r.t h C)|Or=>exact zk3<|r.t h C}}
 |a::b::es=>gd (GO a) λh=>(D.e J a).bind λr=>(D.b J d<|b::es).bind λc=>match d,c with
  |.And,c=>↑{Bx r.m c.m,λC=>{r_and (r.ok C).1 (c.ok C).1,zns (r.t h C) (c.ok C).2}}|.Or,c=>↑{BE r.m c.m,λC=>{r_or (r.ok C).1 (c.ok C).1,r_wor (r.t h C) (c.ok C).2}}
def pkB:kE:=["len","isinstance","all","any","abs","min","max","int"]
def isLC:Expr->Bool
 |.ListComp ..=>true|ϊ=>false
def Bk:Nat->kE->Expr->kE
 |0,ϊ,ϋ=>[]|n+1,pk,e=>
  let g:=λ(x:Expr)=>match x with
   |.Name ϊ ϋ=>[]|x=>Bk n pk x
  match e with
  |.Name x ϊ=>[x]|.BinOp a ϊ b ϋ=>Bk n pk a++Bk n pk b|.UnaryOp ϊ a ϋ=>Bk n pk a|.BoolOp ϊ o ϋ=>o.flatMap (Bk n pk)|.Compare a ϊ bs ϋ=>g a++bs.flatMap g|.IfExp c a b ϊ=>Bk n pk c++Bk n pk a++Bk n pk b|.Call (.Name f ϊ) d [] ϋ=>if pkB.contains f || pk.contains f then d.flatMap g else d.flatMap (Bk n pk)
  |.Call (.Attribute ϊ ϋ ό) d [] ύ=>d.flatMap λa=>if isLC a then Bk n pk a else []
  |.Subscript a k ϊ=>(match k with
   |.Slice m l ϊ ϋ=>Bk n pk a++(match m with|some e=>Bk n pk e|none=>[])++(match l with|some e=>Bk n pk e|none=>[])
   |ϊ=>g a++Bk n pk k)
  |.List j ϊ=>j.flatMap (Bk n pk)|.Tuple j ϊ ϋ=>j.flatMap (Bk n pk)|.ListComp _ [{_,i,_,_}] h _=>Bk n pk i++El h.names|ϊ=>[]
def Vc(pk:kE):Stmt->kE
 |.Expr (.Call (.Attribute (.Name ϊ ϋ) ό ύ) [e] [] ώ) Ϗ=>Bk 40 pk e|.Expr e ϊ=>Bk 40 pk e|.Return (↑(.Name ϊ ϋ)) ό=>[]|.Return ↑e ϊ=>Bk 40 pk e|.Assign [.Subscript (.Subscript ϊ k ϋ) j ό] e ύ=>Bk 40 pk k++Bk 40 pk j++Bk 40 pk e|.Assign [.Subscript ϊ k ϋ] e ό=>Bk 40 pk k++Bk 40 pk e|.Assign [ϊ] e ϋ=>Bk 40 pk e|.If c ϊ ϋ ό=>Bk 40 pk c|.For ϊ it ϋ ό ύ=>Bk 40 pk it|.While c ϊ ϋ ό=>Bk 40 pk c|ϊ=>[]
def bK:Stmt->Bool
 |.If ..=>true|ϊ=>false
def isAsg:Stmt->Bool
 |.Assign [.Name ..] ..=>true|.Expr (.Call (.Attribute (.Name ..) f ϊ) [ϋ] [] ό) ύ=>f == "extend"|ϊ=>false
def mvN:Stmt->Option Str
 |.Assign [.Name ..] (.List [ϊ,ϋ,.Name y ό] ύ) ώ=>↑y|ϊ=>none
def frzs(J:Gm)(s:Stmt):kG:=((if bK s then J.ox.gt++Vc J.pk s else Vc J.pk s).filter λx=>J.ow.contains x && !((isAsg s || bK s) && (J.mv.contains x || (J.ox.fo.contains x && mvN s == ↑x)))).eraseDups.filterMap (EO J.N)
def subN:Expr->kE
 |.Call ϊ a ϋ ό=>a.filterMap fun
  |.Subscript (.Name x ϊ) ϋ ό=>↑x|ϊ=>none
 |ϊ=>[]
def KR(J:Gm)(e:Expr):kG:=((Bk 40 J.pk e++subN e).filter λx=>J.ow.contains x && J.mv.contains x).eraseDups.filterMap (EO J.N)
def Ii(l:kG)(m:AI):AI:=l.foldr E5 m
def MN{X:Cx}{E:L2.St->XK}{ca:Str->Value}{m:AI}{e:Expr}(a:PE X e<|tM X.K E ca m):∀l,PE X e<|tM X.K E ca<|Ii l m
 |[]=>a|i::r=>zny<|MN a r
def Wl{X:Cx}{E:L2.St->XK}{ca:Str->Value}{m:AI}{st:Stmt}{j:Nat}(a:PS X st<|Gc (tM X.K E ca m)<|GY j):∀l,PS X st<|Gc (tM X.K E ca<|Ii l m)<|GY j
 |[]=>a|i::r=>zng<|Wl a r
def T7(l:kG)(m:AG):AG:=l.foldr (λi m=>AF (Eg i) m) m
def Lo(J:Gm)(x:Str)(px:Pos):Expr->Bool
 |.ListComp ϊ ϋ a p=>J.nm.lookup x == ↑.local && px.line == p.line && !(a.names.any λ(n,k)=>n == x && (k == .local || k == .cell))|ϊ=>false
def WQ(J:Gm)(x:Str):Bool:=J.nm.lookup x == ↑.cell
def IP(J:Gm)(x:Str)(i:Nat)(m:AI):AG:=if J.ow.contains x then Ca i m else AO m (AD i)
def Cg(c:Str)(ms:Ay):AG:=λY=>match ms Y with
 |some (.v a ϊ)=>if a.length<=BW then ↑(.xc c Y) else none
 |some (.x c)=>↑(.xc c Y)|none=>none
def MU(J:Gm)(x y:Str)(px c:Pos)(a b:Expr):Bool:=
 J.nm.lookup x == ↑.local && J.nm.lookup y == ↑.local && px.line == c.line && !(x == y) && Dx a && Dx b && !(foldedForSure 8 a && foldedForSure 8 b) && !(constantsAlone 8 a && constantsAlone 8 b) && Cz x && Cz y
section
variable {X:Cx}{E:L2.St->XK}{ca:Str->Value}{J:Gm}{mu:Bool}
def Ph{rest}(h:B8 X rest<|tS X.K E ca mu w):∀l ,B8 X rest<|tS X.K E ca mu<|T7 l w
 |[]=>h|i::r=>s_frz<|Ph h r
def Ol(h:HA e=false):swapsWith e t l env=pure false:=by
 cases e<;>first|rfl|cases h
def gL{env:Env}(h:env.scope.kind=.function):env.blockKind=.function:=by
 unfold Env.blockKind;rw[h]
 rfl
def zgw(C:CxOk J X E ca){p px:Pos}{x:Str}{l:Nat}(h:Lo J x px (.ListComp elt gens scope p)=true):swapsWith (.ListComp elt gens scope p) (↑(.Name x px)) l X.env=pure true:=by
 have e:swapsWith (.ListComp elt gens scope p) (↑(.Name x px)) l X.env=pure (X.env.blockKind == .function && X.env.kindOf x == ↑.local && px.line == p.line && !(scope.names.any λ(n,k)=>n == x && (k == .local || k == .cell))):=rfl
 rw[e];unfold Lo at h
 erw[È]at h;have k:X.env.kindOf x=↑.local:=by
  show X.env.scope.names.lookup x=↑.local;rw[C.nm];exact eq_of_beq h.1.1
 rw[gL C.kd,k,h.1.2,h.2]
 rfl
def zjl(C:CxOk J X E ca){px}(h:WQ J x=true):swapsWith e (↑(.Name x px)) l X.env=pure false:=by
 have k:X.env.kindOf x=↑.cell:=by
  show X.env.scope.names.lookup x=↑.cell;rw[C.nm];exact eq_of_beq h
 have c:(↑NameKind.cell == ↑NameKind.local)=false:=rfl;cases e<;>first|rfl|(unfold swapsWith;erw[k,c,Bool.and_false,ż])
def zdx(C:CxOk J X E ca){px py pt p2}(h:MU J x y px py a b=true):swappedStores [.Tuple [.Name x px,.Name y py] kt pt] (.Tuple [a,b] k2 p2) X.env=pure (↑[x,y]):=by
 unfold MU at h;erw[È,ŗ,Ę]at h;let(((((((((g,i),j),c),k),l),m),n),_),_):=h
 have o:X.env.kindOf x=↑.local:=by
  show X.env.scope.names.lookup x=↑.local;rw[C.nm];exact g
 have p:X.env.kindOf y=↑.local:=by
  show X.env.scope.names.lookup y=↑.local;rw[C.nm];exact i
 have d:[x,y].eraseDups=[x,y]:=by
  have:(y == x)=false:=by
   rw[Ĳ]at c ⊢;exact Î c
  simp[List.eraseDups_cons,this,c]
 have e:(if (X.env.kindOf x == ↑NameKind.local && px.line == px.line)=true then ↑x else none)=↑x:=by rw[o,ë,ë];rfl
 have f:(if (X.env.kindOf y == ↑NameKind.local && py.line == px.line)=true then ↑y else none)=↑y:=by rw[p,ë,<- j,ë];rfl
 unfold swappedStores;dsimp only[List.length,List.any,List.all,List.filterMap,List.head?,Option.map,Option.getD,Expr.pos];erw[e,f,d];refine(if_neg ?_).trans ((if_neg ?_).trans ((if_neg ?_).trans ((if_neg ?_).trans (if_neg ?_))))
 .rw[gL C.kd]
  decide
 .intro z;rw[Ε,Ē]at z
  rcases z with z|z
  .cases a<;>first|(cases k;done)|(cases z;done)
  .cases b<;>first|(cases l;done)|(cases z;done)
 .show ¬ ((2 != 2 || 2 != 2)=true)
  decide
 .rw[Ζ,m];exact Ā
 .rw[Ζ,n];exact Ā
def Lx(h:HA e=false):swapsWithSole [t] e l env=pure false:=Ol h
def Om(h:Hj k=false)(v):assign (.Subscript o k pos) env v=(do
   let ov <- holding [v]<|eval o env;let iv <- holding [v,ov] (eval k env)
   standAt pos
   holding [v,ov,iv] (setItem ov iv v)
   release [v,ov,iv] []):=by
 cases k<;>first|rfl|cases h
def s_rse(C:CxOk J X E ca)(g:J.ox.nr=false)(i:GK c=none)(s:c∈J.ex)(t:CZ J.nm c=true)(u:Cz c=true)(o:PA X (e::es)<|CU X.K E ca ms)(m:∀x∈e::es,Dx x=true) :
  PS X (.Raise (↑(.Call (.Name c p) (e::es) [] cpos)) none pos) (tS X.K E ca mu<|Cg c ms):=by
 let(T,n,f):=C.ex c s;let(w,z,A):=EK u;refine PS.weak (zhf T f C.calm (C.md g) o (C.gl t) w (Cu<|m e (Í ..))<|GF m) λD O H h=>?_
 let(F,Y,R,S,q):=h;refine{F,Y,R,S,?_};unfold Cg at q;cases l:ms Y with
 |none=>erw[l]at q<;>symm|some r=>
  erw[l]at q;cases r with
  |x c=>exact λa d e=>q a d O R e.stp0 (S.ext e)|v y b=>
   intro a d xs k rs
   by_cases j:y.length<=BW
   .erw[j,Å]at q;refine{by rw[<- rs.1,<- GU];exact j,?_}
    have:=(q a d O R k.stp0<|S.ext k).plain i;rw[n]at this;exact this
   .erw[j,Ã]at q<;>symm
end
def hJ{px pos}(f:J.loc x=true)(d:EO J.N x=↑i)(C:CxOk J X E ca)(b:PE X e<|tM X.K E ca m)(c:∀l,swapsWith e (↑(.Name x px)) l X.env=pure false) :
  PS X (.Assign [.Name x px] e pos) (tS X.K E ca mu<|IP J x i m):=by
 let(g1,g2,a):=C.loc f d;unfold IP;split
 .exact zne C.nodup g1 g2 b (c _) a
 .exact zn9 C.nodup g1 g2 b (c _) a
def aLC(D:Dc)(J:Gm)(x:Str)(i:Nat)(px pos:Pos)(t:EO J.N x=↑i):(e:Expr)->Option (SR J<|.Assign [.Name x px] e pos)
 |.ListComp f j a p=>gd (Lo J x px<|.ListComp f j a p) λl=>(match j,l with
  |[{n,d,k,0}],l=>(dC D J f n d k a).bind λr=>↑{
   IP J x i (Ii (KR J<|.ListComp f [{n,d,k,0}] a p) r.m)
   ,λ{X} {E} {ca} C=>by
   have v:X.env.scope.names.lookup x=↑.local:=by
    unfold Lo at l;erw[È]at l;rw[C.nm];exact eq_of_beq l.1.1
   have q:X.N[i]?=↑x:=by rw[C.N];exact Ip t
   obtain⟨o,w,b,mt,me,h,B,m,s,u⟩:=r.ok C;rw[h];have c:=r_lcS (pos2:=pos) B C.calm m C.ps C.fr s u C.nodup q v<|zgw C l;have c:=Wl c<|KR J<|.ListComp f [{n,d,k,0}] a p;unfold IP;split
   .exact PS.weak c λD O H h=>Vy h
   .exact PS.weak c λD O H h=>Oe (g:=GY i) (λϊ ϊ ϊ ϊ z=>b6 z) h}
  |ϊ,ϋ=>none)
 |ϊ=>none
def aNm(D:Dc)(J:Gm)(x:Str)(px:Pos)(e:Expr)(pos:Pos):Option<|SR J<|.Assign [.Name x px] e pos:=gd (J.loc x) λb=>ob (EO J.N x) λi a=>
 if c:HA e=false then (D.e J e).bind λr=>↑{IP J x i<|Ii (KR J e) r.m,λC=>hJ b a C (MN (r.ok C).1 _) λϊ=>Ol c}
 else if d:WQ J x=true then (D.e J e).bind λr=>↑{IP J x i<|Ii (KR J e) r.m,λC=>hJ b a C (MN (r.ok C).1 _) λϊ=>zjl C d}
 else aLC D J x i px pos a e
def aPar(D:Dc)(J:Gm)(x y:Str)(px h:Pos)(n:Nat)(pt:Pos)(a b:Expr)(k2:Nat)(o pos:Pos):Option<|SR J<|.Assign [.Tuple [.Name x px,.Name y h] n pt] (.Tuple [a,b] k2 o) pos:=gd (MU J x y px h a b) λg=>ob (EO J.N x) λi l=>ob (EO J.N y) λj m=>(D.a J [a,b]).bind λr=>↑{Jh i j r.m,λ{X} {E} {ca} C=>by
 have c:=g;unfold MU at c;erw[È,ŗ,Ę]at c;obtain⟨⟨⟨⟨⟨⟨⟨⟨⟨g1,g2⟩,p⟩,k⟩,_⟩,_⟩,_⟩,_⟩,_⟩,_⟩:=c;have f:X.N[i]?=↑x:=by rw[C.N];exact Ip l
 have d:X.N[j]?=↑y:=by rw[C.N];exact Ip m
 have e:i≠j:=λz=>by
  subst z;rw[f]at d;cases d;simp at k
 exact s_par C.calm C.nodup f d e (by rw[C.nm];exact g1) (by rw[C.nm];exact g2) (r.ok C) (zdx C g) rfl}
def aTup(D:Dc)(J:Gm)(ts:kC)(b:Nat)(pt:Pos)(e:Expr)(pos:Pos):Option<|SR J<|.Assign [.Tuple ts b pt] e pos:=gd (!(zpy e || HA e)) λd=>(dG J<|.Tuple ts b pt).bind λc=>(D.e J e).bind λr=>↑{AO r.m c.m,λC=>by
 have a:=Dw d;rw[č]at a;refine zna (r.ok C).1 (c.ok C) (Lx a.2) ?_ rfl;have f:=a.1;cases e<;>first|rfl|cases f}
def aTp(D:Dc)(J:Gm)(ts:kC)(c:Nat)(pt:Pos)(e:Expr)(pos:Pos):Option<|SR J<|.Assign [.Tuple ts c pt] e pos:=
 match ts,e with
 |[.Name x px,.Name y g],.Tuple [a,b] d f=>aPar D J x y px g c pt a b d f pos|ts,e=>
 aTup D J ts c pt e pos
def aSto(D:Dc)(J:Gm)(x:Str)(b:Pos)(j:Expr)(g:Pos)(e:Expr)(pos:Pos):Option<|SR J<|.Assign [.Subscript (.Name x b) j g] e pos:=gd (!(Hj j || HA e)) λd=>ob (J.var x) λi f=>(D.e J j).bind λc=>(D.e J e).bind λr=>↑{Gf i c.m r.m,λC=>by
 have a:=Dw d;rw[č]at a;obtain⟨h,k,l,m⟩:=C.var (pos:=b) f;refine s_sto h k l m (r.ok C).1 (c.ok C).1 (Lx a.2) ?_ (Om a.1);cases e<;>rfl}
def aSt2(D:Dc)(J:Gm)(x:Str)(c:Pos)(b:Expr)(h:Pos)(j:Expr)(k:Pos)(e:Expr)(pos:Pos):Option<|SR J<|.Assign [.Subscript (.Subscript (.Name x c) b h) j k] e pos:=gd (!(Hj b || Hj j || HA e)) λf=>ob (J.var x) λi g=>(D.e J b).bind λr0=>(D.e J j).bind λd=>(D.e J e).bind λr=>↑{Jf i r0.m d.m r.m,λC=>by
 have a:=Dw f;rw[č,č]at a;obtain⟨l,m,n,o⟩:=C.var (pos:=c) g;refine zn8 l m n o (r.ok C).1 (r0.ok C).1 (d.ok C).1 (RG a.1.1) (Lx a.2) ?_ (Om a.1.2);cases e<;>rfl}
def TH{fs:kE}(h:fs.findIdx? (· == f)=↑j):f∈fs/\fs[j]?=↑f:=by
 let(a,b,_):=ġ.mp h;have e:fs[j]?=↑f:=by rw[Â a];exact congrArg some<|eq_of_beq b
 exact{ç e,e}
def aDpf(D:Dc)(J:Gm)(x f:Str)(d p:Pos)(j:Expr)(q:Pos)(e:Expr)(pos:Pos):Option<|SR J<|.Assign [.Subscript (.Attribute (.Name x d) f p) j q] e pos:=gd (!(Hj j || HA e)) λh=>ob J.ox.sf λc l=>ob (J.var x) λi k=>ob (c.2.findIdx? (· == f)) λm b=>(D.e J j).bind λg=>(D.e J e).bind λr=>↑{Ji c.1 c.2 m i g.m r.m,λC=>by
 have a:=Dw h;rw[č]at a;obtain⟨s,t,u,v⟩:=C.var (pos:=d) k;obtain⟨n,o⟩:=C.gx.sf c.1 c.2 l;refine s_dpf (by have:=C.room.units;lia) n (o f (TH b).1) b s t u v (r.ok C).1 (g.ok C).1 (Lx a.2) ?_ (Om a.1)
 cases e<;>rfl}
def eQ(j:J.ox.sf=↑c)(h:J.var x=↑i)(b:c.2.findIdx? (· == f)=↑jj)(d:(!((c.2.take jj).contains f || !(decide (jj<900))))=true)(C:CxOk J X E ca)(g:PE X e<|tM X.K E ca m) :
  PS X (.Assign [.Attribute (.Name x p1) f p2] e pos) (tS X.K E ca J.mu<|EX c.1 c.2 jj i m):=by
 have a:=Dw d;rw[č,Bool.not_eq_false',ê]at a;let(c1,c2):=a;let(n,o,p,q):=C.var (pos:=p1) h;let(k,l):=C.gx.sf c.1 c.2 j;exact znh k (l f (TH b).1) (TH b).2 c1 c2 n o p q g (by cases e<;>rfl)
def aFl(D:Dc)(J:Gm)(x f:Str)(j k:Pos)(e:Expr)(pos:Pos):Option<|SR J<|.Assign [.Attribute (.Name x j) f k] e pos:=ob J.ox.sf λc h=>ob (J.var x) λi d=>ob (c.2.findIdx? (· == f)) λb g=>gd (!((c.2.take b).contains f || !(decide (b<900)))) λa=>match e,a with
 |.Dict [] [] p,a=>↑{EX c.1 c.2 b i Mg,λC=>eQ h d g a C zo1}|e,a=>(D.e J e).bind λr=>↑{EX c.1 c.2 b i r.m,λC=>eQ h d g a C (r.ok C).1}
def aSub(D:Dc)(J:Gm)(a j:Expr)(c:Pos)(e:Expr)(pos:Pos):Option<|SR J<|.Assign [.Subscript a j c] e pos:=match a with
 |.Name x b=>aSto D J x b j c e pos|.Subscript (.Name x b) g d=>aSt2 D J x b g d j c e pos|.Attribute (.Name x b) f d=>aDpf D J x f b d j c e pos|ϊ=>none
def dAsg(D:Dc)(J:Gm)(ts:kC)(e:Expr)(pos:Pos):Option<|SR J<|.Assign ts e pos:=match ts with
 |[t]=>(match t with
  |.Name x px=>aNm D J x px e pos|.Tuple ts b pt=>aTp D J ts b pt e pos|.Subscript a j g=>aSub D J a j g e pos|.Attribute o f d=>(match o with
   |.Name x c=>aFl D J x f c d e pos|ϊ=>none)
  |ϊ=>none)
 |ϊ=>none
def VQ(D:Dc)(J:Gm)(e:Expr)(pos:Pos):Option<|SR J<|.Expr e pos:=gd (!(HA e)) λa=>(D.e J e).bind λr=>↑{HX r.m,λC=>s_exp (r.ok C).1 (Ol<|Dw a)}
def xApp(D:Dc)(J:Gm)(x:Str)(p:Pos)(f:Str)(b:Pos)(a:Expr)(c pos:Pos):Option<|SR J<|.Expr (.Call (.Attribute (.Name x p) f b) [a] [] c) pos:=gd (Dx a) λk=>gd (b.endLine == c.line) λl=>ob (J.var x) λi m=>(D.e J a).bind λr=>
 if d:f="append" then ↑{Cv i r.m,λC=>by
  subst d;obtain⟨e,g,h,j⟩:=C.var (pos:=p) m;exact s_app e g h j (r.ok C).1 (IM k) l} else
 if d:f="extend" then ↑{GH i<|Ii (KR J a) r.m,λC=>by
  subst d;obtain⟨e,g,h,j⟩:=C.var (pos:=p) m;exact s_ext e g h j (MN (r.ok C).1 _) (IM k) l} else
 VQ D J _ pos
def dX(D:Dc)(J:Gm)(e:Expr)(pos:Pos):Option<|SR J<|.Expr e pos:=
 match e with
 |.Call (.Attribute (.Name x p) f b) [a] [] c=>xApp D J x p f b a c pos|e=>VQ D J e pos
def xRet(D:Dc)(J:Gm)(o:Option Expr)(pos:Pos):Option<|SR J<|.Return o pos:=
 if b:J.mu=true then (match o with
 |none=>↑{Q5,λC=>by rw[b];exact zjt}|some e=>(D.e J e).bind λr=>↑{Jg r.m,λC=>by rw[b];exact znc (r.ok C).1}) else
 gd (!J.mu) λa=>match o with
 |none=>↑{Q4,λC=>by rw[Dw a];exact znb}|some e=>(D.e J e).bind λr=>↑{AQ r.m,λC=>by rw[Dw a];exact s_ret (r.ok C).1}
def xRse(D:Dc)(J:Gm)(a b:Option Expr)(pos:Pos):Option<|SR J<|.Raise a b pos:=match a,b with
 |some (.Call (.Name c p) (e::d) [] k),none=>gd (!(J.ox.nr)) λg=>gd ((GK c).isNone) λf=>gd (J.ex.contains c) λh=>gd (CZ J.nm c) λi=>gd (Cz c) λj=>(D.a J<|e::d).bind λr=>↑{Cg c r.m,λC=>s_rse C (Dw g) (Option.isNone_iff_eq_none.mp f) (î.mp h) i j (r.ok C) r.st}|ϊ,ϋ=>none
def xFor(D:Dc)(J:Gm)(tg it:Expr)(body a:kD)(pos:Pos):Option<|SR J<|.For tg it body a pos:=
 match a with
 |[]=>gd (!(J.ox.nr)) λh=>(dI D J tg it).bind λb=>(dG J tg).bind λc=>(D.q J body).bind λr=>↑{B5 b.m c.m r.m,λC=>s_for (C.po<|Dw h) C.calm (b.ok C) (c.ok C) (r.ok C)<|T8 b.ns}|ϊ=>none
def xWh(D:Dc)(J:Gm)(c:Expr)(body a:kD)(pos:Pos):Option<|SR J<|.While c body a pos:=match a with
 |[]=>gd (!(J.ox.nr)) λh=>gd (GO c) λhk=>(D.e J c).bind λb=>(D.q J body).bind λr=>↑{Fp b.m r.m,λC=>s_wh (C.po<|Dw h) (b.t hk C)<|r.ok C}|ϊ=>none
structure UR(J:Gm)(e:Expr) where
 m:AN->Option Mo
 ok:∀{X:Cx} {E:L2.St->XK} {ca:Str->Value},CxOk J X E ca->PE X e (J9 X.K E ca m)/\∀whole,isTrue e X.env whole=(do let v <- whole;standAt e.pos;holding [v] (truthy v))
def fI(D:Dc)(J:Gm):(e:Expr)->Option (UR J e)
 |.Call (.Name f p) (.Name x q::b) [] c=>gd (Cz f) λd=>gd (CZ J.nm f) λg=>ob (J.mus.lookup f) λF h=>ob (J.var x) λi j=>(D.a J b).bind λr=>↑{KE i F.g r.m,λ{X} {E} {ca} C=>{by
   obtain⟨k,⟨a⟩⟩:=C.ms _ _ h;obtain⟨l,m,n,o⟩:=C.var (pos:=q) j;exact zk7 a C.room C.ps l m n o (r.ok C) k (C.gl g) (EK d).1 rfl (GF r.st),λϊ=>rfl}}
 |ϊ=>none
def xIfM(D:Dc)(J:Gm)(c:Expr)(a b:kD)(pos:Pos):Option<|SR J<|.If c a b pos:=match c with
 |.UnaryOp .Not e p=>(fI D J e).bind λd=>(D.q J a).bind λf=>(D.q J b).bind λg=>↑{Gg true d.m f.m g.m,λC=>zju (d.ok C).1 (d.ok C).2 (f.ok C) (g.ok C)}|e=>(fI D J e).bind λd=>(D.q J a).bind λf=>(D.q J b).bind λg=>↑{Gg false d.m f.m g.m,λC=>znf (d.ok C).1 (d.ok C).2 (f.ok C) (g.ok C)}
def xIf(D:Dc)(J:Gm)(c:Expr)(a b:kD)(pos:Pos):Option<|SR J<|.If c a b pos:=
 match xIfM D J c a b pos with
 |some r=>↑r|none=>
 gd (GO c) λh=>(D.e J c).bind λf=>(D.q J a).bind λd=>(D.q J b).bind λe=>↑{Aa f.m d.m e.m,λC=>s_if (f.t h C) (d.ok C)<|e.ok C}
def xTry(D:Dc)(J:Gm)(body:kD)(b:List ExceptHandler)(a Az:kD)(pos:Pos):Option<|SR J<|.Try body b a Az pos:=match b,a,Az with
 |ϊ,ϋ,ό=>none
def dSt(D:Dc)(J:Gm):(s:Stmt)->Option (SR J s)
 |.Pass ϊ=>↑{A6,λϊ=>znd}|.Break ϊ=>↑{MG,λϊ=>zjv}|.Continue ϊ=>↑{Ws,λϊ=>zdz}|.Return o d=>xRet D J o d|.Expr e d=>dX D J e d|.Assign j e d=>dAsg D J j e d|.If c a b d=>xIf D J c a b d|.For i it f g d=>xFor D J i it f g d|.While c f g d=>xWh D J c f g d|.Raise a b d=>xRse D J a b d|.Try f h g Az d=>xTry D J f h g Az d|ϊ=>none
def dSq(D:Dc)(J:Gm):(ss:kD)->Option (QR J ss)
 |[]=>↑{A6,λϊ=>s_nil}|[s]=>(match D.s J s with
  |some r=>↑{T7 (frzs J s) r.m,λC=>Ph (Wj<|r.ok C) _}|none=>if J.ox.no then ↑{MF,λϊ=>Wj Wk} else none)
 |s::a::r=>(D.q J<|a::r).bind λrs=>match D.s J s with
  |some q=>↑{T7 (frzs J s)<|AF q.m rs.m,λC=>Ph (Wn (q.ok C)<|rs.ok C) _}|none=>if J.ox.no then ↑{AF MF rs.m,λC=>Wn Wk<|rs.ok C} else none
def HH:Nat->Dc
 |0=>{λϊ ϊ=>none,λϊ ϊ=>none,λϊ ϊ=>none,λϊ ϊ ϊ=>none,λϊ ϊ=>none,λϊ ϊ=>none}|n+1=>{dEs<|HH n,dAs<|HH n,dOs<|HH n,dBs<|HH n,dSt<|HH n,dSq<|HH n}
def Ki(n:Nat)(J:Gm)(ss:kD):Option<|AG:=((HH n).q J ss).map QR.m
structure GoodS(ca:Str->Value)(n:Nat):Prop where
 ss:∀{J:Gm} {X:Cx} {E:L2.St->XK} {st:kD} {m:AG},CxOk J X E ca->Ki n J st=↑m->B8 X st (tS X.K E ca J.mu m)
theorem T4(ca)(n):GoodS ca n:={λC h=>by
 let(r,_,rfl):=Ø.mp h;exact r.ok C}
end Pu
end
namespace Pu
open PySem PySem.Spec PyProof.Rows L2 Zw Zx
theorem RV:True:=trivial
def MH(n:Nat)(u:AG)(ts:kL):Option Ru:=match u (ts.map some++List.replicate (n - ts.length) none) with
 |some (.rt t)=>↑(.ok t)|some (.nx ϊ)=>↑(.ok .non)|some (.xc c ϊ)=>↑(.exc c)|ϊ=>none
def AZ(k n:Nat)(u:AG)(ts:kL):Option Ru:=if ts.length=k then MH n u ts else none
theorem Oo(c:∀i a,¬ R i a)(s:Stp F H (tot R) F' H' σ'):Ext F H F' H' σ' where
 hh:=λb u e=>s.kp b u (λ⟨i,z⟩=>c i b z) e
 ff:=s.ff
 fh:=s.fh
 nb:=λb z=>(s.nw b z).elim (λ⟨i,w⟩=>absurd w<|c i b) id
 nf:=λb u e=>(s.nf b u e).elim .inl λz=>z.elim (λ⟨i,w⟩=>absurd w<|c i b) .inr
def zgx{K}(fh:A5 F H)(r:Ah K F ts vs):StR K F H (start N vs) (ts.map some++List.replicate (N.length - ts.length) none)<|λϊ=>R0:=by
 have g:=r.1;refine{fh,by simp[L2.start,g],λi t e=>?_,λϊ ϊ z=>z.elim,λϊ ϊ ϊ ϊ z=>z.elim}
 unfold L2.start
 by_cases f:i<ts.length
 .rw[ÿ (by simpa using f),Ë]at e
  let(j,b,c):=Ø.mp e;cases c;have a:i<vs.length:=by lia
  refine{vs[i],?_,(r.2 i t vs[i] b<|Â a).any};rw[ÿ (by simpa using a),Ë,Â a]
  rfl
 .rw[ģ (by simp;lia)]at e
  let(h,d):=Ñ.mp e;simp at d
def znk{K}{N ps:kE}(h:Bc K ca (AZ ps.length N.length u) vs H Q E):tS K (λϊ=>E) ca false u { nx:=λϊ H'=>Q .non H',rt:=Q} (start N vs) H:=by
 let(g,d,fh,r,q):=h;refine{g,_,_,zgx fh r,?_};unfold AZ at q
 by_cases e:d.length=ps.length
 .erw[e,Å]at q;unfold MH at q;cases f:u (d.map some++List.replicate (N.length - d.length) none) with
  |none=>erw[f]at q<;>symm|some o=>
   erw[f]at q;cases o with
   |nx Y=>exact λa b i j s1 k=>q a b .non R0 ((Oo (λϊ ϊ z=>z) s1).mono λϊ z=>z.elim) .non|rt t=>exact λa b x B s1 r1=>q a b x B (Oo (λϊ ϊ z=>z) s1) r1|bk Y=>symm|ct Y=>symm|xc c Y=>exact λa b i j s1 k=>q a b<|(Oo (λϊ ϊ z=>z) s1).mono λϊ z=>z.elim
 .erw[e,Ã]at q<;>symm
def cR{K}{st:Stmt}{f:Addr}{J:Gm}(F:FunD K x qual st f fd)(S:FnScope N ps<|Cs st)
  (d:J.N=N) (p:J.nm=(Cs st).names) (j:∀x∈J.ce,J.nm.lookup x=↑.cell) (a:J.lv=k) (i:∀b∈J.bl,mg b=none)
  (l:∀f F,J.fns.lookup f=↑F->F.lv<=k/\Nonempty (DefX P w K mg base F.lv f F.ps<|Bc K ca F.g)) (hex:∀c∈J.ex,∃T:ECls K mg c,ca c=.ref T.C/\DX K T.C=↑none)
  (hms:∀f F,J.mus.lookup f=↑F->F.lv<=k/\Nonempty (DefX P w K mg base F.lv f F.ps<|D0 K ca F.g)) (o:J.mu=false) (m:GxOk J.ox k P w K mg base ca) (z:Ki n J (G0 st)=↑u):FnOk P w K mg base (DH P w) (k+1) f fd ps<|Bc K ca<|AZ ps.length N.length u:=by
 refine RO F S (λI H Q E h=>?_) λg A outer s H I Q E v h=>?_
 .let(L,D,_,r,q):=h;unfold AZ at q
  by_cases t:D.length=ps.length
  .rw[<- r.1,t]
  grind
 .have C:CxOk J (Fh (DH P w) P w K mg base N qual (Cs st) f g A outer s H E) (λϊ=>E) ca:=by
   refine{d.symm,by rw[d];exact S.nd,p.symm,S.kind,rfl,by rw[a];exact v,λy B=>{rfl,j y B},i,RL,λϊ=>Κ,λϊ=>RW,RV,λf F e=>by rw[a];exact l f F e,hex,λf F e=>by rw[a];exact hms f F e,by rw[a];exact m,λϊ=>{(rfl),rfl},{_,_,rfl,rfl}}
  have G:=(T4 ca n).ss C z;rw[o]at G;refine{_,G,?_};exact znk h
def Gh(k n:Nat)(u:AG)(ts:kL):Option Ru:=if ts.length=k then (match u (ts.map some++List.replicate (n - ts.length) none) with
 |some (.rt t)=>↑(.ok t)|some (.nx Y)=>(match GI .non Y with
  |some (.rt t)=>↑(.ok t)|ϊ=>none)
 |some (.xc c ϊ)=>↑(.exc c)|ϊ=>none) else none
def W0{K}(fh:A5 F H)(r0:Rp K F H t0 x0 A)(r:Ah K F ts vs):StR K F H (start N<|x0::vs) ((t0::ts).map some++List.replicate (N.length - (t0::ts).length) none) (λi=>if i=0 then A else R0):=by
 have o:=r.1;refine{fh,by simp[L2.start,o],λi t e=>?_,λi a z=>?_,λi j a c g h=>?_}
 .unfold L2.start
  by_cases b:i<(t0::ts).length
  .rw[ÿ (by simpa using b),Ë]at e
   let(q,f,k):=Ø.mp e;cases k;cases i with
   |zero=>cases f;exact{x0,by simp,r0}|succ i=>
    have m:i<ts.length:=by simpa using b
    have d:i<vs.length:=by lia
    refine{vs[i],?_,(r.2 i t vs[i] (by simpa using f)<|Â d).any}
    rw[ÿ (by simpa using d),Ë,ŋ,Â d]
    rfl
  .rw[ģ (by simp at b ⊢;lia)]at e
   let(p,l):=Ñ.mp e;simp at l
 .by_cases b:i=0
  .subst b;exact{(t0),rfl}
  .erw[b,Ã]at z;exact z.elim
 .by_cases b:i=0
  .have n:¬ j=0:=λz=>c<|b.trans z.symm
   erw[n,Ã]at h;exact h
  .erw[b,Ã]at g;exact g
def Vn:tot (λi=>if i=0 then A else R0)=A:=funext λa=>propext {λ⟨i,z⟩=>by
 by_cases b:i=0
 .grind
 .erw[b]at z;exact z.elim,λz=>{0,by simpa using z}}
def zq3{K}{st:Stmt}{f:Addr}{J:Gm}(F:FunD K x qual st f fd)(S:FnScope N ps<|Cs st)
  (v:J.N=N) (V:J.nm=(Cs st).names) (M:∀x∈J.ce,J.nm.lookup x=↑.cell) (d:J.lv=k) (L:∀b∈J.bl,mg b=none)
  (O:∀f F,J.fns.lookup f=↑F->F.lv<=k/\Nonempty (DefX P w K mg base F.lv f F.ps<|Bc K ca F.g)) (hex:∀c∈J.ex,∃T:ECls K mg c,ca c=.ref T.C/\DX K T.C=↑none)
  (hms:∀f F,J.mus.lookup f=↑F->F.lv<=k/\Nonempty (DefX P w K mg base F.lv f F.ps<|D0 K ca F.g)) (U:J.mu=true) (R:GxOk J.ox k P w K mg base ca) (hu:Ki n J (G0 st)=↑u):FnOk P w K mg base (DH P w) (k+1) f fd ps<|D0 K ca<|Gh ps.length N.length u:=by
 refine RO F S (λvs H Q E h=>?_) λI A outer s H vs Q E hr h=>?_
 .let(X,p,l,D,B,W,_,rfl,r0,r,q):=h;unfold Gh at q
  by_cases i:(T.nd true (.pin p) l::D).length=ps.length
  .rw[<- i,Ö,Ö,r.1]
  .erw[i,Ã]at q<;>symm
 .have C:CxOk J (Fh (DH P w) P w K mg base N qual (Cs st) f I A outer s H E) (λϊ=>E) ca:=by
   refine{v.symm,by rw[v];exact S.nd,V.symm,S.kind,rfl,by rw[d];exact hr,λy hy=>{rfl,M y hy},L,RL,λϊ=>Κ,λϊ=>RW,RV,λf F e=>by rw[d];exact O f F e,hex,λf F e=>by rw[d];exact hms f F e,by rw[d];exact R,λϊ=>{(rfl),rfl},{_,_,rfl,rfl}}
  have G:=(T4 ca n).ss C hu;rw[U]at G;refine{_,G,?_};let(X,p,l,D,B,W,fh,rfl,r0,r,q):=h;refine{X,_,_,W0 fh r0 r,?_};unfold pS;rw[Vn];unfold Gh at q
  by_cases i:(T.nd true (.pin p) l::D).length=ps.length
  .erw[i,Å]at q;rw[i];cases ho:u ((T.nd true (.pin p) l::D).map some++List.replicate (N.length - ps.length) none) with
   |none=>erw[ho]at q<;>symm|some o=>
    erw[ho]at q;cases o with
    |nx Y=>
     intro j m O1 Z s1 S1;simp only at q;cases g:GI .non Y with
     |none=>erw[g]at q<;>symm|some o=>let(p1,l1,h0,rfl):=Qj g;erw[g]at q;exact q j m .non (Z 0) (s1.mono λa z=>{0,z})<|Qi S1 h0 rfl .non
    |rt t=>exact λj m x B1 s1 r1=>q j m x B1 s1 r1|bk Y=>symm|ct Y=>symm|xc c Y=>exact λj m O1 Z s1 S1=>q j m<|s1.mono λϊ z=>z.elim
  .erw[i,Ã]at q<;>symm
def Bb{α:Type}{P:α->Prop}:∀x∈([]:List α),P x:=λϊ h=>by cases h
def BY{α:Type}{P:α->Prop}{a:α}{l:List α}(h:P a)(r:∀x∈l,P x):∀x∈a::l,P x:=λx b=>by
 obtain rfl|b:=Ì.mp b
 .exact h
 .exact r x b
def J4{P:k9->Prop}(h:P []):∀us:k9,us.length=0->P us:=λus e=>by
 cases us with
 |nil=>exact h|cons a r=>cases e
def Dt{P:k9->Prop}{k:Nat}(h:∀a us,us.length=k->P (a::us)):∀us:k9,us.length=k+1->P us:=λus e=>by
 cases us with
 |nil=>cases e|cons a r=>exact h a r<|ô e
def Bt{P:k9->Prop}(h:∀a,P [a]):∀us:k9,us.length=1->P us:=Dt λa=>J4<|h a
def Bz{P:k9->Prop}(h:∀a b,P [a,b]):∀us:k9,us.length=2->P us:=Dt λa=>Dt λb=>J4<|h a b
def FT{P:k9->Prop}(h:∀a b c,P [a,b,c]):∀us:k9,us.length=3->P us:=Dt λa=>Dt λb=>Dt λc=>J4<|h a b c
def FR{P:k9->Prop}(h:∀a b c d,P [a,b,c,d]):∀us:k9,us.length=4->P us:=Dt λa=>Dt λb=>Dt λc=>Dt λd=>J4<|h a b c d
def Vd{P:k9->Prop}(h:∀a b c d e f,P [a,b,c,d,e,f]):∀us:k9,us.length=6->P us:=Dt λa=>Dt λb=>Dt λc=>Dt λd=>Dt λe=>Dt λf=>J4<|h a b c d e f
section
variable {P:Program}{w:World}{K:k6}{mg:Str->Option Value}{base:Heap}{ca:Str->Value}{k:Nat}
def A8:∀f F,([]:List<|Str×Fn).lookup f=↑F->F.lv<=k/\Nonempty (DefX P w K mg base F.lv f F.ps<|Bc K ca F.g):=λϊ ϊ h=>by cases h
def zik{x:Str}{a:Fn}{l:List<|Str×Fn}(hk:a.lv<=k)(D:DefX P w K mg base a.lv x a.ps<|Bc K ca a.g)(r:∀f F,l.lookup f=↑F->F.lv<=k/\Nonempty (DefX P w K mg base F.lv f F.ps<|Bc K ca F.g)) :
  ∀f F,((x,a)::l).lookup f=↑F->F.lv<=k/\Nonempty (DefX P w K mg base F.lv f F.ps<|Bc K ca F.g):=λf F h=>by
 rw[å]at h;cases b:f == x with
 |true=>rw[b]at h;cases h;rw[eq_of_beq b];exact{hk,{(D)}}|false=>rw[b]at h;exact r f F h
def Jx:∀f F,([]:List<|Str×Fn).lookup f=↑F->F.lv<=k/\Nonempty (DefX P w K mg base F.lv f F.ps<|D0 K ca F.g):=λϊ ϊ h=>by cases h
def zhs{x:Str}{a:Fn}{l:List<|Str×Fn}(hk:a.lv<=k)(D:DefX P w K mg base a.lv x a.ps<|D0 K ca a.g)(r:∀f F,l.lookup f=↑F->F.lv<=k/\Nonempty (DefX P w K mg base F.lv f F.ps<|D0 K ca F.g)) :
  ∀f F,((x,a)::l).lookup f=↑F->F.lv<=k/\Nonempty (DefX P w K mg base F.lv f F.ps<|D0 K ca F.g):=λf F h=>by
 rw[å]at h;cases b:f == x with
 |true=>rw[b]at h;cases h;rw[eq_of_beq b];exact{hk,{(D)}}|false=>rw[b]at h;exact r f F h
def Lw(K:k6):Sp:=λc H Q ϊ=>∃(a:Addr) (ns:kF),c=[.ref a]/\G5 K H a (ns.map V.int)/\ns.length<=63/\∀b,Q (.bl true) b
def G5.of{K:k6}{H:Hp}{a:Addr}{xs:kK}(b:Nv H)(h:A3 K H a xs):G5 K H a xs:=by
 rcases h with (h|h)|h
 .rcases b a with z|⟨o,c,z⟩<;>rw[h]at z<;>cases z
 .exact .inl h
 .exact .inr h
def C0(ns:kF):T:=.nd false .rl<|ns.map T.int
def Wz{F:Hp}:∀ns:kF,Ah K F (ns.map T.int)<|ns.map V.int
 |[]=>.nil|n::r=>.cons (H:=F) (.int n)<|Wz r
def zpm{R:kL->Option Ru}{f:Addr}{fd:FuncData}(F:FnOk P w K mg base (DH P w) k f fd ["_law_script"]<|Bc K ca R)(h:∀ns:kF,ns.length<=63->R [C0 ns]=↑(.ok<|.bl true)):FnOk P w K mg base LX k f fd ["_law_script"]<|Lw K:=by
 refine{λt H Q E d=>?_,λA outer s H b p t Q E n j l o d=>?_}
 .let(a,ns,rfl,_):=d
  rfl
 .let(a,ns,rfl,m,c,q):=d;refine ĉ (F.run A outer s H b p _ Q E0 n j l o {H,[C0 ns],.refl _,.cons (H:=H) (Ah.of_node (k:=.rl) m<|Wz ns) .nil,?_}) λr x g=>?_
  .rw[h ns c];intro u i z C e r;rw[r.bl_inv];exact q i
  .cases r with
   |error v=>let(_,_,_,_,_,_,_,_,_,_,_,_,z):=g;exact z.elim
   |ok fl=>cases fl<;>exact g
end
def Gi(C:Addr)(fs:kE)(k n:Nat)(u:AG)(p:Addr)(ts:kL):Option Ru:=if ts.length+1=k then (match u ((T.oob p C fs []::ts).map some++List.replicate (n - (ts.length+1)) none) with
 |some (.nx Y)=>(match GL Y 0 C fs with
  |some (q,l)=>if q=p then ↑(.ok<|.obj (.ins C fs)<|BQ l) else none
  |none=>none)
 |some (.xc c ϊ)=>↑(.exc c)|ϊ=>none) else none
open Classical in
def Es(C:Addr)(fs:kE)(k n:Nat)(u:AG)(ts:kL):Option Ru:=if h:∃r,∀p,Gi C fs k n u p ts=↑r then ↑h.choose else none
def Ww{C:Addr}{fs:kE}{k n:Nat}{u:AG}{ts:kL}{r:Ru}(h:∀p,Gi C fs k n u p ts=↑r):Es C fs k n u ts=↑r:=by
 have a:∃r,∀p,Gi C fs k n u p ts=↑r:={(r),h};unfold Es;rw[dif_pos a];have e:=(a.choose_spec 0).symm.trans (h 0);exact e
set_option tactic.hygienic true in
def Wx{C:Addr}{fs:kE}{k n:Nat}{u:AG}{ts:kL}{r:Ru}(h:Es C fs k n u ts=↑r)(p:Addr):Gi C fs k n u p ts=↑r:=by
 unfold Es at h;split at h
 .rename_i a;cases h;exact a.choose_spec p
 .cases h
def zq4{P:Program}{w:World}{K:k6}{mg:Str->Option Value}{base:Heap}{ca:Str->Value}{x v:Str}{st:Stmt}{f:Addr}{fd:FuncData}{N ps:kE}{k n:Nat}{J:Gm}{u:AG}{C:Addr}{fs:kE}(F:FunD K x v st f fd)(S:FnScope N ps<|Cs st)
  (R:J.N=N) (hnm:J.nm=(Cs st).names) (hce:∀x∈J.ce,J.nm.lookup x=↑.cell) (g:J.lv=k) (Z:∀b∈J.bl,mg b=none)
  (hfs:∀f F,J.fns.lookup f=↑F->F.lv<=k/\Nonempty (DefX P w K mg base F.lv f F.ps<|Bc K ca F.g)) (hex:∀c∈J.ex,∃T:ECls K mg c,ca c=.ref T.C/\DX K T.C=↑none)
  (hms:∀f F,J.mus.lookup f=↑F->F.lv<=k/\Nonempty (DefX P w K mg base F.lv f F.ps<|D0 K ca F.g)) (hmu:J.mu=false) (hgx:GxOk J.ox k P w K mg base ca) (hu:Ki n J (G0 st)=↑u):FnOk P w K mg base (DH P w) (k+1) f fd ps<|Jd K ca C<|Es C fs ps.length N.length u:=by
 refine RO F S (λvs H Q E h=>?_) λX A outer s H vs Q E hr h=>?_
 .let(W,p,dx,m,vs',_,rfl,_,_,r,q):=h;cases I:Es C fs ps.length N.length u m with
  |none=>rw[I]at q;symm|some rr=>
   have d:=Wx I 0;unfold Gi at d
   by_cases O:m.length+1=ps.length
   .rw[Ö,<- r.1,O]
   .rw[if_neg O]at d;cases d
 .have CC:CxOk J (Fh (DH P w) P w K mg base N v (Cs st) f X A outer s H E) (λϊ=>E) ca:=by
   refine{R.symm,by rw[R];exact S.nd,hnm.symm,S.kind,rfl,by rw[g];exact hr,λy hy=>{rfl,hce y hy},Z,RL,λϊ=>Κ,λϊ=>RW,RV,λf F e=>by rw[g];exact hfs f F e,hex,λf F e=>by rw[g];exact hms f F e,by rw[g];exact hgx,λϊ=>{(rfl),rfl},{_,_,rfl,rfl}}
  have G:=(T4 ca n).ss CC hu;rw[hmu]at G;refine{_,G,?_};let(W,p,dx,m,vs',fh,rfl,fp,hp,r,q):=h;have r0:Rp K W H (.oob p C fs []) (.ref p) (λa=>a=p\/∃j:Nat,R0 a):=.oob (xs:=[]) (λϊ=>R0) fp (by rw[List.zip_nil_right];exact hp) rfl (λi t x h=>by simp at h) (λϊ ϊ ϊ ϊ z=>z.elim) (λϊ z=>z)<|λϊ ϊ z=>z.elim
  have hA:(λa=>a=p\/∃j:Nat,R0 a)=λa=>a=p:=funext λa=>propext {λz=>z.elim id λ⟨_,w⟩=>w.elim,λz=>.inl z}
  refine{W,_,_,W0 fh r0 r,?_};unfold pS;rw[Vn,hA];cases I:Es C fs ps.length N.length u m with
  |none=>rw[I]at q;symm|some rr=>
   rw[I]at q;have d:=Wx I p;unfold Gi at d
   by_cases O:m.length+1=ps.length
   .rw[if_pos O]at d;have el:(T.oob p C fs []::m).length=m.length+1:=rfl;rw[el];cases ho:u ((T.oob p C fs []::m).map some++List.replicate (N.length - (m.length+1)) none) with
    |none=>rw[ho]at d;cases d|some o=>
     rw[ho]at d;cases o with
     |nx Y=>
      simp only at d;intro U D O1 V s1 L;cases B:GL Y 0 C fs with
      |none=>rw[B]at d;cases d|some ql=>
       let(q0,l):=ql;rw[B]at d;simp only at d
       by_cases hq:q0=p
       .rw[if_pos hq]at d;subst hq;cases d;have M:=RM B;have S2:=L.frz M;let(y,ey,ry):=L.rep 0 _ M;let(dx2,xs2,Rr,rfl,hA2,fp2,hp2,ro,dp):=ry.oob_inv;have n1:∀a,V 0 a->U a=none:=λa z=>(L.dom z).1
        have r2:=ry.share (H':=D) (Ek (H:=D) n1) λa u z q=>by rw[ET z];exact q
        simp only at q;refine q (frz U D<|V 0) D {s1.ff.trans<|Ek n1,Ho L.fh,s1.kp,λb z=>z.elim,λb u e=>?_} r2
        by_cases hb:V 0 b
        .exact(s1.nw b {0,hb}).elim (λz=>.inr<|.inl z) λz=>.inr<|.inr z
        .rw[Ej hb]at e;exact s1.nf b u e
       .rw[if_neg hq]at d;cases d
     |rt t=>cases d|bk Y=>cases d|ct Y=>cases d|xc c Y=>cases d;simp only at q;exact λU D O1 V s1 L=>q U D<|s1.mono λϊ z=>z.elim
   .rw[if_neg O]at d;cases d
def Di{κ α:Type} [BEq κ]{P:κ->α->Prop}:∀y b,([]:List<|κ×α).lookup y=↑b->P y b:=λϊ ϊ h=>by cases h
def FE{κ α:Type} [BEq κ] [LawfulBEq κ]{P:κ->α->Prop}{x:κ}{a:α}{l:List<|κ×α}(h:P x a)(r:∀y b,l.lookup y=↑b->P y b):∀y b,((x,a)::l).lookup y=↑b->P y b:=λy b e=>by
 rw[å]at e;cases c:y == x with
 |true=>rw[c]at e;cases e;rw[eq_of_beq c];exact h|false=>rw[c]at e;exact r y b e
def Qg{K:k6}{F:Hp}:∀ys:kE,Ah K F (ys.map T.str)<|ys.map V.str
 |[]=>.nil|y::r=>.cons (H:=F) (.str y)<|Qg r
def ZR{P:Str->Fn->List (Nat×kL)->Prop}:∀x F ds,([]:List<|Str×Fn×List (Nat×kL)).lookup x=↑(F,ds)->P x F ds:=λϊ ϊ ϊ h=>by cases h
def ZU{P:Str->Fn->List (Nat×kL)->Prop}{l:List<|Str×Fn×List (Nat×kL)}{b:Str}{c:Fn}{d:List<|Nat×kL}(h:P b c d)(r:∀x F ds,l.lookup x=↑(F,ds)->P x F ds):∀x F ds,((b,c,d)::l).lookup x=↑(F,ds)->P x F ds:=λx F ds e=>by
 rw[å]at e;cases a:x == b with
 |true=>rw[a]at e;cases e;rw[eq_of_beq a];exact h|false=>rw[a]at e;exact r x F ds e
def fH(K:k6)(C:Addr):=(Kf K C,W.subIn K (.ref C)<|.ref C,(W.clsIn K C).isSome,W.typeIn K<|.ref C,W.findIn K (.ref C) "__getattribute__",W.findIn K (.ref C) "__getattr__",W.findIn K (.ref C) "__class__",W.mroIn K C<|.type "object",W.mroIn K C<|.type "BaseException")
def HG{K:k6}{mg:Str->Option Value}{x:Str}(g:W.specialIn K (.builtin "object.__class__") "__get__"=↑(↑(.builtin "getset_descriptor.__get__"))/\W.takesIn K (.builtin "object.__class__")=↑true)(C:Addr)(m:mg x=↑(.ref C))(h:fH K C=(true,↑true,true,↑(.type "type"),↑(↑(.builtin "BaseException.__getattribute__")),↑none,↑(↑(.builtin "object.__class__")),↑true,↑true)):ECls K mg x:={C,m,by
 unfold fH at h;erw[Prod.mk.injEq,Ŏ]at h;obtain⟨a,b,c,d,e,f,i,j,k⟩:=h;exact{(a),b,c,d,e,f,i,j,k,g.1,g.2}}
theorem A7{G:Gx}{lv:Nat}{P:Program}{w:World}{K:k6}{mg:Str->Option Value}{base:Heap}{ca:Str->Value}
  (co:∀x t,G.co.lookup x=↑t->∃u v,mg x=↑u/\Ab v u/\∀F:Hp,Rp K F F t v R0:=by exact Di)
  (cl:∀c∈G.cl,Cls K c.2.1/\∀f∈c.2.2,Cd K c.2.1 f:=by exact Bb)
  (mt:∀c∈G.mt,c.2.2.2.lv<=lv/\Nonempty (MetX P w K mg base c.2.1 c.1 c.2.2.2.lv c.2.2.2.ps<|Bc K ca c.2.2.2.g):=by exact Bb)
  (nw:∀x F ds,G.nw.lookup x=↑(F,ds)->F.lv+1<=lv/\∃(C:Addr) (D:NewX P w K mg base x C F.lv F.ps<|Jd K ca C F.g),∀k dts,ds.lookup k=↑dts->∃dvs us,Ce K D.fd F.ps us/\Ac dvs us/\∀H:Hp,Ah K H dts dvs:=by exact ZR)
  (sf:∀C fs,G.sf=↑(C,fs)->Cls K C/\∀f∈fs,Cd K C f:=by exact(λϊ ϊ h=>by cases h))
  (xs:∀W cs,G.xs.lookup W=↑cs->∃T:ECls K mg W,∀c C,cs.lookup c=↑C->ca c=.ref C/\PySem.W.subIn K (.ref C) (.ref T.C)=↑true:=by exact Di)
  (sb:∀D tb,G.sb.lookup D=↑tb->∃A:Addr,mg D=↑(.ref A)/\∀C b,tb.lookup C=↑b->ExcK K C/\PySem.W.kitOne K (.ref C) (.ref A)=↑b:=by exact Di)
  (sv:∀D tb,G.sv.lookup D=↑tb->mg D=none/\∃t,bootBuiltins D=↑(.type t)/\∀C b,tb.lookup C=↑b->ExcK K C/\PySem.W.kitOne K (.ref C) (.type t)=↑b:=by exact Di)
  (ci:∀x tb,G.ci.lookup x=↑tb->∃D:Addr,mg x=↑(.ref D)/\(∀C b,tb.lookup C=↑b->ICls K C/\PySem.W.kitOne K (.ref C) (.ref D)=↑b)/\(Li.all λa=>PySem.W.kitOne K (.type a) (.ref D) == ↑false)=true:=by exact Di)
  (x2:∀W1 W2 cs,(W1,W2,cs)∈G.x2->∃(T1:ECls K mg W1) (T2:ECls K mg W2),∀c C,cs.lookup c=↑C->ca c=.ref C/\PySem.W.subIn K (.ref C) (.ref T1.C)=↑false/\PySem.W.subIn K (.ref C) (.ref T2.C)=↑true:=by exact(λϊ ϊ ϊ h=>by cases h))
  (wd:∀x F,G.wd.lookup x=↑F->F.lv<=lv/\∃p,F.ps=[p]/\Nonempty (DefS P w K mg base F.lv x p<|Bc K ca F.g):=by exact Di)
  (ti:∀C∈G.ti,TiOk K C:=by exact Bb)
  (dn:∀x y,G.dn.lookup x=↑y->y.1.lv<=lv/\∃(D:DefX P w K mg base y.1.lv x y.1.ps<|Bc K ca y.1.g) (dvs:kK),DefsX K D.fd y.1.ps dvs/\∀H:Hp,Ah K H y.2 dvs:=by exact Di)
  (rn:True:=trivial)
  : GxOk G lv P w K mg base ca:={(co),cl,mt,nw,sf,xs,sb,sv,ci,x2,wd,ti,dn,rn}
theorem scM{N ps:kE}{a:Scope}(h:(a.kind=.function/\a.isCoroutine=false/\a.isGenerator=false)/\N.Nodup/\N.take ps.length=ps/\(∀x∈ps,a.names.lookup x=↑.local\/a.names.lookup x=↑.cell)/\∀y∈a.names,y.2≠.free):FnScope N ps a:={(h.1.1),h.1.2.1,h.1.2.2,h.2.1,h.2.2.1,h.2.2.2.1,h.2.2.2.2}
class Qx (P:outParam Program) (w:outParam World) (K:outParam k6) (mg:outParam<|Str->Option Value) (base:outParam Heap) (ca:outParam<|Str->Value):Prop where
  c:∀(x:Str) (u:Value),W.nsIn K mainGlobals x=↑↑u->mg x=↑u
  n:∀x:Str,W.nsIn K mainGlobals x=↑none->mg x=none
structure Ck(J:Gm)(f:Fn)(st:Stmt)(u:AG):Prop where
 s:FnScope J.N f.ps<|Cs st:=by exact scM (by decide +kernel)
 k:Ki 200 J (G0 st)=↑u:=by ext
 n:J.nm=(Cs st).names:=by rfl
def AU{P:Program}{w:World}{K:k6}{mg:Str->Option Value}{base:Heap}{ca:Str->Value}{k:Nat}{x:Str}{a:Fn}{l:List<|Str×Fn}(D:DefX P w K mg base a.lv x a.ps<|Bc K ca a.g)(r:∀f F,l.lookup f=↑F->F.lv<=k/\Nonempty (DefX P w K mg base F.lv f F.ps<|Bc K ca F.g))(hk:a.lv<=k:=by decide) :
  ∀f F,((x,a)::l).lookup f=↑F->F.lv<=k/\Nonempty (DefX P w K mg base F.lv f F.ps<|Bc K ca F.g):=zik hk D r
abbrev gF(x a:Str)(s:Stmt)(d:Value)(m:Str)(t c:Nat)(y:Value):FuncData:=W.fnOf x a (NI s) (G0 s) (Cs s) d .none .none (.str m t) none (.ref c) y
def fO(a b:Str)(s:Stmt)(d:Value)(m:Str)(t c:Nat)(y:Value):Obj:={(.type "function"),none,(.func<|gF a b s d m t c y),Array.mk []}
def gO(a:Str)(s:Stmt)(m:Str)(t c:Nat):Obj:=fO a a s .none m t c .none
def Z2(K:k6)(b:Str):Bool:=match W.nsIn K mainGlobals b with
 |some none=>true|ϊ=>false
def FY(K:k6)(x:Str)(a:Addr):Bool:=match W.nsIn K mainGlobals x with
 |some (↑(.ref b))=>b == a|ϊ=>false
def Hr(K:k6)(b:Str)(a c:Nat)(J:Gm)(f:Fn):Bool:=W.codeIn K (.ref c) b && W.keepIn K (.ref a) && J.bl.all (Z2 K) && J.ce.all (λx=>J.nm.lookup x == ↑.cell) && !J.mu && (J.lv+1 == f.lv)
structure Chk(K:k6)(mg:Str->Option Value)(qual:Str)(a c:Nat)(J:Gm)(f:Fn):Prop where
 c:W.codeIn K (.ref c) qual=true
 k:W.keepIn K (.ref a)=true
 b:∀b∈J.bl,mg b=none
 e:∀x∈J.ce,J.nm.lookup x=↑.cell
 m:J.mu=false
 l:J.lv+1=f.lv
def zqf{P:Program}{w:World}{K:k6}{mg:Str->Option Value}{base:Heap}{ca:Str->Value} [q:Qx P w K mg base ca]{d:Str}{a c:Nat}{J:Gm}{f:Fn}(h:Hr K d a c J f=true):Chk K mg d a c J f:=by
 unfold Hr at h;erw[È,ã]at h;let(((((e,g),i),j),k),l):=h;refine{e,g,λb m=>q.n b ?_,λx n=>eq_of_beq<|j x n,Dw k,eq_of_beq l}
 have:=i b m;unfold Z2 at this;split at this
 .assumption
 .cases this
set_option tactic.hygienic true in
def Ql{P:Program}{w:World}{K:k6}{mg:Str->Option Value}{base:Heap}{ca:Str->Value} [q:Qx P w K mg base ca]{x:Str}{a:Addr}(h:FY K x a=true):mg x=↑(.ref a):=by
 unfold FY at h;split at h
 .rename_i b e;rw[<- eq_of_beq h];exact q.c _ _ e
 .cases h
structure AY(P:Program)(w:World)(K:k6)(mg:Str->Option Value)(base:Heap)(ca:Str->Value)(x qual:Str)(st:Stmt)(d:Value)(mo:Str)(t c:Nat)(y:Value)(J:Gm)(f:Fn)(V:Params->Obj)(a:Addr):Prop where
 fs:∀g F,J.fns.lookup g=↑F->F.lv<=J.lv/\Nonempty (DefX P w K mg base F.lv g F.ps<|Bc K ca F.g)
 gx:GxOk J.ox J.lv P w K mg base ca
 ex:∀c∈J.ex,∃T:ECls K mg c,ca c=.ref T.C/\DX K T.C=↑none
 ms:∀g F,J.mus.lookup g=↑F->F.lv<=J.lv/\Nonempty (DefX P w K mg base F.lv g F.ps<|D0 K ca F.g)
 h:Chk K mg qual a c J f
 F:FunD K x qual st a<|gF x qual st d mo t c y
section
variable {P:Program}{w:World}{K:k6}{mg:Str->Option Value}{base:Heap}{ca:Str->Value} [q:Qx P w K mg base ca]{x mo qual:Str}{st:Stmt}{t c:Nat}{d y:Value}{J:Gm}{f:Fn}{u:AG}{V:Params->Obj}{a C:Addr}{fs:kE}
theorem NR(b:∀g F,J.fns.lookup g=↑F->F.lv<=J.lv/\Nonempty (DefX P w K mg base F.lv g F.ps<|Bc K ca F.g))(e:GxOk J.ox J.lv P w K mg base ca)(hex:∀c∈J.ex,∃T:ECls K mg c,ca c=.ref T.C/\DX K T.C=↑none)(hms:∀g F,J.mus.lookup g=↑F->F.lv<=J.lv/\Nonempty (DefX P w K mg base F.lv g F.ps<|D0 K ca F.g))
  (i:V w.params=fO x qual st d mo t c y) (l:K.lookup a=↑(V w.params)) (h:Hr K qual a c J f=true):AY P w K mg base ca x qual st d mo t c y J f V a:=
 have h:=zqf h
 {b,e,hex,hms,h,zly (l.trans<|congrArg some i) h.c h.k}
def Af(e:∀g F,J.fns.lookup g=↑F->F.lv<=J.lv/\Nonempty (DefX P w K mg base F.lv g F.ps<|Bc K ca F.g))(i:GxOk J.ox J.lv P w K mg base ca)(hex:∀c∈J.ex,∃T:ECls K mg c,ca c=.ref T.C/\DX K T.C=↑none:=by exact Bb)(hms:∀g F,J.mus.lookup g=↑F->F.lv<=J.lv/\Nonempty (DefX P w K mg base F.lv g F.ps<|D0 K ca F.g):=by exact Jx)
  (k:V w.params=fO x x st d mo t c y:=by exact rfl) (l:K.lookup a=↑(V w.params):=by ext) (h:Hr K x a c J f=true:=by ext) (m:FY K x a=true:=by ext) (j:f.g=AZ f.ps.length J.N.length u:=by rfl)
  (b:Ce K (gF x x st d mo t c y) f.ps []):AY P w K mg base ca x x st d mo t c y J f V a/\FY K x a=true/\f.g=AZ f.ps.length J.N.length u/\Ce K (gF x x st d mo t c y) f.ps []:={NR e i hex hms k l h,m,j,b}
def Hs(e:∀g F,J.fns.lookup g=↑F->F.lv<=J.lv/\Nonempty (DefX P w K mg base F.lv g F.ps<|Bc K ca F.g))(i:GxOk J.ox J.lv P w K mg base ca)(hex:∀c∈J.ex,∃T:ECls K mg c,ca c=.ref T.C/\DX K T.C=↑none:=by exact Bb)(hms:∀g F,J.mus.lookup g=↑F->F.lv<=J.lv/\Nonempty (DefX P w K mg base F.lv g F.ps<|D0 K ca F.g):=by exact Jx)
  (k:V w.params=fO x qual st d mo t c y:=by exact rfl) (l:K.lookup a=↑(V w.params):=by ext) (h:Hr K qual a c J f=true:=by ext) (me:Meth K C x a:=by exact{by ext,by ext,by ext}) (j:f.g=AZ f.ps.length J.N.length u:=by rfl)
  (b:Ce K (gF x qual st d mo t c y) f.ps []):AY P w K mg base ca x qual st d mo t c y J f V a/\Meth K C x a/\f.g=AZ f.ps.length J.N.length u/\Ce K (gF x qual st d mo t c y) f.ps []:={NR e i hex hms k l h,me,j,b}
def hG{z:Str}(b:∀g F,J.fns.lookup g=↑F->F.lv<=J.lv/\Nonempty (DefX P w K mg base F.lv g F.ps<|Bc K ca F.g))(e:GxOk J.ox J.lv P w K mg base ca)(hex:∀c∈J.ex,∃T:ECls K mg c,ca c=.ref T.C/\DX K T.C=↑none:=by exact Bb)(hms:∀g F,J.mus.lookup g=↑F->F.lv<=J.lv/\Nonempty (DefX P w K mg base F.lv g F.ps<|D0 K ca F.g):=by exact Jx)
  (j:V w.params=fO x qual st d mo t c y:=by exact rfl) (l:K.lookup a=↑(V w.params):=by ext) (h:Hr K qual a c J f=true:=by ext) (m:FY K z C=true:=by ext) (ma:Mk K C a:=by exact{by ext,by ext,by ext,by ext}) (i:f.g=Es C fs f.ps.length J.N.length u:=by rfl):AY P w K mg base ca x qual st d mo t c y J f V a/\FY K z C=true/\Mk K C a/\f.g=Es C fs f.ps.length J.N.length u:={NR b e hex hms j l h,m,ma,i}
def ayU(e:∀g F,J.fns.lookup g=↑F->F.lv<=J.lv/\Nonempty (DefX P w K mg base F.lv g F.ps<|Bc K ca F.g))(i:GxOk J.ox J.lv P w K mg base ca)(hex:∀c∈J.ex,∃T:ECls K mg c,ca c=.ref T.C/\DX K T.C=↑none:=by exact Bb)(hms:∀g F,J.mus.lookup g=↑F->F.lv<=J.lv/\Nonempty (DefX P w K mg base F.lv g F.ps<|D0 K ca F.g):=by exact Jx)
  (k:V w.params=fO x x st d mo t c y:=by exact rfl) (l:K.lookup a=↑(V w.params):=by ext) (h:Hr K x a c { J with mu:=false } f=true:=by ext) (m:FY K x a=true:=by ext) (j:f.g=Gh f.ps.length J.N.length u:=by rfl) (n:J.mu=true:=by rfl)
  (b:Ce K (gF x x st d mo t c y) f.ps []):AY P w K mg base ca x x st d mo t c y { J with mu:=false } f V a/\FY K x a=true/\f.g=Gh f.ps.length J.N.length u/\Ce K (gF x x st d mo t c y) f.ps []/\J.mu=true:={NR (J:={ J with mu:=false }) e i hex hms k l h,m,j,b,n}
def dfC(V:Params->Obj)(a:Addr)(S:Ck J f st u)(A:AY P w K mg base ca x x st d mo t c y { J with mu:=false } f V a/\FY K x a=true/\f.g=Gh f.ps.length J.N.length u/\Ce K (gF x x st d mo t c y) f.ps []/\J.mu=true):DefX P w K mg base f.lv x f.ps<|D0 K ca f.g:=
 {a,_,by rw[A.2.2.1,<- A.1.h.l];exact zq3 A.1.F S.s rfl S.n A.1.h.e rfl A.1.h.b A.1.fs A.1.ex A.1.ms A.2.2.2.2 A.1.gx S.k,Ql A.2.1,A.1.h.k,A.2.2.2.1}
def Ae(V:Params->Obj)(a:Addr)(S:Ck J f st u)(A:AY P w K mg base ca x x st d mo t c y J f V a/\FY K x a=true/\f.g=AZ f.ps.length J.N.length u/\Ce K (gF x x st d mo t c y) f.ps []):DefX P w K mg base f.lv x f.ps<|Bc K ca f.g:=
 {a,_,by rw[A.2.2.1,<- A.1.h.l];exact cR A.1.F S.s rfl S.n A.1.h.e rfl A.1.h.b A.1.fs A.1.ex A.1.ms A.1.h.m A.1.gx S.k,Ql A.2.1,A.1.h.k,A.2.2.2}
def Hq(V:Params->Obj)(a:Addr)(S:Ck J f st u)(cl:Cls K C)(A:AY P w K mg base ca x qual st d mo t c y J f V a/\Meth K C x a/\f.g=AZ f.ps.length J.N.length u/\Ce K (gF x qual st d mo t c y) f.ps []):MetX P w K mg base C x f.lv f.ps<|Bc K ca f.g:=
 {a,_,cl,A.2.1,by rw[A.2.2.1,<- A.1.h.l];exact cR A.1.F S.s rfl S.n A.1.h.e rfl A.1.h.b A.1.fs A.1.ex A.1.ms A.1.h.m A.1.gx S.k,A.2.2.2}
def fP(z:Str)(C:Addr)(fs:kE)(V:Params->Obj)(a:Addr)(S:Ck J f st u)(A:AY P w K mg base ca x qual st d mo t c y J f V a/\FY K z C=true/\Mk K C a/\f.g=Es C fs f.ps.length J.N.length u):NewX P w K mg base z C f.lv f.ps<|Jd K ca C f.g:=
 {a,gF x qual st d mo t c y,Ql A.2.1,A.2.2.1,by rw[A.2.2.2,<- A.1.h.l];exact zq4 A.1.F S.s rfl S.n A.1.h.e rfl A.1.h.b A.1.fs A.1.ex A.1.ms A.1.h.m A.1.gx S.k}
end
def G3:AW (x::l) 0=↑x:=by
 have:AW (x::l) 0=↑x:=C7 rfl;exact this
def Fy:AW (x::y::l) 1=↑y:=by
 have:AW (x::y::l) 1=↑y:=C7 rfl;exact this
def NU:AW (x::y::z::l) 2=↑z:=by
 have:AW (x::y::z::l) 2=↑z:=C7 rfl;exact this
abbrev fr(a b:Int):T:=.tup [.int a,.int b]
section
variable {b:T->AN->Option AN}{body:AG}{mc:AI}
def FJ(I:Nat->AN->Prop)(j:I 0 Y)(p:∀i t Y,ts[i]?=↑t->I i Y->∃τ1,b t Y=↑τ1/\∃τ2,body τ1=↑(.nx τ2)/\I (i+1) τ2):∃Y',Ak b body ts Y=↑(.nx Y')/\I ts.length Y':=by
 have e:∀(l:kL) (k:Nat) (Y:AN),ts.drop k=l->k<=ts.length->I k Y->∃Y',Ak b body l Y=↑(.nx Y')/\I ts.length Y':=by
  intro l
  induction l with
  |nil=>
   intro k Y hd hk c
   have:k=ts.length:=by
    have:=congrArg List.length hd;simp at this
    lia
   subst this;exact{(Y),rfl,c}
  |cons t l q=>
   intro k Y hd hk c
   have a:k<ts.length:=by
    have:=congrArg List.length hd;simp at this
    lia
   rw[ċ a]at hd;injection hd with m n
   let(τ1,f,τ2,g,d):=p k t Y (by rw[Â a,m]) c
   let(Y',h,o):=q (k+1) τ2 n a d;exact{Y',by unfold Ak;erw[f,g];exact h,o}
 exact e ts 0 Y rfl (õ _) j
def zfx(I:Nat->AN->Prop)(d:T->Prop)(n:I 0 Y)(r:∀i t Y,ts[i]?=↑t->I i Y->∃τ1,b t Y=↑τ1/\((∃τ2,(body τ1=↑(.nx τ2)\/body τ1=↑(.ct τ2))/\I (i+1) τ2)\/∃v,body τ1=↑(.rt v)/\d v)) :
  (∃Y',Ak b body ts Y=↑(.nx Y')/\I ts.length Y')\/∃v,Ak b body ts Y=↑(.rt v)/\d v:=by
 have m:∀(l:kL) (k:Nat) (Y:AN),ts.drop k=l->k<=ts.length->I k Y->(∃Y',Ak b body l Y=↑(.nx Y')/\I ts.length Y')\/∃v,Ak b body l Y=↑(.rt v)/\d v:=by
  intro l
  induction l with
  |nil=>
   intro k Y hd hk h
   have:k=ts.length:=by
    have:=congrArg List.length hd;simp at this
    lia
   subst this;exact .inl {(Y),rfl,h}
  |cons t l u=>
   intro k Y hd hk h
   have c:k<ts.length:=by
    have:=congrArg List.length hd;simp at this
    lia
   rw[ċ c]at hd;injection hd with o p
   let(τ1,e,q):=r k t Y (by rw[Â c,o]) h
   rcases q with ⟨τ2,a,j⟩|⟨v,a,s⟩
   .rcases u (k+1) τ2 p c j with ⟨Y',f,g⟩|⟨v,f,g⟩
    .refine .inl {Y',?_,g};unfold Ak
     rcases a with a|a<;>erw[e,a]<;>exact f
    .refine .inr {v,?_,g};unfold Ak
     rcases a with a|a<;>erw[e,a]<;>exact f
   .exact .inr {v,by unfold Ak;erw[e,a],s}
 exact m ts 0 Y rfl (õ _) n
def Wq(I:AN->Prop)(μ:AN->Nat)(i:I Y)(k:∀Y,I Y->(∃bb,mc Y=↑(.v (.bl true) bb)/\∃τ2,body Y=↑(.nx τ2)/\I τ2/\μ τ2<μ Y)\/∃bb,mc Y=↑(.v (.bl false) bb)) :
  ∃Y',Fp mc body Y=↑(.nx Y')/\I Y'/\∃bb,mc Y'=↑(.v (.bl false) bb):=by
 have c:∀(n:Nat) (Y:AN),μ Y<n->I Y->∃Y',DP mc body n Y=↑(.nx Y')/\I Y'/\∃bb,mc Y'=↑(.v (.bl false) bb):=by
  intro n
  induction n with
  |zero=>intro Y h;exact absurd h (Nat.not_lt_zero _)|succ n l=>
   intro Y o d
   rcases k Y d with ⟨bb,a,τ2,f,b,m⟩|⟨bb,a⟩
   .let(Y',g,j):=l τ2 (by lia) b
    exact{Y',by unfold DP;erw[a,f];exact g,j}
   .exact{Y,by unfold DP;erw[a],d,bb,a}
 let(Y',e,h):=c (μ Y+1) Y (ě _) i;exact{Y',zni e,h}
def Ij(I:Nat->AN->Prop)(f )(j:I 0 Y)(o:∀i t Y,ts[i]?=↑t->I i Y->∃τ1,b t Y=↑τ1/\me τ1=↑(.v (f i) false)/\I (i+1) τ1) :
  Bi b (mC<|.bl true) me ts Y=↑((List.range ts.length).map f):=by
 have d:∀(l ) (k ) (Y ),ts.drop k=l->k<=ts.length->I k Y->Bi b (mC<|.bl true) me l Y=↑((List.range' k l.length).map f):=by
  intro l
  induction l with
  |nil=>intro k Y _ _ _;rfl|cons t l p=>
   intro k Y hd hk n
   have a:k<ts.length:=by
    grind
   rw[ċ a]at hd;injection hd with q m
   let(τ1,e,g,c):=o k t Y (by grind) n
   have h:=p (k+1) τ1 m a c;unfold Bi;erw[e,mC,g,h]
   rfl
 have:=d ts 0 Y rfl (õ _) j;rw[this,<- List.range_eq_range']
end
def EA{i j:Int}(h:DJ j=true):Be i j=true:=by unfold Be;grind
def Hc{i j:Int}(h:DJ i=true):Be i j=true:=by unfold Be;grind
def zla(a:Bd i=true)(b:Bd j=true):Be i j=true:=by unfold Be;grind
def Cn(a:-(2 ^ 64)<i)(b:i<2 ^ 64):DJ i=true:=@decide_eq_true _ (Classical.propDecidable _) {(a),b}
def Bv(a:-(10 ^ 70)<i)(b:i<10 ^ 70):Bd i=true:=@decide_eq_true _ (Classical.propDecidable _) {(a),b}
def fm{i j:Int}(h:0<j):i.fmod j=i % j:=Int.fmod_eq_emod_of_nonneg i<|by lia
def fd{i j:Int}(h:0<j):i.fdiv j=i / j:=Ũ i<|by lia
def Cc{i j:Int}:Au (.int i) (.int j)=↑(.bl<|i == j):=by
 rfl
def E2{i j:Int}:CJ (.int i) (.int j)=↑(.bl<|!(i == j)):=by
 rfl
mutual
noncomputable def Dz:PyData->Bool
 |.bool ϊ=>false|.dict ϊ=>false|.list xs=>Gr xs|.tuple xs=>Gr xs|ϊ=>true
noncomputable def Gr:List PyData->Bool
 |[]=>true|x::xs=>Dz x && Gr xs
end
mutual
theorem e9:∀d d':PyData,Dz d=true->Dz d'=true->(PyData.eqv d d'=true ↔ d=d')
 |.none,d',ϊ,a=>by cases d'<;>simp[PyData.eqv,Dz]at a ⊢|.int i,d',ϊ,a=>by cases d'<;>simp[PyData.eqv,Dz]at a ⊢|.str x,d',ϊ,a=>by cases d'<;>simp[PyData.eqv,Dz]at a ⊢|.bool ϊ,ϋ,h,ό=>by simp[Dz]at h|.dict ϊ,ϋ,h,ό=>by simp[Dz]at h|.list xs,d',h,a=>by
  cases d' with
  |list b=>
   have:=UC xs b (by simpa[Dz] using h)<|by simpa[Dz] using a
   erw[PyData.eqv];rw[this];simp
  |_=>simp[PyData.eqv,Dz]at a ⊢
 |.tuple xs,d',h,a=>by
  cases d' with
  |tuple b=>
   have:=UC xs b (by simpa[Dz] using h)<|by simpa[Dz] using a
   erw[PyData.eqv];rw[this];simp
  |_=>simp[PyData.eqv,Dz]at a ⊢
theorem UC:∀xs ys:List PyData,Gr xs=true->Gr ys=true->(PyData.eqvAll xs ys=true ↔ xs=ys)
 |[],[],ϊ,ϋ=>by simp[PyData.eqvAll]|[],ϊ::ϋ,ό,ύ=>by simp[PyData.eqvAll]|ϊ::ϋ,[],ό,ύ=>by simp[PyData.eqvAll]|x::xs,y::ys,a,b=>by
  erw[Gr,È]at a b;have c:=e9 x y a.1 b.1;have d:=UC xs ys a.2 b.2;erw[PyData.eqvAll,È,c,d,List.cons.injEq]
end
structure Fit(t:T)(n:Nat):Prop where
 fit:E8 t=true
 nb:Dz t.data=true
 dep:t.data.depth<=n
theorem Fit.int(i)(n):Fit (.int i) n:={rfl,rfl,by simp[T.data,PyData.depth]}
theorem Fit.non(n:Nat):Fit .non n:={rfl,rfl,by simp[T.data,PyData.depth]}
def eR:∀{l} {n},(∀t∈l,Fit t n)->(Ez l=true/\PyData.canLayAll0 (Bj l)=true)/\Gr (Bj l)=true/\PyData.depthAll (Bj l)<=n
 |[],n,ϊ=>{{(rfl),rfl},rfl,õ _}|t::r,n,h=>by
  let(a,c,f):=h t (Í ..);let((b,g1),g2,e):=eR λx d=>h x<|Ê _ d
  unfold E8 at a;rw[È]at a;refine{{by rw[Ez,a.1,b];rfl,by rw[Bj,PyData.canLayAll0,a.2,g1];rfl},by rw[Bj,Gr,c,g2];rfl,?_}
  rw[Bj,PyData.depthAll]
  lia
def Fit.nd(h:∀t∈l,Fit t n):Fit (.nd o k l)<|n+1:=by
 let(g1,g2,a):=eR h;cases k<;>exact{by simpa[E8,T.data,T.pln,PyData.canLay0] using g1,by simpa[T.data,Dz] using g2,by simpa[T.data,PyData.depth] using a}
theorem Fit.tup{l:kL}{n:Nat}(h:∀t∈l,Fit t n):Fit (.tup l)<|n+1:=Fit.nd h
open Classical in
def fB{t u:T}{n m:Nat}(h:Fit t n)(h':Fit u m)(a:n<=60):Au t u=↑(.bl<|decide (t.data=u.data))/\CJ t u=↑(.bl<|!decide (t.data=u.data)):=by
 have ok:HF t u=true:=by
  unfold HF;rw[h.fit,h'.fit,É (by have:=h.dep;lia)]
  rfl
 have e:JC t u=decide (t.data=u.data):=by
  unfold JC;rw[Bool.eq_iff_iff,e9 _ _ h.nb h'.nb];simp
 unfold Au CJ;rw[if_pos ok,if_pos ok,e];exact{(rfl),rfl}
def zm3(h:Fit t n)(a:n<=60)(e:t.data=u.data)(h':Fit u n):Au t u=↑(.bl true)/\CJ t u=↑(.bl false):=by
 have:=fB h h' a
 grind
def IJ:∀ns:kF,BQ (ns.map T.int)=ns.map T.int
 |[]=>rfl|n::r=>by rw[Ï,BQ,IJ r];rfl
def Je:∀ns:kF,A4 (ns.map T.int)=true
 |[]=>rfl|n::r=>by rw[Ï,A4,Je r];rfl
def We(ns):(C0 ns).share=C0 ns:=by unfold C0;rw[T.share,IJ]
def Wf(ns):(C0 ns).sh=true:=by unfold C0;rw[T.sh,Je];rfl
def Ht{x:α}(a:0<=k)(h:l[k.toNat]?=↑x):AW l k=↑x:=by
 have:AW l ((k.toNat:Nat):Int)=↑x:=C7 h
 rwa[œ a]at this
def UL(f:α->β)(l)(lo hi):B0 (l.map f) lo hi=(B0 l lo hi).map f:=by
 unfold B0;simp
def zm8(l:List α)(lo hi):(B0 l lo hi).length<=l.length:=by
 unfold B0;rw[Đ,List.length_drop];exact Ü (Nat.min_le_right ..) (Nat.sub_le ..)
def zhl(l:kF):BQ (l.map T.int)=l.map T.int:=IJ l
end Pu
namespace Zm
end Zm
namespace Db
open PySem
def RS(a b):((a &&& b) % 2=1) ↔ (a % 2=1/\b % 2=1):=Nat.and_mod_two_eq_one
def Ju(a:Nat):(a:Int) % 2=1 ↔ a % 2=1:=by lia
def Jt(a:Nat):(Int.negSucc a) % 2=1 ↔ ¬ a % 2=1:=by lia
def Xo(a c:Nat):((a:Int) - c) % 2=1 ↔ ¬ (a % 2=1 ↔ c % 2=1):=by lia
def zj6(x y):Builtin.bitAnd x y % 2=1 ↔ (x % 2=1/\y % 2=1):=by
 have d:∀a:Nat,Builtin.bitNot (Int.negSucc a)=(a:Int):=λa=>by
  unfold Builtin.bitNot
  lia
 cases x with
 |ofNat a=>
  cases y with
  |ofNat b=>show((a &&& b:Nat):Int) % 2=1 ↔ ((a:Int) % 2=1/\(b:Int) % 2=1);rw[Ju,Ju,Ju,RS]|negSucc b=>show((a:Int) - ((a &&& (Builtin.bitNot<|Int.negSucc b).toNat:Nat):Int)) % 2=1 ↔ ((a:Int) % 2=1/\(Int.negSucc b) % 2=1);rw[d,ï,Xo,Ju,Jt,RS];exact{λh=>{Ĵ λz=>h {λq=>absurd q z,λq=>q.1},λz=>h {λq=>{(q),z},λq=>q.1}},λh z=>h.2 (z.mp h.1).2}
 |negSucc a=>
  cases y with
  |ofNat b=>show((b:Int) - ((b &&& (Builtin.bitNot<|Int.negSucc a).toNat:Nat):Int)) % 2=1 ↔ ((Int.negSucc a) % 2=1/\(b:Int) % 2=1);rw[d,ï,Xo,Ju,Jt,RS];exact{λh=>{λz=>h {λq=>{(q),z},λq=>q.1},Ĵ λz=>h {λq=>absurd q z,λq=>q.1}},λh z=>h.1 (z.mp h.2).2}|negSucc b=>
   show(Builtin.bitNot (((Builtin.bitNot<|Int.negSucc a).toNat ||| (Builtin.bitNot<|Int.negSucc b).toNat:Nat):Int)) % 2=1 ↔ _
   have nb:∀c:Nat,Builtin.bitNot (c:Int)=Int.negSucc c:=λc=>by
    unfold Builtin.bitNot
    lia
   rw[d,d,ï,ï,nb,Jt,Jt,Jt,Nat.or_mod_two_eq_one];exact not_or
def zj5(x):Builtin.bitAnd x 1=x % 2:=by
 cases x with
 |ofNat a=>
  show((a &&& 1:Nat):Int)=(a:Int) % 2;rw[Nat.and_one_is_mod]
  rfl
 |negSucc a=>
  show((1:Nat):Int) - (((1:Nat) &&& (Builtin.bitNot<|Int.negSucc a).toNat:Nat):Int)=_;rw[show Builtin.bitNot (Int.negSucc a)=a by unfold Builtin.bitNot;lia,ï,Nat.and_comm,Nat.and_one_is_mod]
  lia
def bor_one(x y):Builtin.bitAnd (Builtin.bitOr x y) 1=max (x % 2) (y % 2):=by
 rw[zj5];have h:=zj6 (Builtin.bitNot x)<|Builtin.bitNot y;unfold Builtin.bitOr;change Builtin.bitAnd (Builtin.bitNot x) (Builtin.bitNot y)=c
 have nb:∀z:Int,Builtin.bitNot z % 2=1 - z % 2:=λz=>by
  unfold Builtin.bitNot
  lia
 rw[nb,nb]at h;rw[nb]
 rcases Ł x with e|e<;>rcases Ł y with f|f<;>rw[e,f]at h ⊢<;>rcases Ł c with g|g<;>rw[g]at h ⊢<;>revert h<;>decide
def bs(a b:Int):Int:=2 * (a / 2+b / 2)+min (a % 2) (b % 2)
def bs_eq(a b:Int):a+b - max (a % 2) (b % 2)=bs a b:=by unfold bs;lia
def zqg(a:Int):bs a 1=a:=by unfold bs;lia
def zp1(a:Int):bs 1 a=a:=by unfold bs;lia
def zmf(a b:Int):bs a b=bs b a:=by unfold bs;lia
def Zj(a b:Int):min (a % 2) (b % 2)=0\/min (a % 2) (b % 2)=1:=by
 rcases Ł a with e|e<;>rcases Ł b with f|f<;>rw[e,f]<;>decide
def gJ(a b:Int):bs a b / 2=a / 2+b / 2:=by
 have h:=Zj a b;unfold bs;change a / 2+b / 2=k;change min (a % 2) (b % 2)=m
 lia
def gI(a b:Int):bs a b % 2=min (a % 2) (b % 2):=by
 have h:=Zj a b;unfold bs;change a / 2+b / 2=k;change min (a % 2) (b % 2)=m
 lia
def zj4(a b c):bs (bs a b) c=bs a (bs b c):=by
 show 2 * (bs a b / 2+c / 2)+min (bs a b % 2) (c % 2)=2 * (a / 2+bs b c / 2)+min (a % 2) (bs b c % 2);rw[gJ,gJ,gI,gI,Int.add_assoc,Int.min_assoc]
def zme(h:a<=a')(h':b<=b'):bs a b<=bs a' b':=by unfold bs;lia
abbrev B:=kA
def le:B->B->Prop
 |ϊ,none=>True|none,↑ϊ=>False|some a,↑b=>a<=b
def add:B->B->B
 |some a,↑b=>↑(bs a b)|ϊ,ϋ=>none
def mn:B->B->B
 |none,b=>b|some a,none=>↑a|some a,↑b=>↑(min a b)
def le_refl(a:B):le a a:=by cases a<;>simp[le]
def le_trans(h:le a b)(h':le b c):le a c:=by
 cases a<;>cases b<;>cases c<;>simp_all [le]
 lia
def Sx(h:le a b)(h':le b a):a=b:=by
 cases a<;>cases b<;>simp_all [le]
 lia
def Ea(h:le a b)(h':le c d):le (add a c)<|add b d:=by
 cases a<;>cases b<;>cases c<;>cases d<;>simp_all [le,add]
 exact zme h h'
def add_comm(a b:B):add a b=add b a:=by
 cases a<;>cases b<;>simp[add,zmf]
def add_assoc(a b c):add (add a b) c=add a (add b c):=by
 cases a<;>cases b<;>cases c<;>simp[add,zj4]
def add_one(a:B):add a ↑1=a:=by cases a<;>simp[add,zqg]
def one_add(a:B):add ↑1 a=a:=by cases a<;>simp[add,zp1]
def mn_le(a b:B):le (mn a b) a:=by
 cases a<;>cases b<;>simp[le,mn]
 lia
def mn_le'(a b:B):le (mn a b) b:=by
 cases a<;>cases b<;>simp[le,mn]
 lia
def aO(h:le a b)(h':le a c):le a<|mn b c:=by
 cases a<;>cases b<;>cases c<;>simp_all [le,mn]
 lia
def RU{a b:B}(h:le a b):mn a b=a:=Sx (mn_le a b)<|aO (le_refl a) h
def Jy(a b):mn a b=a\/mn a b=b:=by
 cases a<;>cases b<;>simp[mn]
 lia
abbrev Z:=Nat->Nat->B
def free(i j:Nat):B:=if i=0\/i=j then ↑1 else none
def z0(f:Z):Z:=λi j=>mn (f i j)<|free i j
def stp(f:Z)(k:Nat):Z:=λi j=>mn (f i j)<|add (f i k)<|f k j
def fw(f:Z):Nat->Z
 |0=>z0 f|k+1=>stp (fw f k) k
def Brk(n:Nat)(f:Z):Prop:=∃i,i<n/\¬ le ↑1 (f i i)
def Sound(n:Nat)(f:Z):Prop:=∀k,k<n->¬ Brk n (fw f k)
def diag_le(f)(i):∀k,le (fw f k i i) ↑1
 |0=>by
  have h:=mn_le' (f i i)<|free i i;have e:free i i=↑1:=if_pos<|.inr rfl;rw[e]at h;show le (mn (f i i)<|free i i) _
  grind
 |k+1=>le_trans (mn_le _ _)<|diag_le f i k
def fw_le(f)(i j):∀k,le (fw f k i j)<|f i j
 |0=>mn_le _ _|k+1=>le_trans (mn_le _ _)<|fw_le f i j k
def b9(f)(i j):∀k,le (fw f k i j)<|z0 f i j
 |0=>le_refl _|k+1=>le_trans (mn_le _ _)<|b9 f i j k
def UJ(h:¬ Brk n (fw f k))(b:i<n):fw f k i i=↑1:=by
 refine Sx (diag_le f i k) ?_;cases Classical.em (le ↑1<|fw f k i i) with
 |inl a=>exact a|inr a=>exact(h {(i),b,a}).elim
def tri(h:Sound n f):∀k,k<=n->∀i j l,l<k->i<n->j<n->le (fw f k i j) (add (fw f k i l)<|fw f k l j)
 |0,ϊ,ϋ,ό,l,s,ύ,ώ=>by lia|k+1,hk,i,j,l,s,p,q=>by
  have o:=UJ (h k<|by lia)<|show k<n by lia
  have inv:=tri h k<|by lia
  show le (stp (fw f k) k i j)<|add (stp (fw f k) k i l)<|stp (fw f k) k l j;generalize t:fw f k=g at *
  by_cases e:l=k
  .subst e;have c:stp g l i l=g i l:=by unfold stp;rw[o,add_one];exact RU<|le_refl _
   have d:stp g l l j=g l j:=by unfold stp;rw[o,one_add];exact RU<|le_refl _
   rw[c,d];exact mn_le' _ _
  .have lk:l<k:=by lia
   have r:le (stp g k i j)<|g i j:=mn_le _ _;have m:le (stp g k i j)<|add (g i k)<|g k j:=mn_le' _ _
   rcases Jy (g i l) (add (g i k)<|g k l) with c|c<;>rcases Jy (g l j) (add (g l k)<|g k j) with d|d
   .have:stp g k i l=g i l:=c;have a:stp g k l j=g l j:=d;rw[this,a];exact le_trans r<|inv i j l lk p q
   .have b:stp g k i l=g i l:=c;have a:stp g k l j=add (g l k) (g k j):=d;rw[b,a,<- add_assoc];exact le_trans m<|Ea (inv i k l lk p<|by lia)<|le_refl _
   .have b:stp g k i l=add (g i k) (g k l):=c;have a:stp g k l j=g l j:=d;rw[b,a,add_assoc];exact le_trans m<|Ea (le_refl _)<|inv k j l lk (by lia) q
   .have b:stp g k i l=add (g i k) (g k l):=c;have a:stp g k l j=add (g l k) (g k j):=d;rw[b,a,add_assoc,<- add_assoc<|g k l];refine le_trans m<|Ea (le_refl _) ?_;have:=Ea (inv k k l lk (by lia)<|by lia)<|le_refl<|g k j
    rw[o,one_add]at this;exact this
structure Nar(n:Nat)(f:Z):Prop where
 diag:∀i,i<n->f i i=↑1
 row:∀j,j<n->le (f 0 j) ↑1
 tri:∀i j l,i<n->j<n->l<n->le (f i j) (add (f i l)<|f l j)
def nar(h:Sound n f):Nar n<|fw f n:=by
 have t:=tri h n<|Æ n;refine{λi a=>?_,λj b=>?_,λi j l a b d=>t i j l d a b}
 .refine Sx (diag_le f i n) ?_;cases n with
  |zero=>lia|succ m=>
   have c:=UJ (h m<|by lia)<|show m<m+1 by lia
   have g:=UJ (h m<|by lia) a
   refine aO (by rw[g];exact le_refl _) ?_
   by_cases e:i=m
   .subst e;rw[c];exact le_refl _
   .have:=Db.tri h m (by lia) m m i (by lia) (by lia)<|by lia
    rw[c,add_comm]at this;exact this
 .refine le_trans (b9 f 0 j n) ?_;have:=mn_le' (f 0 j)<|free 0 j;exact this
def sat(D:Int):B->Int->Prop
 |none,ϊ=>True|some c,d=>d<=c / 2 * D - 1+c % 2
set_option tactic.hygienic true in
def zjr(h:sat D a d)(h':sat D b e):sat D (add a b)<|d+e:=by
 cases a<;>cases b<;>erw[sat,add]at *
 rename_i a b;have c:bs a b / 2=a / 2+b / 2:=by unfold bs;lia
 have f:bs a b % 2=min (a % 2) (b % 2):=by unfold bs;lia
 rw[c,f,Int.add_mul]
 lia
set_option tactic.hygienic true in
def sat_le(c:0<D)(h:sat D a d)(e:le a b):sat D b d:=by
 cases a<;>cases b<;>erw[sat,le]at *
 rename_i a b
 rcases ī (a / 2) (b / 2) with q|q
 .have:(a / 2+1) * D<=b / 2 * D:=Ģ (by lia)<|by lia
  grind
 grind
def sat_mn(h:sat D a d)(h':sat D b d):sat D (mn a b) d:=by
 rcases Jy a b with e|e<;>rw[e]<;>assumption
def Lie(n:Nat)(D:Int)(X:Nat->Int)(f:Z):Prop:=∀i j,i<n->j<n->sat D (f i j) (X i - X j)
def lie_fw(d:X 0=0)(e:∀i,i<n->0<=X i)(h:Lie n D X f):∀k,k<=n->Lie n D X (fw f k)
 |0,ϊ,i,j,a,b=>by
  refine sat_mn (h i j a b) ?_;unfold free;split
  .erw[sat]
   grind
  .trivial
 |k+1,hk,i,j,a,b=>by
  have c:=lie_fw d e h k<|by lia
  refine sat_mn (c i j a b) ?_;have:=zjr (c i k a<|by lia)<|c k j (by lia) b
  grind
def lie_sound(m:0<D)(b:X 0=0)(d:∀i,i<n->0<=X i)(h:Lie n D X f):Sound n f:=by
 intro k hk ⟨i,a,g⟩;have q:=lie_fw b d h k (by lia) i i a a
 refine g ?_;cases e:fw f k i i with
 |none=>trivial|some c=>
  rw[e]at q;erw[sat,le]at *
  rcases ī (c / 2) 0 with j|j
  .have:c / 2 * D<=-1 * D:=Ģ (by lia)<|by lia
   lia
  .rcases ī 0 (c / 2) with l|l
   .lia
   grind
theorem lie_mono(c:0<D)(h:Lie n D X f)(d:∀i j,i<n->j<n->le (f i j) (g i j)):Lie n D X g:=λi j a b=>sat_le c (h i j a b)<|d i j a b
end Db
namespace Db
end Db
namespace Dv
open Db
def ins(f:Z)(a b:Nat)(e:B):Z:=λi j=>mn (f i j)<|add (f i a)<|add e<|f b j
def ins_nar{n:Nat}{f:Z}(h:Nar n f){a b:Nat}{e:B}(m:a<n)(o:b<n)(r:le ↑1<|add (f b a) e):Nar n<|ins f a b e:=by
 have one:∀x y z:B,le ↑1 z->le (add x y) (add (add x z) y):=λx y z s=>by
  have:=Ea (Ea (le_refl x) s)<|le_refl y
  rwa[add_one]at this
 refine{λi c=>?_,λj d=>le_trans (mn_le _ _)<|h.row j d,λi j l c d g=>?_}
 .show mn (f i i) _=_;rw[h.diag i c];refine RU ?_;have t:=h.tri b a i o m c;refine le_trans r ?_;have k:=Ea t<|le_refl e;refine le_trans k ?_;rw[add_comm e,<- add_assoc,add_comm<|f b i];exact le_refl _
 .have m1:le (ins f a b e i j)<|f i j:=mn_le _ _;have m2:le (ins f a b e i j)<|add (f i a)<|add e<|f b j:=mn_le' _ _;have u:ins f a b e i l=f i l\/ins f a b e i l=add (f i a) (add e<|f b l):=Jy _ _;have v:ins f a b e l j=f l j\/ins f a b e l j=add (f l a) (add e<|f b j):=Jy _ _
  rcases u with p|p<;>rcases v with q|q<;>rw[p,q]
  .exact le_trans m1<|h.tri i j l c d g
  .refine le_trans m2 ?_;rw[<- add_assoc<|f i l];exact Ea (h.tri i a l c m g)<|le_refl _
  .refine le_trans m2 ?_;rw[add_assoc,add_assoc];exact Ea (le_refl _)<|Ea (le_refl _)<|h.tri b j l o d g
  .refine le_trans m2 ?_;rw[add_assoc,add_assoc];refine Ea (le_refl _) ?_;have t:=h.tri b a l o m g;have w:le ↑1<|add (add (f b l)<|f l a) e:=le_trans r<|Ea t<|le_refl e;have k:=Ea (le_refl e)<|Ea w<|le_refl<|f b j;rw[one_add]at k;refine le_trans k ?_;rw[add_assoc,add_assoc];exact le_refl _
def Pr(f:Z)(p:Nat->Int)(i j:Nat):Prop:=∃c,f i j=↑c/\c % 2=0/\p i - p j=c / 2
open Classical in
def Fs(n:Nat)(f:Z)(p:Nat->Int)(j:Nat):Nat:=(List.range n).countP λi=>decide (Pr f p i j)
def LV(n:Nat)(f:Z)(p:Nat->Int):Prop:=∀i j c,i<n->j<n->f i j=↑c->p i - p j<=c / 2
def Vt{n:Nat}{f:Z}(h:Nar n f){p:Nat->Int}(o:LV n f p){i k j:Nat}(b:i<n)(hk:k<n)(e:j<n){c d:Int}(l:f i k=↑c)(m:f k j=↑d)(s:p i - p k=c / 2)(u:p k - p j=d / 2) :
  ∃g,f i j=↑g/\p i - p j=g / 2/\g % 2<=c % 2/\g % 2<=d % 2:=by
 have t:=h.tri i j k b e hk;rw[l,m]at t;cases a:f i j with
 |none=>rw[a]at t;exact t.elim|some g=>rw[a]at t;have q:=o i j g b e a;have r:g<=bs c d:=t;unfold bs at r;exact{g,rfl,by lia,by lia,by lia}
def fW{α:Type}{l:List α}{p q:α->Bool}(h:∀x∈l,p x=true->q x=true):l.countP p<=l.countP q:=List.countP_mono_left h
def Kk{α:Type}:∀{l:List α} {p q:α->Bool} {a:α},a∈l->(∀x∈l,p x=true->q x=true)->p a=false->q a=true->l.countP p<l.countP q
 |[],ϊ,ϋ,ό,h,ύ,ώ,Ϗ=>by cases h|x::l,p,q,a,h,b,d,e=>by
  rw[List.countP_cons,List.countP_cons];have i:=fW (l:=l) (p:=p) (q:=q) λy c=>b y<|Ê _ c;rcases Ì.mp h with rfl|f
  .erw[d,e];simp
   lia
  .have:=Kk f (λy c=>b y<|Ê _ c) d e
   cases g:p x with
   |false=>cases q x<;>simp<;>lia|true=>rw[b x (Í ..) g];simp;lia
def Qy{n:Nat}{f:Z}(h:Nar n f){p:Nat->Int}{j:Nat}(b:j<n):Fs n f p j<n:=by
 have:=Kk (l:=List.range n) (a:=j) (p:=λi=>@decide (Pr f p i j) (Classical.propDecidable _)) (q:=λϊ=>true) (á.mpr b) (λϊ ϊ ϊ=>rfl) ?_ rfl
 .rw[List.countP_eq_length.mpr<|λϊ ϊ=>rfl,Ļ]at this
  exact this
 .refine @decide_eq_false _ (Classical.propDecidable _) ?_;rintro⟨c,e,d,g⟩;rw[h.diag j b]at e;cases e
  lia
def zk2{n:Nat}{f:Z}(h:Nar n f){p:Nat->Int}(r:LV n f p){i j:Nat}(o:i<n)(q:j<n){c:Int}(e:f i j=↑c)(t:p i - p j=c / 2):Fs n f p i<=Fs n f p j:=by
 refine fW λk hk hd=>?_
 have a:=@of_decide_eq_true _ (Classical.propDecidable _) hd;refine @decide_eq_true _ (Classical.propDecidable _) ?_;let(d,b,u,m):=a;let(g,l,s,g1,g2):=Vt h r (á.mp hk) o q b e m t;exact{g,l,by lia,s}
def zh6{n:Nat}{f:Z}(h:Nar n f){p:Nat->Int}(v:LV n f p){i j:Nat}(m:i<n)(u:j<n){c:Int}(e:f i j=↑c)(o:c % 2=0)(t:p i - p j=c / 2):Fs n f p i<Fs n f p j:=by
 refine Kk (a:=i) (á.mpr m) (λk hk hd=>?_) ?_ ?_
 .have l:=@of_decide_eq_true _ (Classical.propDecidable _) hd;refine @decide_eq_true _ (Classical.propDecidable _) ?_;let(d,b,s,q):=l;let(g,r,w,g1,g2):=Vt h v (á.mp hk) m u b e q t;exact{g,r,by lia,w}
 .refine @decide_eq_false _ (Classical.propDecidable _) ?_;rintro⟨d,b,s,q⟩;rw[h.diag i m]at b;cases b
  lia
 .exact @decide_eq_true _ (Classical.propDecidable _) {(c),e,o,t}
def vals_of{n:Nat}{f:Z}(h:Nar n f){p:Nat->Int}(d:LV n f p){u:Int}(k:(n:Int)<=u):∃q:Nat->Int,(∀i,i<n->0<=q i/\q i<n)/\Lie n u (λi=>p i * u+q i) f:=by
 refine{λi=>(Fs n f p i:Nat),λi a=>{ſ _,Ĝ.mpr<|Qy h (p:=p) a},λi j a b=>?_}
 cases e:f i j with
 |none=>trivial|some c=>
  erw[sat];have l:=Qy h (p:=p) a;have m:=Qy h (p:=p) b;have q:=d i j c a b e
  have g:p i * u+(Fs n f p i:Int) - (p j * u+(Fs n f p j:Int))=(p i - p j) * u+((Fs n f p i:Int) - Fs n f p j):=by
   rw[Ň];lia
  rw[g]
  by_cases t:p i - p j=c / 2
  .rw[t];have r1:=zk2 h d a b e t
   by_cases o:c % 2=0
   .have r:=zh6 h d a b e o t
    lia
   .lia
  .have:(p i - p j+1) * u<=c / 2 * u:=Ģ (by lia)<|by lia
   rw[Int.add_mul,Int.one_mul]at this
   lia
def low(f:Z)(j:Nat):Int:=match f 0 j with
 |some c=>-(c / 2)|none=>0
def low_feas{n:Nat}{f:Z}(h:Nar n f)(m:0<n):LV n f (low f)/\low f 0=0:=by
 refine{λi j c k l e=>?_,?_}
 .have t:=h.tri 0 j i m l k;have r1:=h.row i k;have o:=h.row j l;unfold low;cases d:f 0 i with
  |none=>rw[d]at r1;exact r1.elim|some a=>
   cases g:f 0 j with
   |none=>rw[g]at o;exact o.elim|some b=>
    rw[d,g,e]at t;have p:b<=bs a c:=t;unfold bs at p;simp only
    lia
 .unfold low;rw[h.diag 0 m]
  rfl
abbrev Lim:=Nat×Nat×Int
def Ok(L:List Lim)(w:Nat->Int):Prop:=∀x∈L,w x.1 - w x.2.1<=x.2.2
def pt(v:Nat->Int)(j:Nat)(a:Int):Nat->Int:=λk=>if k=j then a else v k
def rz:List Lim->(Nat->Int)->Bool->(Nat->Int)×Bool
 |[],v,b=>(v,b)|(i,j,m)::L,v,b=>if v j<v i - m then rz L (pt v j<|v i - m) true else rz L v b
set_option tactic.hygienic true in
def Jj:∀(L:List Lim) (v:Nat->Int) (b:Bool) (k:Nat),v k<=(rz L v b).1 k
 |[],ϊ,ϋ,ό=>ö _|(i,j,m)::L,v,b,k=>by
  unfold rz;split
  .refine ē ?_<|Jj L _ _ k;unfold pt;split
   .rename_i c a;rw[a]
    lia
   .exact ö _
  .exact Jj L v b k
set_option tactic.hygienic true in
def rz_le{w:Nat->Int}:∀(L:List Lim) (v:Nat->Int) (b:Bool),Ok L w->(∀k,v k<=w k)->∀k,(rz L v b).1 k<=w k
 |[],ϊ,ϋ,ό,h,k=>h k|(i,j,m)::L,v,b,a,h,k=>by
  have e:=a (i,j,m) (Í ..);have o2:Ok L w:=λx d=>a x<|Ê _ d
  unfold rz;split
  .refine rz_le L _ _ o2 (λk=>?_) k
   unfold pt;split
   .rename_i c;rw[c];have:=h i;simp only at e
    lia
   .exact h k
  .exact rz_le L v b o2 h k
def Q8:∀(L:List Lim) (v:Nat->Int),(rz L v true).2=true
 |[],ϊ=>rfl|(i,j,m)::L,v=>by
  unfold rz;split
  .exact Q8 L _
  .exact Q8 L v
set_option tactic.hygienic true in
def rz_false:∀(L:List Lim) (v:Nat->Int),(rz L v false).2=false->(rz L v false).1=v/\Ok L v
 |[],v,ϊ=>{rfl,λx a=>by cases a}|(i,j,m)::L,v,h=>by
  unfold rz at h ⊢;split at h
  .rw[Q8]at h;cases h
  .rename_i b;rw[if_neg b];let(e,o):=rz_false L v h;refine{e,λx a=>?_};rcases Ì.mp a with rfl|a
   .simp only
    lia
   .exact o x a
def rz_ok:∀(L:List Lim) (v:Nat->Int),Ok L v->rz L v false=(v,false)
 |[],ϊ,ϋ=>rfl|(i,j,m)::L,v,h=>by
  have b:=h (i,j,m) (Í ..);unfold rz;rw[if_neg (by simp only at b;lia)]
  exact rz_ok L v λx a=>h x<|Ê _ a
set_option tactic.hygienic true in
def Q9{w:Nat->Int}:∀(L:List Lim) (v:Nat->Int) (b:Bool),Ok L w->(∀k,v k<=w k)->∀i j m,(i,j,m)∈L->v i=w i->w i - m<=(rz L v b).1 j
 |[],ϊ,ϋ,ό,ύ,ώ,Ϗ,ϐ,a,ϑ=>by cases a|(g,n,o)::L,v,b,l,h,i,j,m,a,e=>by
  have r:=l (g,n,o) (Í ..);have o2:Ok L w:=λx a=>l x<|Ê _ a
  unfold rz;split
  .rename_i p
   have d:∀k,pt v n (v g - o) k<=w k:=λk=>by
    unfold pt;split
    .rename_i c;rw[c];have:=h g;simp only at r
     lia
    .exact h k
   rcases Ì.mp a with q|q
   .cases q;refine ē ?_<|Jj L _ _ _;unfold pt;rw[if_pos rfl]
    lia
   .refine Q9 L _ _ o2 d i j m q ?_;have f:=d i;unfold pt at f ⊢;split
    .rename_i c;rw[if_pos c]at f;rw[c]at e ⊢;rw[c]at f
     lia
    .exact e
  .rename_i p
   rcases Ì.mp a with q|q
   .cases q;refine ē ?_<|Jj L _ _ _
    lia
   .exact Q9 L v b o2 h i j m q e
def tn(L:List Lim):Nat->(Nat->Int)->Option (Nat->Int)
 |0,ϊ=>none|t+1,v=>if (rz L v false).2 then tn L t (rz L v false).1 else ↑(rz L v false).1
def sm(n:Nat)(w:Nat->Int):Int:=((List.range n).map w).sum
def In(n:Nat)(L:List Lim):Prop:=∀x∈L,x.1<n/\x.2.1<n
def WV:∀(l:kG) (v w:Nat->Int),(∀k∈l,v k<=w k)->(l.map v).sum<=(l.map w).sum
 |[],ϊ,ϋ,ό=>ö _|k::l,v,w,h=>by
  erw[Ï,ł];have b:=h k (Í ..);have c:=WV l v w λx a=>h x<|Ê _ a
  lia
def Lp:∀(l:kG) (v w:Nat->Int) (a:Nat),a∈l->(∀k∈l,v k<=w k)->v a<w a->(l.map v).sum<(l.map w).sum
 |[],ϊ,ϋ,ό,h,ύ,ώ=>by cases h|k::l,v,w,a,b,h,d=>by
  erw[Ï,ł];have e:=h k (Í ..);have f:=WV l v w λx c=>h x<|Ê _ c;rcases Ì.mp b with rfl|b
  .lia
  .have g:=Lp l v w a b (λx c=>h x<|Ê _ c) d
   lia
def WS:∀(l:kG) (w:Nat->Int),(∀k∈l,0<=w k)->0<=(l.map w).sum
 |[],ϊ,ϋ=>ö _|k::l,w,h=>by
  erw[Ï,ł];have b:=h k (Í ..);have c:=WS l w λx a=>h x<|Ê _ a
  lia
def aN{n:Nat}{L:List Lim}:∀(s:Nat) (w:Nat->Int),Ok L w->(∀k,0<=w k)->sm n w<=s->∃w',Ok L w'/\(∀k,0<=w' k)/\∀w'',Ok L w''->(∀k,0<=w'' k)->sm n w'<=sm n w''
 |s,w,c,b,d=>by
  by_cases q:∃w'',Ok L w''/\(∀k,0<=w'' k)/\sm n w''<sm n w
  .let(w2,o2,a,l2):=q;cases s with
   |zero=>
    have:=WS (List.range n) w2 λk ϊ=>a k
    unfold sm at *
    lia
   |succ s=>exact aN s w2 o2 a<|by lia
  .refine{w,c,b,λw2 o2 a=>?_}
   rcases ī (sm n w2) (sm n w) with h|h
   .exact(q {(w2),o2,a,h}).elim
   .exact h
def Lh(n:Nat)(v w:Nat->Int):Nat:=(List.range n).countP λk=>decide (v k≠w k)
section
variable {n:Nat}{L:List Lim}{w:Nat->Int}(hi:In n L)(ho:Ok L w)(hn:∀k,0<=w k)(hm:∀w',Ok L w'->(∀k,0<=w' k)->sm n w<=sm n w')
include hi ho hn hm
open Classical in
set_option tactic.hygienic true in
def hang{v:Nat->Int}(c:∀k,0<=v k)(o:∀k,v k<=w k){k:Nat}(hk:k<n)(hd:v k≠w k):∃i j m,(i,j,m)∈L/\v i=w i/\v j≠w j/\w j=w i - m:=by
 by_cases q:∃i j m,(i,j,m)∈L/\v i=w i/\v j≠w j/\w j=w i - m
 .exact q
 exfalso
 have lt:∀j,v j≠w j->0<w j:=λj a=>by
  have d:=c j;have r:=o j
  lia
 have o2:Ok L (λj=>if v j≠w j then w j - 1 else w j):=by
  rintro⟨i,j,m⟩ f;have d:=ho _ f;simp only at d ⊢
  by_cases a:v j≠w j
  .rw[if_pos a]
   by_cases b:v i≠w i
   .rw[if_pos b];lia
   .rw[if_neg b];have l:w j≠w i - m:=λe=>q {i,j,m,f,by simpa using b,a,e}
    lia
  .rw[if_neg a];split<;>lia
 have p:∀j,0<=(λj=>if v j≠w j then w j - 1 else w j) j:=λj=>by
  show 0<=(if v j≠w j then w j - 1 else w j)
  split
  .rename_i h;have:=lt j h;lia
  .exact hn j
 have g:=hm _ o2 p
 have s:=Lp (List.range n) (λj=>if v j≠w j then w j - 1 else w j) w k (á.mpr hk) (λj ϊ=>by
  show(if v j≠w j then w j - 1 else w j)<=w j
  split<;>lia) (by
  show(if v k≠w k then w k - 1 else w k)<w k
  rw[if_pos hd]
  lia)
 unfold sm at g
 lia
def Vo:∀(t:Nat) (v:Nat->Int),(∀k,0<=v k)->(∀k,v k<=w k)->(∀k,n<=k->v k=w k)->Lh n v w<=t->∃v',tn L (t+1) v=↑v'/\Ok L v'/\∀k,v' k=w k
 |t,v,d,b,h,E=>by
  have r:=Jj L v false;have le:=rz_le L v false ho b;unfold tn;cases g:(rz L v false).2 with
  |false=>
   let(e,o):=rz_false L v g;refine{v,by simp[e],o,λk=>?_}
   have B:sm n w<=sm n v:=hm v o d
   by_cases hk:k<n
   .rcases ī (v k) (w k) with q|q
    .have:=Lp (List.range n) v w k (á.mpr hk) (λj ϊ=>b j) q
     unfold sm at B
     lia
    .have:=b k;lia
   .exact h k<|by lia
  |true=>
   rw[if_pos rfl]
   have ex:∃k,k<n/\v k≠w k:=by
    refine Ĵ λq=>?_
    have e:v=w:=funext λk=>by
     by_cases hk:k<n
     .exact Ĵ λz=>q {(k),hk,z}
     .exact h k<|by lia
    rw[e,rz_ok L w ho]at g;cases g
   let(k,hk,hd):=ex;let(i,j,m,c,u,y,D):=hang hi ho hn hm d b hk hd;have C:=(hi _ c).2
   have A:(rz L v false).1 j=w j:=by
    have f:=Q9 L v false ho b i j m c u;have s:=le j
    lia
   have HH:Lh n (rz L v false).1 w<Lh n v w:=by
    unfold Lh;refine Kk (a:=j) (á.mpr C) (λx ϊ c=>?_) ?_ ?_
    .have p:=ì c;refine É λe=>p ?_
     have f:=r x;have s:=le x
     lia
    .exact Ù λz=>z A
    .exact É y
   cases t with
   |zero=>lia|succ t=>
    have l:∀k,n<=k->(rz L v false).1 k=w k:=λk hk=>by
     have f:=r k;have s:=le k;rw[h k hk]at f
     lia
    exact Vo t _ (λk=>ē (d k)<|r k) le l<|by lia
end
set_option tactic.hygienic true in
def tn_ok{n:Nat}{L:List Lim}{w:Nat->Int}(r:0<n)(i:In n L)(H:Ok L w)(G:∀k,k<n->0<=w k):∃v,tn L n (λϊ=>0)=↑v/\Ok L v/\(∀k,0<=v k)/\∃k,k<n/\v k=0:=by
 have t:Ok L (λk=>if k<n then w k else 0):=λx c=>by
  let(f,g):=i x c;erw[f,g,Å];exact H x c
 have s:∀k,0<=(λk=>if k<n then w k else 0) k:=λk=>by
  show 0<=(if k<n then w k else 0)
  split
  .exact G k<|by assumption
  .exact ö _
 let(w2,o2,J,m2):=aN (n:=n) (L:=L) (sm n λk=>if k<n then w k else 0).toNat _ t s<|by lia
 have o3:Ok L (λk=>if k<n then w2 k else 0):=λx c=>by
  let(f,g):=i x c;erw[f,g,Å];exact o2 x c
 have j:∀k,0<=(λk=>if k<n then w2 k else 0) k:=λk=>by
  show 0<=(if k<n then w2 k else 0)
  split
  .exact J k
  .exact ö _
 have D:sm n (λk=>if k<n then w2 k else 0)=sm n w2:=by
  unfold sm;rw[ĥ λk hk=>?_]
  rw[if_pos<|á.mp hk]
 generalize I:(λk=>if k<n then w2 k else 0)=w3 at *
 have C:∀h,Ok L h->(∀k,0<=h k)->sm n w3<=sm n h:=λh a b=>by rw[D];exact m2 h a b
 have M:∀k,n<=k->w3 k=0:=λk hk=>by rw[<- I];exact if_neg<|by lia
 have N:∃k,k<n/\w3 k=0:=by
  refine Ĵ λq=>?_
  have u:∀k,k<n->0<w3 k:=λk hk=>by
   have r:=j k;have O:w3 k≠0:=λe=>q {(k),hk,e}
   lia
  have K:Ok L (λk=>if k<n then w3 k - 1 else 0):=λx c=>by
   let(f,g):=i x c;have:=o3 x c;erw[f,g,Å]
   lia
  have E:=C _ K λk=>by
   show 0<=(if k<n then w3 k - 1 else 0)
   split
   .rename_i hk;have:=u k hk;lia
   .exact ö _
  have P:=Lp (List.range n) (λk=>if k<n then w3 k - 1 else 0) w3 0 (á.mpr r) (λk hk=>by
   show(if k<n then w3 k - 1 else 0)<=w3 k
   rw[if_pos<|á.mp hk]
   lia) (by
   show(if 0<n then w3 0 - 1 else 0)<w3 0
   rw[if_pos r]
   lia)
  unfold sm at E
  lia
 let(B,d,y):=N;let(m,rfl):∃m,n=m+1:={n - 1,by lia}
 let(v,e,o,A):=Vo i o3 j C m (λϊ=>0) (λϊ=>ö _) j (λk hk=>(M k hk).symm) (by
  have F:=Kk (l:=List.range<|m+1) (a:=B) (p:=λk=>decide ((0:Int)≠w3 k)) (q:=λϊ=>true) (á.mpr d) (λϊ ϊ ϊ=>rfl) (Ù λz=>z y.symm) rfl
  rw[List.countP_eq_length.mpr<|λϊ ϊ=>rfl,Ļ]at F
  show(List.range<|m+1).countP (λk=>decide ((0:Int)≠w3 k))<=m
  lia)
 exact{v,e,o,λk=>by rw[A];exact j k,B,d,by rw[A];exact y}
end Dv
namespace Dm
open Db
end Dm
namespace Df
open Db Dv
structure St(n:Nat)(f:Z)(u l:Nat->B):Prop where
 nar:Nar n f
 c1:∀i,0<i->i<n->le ↑1 (add (f 0 i)<|u i)
 c2:∀i,0<i->i<n->le ↑1 (add (l i)<|f i 0)
 c3:∀i j,0<i->0<j->i<n->j<n->le ↑1 (add (l i)<|add (f i j)<|u j)
def Sm(D:Int)(m:B)(x:Int):Prop:=match m with
 |none=>True|some m=>x<=m * D
end Df
namespace Dk
open Db Dv
end Dk
namespace Pu
open PySem PySem.Spec PyProof.Rows L2 Zw Zx
def mT(n:Nat)(g:Nat->T):kL:=(List.range n).map g
def nl0:((0:Nat):Int)=0:=rfl
def nl1:((1:Nat):Int)=1:=rfl
def nl2:((2:Nat):Int)=2:=rfl
def nl3:((3:Nat):Int)=3:=rfl
def nl4:((4:Nat):Int)=4:=rfl
def nl5:((5:Nat):Int)=5:=rfl
def nl6:((6:Nat):Int)=6:=rfl
def nl7:((7:Nat):Int)=7:=rfl
def nl8:((8:Nat):Int)=8:=rfl
def nl9:((9:Nat):Int)=9:=rfl
def zpg{k:Nat}(h:k<=100000):(k<=BW)=True:=eq_true (by unfold BW;lia)
def zpf{k:Nat}(h:k<100000):(k<BW)=True:=eq_true (by unfold BW;lia)
section
variable {n:Nat}{g h:Nat->T}
def BO:(mT n g).length=n:=by simp[mT]
def EB{i:Nat}(a:i<n):(mT n g)[i]?=↑(g i):=by simp[mT,a]
def Gs(e:(mT n g)[i]?=↑t):i<n/\t=g i:=by
 have a:i<n:=by
  rcases Nat.lt_or_ge i n with q|q
  .exact q
  .rw[Ą (by rw[BO];exact q)]at e
   cases e
 rw[EB a]at e;exact{a,by injection e with e;exact e.symm}
def EC(a:l.length=n)(h:∀i,i<n->l[i]?=↑(g i)):l=mT n g:=by
 refine List.ext_getElem? λi=>?_
 rcases Nat.lt_or_ge i n with q|q
 .rw[h i q,EB q]
 .rw[Ą (by lia),Ą (by rw[BO];exact q)]
def E4(e:∀i,i<n->g i=h i):mT n g=mT n h:=EC BO λi a=>by rw[EB a,e i a]
def CY{k:Nat}(a:k<n):AW (mT n g) (k:Int)=↑(g k):=C7<|EB a
def zpb(b:t∈mT n g):∃i,i<n/\t=g i:=by
 let(i,a,e):=Ó.mp b;exact{i,á.mp a,e.symm}
def Lz:BQ (mT n g)=mT n λi=>(g i).share:=by
 rw[FW];unfold mT;rw[ü]
 rfl
def IL(e:∀i,(g i).sh=true):A4 (mT n g)=true:=by
 rw[De,ã];intro t a;obtain⟨i,-,rfl⟩:=zpb a;exact e i
def Fm(xs:Nat->Int):A4 (mT n λi=>.int<|xs i)=true:=IL λϊ=>rfl
def Ig:mT n g++[g n]=mT (n+1) g:=by
 unfold mT;rw[List.range_succ,è]
 rfl
def Zr{α:Type}(t:α->T)(xs:Nat->α)(r):mT n (λj=>t<|xs j)++[t r]=mT (n+1) λj=>t (if j=n then r else xs j):=by
 rw[<- Ig,if_pos rfl,E4 (g:=λj=>t (if j=n then r else xs j)) (h:=λj=>t<|xs j) λj a=>by rw[if_neg<|by lia]]
def fE:∀(l) (k i:Nat) (t),l[i]?=↑t->(E9 k l)[i]?=↑(.tup [.int (k+i:Nat),t])
 |[],ϊ,ϋ,ό,e=>by simp at e|x::r,k,0,t,e=>by
  simp at e;subst e
  rfl
 |x::r,k,i+1,t,e=>by
  rw[E9,ŋ];have:=fE r (k+1) i t<|by simpa using e
  rw[this,show k+1+i=k+(i+1) by lia]
def fD:∀(l) (k),(E9 k l).length=l.length
 |[],ϊ=>rfl|x::r,k=>by rw[E9,Ö,Ö,fD r]
def UD:E9 0 (mT n g)=mT n λi=>.tup [.int i,g i]:=by
 refine EC (by rw[fD,BO]) λi a=>?_
 rw[fE _ _ _ _<|EB a,Ş]
def zmj:DO (mT n g) (mT n h)=mT n λi=>.tup [g i,h i]:=by
 refine EC (by simp[DO,BO]) λi a=>?_
 unfold DO;rw[ő,EB a,EB a]
theorem zh7(a:Int):Br a n=mT n λi=>.int<|a+(i:Int):=rfl
def Ci:Br 0 n=mT n λi=>.int (i:Int):=by
 rw[zh7];simp
def consT(x:T)(g:Nat->T):Nat->T
 |0=>x|i+1=>g i
def zma(x):x::mT n g=mT (n+1) (consT x g):=by
 refine EC (by rw[Ö,BO]) λi a=>?_
 cases i with
 |zero=>rfl|succ i=>rw[ŋ,EB<|by lia];rfl
theorem mT_of(l)(d):l=mT l.length λi=>l.getD i d:=EC rfl λi a=>by
 rw[Ú,Â a];rfl
theorem Ie:(mT n g).set i v=mT n λj=>if j=i then v else g j:=EC (by simp[BO]) λj a=>by
 rw[List.getElem?_set,BO]
 by_cases e:i=j
 .subst e;simp[a]
 .erw[e,Ã];rw[EB a,if_neg<|λq=>e q.symm]
variable {b:T->AN->Option AN}{body:AG}{me:AI}{Y:AN}
def K8(I:Nat->AN->Prop)(a:I 0 Y)(f:∀i Y,i<n->I i Y->∃τ1,b (g i) Y=↑τ1/\∃τ2,body τ1=↑(.nx τ2)/\I (i+1) τ2):∃Y',Ak b body (mT n g) Y=↑(.nx Y')/\I n Y':=by
 have:=FJ I a λi t Y e c=>by
  let(d,rfl):=Gs e;exact f i Y d c
 rwa[BO]at this
def zlz(p:Nat->Prop)(v )(I:Nat->AN->Prop)(o:I 0 Y)
  (s:∀i Y,i<n->(∀j,j<i->p j)->I i Y->∃τ1,b (g i) Y=↑τ1/\((p i/\∃τ2,(body τ1=↑(.nx τ2)\/body τ1=↑(.ct τ2))/\I (i+1) τ2)\/(¬ p i/\body τ1=↑(.rt v)))) :
  ((∀i,i<n->p i)/\∃Y',Ak b body (mT n g) Y=↑(.nx Y')/\I n Y')\/((∃i,i<n/\¬ p i)/\Ak b body (mT n g) Y=↑(.rt v)):=by
 have:=zfx (b:=b) (body:=body) (ts:=mT n g) (Y:=Y) (λi Y=>(∀j,j<i->p j)/\I i Y) (λw=>w=v/\∃i,i<n/\¬ p i) {λj k=>by lia,o} λi t Y e d=>by
  let(h,rfl):=Gs e;let(τ1,m,q):=s i Y h d.1 d.2;refine{τ1,m,?_}
  rcases q with ⟨f,τ2,a,l⟩|⟨f,a⟩
  .refine .inl {τ2,a,λj k=>?_,l}
   rcases Nat.lt_succ_iff_lt_or_eq.mp k with q|rfl
   .exact d.1 j q
   .exact f
  .exact .inr {(v),a,rfl,i,h,f}
 rw[BO]at this
 rcases this with ⟨Y',e,r,c⟩|⟨w,e,rfl,c⟩
 .exact .inl {(r),Y',e,c}
 .exact .inr {(c),e}
def EH{cs:AN}(d:∀i,i<n->me (↑(g i)::cs)=↑(.v (f i) false)):Bi (AD 0) (mC<|.bl true) me (mT n g) (x::cs)=↑(mT n f):=by
 have:=Ij (b:=AD 0) (ts:=mT n g) (λϊ Y=>∃y,Y=y::cs) f {(x),rfl} λi t Y e a=>by
  let(c,rfl):=Gs e;let(y,rfl):=a;exact{↑(g i)::cs,by simp[AD],d i c,_,rfl}
 rw[this,BO]
 rfl
def Fe{u w f:Nat->T}  {cs:AN}(d:∀i,i<n->me (↑(u i)::↑(w i)::cs)=↑(.v (f i) false)):Bi (An 2<|AL (AD 0)<|AL (AD 1) Ao) (mC<|.bl true) me (mT n λi=>.tup [u i,w i]) (x::y::cs)=↑(mT n f):=by
 have:=Ij (b:=An 2<|AL (AD 0)<|AL (AD 1) Ao) (ts:=mT n λi=>.tup [u i,w i]) (λϊ Y=>∃x y,Y=x::y::cs) f {(x),y,rfl} λi t Y e a=>by
  let(c,rfl):=Gs e;let(x,y,rfl):=a;exact{↑(u i)::↑(w i)::cs,by rfl,d i c,_,_,rfl}
 rw[this,BO]
 rfl
end
def bT:Db.B->T
 |none=>.non|some i=>.int i
def g9:bT none=.non:=rfl
def gY(i:Int):bT ↑i=.int i:=rfl
abbrev rT(n:Nat)(f:Nat->Db.B):T:=.lst<|mT n λj=>bT<|f j
abbrev zT(n:Nat)(f:Db.Z):T:=.lst<|mT n λi=>rT n<|f i
def Ul(b:Db.B):(bT b).sh=true:=by cases b<;>rfl
def gZ(b:Db.B):(bT b).share=bT b:=by cases b<;>rfl
def JD(p):G1 (mT n λi=>.bl<|p i)=↑((List.range n).map p):=by
 unfold mT;generalize List.range n=l
 induction l with
 |nil=>rfl|cons x r a=>erw[Ï,G1,a]
def MP(n)(f):(rT n f).share=rT n f:=by
 unfold T.share;rw[Lz];erw[gZ]
def RB(n)(f):(rT n f).sh=true:=by
 unfold T.sh;rw[IL λi=>Ul _]
 rfl
def zgr(n)(f):(zT n f).share=zT n f:=by
 unfold T.share;rw[Lz];erw[MP]
def VN(n)(f):(zT n f).sh=true:=by
 unfold T.sh;rw[IL λi=>RB n _]
 rfl
def EZ{n:Nat}(h:n<=100000):CI n=true:=@decide_eq_true _ (Classical.propDecidable _) {by lia,by lia}
def bA{n:Nat}(h:n<=100000):KU n=true:=@decide_eq_true _ (Classical.propDecidable _) {by lia,by lia}
def XC(n)(t):(List.replicate n [t]).flatten=mT n λϊ=>t:=by
 induction n with
 |zero=>rfl|succ n a=>
  rw[List.replicate_succ,List.flatten_cons,a,List.singleton_append,zma];refine E4 λi ϊ=>?_
  cases i<;>rfl
def IH:∀ys ,EJ (ys.map T.str)=↑ys
 |[]=>rfl|y::r=>by
  show(match EJ (r.map T.str) with|some l=>↑(y::l)|none=>none)=_
  rw[IH r]
def AV:∀ys:kE,BQ (ys.map T.str)=ys.map T.str
 |[]=>rfl|y::r=>by
  show T.str y::BQ (r.map T.str)=_;rw[AV r]
  rfl
def AS:∀ys:kE,A4 (ys.map T.str)=true
 |[]=>rfl|y::r=>by
  show(true && A4 (r.map T.str))=true;rw[AS r]
  rfl
def CD(ys:kE):Prop:=∀y∈ys,PyData.strOk y=true
def Xc:∀ys:kE,Ez (ys.map T.str)=true
 |[]=>rfl|y::r=>by
  show(true && Ez (r.map T.str))=true;rw[Xc r]
  rfl
def aS:∀{ys},CD ys->PyData.canLayAll0 (Bj<|ys.map T.str)=true/\PyData.depthAll (Bj<|ys.map T.str)=0
 |[],ϊ=>{(rfl),rfl}|y::r,h=>by
  let(a,b):=aS λx d=>h x<|Ê _ d
  have c:=h y (Í ..);rw[Ï,Bj,PyData.canLayAll0,PyData.depthAll,a,b,T.data,PyData.canLay0,c,PyData.depth];simp
def Kg(a:PyData.strOk x=true)(b:PyData.strOk y=true):Au (.str x) (.str y)=↑(.bl<|decide (x=y)):=by
 have e:(x == y)=decide (x=y):=by rfl
 unfold Au HF E8 JC;erw[T.data,T.pln,PyData.canLay0,PyData.depth,PyData.eqv,a,b,e];simp
theorem Fit.str(h:PyData.strOk x=true)(n):Fit (.str x) n:={by unfold E8;rw[T.data,PyData.canLay0,h];rfl,rfl,by simp[T.data,PyData.depth]}
def hV(x):∀ys:kE,((Bj<|ys.map T.str).any λy=>PyData.eqv y<|.str x)=decide (x∈ys)
 |[]=>by rfl|y::r=>by
  have e:(y == x)=decide (x=y):=by grind
  rw[Ï,Bj,List.any_cons,hV x r,T.data,PyData.eqv,e,Bool.eq_iff_iff,Ē,ê,ê,ê,Ì]
def Iq(h:CD ys)(c:PyData.strOk x=true):ES (.str x) (.nd o k<|ys.map T.str)=↑(.bl<|decide (x∈ys)):=by
 have ok:Ir (.str x) (ys.map T.str)=true:=by
  let(a,b):=aS h;unfold Ir E8;rw[Xc,a,b,T.data,PyData.canLay0,c]
  rfl
 unfold ES;simp only;rw[if_pos ok];unfold TX;rw[T.data,hV]
end Pu
namespace Tx
open PySem PySem.NumText
abbrev cs(x:Str):kG:=x.cps.toList
def dg(n:Nat):Str:=Str.ofString<|toString ((n:Nat):Int)
section
variable {x y:Str}{c:Nat}(hA:∀k,(cs x)[k]?=↑c->StrLaws.At x y x.length k)
include hA
end
end Tx
namespace Hd
open PySem PySem.W PySem.Calls PyProof.Rows
def K3(st:SharedT->Thread->Option (SharedT×Thread))(ok:Thread->Bool):Nat->SharedT->Thread->Option SharedT
 |0=>λϊ ϊ=>none|n+1=>λs t=>bif through t then ↑s else bif ok t then (st s t).elim none λx=>K3 st ok n x.1 x.2 else none
def zlt(n):∀(s) (t) (r),
  K3 (stepT (denote tb) p w) (stepOk m ann) n s t=↑r->topRun tb p w m ann n s.abs t=↑r.abs:=by
 induction n with
 |zero=>intro s t r h;exact nomatch h
 |succ n d=>
  intro s t r h;rw[K3]at h;dsimp only at h;rw[topRun];cases a:through t with
  |true=>rw[a]at h;cases h;rfl|false=>
   rw[a]at h;cases b:stepOk m ann t with
   |false=>rw[b]at h;exact nomatch h
   |true=>
    rw[b]at h;cases c:stepT (denote tb) p w s t with
    |none=>rw[c]at h;exact nomatch h
    |some x=>rw[c]at h;rw[stepT_spec (s':=x.1) (t':=x.2) c];exact d _ _ _ h
def MC(p q:Program)(loose:kE)(Xt:Shared->Bool){α:Type}(Yf:Shared->α)(h:Heap)(s:Shared):=
 ((staticsOk (importedModules p.main.body) h s.heap && namesBound p s.heap && gensDone s && laidKept h s.heap),openSeen q loose (importedModules p.main.body) Xt true s,Yf s)
theorem zlj{Ya:World->α}{N M m:Nat}{bt:Params->BT}{l:Params->Life}{st:World->SharedT->Thread->Option (SharedT×Thread)}(d:∀w,stepT (denote treeTable) p w=st w)(hok:stepOk m ann=ok)
  (e:opening p=plainProg p.main.scope.names) (o:Nat.ble 600 N=true) (f:∀s,fenceModules? p s=↑s) (n:Nat.ble M N=true)
  (u:∀P,absHeap (bt P) m (l P)=boot_heap P) (v:∀P,(boot_heap P).isNs mainGlobals=true) (hz:∀P,(boot_heap P).objs.size=m) (t:∀P,(boot_heap P).nsMap mainGlobals "__annotations__"=ann)
  (h:∀(w ) (os ),(K3 (st w) ok M {bt w.params,m,l w.params,Array.mk [],boot_drawn,boot_toks,os}<|topStub p).map (λs=>MC p q loose Xt Yf (boot_heap w.params) s.abs)=↑(true,openGood q loose,Ya w)) :
  LeftO p q loose Xt Yf Ya N true:=λw=>by
 let((z,y,x,A,os),c,i):=Ø.mp<|boot_open e o f w;erw[Prod.mk.injEq]at i;let(rfl,rfl,rfl,rfl):=i;let(T,g,j):=Ø.mp<|h w os;rw[<- d,<- hok]at g;have r:=topRun_mono (N - M) _ _ _ _<|zlt _ _ _ _ g;rw[Nat.add_sub_cancel'<|Nat.le_of_ble_eq_true n]at r;have a:=congrArg Prod.fst j;have b:=congrArg Prod.snd j;erw[MC]at a b;erw[SharedT.abs,u]at r a b
 have k:topFrom treeTable p w N {boot_heap w.params,Array.mk [],boot_drawn,boot_toks,os}=↑T.abs:=by
  erw[topFrom,v,hz,t,r];erw[ľ];rw[a]
  rfl
 show((fencedOpening treeTable p w N).bind (topFrom treeTable p w N)).map _=_;rw[c];show(topFrom treeTable p w N _).map _=_;rw[k];exact congrArg some b
def en(P:Params)(x:String)(k:Nat)(v:Value):DictEntry:={PyData.keyHash P<|Str.ofString x,.str (Str.ofString x) k,v}
def bt(P:Params):BT:=((boot_heap P).objs.toList.foldl (λ(x:BT×Nat) o=>(x.1.ins x.2 o,x.2+1)) (BT.nil,0)).1
def bt_ok(P:Params):absHeap (bt P) 11 (boot_heap P).life=boot_heap P:=by ext
def zqk(P):(boot_heap P).nsMap mainGlobals "__annotations__"=↑(.ref 6):=by ext
def ns_ok(P:Params):(boot_heap P).isNs mainGlobals=true:=by ext
def sz_ok(P:Params):(boot_heap P).objs.size=11:=by ext
abbrev go(p:Program)(M:Nat)(w:World)(os:OsState):Option SharedT:=
 K3 (Fast.tw10156331382660048174 (Fast.tw11892475500146522536 Fast.tw14364793385576792824) p w) (Fast.tw6613529449190102663 11<|↑(.ref 6)) M {bt w.params,11,(boot_heap w.params).life,Array.mk [],boot_drawn,boot_toks,os} (topStub p)
abbrev xt(r:RowW)(q:Program)(s:Shared):Bool:=xlAt q [] s && recOk r.records s
theorem zlk{Ya:World->α}(N M:Nat)
  (e:opening p=plainProg p.main.scope.names) (b:Nat.ble 600 N=true) (f:∀s,fenceModules? p s=↑s) (a:Nat.ble M N=true)
  (h:∀(w ) (os ),(go p M w os).map (λs=>MC p q loose (xt r q) Yf (boot_heap w.params) s.abs)=↑(true,openGood q loose,Ya w)):LeftO p q loose (xt r q) Yf Ya N true:=
 zlj
  (λw=>by rw[Fast.te10156331382660048174,Fast.te11892475500146522536,Fast.te14364793385576792824]) (by rw[Fast.te6613529449190102663]) e b f a bt_ok ns_ok sz_ok zqk h
end Hd
set_option maxHeartbeats 4200000
namespace Zl
open PySem L2 Zw Zx Pu
noncomputable section
local macro_rules
  |`(tactic| simp![$as,*])=>do let y<-"mI mJ AZ MH Ke GZ AF AO Ca Eg Aa AQ Q4 Jg GI Gh Gg KE HX A6 MG B5 Cv GH Gf Jf Jh Cg EM MW AA mC AE AB Am BV m1 m2 AM EN As Bx BE AH FD F8 BJ BN BG Az g1 g2 AD Ao AL An blk NJ Iu CN E7 HD HB KG IK NW Hu NV GX Aj EI B9 Aq BX DS Kr Kt BP E1 CM T.isN T.isB BC C1 JE Jz M1 Hm Hk ď K2 Fz Ku Bm Lj Vg ID Lq T.share BQ T.sh A4 T.flat G3 Fy NU Ï ř Ö Ď List.replicate Ć ŷ Ų List.getElem?_cons_zero ŋ List.getElem?_nil List.set_cons_zero List.set_cons_succ Ŷ nl0 nl1 nl2 nl3 nl4 nl5 nl6 nl7 nl8 nl9 Int.reduceBEq Nat.reduceBEq Nat.reduceAdd Nat.reduceSub Nat.reduceLT Nat.reduceLeDiff if_true if_false ite_true ite_false reduceIte Bool.not_true Bool.not_false Ζ Bool.true_and Bool.and_false ż Bool.or_true Bool.true_or Ε Bool.false_or Bool.false_xor Bool.true_xor ą Ů decide_true decide_false Ì ð or_false or_true true_or and_true true_and and_self String.reduceEq String.reduceBEq beq_self_eq_true ne_eq not_false_eq_true not_true_eq_false zpg zpf Ul gZ BO Lz Int.reduceLT Int.reduceAdd ï Fm IL implies_true forall_const g9 gY Int.reduceEq Int.reduceNe TQ DW CK ED DV Ih EX GL Ji Jr Mg F9 FH Ax Hf KL MF".splitOn.mapM (λx=>do`(Lean.Parser.Tactic.simpLemma|$(Lean.mkCIdent (<-Lean.Macro.resolveGlobalName x.toName).head!.1):ident));`(tactic| simp only[$(⟨(Lean.Syntax.SepArray.ofElems (sep:=",") (y.toArray.map (·.raw)++as.elemsAndSeps.getSepElems)).elemsAndSeps⟩),*])
abbrev mI(i:Int):=mC<|.int i
abbrev mJ(i:Nat):=AB<|AA i
def AK(i:Nat):Stmt:=PySem.Challenge.pw_zonewalk_k54_soonest_ends.main.body.getD i<|.Pass {0,0,0,0}
def zqd(s:Stmt)(j:Nat):Stmt:=match s with
 |.ClassDef ϊ ϋ ό a ύ ώ Ϗ ϐ ϑ ϒ ϓ=>a.getD j (.Pass {0,0,0,0})|ϊ=>.Pass {0,0,0,0}
def DU(i j:Nat):Stmt:=zqd (AK i) j
abbrev BS:Addr:=268
def B7:kE:=["start","end","guard","noughts","sign"]
abbrev Av:Addr:=322
def BA:kE:=["watch_names","stays","door_list"]
def Im:T:=(.nd false .rt [(.str "<"),(.str "<="),(.str ">"),(.str ">="),(.str "=")])
def Mn:T:=(.nd false .rt [(.str "<"),(.str "<=")])
def Mp:T:=(.int 7)
def Mq:T:=(.int 64)
def Mr:T:=(.int 200)
def Io:T:=(.int 200)
def UK:List<|Addr×Bool:=[(268,true),(322,false)]
abbrev Q0:Stmt:=AK 68
def Sj:AG:=
 (AF (Aa (m2 (BP λi j=>decide (i<j)) (AA 1)<|m1 BC<|AA 0) (AQ<|AH (AA 0)<|AA 1) A6)
 (AQ<|mI 0))
def Eo:kL->Option Ru:=AZ 2 2 Sj
abbrev Z9(s:Stmt):kE:=((Cs s).names.filter λx=>x.2 == .local || x.2 == .cell).map (·.1)
abbrev fA(k n:Nat)(s:Stmt)(R:kL->Option Ru):Fn:={k,(Z9 s).take n,R}
abbrev Tz:=fA 1 2 Q0 Eo
abbrev gA(s:Stmt)(k:Nat)(fs:List<|Str×Fn)(bl:kE)(ow:kE:=[])(ex:kE:=[])(ox:Gx:=DE)(mu:=false)(mc:List<|Str×Fn:=[])(mv:kE:=[])(dc:kE:=[])(N:=Z9 s):Gm:={N,(Cs s).names,N.filter λx=>(Cs s).names.lookup x == ↑.cell,k,fs,bl,ex,ow,["_law_holds","raise_all"],mu,mc,mv,dc,ox}
abbrev zdg:Gm:=gA Q0 0 [] ["len"]
theorem zdr:Ck zdg Tz Q0 Sj:={}
def Kl(ns:kF){k:Int}(c:0<=k):Eo [C0 ns,.int k]=↑(.ok<|.int<|ns.getD k.toNat 0):=by
 unfold Eo Sj
 by_cases h:k<ns.length
 .have b:AW (ns.map T.int) k=↑(.int<|ns.getD k.toNat 0):=Ht c<|by simp_all
  have a:decide (k<(ns.map T.int).length)=true:=by simpa using h
  simp![C0,IJ,Je,a,b]
 .have a:decide (k<(ns.map T.int).length)=false:=by simpa using h
  have e:ns.getD k.toNat 0=0:=by
   simp_all
  simp![C0,IJ,Je,a,e]
abbrev Pp:Stmt:=AK 42
def SQ:AG:=
 (AQ<|m2 Au (m1 J5<|AA 0)<|m1 BC<|AA 0)
def JP:kL->Option Ru:=AZ 1 1 SQ
abbrev NF:=fA 1 1 Pp JP
abbrev zbt:Gm:=gA Pp 0 [] ["len","set"]
theorem zbz:Ck zbt NF Pp SQ:={}
def Zk{val:Nat->L2.Key}{n:Nat}(h:∀i j,i<n->j<n->val i=val j->i=j):∀k,k<=n->(met val k).length=k/\∀x∈met val k,∃i,i<k/\x=val i
 |0,ϊ=>{rfl,λx a=>by cases a}|k+1,hk=>by
  let(d,b):=Zk h k<|by lia
  have f:val k∉met val k:=λz=>by
   let(i,c,e):=b _ z;have:=h k i (by lia) (by lia) e
   lia
  have e:met val (k+1)=met val k++[val k]:=by
   conv=>lhs;unfold met
   lia
  rw[e];refine{by simp_all,λx a=>?_}
  rcases ä.mp a with q|q
  .let(i,c,e):=b x q;exact{i,by lia,e}
  .exact{k,by lia,Ô.mp q}
def zmp{ys:kE}(h:ys.Nodup):O7 ys=ys.length:=by
 refine(Zk (λi j b c e=>?_) ys.length<|Æ _).1
 have a:=Sum.inr.inj e;rw[Ú,Ú,Â b,Â c]at a;exact(Ĩ h).mp a
def O8{ys:kE}(h:ys.Nodup)(a:ys.length<1000):JP [.lst<|ys.map T.str]=↑(.ok<|.bl true):=by
 have e:(ys.length == ys.length)=true:=ë _;unfold JP SQ
 simp![J5,AV,IH,a,zmp h,Cc,e,Á]
abbrev P6:Stmt:=AK 33
def Rx:AG:=
 (AQ<|F9 FH FH (mC<|.str "a") (AA 0)<|mC<|.str "z")
def LD:kL->Option Ru:=AZ 1 1 Rx
abbrev Tg:=fA 1 1 P6 LD
abbrev za6:Gm:=gA P6 0 [] []
theorem za9:Ck za6 Tg P6 Rx:={}
def Wd{c:Nat}(f:97<=c)(g:c<=122):LD [.str {#[c]}]=↑(.ok<|.bl true):=by
 have a:((Str.ofString "a").cps.toList)=[97]:=by rfl
 have b:((Str.ofString "z").cps.toList)=[122]:=by rfl
 have d:@decide (#[c].toList<(Str.ofString "a").cps.toList) (Classical.propDecidable _)=false:=@decide_eq_false _ (Classical.propDecidable _) (by
  rw[a];rw[List.cons_lt_cons_iff]
  simp_all)
 have e:@decide ((Str.ofString "z").cps.toList < #[c].toList) (Classical.propDecidable _)=false:=@decide_eq_false _ (Classical.propDecidable _) (by
  rw[b];rw[List.cons_lt_cons_iff]
  simp_all)
 unfold LD Rx
 simp![d,e]
abbrev Pc:Stmt:=AK 34
def U4:AI:=
 (AM LD<|mJ 0 AE)
def SA:AG:=
 (AQ<|Bx (F9 FH FH (mI 1) (m1 BC<|AA 0)<|mI 8)<|m1 Fz<|BG 1 [] (Ax<|AA 0) (AD 0) (mC<|.bl true) U4)
def LF:kL->Option Ru:=AZ 1 1 SA
abbrev Th:=fA 2 1 Pc LF
abbrev zea:Gm:=gA Pc 1 [("is_small_letter",Tg)] ["len","all"]
theorem zen:Ck zea Th Pc SA:={}
def FL(x:Str):Prop:=∀i,i<x.cps.size->97<=x.cps.getD i 0/\x.cps.getD i 0<=122
def Wg(x:Str):Gd x=mT x.cps.size λi=>.str {#[x.cps.getD i 0]}:=by
 refine EC (by simp[Gd]) λi a=>?_
 unfold Gd
 simp_all
def Z7{x:Str}(h:FL x)(k:1<=x.cps.size)(l:x.cps.size<=8):LF [.str x]=↑(.ok<|.bl true):=by
 have l1:x.cps.size<=100000:=by lia
 have e:=EH (n:=x.cps.size) (me:=U4) (x:=none) (cs:=[]) (g:=λi=>.str {#[x.cps.getD i 0]}) (f:=λϊ=>.bl true) λi a=>by
  unfold U4
  simp![Wd (h i a).1 (h i a).2]
 have c:decide (1<=(x.length:Int))=true:=É (by show 1<=(x.cps.size:Int);lia)
 have d:decide ((x.length:Int)<=8)=true:=É (by show(x.cps.size:Int)<=8;lia)
 have j:x.length<=BW:=by
  lia
 have b:((List.range x.cps.size).map λϊ=>true).all id=true:=by simp
 unfold LF SA
 simp![Wg,e,l1,c,d,j,JD,b]
abbrev P5:Stmt:=AK 35
def Rw:AG:=
 (AQ<|Bx (m1 (Bm "str")<|AA 0)<|BE (m2 Au (AA 0)<|mC<|.str "/")<|AM LF<|mJ 0 AE)
def LC:kL->Option Ru:=AZ 1 1 Rw
abbrev Tf:=fA 3 1 P5 LC
abbrev zag:Gm:=gA P5 2 [("is_name",Th)] ["isinstance","str"]
theorem zal:Ck zag Tf P5 Rw:={}
def Ly{x:Str}(h:FL x):PyData.strOk x=true:=by
 unfold PyData.strOk;rw[Array.all_eq_true];intro i a;have:=(h i a).2;rw[Array.getD_eq_getD_getElem?,ō a]at this;rw[ê]
 lia
def JF(x:Str):Prop:=x=Str.ofString "/"\/(FL x/\1<=x.cps.size/\x.cps.size<=8)
def Oq:PyData.strOk (Str.ofString "/")=true:=by decide +kernel
def LY{x:Str}(h:JF x):PyData.strOk x=true:=by
 rcases h with rfl|h
 .exact Oq
 .exact Ly h.1
def VV{x:Str}(h:JF x):LC [.str x]=↑(.ok<|.bl true):=by
 have e:=Kg (LY h) Oq;unfold LC Rw
 by_cases q:x=Str.ofString "/"
 .rw[É q]at e
  simp![e]
 .rw[Ù q]at e;have en:=Z7 (h.resolve_left q).1 (h.resolve_left q).2.1 (h.resolve_left q).2.2
  simp![e,en]
abbrev Pk:Stmt:=AK 41
def U8:AI:=
 (AM LC<|mJ 0 AE)
def SJ:AG:=
 (AF (Aa (BE (As<|m1 (Bm "list")<|AA 0)<|m2 (BP λi j=>decide (j<i)) (m1 BC<|AA 0)<|mC Mp) (Cg "BadMachine"<|AB (mC<|.str "a machine's watches are a list of at most seven") AE) A6)
 (Aa (BE (As<|m1 Fz<|BG 1 [] (Ax<|AA 0) (AD 0) (mC<|.bl true) U8)<|As<|AM JP<|mJ 0 AE) (Cg "BadMachine"<|AB (mC<|.str "a machine's watches are unlike names") AE) A6))
def Nh:kL->Option Ru:=AZ 1 1 SJ
abbrev dH:=fA 4 1 Pk Nh
abbrev zac:Gx:={ DE with co:=[("MOST_WATCHES",Mp)] }
abbrev zah:Gm:=gA Pk 3 [("is_watch_name",Tf),("are_unlike",NF)] ["isinstance","list","len","all"] (ex:=["BadMachine"]) (ox:=zac)
theorem zam:Ck zah dH Pk SJ:={}
theorem Lr(ws:kE):ws.map T.str=mT ws.length λi=>.str<|ws.getD i Str.empty:=EC (by simp_all) λi a=>by
 simp_all
def cw_ok{ws:kE}(h:∀x∈ws,JF x)(hd:ws.Nodup)(j:ws.length<=7):Nh [.lst<|ws.map T.str]=↑(.ok .non):=by
 have a:=EH (n:=ws.length) (me:=U8) (x:=none) (cs:=[]) (g:=λi=>.str<|ws.getD i Str.empty) (f:=λϊ=>.bl true) λi e=>by
  have d:ws.getD i Str.empty∈ws:=by
   simp_all
  unfold U8
  simp![VV<|h _ d]
 rw[<- Lr]at a;have l1:ws.length<=100000:=by lia
 have c:decide (7<(ws.length:Int))=false:=Ù<|by lia
 have b:((List.range ws.length).map λϊ=>true).all id=true:=by simp
 have un:=O8 hd<|by lia
 unfold Nh SJ Mp
 simp![AV,AS,Á,a,l1,c,JD,b,un]
abbrev P9:Stmt:=AK 36
def U3:AI:=
 (BE (m2 Au (AA 0)<|mC<|.str "/")<|AM LD<|mJ 0 AE)
def Ry:AG:=
 (AF (Aa (BE (As<|m1 (Bm "str")<|AA 0)<|As<|F9 FH FH (mI 1) (m1 BC<|AA 0)<|mI 60) (AQ<|mC<|.bl false) A6)
 (AQ<|m1 Fz<|BG 1 [] (Ax<|AA 0) (AD 0) (mC<|.bl true) U3))
def N9:kL->Option Ru:=AZ 1 1 Ry
abbrev c6:=fA 2 1 P9 N9
abbrev zau:Gm:=gA P9 1 [("is_small_letter",Tg)] ["isinstance","str","len","all"]
theorem zaz:Ck zau c6 P9 Ry:={}
def rn_ok{x:Str}(h:FL x)(s:1<=x.cps.size)(t:x.cps.size<=60):N9 [.str x]=↑(.ok<|.bl true):=by
 have l1:x.cps.size<=100000:=by lia
 have o:=EH (n:=x.cps.size) (me:=U3) (x:=none) (cs:=[]) (g:=λi=>.str {#[x.cps.getD i 0]}) (f:=λϊ=>.bl true) λi a=>by
  have r:PyData.strOk (Str.mk #[x.cps.getD i 0])=true:=Ly λj l=>by
   have m:j<1:=l;have e:j=0:=by lia
   subst e;exact h i a
  have e:=Kg r Oq
  have n:¬ (Str.mk #[x.cps.getD i 0]=Str.ofString "/"):=λq=>by
   have b:(Str.ofString "/").cps=#[47]:=by decide +kernel
   have c:#[x.cps.getD i 0]=(Str.ofString "/").cps:=congrArg Str.cps q;rw[b]at c;have:=(h i a).1;have u:x.cps.getD i 0=47:=by simpa using c
   lia
  rw[Ù n]at e;unfold U3
  simp![e,Wd (h i a).1 (h i a).2]
 have b:decide ((1:Int)<=(x.length:Int))=true:=É (by show(1:Int)<=((x.cps.size:Nat):Int);lia)
 have k:decide ((x.length:Int)<=60)=true:=É (by show((x.cps.size:Nat):Int)<=60;lia)
 have p:x.length<=100000:=l1;have d:((List.range x.cps.size).map λϊ=>true).all id=true:=by simp
 unfold N9 Ry
 simp![Wg,o,l1,b,k,p,JD,d]
abbrev P4:Stmt:=AK 8
def Zo:AG:=
 (AQ<|Bx (m1 (Bm "int")<|AA 0)<|As<|m1 (Bm "bool")<|AA 0)
def JM:kL->Option Ru:=AZ 1 1 Zo
abbrev NC:=fA 1 1 P4 JM
abbrev zdb:Gm:=gA P4 0 [] ["isinstance","int","bool"]
theorem zdm:Ck zdb NC P4 Zo:={}
def V1(i:Int):JM [.int i]=↑(.ok<|.bl true):=by rfl
abbrev Pb:Stmt:=AK 26
def Zp:AG:=
 (AQ<|Bx (AM JM<|mJ 0 AE)<|m2 (BP λi j=>decide (j<=i)) (AA 0)<|mI 0)
def Uv:kL->Option Ru:=AZ 1 1 Zp
abbrev c8:=fA 2 1 Pb Uv
abbrev zci:Gm:=gA Pb 1 [("is_whole",NC)] []
theorem zcw:Ck zci c8 Pb Zp:={}
def zl5(i:Int):Uv [.int i]=↑(.ok<|.bl<|decide (0<=i)):=by
 rfl
abbrev Pd:Stmt:=AK 25
def SD:AG:=
 (AF (Aa (BE (As<|m1 (Bm "tuple")<|AA 0)<|m2 CJ (m1 BC<|AA 0)<|mI 3) (AQ<|mC<|.bl false) A6)
 (AQ<|Bx (m2 ES (AH (AA 0)<|mI 0)<|AA 1)<|Bx (m2 ES (AH (AA 0)<|mI 1)<|AA 2)<|AM Uv<|AB (AH (AA 0)<|mI 2) AE))
def Nb:kL->Option Ru:=AZ 3 3 SD
abbrev c9:=fA 3 3 Pd Nb
abbrev zeb:Gm:=gA Pd 2 [("is_number",c8)] ["isinstance","tuple","len"]
theorem zeo:Ck zeb c9 Pd SD:={}
def BU:kE:=["<","<=",">",">=","="]
def V4:CD BU:=by unfold CD;decide +kernel
abbrev Pe:Stmt:=AK 27
def U6:AI:=
 (AM Nb<|mJ 0<|mJ 1<|mJ 2 AE)
def SE:AG:=
 (AQ<|Bx (m1 (Bm "list")<|AA 0)<|m1 Fz<|BG 1 [1,2] (Ax<|AA 0) (AD 0) (mC<|.bl true) U6)
def JO:kL->Option Ru:=AZ 3 3 SE
abbrev ND:=fA 4 3 Pe JO
abbrev zdc:Gm:=gA Pe 3 [("is_look",c9)] ["isinstance","list","all"]
theorem zdn:Ck zdc ND Pe SE:={}
abbrev Pl:Stmt:=AK 43
def OS:AG:=
 (AF (Aa (BE (As<|m1 (Bm "tuple")<|AA 2)<|m2 CJ (m1 BC<|AA 2)<|mI 2) (Cg "BadMachine"<|AB (mC<|.str "a room is a tuple of a name and a stay") AE) A6)
 (Aa (BE (As<|AM N9<|AB (AH (AA 2)<|mI 0) AE)<|As<|AM JO<|AB (AH (AA 2)<|mI 1)<|mJ 1<|AB (mC Mn) AE) (Cg "BadMachine"<|AB (mC<|.str "a room has a name, and a stay of the machine's watches") AE) A6))
def U9:AI:=
 (AH (AA 0)<|mI 0)
def SK:AG:=
 (AF (Aa (BE (As<|m1 (Bm "list")<|AA 0)<|m2 Au (m1 BC<|AA 0)<|mI 0) (Cg "BadMachine"<|AB (mC<|.str "a machine's rooms are a list of one or more") AE) A6)
 (AF (B5 (Ax<|AA 0) (AD 2) OS)
 (Aa (As<|AM JP<|AB (BG 1 [] (Ax<|AA 0) (AD 0) (mC<|.bl true) U9) AE) (Cg "BadMachine"<|AB (mC<|.str "no two rooms have one name") AE) A6)))
def Ni:kL->Option Ru:=AZ 2 3 SK
abbrev dJ:=fA 5 2 Pl Ni
abbrev zb4:Gx:={ DE with co:=[("STAY_WORDS",Mn)] }
abbrev zbb:Gm:=gA Pl 4 [("is_room_name",c6),("is_guard",ND),("are_unlike",NF)] ["isinstance","list","len","tuple"] (ex:=["BadMachine"]) (ox:=zb4) (N:=["rooms","watches","room"])
theorem zbk:Ck zbb dJ Pl SK:={}
def BD(ws wd:kE)(l:kL):Prop:=∀t∈l,∃x y n,t=.tup [.str x,.str y,.int n]/\x∈ws/\y∈wd/\0<=n
def BD.sh{ws wd:kE}{l:kL}(h:BD ws wd l):A4 l=true:=by
 rw[De,ã];intro t a;let(x,y,n,rfl,_):=h t a
 rfl
abbrev KS(wd:kE):T:=.nd false .rt<|wd.map T.str
def zlh{ws wd:kE}(h:CD ws)(hd:CD wd){t:T}(g:∃x y n,t=.tup [.str x,.str y,.int n]/\x∈ws/\y∈wd/\0<=n):Nb [t,.lst<|ws.map T.str,KS wd]=↑(.ok<|.bl true):=by
 let(x,y,n,rfl,d,e,f):=g;have a:=Iq (o:=false) (k:=.lst) h<|h x d;have b:=Iq (o:=false) (k:=.rt) hd<|hd y e;have c:=zl5 n;rw[É d]at a;rw[É e]at b;rw[É f]at c;unfold Nb SD
 simp![E2,AV,AS,a,b,c]
def TZ{ws wd:kE}(h:CD ws)(hd:CD wd){l:kL}(p:l.length<=1000)(hk:BD ws wd l):JO [.lst l,.lst<|ws.map T.str,KS wd]=↑(.ok<|.bl true):=by
 have b:=hk.sh;have m:=AJ l b;have k:=mT_of l .non
 have d:∀i,(l.getD i .non).sh=true:=λi=>by
  by_cases a:i<l.length
  .rw[Ú,Â a];rw[De,ã]at b;exact b _<|Ò a
  .rw[Ú,Ą<|by lia]
   rfl
 have c:=EH (n:=l.length) (me:=U6) (x:=none) (cs:=[↑(.lst<|ws.map T.str),↑(KS wd)]) (g:=λi=>l.getD i .non) (f:=λϊ=>.bl true) λi a=>by
  have o:l.getD i .non∈l:=by
   rw[Ú,Â a];exact Ò a
  have e:=zlh h hd<|hk _ o;unfold U6
  simp![AV,AS,e,CW _<|d i,d i]
 rw[<- k]at c;have l1:l.length<=100000:=by lia
 have j:((List.range l.length).map λϊ=>true).all id=true:=by simp
 unfold JO SE
 simp![AV,AS,b,m,l1,c,JD,j]
def DY:kE:=["<","<="]
def zpt:Mn=KS DY:=rfl
def aZ:Im=KS BU:=rfl
def st_tx:CD DY:=by unfold CD;decide +kernel
structure RsOk(ws:kE)(rs:List<|Str×kL):Prop where
 l1:1<=rs.length
 l64:rs.length<=64
 nm:∀r∈rs,FL r.1/\1<=r.1.cps.size/\r.1.cps.size<=60
 nd:(rs.map (·.1)).Nodup
 lk:∀r∈rs,BD ws DY r.2/\r.2.length<=1000
abbrev BZ(r:Str×kL):T:=.tup [.str r.1,.lst r.2]
abbrev Cb(rs:List<|Str×kL):T:=.lst<|rs.map BZ
def Eh{ws:kE}{rs:List<|Str×kL}(h:RsOk ws rs):A4 (rs.map BZ)=true:=by
 rw[De,ã];intro t b;let(r,a,rfl):=Ó.mp b;have:=(h.lk r a).1.sh;show((!false) && (true && (((!false) && A4 r.2) && true)))=true
 lia
def zm9{ws:kE}(v:CD ws){rs:List<|Str×kL}(h:RsOk ws rs):Ni [Cb rs,.lst<|ws.map T.str]=↑(.ok .non):=by
 have sr:=Eh h;have p:=AJ _ sr;have s:=h.l1;have u:=h.l64;have en:(((rs.map BZ).length:Int) == 0)=false:=by rw[Ĳ,Á];lia
 let(Y,e,y,rfl):=FJ (b:=AD 2) (body:=OS) (ts:=rs.map BZ) (Y:=[↑(Cb rs),↑(.lst<|ws.map T.str),none]) (λi Y=>∃y,Y=[↑(Cb rs),↑(.lst<|ws.map T.str),y]) {_,rfl} λi t Y a d=>by
  let(y,rfl):=d;let(r,j,rfl):=Ó.mp<|ç a;let(z,A,B):=h.nm r j;let(c,w):=h.lk r j;have l:=rn_ok z A B;have m:=TZ v st_tx w c;have g:=c.sh;refine{[↑(Cb rs),↑(.lst<|ws.map T.str),↑(BZ r)],by simp![],[↑(Cb rs),↑(.lst<|ws.map T.str),↑(BZ r)],?_,_,rfl}
  unfold OS
  simp![zpt,E2,AV,AS,l,m,g,AJ _ g]
 have k:=Ij (b:=AD 0) (me:=U9) (ts:=rs.map BZ) (Y:=[none]) (λϊ Y=>∃y,Y=[y]) (λi=>.str ((rs.map (·.1)).getD i Str.empty)) {(none),rfl} λi t Y a d=>by
  let(y,rfl):=d;have f:i<rs.length:=by simpa using (Ñ.mp a).1
  rw[Ë,Â f]at a;have q:t=BZ rs[i]:=(Ý a).symm;subst q;have c:=(h.lk rs[i]<|Ò f).1.sh;have n:(rs.map (·.1)).getD i Str.empty=rs[i].1:=by simp[f]
  refine{[↑(BZ rs[i])],by simp![],?_,_,rfl}
  rw[n];unfold U9
  simp![c]
 have o:(List.range (rs.map BZ).length).map (λi=>T.str ((rs.map (·.1)).getD i Str.empty))=(rs.map (·.1)).map T.str:=by
  rw[Lr (rs.map (·.1)),Á,Á]
  rfl
 rw[o]at k;have un:=O8 h.nd (by rw[Á];lia)
 have x:(rs.map BZ).length<=100000:=by rw[Á];lia
 unfold Ni SK
 simp![Cc,AV,AS,sr,p,en,e,k,un,x]
abbrev Pq:Stmt:=AK 45
def Ub:AI:=
 (AM LC<|mJ 0 AE)
def Ua:AI:=
 (m2 ES (AA 0)<|AA 1)
def SS:AG:=
 (AF (Aa (BE (As<|m1 (Bm "list")<|AA 0)<|As<|m1 Fz<|BG 1 [] (Ax<|AA 0) (AD 0) (mC<|.bl true) Ub) (AQ<|mC<|.bl false) A6)
 (AQ<|Bx (AM JP<|mJ 0 AE)<|m1 Fz<|BG 1 [1] (Ax<|AA 0) (AD 0) (mC<|.bl true) Ua))
def Nk:kL->Option Ru:=AZ 2 2 SS
abbrev dQ:=fA 4 2 Pq Nk
abbrev zbd:Gm:=gA Pq 3 [("is_watch_name",Tf),("are_unlike",NF)] ["isinstance","list","all"]
theorem zbm:Ck zbd dQ Pq SS:={}
def zp4{ws ns:kE}(c:∀x∈ws,JF x)(b:∀x∈ns,x∈ws)(hd:ns.Nodup)(l:ns.length<=100):Nk [.lst<|ns.map T.str,.lst<|ws.map T.str]=↑(.ok<|.bl true):=by
 have tw :=λx j=>LY<|c x j
 have mem:∀i,i<ns.length->ns.getD i Str.empty∈ns:=λi a=>by
  simp_all
 have d:=EH (n:=ns.length) (me:=Ub) (x:=none) (cs:=[]) (g:=λi=>.str<|ns.getD i Str.empty) (f:=λϊ=>.bl true) λi a=>by
  unfold Ub
  simp![VV<|c _<|b _<|mem i a]
 have Fe:=EH (me:=Ua) (x:=none) (cs:=[↑(.lst<|ws.map T.str)]) (g:=λi=>.str<|ns.getD i Str.empty) (f:=λϊ=>.bl true) λi a=>by
  have e:=Iq (o:=false) (k:=.lst) tw<|tw _<|b _<|mem i a;rw[É<|b _<|mem i a]at e;unfold Ua
  simp![AV,AS,e]
 rw[<- Lr]at d Fe;have l1:ns.length<=100000:=by lia
 have h:((List.range ns.length).map λϊ=>true).all id=true:=by simp
 have un:=O8 hd<|by lia
 unfold Nk SS
 simp![AV,AS,Á,d,Fe,l1,JD,h,un]
abbrev P7:Stmt:=AK 37
def M6:AG:=
 (AF (Aa (As<|m1 (Bm "str")<|AA 0) (AQ<|mC<|.bl false) A6)
 (AQ<|BE (m2 Au (AA 0)<|mC<|.str "")<|Bx (m2 ES (AH (AA 0)<|m1 E1<|mI 1)<|BN<|AB (mC<|.str "!")<|AB (mC<|.str "?") AE)<|AM LF<|AB (DV (FD (AA 0) none<|↑(m1 E1<|mI 1))<|F7 (AA 0) none<|↑(m1 E1<|mI 1)) AE))
def JN:kL->Option Ru:=AZ 1 1 M6
abbrev cZ:=fA 3 1 P7 JN
abbrev ze8:Gm:=gA P7 2 [("is_name",Th)] ["isinstance","str"]
theorem zel:Ck ze8 cZ P7 M6:={}
def Us(z:Str):Prop:=z=Str.ofString ""\/z=Str.ofString "go!"\/z=Str.ofString "cut!"
def zn5{z:Str}(h:Us z):PyData.strOk z=true:=by
 rcases h with rfl|rfl|rfl<;>decide +kernel
def zn6{z:Str}(h:Us z):JN [.str z]=↑(.ok<|.bl true):=by
 have d:PyData.strOk (Str.ofString "")=true:=by decide +kernel
 have sm:∀x:Str,(x.cps.all λc=>decide (97<=c) && decide (c<=122))=true->FL x:=λx q i p=>by
  simp_all
 have o:ES (.str<|Str.mk #[33]) (.tup [.str<|Str.ofString "!",.str<|Str.ofString "?"])=↑(.bl true):=by ext
 have a:∀z y:Str,PyData.strOk z=true->z≠Str.ofString ""->z.length<=100000->AW z.cps.toList (-1)=↑33->Txt.slice z none (↑(-1))=y->FL y->1<=y.cps.size->y.cps.size<=8->JN [.str z]=↑(.ok<|.bl true):=by
  intro z y n b l k m f g j;have e:=Kg n d;rw[Ù b]at e;have en:=Z7 f g j;unfold JN M6
  simp![e,l,k,o,F7,m,en,show(-(1:Int))=-1 from rfl]
 rcases h with rfl|rfl|rfl
 .have e:=Kg d d;rw[É rfl]at e;unfold JN M6
  simp![e]
 .exact a _ (Str.ofString "go") (by decide +kernel) (by decide +kernel) (by decide +kernel) (by decide +kernel) (by decide +kernel) (sm _<|by decide +kernel) (by decide +kernel)<|by decide +kernel
 .exact a _ (Str.ofString "cut") (by decide +kernel) (by decide +kernel) (by decide +kernel) (by decide +kernel) (by decide +kernel) (sm _<|by decide +kernel) (by decide +kernel)<|by decide +kernel
abbrev Pm:Stmt:=AK 44
def OU:AG:=
 (AF (Aa (As<|m1 (K1 UK)<|AA 3) (Cg "BadMachine"<|AB (mC<|.str "a machine's doors are doors") AE) A6)
 (AF (Aa (BE (m2 Ha (CK BS B7 0<|AA 3)<|AA 1)<|m2 Ha (CK BS B7 1<|AA 3)<|AA 1) (Cg "BadMachine"<|AB (mC<|.str "a door leads from one room of the machine to another") AE) A6)
 (AF (Aa (As<|AM JO<|AB (CK BS B7 2<|AA 3)<|mJ 2<|AB (mC Im) AE) (Cg "BadMachine"<|AB (mC<|.str "a door's guard is one of the machine's watches") AE) A6)
 (Aa (BE (As<|AM Nk<|AB (CK BS B7 3<|AA 3)<|mJ 2 AE)<|As<|AM JN<|AB (CK BS B7 4<|AA 3) AE) (Cg "BadMachine"<|AB (mC<|.str "a door sets watches of the machine, each once, and has at most one sign") AE) A6))))
def SM:AG:=
 (AF (Aa (As<|m1 (Bm "list")<|AA 0) (Cg "BadMachine"<|AB (mC<|.str "a machine's doors are a list") AE) A6)
 (B5 (Ax<|AA 0) (AD 3) OU))
def Nj:kL->Option Ru:=AZ 3 4 SM
abbrev dM:=fA 5 3 Pm Nj
abbrev zb5:Gx:={ DE with co:=[("WORDS",Im)],cl:=[("Door",BS,B7)],ci:=[("Door",UK)] }
abbrev zbc:Gm:=gA Pm 4 [("is_guard",ND),("are_noughts",dQ),("is_sign",cZ)] ["isinstance","list"] (ex:=["BadMachine"]) (ox:=zb5)
theorem zbl:Ck zbc dM Pm SM:={}
structure Dr where
 s:Str
 e:Str
 g:kL
 n:kE
 z:Str
abbrev kI:=List Dr
abbrev Ad(d:Dr):T:=.obj (.ins BS B7) [.str d.s,.str d.e,.lst d.g,.lst<|d.n.map T.str,.str d.z]
structure DrOk(ws ns:kE)(d:Dr):Prop where
 s:d.s∈ns
 e:d.e∈ns
 g:BD ws BU d.g
 gl:d.g.length<=1000
 n:∀x∈d.n,x∈ws
 nd:d.n.Nodup
 nl:d.n.length<=100
 z:Us d.z
def Kh{ws ns:kE}{d:Dr}(h:DrOk ws ns d):(Ad d).sh=true:=by
 have:=h.g.sh
 simp![this,AS]
def ZY{ys:kE}{x:Str}{o:Bool}{k:Kd}(h:CD ys)(a:PyData.strOk x=true):Ha (.str x) (.nd o k<|ys.map T.str)=↑(.bl<|!decide (x∈ys)):=by
 have e:=Iq (o:=o) (k:=k) h a;unfold ES at e;unfold Ha
 lia
def zmc{ws ns:kE}(j:∀x∈ws,JF x)(a:CD ns){ds:kI}(h:∀d∈ds,DrOk ws ns d):Nj [.lst<|ds.map Ad,.lst<|ns.map T.str,.lst<|ws.map T.str]=↑(.ok .non):=by
 have tw:CD ws:=λx u=>LY<|j x u
 have sd:A4 (ds.map Ad)=true:=by
  rw[De,ã];intro t s;let(d,hd,rfl):=Ó.mp s;exact Kh<|h d hd
 have p:=AJ _ sd
 let(Y,e,y,rfl):=FJ (b:=AD 3) (body:=OU) (ts:=ds.map Ad) (Y:=[↑(.lst<|ds.map Ad),↑(.lst<|ns.map T.str),↑(.lst<|ws.map T.str),none]) (λi Y=>∃y,Y=[↑(.lst<|ds.map Ad),↑(.lst<|ns.map T.str),↑(.lst<|ws.map T.str),y]) {_,rfl} λi t Y q r=>by
  let(y,rfl):=r;let(d,hd,rfl):=Ó.mp<|ç q;have k:=h d hd;have c:=ZY (o:=false) (k:=.lst) a<|a _ k.s;have f:=ZY (o:=false) (k:=.lst) a<|a _ k.e;rw[É k.s]at c;rw[É k.e]at f;have l:=TZ tw V4 k.gl k.g;have m:=zp4 j k.n k.nd k.nl;have n:=zn6 k.z;have g:=k.g.sh;refine{[↑(.lst<|ds.map Ad),↑(.lst<|ns.map T.str),↑(.lst<|ws.map T.str),↑(Ad d)],by simp![],[↑(.lst<|ds.map Ad),↑(.lst<|ns.map T.str),↑(.lst<|ws.map T.str),↑(Ad d)],?_,_,rfl}
  have v:List.lookup BS UK=↑true:=by decide +kernel
  unfold OU
  simp![aZ,K1,v,ď,AV,AS,c,f,l,m,n,g,AJ _ g]
 unfold Nj SM
 simp![AV,AS,sd,p,e]
abbrev Wo:Stmt:=DU 40 0
def Uc:AI:=
 (AA 0)
def OV:AG:=
 (Ji Av BA 1 0 (AA 4)<|m1 C1<|AA 5)
def SX:AG:=
 (AF (HX<|AM Nh<|mJ 1 AE)
 (AF (HX<|AM Ni<|mJ 2<|mJ 1 AE)
 (AF (HX<|AM Nj<|mJ 3<|AB (BG 2 [] (Ax<|AA 2) (An 2<|AL (AD 0)<|AL (AD 1) Ao) (mC<|.bl true) Uc)<|mJ 1 AE)
 (AF (Aa (BE (m2 (BP λi j=>decide (j<i)) (m1 BC<|AA 2)<|mC Mq)<|m2 (BP λi j=>decide (j<i)) (m1 BC<|AA 3)<|mC Mr) (Cg "TooMany"<|AB (mC<|.str "a machine has at most 64 rooms and at most 200 doors") AE) A6)
 (AF (EX Av BA 0 0<|m1 C1<|AA 1)
 (AF (EX Av BA 1 0 Mg)
 (AF (B5 (Ax<|AA 2) (An 2<|AL (AD 4)<|AL (AD 5) Ao) OV)
 (EX Av BA 2 0<|m1 C1<|AA 3))))))))
def Uw:kL->Option Ru:=Es Av BA 4 6 SX
abbrev To:Fn:={6,["self","watches","rooms","doors"],Uw}
abbrev zas:Gx:={ DE with co:=[("MOST_ROOMS",Mq),("MOST_DOORS",Mr)],sf:=↑(Av,BA) }
abbrev zaw:Gm:=gA Wo 5 [("check_watches",dH),("check_rooms",dJ),("check_doors",dM)] ["len","list"] (ex:=["TooMany"]) (ox:=zas) (N:=["self","watches","rooms","doors","name","stay"])
theorem zb1:Ck zaw To Wo SX:={}
structure Mc where
 ws:kE
 rs:List (Str×kL)
 ds:kI
abbrev kJ:=List Mc
abbrev E3(M:Mc):T:=.obj (.ins Av BA) [.lst<|M.ws.map T.str,.obj (.sdc (M.rs.map (·.1)))<|M.rs.map λr=>.lst r.2,.lst<|M.ds.map Ad]
structure McOk(M:Mc):Prop where
 w:∀x∈M.ws,JF x
 wd:M.ws.Nodup
 wl:M.ws.length<=7
 r:RsOk M.ws M.rs
 d:∀d∈M.ds,DrOk M.ws (M.rs.map (·.1)) d
 dl:M.ds.length<=200
theorem McOk.tw{M:Mc}(h:McOk M):CD M.ws:=λx a=>LY<|h.w x a
theorem McOk.tn{M:Mc}(h:McOk M):CD (M.rs.map (·.1)):=λx b=>by
 let(r,a,rfl):=Ó.mp b;exact Ly (h.r.nm r a).1
def McOk.sd{M:Mc}(h:McOk M):A4 (M.ds.map Ad)=true:=by
 rw[De,ã];intro t a;let(d,hd,rfl):=Ó.mp a;exact Kh<|h.d d hd
def McOk.ss{M:Mc}(h:McOk M):A4 (M.rs.map λr=>T.lst r.2)=true:=by
 rw[De,ã];intro t b;let(r,a,rfl):=Ó.mp b;show((!false) && A4 r.2)=true;rw[(h.r.lk r a).1.sh]
 rfl
def McOk.sh{M:Mc}(h:McOk M):(E3 M).sh=true:=by
 simp![AS,h.ss,h.sd]
def zld{M:Mc}(h:McOk M):Uw [.lst<|M.ws.map T.str,Cb M.rs,.lst<|M.ds.map Ad]=↑(.ok<|E3 M):=by
 have w:=cw_ok h.w h.wd h.wl;have v:=zm9 h.tw h.r;have cd:=zmc h.w h.tn h.d;have sr:=Eh h.r;have D:=AJ _ sr;have sd:=h.sd;have A:=AJ _ sd;have a:=h.r.l1;have F:=h.r.l64;have o:=h.dl
 have u:=Ij (b:=An 2<|AL (AD 0)<|AL (AD 1) Ao) (me:=Uc) (ts:=M.rs.map BZ) (Y:=[none,none]) (λϊ Y=>∃x y,Y=[x,y]) (λi=>.str ((M.rs.map (·.1)).getD i Str.empty)) {(none),none,rfl} λi t Y a k=>by
  let(x,y,rfl):=k;have c:i<M.rs.length:=by simpa using (Ñ.mp a).1
  rw[Ë,Â c]at a;have f:t=BZ M.rs[i]:=(Ý a).symm;subst f;have B:(M.rs.map (·.1)).getD i Str.empty=M.rs[i].1:=by simp[c]
  refine{[↑(.str M.rs[i].1),↑(.lst M.rs[i].2)],by simp![],?_,_,_,rfl}
  rw[B];unfold Uc
  simp![]
 have C:(List.range (M.rs.map BZ).length).map (λi=>T.str ((M.rs.map (·.1)).getD i Str.empty))=(M.rs.map (·.1)).map T.str:=by
  rw[Lr (M.rs.map (·.1)),Á,Á]
  rfl
 rw[C]at u;have H:(M.rs.map BZ).length<=100000:=by rw[Á];lia
 have g1:decide ((64:Int)<((M.rs.map BZ).length:Int))=false:=Ù (by rw[Á];lia)
 have g2:decide ((200:Int)<((M.ds.map Ad).length:Int))=false:=Ù (by rw[Á];lia)
 refine Ww λp=>?_
 let(Y,e,x,y,rfl):=FJ (b:=An 2<|AL (AD 4)<|AL (AD 5) Ao) (body:=OV) (ts:=M.rs.map BZ) (Y:=[↑(.oob p Av BA [.own<|M.ws.map T.str,.osd [] []]),↑(.lst<|M.ws.map T.str),↑(Cb M.rs),↑(.lst<|M.ds.map Ad),none,none])
  (λi Y=>∃x y,Y=[↑(.oob p Av BA [.own<|M.ws.map T.str,.osd ((M.rs.take i).map (·.1))<|(M.rs.take i).map λr=>.lst r.2]),↑(.lst<|M.ws.map T.str),↑(Cb M.rs),↑(.lst<|M.ds.map Ad),x,y]) {none,none,by rw[List.take_zero];rfl} λi t Y a k=>by
  let(x,y,rfl):=k;have c:i<M.rs.length:=by simpa using (Ñ.mp a).1
  rw[Ë,Â c]at a;have f:t=BZ M.rs[i]:=(Ý a).symm;subst f;have s:=(h.r.lk _<|Ò c).1.sh
  have m:M.rs[i].1∉(M.rs.take i).map (·.1):=λq=>by
   rw[List.map_take]at q;let(j,G,n):=Ÿ.mp q;rw[Đ,Á]at G;have l:=h.r.nd;rw[List.getElem_take]at n;have z:(M.rs.map (·.1))[j]'(by rw[Á];lia)=(M.rs.map (·.1))[i]'(by rw[Á];exact c):=by rw[n,Μ]
   have:=(Ĩ l).mp z
   lia
  have d:((M.rs.take i).map (·.1)).length<100000:=by
   rw[Á,Đ]
   lia
  have g:M.rs.take (i+1)=M.rs.take i++[M.rs[i]]:=by rw[Ū]
  refine{[↑(.oob p Av BA [.own<|M.ws.map T.str,.osd ((M.rs.take i).map (·.1))<|(M.rs.take i).map λr=>.lst r.2]),↑(.lst<|M.ws.map T.str),↑(Cb M.rs),↑(.lst<|M.ds.map Ad),↑(.str M.rs[i].1),↑(.lst M.rs[i].2)],by simp![],[↑(.oob p Av BA [.own<|M.ws.map T.str,.osd ((M.rs.take<|i+1).map (·.1))<|(M.rs.take<|i+1).map λr=>.lst r.2]),↑(.lst<|M.ws.map T.str),↑(Cb M.rs),↑(.lst<|M.ds.map Ad),↑(.str M.rs[i].1),↑(.lst M.rs[i].2)],?_,_,_,rfl}
  rw[g,è,è];unfold OV
  simp![s,AJ _ s,m,d]
 rw[Á,Ν]at e;have E:=AJ _ h.ss;unfold Gi SX Mq Mr
 simp![AV,AS,w,v,cd,sr,D,sd,A,u,H,g1,g2,e,E]
def cB{α A:Type}{b:T->AN->Option AN}{body:AG}(f:α->T)(S:List A->AN->Prop)(g:α->List A)(N:Nat):∀(L:List α) (a:List A) (Y:AN),S a Y->a.length+(L.flatMap g).length<=N->(∀x∈L,∀a Y,S a Y->a.length+(g x).length<=N->∃τ1,b (f x) Y=↑τ1/\∃τ2,body τ1=↑(.nx τ2)/\S (a++g x) τ2)->∃Y',Ak b body (L.map f) Y=↑(.nx Y')/\S (a++L.flatMap g) Y'
 |[],a,Y,h,ϊ,ϋ=>{Y,rfl,by simp_all}|x::L,a,Y,h,i,c=>by
  rw[List.flatMap_cons,à]at i;let(τ1,k,τ2,l,d):=c x (Í ..) a Y h<|by lia
  let(Y',e,m):=cB f S g N L (a++g x) τ2 d (by rw[à];lia) λy j=>c y<|Ê _ j
  refine{Y',?_,by simp_all}
  rw[Ï];unfold Ak
  lia
def Dd{α:Type}{f:α->T}{L:List α}(h:∀x∈L,(f x).sh=true):A4 (L.map f)=true:=by
 rw[De,ã];intro t a;let(x,b,rfl):=Ó.mp a;exact h x b
def sq{f g:AG}{Y a:AN}{r:Option Out}(h:f Y=↑(.nx a))(b:g a=r):AF f g Y=r:=by
 unfold AF
 lia
def zp9{α:Type}(l:List α)(c:l≠[])(i:Int):∃x∈l,AW l (i.fmod (l.length:Int))=↑x:=by
 have e:0<l.length:=List.length_pos_iff.mpr c;have b:=í i<|show(0:Int)<(l.length:Int) by lia
 have d:=ú i<|show(0:Int)<(l.length:Int) by lia
 have a:(i.fmod (l.length:Int)).toNat<l.length:=by lia
 exact{l[(i.fmod (l.length:Int)).toNat],Ò a,Ht b<|Â a}
def NS{α:Type}(f:α->T){l:List α}{i:Int}{x:α}(h:AW l i=↑x):AW (l.map f) i=↑(f x):=by
 unfold AW at h ⊢;cases a:CA l.length i with
 |none=>simp_all|some j=>simp_all
def zph{α:Type}{l:List α}(h:l≠[]):((l.length:Nat):Int)≠0:=λz=>h<|List.length_eq_zero_iff.mp<|Int.ofNat.inj z
def UG:PyData.strOk (Str.ofString "")=true:=by decide +kernel
def Al(M:Mc):T:=E3 M
def FC{M:Mc}(h:McOk M):(Al M).sh=true:=h.sh
def Fk{f g:AG}{Y:AN}{r:Option Out}(h:f Y=↑(.nx Y))(a:g Y=r):AF f g Y=r:=sq h a
def sr{f g:AG}{Y:AN}{t:T}(h:f Y=↑(.rt t)):AF f g Y=↑(.rt t):=by
 unfold AF;rw[h]
def KA(M:Mc):DW Av BA (Al M)=↑[.lst<|M.ws.map T.str,.obj (.sdc (M.rs.map (·.1)))<|M.rs.map λr=>.lst r.2,.lst<|M.ds.map Ad]:=(show DW Av BA (E3 M)=(if Av=Av/\BA=BA then ↑[.lst<|M.ws.map T.str,.obj (.sdc (M.rs.map (·.1)))<|M.rs.map λr=>.lst r.2,.lst<|M.ds.map Ad] else none) from rfl).trans (if_pos {(rfl),rfl})
abbrev PL:Stmt:=AK 38
def Rh:AG:=
 (AQ<|EN (m1 (Bm "list")<|AA 0) (m1 C1<|AA 0)<|AA 0)
def LB:kL->Option Ru:=AZ 1 1 Rh
abbrev cQ:=fA 1 1 PL LB
abbrev zd9:Gm:=gA PL 0 [] ["isinstance","list"]
theorem zdk:Ck zd9 cQ PL Rh:={}
def Xp(l:kL)(h:A4 l=true):LB [.lst l]=↑(.ok<|.own l):=by
 unfold LB Rh
 simp![h,AJ _ h]
abbrev Wp:Stmt:=DU 39 0
def Sl:AG:=
 (AF (EX BS B7 0 0<|AA 1)
 (AF (EX BS B7 1 0<|AA 2)
 (AF (EX BS B7 2 0<|AM LB<|mJ 3 AE)
 (AF (EX BS B7 3 0<|AM LB<|mJ 4 AE)
 (EX BS B7 4 0<|AA 5)))))
def Ux:kL->Option Ru:=Es BS B7 6 6 Sl
abbrev UA:Fn:={2,["self","start","end","guard","noughts","sign"],Ux}
abbrev zc8:Gx:={ DE with sf:=↑(BS,B7) }
abbrev zcl:Gm:=gA Wp 1 [("own_copy",cQ)] [] (ox:=zc8)
theorem zcz:Ck zcl UA Wp Sl:={}
def di_ok{ws ns:kE}{d:Dr}(h:DrOk ws ns d):Ux [.str d.s,.str d.e,.lst d.g,.lst<|d.n.map T.str,.str d.z]=↑(.ok<|Ad d):=by
 have a:=h.g.sh;have b:=Xp d.g a;have c:=Xp (d.n.map T.str)<|AS _;refine Ww λp=>?_
 unfold Gi Sl
 simp![b,c,a,AJ _ a,AV,AS]
abbrev QS:Stmt:=AK 76
def O0:AG:=
 (Cv 1<|Ih Ux []<|AB (AH (AH (AA 3)<|AA 5)<|mI 0)<|AB (AH (AH (AA 3)<|AA 6)<|mI 0)<|AB (m1 C1<|AA 7)<|AB (m1 C1<|AA 8)<|mJ 9 AE)
def Ug:AI:=
 (BN<|mJ 0<|AB (m1 C1<|AA 1) AE)
def Sf:AG:=
 (AF (AO (AA 0)<|An 3<|AL (AD 2)<|AL (AD 3)<|AL (AD 4) Ao)
 (AF (Ca 1<|BJ AE)
 (AF (B5 (Ax<|AA 4) (An 5<|AL (AD 5)<|AL (AD 6)<|AL (AD 7)<|AL (AD 8)<|AL (AD 9) Ao) O0)
 (AF (Eg 1)<|AQ<|Ih Uw []<|AB (m1 C1<|AA 2)<|AB (BG 2 [] (Ax<|AA 3) (An 2<|AL (AD 0)<|AL (AD 1) Ao) (mC<|.bl true) Ug)<|mJ 1 AE))))
def LN:kL->Option Ru:=AZ 1 10 Sf
abbrev eF:=fA 8 1 QS LN
abbrev zi4:Gx:={ DE with nw:=[("Door",UA,[(5,[])]),("Machine",To,[(3,[])])] }
abbrev zif:Gm:=gA QS 7 [] ["list"] ["_law_built"] (ox:=zi4) (N:=["_law_spec","_law_built","_law_watches","_law_rooms","_law_doors","_law_begin","_law_end","_law_guard_here","_law_noughts","_law_sign"])
theorem ziw:Ck zif eF QS Sf:={}
structure Sd where
 b:Nat
 e:Nat
 g:kL
 n:kE
 z:Str
abbrev BK(d:Sd):T:=.tup [.int (d.b:Int),.int (d.e:Int),.lst d.g,.lst<|d.n.map T.str,.str d.z]
abbrev Aw(ws:kE)(rs:List<|Str×kL)(dd:List Sd):T:=.tup [.lst<|ws.map T.str,Cb rs,.lst<|dd.map BK]
def Dl(rs:List<|Str×kL)(d:Sd):Dr:={(rs.getD d.b (Str.empty,[])).1,(rs.getD d.e (Str.empty,[])).1,d.g,d.n,d.z}
structure SpOk(ws:kE)(rs:List<|Str×kL)(dd:List Sd):Prop where
 r:RsOk ws rs
 b:∀d∈dd,d.b<rs.length/\d.e<rs.length
 d:∀d∈dd,DrOk ws (rs.map (·.1)) (Dl rs d)
 l:dd.length<=100
def SpOk.sd{ws:kE}{rs:List<|Str×kL}{dd:List Sd}(h:SpOk ws rs dd):A4 (dd.map BK)=true:=by
 rw[De,ã];intro t b;let(d,hd,rfl):=Ó.mp b;have a:A4 d.g=true:=(h.d d hd).g.sh
 simp![a,AS]
def Jm{rs:List<|Str×kL}{i:Nat}(h:i<rs.length):AW (rs.map BZ) (i:Int)=↑(.tup [.str (rs.getD i (Str.empty,[])).1,.lst (rs.getD i (Str.empty,[])).2]):=C7 (by
 rw[Ë,Ú,Â h]
 rfl)
def made_ok{ws:kE}{rs:List<|Str×kL}{dd:List Sd}(h:SpOk ws rs dd)(z:McOk {ws,rs,dd.map<|Dl rs}):LN [Aw ws rs dd]=↑(.ok<|E3 {ws,rs,dd.map<|Dl rs}):=by
 have sr:=Eh h.r;have H:=AJ _ sr;have sd:=h.sd;have E:=AJ _ sd;have L:=h.l
 let(Y,e,o,p,q,r,s,rfl):=FJ (b:=An 5<|AL (AD 5)<|AL (AD 6)<|AL (AD 7)<|AL (AD 8)<|AL (AD 9) Ao) (body:=O0) (ts:=dd.map BK) (Y:=[↑(Aw ws rs dd),↑(.own []),↑(.lst<|ws.map T.str),↑(Cb rs),↑(.lst<|dd.map BK),none,none,none,none,none])
  (λi Y=>∃o p q r s,Y=[↑(Aw ws rs dd),↑(.own<|((dd.take i).map (Dl rs)).map Ad),↑(.lst<|ws.map T.str),↑(Cb rs),↑(.lst<|dd.map BK),o,p,q,r,s]) {none,none,none,none,none,by rw[List.take_zero];rfl} λi t Y c l=>by
  let(o,p,q,r,s,rfl):=l;have a:i<dd.length:=by simpa using (Ñ.mp c).1
  rw[Ë,Â a]at c;have f:t=BK dd[i]:=(Ý c).symm;subst f;have u:=h.b _<|Ò a;have hd:=h.d _<|Ò a;have d:=Jm u.1;have J:=Jm u.2;have A:=di_ok hd;have v:A4 dd[i].g=true:=hd.g.sh
  have I:∀j,A4 (rs.getD j (Str.empty,[])).2=true:=λj=>by
   by_cases w:j<rs.length
   .rw[Ú,Â w];exact(h.r.lk _<|Ò w).1.sh
   .rw[Ú,Ą<|by lia]
    rfl
  have m:(((dd.take i).map (Dl rs)).map Ad).length<100000:=by
   rw[Á,Á,Đ]
   lia
  have k:dd.take (i+1)=dd.take i++[dd[i]]:=by rw[Ū]
  refine{[↑(Aw ws rs dd),↑(.own<|((dd.take i).map (Dl rs)).map Ad),↑(.lst<|ws.map T.str),↑(Cb rs),↑(.lst<|dd.map BK),↑(.int (dd[i].b:Int)),↑(.int (dd[i].e:Int)),↑(.lst dd[i].g),↑(.lst<|dd[i].n.map T.str),↑(.str dd[i].z)],by simp![],[↑(Aw ws rs dd),↑(.own<|((dd.take<|i+1).map (Dl rs)).map Ad),↑(.lst<|ws.map T.str),↑(Cb rs),↑(.lst<|dd.map BK),↑(.int (dd[i].b:Int)),↑(.int (dd[i].e:Int)),↑(.lst dd[i].g),↑(.lst<|dd[i].n.map T.str),↑(.str dd[i].z)],?_,_,_,_,_,_,rfl}
  rw[k,è,è];unfold Dl at A;unfold O0
  simp![sr,d,J,I,v,AJ _ v,AV,AS,A,m]
  rfl
 rw[Á,Ν]at e
 have B:=Ij (b:=An 2<|AL (AD 0)<|AL (AD 1) Ao) (me:=Ug) (ts:=rs.map BZ) (Y:=[none,none]) (λϊ Y=>∃x y,Y=[x,y]) (λi=>BZ<|rs.getD i (Str.empty,[])) {(none),none,rfl} λi t Y c l=>by
  let(x,y,rfl):=l;have a:i<rs.length:=by simpa using (Ñ.mp c).1
  rw[Ë,Â a]at c;have f:t=BZ rs[i]:=(Ý c).symm;subst f;have d:=(h.r.lk _<|Ò a).1.sh;have F:rs.getD i (Str.empty,[])=rs[i]:=by simp[a]
  refine{[↑(.str rs[i].1),↑(.lst rs[i].2)],by simp![],?_,_,_,rfl}
  rw[F];unfold Ug
  simp![d,AJ _ d]
 have G:(List.range (rs.map BZ).length).map (λi=>BZ<|rs.getD i (Str.empty,[]))=rs.map BZ:=by
  rw[Á];refine(EC (n:=rs.length) (g:=λi=>BZ<|rs.getD i (Str.empty,[])) (by rw[Á]) λi a=>?_).symm
  rw[Ë,Ú,Â a]
  rfl
 rw[G]at B
 have m:(rs.map BZ).length<=100000:=by
  have:=h.r.l64;rw[Á]
  lia
 have K:=zld z;have C:=z.sd;have D:=AJ _ C;unfold LN Sf
 simp![AV,AS,sr,H,sd,E,e,C,D,B,m,K]
abbrev QP:Stmt:=AK 70
def Ue:AI:=
 (AH (AA 2)<|m2 Aq (m2 BX (AA 1)<|m2 Aj (mI 6720)<|m2 B9 (mI 31)<|AA 0)<|mI 26)
def Lc:AG:=
 (AF (Ca 7<|BG 1 [0,2] (CN<|mJ 3 AE) (AD 0) (mC<|.bl true) Ue)
 (AF (Gf 7 (AA 4)<|AH (AA 2)<|m2 Aq (m2 Aj (m2 BX (AA 0)<|mI 6720)<|AA 6)<|mI 26)
 (Cv 5<|KH (mC<|.str "")<|AA 7)))
def Se:AG:=
 (AF (AO (mC<|.str "abcdefghijklmnopqrstuvwxyz")<|AD 2)
 (AF (AO (m2 Aj (mI 1)<|m2 Aq (AA 0)<|mI 8)<|AD 3)
 (AF (AO (m2 Aq (m2 Aq (m2 BX (AA 0)<|mI 8)<|mI 840)<|AA 3)<|AD 4)
 (AF (Ca 5<|BJ AE)
 (AF (B5 (CN<|mJ 1 AE) (AD 6) Lc)
 (AQ<|AA 5))))))
def LM:kL->Option Ru:=AZ 2 8 Se
abbrev eE:=fA 1 2 QP LM
abbrev zft:Gm:=gA QP 0 [] ["range"] ["_law_word","_law_names_here"]
theorem zg8:Ck zft eE QP Se:={}
def Co(c:Int):Nat:=(1+c.fmod 8).toNat
def Gq(c:Int):Nat:=(((c.fdiv 8).fmod 840).fmod (1+c.fmod 8)).toNat
def Jw(c:Int):1<=Co c/\Co c<=8/\(1+c.fmod 8)=(Co c:Int)/\((c.fdiv 8).fmod 840).fmod (1+c.fmod 8)=(Gq c:Int)/\Gq c<Co c:=by
 have e:=í c<|show(0:Int)<8 by decide
 have g:=ú c<|show(0:Int)<8 by decide
 have d:0<1+c.fmod 8:=by lia
 have f:=í ((c.fdiv 8).fmod 840) d;have h:=ú ((c.fdiv 8).fmod 840) d;unfold Co Gq;change ((c.fdiv 8).fmod 840).fmod (1+c.fmod 8)=b;change c.fmod 8=a;refine{?_,?_,?_,?_,?_}<;>lia
def Hi(c:Int)(j:Nat):Int:=(c.fdiv<|6720+31 * (j:Int)).fmod 26
def GQ(c:Int)(k:Nat):Int:=(c.fdiv 6720+(k:Int)).fmod 26
def Fb(c:Int)(k j:Nat):Nat:=if j=Gq c then 97+(GQ c k).toNat else 97+(Hi c j).toNat
def Cj(c:Int)(k:Nat):Str:={((List.range<|Co c).map (Fb c k)).toArray}
def Hg(c:Int)(k j:Nat):(0<=Hi c j/\Hi c j<26)/\0<=GQ c k/\GQ c k<26:={{í _ (by decide),ú _<|by decide},í _ (by decide),ú _<|by decide}
def abc:(Str.ofString "abcdefghijklmnopqrstuvwxyz").cps.toList=(List.range 26).map (97 + ·):=by rfl
def iB{i:Int}(a:0<=i)(b:i<26):AW (Str.ofString "abcdefghijklmnopqrstuvwxyz").cps.toList i=↑(97+i.toNat):=by
 rw[abc];refine Ht a ?_;rw[Ë,Ż<|by lia]
 rfl
def iA:(Str.ofString "abcdefghijklmnopqrstuvwxyz").length<=100000:=by decide +kernel
def bD:∀cs:kG,Str.join (Str.ofString "") (cs.map λc=>{#[c]})={(cs.toArray)}
 |[]=>rfl|[c]=>rfl|c::d::r=>by
  have a:=bD<|d::r;rw[Ï]at a;show Str.mk #[c]++Str.ofString ""++Str.join (Str.ofString "") ({#[d]}::r.map λc=>{#[c]})=_
  rw[a];have b:(Str.ofString "").cps=#[]:=by rfl
  show Str.mk ((#[c]++(Str.ofString "").cps)++(d::r).toArray)=Str.mk _;rw[b];simp
def zhy(cs:kG):Txt.join (Str.ofString "") (cs.map λc=>{#[c]})={(cs.toArray)}:=(eq_of_beq<|PyProof.Rows.join_plain_closes _ _).trans (bD cs)
def RQ(c:Int)(k:Nat):(Cj c k).cps.size=Co c:=by
 unfold Cj;simp
def Z8{c:Int}{k i:Nat}(h:i<Co c):(Cj c k).cps.getD i 0=Fb c k i:=by
 unfold Cj
 simp_all
theorem Z6(c:Int)(k:Nat):FL<|Cj c k:=λi a=>by
 rw[RQ]at a;rw[Z8 a];let(b,d):=Hg c k i;unfold Fb
 lia
def zp7{c:Int}{j k:Nat}(b:j<20)(hk:k<20)(h:Cj c j=Cj c k):j=k:=by
 let(d,f,ne,g,nl):=Jw c;have e:=congrArg (λs:Str=>s.cps.getD (Gq c) 0) h
 erw[Z8 nl]at e;unfold Fb at e;have s1:=(Hg c j 0).2;have i:=(Hg c k 0).2;have a:GQ c j=GQ c k:=by lia
 unfold GQ at a
 lia
def w5_ok{c:Int}{k m:Nat}(hk:k<20){l:kL}(B:l.length<1000){x7:kH}:∃y7,Lc [↑(.int c),↑(.int m),↑(.str "abcdefghijklmnopqrstuvwxyz"),↑(.int<|1+c.fmod 8),↑(.int<|((c.fdiv 8).fmod 840).fmod (1+c.fmod 8)),↑(.own l),↑(.int k),x7]
  = ↑(.nx [↑(.int c),↑(.int m),↑(.str "abcdefghijklmnopqrstuvwxyz"),↑(.int<|1+c.fmod 8),↑(.int<|((c.fdiv 8).fmod 840).fmod (1+c.fmod 8)),↑(.own<|l++[.str<|Cj c k]),↑(.int k),y7]):=by
 let(C,D,ne,z,nl):=Jw c
 have v:=EH (n:=Co c) (me:=Ue) (x:=none) (cs:=[↑(.int c),↑(.str "abcdefghijklmnopqrstuvwxyz")]) (g:=λi=>.int (i:Int)) (f:=λj=>.str {#[97+(Hi c j).toNat]}) λj s=>by
  have m1:Be 31 (j:Int)=true:=Hc<|Cn (by decide)<|by decide
  have y:(6720+31 * (j:Int)=0)=False:=Ċ<|by lia
  have A:Bd (6720+31 * (j:Int))=true:=Bv (by lia)<|by lia
  have h:AW (Str.ofString "abcdefghijklmnopqrstuvwxyz").cps.toList ((c.fdiv<|6720+31 * (j:Int)).fmod 26)=↑(97+(Hi c j).toNat):=iB (Hg c 0 j).1.1 (Hg c 0 j).1.2;unfold Ue
  simp![m1,y,A,h,iA]
 have ok:CI (1+c.fmod 8)=true:=@decide_eq_true _ (Classical.propDecidable _) {by lia,by lia}
 have p:Br 0 (1+c.fmod 8).toNat=mT (Co c) λi=>.int (i:Int):=Ci
 have eb:AW (Str.ofString "abcdefghijklmnopqrstuvwxyz").cps.toList ((c.fdiv 6720+(k:Int)).fmod 26)=↑(97+(GQ c k).toNat):=iB (Hg c k 0).2.1 (Hg c k 0).2.2;have s1:Bd 6720=true:=Bv (by decide)<|by decide
 have u:Co c<=100000:=by lia
 have ex:CA (Co c) (((c.fdiv 8).fmod 840).fmod (1+c.fmod 8))=↑(Gq c):=by
  rw[z];unfold CA;rw[if_pos (by lia),if_pos (by lia),ï]
 have q:EJ (mT (Co c) λj=>if j=Gq c then T.str {#[97+(GQ c k).toNat]} else .str {#[97+(Hi c j).toNat]})=↑(((List.range<|Co c).map (Fb c k)).map λc=>{#[c]}):=by
  rw[<- IH,ü,ü];refine congrArg EJ ?_;unfold mT;refine ĥ λj s=>?_
  show _=T.str {#[Fb c k j]};unfold Fb;split<;>rfl
 have o:=zhy<|(List.range<|Co c).map (Fb c k)
 have b:(((((List.range<|Co c).map (Fb c k)).map λc=>Str.mk #[c])).map (·.length)).sum+((((List.range<|Co c).map (Fb c k)).map λc=>Str.mk #[c])).length * (Str.ofString "").length<=100000:=by
  have e:(Str.ofString "").length=0:=by decide +kernel
  rw[e,Nat.mul_zero,Nat.add_zero,ü]
  have:∀l:kG,(l.map ((·.length) ∘ λc=>Str.mk #[c])).sum=l.length:=by
   intro l
   induction l with
   |nil=>rfl|cons a r t=>rw[Ï,ł,t,Ö];show 1+r.length=r.length+1;lia
  rw[this];simp
  lia
 have w:l.length<100000:=by lia
 have d:Str.mk ((List.range<|Co c).map (Fb c k)).toArray=Cj c k:=rfl;unfold Lc;refine{↑(.own (mT (Co c) λj=>if j=Gq c then T.str {#[97+(GQ c k).toNat]} else .str {#[97+(Hi c j).toNat]})),?_}
 simp![ok,p,v,u,eb,s1,iA,ex,Ie,KH,q,b,o,w,d]
def Zc(c:Int){m:Nat}(q:m<20):LM [.int c,.int m]=↑(.ok<|.own<|mT m λk=>.str<|Cj c k):=by
 let(Y,e,s,u,rfl):=FJ (b:=AD 6) (body:=Lc) (ts:=mT m λi=>.int (i:Int)) (Y:=[↑(.int c),↑(.int m),↑(.str "abcdefghijklmnopqrstuvwxyz"),↑(.int<|1+c.fmod 8),↑(.int<|((c.fdiv 8).fmod 840).fmod (1+c.fmod 8)),↑(.own []),none,none])
  (λi Y=>∃f a,Y=[↑(.int c),↑(.int m),↑(.str "abcdefghijklmnopqrstuvwxyz"),↑(.int<|1+c.fmod 8),↑(.int<|((c.fdiv 8).fmod 840).fmod (1+c.fmod 8)),↑(.own<|mT i λk=>.str<|Cj c k),f,a]) {none,none,by rfl} λi t Y n o=>by
   let(p,rfl):=Gs n;let(f,a,rfl):=o;let(r,d):=w5_ok (c:=c) (k:=i) (m:=m) (by lia) (l:=mT i λk=>.str<|Cj c k) (by rw[BO];lia) (x7:=a)
   rw[Ig (g:=λk=>.str<|Cj c k)]at d
   exact{_,by simp![],_,d,_,_,rfl}
 rw[BO]at e;have ok:CI (m:Int)=true:=@decide_eq_true _ (Classical.propDecidable _) {by lia,by lia}
 have h:Br 0 m=mT m λi=>.int (i:Int):=Ci
 have j:(1+c.fmod 8=0)=False:=Ċ<|by lia
 have s1:Bd 8=true:=Bv (by decide)<|by decide
 unfold LM Se
 simp![ok,h,e,j,s1]
abbrev QD:Stmt:=AK 69
def OY:AG:=
 (AF (Cv 2<|m2 Aq (AA 5)<|m2 DS (mI 10)<|mI 45)
 (AO (m2 BX (AA 5)<|m2 DS (mI 10)<|mI 45)<|AD 5))
def OX:AG:=
 (AF (AO (m2 Aq (m2 Aj (m2 Aj (m2 B9 (AA 3)<|AA 3)<|m2 B9 (mI 48271)<|AA 3)<|AA 4)<|m2 Aj (m2 DS (mI 10)<|mI 18)<|mI 9)<|AD 3)
 (Cv 2<|AA 3))
def M8:AG:=
 (AF (Ca 2<|BJ AE)
 (AF (Aa (m2 (BP λi j=>decide (j<=i)) (AA 0)<|m2 DS (mI 10)<|mI 30) (AF (AO (m2 EI (AA 0)<|m2 DS (mI 10)<|mI 30)<|AD 5)
 (AF (B5 (CN<|mJ 1 AE) (AD 4) OY)
 (AQ<|AA 2))) A6)
 (AF (AO (m2 Aj (m2 Aq (AA 0)<|m2 Aj (m2 DS (mI 10)<|mI 18)<|mI 9)<|mI 48271)<|AD 3)
 (AF (B5 (CN<|AB (m2 Aj (AA 1)<|mI 2) AE) (AD 4) OX)
 (AF (Eg 2)<|AQ<|DV (FD (AA 2) (↑(mI 2)) none)<|F7 (AA 2) (↑(mI 2)) none)))))
def Eb:kL->Option Ru:=AZ 2 6 M8
abbrev JB:=fA 1 2 QD Eb
abbrev zed:Gm:=gA QD 0 [] ["range"] ["_law_found"] (N:=["_law_cell","_law_many","_law_found","_law_number_here","_law_k","_law_rest"])
theorem zeq:Ck zed JB QD M8:={}
def Jb(c:Int){m:Nat}(A:m<=1000):∃xs:Nat->Int,Eb [.int c,.int m]=↑(.ok<|.own<|mT m λi=>.int<|xs i):=by
 have e:(0:Int)<=30/\(30:Int)<=1000000/\DJ 10=true:={by decide,by decide,Cn (by decide)<|by decide}
 have q:(0:Int)<=45/\(45:Int)<=1000000/\DJ 10=true:={by decide,by decide,Cn (by decide)<|by decide}
 have d:(0:Int)<=18/\(18:Int)<=1000000/\DJ 10=true:={by decide,by decide,Cn (by decide)<|by decide}
 have t:Bd (10 ^ 45)=true:=Bv (by decide)<|by decide
 have u:((10:Int) ^ 45≠0)=True:=by simp
 have l:((10:Int) ^ 18+9≠0)=True:=by simp
 have s:(45:Int).toNat=45:=rfl;have k:(30:Int).toNat=30:=rfl;have f:(18:Int).toNat=18:=rfl
 by_cases h:(10:Int) ^ 30<=c
 .have a:=K8 (b:=AD 4) (body:=OY) (n:=m) (g:=λi=>.int (i:Int)) (Y:=[↑(.int c),↑(.int m),↑(.own []),none,none,↑(.int<|c - 10 ^ 30)])
   (λi Y=>∃(xs:Nat->Int) (x:kH) (r:Int),Y=[↑(.int c),↑(.int m),↑(.own<|mT i λi=>.int<|xs i),none,x,↑(.int r)])
   {λϊ=>0,none,_,rfl} (by
    rintro i Y v ⟨xs,x,r,rfl⟩;refine{_,by simp![];rfl,?_}
    have l1:i<100000:=by lia
    refine{_,by unfold OY;simp![q,t,u,s,l1];rfl,λj=>if j=i then r.fmod (10 ^ 45) else xs j,↑(.int (i:Int)),r.fdiv<|10 ^ 45,?_}
    rw[Zr T.int])
  let(w,o,xs,x,r,rfl):=a;refine{xs,?_};have p:CI (m:Int)=true:=EZ<|by lia
  unfold Eb M8
  simp![e,k,h,p,Ci,o]
 .have a:=K8 (b:=AD 4) (body:=OX) (n:=m+2) (g:=λi=>.int (i:Int)) (Y:=[↑(.int c),↑(.int m),↑(.own []),↑(.int<|c.fmod (10 ^ 18+9)+48271),none,none])
   (λi Y=>∃(xs:Nat->Int) (x:kH) (r:Int),0<=r/\r<2 * 10 ^ 18/\Y=[↑(.int c),↑(.int m),↑(.own<|mT i λi=>.int<|xs i),↑(.int r),x,none])
   {λϊ=>0,none,_,by rw[fm<|by decide];lia,by rw[fm<|by decide];lia,rfl} (by
    rintro i Y v ⟨xs,x,r,r0,r1,rfl⟩;refine{_,by simp![];rfl,?_}
    have l1:i<100000:=by lia
    have m1:Be r r=true:=zla (Bv (by lia)<|by lia)<|Bv (by lia)<|by lia
    have m2:Be 48271 r=true:=Hc<|Cn (by decide)<|by decide
    refine{_,by unfold OX;simp![d,l,f,l1,m1,m2];rfl,λj=>if j=i then (r * r+48271 * r+i).fmod (10 ^ 18+9) else xs j,↑(.int (i:Int)),(r * r+48271 * r+i).fmod (10 ^ 18+9),by rw[fm<|by decide];lia,by rw[fm<|by decide];lia,?_}
    rw[Zr T.int])
  obtain⟨w,o,xs,x,r,-,-,rfl⟩:=a;refine{λi=>xs<|i+2,?_}
  have p:CI ((m:Int)+2)=true:=EZ (n:=m+2)<|by lia
  have o2:((m:Int)+2).toNat=m+2:=by lia
  have ct:B0 (mT (m+2) λi=>.int<|xs i) ↑2 none=mT m λi=>.int<|xs<|i+2:=by
   unfold B0;have y:HT.sIx (mT (m+2) λi=>T.int<|xs i).length 0 ↑2=2:=by rw[BO];simp[HT.sIx]
   have z:HT.sIx (mT (m+2) λi=>T.int<|xs i).length (mT (m+2) λi=>T.int<|xs i).length none=m+2:=by rw[BO];rfl
   rw[y,z];refine EC (by simp[BO]) λi v=>?_
   rw[ũ (by lia),Ĺ,EB (by lia),Ņ]
  unfold Eb M8
  simp![e,k,h,d,f,l,p,o2,Ci,o,ct]
abbrev QM:Stmt:=AK 71
def Ib:AG:=
 (AQ<|m2 Aj (m2 B9 (AA 1)<|m2 Aq (AA 0)<|mI 7)<|AH (BJ<|Am (mI 0)<|Am (mI 0)<|Am (mI 0)<|Am (m2 Aj (mI 1)<|m2 Aq (m2 BX (AA 0)<|mI 28)<|mI 3) AE)<|m2 Aq (m2 BX (AA 0)<|mI 7)<|mI 4)
def HL:kL->Option Ru:=AZ 2 2 Ib
abbrev Tu:=fA 1 2 QM HL
abbrev zee:Gm:=gA QM 0 [] []
theorem zer:Ck zee Tu QM Ib:={}
def ZV(x u:Int)(f:0<=u):∃n,0<=n/\HL [.int x,.int u]=↑(.ok<|.int n):=by
 have e:0<=x.fmod 7/\x.fmod 7<7:=by
  rw[fm<|by decide]
  lia
 have g:0<=(x.fdiv 28).fmod 3:=by
  rw[fm (j:=3)<|by decide]
  lia
 have m1:Be u (x.fmod 7)=true:=EA<|Cn (by lia)<|by lia
 have a:Bd 28=true:=Bv (by decide)<|by decide
 have b:Bd 7=true:=Bv (by decide)<|by decide
 have h:0<=u * x.fmod 7:=Int.mul_nonneg f e.1
 have c:∀{x y z v:T} {l:kL},AW (x::y::z::v::l) (3:Int)=↑v:=by
  intro x y z v l;have:AW (x::y::z::v::l) ((3:Nat):Int)=↑v:=C7 rfl;exact this
 have d:(x.fdiv 7).fmod 4=0\/(x.fdiv 7).fmod 4=1\/(x.fdiv 7).fmod 4=2\/(x.fdiv 7).fmod 4=3:=by
  rw[fm (j:=4)<|by decide]
  lia
 rcases d with q|q|q|q
 .exact{u * x.fmod 7+0,by lia,by unfold HL Ib;simp![m1,a,b,q]}
 .exact{u * x.fmod 7+0,by lia,by unfold HL Ib;simp![m1,a,b,q]}
 .exact{u * x.fmod 7+0,by lia,by unfold HL Ib;simp![m1,a,b,q]}
 .exact{u * x.fmod 7+(1+(x.fdiv 28).fmod 3),by lia,by unfold HL Ib;simp![m1,a,b,q,c]}
abbrev QW:Stmt:=AK 72
def IC:AG:=
 (Aa (m2 CJ (AA 2)<|BJ AE) (AF (AO (AH (BJ<|Am (mC<|.str "<")<|Am (mC<|.str "<=")<|Am (mC<|.str ">")<|Am (mC<|.str ">=")<|Am (mC<|.str ">=")<|Am (mC<|.str "=") AE)<|m2 Aq (m2 BX (AH (AA 0)<|m2 Aj (mI 1)<|m2 B9 (mI 2)<|AA 4)<|mI 8)<|mI 6)<|AD 5)
 (Cv 3<|BN<|AB (AH (AA 2)<|m2 Aq (AH (AA 0)<|m2 Aj (mI 1)<|m2 B9 (mI 2)<|AA 4)<|m1 BC<|AA 2)<|mJ 5<|AB (AM HL<|AB (AH (AA 0)<|m2 Aj (mI 2)<|m2 B9 (mI 2)<|AA 4)<|mJ 1 AE) AE)) A6)
def Ic:AG:=
 (AF (Ca 3<|BJ AE)
 (AF (B5 (CN<|AB (AH (BJ<|Am (mI 0)<|Am (mI 1)<|Am (mI 1)<|Am (mI 2) AE)<|m2 Aq (AH (AA 0)<|mI 0)<|mI 4) AE) (AD 4) IC)
 (AQ<|AA 3)))
def HM:kL->Option Ru:=AZ 3 6 Ic
abbrev Tv:=fA 2 3 QW HM
abbrev zfv:Gm:=gA QW 1 [("_law_number",Tu)] ["range","len"] ["_law_guard_here"]
theorem zga:Ck zfv Tv QW Ic:={}
def Za{ws:kE}(h:CD ws):CJ (.lst<|ws.map T.str) (.lst [])=↑(.bl<|!ws.isEmpty):=by
 have c:Fit (.lst<|ws.map T.str) 1:=Fit.nd λt b=>by
  let(x,f,rfl):=Ó.mp b;exact Fit.str (h x f) _
 have d:Fit (.lst []) 1:=Fit.nd λt b=>by cases b
 have e:=(fB c d<|by decide).2
 rw[e];cases ws with
 |nil=>simp_all|cons a r=>simp[T.data,Bj]
def J1:kE:=["<","<=",">",">=",">=","="]
def zmn:∀y∈J1,y∈BU:=by decide +kernel
def Ja{ys:kE}{i:Int}(b:0<=i)(c:i<ys.length):AW (ys.map T.str) i=↑(.str<|ys.getD i.toNat Str.empty)/\ys.getD i.toNat Str.empty∈ys:=by
 have a:i.toNat<ys.length:=by lia
 rw[Ú,Â a];exact{Ht b (by rw[Ë,Â a];rfl),Ò a}
def IZ(x:Int){n:Nat}(h:1<=n):0<=x.fmod n/\x.fmod n<(n:Int):=by
 rw[fm<|by lia]
 exact{Int.emod_nonneg _ (by lia),Int.emod_lt_of_pos _<|by lia}
def zlw{xs:Nat->Int}{u:Int}(v:0<=u){ws:kE}(w:CD ws){l:kL}(h:BD ws BU l){k:Nat}(hk:k<2)(A:l.length<=k){x5:kH}:∃l' y5,IC [↑(.lst<|mT 5 λi=>.int<|xs i),↑(.int u),↑(.lst<|ws.map T.str),↑(.own l),↑(.int k),x5]
  = ↑(.nx [↑(.lst<|mT 5 λi=>.int<|xs i),↑(.int u),↑(.lst<|ws.map T.str),↑(.own l'),↑(.int k),y5])/\BD ws BU l'/\l'.length<=k+1:=by
 have en:=Za w;cases b:ws.isEmpty with
 |true=>
  rw[b]at en;refine{l,x5,?_,h,by lia}
  unfold IC
  simp![AV,AS,en]
 |false=>
  rw[b]at en
  have s:1<=ws.length:=by
   cases ws with
   |nil=>cases b|cons a r=>simp
  have m2:Be 2 (k:Int)=true:=Hc<|Cn (by decide)<|by decide
  have m:AW (mT 5 λi=>T.int<|xs i) (1+2 * (k:Int))=↑(.int<|xs<|1+2 * k):=by
   have:=CY (n:=5) (g:=λi=>T.int<|xs i) (k:=1+2 * k)<|by lia
   simpa using this
  have o:AW (mT 5 λi=>T.int<|xs i) (2+2 * (k:Int))=↑(.int<|xs<|2+2 * k):=by
   have:=CY (n:=5) (g:=λi=>T.int<|xs i) (k:=2+2 * k)<|by lia
   simpa using this
  have f:=IZ ((xs<|1+2 * k).fdiv 8) (n:=6)<|by decide
  let(p,q):=Ja (ys:=J1) f.1 f.2;have d:AW [T.str<|Str.ofString "<",.str<|Str.ofString "<=",.str<|Str.ofString ">",.str<|Str.ofString ">=",.str<|Str.ofString ">=",.str<|Str.ofString "="] (((xs<|1+2 * k).fdiv 8).fmod 6)=↑(.str<|J1.getD (((xs<|1+2 * k).fdiv 8).fmod 6).toNat Str.empty):=p;have j:=IZ (xs<|1+2 * k) s;let(c1,c2):=Ja (ys:=ws) j.1 j.2;let(n,y,e):=ZV (xs<|2+2 * k) u v;have z:Bd 8=true:=Bv (by decide)<|by decide
  have nw:((ws.length:Int)=0)=False:=Ċ<|by lia
  have x:l.length<100000:=by lia
  refine{l++[.tup [.str<|ws.getD ((xs<|1+2 * k).fmod ws.length).toNat Str.empty,.str<|J1.getD (((xs<|1+2 * k).fdiv 8).fmod 6).toNat Str.empty,.int n]],↑(.str<|J1.getD (((xs<|1+2 * k).fdiv 8).fmod 6).toNat Str.empty),?_,λt c=>?_,by rw[à,Ö,Ď];lia}
  .unfold IC
   simp![AV,AS,Á,en,m2,m,o,d,c1,e,z,nw,x]
  .rcases ä.mp c with c|c
   .exact h t c
   .rw[Ô.mp c];exact{_,_,_,rfl,c2,zmn _ q,y}
def b4{xs:Nat->Int}{u:Int}(w:0<=u){ws:kE}(A:CD ws):∃l,HM [.lst<|mT 5 λi=>.int<|xs i,.int u,.lst<|ws.map T.str]=↑(.ok<|.own l)/\BD ws BU l/\l.length<=2:=by
 have go:∀n:Nat,n<=2->∃l d c,Ak (AD 4) IC (mT n λi=>.int (i:Int)) [↑(.lst<|mT 5 λi=>.int<|xs i),↑(.int u),↑(.lst<|ws.map T.str),↑(.own []),none,none]=↑(.nx [↑(.lst<|mT 5 λi=>.int<|xs i),↑(.int u),↑(.lst<|ws.map T.str),↑(.own l),d,c])/\BD ws BU l/\l.length<=n:=λn K=>by
  let(Y,e,l,d,c,rfl,a,f):=FJ (b:=AD 4) (body:=IC) (ts:=mT n λi=>.int (i:Int)) (Y:=[↑(.lst<|mT 5 λi=>.int<|xs i),↑(.int u),↑(.lst<|ws.map T.str),↑(.own []),none,none])
   (λi Y=>∃l d c,Y=[↑(.lst<|mT 5 λi=>.int<|xs i),↑(.int u),↑(.lst<|ws.map T.str),↑(.own l),d,c]/\BD ws BU l/\l.length<=i) {[],none,none,rfl,λt s=>(by cases s),õ _} λi t Y a f=>by
    let(J,rfl):=Gs a;let(l,d,c,rfl,B,C):=f;let(F,I,p,D,E):=zlw (xs:=xs) w A B (k:=i) (by lia) C (x5:=c)
    exact{_,by simp![],_,p,F,_,_,rfl,D,E}
  rw[BO]at f;exact{(l),d,c,e,a,f}
 have r:(xs 0).fmod 4=0\/(xs 0).fmod 4=1\/(xs 0).fmod 4=2\/(xs 0).fmod 4=3:=by
  rw[fm (j:=4)<|by decide]
  lia
 have h:AW (mT 5 λi=>T.int<|xs i) 0=↑(.int<|xs 0):=CY (n:=5) (g:=λi=>T.int<|xs i) (k:=0)<|by lia
 have o:∀{x y z v:T} {l:kL},AW (x::y::z::v::l) (3:Int)=↑v:=by
  intro x y z v l;have:AW (x::y::z::v::l) ((3:Nat):Int)=↑v:=C7 rfl;exact this
 have G:CI 0=true:=@decide_eq_true _ (Classical.propDecidable _) {by decide,by decide}
 have m:CI 1=true:=@decide_eq_true _ (Classical.propDecidable _) {by decide,by decide}
 have o2:CI 2=true:=@decide_eq_true _ (Classical.propDecidable _) {by decide,by decide}
 have r0:Br 0 (0:Int).toNat=mT 0 λi=>.int (i:Int):=Ci
 have r1:Br 0 (1:Int).toNat=mT 1 λi=>.int (i:Int):=Ci
 have H:Br 0 (2:Int).toNat=mT 2 λi=>.int (i:Int):=Ci
 rcases r with q|q|q|q
 .let(l,d,c,e,a,f):=go 0<|by decide
  exact{l,by unfold HM Ic;simp![AV,AS,h,q,G,r0,e],a,by lia}
 .let(l,d,c,e,a,f):=go 1<|by decide
  exact{l,by unfold HM Ic;simp![AV,AS,h,q,m,r1,e],a,by lia}
 .let(l,d,c,e,a,f):=go 1<|by decide
  exact{l,by unfold HM Ic;simp![AV,AS,h,q,m,r1,e],a,by lia}
 .let(l,d,c,e,a,f):=go 2<|by decide
  exact{l,by unfold HM Ic;simp![AV,AS,h,q,o,o2,H,e],a,by lia}
abbrev QY:Stmt:=AK 74
def TU:AI:=
 (m2 Au (m2 Aq (m2 BX (m2 BX (AH (AA 2)<|mI 7)<|m2 DS (mI 2)<|mI 4)<|m2 Aj (AA 0)<|mI 1)<|mI 2)<|mI 1)
def Ui:AI:=
 (AH (AA 1)<|AA 0)
def Sh:AG:=
 (AF (AO (AM Eb<|mJ 0<|AB (mI 9) AE)<|AD 4)
 (AF (AO (BG 1 [2,4] (CN<|AB (m1 BC<|AA 2) AE) (AD 0) TU Ui)<|AD 5)
 (AF (AO (AH (BJ<|Am (mC<|.str "")<|Am (mC<|.str "")<|Am (mC<|.str "")<|Am (mC<|.str "go!") AE)<|m2 B9 (m2 BX (m2 Aq (AH (AA 4)<|mI 8)<|mI 16)<|mI 12)<|m2 Aq (m2 BX (AH (AA 4)<|mI 8)<|mI 16)<|mI 4)<|AD 6)
 (AQ<|BN<|AB (m2 Aq (AH (AA 4)<|mI 0)<|AA 3)<|AB (m2 Aq (AH (AA 4)<|mI 1)<|AA 3)<|AB (AM HM<|AB (DV (FD (AA 4) (↑(mI 2))<|↑(mI 7))<|F7 (AA 4) (↑(mI 2))<|↑(mI 7))<|mJ 1<|mJ 2 AE)<|mJ 5<|mJ 6 AE))))
def JX:kL->Option Ru:=AZ 4 7 Sh
abbrev eJ:=fA 3 4 QY JX
abbrev zih:Gm:=gA QY 2 [("_law_stream",JB),("_law_guard",Tv)] ["range","len"]
theorem ziy:Ck zih eJ QY Sh:={}
def Sy{mt me:AI}{cs:AN}{f:Nat->T}{p:Nat->Bool}:∀{l:kG} {x:kH},(∀i∈l,(∃b,mt (↑(.int (i:Int))::cs)=↑(.v (.bl<|p i) b))/\me (↑(.int (i:Int))::cs)=↑(.v (f i) false))->Bi (AD 0) mt me (l.map λi:Nat=>T.int (i:Int)) (x::cs)=↑((l.filter p).map f)
 |[],ϊ,ϋ=>rfl|i::r,x,h=>by
  let((b,c),d):=h i (Í ..);have g:=Sy (x:=↑(.int (i:Int))) λj a=>h j<|Ê _ a
  unfold Bi;have eb:AD 0 (T.int (i:Int)) (x::cs)=↑(↑(.int (i:Int))::cs):=by simp[AD]
  cases e:p i with
  |true=>simp_all|false=>simp_all
def pN(y:Int)(i:Nat):Bool:=((y.fdiv 16).fdiv ((i:Int)+1)).fmod 2 == 1
def Ut(z:Str):Prop:=z=Str.ofString ""\/z=Str.ofString "go!"
abbrev NZ(ws:kE)(n:Nat)(d:Sd):Prop:=d.b<n/\d.e<n/\BD ws BU d.g/\d.g.length<=2/\(∀x∈d.n,x∈ws)/\d.n.Nodup/\d.n.length<=7/\Ut d.z
def zm6(c:Int){u:Int}(hu:0<=u){ws:kE}(hw:CD ws)(hd:ws.Nodup)(h7:ws.length<=7){m:Nat}(K:1<=m):∃d:Sd,JX [.int c,.int u,.lst<|ws.map T.str,.int m]=↑(.ok<|BK d)/\NZ ws m d:=by
 let(xs,A):=Jb c (m:=9)<|by decide
 let(g,U,g1,g2):=b4 (xs:=λi=>xs<|i+2) hu hw
 have gs:=g1.sh;have w:∀k:Nat,k<9->AW (mT 9 λi=>T.int<|xs i) (k:Int)=↑(.int<|xs k):=λk hk=>CY hk
 have x0:=w 0<|by decide
 have x1:=w 1<|by decide
 have x7:AW (mT 9 λi=>T.int<|xs i) 7=↑(.int<|xs 7):=w 7<|by decide
 have x8:=w 8<|by decide
 have Q:B0 (mT 9 λi=>T.int<|xs i) ↑2 ↑7=mT 5 λi=>.int<|xs<|i+2:=by
  have R:HT.sIx 9 0 ↑2=2:=by decide
  have S:HT.sIx 9 9 ↑7=7:=by decide
  unfold B0;rw[BO,R,S];refine EC (by rw[Đ,List.length_drop,BO];rfl) λi r=>?_
  rw[List.getElem?_take,if_pos (by lia),Ĺ,EB (by lia),Ņ]
 have t:=Sy (mt:=TU) (me:=Ui) (cs:=[↑(.lst<|ws.map T.str),↑(.lst<|mT 9 λi=>.int<|xs i)]) (f:=λi=>.str<|ws.getD i Str.empty) (p:=pN<|xs 7) (l:=List.range ws.length) (x:=none) λi r=>by
  have Z:=á.mp r;have I:((2:Int) ^ (4:Int).toNat)=16:=rfl;have t4:(0:Int)<=4/\(4:Int)<=1000000/\DJ 2=true:={by decide,by decide,Cn (by decide)<|by decide}
  have o:Bd 16=true:=Bv (by decide)<|by decide
  have si:Bd ((i:Int)+1)=true:=Bv (Int.lt_of_lt_of_le (b:=0) (by decide +kernel)<|by lia)<|ń (b:=9) (by lia)<|by decide +kernel
  have ni:((i:Int)+1=0)=False:=Ċ<|by lia
  have P:AW (ws.map T.str) (i:Int)=↑(.str<|ws.getD i Str.empty):=by
   have:=(Ja (ys:=ws) (i:=(i:Int)) (by lia)<|by lia).1
   rwa[ï]at this
  have s9:A4 (mT 9 λi=>T.int<|xs i)=true:=Fm _
  constructor
  .refine{false,?_};unfold TU pN
   simp![x7,I,t4,o,si,ni,Cc]
  .unfold Ui
   simp![AS,P]
 have lm:(List.range ws.length).map (λi:Nat=>T.int (i:Int))=mT ws.length λi=>.int (i:Int):=rfl
 rw[lm]at t
 have fs:((List.range ws.length).filter (pN<|xs 7)).map (λi=>T.str<|ws.getD i Str.empty)=(((List.range ws.length).filter (pN<|xs 7)).map λi=>ws.getD i Str.empty).map T.str:=by
  rw[ü]
  rfl
 rw[fs]at t;have h:∀i∈(List.range ws.length).filter (pN<|xs 7),i<ws.length:=λi r=>á.mp (Ŀ.mp r).1
 have L:∀x∈((List.range ws.length).filter (pN<|xs 7)).map (λi=>ws.getD i Str.empty),x∈ws:=λx hx=>by
  let(i,r,rfl):=Ó.mp hx;have:=h i r;rw[Ú,Â this];exact Ò this
 have M:(((List.range ws.length).filter (pN<|xs 7)).map λi=>ws.getD i Str.empty).Nodup:=by
  rw[List.nodup_iff_pairwise_ne,List.pairwise_map];refine List.Pairwise.imp_of_mem ?_<|List.Pairwise.filter _<|List.nodup_range (n:=ws.length);intro a b X Y B e;have J:=h a X;have W:=h b Y;rw[Ú,Â J,Ú,Â W]at e;exact B<|(Ĩ hd).mp e
 have N:(((List.range ws.length).filter (pN<|xs 7)).map λi=>ws.getD i Str.empty).length<=7:=by
  rw[Á];have:=List.length_filter_le (pN<|xs 7)<|List.range ws.length;rw[Ļ]at this
  lia
 generalize ((List.range ws.length).filter (pN<|xs 7)).map (λi=>ws.getD i Str.empty)=ns at t L M N
 have m16:0<=(xs 8).fmod 16/\(xs 8).fmod 16<16:=by
  rw[fm<|by decide]
  lia
 have C:((xs 8).fmod 16).fdiv 12=0\/((xs 8).fmod 16).fdiv 12=1:=by
  rw[fd<|by decide]
  lia
 have D:((xs 8).fdiv 16).fmod 4=0\/((xs 8).fdiv 16).fmod 4=1\/((xs 8).fdiv 16).fmod 4=2\/((xs 8).fdiv 16).fmod 4=3:=by
  rw[fm (j:=4)<|by decide]
  lia
 have O:∀{x y z v:T} {l:kL},AW (x::y::z::v::l) (3:Int)=↑v:=by
  intro x y z v l;have:AW (x::y::z::v::l) ((3:Nat):Int)=↑v:=C7 rfl;exact this
 have sg:∃z,Ut z/\AW [T.str<|Str.ofString "",.str<|Str.ofString "",.str<|Str.ofString "",.str<|Str.ofString "go!"] (((xs 8).fmod 16).fdiv 12 * ((xs 8).fdiv 16).fmod 4)=↑(.str z):=by
  rcases C with q|q<;>rcases D with p|p|p|p<;>rw[q,p]
  .exact{_,.inl rfl,G3}
  .exact{_,.inl rfl,G3}
  .exact{_,.inl rfl,G3}
  .exact{_,.inl rfl,G3}
  .exact{_,.inl rfl,G3}
  .exact{_,.inl rfl,Fy}
  .exact{_,.inl rfl,NU}
  .exact{_,.inr rfl,O}
 let(z,z1,z2):=sg;have mz:Be (((xs 8).fmod 16).fdiv 12) (((xs 8).fdiv 16).fmod 4)=true:=EA<|Cn (by rcases D with p|p|p|p<;>lia) (by rcases D with p|p|p|p<;>lia)
 have o:Bd 16=true:=Bv (by decide)<|by decide
 have E:Bd 12=true:=Bv (by decide)<|by decide
 have h0:=IZ (xs 0) K;have J:=IZ (xs 1) K;have nm:((m:Int)=0)=False:=Ċ<|by lia
 have ok:CI (ws.length:Int)=true:=EZ<|by lia
 have V:Br 0 ws.length=mT ws.length λi=>.int (i:Int):=Ci
 have l7:ws.length<=100000:=by lia
 refine{{((xs 0).fmod m).toNat,((xs 1).fmod m).toNat,g,ns,z},?_,by show _<m;lia,by show _<m;lia,g1,g2,L,M,N,z1}
 have t0:(((xs 0).fmod m).toNat:Int)=(xs 0).fmod m:=by lia
 have t1:(((xs 1).fmod m).toNat:Int)=(xs 1).fmod m:=by lia
 have F:AW (mT 9 λi=>T.int<|xs i) 0=↑(.int<|xs 0):=x0
 have G:AW (mT 9 λi=>T.int<|xs i) 1=↑(.int<|xs 1):=x1
 have H:AW (mT 9 λi=>T.int<|xs i) 8=↑(.int<|xs 8):=x8
 have s:Eb [.int c,.int 9]=↑(.ok<|.own<|mT 9 λi=>.int<|xs i):=A
 show JX [.int c,.int u,.lst<|ws.map T.str,.int m]=↑(.ok<|.tup [.int (((xs 0).fmod m).toNat:Int),.int (((xs 1).fmod m).toNat:Int),.lst g,.lst<|ns.map T.str,.str z]);unfold JX Sh
 simp![AV,AS,Á,s,ok,V,l7,t,F,G,H,o,E,mz,z2,Q,U,gs,AJ _ gs,nm,t0,t1]
abbrev QF:Stmt:=AK 73
def IB:AG:=
 (Aa (m2 CJ (AA 2)<|BJ AE) (AF (AO (m2 Aj (AM HL<|AB (AH (AA 0)<|m2 Aj (mI 2)<|m2 B9 (mI 2)<|AA 4)<|mJ 1 AE)<|m2 B9 (AA 1)<|m2 EI (mI 1)<|m2 BX (m2 Aq (m2 BX (AH (AA 0)<|mI 0)<|mI 4)<|mI 16)<|mI 15)<|AD 5)
 (Cv 3<|BN<|AB (AH (AA 2)<|m2 Aq (AH (AA 0)<|m2 Aj (mI 1)<|m2 B9 (mI 2)<|AA 4)<|m1 BC<|AA 2)<|AB (AH (BJ<|Am (mC<|.str "<")<|Am (mC<|.str "<=") AE)<|m2 Aq (m2 BX (AH (AA 0)<|m2 Aj (mI 1)<|m2 B9 (mI 2)<|AA 4)<|mI 8)<|mI 2)<|mJ 5 AE)) A6)
def Ia:AG:=
 (AF (Ca 3<|BJ AE)
 (AF (B5 (CN<|AB (AH (BJ<|Am (mI 0)<|Am (mI 0)<|Am (mI 1)<|Am (mI 2) AE)<|m2 Aq (AH (AA 0)<|mI 0)<|mI 4) AE) (AD 4) IB)
 (AQ<|AA 3)))
def Hx:kL->Option Ru:=AZ 3 6 Ia
abbrev dY:=fA 2 3 QF Hx
abbrev zia:Gm:=gA QF 1 [("_law_number",Tu)] ["range","len"] ["_law_stay_here"]
theorem zir:Ck zia dY QF Ia:={}
def zjk{xs:Nat->Int}{u:Int}(q:0<=u){ws:kE}(A:CD ws){l:kL}(o:BD ws DY l){k:Nat}(hk:k<2)(F:l.length<=k){x5:kH}:∃l' y5,IB [↑(.lst<|mT 5 λi=>.int<|xs i),↑(.int u),↑(.lst<|ws.map T.str),↑(.own l),↑(.int k),x5]
  = ↑(.nx [↑(.lst<|mT 5 λi=>.int<|xs i),↑(.int u),↑(.lst<|ws.map T.str),↑(.own l'),↑(.int k),y5])/\BD ws DY l'/\l'.length<=k+1:=by
 have en:=Za A;cases b:ws.isEmpty with
 |true=>
  rw[b]at en;refine{l,x5,?_,o,by lia}
  unfold IB
  simp![AV,AS,en]
 |false=>
  rw[b]at en
  have z:1<=ws.length:=by
   cases ws with
   |nil=>cases b|cons a r=>simp
  have m2:Be 2 (k:Int)=true:=Hc<|Cn (by decide)<|by decide
  have s:AW (mT 5 λi=>T.int<|xs i) 0=↑(.int<|xs 0):=CY (n:=5) (g:=λi=>T.int<|xs i) (k:=0)<|by lia
  have v:AW (mT 5 λi=>T.int<|xs i) (1+2 * (k:Int))=↑(.int<|xs<|1+2 * k):=by
   have:=CY (n:=5) (g:=λi=>T.int<|xs i) (k:=1+2 * k)<|by lia
   simpa using this
  have w:AW (mT 5 λi=>T.int<|xs i) (2+2 * (k:Int))=↑(.int<|xs<|2+2 * k):=by
   have:=CY (n:=5) (g:=λi=>T.int<|xs i) (k:=2+2 * k)<|by lia
   simpa using this
  have m:=IZ ((xs<|1+2 * k).fdiv 8) (n:=2)<|by decide
  let(x,y):=Ja (ys:=DY) m.1 m.2;have d:AW [T.str<|Str.ofString "<",.str<|Str.ofString "<="] (((xs<|1+2 * k).fdiv 8).fmod 2)=↑(.str<|DY.getD (((xs<|1+2 * k).fdiv 8).fmod 2).toNat Str.empty):=x;have p:=IZ (xs<|1+2 * k) z;let(c1,c2):=Ja (ys:=ws) p.1 p.2;let(n,G,e):=ZV (xs<|2+2 * k) u q;have E:Bd 8=true:=Bv (by decide)<|by decide
  have D:Bd 4=true:=Bv (by decide)<|by decide
  have h:Bd 15=true:=Bv (by decide)<|by decide
  have nw:((ws.length:Int)=0)=False:=Ċ<|by lia
  have B:l.length<100000:=by lia
  have f:0<=1 - (((xs 0).fdiv 4).fmod 16).fdiv 15/\1 - (((xs 0).fdiv 4).fmod 16).fdiv 15<=1:=by
   rw[fm (j:=16) (by decide),fd (j:=15)<|by decide]
   lia
  have mu:Be u (1 - (((xs 0).fdiv 4).fmod 16).fdiv 15)=true:=EA<|Cn (by lia)<|by lia
  have C:0<=u * (1 - (((xs 0).fdiv 4).fmod 16).fdiv 15):=Int.mul_nonneg q f.1;refine{l++[.tup [.str<|ws.getD ((xs<|1+2 * k).fmod ws.length).toNat Str.empty,.str<|DY.getD (((xs<|1+2 * k).fdiv 8).fmod 2).toNat Str.empty,.int<|n+u * (1 - (((xs 0).fdiv 4).fmod 16).fdiv 15)]],↑(.int<|n+u * (1 - (((xs 0).fdiv 4).fmod 16).fdiv 15)),?_,λt c=>?_,by rw[à,Ö,Ď];lia}
  .unfold IB
   simp![AV,AS,Á,en,m2,s,v,w,d,c1,e,E,D,h,nw,B,mu]
  .rcases ä.mp c with c|c
   .exact o t c
   .rw[Ô.mp c];exact{_,_,_,rfl,c2,y,by lia}
def sy_ex{xs:Nat->Int}{u:Int}(w:0<=u){ws:kE}(A:CD ws):∃l,Hx [.lst<|mT 5 λi=>.int<|xs i,.int u,.lst<|ws.map T.str]=↑(.ok<|.own l)/\BD ws DY l/\l.length<=2:=by
 have go:∀n:Nat,n<=2->∃l d c,Ak (AD 4) IB (mT n λi=>.int (i:Int)) [↑(.lst<|mT 5 λi=>.int<|xs i),↑(.int u),↑(.lst<|ws.map T.str),↑(.own []),none,none]=↑(.nx [↑(.lst<|mT 5 λi=>.int<|xs i),↑(.int u),↑(.lst<|ws.map T.str),↑(.own l),d,c])/\BD ws DY l/\l.length<=n:=λn K=>by
  let(Y,e,l,d,c,rfl,a,f):=FJ (b:=AD 4) (body:=IB) (ts:=mT n λi=>.int (i:Int)) (Y:=[↑(.lst<|mT 5 λi=>.int<|xs i),↑(.int u),↑(.lst<|ws.map T.str),↑(.own []),none,none])
   (λi Y=>∃l d c,Y=[↑(.lst<|mT 5 λi=>.int<|xs i),↑(.int u),↑(.lst<|ws.map T.str),↑(.own l),d,c]/\BD ws DY l/\l.length<=i) {[],none,none,rfl,λt s=>(by cases s),õ _} λi t Y a f=>by
    let(J,rfl):=Gs a;let(l,d,c,rfl,B,C):=f;let(F,I,p,D,E):=zjk (xs:=xs) w A B (k:=i) (by lia) C (x5:=c)
    exact{_,by simp![],_,p,F,_,_,rfl,D,E}
  rw[BO]at f;exact{(l),d,c,e,a,f}
 have r:(xs 0).fmod 4=0\/(xs 0).fmod 4=1\/(xs 0).fmod 4=2\/(xs 0).fmod 4=3:=by
  rw[fm (j:=4)<|by decide]
  lia
 have h:AW (mT 5 λi=>T.int<|xs i) 0=↑(.int<|xs 0):=CY (n:=5) (g:=λi=>T.int<|xs i) (k:=0)<|by lia
 have o:∀{x y z v:T} {l:kL},AW (x::y::z::v::l) (3:Int)=↑v:=by
  intro x y z v l;have:AW (x::y::z::v::l) ((3:Nat):Int)=↑v:=C7 rfl;exact this
 have m:CI 0=true:=@decide_eq_true _ (Classical.propDecidable _) {by decide,by decide}
 have G:CI 1=true:=@decide_eq_true _ (Classical.propDecidable _) {by decide,by decide}
 have o2:CI 2=true:=@decide_eq_true _ (Classical.propDecidable _) {by decide,by decide}
 have r0:Br 0 (0:Int).toNat=mT 0 λi=>.int (i:Int):=Ci
 have r1:Br 0 (1:Int).toNat=mT 1 λi=>.int (i:Int):=Ci
 have H:Br 0 (2:Int).toNat=mT 2 λi=>.int (i:Int):=Ci
 rcases r with q|q|q|q
 .let(l,d,c,e,a,f):=go 0<|by decide
  exact{l,by unfold Hx Ia;simp![AV,AS,h,q,m,r0,e],a,by lia}
 .let(l,d,c,e,a,f):=go 0<|by decide
  exact{l,by unfold Hx Ia;simp![AV,AS,h,q,m,r0,e],a,by lia}
 .let(l,d,c,e,a,f):=go 1<|by decide
  exact{l,by unfold Hx Ia;simp![AV,AS,h,q,G,r1,e],a,by lia}
 .let(l,d,c,e,a,f):=go 2<|by decide
  exact{l,by unfold Hx Ia;simp![AV,AS,h,q,o,o2,H,e],a,by lia}
abbrev QU:Stmt:=AK 75
def O3:AG:=
 (AF (AO (AM Eb<|AB (m2 Aj (AM Eo<|mJ 0<|AB (m2 Aj (mI 2)<|AA 7) AE)<|AA 7)<|AB (mI 5) AE)<|AD 9)
 (Cv 6<|BN<|AB (AH (AA 5)<|AA 7)<|AB (AM Hx<|mJ 9<|mJ 3<|mJ 4 AE) AE))
def Uh:AI:=
 (AM JX<|mJ 0<|mJ 2<|mJ 3<|AB (m1 BC<|AA 1) AE)
def Sg:AG:=
 (AF (AO (AM Eo<|mJ 0<|AB (mI 0) AE)<|AD 1)
 (AF (AO (AM Eo<|mJ 0<|AB (mI 1) AE)<|AD 2)
 (AF (AO (m2 Aj (mI 1)<|m2 Aq (m2 BX (AA 1)<|mI 4)<|AH (BJ<|Am (mI 1)<|Am (mI 3)<|Am (m2 DS (mI 10)<|mI 15)<|Am (m2 DS (mI 10)<|mI 40) AE)<|m2 Aq (AA 1)<|mI 4)<|AD 3)
 (AF (AO (AM LM<|AB (m2 BX (AA 1)<|mI 16)<|AB (AH (BJ<|Am (mI 0)<|Am (mI 1)<|Am (mI 1)<|Am (mI 2)<|Am (mI 2)<|Am (mI 2) AE)<|m2 Aq (AA 2)<|mI 6) AE)<|AD 4)
 (AF (AO (AM LM<|AB (m2 BX (AA 2)<|mI 24)<|AB (m2 Aj (mI 1)<|m2 Aq (m2 BX (AA 2)<|mI 6)<|mI 4) AE)<|AD 5)
 (AF (Ca 6<|BJ AE)
 (AF (B5 (CN<|AB (m1 BC<|AA 5) AE) (AD 7) O3)
 (AF (AO (BG 1 [5,3,4] (Ax<|DV (FD (AA 0) (↑(mI 6))<|↑(mI 12))<|F7 (AA 0) (↑(mI 6))<|↑(mI 12)) (AD 0) (mC<|.bl true) Uh)<|AD 8)
 (AF (Eg 6)<|AQ<|BN<|mJ 4<|mJ 6<|mJ 8 AE)))))))))
def Nr:kL->Option Ru:=AZ 1 10 Sg
abbrev eG:=fA 4 1 QU Nr
abbrev zde:Gm:=gA QU 3 [("_law_cell_at",Tz),("_law_names",eE),("_law_stream",JB),("_law_stay",dY),("_law_door",eJ)] ["range","len"] ["_law_rooms"] (N:=["_law_script","_law_first","_law_second","_law_unit","_law_watches","_law_names_here","_law_rooms","_law_k","_law_doors","_law_xs"])
theorem zdp:Ck zde eG QU Sg:={}
structure DrwOk(ws:kE)(rs:List<|Str×kL)(dd:List Sd)(sz:Nat):Prop where
 w:∀x∈ws,FL x/\1<=x.cps.size/\x.cps.size<=8
 wd:ws.Nodup
 wl:ws.length<=2
 r1:1<=rs.length
 r4:rs.length<=4
 rn:∀r∈rs,FL r.1/\r.1.cps.size=sz
 sz:1<=sz/\sz<=8
 rd:(rs.map (·.1)).Nodup
 rl:∀r∈rs,BD ws DY r.2/\r.2.length<=2
 dl:dd.length<=100
 d:∀d∈dd,NZ ws rs.length d
def zp6(c:Int)(m:Nat):(mT m λk=>.str<|Cj c k)=((List.range m).map (Cj c)).map T.str:=by
 rw[ü]
 rfl
def Z5(c:Int){m:Nat}(j:m<20):((List.range m).map (Cj c)).Nodup:=by
 rw[List.nodup_iff_pairwise_ne,List.pairwise_map];refine List.Pairwise.imp_of_mem ?_<|List.nodup_range (n:=m);intro a b f g d e;have h:=á.mp f;have i:=á.mp g;exact d<|zp7 (by lia) (by lia) e
def ze5(ns:kF)(h:ns.length<=63):∃ws rs dd sz,Nr [C0 ns]=↑(.ok<|Aw ws rs dd)/\DrwOk ws rs dd sz:=by
 have c0:Eo [C0 ns,.int 0]=↑(.ok<|.int<|ns.getD 0 0):=Kl ns (k:=0)<|by decide
 have c1:Eo [C0 ns,.int 1]=↑(.ok<|.int<|ns.getD 1 0):=Kl ns (k:=1)<|by decide
 have ck:∀k:Nat,Eo [C0 ns,.int<|2+(k:Int)]=↑(.ok<|.int<|ns.getD (2+(k:Int)).toNat 0):=λk=>Kl ns<|by lia
 generalize ns.getD 0 0=x at c0;generalize ns.getD 1 0=y at c1;have a3 {x y z v:T} {l:kL}:AW (x::y::z::v::l) (3:Int)=↑v:=C7 (j:=3) rfl;have a4 {x y z v w:T} {l:kL}:AW (x::y::z::v::w::l) (4:Int)=↑w:=C7 (j:=4) rfl;have a5 {x y z v w t:T} {l:kL}:AW (x::y::z::v::w::t::l) (5:Int)=↑t:=C7 (j:=5) rfl
 have q4:x.fmod 4=0\/x.fmod 4=1\/x.fmod 4=2\/x.fmod 4=3:=by
  rw[fm (j:=4)<|by decide]
  lia
 have eu:∃q:Int,0<q/\AW [T.int 1,.int 3,.int<|10 ^ 15,.int<|10 ^ 40] (x.fmod 4)=↑(.int q):=by
  rcases q4 with p|p|p|p<;>rw[p]
  .exact{_,by decide,G3}
  .exact{_,by decide,Fy}
  .exact{_,by decide,NU}
  .exact{_,by decide,a3}
 let(q,q0,eq):=eu
 have q6:y.fmod 6=0\/y.fmod 6=1\/y.fmod 6=2\/y.fmod 6=3\/y.fmod 6=4\/y.fmod 6=5:=by
  rw[fm (j:=6)<|by decide]
  lia
 have ew:∃m:Nat,m<=2/\AW [T.int 0,.int 1,.int 1,.int 2,.int 2,.int 2] (y.fmod 6)=↑(.int (m:Int)):=by
  rcases q6 with p|p|p|p|p|p<;>rw[p]
  .exact{0,by decide,G3}
  .exact{1,by decide,Fy}
  .exact{1,by decide,NU}
  .exact{2,by decide,a3}
  .exact{2,by decide,a4}
  .exact{2,by decide,a5}
 let(m,m2,em):=ew
 have en:∃n:Nat,1<=n/\n<=4/\1+(y.fdiv 6).fmod 4=(n:Int):=by
  refine{(1+(y.fdiv 6).fmod 4).toNat,?_};rw[fm (j:=4)<|by decide]
  lia
 let(n,n1,n4,en):=en
 have u0:0<=1+(x.fdiv 4).fmod q:=by
  rw[fm (j:=q) q0];have:=Int.emod_nonneg (x.fdiv 4)<|show q≠0 by lia
  lia
 have nw:=Zc (x.fdiv 16) (m:=m)<|by lia
 have V:=Zc (y.fdiv 24) (m:=n)<|by lia
 rw[zp6]at nw V
 have A:∀z∈(List.range m).map (Cj<|x.fdiv 16),FL z/\1<=z.cps.size/\z.cps.size<=8:=λz J=>by
  let(k,_,rfl):=Ó.mp J;have:=Jw<|x.fdiv 16;rw[RQ];exact{Z6 _ _,this.1,this.2.1}
 have C:=Z5 (x.fdiv 16) (m:=m)<|by lia
 have wln:((List.range m).map (Cj<|x.fdiv 16)).length=m:=by simp
 generalize (List.range m).map (Cj<|x.fdiv 16)=ws at nw A C wln;have tw:CD ws:=λz J=>Ly (A z J).1
 have L:∀z∈(List.range n).map (Cj<|y.fdiv 24),FL z/\z.cps.size=Co (y.fdiv 24):=λz J=>by
  let(k,_,rfl):=Ó.mp J;exact{Z6 _ _,RQ _ _}
 have K:=Z5 (y.fdiv 24) (m:=n)<|by lia
 have B:((List.range n).map (Cj<|y.fdiv 24)).length=n:=by simp
 generalize (List.range n).map (Cj<|y.fdiv 24)=zs at V L K B;generalize hu:1+(x.fdiv 4).fmod q=u at u0
 let(Y,e,rs,x7,M,rfl,o,I):=FJ (b:=AD 7) (body:=O3) (ts:=mT n λi=>.int (i:Int)) (Y:=[↑(C0 ns),↑(.int x),↑(.int y),↑(.int u),↑(.lst<|ws.map T.str),↑(.lst<|zs.map T.str),↑(.own []),none,none,none])
  (λi Y=>∃(rs:List<|Str×kL) (x7 M:kH),Y=[↑(C0 ns),↑(.int x),↑(.int y),↑(.int u),↑(.lst<|ws.map T.str),↑(.lst<|zs.map T.str),↑(.own<|rs.map BZ),x7,none,M]/\rs.map (·.1)=zs.take i/\∀r∈rs,BD ws DY r.2/\r.2.length<=2) {[],none,none,rfl,by simp,λr a=>by cases a} λi t Y E P=>by
   let(G,rfl):=Gs E;let(rs,x7,M,rfl,k1,k2):=P;let(xs,es):=Jb (ns.getD (2+(i:Int)).toNat 0+(i:Int)) (m:=5)<|by decide
   have O:Eb [.int<|ns.getD (2+(i:Int)).toNat 0+(i:Int),.int 5]=↑(.ok<|.own<|mT 5 λi=>.int<|xs i):=es
   let(l,el,l1,l2):=sy_ex (xs:=xs) u0 tw;have ls:=l1.sh
   have lr:(rs.map BZ).length<100000:=by
    have:=congrArg List.length k1;rw[Á,Đ]at this;rw[Á]
    lia
   have H:i<zs.length:=by lia
   have ai:AW (zs.map T.str) (i:Int)=↑(.str zs[i]):=C7 (by rw[Ë,Â H];rfl)
   have s5:A4 (mT 5 λi=>T.int<|xs i)=true:=Fm _
   refine{[↑(C0 ns),↑(.int x),↑(.int y),↑(.int u),↑(.lst<|ws.map T.str),↑(.lst<|zs.map T.str),↑(.own<|rs.map BZ),↑(.int (i:Int)),none,M],by simp![],[↑(C0 ns),↑(.int x),↑(.int y),↑(.int u),↑(.lst<|ws.map T.str),↑(.lst<|zs.map T.str),↑(.own<|(rs++[(zs[i],l)]).map BZ),↑(.int (i:Int)),none,↑(.lst<|mT 5 λi=>.int<|xs i)],?_,rs++[(zs[i],l)],_,_,rfl,?_,λr a=>?_}
   .rw[è];unfold O3
    simp![We,Wf,ck i,O,AV,AS,ai,el,ls,AJ _ ls,lr]
   .rw[è,k1,<- Ū H]
    rfl
   .rcases ä.mp a with a|a
    .exact k2 r a
    .rw[Ô.mp a];exact{(l1),l2}
 rw[BO,<- B,Ν]at o;have S:1<=zs.length:=by lia
 have Q:∀c:Int,∃d:Sd,JX [.int c,.int u,.lst<|ws.map T.str,.int zs.length]=↑(.ok<|BK d)/\NZ ws zs.length d:=λc=>zm6 c u0 tw C (by lia) S
 let(f,hf):=Classical.axiomOfChoice Q;have cl:=zm8 ns ↑6 ↑12;have cm:B0 (ns.map T.int) ↑6 ↑12=(B0 ns ↑6 ↑12).map T.int:=UL _ _ _ _;generalize B0 ns ↑6 ↑12=ks at cl cm
 have U:=Ij (b:=AD 0) (me:=Uh) (ts:=ks.map T.int) (Y:=[none,↑(.lst<|zs.map T.str),↑(.int u),↑(.lst<|ws.map T.str)]) (λϊ Y=>∃x,Y=[x,↑(.lst<|zs.map T.str),↑(.int u),↑(.lst<|ws.map T.str)]) (λi=>BK<|f<|ks.getD i 0) {(none),rfl} λi t Y E P=>by
  let(x,rfl):=P;have G:i<ks.length:=by simpa using (Ñ.mp E).1
  rw[Ë,Â G]at E
  have et:t=.int (ks.getD i 0):=by
   rw[Ú,Â G];exact(Ý E).symm
  subst et;have N:=(hf<|ks.getD i 0).1;refine{[↑(.int<|ks.getD i 0),↑(.lst<|zs.map T.str),↑(.int u),↑(.lst<|ws.map T.str)],by simp![],?_,_,rfl}
  unfold Uh
  simp![AV,AS,Á,N]
 have ee:(List.range (ks.map T.int).length).map (λi=>BK<|f<|ks.getD i 0)=(ks.map f).map BK:=by
  rw[Á];refine(EC (n:=ks.length) (g:=λi=>BK<|f<|ks.getD i 0) (by simp) λi G=>?_).symm
  rw[Ë,Ë,Ú,Â G]
  rfl
 rw[ee]at U
 have s:∀d∈ks.map f,NZ ws zs.length d:=λd hd=>by
  let(c,_,rfl):=Ó.mp hd;exact(hf c).2
 have F:(ks.map f).length<=100:=by
  rw[Á]
  lia
 generalize ks.map f=dd at U s F;have zl:rs.length=zs.length:=by rw[<- o,Á]
 have D:DrwOk ws rs dd<|Co<|y.fdiv 24:=by
  refine{A,C,by lia,by lia,by lia,λr a=>L _<|o▸Ŕ a,{(Jw _).1,(Jw _).2.1},by rw[o];exact K,I,F,λd hd=>?_}
  rw[zl];exact s d hd
 refine{ws,rs,dd,_,?_,D}
 have sr:A4 (rs.map BZ)=true:=by
  rw[De,ã];intro t R;let(r,a,rfl):=Ó.mp R;have:=(I r a).1.sh
  simp![this]
 have er:=AJ _ sr
 have sd:A4 (dd.map BK)=true:=by
  rw[De,ã];intro t R;let(d,hd,rfl):=Ó.mp R;have:=(s d hd).2.2.1.sh
  simp![this,AS]
 have N:=AJ _ sd;have s4:Bd 4=true:=Bv (by decide)<|by decide
 have W:Bd 16=true:=Bv (by decide)<|by decide
 have X:Bd 24=true:=Bv (by decide)<|by decide
 have s6:Bd 6=true:=Bv (by decide)<|by decide
 have z15:((10:Int) ^ (15:Int).toNat)=10 ^ 15:=rfl;have z40:((10:Int) ^ (40:Int).toNat)=10 ^ 40:=rfl;have Z:(0:Int)<=15/\(15:Int)<=1000000/\DJ 10=true:={by decide,by decide,Cn (by decide)<|by decide}
 have t40:(0:Int)<=40/\(40:Int)<=1000000/\DJ 10=true:={by decide,by decide,Cn (by decide)<|by decide}
 have nq:(q=0)=False:=Ċ<|by lia
 have ok:CI (zs.length:Int)=true:=EZ<|by lia
 have rg:Br 0 zs.length=mT n λi=>.int (i:Int):=by rw[B];exact Ci
 have kl:ks.length<=100000:=by lia
 unfold C0 at *;unfold Nr Sg
 simp![IJ,Je,c0,c1,s4,W,X,s6,z15,z40,Z,t40,eq,nq,hu,em,nw,en,V,AV,AS,Á,ok,rg,e,cm,U,kl,sr,er,sd,N,zhl]
abbrev Pt:Stmt:=DU 40 1
def SU:AG:=
 (AQ<|DV (m1 C1<|CK Av BA 0<|AA 0)<|Gu<|CK Av BA 0<|AA 0)
def JQ:kL->Option Ru:=AZ 1 1 SU
abbrev Ti:=fA 1 1 Pt JQ
abbrev za5:Gx:={ DE with cl:=[("Machine",Av,BA)] }
abbrev za7:Gm:=gA Pt 0 [] ["list"] (ox:=za5)
theorem zaa:Ck za7 Ti Pt SU:={}
def Ze{M:Mc}(h:McOk M):JQ [E3 M]=↑(.ok<|.own<|M.ws.map T.str):=by
 unfold JQ SU
 simp![AV,AS,h.ss,h.sd,AJ _ h.ss,AJ _ h.sd]
abbrev Pw:Stmt:=DU 40 5
def SV:AG:=
 (AQ<|m2 Aj (Hf (CK Av BA 0<|AA 0)<|AA 1)<|mI 1)
def JR:kL->Option Ru:=AZ 2 2 SV
abbrev Tj:=fA 1 2 Pw JR
abbrev za0:Gx:={ DE with cl:=[("Machine",Av,BA)] }
abbrev za1:Gm:=gA Pw 0 [] [] (ox:=za0)
theorem za2:Ck za1 Tj Pw SV:={}
def Zi{M:Mc}(h:McOk M){x:Str}{j:Nat}(e:C4 M.ws x=↑j):JR [E3 M,.str x]=↑(.ok<|.int<|(j:Int)+1):=by
 have l1:M.ws.length<1000000:=by have:=h.wl;lia
 unfold JR SV
 simp![AV,AS,IH,h.ss,h.sd,AJ _ h.ss,AJ _ h.sd,e,l1]
abbrev PK:Stmt:=AK 46
def UY:AI:=
 (BN<|AB (ED Av BA JR (AA 3)<|mJ 0 AE)<|mJ 1<|mJ 2 AE)
def Rf:AG:=
 (AF (AO (ED Av BA JQ (AA 0) AE)<|AD 2)
 (AF (Aa (As<|AM JO<|mJ 1<|mJ 2<|AB (mC Im) AE) (Cg "NoMark"<|AB (mC<|.str "a guard is a list of looks at the machine's watches") AE) A6)
 (AQ<|BG 3 [0] (Ax<|AA 1) (An 3<|AL (AD 0)<|AL (AD 1)<|AL (AD 2) Ao) (mC<|.bl true) UY)))
def G7:kL->Option Ru:=AZ 2 3 Rf
abbrev Ta:=fA 5 2 PK G7
abbrev zfm:Gx:={ DE with co:=[("WORDS",Im)],mt:=[("watches",Av,BA,Ti),("watch_number",Av,BA,Tj)] }
abbrev zfo:Gm:=gA PK 4 [("is_guard",ND)] [] (ex:=["NoMark"]) (ox:=zfm)
theorem zg3:Ck zfo Ta PK Rf:={}
def DM:T->Str
 |.nd ϊ ϋ (.str x::ό)=>x|ϊ=>Str.empty
def DB:T->Str
 |.nd ϊ ϋ (ό::.str y::ύ)=>y|ϊ=>Str.empty
def Bf:T->Int
 |.nd ϊ ϋ (ό::ύ::.int n::ώ)=>n|ϊ=>0
def Gv{ws wd:kE}{t:T}(h:∃x y n,t=.tup [.str x,.str y,.int n]/\x∈ws/\y∈wd/\0<=n):t=.tup [.str<|DM t,.str<|DB t,.int<|Bf t]/\DM t∈ws/\DB t∈wd/\0<=Bf t:=by
 let(x,y,n,rfl,a,b,c):=h;exact{(rfl),a,b,c}
def GJ(ws:kE)(t:T):T:=.tup [.int<|((C4 ws<|DM t).getD 0:Int)+1,.str<|DB t,.int<|Bf t]
def Hl{ws:kE}{x:Str}(h:x∈ws):∃j,C4 ws x=↑j/\∃hj:j<ws.length,ws[j]=x:=by
 unfold C4;cases e:List.findIdx? (λy=>@decide (y=x) (Classical.propDecidable _)) ws with
 |none=>have:=List.findIdx?_eq_none_iff.mp e x h;simp at this|some j=>
  let(a,b,_):=ġ.mp e
  lia
def Gw{α:Type}{b:T->AN->Option AN}{me:AI}(f g:α->T)(I:AN->Prop):∀(L:List α) (Y:AN),I Y->(∀x∈L,∀Y,I Y->∃τ1,b (f x) Y=↑τ1/\me τ1=↑(.v (g x) false)/\I τ1)->Bi b (mC<|.bl true) me (L.map f) Y=↑(L.map g)
 |[],ϊ,ϋ,ό=>rfl|x::L,Y,h,a=>by
  let(τ1,e,i,c):=a x (Í ..) Y h;have k:=Gw f g I L τ1 c λu d=>a u<|Ê _ d
  have j:mC (.bl true) τ1=↑(.v (.bl true) false):=rfl;rw[Ï,Ï];unfold Bi
  lia
def RH{M:Mc}(h:McOk M){l:kL}{wd:kE}(f:BD M.ws wd l)(u:∀y∈wd,y∈BU)(s:l.length<=1000):G7 [E3 M,.lst l]=↑(.ok<|.own<|l.map<|GJ M.ws):=by
 have a:BD M.ws BU l:=λt c=>by
  let(x,y,n,e,m,o,p):=f t c;exact{x,y,n,e,m,u y o,p}
 have r:=TZ h.tw V4 s a;have g:=f.sh;have k:=AJ _ g
 have i:=Gw (b:=An 3<|AL (AD 0)<|AL (AD 1)<|AL (AD 2) Ao) (me:=UY) (λt:T=>t) (GJ M.ws) (λY=>∃x y z,Y=[x,y,z,↑(E3 M)]) l [none,none,none,↑(E3 M)] {(none),none,none,rfl} λt c Y q=>by
  let(x,y,z,rfl):=q;let(v,w,B,C):=Gv<|a t c;let(j,d,_):=Hl w;have en:=Zi h d;refine{[↑(.str<|DM t),↑(.str<|DB t),↑(.int<|Bf t),↑(E3 M)],by rw[v];simp![DM,DB,Bf],?_,_,_,_,rfl}
  unfold UY GJ;rw[d]
  simp![AV,AS,h.ss,h.sd,AJ _ h.ss,AJ _ h.sd,en,Ξ]
 rw[List.map_id']at i;have A:=Ze h;have l1:l.length<=100000:=by lia
 unfold G7 Rf
 simp![aZ,AV,AS,h.ss,h.sd,AJ _ h.ss,AJ _ h.sd,A,g,k,r,l1,i]
abbrev Py:Stmt:=DU 40 2
def Zq:AG:=
 (AQ<|DV (m1 C1<|CK Av BA 1<|AA 0)<|Gu<|CK Av BA 1<|AA 0)
def JS:kL->Option Ru:=AZ 1 1 Zq
abbrev Tn:=fA 1 1 Py JS
abbrev zad:Gx:={ DE with cl:=[("Machine",Av,BA)] }
abbrev zai:Gm:=gA Py 0 [] ["list"] (ox:=zad)
theorem zan:Ck zai Tn Py Zq:={}
def Zf{M:Mc}(h:McOk M):JS [E3 M]=↑(.ok (.own ((M.rs.map (·.1)).map T.str))):=by
 rfl
abbrev Px:Stmt:=DU 40 4
def SW:AG:=
 (AQ<|m1 C1<|KI (CK Av BA 1<|AA 0)<|AA 1)
def LH:kL->Option Ru:=AZ 2 2 SW
abbrev dR:=fA 1 2 Px LH
abbrev zar:Gx:={ DE with cl:=[("Machine",Av,BA)] }
abbrev zav:Gm:=gA Px 0 [] ["list"] (ox:=zar)
theorem zb0:Ck zav dR Px SW:={}
def bU{ws:kE}(hd:ws.Nodup){i:Nat}(a:i<ws.length):C4 ws ws[i]=↑i:=by
 unfold C4;rw[ġ];refine{a,@decide_eq_true _ (Classical.propDecidable _) rfl,λj b q=>?_}
 have:=@of_decide_eq_true _ (Classical.propDecidable _) q;have:=(Ĩ hd).mp this
 lia
def zlc{M:Mc}(h:McOk M){i:Nat}(b:i<M.rs.length):LH [E3 M,.str M.rs[i].1]=↑(.ok<|.own M.rs[i].2):=by
 have e:=bU h.r.nd (i:=i)<|by simp_all
 rw[Μ]at e;have a:(M.rs.map λr=>T.lst r.2)[i]?=↑(.lst M.rs[i].2):=by simp_all
 have k:=(h.r.lk _<|Ò b).1.sh;unfold LH SW
 simp![KI,AV,AS,h.ss,h.sd,AJ _ h.ss,AJ _ h.sd,e,a,k,AJ _ k]
abbrev Pz:Stmt:=DU 40 3
def SY:AG:=
 (AQ<|DV (m1 C1<|CK Av BA 2<|AA 0)<|Gu<|CK Av BA 2<|AA 0)
def LI:kL->Option Ru:=AZ 1 1 SY
abbrev dS:=fA 1 1 Pz LI
abbrev zae:Gx:={ DE with cl:=[("Machine",Av,BA)] }
abbrev zaj:Gm:=gA Pz 0 [] ["list"] (ox:=zae)
theorem zao:Ck zaj dS Pz SY:={}
def zlf{M:Mc}(h:McOk M):LI [E3 M]=↑(.ok<|.own<|M.ds.map Ad):=by
 unfold LI SY
 simp![AV,AS,h.ss,h.sd,AJ _ h.ss,AJ _ h.sd]
abbrev Q3:Stmt:=DU 39 1
def Sn:AG:=
 (AQ<|DV (m1 C1<|CK BS B7 2<|AA 0)<|Gu<|CK BS B7 2<|AA 0)
def Nu:kL->Option Ru:=AZ 1 1 Sn
abbrev eO:=fA 1 1 Q3 Nu
abbrev zc9:Gx:={ DE with cl:=[("Door",BS,B7)] }
abbrev zcm:Gm:=gA Q3 0 [] ["list"] (ox:=zc9)
theorem zd0:Ck zcm eO Q3 Sn:={}
def zm7{d:Dr}(h:A4 d.g=true):Nu [Ad d]=↑(.ok<|.own d.g):=by
 unfold Nu Sn
 simp![AV,AS,h,AJ _ h]
abbrev Q2:Stmt:=DU 39 2
def Sk:AG:=
 (AQ<|DV (m1 C1<|CK BS B7 3<|AA 0)<|Gu<|CK BS B7 3<|AA 0)
def Nt:kL->Option Ru:=AZ 1 1 Sk
abbrev eM:=fA 1 1 Q2 Nt
abbrev zc7:Gx:={ DE with cl:=[("Door",BS,B7)] }
abbrev zck:Gm:=gA Q2 0 [] ["list"] (ox:=zc7)
theorem zcy:Ck zck eM Q2 Sk:={}
def zm5{d:Dr}(h:A4 d.g=true):Nt [Ad d]=↑(.ok<|.own<|d.n.map T.str):=by
 unfold Nt Sk
 simp![AV,AS,h,AJ _ h]
abbrev Po:Stmt:=AK 12
def SO:AG:=
 (AQ<|m2 Aj (m2 B9 (mI 2)<|AA 0)<|mI 1)
def G8:kL->Option Ru:=AZ 1 1 SO
abbrev K9:=fA 1 1 Po G8
abbrev zec:Gm:=gA Po 0 [] []
theorem zep:Ck zec K9 Po SO:={}
def hZ(i:Int):G8 [.int i]=↑(.ok<|.int<|2 * i+1):=by
 have m:Be 2 i=true:=Hc<|Cn (by decide)<|by decide
 unfold G8 SO
 simp![m]
def NX:G8 [.int 0]=↑(.ok<|.int 1):=hZ 0
abbrev Pn:Stmt:=AK 13
def SN:AG:=
 (AQ<|m2 B9 (mI 2)<|AA 0)
def LG:kL->Option Ru:=AZ 1 1 SN
abbrev dN:=fA 1 1 Pn LG
abbrev zi7:Gm:=gA Pn 0 [] []
theorem zin:Ck zi7 dN Pn SN:={}
def bl_ok(i:Int):LG [.int i]=↑(.ok<|.int<|2 * i):=by
 have m:Be 2 i=true:=Hc<|Cn (by decide)<|by decide
 unfold LG SN
 simp![m]
abbrev PM:Stmt:=AK 14
def Ri:AG:=
 (AQ<|m2 BX (AA 0)<|mI 2)
def N4:kL->Option Ru:=AZ 1 1 Ri
abbrev cS:=fA 1 1 PM N4
abbrev zcd:Gm:=gA PM 0 [] []
theorem zcr:Ck zcd cS PM Ri:={}
def Z4(i:Int):N4 [.int i]=↑(.ok<|.int<|i / 2):=by
 have m:Bd 2=true:=Bv (by decide)<|by decide
 have f:i.fdiv 2=i / 2:=fd<|by decide
 unfold N4 Ri
 simp![m,f]
abbrev Pa:Stmt:=AK 15
def Rz:AG:=
 (AQ<|m2 Au (m2 Aq (AA 0)<|mI 2)<|mI 0)
def Na:kL->Option Ru:=AZ 1 1 Rz
abbrev c7:=fA 1 1 Pa Na
abbrev ze9:Gm:=gA Pa 0 [] []
theorem zem:Ck ze9 c7 Pa Rz:={}
def bN(i:Int):Na [.int i]=↑(.ok<|.bl<|i % 2 == 0):=by
 have f:i.fmod 2=i % 2:=fm<|by decide
 unfold Na Rz
 simp![f,Cc]
abbrev PU:Stmt:=AK 16
def Rl:AG:=
 (AF (Aa (m2 (CM false) (AA 0)<|mC .non) (AQ<|AA 1) A6)
 (AF (Aa (m2 (CM false) (AA 1)<|mC .non) (AQ<|AA 0) A6)
 (AQ<|m2 Jz (AA 0)<|AA 1)))
def JK:kL->Option Ru:=AZ 2 2 Rl
abbrev Tc:=fA 1 2 PU JK
abbrev zda:Gm:=gA PU 0 [] ["min"]
theorem zdl:Ck zda Tc PU Rl:={}
def ZW(a b:Db.B):JK [bT a,bT b]=↑(.ok<|bT<|Db.mn a b):=by
 unfold JK Rl;cases a with
 |none=>rfl|some a=>
  cases b with
  |none=>rfl|some b=>
   simp![Db.mn]
   lia
abbrev Pj:Stmt:=AK 50
def SH:AG:=
 (AF (Aa (BE (m2 Au (AA 0)<|mI 0)<|m2 Au (AA 0)<|AA 1) (AQ<|AM G8<|AB (mI 0) AE) A6)
 (AQ<|mC .non))
def Nf:kL->Option Ru:=AZ 2 2 SH
abbrev dE:=fA 2 2 Pj Nf
abbrev zbs:Gm:=gA Pj 1 [("at_most",K9)] []
theorem zby:Ck zbs dE Pj SH:={}
def fb_ok(i j:Nat):Nf [.int i,.int j]=↑(.ok<|bT<|Db.free i j):=by
 unfold Nf SH
 by_cases b:i=0
 .subst b
  simp![Cc,NX,Db.free]
 .by_cases h:i=j
  .subst h;have a:((i:Int) == 0)=false:=by lia
   simp![Cc,a,NX,Db.free]
  .have a:((i:Int) == 0)=false:=by lia
   have c:((i:Int) == (j:Int))=false:=by simp;lia
   simp![Cc,a,c,Db.free,b,h]
abbrev Oz:Stmt:=AK 53
def OM:AG:=
 (Aa (m2 (CM false) (AA 5)<|mC .non) (Cv 3<|AA 4) (AF (AO (m2 EI (m2 Aj (AA 1)<|AA 5)<|m2 Kt (m2 Kr (AA 1)<|AA 5)<|mI 1)<|AD 6)
 (Cv 3<|EN (BE (m2 (CM false) (AA 4)<|mC .non)<|m2 (BP λi j=>decide (i<j)) (AA 6)<|AA 4) (AA 6)<|AA 4)))
def R7:AG:=
 (AF (Ca 3<|BJ AE)
 (AF (B5 (HB<|mJ 0<|mJ 2 AE) (An 2<|AL (AD 4)<|AL (AD 5) Ao) OM)
 (AQ<|AA 3)))
def N1:kL->Option Ru:=AZ 3 7 R7
abbrev cI:=fA 1 3 Oz N1
abbrev zd8:Gm:=gA Oz 0 [] ["zip"] ["told"]
theorem zdj:Ck zd8 cI Oz R7:={}
def ro_ok{n:Nat}(p:n<=100000)(r s:Nat->Db.B)(c:Int):N1 [rT n r,.int c,rT n s]=↑(.ok<|.own<|mT n λj=>bT<|Db.mn (r j)<|Db.add ↑c<|s j):=by
 have d:=K8 (b:=An 2<|AL (AD 4)<|AL (AD 5) Ao) (body:=OM) (n:=n) (g:=λi=>.tup [bT<|r i,bT<|s i]) (Y:=[↑(rT n r),↑(.int c),↑(rT n s),↑(.own []),none,none,none])
  (λi Y=>∃x y z,Y=[↑(rT n r),↑(.int c),↑(rT n s),↑(.own<|mT i λj=>bT<|Db.mn (r j)<|Db.add ↑c<|s j),x,y,z])
  {(none),none,none,rfl} (by
   rintro i Y l ⟨x,y,z,rfl⟩;have l1:i<100000:=by lia
   refine{_,by simp![];rfl,?_}
   unfold OM;cases e:s i with
   |none=>
    refine{_,by simp![l1];rfl,↑(bT<|r i),↑.non,z,?_}
    rw[<- Ig,e];cases r i<;>rfl
   |some m=>
    have a:c+m - Builtin.bitAnd (Builtin.bitOr c m) 1=Db.bs c m:=by rw[Db.bor_one,Db.bs_eq]
    cases f:r i with
    |none=>
     refine{_,by simp![a,l1];rfl,↑.non,↑(.int m),↑(.int<|Db.bs c m),?_}
     rw[<- Ig,e,f]
     rfl
    |some o=>
     by_cases h:Db.bs c m<o
     .refine{_,by simp![a,h,l1];rfl,↑(.int o),↑(.int m),↑(.int<|Db.bs c m),?_}
      rw[<- Ig,e,f];rw[show Db.mn ↑o (Db.add ↑c ↑m)=↑(Db.bs c m) by show ↑(min _ _)=_;rw[show min o (Db.bs c m)=Db.bs c m by lia]]
      rfl
     .refine{_,by simp![a,h,l1];rfl,↑(.int o),↑(.int m),↑(.int<|Db.bs c m),?_}
      rw[<- Ig,e,f];rw[show Db.mn ↑o (Db.add ↑c ↑m)=↑o by show ↑(min _ _)=_;rw[show min o (Db.bs c m)=o by lia]]
      rfl)
 let(k,a,x,y,z,rfl):=d;unfold N1 R7
 simp![zmj,a]
abbrev Pf:Stmt:=AK 52
def U7:AI:=
 (m2 (BP λi j=>decide (i<j)) (AH (AA 1)<|AA 0)<|AM G8<|AB (mI 0) AE)
def SF:AG:=
 (AQ<|m1 Ku<|BG 2 [] (E7<|mJ 0 AE) (An 2<|AL (AD 0)<|AL (AD 1) Ao) (mC<|.bl true) U7)
def Nc:kL->Option Ru:=AZ 1 1 SF
abbrev dA:=fA 2 1 Pf Nc
abbrev zcj:Gm:=gA Pf 1 [("at_most",K9)] ["any","enumerate"]
theorem zcx:Ck zcj dA Pf SF:={}
def zqh{n:Nat}{f:Db.Z}(e:n<=100000){d:Nat->Int}(hd:∀i,i<n->f i i=↑(d i)):Nc [zT n f]=↑(.ok<|.bl<|(List.range n).any λi=>decide (d i<1)):=by
 have b:=Fe (n:=n) (me:=U7) (x:=none) (y:=none) (cs:=[]) (u:=λi=>.int (i:Int)) (w:=λi=>rT n<|f i) (f:=λi=>.bl<|decide (d i<1)) λi a=>by
  unfold U7
  simp![RB,MP,CY a,hd i a,NX]
 unfold Nc SF;have c:n<=100000:=by lia
 simp![zgr,VN,MP,RB,E7,UD,b,c,JD,List.any_map,Function.comp_def,id_eq]
abbrev PQ:Stmt:=AK 51
def U2:AI:=
 (AM JK<|mJ 1<|AB (AM Nf<|mJ 2<|mJ 0 AE) AE)
def NK:AI:=
 (BG 2 [0] (E7<|mJ 1 AE) (An 2<|AL (AD 0)<|AL (AD 1) Ao) (mC<|.bl true) U2)
def U1:AI:=
 (EN (m2 (CM false) (AH (AA 0)<|AA 1)<|mC .non) (AA 0)<|AM N1<|mJ 0<|AB (AH (AA 0)<|AA 1)<|mJ 2 AE)
def J2:AG:=
 (AF (Aa (AM Nc<|mJ 1 AE) (AQ<|mC .non) A6)
 (AF (AO (AH (AA 1)<|AA 2)<|AD 3)
 (AO (BG 1 [2,3] (Ax<|AA 1) (AD 0) (mC<|.bl true) U1)<|AD 1)))
def Rk:AG:=
 (AF (AO (BG 2 [] (E7<|mJ 0 AE) (An 2<|AL (AD 0)<|AL (AD 1) Ao) (mC<|.bl true) NK)<|AD 1)
 (AF (B5 (CN<|AB (m1 BC<|AA 1) AE) (AD 2) J2)
 (AQ<|AA 1)))
def Hv:kL->Option Ru:=AZ 1 4 Rk
abbrev cU:=fA 3 1 PQ Hv
abbrev zce:Gm:=gA PQ 2 [("narrower",Tc),("free_bound",dE),("is_broken",dA),("row_over",cI)] ["enumerate","range","len"]
theorem zcs:Ck zce cU PQ Rk:={}
def XA{n:Nat}{f:Db.Z}{d:Nat->Int}(hd:∀i,i<n->f i i=↑(d i)):((List.range n).any λi=>decide (d i<1))=true ↔ Db.Brk n f:=by
 rw[Λ];constructor
 .rintro⟨i,a,h⟩;have a:=á.mp a;refine{i,a,?_};rw[hd i a];erw[Db.le]
  lia
 .rintro⟨i,a,h⟩;refine{i,á.mpr a,É ?_};rw[hd i a]at h;erw[Db.le]at h
  lia
def zfy(f:Db.Z)(k i:Nat):∃d,Db.fw f k i i=↑d:=by
 have:=Db.diag_le f i k;cases h:Db.fw f k i i with
 |none=>rw[h]at this;exact this.elim|some d=>lia
def zp2{n:Nat}(p:n<=100000)(f:Db.Z):(Db.Sound n f->Hv [zT n f]=↑(.ok<|zT n<|Db.fw f n))/\(¬ Db.Sound n f->Hv [zT n f]=↑(.ok .non)):=by
 have l1:n<=100000:=by lia
 have s:∀i,i<n->NK [↑(.int (i:Int)),↑(rT n<|f i)]=↑(.v (.own<|mT n λj=>bT<|Db.z0 f i j) false):=λi o=>by
  have v:=Fe (n:=n) (me:=U2) (x:=none) (y:=none) (cs:=[↑(.int (i:Int))]) (u:=λj=>.int (j:Int)) (w:=λj=>bT<|f i j) (f:=λj=>bT<|Db.z0 f i j) λj B=>by
   unfold U2
   simp![fb_ok,ZW]
   rfl
  unfold NK
  simp![E7,UD,v,l1]
 have z:=Fe (n:=n) (me:=NK) (x:=none) (y:=none) (cs:=[]) (u:=λi=>.int (i:Int)) (w:=λi=>rT n<|f i) (f:=λi=>.own<|mT n λj=>bT<|Db.z0 f i j) s
 have l:=zlz (b:=AD 2) (body:=J2) (n:=n) (g:=λi=>.int (i:Int)) (Y:=[↑(zT n f),↑(zT n<|Db.fw f 0),none,none]) (λk=>¬ Db.Brk n (Db.fw f k)) .non
  (λk Y=>∃x y,Y=[↑(zT n f),↑(zT n<|Db.fw f k),x,y]) {(none),none,rfl} (by
   rintro k Y hk - ⟨x,y,rfl⟩;refine{_,by simp![];rfl,?_}
   have hd:∀i,i<n->Db.fw f k i i=↑((Db.fw f k i i).getD 0):=λi ϊ=>by
    let(d,e):=zfy f k i;rw[e]
    rfl
   have m:=zqh p hd
   by_cases a:Db.Brk n<|Db.fw f k
   .right;refine{λq=>q a,?_}
    rw[(XA hd).mpr a]at m;unfold J2
    simp![m]
   .left;refine{a,?_}
    have C:((List.range n).any λi=>decide ((Db.fw f k i i).getD 0<1))=false:=by
     cases q:((List.range n).any λi=>decide ((Db.fw f k i i).getD 0<1)) with
     |false=>rfl|true=>exact absurd ((XA hd).mp q) a
    rw[C]at m;generalize F:Db.fw f k=g at *
    have v:=EH (n:=n) (me:=U1) (x:=none) (cs:=[↑(.int (k:Int)),↑(rT n<|g k)]) (g:=λi=>rT n<|g i) (f:=λi=>match g i k with|none=>rT n (g i)|some c=>.own<|mT n λj=>bT<|Db.mn (g i j)<|Db.add ↑c<|g k j) λi o=>by
     unfold U1;cases e:g i k with
     |none=>simp![CY hk,e]|some c=>simp![CY hk,e,ro_ok p]
    have D:(mT n λi=>(match g i k with|none=>rT n (g i)|some c=>T.own<|mT n λj=>bT<|Db.mn (g i j)<|Db.add ↑c<|g k j).share)=mT n λi=>rT n<|Db.stp g k i:=E4 λi o=>by
     cases e:g i k with
     |none=>
      erw[MP];unfold rT;rw[E4 λj B=>?_]
      unfold Db.stp;rw[e];cases g i j<;>rfl
     |some c=>
      simp![]
      rw[E4 λj B=>?_]
      unfold Db.stp;rw[e]
    refine{[↑(zT n f),↑(zT n<|Db.stp g k),↑(.int (k:Int)),↑(rT n<|g k)],.inl ?_,↑(.int (k:Int)),↑(rT n<|g k),?_}
    .unfold J2
     simp![m,CY hk,v,l1]
     rw[D]
    .rw[show Db.fw f (k+1)=Db.stp g k by rw[<- F];rfl])
 have G:CI (n:Int)=true:=EZ p
 have st:∀r,Ak (AD 2) J2 (mT n λi=>.int (i:Int)) [↑(zT n f),↑(zT n<|Db.fw f 0),none,none]=r->Hv [zT n f]=(match (match r with|some (.nx A)=>AQ (AA 1) A|r=>r) with
   |some (.rt t)=>↑(Ru.ok t)|some (.nx ϊ)=>↑(.ok .non)|some (.xc c ϊ)=>↑(.exc c)|ϊ=>none):=by
  rintro _ rfl;unfold Hv Rk
  simp![E7,UD,z,l1,G,Ci]
  rfl
 rcases l with ⟨E,A,e,x,y,rfl⟩|⟨⟨i,o,a⟩,e⟩
 .refine{λϊ=>?_,λh=>absurd (λk hk=>E k hk) h}
  rw[st _ e]
  simp![]
 .refine{λh=>absurd (h i o) a,λϊ=>?_}
  rw[st _ e]
abbrev PX:Stmt:=AK 28
def Rn:AG:=
 (AF (Ca 4<|BJ AE)
 (AF (Aa (m2 Au (AA 2)<|mC<|.str "<") (Cv 4<|BN<|mJ 0<|mJ 1<|AB (AM LG<|mJ 3 AE) AE) A6)
 (AF (Aa (BE (m2 Au (AA 2)<|mC<|.str "<=")<|m2 Au (AA 2)<|mC<|.str "=") (Cv 4<|BN<|mJ 0<|mJ 1<|AB (AM G8<|mJ 3 AE) AE) A6)
 (AF (Aa (m2 Au (AA 2)<|mC<|.str ">") (Cv 4<|BN<|mJ 1<|mJ 0<|AB (AM LG<|AB (m1 E1<|AA 3) AE) AE) A6)
 (AF (Aa (BE (m2 Au (AA 2)<|mC<|.str ">=")<|m2 Au (AA 2)<|mC<|.str "=") (Cv 4<|BN<|mJ 1<|mJ 0<|AB (AM G8<|AB (m1 E1<|AA 3) AE) AE) A6)
 (AQ<|AA 4))))))
def N6:kL->Option Ru:=AZ 4 5 Rn
abbrev cV:=fA 2 4 PX N6
abbrev zb9:Gm:=gA PX 1 [("below",dN),("at_most",K9)] [] ["bounds"]
theorem zbi:Ck zb9 cV PX Rn:={}
def Ep:Nat->Str
 |0=>"<"|1=>"<="|2=>">"|3=>">="|ϊ=>"="
def OL{w:Nat}(h:w<5):Au (.str<|Ep w) (.str "<")=↑(.bl<|w == 0)/\Au (.str<|Ep w) (.str "<=")=↑(.bl<|w == 1)/\Au (.str<|Ep w) (.str ">")=↑(.bl<|w == 2)/\Au (.str<|Ep w) (.str ">=")=↑(.bl<|w == 3)/\Au (.str<|Ep w) (.str "=")=↑(.bl<|w == 4):=by
 have:w=0\/w=1\/w=2\/w=3\/w=4:=by lia
 rcases this with rfl|rfl|rfl|rfl|rfl<;>refine⟨?_,?_,?_,?_,?_⟩<;>ext
abbrev EG(l:Nat×Nat×Int):T:=.tup [.int (l.1:Nat),.str<|Ep l.2.1,.int l.2.2]
def Look(m:Nat)(l:Nat×Nat×Int):Prop:=0<l.1/\l.1<m+1/\l.2.1<5
abbrev BF(x:Dv.Lim):T:=.tup [.int (x.1:Nat),.int (x.2.1:Nat),.int x.2.2]
def Dj(i j:Nat):Nat->Int->List Dv.Lim
 |0,n=>[(i,j,2 * n)]|1,n=>[(i,j,2 * n+1)]|2,n=>[(j,i,2 * -n)]|3,n=>[(j,i,2 * -n+1)]|ϊ,n=>[(i,j,2 * n+1),(j,i,2 * -n+1)]
def zpk{i j w:Nat}{n:Int}(a:w<5):N6 [.int (i:Nat),.int (j:Nat),.str<|Ep w,.int n]=↑(.ok<|.own<|(Dj i j w n).map BF):=by
 let(b,s1,c,d,e):=OL a;have:w=0\/w=1\/w=2\/w=3\/w=4:=by lia
 unfold N6 Rn
 rcases this with rfl|rfl|rfl|rfl|rfl<;>simp![b,s1,c,d,e,bl_ok,hZ,Dj]
def zll(i j w:Nat)(n:Int):(Dj i j w n).length<=2:=by
 unfold Dj;split<;>simp
theorem zpl{i j w N:Nat}{n:Int}(b:i<N)(c:j<N):Dv.In N<|Dj i j w n:=λx a=>by
 unfold Dj at a;split at a<;>erw[Ì,ð]at a
 all_goals lia
abbrev PN:Stmt:=AK 48
def UZ:AI:=
 (ED Av BA JR (AA 1)<|mJ 0 AE)
def Rj:AG:=
 (AQ<|BG 1 [0] (Ax<|ED BS B7 Nt (AA 1) AE) (AD 0) (mC<|.bl true) UZ)
def N5:kL->Option Ru:=AZ 2 2 Rj
abbrev cT:=fA 2 2 PN N5
abbrev zab:Gx:={ DE with mt:=[("sets",BS,B7,eM),("watch_number",Av,BA,Tj)] }
abbrev zaf:Gm:=gA PN 1 [] [] (ox:=zab)
theorem zak:Ck zaf cT PN Rj:={}
def Ar(ws ns:kE):kG:=ns.map λx=>(C4 ws x).getD 0+1
abbrev IW(l:kG):kL:=l.map λp:Nat=>T.int (p:Int)
def zp8(l:kG):A4 (IW l)=true:=Dd λϊ ϊ=>rfl
def np_ok{M:Mc}(h:McOk M){d:Dr}(hd:d∈M.ds):N5 [Al M,Ad d]=↑(.ok<|.own<|IW<|Ar M.ws d.n):=by
 have D:=h.d d hd;have c:=D.g.sh;have sm:=FC h;have a:=zm5 c
 have k:=Gw (b:=AD 0) (me:=UZ) T.str (λx=>.int ((C4 M.ws x).getD 0+1:Nat)) (λY=>∃x,Y=[x,↑(Al M)]) d.n [none,↑(Al M)] {(none),rfl} λx i Y g=>by
  let(y,rfl):=g;let(j,e,_):=Hl<|D.n x i;have en:JR [Al M,.str x]=↑(.ok<|.int<|j+1):=Zi h e;refine{[↑(.str x),↑(Al M)],by simp![],?_,_,rfl}
  unfold UZ;rw[e]
  simp![-DW,KA,sm,CW _ sm,en,Ξ,Int.natCast_add]
 have f:IW (Ar M.ws d.n)=d.n.map λx=>.int ((C4 M.ws x).getD 0+1:Nat):=by
  unfold IW Ar
  simp_all
 have nl:d.n.length<=100000:=by have:=D.nl;lia
 rw[f];unfold N5 Rj
 simp![sm,CW _ sm,a,c,AJ _ c,AS,AV,Á,nl,k]
def oT(n:Nat):Option Db.Z->T
 |none=>.non|some f=>zT n f
def Xq(n:Nat)(o:Option Db.Z):(oT n o).sh=true:=by
 cases o with
 |none=>rfl|some f=>exact VN n f
def oT_is(n:Nat)(o:Option Db.Z)(b:Bool):CM b (oT n o) .non=↑(.bl<|b != o.isNone):=by
 cases o<;>cases b<;>rfl
abbrev Nx(m:Nat)(L:List<|Nat×Nat×Int):Prop:=∀l∈L,Look m l
open Classical in
def Ei(n:Nat)(f:Db.Z):Option Db.Z:=if Db.Sound n f then ↑(Db.fw f n) else none
def zp3{n:Nat}(c:n<=100000)(f:Db.Z):Hv [zT n f]=↑(.ok<|oT n<|Ei n f):=by
 let(a,b):=zp2 c f;unfold Ei;split
 .exact a ‹_›
 .exact b ‹_›
def Mh(L:List<|Nat×Nat×Int):A4 (L.map EG)=true:=Dd λϊ ϊ=>rfl
def DI(y:Str):Nat:=if y=Str.ofString "<" then 0 else if y=Str.ofString "<=" then 1 else if y=Str.ofString ">" then 2 else if y=Str.ofString ">=" then 3 else 4
def L3:∀y∈BU,Ep (DI y)=y/\DI y<5:=by decide +kernel
def A2(ws:kE)(t:T):Nat×Nat×Int:=((C4 ws<|DM t).getD 0+1,DI<|DB t,Bf t)
def RF{ws:kE}{l:kL}(h:BD ws BU l):l.map (GJ ws)=(l.map<|A2 ws).map EG:=by
 rw[ü];refine ĥ λt a=>?_
 let(c,d,b,e):=Gv<|h t a;show GJ ws t=EG (A2 ws t);unfold GJ A2;rw[show EG ((C4 ws<|DM t).getD 0+1,DI<|DB t,Bf t)=.tup [.int (((C4 ws<|DM t).getD 0+1:Nat):Int),.str<|Ep<|DI<|DB t,.int<|Bf t] from rfl,(L3 _ b).1]
 rfl
theorem Jp{ws:kE}{l:kL}(h:BD ws BU l):Nx ws.length<|l.map<|A2 ws:=λx c=>by
 let(t,b,rfl):=Ó.mp c;let(g,d,e,i):=Gv<|h t b;let(j,a,f,_):=Hl d;refine{Nat.succ_pos _,?_,(L3 _ e).2};show(C4 ws<|DM t).getD 0+1<_;rw[a,Ξ]
 lia
theorem BD.wd{ws:kE}{l:kL}(h:BD ws DY l):BD ws BU l:=λt c=>by
 let(x,y,n,e,a,d,b):=h t c;refine{x,y,n,e,a,?_,b}
 revert y
 have:∀y∈DY,y∈BU:=by decide +kernel
 exact λy ϊ h=>this y h
def eV{α:Type}{x:Str}{v:α}:∀{rs:List<|Str×α},(rs.map (·.1)).Nodup->(x,v)∈rs->rs.find? (λq=>decide (q.1=x))=↑(x,v)
 |[],ϊ,h=>by cases h|a::l,nd,h=>by
  rw[Ï,ŀ]at nd
  rcases Ì.mp h with rfl|h
  .simp_all
  .rw[List.find?_cons_of_neg λz=>nd.1 ?_]
   .exact eV nd.2 h
   simp_all
def DZ(ws:kE)(rs:List<|Str×kL)(x:Str):List<|Nat×Nat×Int:=(((rs.find? λq=>decide (q.1=x)).map (·.2)).getD []).map (A2 ws)
def W7{ws:kE}{rs:List<|Str×kL}(nd:(rs.map (·.1)).Nodup){r:Str×kL}(h:r∈rs):DZ ws rs r.1=r.2.map (A2 ws):=by
 unfold DZ;rw[eV (v:=r.2) nd h]
 rfl
def W5{M:Mc}(h:McOk M)(x:Str):Nx M.ws.length<|DZ M.ws M.rs x:=by
 unfold DZ;cases e:M.rs.find? λq=>decide (q.1=x) with
 |none=>simp_all|some r=>exact Jp (h.r.lk r<|List.mem_of_find?_eq_some e).1.wd
abbrev Pg:Stmt:=AK 9
def IF:AI:=
 (m2 CJ (AA 3)<|mI 0)
def OQ:AG:=
 (AF (AO (m2 Aq (AA 2)<|AA 3)<|AD 4)
 (AF (AO (AA 3)<|AD 2)
 (AO (AA 4)<|AD 3)))
def SG:AG:=
 (AF (AO (m1 JE<|AA 0)<|AD 2)
 (AF (AO (m1 JE<|AA 1)<|AD 3)
 (AF (Fp IF OQ)
 (AQ<|AA 2))))
def Nd:kL->Option Ru:=AZ 2 5 SG
abbrev dD:=fA 1 2 Pg Nd
abbrev za3:Gm:=gA Pg 0 [] ["abs"]
theorem za4:Ck za3 dD Pg SG:={}
def gd_ok(a b:Int):Nd [.int a,.int b]=↑(.ok<|.int<|Zm.gd a b):=by
 have c:=Wq (mc:=IF) (body:=OQ)
  (λY=>∃(g l:Int) (r:kH),Y=[↑(.int a),↑(.int b),↑(.int g),↑(.int l),r]/\0<=g/\0<=l/\Zm.gd g l=Zm.gd a b)
  (λY=>match Y with|[ϊ,ϋ,ό,↑(.int l),ύ]=>l.natAbs|ϊ=>0)
  {_,_,none,rfl,by split<;>lia,by split<;>lia,Zm.gd_abs a b} (by
   rintro Y ⟨g,l,r,rfl,o,j,e⟩
   by_cases d:l=0
   .right;exact{false,by unfold IF;simp![E2,d]}
   .left;refine{false,by unfold IF;simp![E2];simp[d],[↑(.int a),↑(.int b),↑(.int l),↑(.int<|g.fmod l),↑(.int<|g.fmod l)],by unfold OQ;simp![d],{_,_,_,rfl,j,?_,?_},?_}
    .exact í g<|by lia
    .exact Zm.gd_turn e
    .exact Zm.fmod_less g d)
 let(p,m,(g,l,r,rfl,o,j,e),k,i):=c
 have h :=by
  have n:IF [↑(.int a),↑(.int b),↑(.int g),↑(.int l),r]=↑(.v (.bl<|!(l == 0)) false):=by unfold IF;simp![E2]
  rw[n]at i;exact(by simpa using i:l=0/\k=false).1
 have f:g=Zm.gd a b:=by
  rw[<- e,h];unfold Zm.gd;rw[Int.gcd_zero_right]
  lia
 unfold Nd SG
 simp![m]
 rw[f]
abbrev Wm:Stmt:=AK 10
def SI:AG:=
 (AF (Aa (BE (As<|AM JM<|mJ 0 AE)<|As<|AM JM<|mJ 1 AE) (Cg "NoNumber"<|AB (mC<|.str "a fraction is made of two whole numbers") AE) A6)
 (AF (Aa (m2 Au (AA 1)<|mI 0) (Cg "NoNumber"<|AB (mC<|.str "the bottom of a fraction is not 0") AE) A6)
 (AF (AO (AM Nd<|mJ 0<|mJ 1 AE)<|AD 2)
 (AF (Aa (m2 (BP λi j=>decide (i<j)) (AA 1)<|mI 0) (AO (m1 E1<|AA 2)<|AD 2) A6)
 (AQ<|BN<|AB (m2 BX (AA 0)<|AA 2)<|AB (m2 BX (AA 1)<|AA 2) AE)))))
def Ng:kL->Option Ru:=AZ 2 3 SI
abbrev dF:Fn:={2,["top","bottom"],Ng}
abbrev zdd:Gm:=gA Wm 1 [("is_whole",NC),("greatest_divisor",dD)] [] (ex:=["NoNumber"])
theorem zdo:Ck zdd dF Wm SI:={}
def fr_ok{t b:Int}(a:0<b)(g:b<10 ^ 70):Ng [.int t,.int b]=↑(.ok<|fr (Zm.lt t b)<|Zm.lb t b):=by
 have f:0<Zm.gd t b:=Zm.gd_pos<|by lia
 have g1:Zm.gd t b<=b:=Zm.gd_le a;have gs :=Bv (by lia)<|by lia (config:={})
 have c:(b == 0)=false:=by lia
 have d:decide (b<0)=false:=by lia
 have e:(Zm.gd t b≠0)=True:=by lia
 unfold Ng SI
 simp![V1,gd_ok,Cc,c,d,gs,e]
 rfl
abbrev PH:Stmt:=AK 21
def L6:AG:=
 (AF (AO (m2 EI (AH (AA 0)<|AA 3)<|AA 5)<|AD 6)
 (Aa (m2 (BP λi j=>decide (j<i)) (AA 6)<|AH (AA 0)<|AA 4) (AF (Gf 0 (AA 4)<|AA 6)
 (AO (mC<|.bl true)<|AD 2)) A6))
def Rc:AG:=
 (AF (AO (mC<|.bl false)<|AD 2)
 (AF (B5 (Ax<|AA 1) (An 3<|AL (AD 3)<|AL (AD 4)<|AL (AD 5) Ao) L6)
 (Jg<|AA 2)))
def N3:kL->Option Ru:=Gh 2 7 Rc
abbrev cO:=fA 1 2 PH N3
abbrev zcc:Gm:=gA PH 0 [] [] ["values"] (mu:=true)
theorem zcq:Ck zcc cO PH Rc:={}
abbrev DN(x:Dv.Lim):T:=.tup [.int (x.1:Nat),.int (x.2.1:Nat),.int x.2.2]
abbrev iT(n:Nat)(v:Nat->Int):kL:=mT n λk=>.int<|v k
def Fd:∀L:List Dv.Lim,BQ (L.map DN)=L.map DN
 |[]=>rfl|x::L=>by rw[Ï,BQ,Fd L];rfl
def FG:∀L:List Dv.Lim,A4 (L.map DN)=true
 |[]=>rfl|x::L=>by rw[Ï,A4,FG L];rfl
def Qz{n:Nat}{p:Addr}{A:T}(g:A.sh=true):∀(L:List Dv.Lim) (v:Nat->Int) (b:Bool) (x3 x4 x5 x6:kH),Dv.In n L ->
  ∃y3 y4 y5 y6,Ak (An 3<|AL (AD 3)<|AL (AD 4)<|AL (AD 5) Ao) L6 (L.map DN) [↑(.nd true (.pin p)<|iT n v),↑A,↑(.bl b),x3,x4,x5,x6]
   = ↑(.nx [↑(.nd true (.pin p)<|iT n (Dv.rz L v b).1),↑A,↑(.bl (Dv.rz L v b).2),y3,y4,y5,y6])
 |[],v,b,x3,x4,x5,x6,ϊ=>{(x3),x4,x5,x6,rfl}|(i,j,m)::L,v,b,x3,x4,x5,x6,l=>by
  let(q,o):=l (i,j,m) (Í ..);have a:Dv.In n L:=λx s=>l x<|Ê _ s
  have d:AW (iT n v) (i:Int)=↑(.int<|v i):=CY q;have f:AW (iT n v) (j:Int)=↑(.int<|v j):=CY o
  have t:CA n (j:Int)=↑j:=by
   have r:j<n:=o;unfold CA;simp
   lia
  rw[Ï]
  by_cases h:v j<v i - m
  .let(y3,y4,y5,y6,e):=Qz g L (Dv.pt v j<|v i - m) true (↑(.int (i:Nat))) (↑(.int (j:Nat))) (↑(.int m)) (↑(.int<|v i - m)) a
   have st:(iT n v).set j (.int<|v i - m)=iT n (Dv.pt v j<|v i - m):=by
    unfold iT;rw[Ie];refine E4 λk hk=>?_
    unfold Dv.pt
    by_cases e:k=j<;>simp[e]
   have c:Dv.rz ((i,j,m)::L) v b=Dv.rz L (Dv.pt v j<|v i - m) true:=by rw[Dv.rz,if_pos h]
   refine{y3,y4,y5,y6,?_};rw[c,<- e]
   conv=>lhs;unfold Ak
   unfold L6
   simp![d,f,h,t,st]
  .let(y3,y4,y5,y6,e):=Qz g L v b (↑(.int (i:Nat))) (↑(.int (j:Nat))) (↑(.int m)) (↑(.int<|v i - m)) a;have c:Dv.rz ((i,j,m)::L) v b=Dv.rz L v b:=by rw[Dv.rz,if_neg h]
   refine{y3,y4,y5,y6,?_};rw[c,<- e]
   conv=>lhs;unfold Ak
   unfold L6
   simp![d,f,h]
def XS{n:Nat}{L:List Dv.Lim}(a:Dv.In n L)(v:Nat->Int)(p:Addr):N3 [.nd true (.pin p)<|iT n v,.lst<|L.map DN]=↑(.ok<|.own [.bl (Dv.rz L v false).2,.nd true (.pin p)<|iT n (Dv.rz L v false).1]):=by
 let(b,c,d,f,e):=Qz (p:=p) (A:=.lst<|L.map DN) (by rw[T.sh,FG];rfl) L v false none none none none a
 unfold N3 Rc
 simp![Fd,FG,e]
abbrev PZ:Stmt:=AK 20
def J3:AG:=
 (Gg true (KE 2 N3<|mJ 1 AE) (AQ<|AA 2) A6)
def M4:AG:=
 (AF (Ca 2<|m2 B9 (BJ<|Am (mI 0) AE)<|m2 Aj (AA 0)<|mI 1)
 (AF (B5 (CN<|AB (m2 Aj (AA 0)<|mI 1) AE) (AD 3) J3)
 (AQ<|mC .non)))
def Hw:kL->Option Ru:=AZ 2 4 M4
abbrev cX:=fA 2 2 PZ Hw
abbrev zat:Gm:=gA PZ 1 [] ["range"] ["values"] (mc:=[("raise_all",cO)])
theorem zay:Ck zat cX PZ M4:={}
def Zu{n:Nat}{L:List Dv.Lim}(b:Dv.In n L){M:T}:∀(l:kL) (v v':Nat->Int) (x:kH),Dv.tn L l.length v=↑v' ->
  Ak (AD 3) J3 l [↑M,↑(.lst<|L.map DN),↑(.own<|iT n v),x]=↑(.rt<|.own<|iT n v')
 |[],v,v',x,h=>by cases h|t::l,v,v',x,h=>by
  rw[Ö,Dv.tn]at h;have g:=b7<|XS b v
  conv=>lhs;unfold Ak
  unfold J3;cases a:(Dv.rz L v false).2 with
  |true=>
   rw[a]at h;rw[a]at g;have c:=Zu b (M:=M) l _ v' ↑t h
   simp![Fd,FG,g]
   exact c
  |false=>
   rw[a]at h;rw[a]at g;erw[ą,Ã,Ů]at h;subst h
   simp![Fd,FG,g]
def lv_ok{m:Nat}(f:m<=1000){L:List Dv.Lim}(a:Dv.In (m+1) L){v:Nat->Int}(h:Dv.tn L (m+1) (λϊ=>0)=↑v):Hw [.int m,.lst<|L.map DN]=↑(.ok<|.own<|iT (m+1) v):=by
 let(k,b):∃k,k=m+1:={_,rfl};rw[<- b]at a h ⊢;have c:KU ((m:Int)+1)=true/\1 * k<=BW:={bA (n:=m+1) (by lia),by unfold BW;lia}
 have o2:((m:Int)+1).toNat=k:=by lia
 have d:CI ((m:Int)+1)=true:=EZ (n:=m+1)<|by lia
 have e:=Zu a (M:=.int m) (mT k λi=>.int (i:Int)) (λϊ=>0) v none (by rw[BO];exact h)
 unfold Hw M4
 simp![c,d,o2,XC,Ci,Fd,FG,e]
def Zt{n:Nat}{L:List Dv.Lim}(a:Dv.In n L){M:T}:∀(l:kL) (v:Nat->Int) (x:kH),Dv.tn L l.length v=none ->
  ∃Y',Ak (AD 3) J3 l [↑M,↑(.lst<|L.map DN),↑(.own<|iT n v),x]=↑(.nx Y')
 |[],v,x,h=>{_,rfl}|t::l,v,x,h=>by
  rw[Ö,Dv.tn]at h;have g:=b7<|XS a v;cases b:(Dv.rz L v false).2 with
  |true=>
   rw[b]at h;rw[b]at g;let(Y',c):=Zt a (M:=M) l _ ↑t h;refine{Y',?_}
   conv=>lhs;unfold Ak
   unfold J3
   simp![Fd,FG,g]
   exact c
  |false=>lia
def lv_no{m:Nat}(g:m<=1000){L:List Dv.Lim}(a:Dv.In (m+1) L)(h:Dv.tn L (m+1) (λϊ=>0)=none):Hw [.int m,.lst<|L.map DN]=↑(.ok .non):=by
 let(k,b):∃k,k=m+1:={_,rfl};rw[<- b]at a h;have c:KU ((m:Int)+1)=true/\1 * k<=BW:={bA (n:=m+1) (by lia),by unfold BW;lia}
 have o2:((m:Int)+1).toNat=k:=by lia
 have d:CI ((m:Int)+1)=true:=EZ (n:=m+1)<|by lia
 let(f,e):=Zt a (M:=.int m) (mT k λi=>.int (i:Int)) (λϊ=>0) none (by rw[BO];exact h)
 unfold Hw M4
 simp![c,d,o2,XC,Ci,Fd,FG,e]
def KJ(n:Nat):Option (Nat->Int)->T
 |some v=>.own (iT n v)|none=>.non
def zpc{m:Nat}(b:m<=1000){L:List Dv.Lim}(a:Dv.In (m+1) L):Hw [.int m,.lst<|L.map DN]=↑(.ok<|KJ (m+1)<|Dv.tn L (m+1) λϊ=>0):=by
 cases e:Dv.tn L (m+1) λϊ=>0 with
 |none=>exact lv_no b a e|some v=>exact lv_ok b a e
abbrev PY:Stmt:=AK 19
def NL:AI:=
 (BN<|mJ 0<|mJ 1<|AB (m2 EI (m2 B9 (AM N4<|mJ 2 AE)<|AA 3)<|EN (AM Na<|mJ 2 AE) (mI 1)<|mI 0) AE)
def Ro:AG:=
 (AQ<|BG 3 [1] (Ax<|AA 0) (An 3<|AL (AD 0)<|AL (AD 1)<|AL (AD 2) Ao) (mC<|.bl true) NL)
def N7:kL->Option Ru:=AZ 2 2 Ro
abbrev cW:=fA 2 2 PY N7
abbrev zcg:Gm:=gA PY 1 [("number_of",cS),("is_open",c7)] []
theorem zcu:Ck zcg cW PY Ro:={}
def E6(u:Int)(x:Dv.Lim):Dv.Lim:=(x.1,x.2.1,x.2.2 / 2 * u - 1+x.2.2 % 2)
def aH{u:Int}(b:DJ u=true):∀(L:List Dv.Lim) (x y z:kH),Bi (An 3<|AL (AD 0)<|AL (AD 1)<|AL (AD 2) Ao) (mC<|.bl true) NL (L.map DN) [x,y,z,↑(.int u)]=↑((L.map<|E6 u).map DN)
 |[],ϊ,ϋ,ό=>rfl|(i,j,c)::L,x,y,z=>by
  have g:=aH b L (↑(.int (i:Nat))) (↑(.int (j:Nat)))<|↑(.int c);have m1:Be (c / 2) u=true:=EA b
  have f:NL [↑(.int (i:Nat)),↑(.int (j:Nat)),↑(.int c),↑(.int u)]=↑(.v (DN<|E6 u (i,j,c)) false):=by
   unfold NL E6;have d:c % 2=0\/c % 2=1:=by lia
   rcases d with e|e
   .have a:(c % 2 == 0)=true:=by rw[e];rfl
    simp![Z4,bN,m1,a,e]
    rw[show c / 2 * u - 1+0=c / 2 * u - 1 by lia]
   .have a:(c % 2 == 0)=false:=by rw[e];rfl
    simp![Z4,bN,m1,a,e]
    rw[show c / 2 * u - 1+1=c / 2 * u - 0 by lia]
  conv=>lhs;unfold Bi
  simp![f,g]
def lo_ok{u:Int}(b:DJ u=true)(L:List Dv.Lim)(a:L.length<=100000):N7 [.lst<|L.map DN,.int u]=↑(.ok<|.own<|(L.map<|E6 u).map DN):=by
 have e:=aH b L none none none;unfold N7 Ro
 simp![Fd,FG,e,Á,a]
abbrev Ov:Stmt:=AK 18
def RY:AG:=
 (AQ<|m2 B9 (AA 1)<|m2 Aj (AA 0)<|mI 1)
def N0:kL->Option Ru:=AZ 2 2 RY
abbrev cE:=fA 1 2 Ov N0
abbrev ze6:Gm:=gA Ov 0 [] []
theorem zej:Ck ze6 cE Ov RY:={}
def uo_ok{m:Nat}{b:Int}(a:m<=1000):N0 [.int m,.int b]=↑(.ok<|.int<|b * ((m:Int)+1)):=by
 have m1:Be b ((m:Int)+1)=true:=EA<|Cn (by lia)<|by lia
 unfold N0 RY
 simp![m1]
abbrev PD:Stmt:=AK 56
def L4:AG:=
 (AF (Aa (BE (As<|AM JM<|mJ 5 AE)<|As<|F9 FH (BP λi j=>decide (i<j)) (mI 0) (AA 5)<|m1 BC<|AA 2) (Cg "NoRoad"<|AB (mC<|.str "a road goes through doors of the machine") AE) A6)
 (AF (AO (AH (AA 2)<|AA 5)<|AD 6)
 (AF (Aa (BE (m2 CJ (CK BS B7 4<|AA 6)<|mC<|.str "")<|m2 CJ (CK BS B7 0<|AA 6)<|AA 3) (Cg "NoRoad"<|AB (mC<|.str "a road goes on from where it is, and through no door with a sign") AE) A6)
 (AF (AO (CK BS B7 1<|AA 6)<|AD 3)
 (Cv 4<|AA 6)))))
def Ra:AG:=
 (AF (Aa (BE (As<|m1 (Bm "list")<|AA 1)<|m2 (BP λi j=>decide (j<i)) (m1 BC<|AA 1)<|mC Io) (Cg "NoRoad"<|AB (mC<|.str "a road is a list of at most two hundred doors' numbers") AE) A6)
 (AF (AO (ED Av BA LI (AA 0) AE)<|AD 2)
 (AF (AO (AH (ED Av BA JS (AA 0) AE)<|mI 0)<|AD 3)
 (AF (Ca 4<|BJ AE)
 (AF (B5 (Ax<|AA 1) (AD 5) L4)
 (AQ<|AA 4))))))
def JJ:kL->Option Ru:=AZ 2 7 Ra
abbrev cK:=fA 2 2 PD JJ
abbrev zbq:Gx:={ DE with co:=[("MOST_ROAD_DOORS",Io)],cl:=[("Door",BS,B7)],mt:=[("doors",Av,BA,dS),("rooms",Av,BA,Tn)] }
abbrev zbr:Gm:=gA PD 1 [("is_whole",NC)] ["isinstance","list","len"] ["told"] (ex:=["NoRoad"]) (ox:=zbq)
theorem zbx:Ck zbr cK PD Ra:={}
def Cy(M:Mc):Str->kF->Option (kI)
 |ϊ,[]=>↑[]|x,k::r=>if 0<=k then (match M.ds[k.toNat]? with
  |some d=>if d.z=Str.empty/\d.s=x then (Cy M d.e r).map (d::·) else none
  |none=>none) else none
def Fq(M:Mc):Str:=((M.rs.map (·.1))[0]?).getD Str.empty
def DQ(M:Mc)(ks:kF):Option<|kI:=if ks.length<=200 then Cy M (Fq M) ks else none
def MJ:Option (kI)->Ru
 |some l=>.ok (.own<|l.map Ad)|none=>.exc "NoRoad"
def Qo{M:Mc}:∀{ks:kF} {x:Str} {l:kI},Cy M x ks=↑l->(∀d∈l,d∈M.ds)/\l.length=ks.length
 |[],x,l,h=>by
  cases h
  simp_all
 |k::r,x,l,h=>by
  unfold Cy at h
  by_cases c:0<=k
  .rw[if_pos c]at h;cases hd:M.ds[k.toNat]? with
   |none=>lia|some d=>
    rw[hd]at h;simp only at h
    by_cases f:d.z=Str.empty/\d.s=x
    .rw[if_pos f]at h;let(j,e,rfl):=Ø.mp h;let(g,i):=Qo e;refine{λb a=>?_,by simp_all}
     rcases Ì.mp a with rfl|a
     .exact ç hd
     .exact g b a
    lia
  lia
def RR{x y:Str}(a:PyData.strOk x=true)(b:PyData.strOk y=true):CJ (.str x) (.str y)=↑(.bl<|!decide (x=y)):=by
 have e:(x == y)=decide (x=y):=by rfl
 unfold CJ HF E8 JC;erw[T.data,PyData.canLay0,a,b]
 rfl
def Fw{b:T->AN->Option AN}{body:AG}{t:T}{ts:kL}{Y τ1 τ2:AN}(a:b t Y=↑τ1)(c:body τ1=↑(.nx τ2)):Ak b body (t::ts) Y=Ak b body ts τ2:=by
 conv=>lhs;unfold Ak
 lia
def fg_xc{b:T->AN->Option AN}{body:AG}{t:T}{ts:kL}{Y τ1 τ2:AN}{c:Str}(a:b t Y=↑τ1)(d:body τ1=↑(.xc c τ2)):Ak b body (t::ts) Y=↑(.xc c τ2):=by
 conv=>lhs;unfold Ak
 lia
def Et(M:Mc)(x:Str)(k:Int):Option Dr:=if 0<=k then (match M.ds[k.toNat]? with
 |some d=>if d.z=Str.empty/\d.s=x then ↑d else none
 |none=>none) else none
def zjy{M:Mc}{x:Str}{k:Int}{d:Dr}(h:Et M x k=↑d):d∈M.ds:=by
 unfold Et at h;split at h
 .split at h
  .split at h
   .cases h;exact ç<|by assumption
   .cases h
  .cases h
 .cases h
def Jo(M:Mc)(x:Str)(k:Int)(r:kF):Cy M x (k::r)=(Et M x k).bind λd=>(Cy M d.e r).map (d::·):=by
 conv=>lhs;unfold Cy
 unfold Et
 by_cases a:0<=k
 .rw[if_pos a,if_pos a];cases M.ds[k.toNat]? with
  |none=>rfl|some d=>
   simp only
   by_cases b:d.z=Str.empty/\d.s=x
   .simp_all
   .rw[if_neg b,if_neg b];rfl
 .rw[if_neg a,if_neg a];rfl
def zjx{M:Mc}(h:McOk M)(R:T)(x:Str)(v:PyData.strOk x=true)(A:kL)(r:A.length<100000)(k:Int)(s:kH):∃Y',L4 [↑(Al M),↑R,↑(.lst<|M.ds.map Ad),↑(.str x),↑(.own A),↑(.int k),s]=↑(match Et M x k with
   |some d=>.nx [↑(Al M),↑R,↑(.lst<|M.ds.map Ad),↑(.str d.e),↑(.own<|A++[Ad d]),↑(.int k),↑(Ad d)]|none=>.xc "NoRoad" Y'):=by
 have sd:=h.sd;have i:=AJ _ sd;have j:=V1 k;have f:(M.ds.map Ad).length=M.ds.length:=Á ..;unfold L4 Et
 by_cases l:0<=k
 .rw[if_pos l];have c:decide (0<=k)=true:=É l
  by_cases t:k<(M.ds.length:Int)
  .have hk:k.toNat<M.ds.length:=by lia
   have hd:=Â hk;have D:=h.d _<|Ò hk;have p:=Kh D;have u:=CW _ p;have gs:=D.g.sh;have q:AW (M.ds.map Ad) k=↑(Ad M.ds[k.toNat]):=NS Ad<|Ht l hd;have e:=RR (zn5 D.z) UG;have n:=RR (h.tn _ D.s) v;have g:decide (k<(M.ds.length:Int))=true:=É t;rw[hd];change M.ds.map Ad=DT;change M.ds[k.toNat]=d
   by_cases m:d.z=Str.empty
   .by_cases o:d.s=x
    .refine{[],?_};erw[if_pos<|And.intro m o];have a:(!decide (d.z=Str.ofString ""))=false:=by rw[É (show d.z=Str.ofString "" from m)];rfl
     have b:(!decide (d.s=x))=false:=by rw[É o];rfl
     rw[a]at e;rw[b]at n
     simp![j,f,sd,i,c,g,q,e,n,gs,AJ _ gs,AV,AS,r]
    .refine{[↑(Al M),↑R,↑(.lst DT),↑(.str x),↑(.own A),↑(.int k),↑(Ad d)],?_};erw[if_neg (show ¬ (d.z=Str.empty/\d.s=x) from λz=>o z.2)]
     have a:(!decide (d.z=Str.ofString ""))=false:=by rw[É (show d.z=Str.ofString "" from m)];rfl
     have b:(!decide (d.s=x))=true:=by rw[Ù o];rfl
     rw[a]at e;rw[b]at n
     simp![j,f,sd,i,c,g,q,e,n,gs,AJ _ gs,AV,AS,r]
   .refine{[↑(Al M),↑R,↑(.lst DT),↑(.str x),↑(.own A),↑(.int k),↑(Ad d)],?_};erw[if_neg (show ¬ (d.z=Str.empty/\d.s=x) from λz=>m z.1)]
    have a:(!decide (d.z=Str.ofString ""))=true:=by rw[Ù (show ¬ d.z=Str.ofString "" from m)];rfl
    rw[a]at e
    simp![j,f,sd,i,c,g,q,e,gs,AJ _ gs,AV,AS,r]
  .have hd:M.ds[k.toNat]?=none:=Ą<|by lia
   have g:decide (k<(M.ds.length:Int))=false:=Ù t;rw[hd];change M.ds.map Ad=DT;refine{[↑(Al M),↑R,↑(.lst DT),↑(.str x),↑(.own A),↑(.int k),s],?_}
   simp![j,f,sd,i,c,g]
 .rw[if_neg l];have c:decide (0<=k)=false:=Ù l;change M.ds.map Ad=DT;refine{[↑(Al M),↑R,↑(.lst DT),↑(.str x),↑(.own A),↑(.int k),s],?_}
  simp![j,f,sd,i,c]
def XF{M:Mc}(h:McOk M)(R:T):∀(ks:kF) (x:Str) (a:kI) (x5 x6:kH),PyData.strOk x=true->a.length+ks.length<=200 ->
  ∃Y',Ak (AD 5) L4 (ks.map T.int) [↑(Al M),↑R,↑(.lst<|M.ds.map Ad),↑(.str x),↑(.own<|a.map Ad),x5,x6]=↑(match Cy M x ks with
   |some ϊ=>.nx Y'|none=>.xc "NoRoad" Y')/\∀l,Cy M x ks=↑l->∃y3 y5 y6,Y'=[↑(Al M),↑R,↑(.lst<|M.ds.map Ad),y3,↑(.own<|(a++l).map Ad),y5,y6]
 |[],x,a,x5,x6,i,g=>{[↑(Al M),↑R,↑(.lst<|M.ds.map Ad),↑(.str x),↑(.own<|a.map Ad),x5,x6],rfl,λl e=>by
   cases e;exact{_,_,_,by rw[Ć]}}
 |k::r,x,a,x5,x6,i,g=>by
  rw[Ö]at g;let(f,b):=zjx h R x i (a.map Ad) (by rw[Á];lia) k x6
  rw[Jo,Ï];cases c:Et M x k with
  |none=>rw[c]at b;exact{f,fg_xc (by simp![]) b,λl e=>by cases e}|some d=>
   rw[c]at b;let(Y',j,n):=XF h R r d.e (a++[d]) (↑(.int k)) (↑(Ad d)) (h.tn _ (h.d d<|zjy c).e) (by rw[à,Ķ];lia)
   rw[è]at j;refine{Y',(Fw (by simp![]) b).trans (j.trans ?_),λl e=>?_}
   .erw[ľ];cases Cy M d.e r<;>rfl
   .erw[ľ]at e;let(o,m,rfl):=Ø.mp e
    simp_all
def Cq:∀ks:kF,BQ (ks.map T.int)=ks.map T.int
 |[]=>rfl|k::r=>by rw[Ï,BQ,Cq r];rfl
def Cm:∀ks:kF,A4 (ks.map T.int)=true
 |[]=>rfl|k::r=>by rw[Ï,A4,Cm r];rfl
def Zh{M:Mc}(h:McOk M):AW ((M.rs.map (·.1)).map T.str) 0=↑(.str<|Fq M):=by
 have a:=h.r.l1;have e:(M.rs.map (·.1))[0]?=↑(M.rs[0]'(by lia)).1:=by rw[Ë,Â<|by lia];rfl
 refine Ht (by decide) ?_
 show((M.rs.map (·.1)).map T.str)[0]?=_;unfold Fq;rw[Ë,e]
 rfl
def XI{M:Mc}(h:McOk M):Fq M∈M.rs.map (·.1):=by
 have a:=h.r.l1;unfold Fq;rw[Â (show 0<(M.rs.map (·.1)).length by rw[Á];lia)]
 exact Ò _
def rd_ok{M:Mc}(h:McOk M)(ks:kF):JJ [Al M,.lst<|ks.map T.int]=↑(MJ<|DQ M ks):=by
 have sm:=FC h;have e:=CW _ sm;have sd:=h.sd;have j:=AJ _ sd;have md:LI [Al M]=↑(.ok<|.own<|M.ds.map Ad):=zlf h;have k:JS [Al M]=↑(.ok (.own ((M.rs.map (·.1)).map T.str))):=Zf h;have ma:=Zh h;have i:=Cm ks;have d:=Cq ks;have b:=KA M;unfold JJ Ra DQ
 by_cases f:ks.length<=200
 .rw[if_pos f];let(n,c,m):=XF h (.lst<|ks.map T.int) ks (Fq M) [] none none (h.tn _<|XI h)<|by simpa using f
  have a:decide ((200:Int)<((ks.map T.int).length:Int))=false:=Ù (by rw[Á];lia)
  rw[ř]at c;change ks.map T.int=KT;cases g:Cy M (Fq M) ks with
  |none=>
   rw[g]at c;change M.ds.map Ad=DT
   simp![-DW,b,Io,i,d,sm,e,a,md,k,ma,sd,j,AV,AS,c,MJ]
  |some l=>
   rw[g]at c;let(o,p,q,rfl):=m l g;change M.ds.map Ad=DT
   simp![-DW,b,Io,i,d,sm,e,a,md,k,ma,sd,j,AV,AS,c,MJ]
 .rw[if_neg f];have a:decide ((200:Int)<((ks.map T.int).length:Int))=true:=É (by rw[Á];lia)
  change ks.map T.int=KT
  simp![-DW,b,Io,i,d,sm,e,a,MJ]
abbrev P1:Stmt:=AK 57
def Rv:AG:=
 (AQ<|EN (m2 Au (m1 BC<|AA 1)<|mI 0) (AH (ED Av BA JS (AA 0) AE)<|mI 0)<|CK BS B7 1<|AH (AA 1)<|m1 E1<|mI 1)
def N8:kL->Option Ru:=AZ 2 2 Rv
abbrev cY:=fA 2 2 P1 N8
abbrev zc6:Gx:={ DE with cl:=[("Door",BS,B7)],mt:=[("rooms",Av,BA,Tn)] }
abbrev zch:Gm:=gA P1 1 [] ["len"] (ox:=zc6)
theorem zcv:Ck zch cY P1 Rv:={}
def Cr(M:Mc)(l:kI):Str:=match l.getLast? with
 |some d=>d.e|none=>Fq M
def fL{M:Mc}(h:McOk M){l:kI}(a:∀d∈l,d∈M.ds):A4 (l.map Ad)=true:=Dd λd hd=>Kh<|h.d d<|a d hd
def zq7{M:Mc}(h:McOk M){l:kI}(a:∀d∈l,d∈M.ds):Cr M l∈M.rs.map (·.1):=by
 unfold Cr;cases e:l.getLast? with
 |none=>exact XI h|some d=>exact(h.d d<|a d<|List.mem_of_getLast? e).e
def Um{α:Type}{l:List α}{d:α}(e:l.getLast?=↑d):AW l (-1)=↑d:=by
 have b:0<l.length:=by
  cases l with
  |nil=>cases e|cons a r=>simp
 unfold AW CA;rw[if_neg (by decide),if_pos (by lia),ľ,<- e,List.getLast?_eq_getElem?]
 congr 1
 lia
def lr_ok{M:Mc}(h:McOk M){l:kI}(g:∀d∈l,d∈M.ds):N8 [Al M,.lst<|l.map Ad]=↑(.ok<|.str<|Cr M l):=by
 have sm:=FC h;have f:=CW _ sm;have k:JS [Al M]=↑(.ok (.own ((M.rs.map (·.1)).map T.str))):=Zf h;have ma:=Zh h;have b:=KA M;have i:=fL h g;have c:=AJ _ i;unfold N8 Rv Cr;cases e:l.getLast? with
 |none=>
  have:l=[]:=List.getLast?_eq_none_iff.mp e;subst this
  simp![-DW,b,Cc,sm,f,k,ma,AV,AS]
 |some d=>
  have hd:=g d<|List.mem_of_getLast? e;have gs:=(h.d d hd).g.sh
  have m:0<l.length:=by
   cases l with
   |nil=>cases e|cons a r=>simp
  have ne:(((l.map Ad).length:Int) == 0)=false:=by rw[Ĳ,Á];lia
  have j:AW (l.map Ad) (-1)=↑(Ad d):=NS Ad<|Um e;change l.map Ad=LT
  simp![-DW,b,Cc,sm,f,ne,j,i,c,gs,AJ _ gs,AV,AS]
abbrev PV:Stmt:=AK 58
def OP:AG:=
 (GH 3<|AM N6<|mJ 1<|AB (AH (AA 2)<|AA 4)<|mJ 5<|mJ 6 AE)
def Rm:AG:=
 (AF (Ca 3<|BJ AE)
 (AF (B5 (Ax<|AA 0) (An 3<|AL (AD 4)<|AL (AD 5)<|AL (AD 6) Ao) OP)
 (AQ<|AA 3)))
def JL:kL->Option Ru:=AZ 3 7 Rm
abbrev Td:=fA 3 3 PV JL
abbrev zcf:Gm:=gA PV 2 [("look_bounds",cV)] [] ["bounds"]
theorem zct:Ck zcf Td PV Rm:={}
abbrev CF(n:Nat)(sa:Nat->Nat):kL:=mT n λp=>.int ((sa p:Nat):Int)
abbrev IS(l:kL):T:=.nd false .rl l
def Bh(L:List<|Nat×Nat×Int)(t:Nat)(sa:Nat->Nat):List Dv.Lim:=L.flatMap λl=>Dj t (sa l.1) l.2.1 l.2.2
def GS:∀(L:List<|Nat×Nat×Int) (t:Nat) (sa:Nat->Nat),(Bh L t sa).length<=2 * L.length
 |[],ϊ,ϋ=>Æ _|l::L,t,sa=>by
  have b:=zll t (sa l.1) l.2.1 l.2.2;have a:=GS L t sa;unfold Bh at a ⊢;rw[List.flatMap_cons,à,Ö]
  lia
def Ml(L:List Dv.Lim):A4 (L.map BF)=true:=FG L
def Ik(L:List Dv.Lim):BQ (L.map BF)=L.map BF:=Fd L
def MD(n:Nat)(sa:Nat->Nat):A4 (CF n sa)=true:=Fm _
def Sv{m:Nat}{L:List<|Nat×Nat×Int}(v:Nx m L)(B:L.length<=1000)(t:Nat)(sa:Nat->Nat):JL [.lst<|L.map EG,.int (t:Int),IS<|CF (m+1) sa]=↑(.ok<|.own<|(Bh L t sa).map BF):=by
 have o:=Mh L;have d:=AJ _ o;have ss:=MD (m+1) sa;have c:=AJ _ ss;have w:=GS L t sa
 let(Y,e,g,h,k,rfl):=cB (b:=An 3<|AL (AD 4)<|AL (AD 5)<|AL (AD 6) Ao) (body:=OP) EG (λ(a:List Dv.Lim) Y=>∃g h k,Y=[↑(.lst<|L.map EG),↑(.int (t:Int)),↑(IS<|CF (m+1) sa),↑(.own<|a.map BF),g,h,k]) (λl=>Dj t (sa l.1) l.2.1 l.2.2) 2000 L []
  [↑(.lst<|L.map EG),↑(.int (t:Int)),↑(IS<|CF (m+1) sa),↑(.own []),none,none,none] {(none),none,none,rfl} (by unfold Bh at w;erw[Ď];lia) λl f a Y x A=>by
   let(g,h,k,rfl):=x;let(z,s,u):=v l f;have p:AW (CF (m+1) sa) (l.1:Int)=↑(.int (sa l.1:Int)):=CY s;have q:=zpk (i:=t) (j:=sa l.1) (n:=l.2.2) u
   have r:(a.map BF).length+((Dj t (sa l.1) l.2.1 l.2.2).map BF).length<=100000:=by
    rw[Á,Á]
    lia
   have y:=Ik<|Dj t (sa l.1) l.2.1 l.2.2;refine{[↑(.lst<|L.map EG),↑(.int (t:Int)),↑(IS<|CF (m+1) sa),↑(.own<|a.map BF),↑(.int (l.1:Int)),↑(.str<|Ep l.2.1),↑(.int l.2.2)],by simp![],[↑(.lst<|L.map EG),↑(.int (t:Int)),↑(IS<|CF (m+1) sa),↑(.own<|(a++Dj t (sa l.1) l.2.1 l.2.2).map BF),↑(.int (l.1:Int)),↑(.str<|Ep l.2.1),↑(.int l.2.2)],?_,_,_,_,rfl}
   rw[è];change L.map EG=LT;change CF (m+1) sa=ST;change (Dj t (sa l.1) l.2.1 l.2.2).map BF=BT;change a.map BF=AT;unfold OP
   simp![ss,c,p,q,r,y]
 rw[ŷ]at e;have eb:(Bh L t sa).map BF=(L.flatMap λl=>Dj t (sa l.1) l.2.1 l.2.2).map BF:=rfl
 have sb:=Ml<|L.flatMap λl=>Dj t (sa l.1) l.2.1 l.2.2
 rw[eb];change L.map EG=LT;change CF (m+1) sa=ST;change (L.flatMap λl=>Dj t (sa l.1) l.2.1 l.2.2).map BF=BT
 unfold JL Rm
 simp![o,d,ss,c,e,sb]
theorem Sw{m N:Nat}{L:List<|Nat×Nat×Int}(b:Nx m L){t:Nat}{sa:Nat->Nat}(e:t<N)(d:∀p,p<m+1->sa p<N):Dv.In N<|Bh L t sa:=λx a=>by
 let(l,c,a):=Ο.mp a;exact zpl e (d _ (b l c).2.1) x a
abbrev Ou:Stmt:=AK 59
def RX:AG:=
 (AF (AO (AM G7<|mJ 0<|AB (ED Av BA LH (AA 0)<|mJ 1 AE) AE)<|AD 4)
 (AQ<|m2 Aj (BJ<|Am (BN<|AB (m2 EI (AA 2)<|mI 1)<|mJ 2<|AB (AM G8<|AB (mI 0) AE) AE) AE)<|AM JL<|mJ 4<|mJ 2<|mJ 3 AE))
def Kx:kL->Option Ru:=AZ 4 5 RX
abbrev cD:=fA 6 4 Ou Kx
abbrev zb2:Gx:={ DE with mt:=[("stay",Av,BA,dR)] }
abbrev zb6:Gm:=gA Ou 5 [("placed",Ta),("at_most",K9),("looked_at",Td)] [] (ox:=zb2)
theorem zbf:Ck zb6 cD Ou RX:={}
def Bn(M:Mc)(x:Str)(t:Nat)(sa:Nat->Nat):List Dv.Lim:=(t - 1,t,1)::Bh (DZ M.ws M.rs x) t sa
structure Sh1(M:Mc):Prop where
 r:∀r∈M.rs,r.2.length<=100
 d:∀d∈M.ds,d.g.length<=100
def W6{M:Mc}(s:Sh1 M)(x:Str):(DZ M.ws M.rs x).length<=100:=by
 unfold DZ;rw[Á];cases e:M.rs.find? λq=>decide (q.1=x) with
 |none=>simp_all|some r=>exact s.r r<|List.mem_of_find?_eq_some e
def J0{M:Mc}(s:Sh1 M)(x:Str)(t:Nat)(sa:Nat->Nat):(Bn M x t sa).length<=201:=by
 have a:=GS (DZ M.ws M.rs x) t sa;have b:=W6 s x;unfold Bn;rw[Ö]
 lia
def VR{M:Mc}(h:McOk M)(s:Sh1 M){x:Str}(v:x∈M.rs.map (·.1)){t:Nat}(y:1<=t)(sa:Nat->Nat):Kx [Al M,.str x,.int (t:Int),IS<|CF (M.ws.length+1) sa]=↑(.ok<|.own<|(Bn M x t sa).map BF):=by
 have sm:=FC h;have q:=CW _ sm;let(i,f,k):=Ÿ.mp v;rw[Á]at f;rw[Μ]at k;subst k;have l:=Ò f;have hk:=(h.r.lk _ l);have o:LH [Al M,.str M.rs[i].1]=↑(.ok<|.own M.rs[i].2):=zlc h f;have j:G7 [Al M,.lst M.rs[i].2]=↑(.ok<|.own<|M.rs[i].2.map (GJ M.ws)):=RH h hk.1.wd (λϊ z=>z) hk.2
 rw[RF hk.1.wd,<- W7 h.r.nd l]at j;have u:=W5 h M.rs[i].1;have A:=W6 s M.rs[i].1;have p:=Sv u (by lia) t sa
 have n:=Mh<|DZ M.ws M.rs M.rs[i].1;have d:=AJ _ n;have m:=hk.1.sh;have c:=AJ _ m;have ss:=MD (M.ws.length+1) sa;have e:=AJ _ ss;have sb:=Ml<|Bh (DZ M.ws M.rs M.rs[i].1) t sa;have b:=AJ _ sb;have g:=KA M
 have w:((Bh (DZ M.ws M.rs M.rs[i].1) t sa).map BF).length<=99999:=by
  have:=GS (DZ M.ws M.rs M.rs[i].1) t sa;rw[Á]
  lia
 have r:((t:Int) - 1)=((t - 1:Nat):Int):=by lia
 unfold Bn;rw[Ï,show BF (t - 1,t,1)=.tup [.int ((t - 1:Nat):Int),.int (t:Int),.int 1] from rfl,<- r];change (DZ M.ws M.rs M.rs[i].1).map EG=LT;change (Bh (DZ M.ws M.rs M.rs[i].1) t sa).map BF=BT;change CF (M.ws.length+1) sa=ST;change M.rs[i].2=KT;change M.rs[i].1=x;have a:1+BT.length<=100000:=by lia
 unfold Kx RX
 simp![-DW,g,sm,q,o,m,c,j,n,d,ss,e,p,sb,b,NX,a]
theorem VS{M:Mc}(h:McOk M){N t:Nat}{x:Str}{sa:Nat->Nat}(c:t<N)(b:∀p,p<M.ws.length+1->sa p<N):Dv.In N<|Bn M x t sa:=λy a=>by
 rcases Ì.mp a with rfl|a
 .lia
 .exact Sw (W5 h x) c b y a
abbrev PF:Stmt:=AK 60
def UX:AI:=
 (mI 0)
def OO:AG:=
 (Gf 5 (AA 10)<|AA 8)
def L5:AG:=
 (AF (GH 6<|E5 5<|AM Kx<|mJ 0<|AB (CK BS B7 0<|AA 9)<|mJ 8<|mJ 5 AE)
 (AF (GH 6<|E5 5<|AM JL<|AB (AM G7<|mJ 0<|AB (ED BS B7 Nu (AA 9) AE) AE)<|mJ 8<|mJ 5 AE)
 (B5 (Ax<|AM N5<|mJ 0<|mJ 9 AE) (AD 10) OO)))
def Rb:AG:=
 (AF (AO (AM JJ<|mJ 0<|mJ 1 AE)<|AD 3)
 (AF (AO (AM G7<|mJ 0<|mJ 2 AE)<|AD 4)
 (AF (Ca 5<|BG 1 [] (CN<|AB (m2 Aj (m1 BC<|ED Av BA JQ (AA 0) AE)<|mI 1) AE) (AD 0) (mC<|.bl true) UX)
 (AF (Ca 6<|BJ AE)
 (AF (B5 (HD<|mJ 3 AE) (An 2<|AL (AD 8)<|AL (AD 9) Ao) L5)
 (AF (AO (m2 Aj (m1 BC<|AA 3)<|mI 1)<|AD 7)
 (AF (GH 6<|E5 5<|AM Kx<|mJ 0<|AB (AM N8<|mJ 0<|mJ 3 AE)<|mJ 7<|mJ 5 AE)
 (AF (GH 6<|E5 5<|AM JL<|mJ 4<|mJ 7<|mJ 5 AE)
 (AQ<|AA 6)))))))))
def G6:kL->Option Ru:=AZ 3 11 Rb
abbrev T9:=fA 7 3 PF G6
abbrev zb3:Gx:={ DE with cl:=[("Door",BS,B7)],mt:=[("watches",Av,BA,Ti),("asks",BS,B7,eO)] }
abbrev zb8:Gm:=gA PF 6 [("road_doors",cK),("placed",Ta),("waited_till",cD),("looked_at",Td),("nought_places",cT),("last_room",cY)] ["range","len","enumerate"] ["bounds","set_at"] (ox:=zb3) (mv:=["set_at"]) (N:=["machine","road","guard","doors","looks","set_at","bounds","end","time","door","place"])
theorem zbh:Ck zb8 T9 PF Rb:={}
def Bq(ps:kG)(t:Nat)(sa:Nat->Nat):Nat->Nat:=λp=>if p∈ps then t else sa p
def zgy(p:Nat)(ps:kG)(t:Nat)(sa:Nat->Nat):Bq (p::ps) t sa=Bq ps t (Bq [p] t sa):=by
 funext q
 unfold Bq
 by_cases a:q∈ps<;>by_cases b:q=p<;>simp[a]
def zn7{n p:Nat}(t:Nat)(sa:Nat->Nat):(CF n sa).set p (.int (t:Int))=CF n (Bq [p] t sa):=by
 rw[Ie];refine E4 λk hk=>?_
 unfold Bq
 by_cases e:k=p<;>simp[e]
def XN{n t:Nat}{a0 a1 a2 a3 a4 a6 a7 a9:kH}:∀(ps:kG) (sa:Nat->Nat) (x:kH),(∀p∈ps,p<n)->∃y,Ak (AD 10) OO (IW ps) [a0,a1,a2,a3,a4,↑(.own<|CF n sa),a6,a7,↑(.int (t:Int)),a9,x]=↑(.nx [a0,a1,a2,a3,a4,↑(.own<|CF n<|Bq ps t sa),a6,a7,↑(.int (t:Int)),a9,y])
 |[],sa,x,ϊ=>{x,by
   rfl}
 |p::ps,sa,x,h=>by
  let(y,e):=XN ps (Bq [p] t sa) (↑(.int (p:Int))) λq a=>h q<|Ê _ a
  have c:=h p (Í ..)
  have b:CA (CF n sa).length (p:Int)=↑p:=by
   rw[BO];unfold CA;simp
   lia
  have st:=zn7 (n:=n) (p:=p) t sa;refine{y,?_};rw[zgy];refine(Fw (τ1:=[a0,a1,a2,a3,a4,↑(.own<|CF n sa),a6,a7,↑(.int (t:Int)),a9,↑(.int (p:Int))]) (by rfl) ?_).trans e
  rw[<- st];unfold OO;change CF n sa=ST
  simp![b]
def Bw(M:Mc):kI->Nat->(Nat->Nat)->List Dv.Lim×(Nat->Nat)
 |[],ϊ,sa=>([],sa)|d::r,t,sa=>((Bn M d.s t sa++Bh (d.g.map<|A2 M.ws) t sa)++(Bw M r (t+1)<|Bq (Ar M.ws d.n) t sa).1,(Bw M r (t+1)<|Bq (Ar M.ws d.n) t sa).2)
def np_lt{M:Mc}(h:McOk M){d:Dr}(hd:d∈M.ds):∀p∈Ar M.ws d.n,1<=p/\p<M.ws.length+1:=λp a=>by
 let(x,b,rfl):=Ó.mp a;let(j,c,e,_):=Hl<|(h.d d hd).n x b
 simp_all
def Jv:∀B:List Dv.Lim,FA (B.map BF)=true
 |[]=>rfl|b::B=>by
  rw[Ï,FA,Jv B]
  rfl
def aJ{n:Nat}{sa:Nat->Nat}:Fc (CF n sa)=true/\GV (CF n sa)=CF n sa:=by
 have:∀l:kG,Fc (l.map λp=>T.int ((sa p:Nat):Int))=true/\GV (l.map λp=>T.int ((sa p:Nat):Int))=l.map λp=>T.int ((sa p:Nat):Int):=λl=>by
  induction l with
  |nil=>exact{(rfl),rfl}|cons a r b=>exact{by rw[Ï,Fc,b.1];rfl,by rw[Ï,GV,b.2];rfl}
 exact this<|List.range n
abbrev rS(M:Mc)(R G DT LT:T)(sa:Nat->Nat)(B:List Dv.Lim)(x7 b c a:kH):AN:=[↑(Al M),↑R,↑G,↑DT,↑LT,↑(.own<|CF (M.ws.length+1) sa),↑(.own<|B.map BF),x7,b,c,a]
def zjz{M:Mc}(h:McOk M)(s:Sh1 M){d:Dr}(hd:d∈M.ds){t:Nat}(A:1<=t)(sa:Nat->Nat)(R G DT LT:T)(B:List Dv.Lim)(H:B.length<=90000)(x7 c:kH) :
  ∃y10,L5 (rS M R G DT LT sa B x7 (↑(.int (t:Int))) (↑(Ad d)) c) =
   ↑(.nx<|rS M R G DT LT (Bq (Ar M.ws d.n) t sa) (B++(Bn M d.s t sa++Bh (d.g.map<|A2 M.ws) t sa)) x7 (↑(.int (t:Int))) (↑(Ad d)) y10):=by
 have D:=h.d d hd;have sm:=FC h;have f:=CW _ sm;have gs:=D.g.sh;have a:=AJ _ gs;have e:=Kh D;have w:=CW _ e;have q:=VR h s D.s A sa;have l:G7 [Al M,.lst d.g]=↑(.ok<|.own<|d.g.map<|GJ M.ws):=RH h D.g (λϊ z=>z) D.gl
 rw[RF D.g]at l;have r:=Sv (Jp D.g) (by have:=D.gl;rw[Á];lia) t sa
 have u:=np_ok h hd;have v:=zm7 (d:=d) gs;let(l1,l2):=aJ (n:=M.ws.length+1) (sa:=sa);have ss:=MD (M.ws.length+1) sa;have b:=AJ _ ss;have C:=Jv<|Bn M d.s t sa;have E:=Jv<|Bh (d.g.map<|A2 M.ws) t sa;have j:=Ik<|Bn M d.s t sa;have k:=Ik<|Bh (d.g.map<|A2 M.ws) t sa;have I:=J0 s d.s t sa;have F:=GS (d.g.map<|A2 M.ws) t sa;have J:=s.d d hd;rw[Á]at F;have c1:(B.map BF).length+((Bn M d.s t sa).map BF).length<=100000:=by rw[Á,Á];lia
 have c2:(B.map BF++(Bn M d.s t sa).map BF).length+((Bh (d.g.map<|A2 M.ws) t sa).map BF).length<=100000:=by rw[à,Á,Á,Á];lia
 have m:=Mh<|d.g.map<|A2 M.ws;have g:=AJ _ m;have o:=zp8<|Ar M.ws d.n;have i:=AJ _ o;let(y10,x):=XN (n:=M.ws.length+1) (t:=t) (a0:=↑(Al M)) (a1:=↑R) (a2:=↑G) (a3:=↑DT) (a4:=↑LT) (a6:=↑(.own<|(B++(Bn M d.s t sa++Bh (d.g.map<|A2 M.ws) t sa)).map BF)) (a7:=x7) (a9:=↑(Ad d)) (Ar M.ws d.n) sa c λp y=>(np_lt h hd p y).2
 refine{y10,?_};unfold rS;rw[<- x,è,è];unfold L5;change IW (Ar M.ws d.n)=NT;change (d.g.map<|A2 M.ws).map EG=KT;change (Bn M d.s t sa).map BF=WT;change (Bh (d.g.map<|A2 M.ws) t sa).map BF=QT;change CF (M.ws.length+1) sa=ST;change B.map BF=BT;exact sq (by simp![E5,Ms,T.lnd,T.lend,T.noR,l1,l2,sm,f,gs,a,AV,AS,ss,b,q,C,j,c1];rfl)<|sq (by simp![E5,Ms,T.lnd,T.lend,T.noR,l1,l2,sm,f,gs,a,AV,AS,ss,b,v,l,m,g,r,E,k,c2,ļ];rfl)<|by simp![sm,f,gs,a,AV,AS,u,o,i]
def Qu{M:Mc}(s:Sh1 M):∀(ds:kI) (t:Nat) (sa:Nat->Nat),(∀d∈ds,d∈M.ds)->(Bw M ds t sa).1.length<=401 * ds.length
 |[],ϊ,ϋ,ό=>Æ _|d::r,t,sa,h=>by
  have i:=Qu s r (t+1) (Bq (Ar M.ws d.n) t sa) λx a=>h x<|Ê _ a
  have c:=J0 s d.s t sa;have b:=GS (d.g.map<|A2 M.ws) t sa;have e:=s.d d<|h d (Í ..);rw[Á]at b;show((Bn M d.s t sa++Bh (d.g.map<|A2 M.ws) t sa)++(Bw M r (t+1)<|Bq (Ar M.ws d.n) t sa).1).length<=_;rw[à,à,Ö]
  lia
def XM{M:Mc}(h:McOk M)(s:Sh1 M){R G DT LT:T}{x7:kH}:∀(ds:kI) (t:Nat) (sa:Nat->Nat) (B:List Dv.Lim) (x8 x9 x10:kH),(∀d∈ds,d∈M.ds)->1<=t->B.length+401 * ds.length<=90000 ->
  ∃y8 y9 y10,Ak (An 2<|AL (AD 8)<|AL (AD 9) Ao) L5 (E9 t<|ds.map Ad) (rS M R G DT LT sa B x7 x8 x9 x10) =
   ↑(.nx<|rS M R G DT LT (Bw M ds t sa).2 (B++(Bw M ds t sa).1) x7 y8 y9 y10)
 |[],t,sa,B,x8,x9,x10,ϊ,ϋ,ό=>{x8,x9,x10,by
   rw[show(Bw M [] t sa).1=[] from rfl,Ć]
   rfl}
 |d::r,t,sa,B,x8,x9,x10,hd,g,f=>by
  rw[Ö]at f;have a:=hd d (Í ..);let(y10,e):=zjz h s a g sa R G DT LT B (by lia) x7 x10
  have m:=J0 s d.s t sa;have j:=GS (d.g.map<|A2 M.ws) t sa;have n:=s.d d a;rw[Á]at j;let(k,l,b,c):=XM h s r (t+1) (Bq (Ar M.ws d.n) t sa) (B++(Bn M d.s t sa++Bh (d.g.map<|A2 M.ws) t sa)) (↑(.int (t:Int))) (↑(Ad d)) y10 (λx i=>hd x<|Ê _ i) (by lia) (by rw[à,à];lia)
  refine{k,l,b,(Fw rfl e).trans (c.trans ?_)};rw[ļ B]
  rfl
def Bl(M:Mc)(ds:kI)(g:List<|Nat×Nat×Int):List Dv.Lim:=(Bw M ds 1 λϊ=>0).1++(Bn M (Cr M ds) (ds.length+1) (Bw M ds 1 λϊ=>0).2++Bh g (ds.length+1) (Bw M ds 1 λϊ=>0).2)
def zk1{M:Mc}(s:Sh1 M){ds:kI}(hd:∀d∈ds,d∈M.ds)(b:ds.length<=200){g:List<|Nat×Nat×Int}(a:g.length<=100):(Bl M ds g).length<=90000:=by
 have z0:=Qu s ds 1 (λϊ=>0) hd
 have c:=J0 s (Cr M ds) (ds.length+1) (Bw M ds 1 λϊ=>0).2
 have e:=GS g (ds.length+1) (Bw M ds 1 λϊ=>0).2
 unfold Bl;rw[à,à]
 lia
def Qe(M:Mc)(g:kL):Option (kI)->Ru
 |some l=>.ok (.own<|(Bl M l<|g.map<|A2 M.ws).map BF)|none=>.exc "NoRoad"
def HY{M:Mc}{ks:kF}{l:kI}(e:DQ M ks=↑l):(∀d∈l,d∈M.ds)/\l.length=ks.length/\ks.length<=200:=by
 unfold DQ at e;split at e
 .exact{(Qo e).1,(Qo e).2,by assumption}
 .cases e
def XJ{M:Mc}(h:McOk M)(s:Sh1 M)(ks:kF){g:kL}(j:BD M.ws BU g)(gl:g.length<=100):G6 [Al M,.lst<|ks.map T.int,.lst g]=↑(Qe M g<|DQ M ks):=by
 have sm:=FC h;have A:=CW _ sm;have B:=Cm ks;have y:=Cq ks;have u:=j.sh;have w:=AJ _ u;have b:=KA M;have d:=rd_ok h ks;unfold G6 Rb;cases e:DQ M ks with
 |none=>
  rw[e]at d;have a:JJ [Al M,.lst<|ks.map T.int]=↑(.exc "NoRoad"):=d;change ks.map T.int=KT
  simp![-DW,b,B,y,u,w,sm,A,a,Qe]
 |some l=>
  rw[e]at d;let(c,S,P):=HY e;have a:JJ [Al M,.lst<|ks.map T.int]=↑(.ok<|.own<|l.map Ad):=d;have D:=fL h c;have o:=AJ _ D;have v:G7 [Al M,.lst g]=↑(.ok<|.own<|g.map<|GJ M.ws):=RH h j (λϊ z=>z)<|by lia
  rw[RF j]at v;have J:JQ [Al M]=↑(.ok<|.own<|M.ws.map T.str):=Ze h;have C:=Mh<|g.map<|A2 M.ws;have m:=AJ _ C;have wl:=h.wl;have ok:CI ((M.ws.length:Int)+1)=true:=EZ (n:=M.ws.length+1)<|by lia
  have I:Bi (AD 0) (mC<|.bl true) UX (Br 0<|M.ws.length+1) [none]=↑(CF (M.ws.length+1) λϊ=>0):=by
   rw[show Br 0 (M.ws.length+1)=mT (M.ws.length+1) λi=>.int (i:Int) from Ci]
   exact EH (n:=M.ws.length+1) (me:=UX) (x:=none) (cs:=[]) (g:=λi=>.int (i:Int)) (f:=λϊ=>.int ((0:Nat):Int)) λi Q=>rfl
  let(U,V,N,k):=XM h s (R:=.lst<|ks.map T.int) (G:=.lst g) (DT:=.lst<|l.map Ad) (LT:=.lst<|(g.map<|A2 M.ws).map EG) (x7:=none) l 1 (λϊ=>0) [] none none none c (Æ _) (by erw[Ď];lia)
  have E:=lr_ok h c;have z0:=Qu s l 1 (λϊ=>0) c
  unfold rS at k;rw[ŷ,ř]at k;rw[show Qe M g ↑l=.ok (.own<|((Bw M l 1 λϊ=>0).1++(Bn M (Cr M l) (l.length+1) (Bw M l 1 λϊ=>0).2++Bh (g.map<|A2 M.ws) (l.length+1) (Bw M l 1 λϊ=>0).2)).map BF) from rfl]
  change (Bw M l 1 λϊ=>0).1=BL
  change (Bw M l 1 λϊ=>0).2=sa
  have sb:=Ml<|BL++(Bn M (Cr M l) (l.length+1) sa++Bh (g.map<|A2 M.ws) (l.length+1) sa);rw[è,è]at sb ⊢;have F:=VR h s (zq7 h c) (t:=l.length+1) (by lia) sa
  have H:=Sv (Jp j) (by rw[Á];lia) (l.length+1) sa
  let(l1,l2):=aJ (n:=M.ws.length+1) (sa:=sa);have ss:=MD (M.ws.length+1) sa;have p:=AJ _ ss;have K:=Jv<|Bn M (Cr M l) (l.length+1) sa;have L:=Jv<|Bh (g.map<|A2 M.ws) (l.length+1) sa;have q:=Ik<|Bn M (Cr M l) (l.length+1) sa;have r:=Ik<|Bh (g.map<|A2 M.ws) (l.length+1) sa;have W:=J0 s (Cr M l) (l.length+1) sa;have O:=GS (g.map<|A2 M.ws) (l.length+1) sa;rw[Á]at O;have c1:(BL.map BF).length+((Bn M (Cr M l) (l.length+1) sa).map BF).length<=100000:=by rw[Á,Á];lia
  have c2:(BL.map BF++(Bn M (Cr M l) (l.length+1) sa).map BF).length+((Bh (g.map<|A2 M.ws) (l.length+1) sa).map BF).length<=100000:=by rw[à,Á,Á,Á];lia
  have rl:(Br 0<|M.ws.length+1).length<=100000:=by unfold Br;rw[Á,Ļ];lia
  have en:(((l.map Ad).length:Int)+1)=((l.length+1:Nat):Int):=by rw[Á];lia
  have tn:((M.ws.length:Int)+1).toNat=M.ws.length+1:=by lia
  change (g.map<|A2 M.ws).map EG=LT;change (Bn M (Cr M l) (l.length+1) sa).map BF=WT;change (Bh (g.map<|A2 M.ws) (l.length+1) sa).map BF=QT;change BL.map BF=BT;change CF (M.ws.length+1) sa=ST;change CF (M.ws.length+1) (λϊ=>0)=S0
  change l.map Ad=DL;change Cr M l=xe;change ks.map T.int=KT
  simp![-DW,b,E5,Ms,T.lnd,T.lend,T.noR,B,y,u,w,sm,A,a,D,o,v,C,m,J,AV,AS,Á,ok,tn,I,rl,k,en,E,l1,l2,ss,p,F,K,q,c1,H,L,r,c2,ļ,sb]
def zn1{ps:kG}{t N:Nat}{sa:Nat->Nat}(b:t<N)(a:∀p,sa p<N):∀p,Bq ps t sa p<N:=λp=>by
 unfold Bq;split
 .exact b
 .exact a p
def XO{M:Mc}(h:McOk M){N:Nat}:∀(ds:kI) (t:Nat) (sa:Nat->Nat),(∀d∈ds,d∈M.ds)->t+ds.length<=N->(∀p,sa p<N)->Dv.In N (Bw M ds t sa).1/\∀p,(Bw M ds t sa).2 p<N
 |[],ϊ,ϋ,ό,ύ,b=>{λx a=>(by cases a),b}|d::r,t,sa,hd,c,b=>by
  rw[Ö]at c;have i:=XO h r (t+1) (Bq (Ar M.ws d.n) t sa) (λx a=>hd x<|Ê _ a) (by lia)<|zn1 (by lia) b
  refine{λx a=>?_,i.2}
  rcases ä.mp a with a|a
  .rcases ä.mp a with a|a
   .exact VS h (by lia) (λp ϊ=>b p) x a
   .exact Sw (Jp (h.d d<|hd d (Í ..)).g) (by lia) (λp ϊ=>b p) x a
  .exact i.1 x a
theorem Qv{M:Mc}(h:McOk M){ds:kI}(hd:∀d∈ds,d∈M.ds){g:kL}(e:BD M.ws BU g):Dv.In (ds.length+2)<|Bl M ds<|g.map<|A2 M.ws:=λx a=>by
 let(c,b):=XO h (N:=ds.length+2) ds 1 (λϊ=>0) hd (by lia) λϊ=>by lia
 rcases ä.mp a with a|a
 .exact c x a
 .rcases ä.mp a with a|a
  .exact VS h (by lia) (λp ϊ=>b p) x a
  .exact Sw (Jp e) (by lia) (λp ϊ=>b p) x a
abbrev PC:Stmt:=AK 62
def R9:AG:=
 (AQ<|AM N0<|AB (m2 Aj (m1 BC<|AA 0)<|mI 1)<|mJ 1 AE)
def JI:kL->Option Ru:=AZ 2 2 R9
abbrev NB:=fA 2 2 PC JI
abbrev zcb:Gm:=gA PC 1 [("unit_of",cE)] ["len"]
theorem zcp:Ck zcb NB PC R9:={}
def Qd(ks:kF)(g:ks.length<=200)(b:Int):JI [.lst<|ks.map T.int,.int b]=↑(.ok<|.int<|b * ((ks.length:Int)+2)):=by
 have f:=Cm ks;have d:=Cq ks;have e:=uo_ok (m:=ks.length+1) (b:=b)<|by lia
 have a:(((ks.map T.int).length:Int)+1)=((ks.length+1:Nat):Int):=by simp_all
 have c:(((ks.length+1:Nat):Int)+1)=(ks.length:Int)+2:=by lia
 rw[c]at e;unfold JI R9
 simp![f,d,a,e]
abbrev P0:Stmt:=AK 63
def Rt:AG:=
 (AF (AO (AM G6<|mJ 0<|mJ 1<|mJ 2 AE)<|AD 4)
 (AQ<|AM Hw<|AB (m2 Aj (m1 BC<|AA 1)<|mI 1)<|AB (AM N7<|mJ 4<|AB (AM JI<|mJ 1<|mJ 3 AE) AE) AE))
def Fi:kL->Option Ru:=AZ 4 5 Rt
abbrev Te:=fA 8 4 P0 Fi
abbrev zba:Gm:=gA P0 7 [("road_bounds",T9),("least_values",cX),("limits_of",cW),("road_unit",NB)] ["len"]
theorem zbj:Ck zba Te P0 Rt:={}
def EF(M:Mc)(l:kI)(g:kL)(b:Int):Option<|Nat->Int:=Dv.tn ((Bl M l<|g.map<|A2 M.ws).map (E6<|b * ((l.length:Int)+2))) (l.length+2) λϊ=>0
def Gj(M:Mc)(g:kL)(b:Int):Option (kI)->Ru
 |some l=>.ok (KJ (l.length+2)<|EF M l g b)|none=>.exc "NoRoad"
def Zv{M:Mc}(h:McOk M)(s:Sh1 M)(ks:kF){g:kL}(j:BD M.ws BU g)(gl:g.length<=100){b:Int}(G:0<b)(i:b<=10 ^ 12):Fi [Al M,.lst<|ks.map T.int,.lst g,.int b]=↑(Gj M g b<|DQ M ks):=by
 have sm:=FC h;have p:=CW _ sm;have t:=Cm ks;have o:=Cq ks;have k:=j.sh;have n:=AJ _ k;have c:=XJ h s ks j gl;unfold Fi Rt;cases e:DQ M ks with
 |none=>
  rw[e]at c;have a:G6 [Al M,.lst<|ks.map T.int,.lst g]=↑(.exc "NoRoad"):=c;change ks.map T.int=KT
  simp![t,o,k,n,sm,p,a,Gj]
 |some l=>
  rw[e]at c;let(q,r,A):=HY e;have a:G6 [Al M,.lst<|ks.map T.int,.lst g]=↑(.ok<|.own<|(Bl M l<|g.map<|A2 M.ws).map DN):=c;have v:=Qd ks A b
  have C:DJ (b * ((ks.length:Int)+2))=true:=by
   have:b * ((ks.length:Int)+2)<=10 ^ 12 * 202:=Ś i (by lia) (by lia)<|by decide
   have:0<=b * ((ks.length:Int)+2):=Int.mul_nonneg (by lia)<|by lia
   exact Cn (by lia)<|by lia
  have H:=zk1 s q (by lia) (g:=g.map<|A2 M.ws) (by rw[Á];exact gl)
  have w:=lo_ok C (Bl M l<|g.map<|A2 M.ws)<|by lia
  have B:=Qv h q j
  have z:=zpc (m:=ks.length+1) (by lia) (L:=(Bl M l<|g.map<|A2 M.ws).map (E6<|b * ((ks.length:Int)+2))) (λx D=>by
   let(y,E,rfl):=Ó.mp D;have:=B y E;rw[r]at this;exact this)
  have sb:=FG<|Bl M l<|g.map<|A2 M.ws;have d:=Fd<|Bl M l<|g.map<|A2 M.ws;have F:=FG<|(Bl M l<|g.map<|A2 M.ws).map (E6<|b * ((ks.length:Int)+2));have f:=Fd<|(Bl M l<|g.map<|A2 M.ws).map (E6<|b * ((ks.length:Int)+2));have en:(((ks.map T.int).length:Int)+1)=((ks.length+1:Nat):Int):=by rw[Á];lia
  rw[show Gj M g b ↑l=.ok (KJ (ks.length+2)<|Dv.tn ((Bl M l<|g.map<|A2 M.ws).map (E6<|b * ((ks.length:Int)+2))) (ks.length+2) λϊ=>0) by unfold Gj EF;erw[r]]
  change ((Bl M l<|g.map<|A2 M.ws).map (E6<|b * ((ks.length:Int)+2)))=L2;change Bl M l (g.map<|A2 M.ws)=L1;change L2.map DN=LT2;change L1.map DN=LT1;change ks.map T.int=KT;change b * ((ks.length:Int)+2)=u
  simp![t,o,k,n,sm,p,a,sb,d,en,v,w,F,f,z]
abbrev Oy:Stmt:=AK 64
def UU:AI:=
 (AM Ng<|AB (m2 EI (AA 1)<|AA 0)<|mJ 2 AE)
def R6:AG:=
 (AF (AO (AM Fi<|mJ 0<|mJ 1<|mJ 2<|mJ 3 AE)<|AD 4)
 (AF (Aa (m2 (CM false) (AA 4)<|mC .non) (AQ<|mC .non) A6)
 (AF (AO (AM JI<|mJ 1<|mJ 3 AE)<|AD 5)
 (AF (AO (BG 2 [5] (HB<|mJ 4<|AB (DV (FD (AA 4) (↑(mI 1)) none)<|F7 (AA 4) (↑(mI 1)) none) AE) (An 2<|AL (AD 0)<|AL (AD 1) Ao) (mC<|.bl true) UU)<|AD 6)
 (AQ<|KG (AA 6)<|m2 Aj (AA 1)<|BJ<|Am (mC .non) AE)))))
def JH:kL->Option Ru:=AZ 4 7 R6
abbrev cH:=fA 9 4 Oy JH
abbrev zfn:Gm:=gA Oy 8 [("least_times",Te),("road_unit",NB),("fraction",dF)] ["zip","list"]
theorem zg2:Ck zfn cH Oy R6:={}
def Ed(v:Nat->Int)(u:Int)(i:Nat):T:=fr (Zm.lt (v (i+1) - v i) u)<|Zm.lb (v (i+1) - v i) u
def Lu(ks:kF)(v:Nat->Int)(u:Int):kL:=DO (mT (ks.length+1)<|Ed v u)<|ks.map T.int++[.non]
def IQ(ks:kF)(u:Int):Option (Nat->Int)->T
 |some v=>.own (Lu ks v u)|none=>.non
def MI(M:Mc)(ks:kF)(g:kL)(b:Int):Option (kI)->Ru
 |some l=>.ok (IQ ks (b * ((ks.length:Int)+2))<|EF M l g b)|none=>.exc "NoRoad"
def zqb{n a:Nat}{g:Nat->T}:B0 (mT (n+a) g) (↑(a:Int)) none=mT n λi=>g<|i+a:=by
 unfold B0
 have b:HT.sIx (mT (n+a) g).length 0 (↑(a:Int))=a:=by
  rw[BO];simp[HT.sIx]
  lia
 have c:HT.sIx (mT (n+a) g).length (mT (n+a) g).length none=n+a:=by rw[BO];rfl
 rw[b,c];refine EC (by simp[BO]) λi d=>?_
 rw[ũ (by lia),Ĺ,EB (by lia),Ņ]
def zgq(n:Nat)(v:Nat->Int):DO (iT (n+1) v) (mT n λi=>.int<|v<|i+1)=mT n λi=>.tup [.int<|v i,.int<|v<|i+1]:=by
 refine EC (by simp[DO,BO]) λi a=>?_
 unfold DO;rw[ő,EB (show i<n+1 by lia),EB a]
def znl{M:Mc}(h:McOk M)(s:Sh1 M)(ks:kF){g:kL}(A:BD M.ws BU g)(gl:g.length<=100){b:Int}(z:0<b)(j:b<=10 ^ 12):JH [Al M,.lst<|ks.map T.int,.lst g,.int b]=↑(MI M ks g b<|DQ M ks):=by
 have sm:=FC h;have q:=CW _ sm;have m:=Cm ks;have p:=Cq ks;have k:=A.sh;have o:=AJ _ k;have d:=Zv h s ks A gl z j;unfold JH R6;cases e:DQ M ks with
 |none=>
  rw[e]at d;have c:Fi [Al M,.lst<|ks.map T.int,.lst g,.int b]=↑(.exc "NoRoad"):=d;change ks.map T.int=KT
  simp![m,p,k,o,sm,q,c,MI]
 |some l=>
  rw[e]at d;let(V,P,O):=HY e;have G:=Qd ks O b;have R:0<b * ((ks.length:Int)+2):=Ė z<|by lia
  have W:b * ((ks.length:Int)+2)<=10 ^ 12 * 202:=Ś j (by lia) (by lia)<|by decide
  rw[show Gj M g b ↑l=.ok (KJ (ks.length+2)<|EF M l g b) by unfold Gj;erw[P]]at d
  rw[show MI M ks g b ↑l=.ok (IQ ks (b * ((ks.length:Int)+2))<|EF M l g b) from rfl];cases r:EF M l g b with
  |none=>
   rw[r]at d;have c:Fi [Al M,.lst<|ks.map T.int,.lst g,.int b]=↑(.ok .non):=d;change ks.map T.int=KT
   simp![m,p,k,o,sm,q,c,IQ]
  |some v=>
   rw[r]at d;have c:Fi [Al M,.lst<|ks.map T.int,.lst g,.int b]=↑(.ok<|.own<|iT (ks.length+2) v):=d;change b * ((ks.length:Int)+2)=u;have F:B0 (iT (ks.length+2) v) ↑1 none=mT (ks.length+1) λi=>.int<|v<|i+1:=zqb (n:=ks.length+1) (a:=1) (g:=λi=>T.int<|v i)
   have S:=zgq (ks.length+1) v
   have Q:=Fe (n:=ks.length+1) (me:=UU) (x:=none) (y:=none) (cs:=[↑(.int u)]) (u:=λi=>.int<|v i) (w:=λi=>.int<|v<|i+1) (f:=Ed v u) λi U=>by
    have N:=fr_ok (t:=v (i+1) - v i) R<|by lia
    unfold UU Ed
    simp![N]
   have C:A4 (iT (ks.length+2) v)=true:=Fm _;have I:=AJ _ C;have D:A4 (mT (ks.length+1) λi=>T.int<|v<|i+1)=true:=Fm _
   have J:=AJ _ D;have E:A4 (mT (ks.length+1)<|Ed v u)=true:=Dd (L:=List.range<|ks.length+1) (f:=Ed v u) λϊ ϊ=>rfl
   have K:=AJ _ E;have l1:(mT (ks.length+1) λi=>T.tup [.int<|v i,.int<|v<|i+1]).length<=100000:=by rw[BO];lia
   have l2:(ks.map T.int).length+1<=100000:=by rw[Á];lia
   have B:A4 (ks.map T.int++[.non])=true:=by
    rw[De,List.all_append,<- De,m]
    rfl
   have H:=AJ _ B;rw[show IQ ks u ↑v=.own (DO (mT (ks.length+1)<|Ed v u)<|ks.map T.int++[.non]) from rfl];change iT (ks.length+2) v=VT;change (mT (ks.length+1) λi=>T.int<|v<|i+1)=UT
   change (mT (ks.length+1) λi=>T.tup [.int<|v i,.int<|v<|i+1])=PT
   change mT (ks.length+1) (Ed v u)=WT;change ks.map T.int=KT
   simp![m,p,k,o,sm,q,c,C,I,G,F,D,J,S,Q,l1,E,K,l2,B,H]
abbrev Ox:Stmt:=AK 65
def R5:AG:=
 (AF (AO (AM Fi<|mJ 0<|mJ 1<|mJ 2<|AB (mI 1) AE)<|AD 3)
 (AF (Aa (m2 (CM false) (AA 3)<|mC .non) (AQ<|mC .non) A6)
 (AF (AO (AM JI<|mJ 1<|AB (mI 1) AE)<|AD 4)
 (AQ<|BN<|AB (m2 BX (AH (AA 3)<|m1 E1<|mI 1)<|AA 4)<|AB (m2 Au (m2 Aq (AH (AA 3)<|m1 E1<|mI 1)<|AA 4)<|mI 0) AE))))
def Kz:kL->Option Ru:=AZ 3 5 R5
abbrev cG:=fA 9 3 Ox Kz
abbrev ze7:Gm:=gA Ox 8 [("least_times",Te),("road_unit",NB)] []
theorem zek:Ck ze7 cG Ox R5:={}
def II(n:Nat)(u:Int):Option (Nat->Int)->T
 |some v=>.tup [.int<|(v n).fdiv u,.bl<|(v n).fmod u == 0]|none=>.non
def Jl(M:Mc)(g:kL):Option (kI)->Ru
 |some l=>.ok (II (l.length+1) (1 * ((l.length:Int)+2))<|EF M l g 1)|none=>.exc "NoRoad"
def sn_ok{M:Mc}(h:McOk M)(s:Sh1 M)(ks:kF){g:kL}(n:BD M.ws BU g)(gl:g.length<=100):Kz [Al M,.lst<|ks.map T.int,.lst g]=↑(Jl M g<|DQ M ks):=by
 have sm:=FC h;have j:=CW _ sm;have k:=Cm ks;have i:=Cq ks;have d:=n.sh;have f:=AJ _ d;have c:=Zv h s ks n gl (b:=1) (by decide)<|by decide
 unfold Kz R5;cases e:DQ M ks with
 |none=>
  rw[e]at c;have a:Fi [Al M,.lst<|ks.map T.int,.lst g,.int 1]=↑(.exc "NoRoad"):=c;change ks.map T.int=KT
  simp![k,i,d,f,sm,j,a,Jl]
 |some l=>
  rw[e]at c;let(y,o,w):=HY e;have r:=Qd ks w 1;rw[show Gj M g 1 ↑l=.ok (KJ (ks.length+2)<|EF M l g 1) by unfold Gj;erw[o]]at c
  rw[show Jl M g ↑l=.ok (II (ks.length+1) (1 * ((ks.length:Int)+2))<|EF M l g 1) by unfold Jl;erw[o]]
  have un:((1 * ((ks.length:Int)+2))=0)=False:=Ċ<|by lia
  have x:Bd (1 * ((ks.length:Int)+2))=true:=Bv (by lia)<|by lia
  cases m:EF M l g 1 with
  |none=>
   rw[m]at c;have a:Fi [Al M,.lst<|ks.map T.int,.lst g,.int 1]=↑(.ok .non):=c;change ks.map T.int=KT
   simp![k,i,d,f,sm,j,a,II]
  |some v=>
   rw[m]at c;have a:Fi [Al M,.lst<|ks.map T.int,.lst g,.int 1]=↑(.ok<|.own<|iT (ks.length+2) v):=c;have p:A4 (iT (ks.length+2) v)=true:=Fm _;have t:=AJ _ p
   have q:AW (iT (ks.length+2) v) (-1)=↑(.int<|v<|ks.length+1):=Um (by
    rw[List.getLast?_eq_getElem?,BO];exact EB<|by lia)
   rw[show II (ks.length+1) (1 * ((ks.length:Int)+2)) ↑v=.tup [.int<|(v<|ks.length+1).fdiv (1 * ((ks.length:Int)+2)),.bl<|(v<|ks.length+1).fmod (1 * ((ks.length:Int)+2)) == 0] from rfl];change iT (ks.length+2) v=VT;change ks.map T.int=KT;change (1 * ((ks.length:Int)+2))=u
   simp![k,i,d,f,sm,j,a,p,t,r,q,un,x,Cc]
abbrev Ow:Stmt:=AK 66
def RZ:AG:=
 (AQ<|AM JH<|mJ 0<|mJ 1<|mJ 2<|AB (AH (AA 3)<|mI 1) AE)
def Ky:kL->Option Ru:=AZ 4 4 RZ
abbrev cF:=fA 10 4 Ow Ky
abbrev zb7:Gm:=gA Ow 9 [("run_by",cH)] []
theorem zbg:Ck zb7 cF Ow RZ:={}
def zn3{M:Mc}(h:McOk M){ks:kF}{G:T}(d:G.sh=true)(a b:Int):Ky [Al M,.lst<|ks.map T.int,G,fr a b]=JH [Al M,.lst<|ks.map T.int,G,.int b]:=by
 have sm:=FC h;have g:=CW _ sm;have i:=Cm ks;have f:=Cq ks;unfold Ky RZ;change ks.map T.int=KT;generalize e:JH [Al M,.lst KT,G,.int b]=r
 rcases r with _|⟨t⟩|⟨c⟩
 all_goals simp![i,f,sm,g,e,d,CW _ d]
abbrev PB:Stmt:=AK 61
def UW:AI:=
 (mC .non)
def Kn:AI:=
 (BG 1 [] (CN<|mJ 1 AE) (AD 0) (mC<|.bl true) UW)
def ON:AG:=
 (Jf 5 (AA 6) (AA 7)<|AM JK<|AB (AH (AH (AA 5)<|AA 6)<|AA 7)<|mJ 8 AE)
def R8:AG:=
 (AF (AO (AM G6<|mJ 0<|mJ 1<|mJ 2 AE)<|AD 3)
 (AF (AO (m2 Aj (m1 BC<|AA 1)<|mI 2)<|AD 4)
 (AF (Ca 5<|BG 1 [4] (CN<|mJ 4 AE) (AD 0) (mC<|.bl true) Kn)
 (AF (B5 (Ax<|AA 3) (An 3<|AL (AD 6)<|AL (AD 7)<|AL (AD 8) Ao) ON)
 (AF (Eg 5)<|AQ<|AM Hv<|mJ 5 AE)))))
def LA:kL->Option Ru:=AZ 3 9 R8
abbrev cJ:=fA 8 3 PB LA
abbrev zca:Gm:=gA PB 7 [("road_bounds",T9),("narrower",Tc),("narrowest",cU)] ["len","range"] ["rows"]
theorem zco:Ck zca cJ PB R8:={}
abbrev oZ(n:Nat)(f:Db.Z):kL:=mT n λi=>.own<|mT n λj=>bT<|f i j
def zl4{n:Nat}{f:Db.Z}{a b:Nat}{c:Db.B}:(oZ n f).set a (.own<|(mT n λj=>bT<|f a j).set b (bT c))=oZ n λi j=>if i=a/\j=b then c else f i j:=by
 rw[Ie,Ie];refine E4 λi d=>?_
 by_cases e:i=a
 .subst e;rw[if_pos rfl,E4 λj g=>?_]
  lia
 simp_all
def FQ(f:Db.Z)(x:Dv.Lim):Db.Z:=λi j=>if i=x.1/\j=x.2.1 then Db.mn (f x.1 x.2.1) ↑x.2.2 else f i j
def FO(f:Db.Z)(L:List Dv.Lim):Db.Z:=L.foldl FQ f
def TJ{n i:Nat}(h:i<n):CA n (i:Int)=↑i:=by unfold CA;simp;lia
def Wt{n:Nat}{a0 a1 a2 a3 a4:kH}:∀(L:List Dv.Lim) (f:Db.Z) (x6 x7 x8:kH),Dv.In n L ->
  ∃y6 y7 y8,Ak (An 3<|AL (AD 6)<|AL (AD 7)<|AL (AD 8) Ao) ON (L.map BF) [a0,a1,a2,a3,a4,↑(.own<|oZ n f),x6,x7,x8]=↑(.nx [a0,a1,a2,a3,a4,↑(.own<|oZ n<|FO f L),y6,y7,y8])
 |[],f,x6,x7,x8,ϊ=>{(x6),x7,x8,rfl}|(i,j,c)::L,f,x6,x7,x8,d=>by
  let(g,h):=d (i,j,c) (Í ..);let(y6,y7,y8,e):=Wt L (FQ f (i,j,c)) (↑(.int (i:Nat))) (↑(.int (j:Nat))) (↑(.int c)) λx m=>d x<|Ê _ m
  refine{y6,y7,y8,(Fw (τ1:=[a0,a1,a2,a3,a4,↑(.own<|oZ n f),↑(.int (i:Nat)),↑(.int (j:Nat)),↑(.int c)]) (by simp![]) ?_).trans e}
  have p:CA (oZ n f).length (i:Int)=↑i:=by rw[BO];exact TJ g
  have r:CA (mT n λj=>bT<|f i j).length (j:Int)=↑j:=by rw[BO];exact TJ h
  have g1:(oZ n f)[i]?=↑(.own<|mT n λj=>bT<|f i j):=EB g
  have a1:AW (oZ n f) (i:Int)=↑(.own<|mT n λj=>bT<|f i j):=C7 g1
  have a2:AW (mT n λj=>bT<|f i j) (j:Int)=↑(bT<|f i j):=CY h
  have nr:JK [bT<|f i j,.int c]=↑(.ok<|bT<|Db.mn (f i j) ↑c):=ZW (f i j) ↑c;have st:=zl4 (n:=n) (f:=f) (a:=i) (b:=j) (c:=Db.mn (f i j) ↑c);rw[show oZ n (FQ f (i,j,c))=oZ n λk l=>if k=i/\l=j then Db.mn (f i j) ↑c else f k l from rfl,<- st]
  change Db.mn (f i j) ↑c=o;change oZ n f=OT;change (mT n λj=>bT<|f i j)=RT
  change f i j=q;unfold ON;cases q<;>cases o<;>erw[g9,gY]at nr a2<;>simp![p,r,g1,a1,a2,nr,sr]
def Cw(M:Mc)(l:kI)(g:kL):Db.Z:=FO (λϊ ϊ=>none)<|Bl M l<|g.map<|A2 M.ws
def Jk(M:Mc)(g:kL):Option (kI)->Ru
 |some l=>.ok (oT (l.length+2)<|Ei (l.length+2)<|Cw M l g)|none=>.exc "NoRoad"
def rz_ok{M:Mc}(h:McOk M)(s:Sh1 M)(ks:kF){g:kL}(o:BD M.ws BU g)(gl:g.length<=100):LA [Al M,.lst<|ks.map T.int,.lst g]=↑(Jk M g<|DQ M ks):=by
 have sm:=FC h;have y:=CW _ sm;have E:=Cm ks;have w:=Cq ks;have t:=o.sh;have v:=AJ _ t;have d:=XJ h s ks o gl;unfold LA R8;cases e:DQ M ks with
 |none=>
  rw[e]at d;have a:G6 [Al M,.lst<|ks.map T.int,.lst g]=↑(.exc "NoRoad"):=d;change ks.map T.int=KT
  simp![E,w,t,v,sm,y,a,Jk]
 |some l=>
  rw[e]at d;let(G,B,I):=HY e;have a:G6 [Al M,.lst<|ks.map T.int,.lst g]=↑(.ok<|.own<|(Bl M l<|g.map<|A2 M.ws).map BF):=d;have sb:=Ml<|Bl M l<|g.map<|A2 M.ws;have m:=Ik<|Bl M l<|g.map<|A2 M.ws;have z:=Qv h G o;rw[B]at z;rw[show Jk M g ↑l=.ok (oT (ks.length+2)<|Ei (ks.length+2)<|Cw M l g) by unfold Jk;erw[B]]
  have b:=zp3 (n:=ks.length+2) (by lia)<|Cw M l g
  have F:(.lst (BQ<|oZ (ks.length+2)<|Cw M l g):T)=zT (ks.length+2) (Cw M l g):=by
   rw[Lz];refine congrArg T.lst<|E4 λi A=>?_
   show T.lst (BQ<|mT (ks.length+2) λj=>bT<|Cw M l g i j)=_
   rw[AJ _<|IL λϊ=>Ul _]
  have en:(((ks.map T.int).length:Int)+2)=((ks.length+2:Nat):Int):=by rw[Á];lia
  have ok:CI ((ks.length+2:Nat):Int)=true:=EZ<|by lia
  have tn:(((ks.length+2:Nat):Int)).toNat=ks.length+2:=by lia
  have D:Br 0 (ks.length+2)=mT (ks.length+2) λi=>.int (i:Int):=Ci
  have C:(mT (ks.length+2) λi=>T.int (i:Int)).length<=100000:=by rw[BO];lia
  have q:Bi (AD 0) (mC<|.bl true) UW (mT (ks.length+2) λi=>.int (i:Int)) [none]=↑(mT (ks.length+2) λj=>bT none):=EH (n:=ks.length+2) (me:=UW) (x:=none) (cs:=[]) (g:=λi=>.int (i:Int)) (f:=λϊ=>bT none) λi A=>rfl
  have p:∀i:Nat,Kn [↑(.int (i:Int)),↑(.int ((ks.length+2:Nat):Int))]=↑(.v (.own<|mT (ks.length+2) λj=>bT none) false):=λi=>by
   change (mT (ks.length+2) λj=>bT none)=NT
   change (mT (ks.length+2) λi=>T.int (i:Int))=IT
   unfold Kn
   simp![ok,tn,D,q,C]
  have r:Bi (AD 0) (mC<|.bl true) Kn (mT (ks.length+2) λi=>.int (i:Int)) [none,↑(.int ((ks.length+2:Nat):Int))]=↑(oZ (ks.length+2) λϊ ϊ=>none):=EH (n:=ks.length+2) (me:=Kn) (x:=none) (cs:=[↑(.int ((ks.length+2:Nat):Int))]) (g:=λi=>.int (i:Int)) (f:=λϊ=>.own<|mT (ks.length+2) λj=>bT none) λi A=>p i
  let(J,K,L,u):=Wt (n:=ks.length+2) (a0:=↑(Al M)) (a1:=↑(.lst<|ks.map T.int)) (a2:=↑(.lst g)) (a3:=↑(.lst<|(Bl M l<|g.map<|A2 M.ws).map BF)) (a4:=↑(.int ((ks.length+2:Nat):Int))) (Bl M l<|g.map<|A2 M.ws) (λϊ ϊ=>none) none none none z
  rw[show FO (λϊ ϊ=>none) (Bl M l<|g.map<|A2 M.ws)=Cw M l g from rfl]at u
  rw[<- F]at b;have c:=GG<|oZ (ks.length+2)<|Cw M l g;have k:=AJ _ c;have H:=Xq (ks.length+2)<|Ei (ks.length+2)<|Cw M l g;change oT (ks.length+2) (Ei (ks.length+2)<|Cw M l g)=OT;change oZ (ks.length+2) (Cw M l g)=ZT;change (oZ (ks.length+2) λϊ ϊ=>none)=Z0
  change (mT (ks.length+2) λi=>T.int (i:Int))=IT
  change (Bl M l<|g.map<|A2 M.ws).map BF=BT;change ks.map T.int=KT
  simp![E,w,t,v,sm,y,a,sb,m,en,ok,tn,D,r,C,u,c,k,b,H]
abbrev QJ:Stmt:=AK 85
def TR:AI:=
 (Bx (m2 Au (AH (AH (AA 1)<|AA 0)<|mI 0)<|AA 2)<|m2 Au (AH (AH (AA 1)<|AA 0)<|mI 4)<|mC<|.str "")
def Ud:AI:=
 (AA 0)
def L9:AG:=
 (AF (AO (BG 1 [7,2] (CN<|AB (m1 BC<|AA 7) AE) (AD 0) TR Ud)<|AD 8)
 (AF (Aa (m2 GZ (AA 8)<|BJ AE) MG A6)
 (AF (Cv 3<|AH (AA 8)<|m2 Aq (AA 4)<|m1 BC<|AA 8)
 (AO (AH (AH (AA 7)<|AH (AA 3)<|m1 E1<|mI 1)<|mI 1)<|AD 2))))
def S9:AG:=
 (AF (AO (AA 0)<|An 3<|AL (AD 5)<|AL (AD 6)<|AL (AD 7) Ao)
 (AF (AO (mI 0)<|AD 2)
 (AF (Ca 3<|BJ AE)
 (AF (B5 (Ax<|AA 1) (AD 4) L9)
 (AF (Eg 3)<|AQ<|BN<|mJ 3<|mJ 2 AE)))))
def Np:kL->Option Ru:=AZ 2 9 S9
abbrev d9:=fA 1 2 QJ Np
abbrev zib:Gm:=gA QJ 0 [] ["range","len"] ["_law_road_here"] (N:=["_law_spec","_law_cells","_law_room","_law_road_here","_law_cell","_law_watches","_law_rooms","_law_doors","_law_ways"])
theorem zis:Ck zib d9 QJ S9:={}
def Ai(ws:kE)(rs:List<|Str×kL)(dd:List Sd):Mc:={ws,rs,dd.map<|Dl rs}
structure SpK(ws:kE)(rs:List<|Str×kL)(dd:List Sd):Prop where
 sp:SpOk ws rs dd
 mc:McOk (Ai ws rs dd)
 s1:Sh1 (Ai ws rs dd)
 z:∀d∈dd,Ut d.z
 w2:ws.length<=2
 g2:∀d∈dd,d.g.length<=2
 l2:∀r∈rs,r.2.length<=2
def zq8{ws:kE}{rs:List<|Str×kL}{dd:List Sd}{sz:Nat}(D:DrwOk ws rs dd sz):SpK ws rs dd:=by
 have i:RsOk ws rs:={D.r1,by have:=D.r4;lia,λr a=>by
  have:=D.rn r a;have:=D.sz
  lia,D.rd,λr a=>{(D.rl r a).1,by have:=(D.rl r a).2;lia}}
 have c:∀d∈dd,DrOk ws (rs.map (·.1))<|Dl rs d:=λd hd=>by
  let(g,h,j,o,k,l,p,m):=D.d d hd;refine{?_,?_,j,by show d.g.length<=1000;lia,k,l,by show d.n.length<=100;lia,?_}
  .show(rs.getD d.b (Str.empty,[])).1∈_;rw[Ú,Â g];exact Ŕ<|Ò g
  .show(rs.getD d.e (Str.empty,[])).1∈_;rw[Ú,Â h];exact Ŕ<|Ò h
  .rcases m with e|e
   .exact .inl e
   .exact .inr<|.inl e
 have wl:=D.wl;have dl:=D.dl;refine{{i,λd hd=>{(D.d d hd).1,(D.d d hd).2.1},c,D.dl},{λx n=>.inr<|D.w x n,D.wd,by show ws.length<=7;lia,i,λd hd=>?_,by show(dd.map _).length<=200;rw[Á];lia},{λr a=>by have:=(D.rl r a).2;lia,λd hd=>?_},λd hd=>(D.d d hd).2.2.2.2.2.2.2,wl,λd hd=>(D.d d hd).2.2.2.1,λr a=>(D.rl r a).2}
 .let(f,b,rfl):=Ó.mp hd;exact c f b
 .let(f,b,rfl):=Ó.mp hd;have:=(D.d f b).2.2.2.1
  lia
def Ct(dd:List Sd)(r:Nat)(k:Int):Option Nat:=if 0<=k then (match dd[k.toNat]? with
 |some d=>if d.z=Str.empty/\d.b=r then ↑d.e else none
 |none=>none) else none
def C9(dd:List Sd):Nat->kF->Option Nat
 |r,[]=>↑r|r,k::a=>(Ct dd r k).bind λe=>C9 dd e a
def VY{dd:List Sd}:∀(ks:kF) (r:Nat) (js:kF),C9 dd r (ks++js)=(C9 dd r ks).bind λe=>C9 dd e js
 |[],r,js=>rfl|k::ks,r,js=>by
  show(Ct dd r k).bind (λe=>C9 dd e<|ks++js)=((Ct dd r k).bind λe=>C9 dd e ks).bind _
  cases Ct dd r k with
  |none=>rfl|some e=>exact VY ks e js
def BB(rs:List<|Str×kL)(r:Nat):Str:=(rs.getD r (Str.empty,[])).1
def zl6{rs:List<|Str×kL}(nd:(rs.map (·.1)).Nodup){i j:Nat}(b:i<rs.length)(c:j<rs.length)(e:BB rs i=BB rs j):i=j:=by
 unfold BB at e;have a:(rs.map (·.1))[i]'(by simp_all)=(rs.map (·.1))[j]'(by simp_all):=by simp_all
 exact(Ĩ nd).mp a
set_option tactic.hygienic true in
def IA{ws:kE}{rs:List<|Str×kL}{dd:List Sd}(h:SpK ws rs dd){r:Nat}{k:Int}{e:Nat}(q:Ct dd r k=↑e):e<rs.length/\0<=k/\k<(dd.length:Int)/\∃d,dd[k.toNat]?=↑d/\d.z=Str.empty/\d.b=r/\d.e=e:=by
 unfold Ct at q;split at q
 .split at q
  .rename_i b _ d hd;split at q
   .rename_i a;cases q;have:=(Ñ.mp hd).1;exact{(h.sp.b d<|ç hd).2,b,by lia,d,hd,a.1,a.2,rfl}
   .cases q
  .cases q
 .cases q
def znr{ws:kE}{rs:List<|Str×kL}{dd:List Sd}(h:SpK ws rs dd){r:Nat}(e:r<rs.length)(k:Int):(Et (Ai ws rs dd) (BB rs r) k).map (·.e)=(Ct dd r k).map (BB rs):=by
 unfold Et Ct
 by_cases b:0<=k
 .rw[if_pos b,if_pos b];show Option.map _ (match (dd.map<|Dl rs)[k.toNat]? with|some d=>_|none=>_)=_
  rw[Ë];cases hd:dd[k.toNat]? with
  |none=>rfl|some d=>
   have c:=h.sp.b d<|ç hd;show Option.map (·.e) (if d.z=Str.empty/\BB rs d.b=BB rs r then ↑(Dl rs d) else none)=_
   by_cases a:d.z=Str.empty/\d.b=r
   .rw[if_pos {a.1,by rw[a.2]}]
    erw[if_pos a]
    rfl
   .rw[if_neg λz=>a {z.1,zl6 h.sp.r.nd c.1 e z.2}]
    erw[if_neg a]
    rfl
 .rw[if_neg b,if_neg b]
  rfl
def XH{ws:kE}{rs:List<|Str×kL}{dd:List Sd}(h:SpK ws rs dd):∀(ks:kF) {r:Nat},r<rs.length->(Cy (Ai ws rs dd) (BB rs r) ks).map (λl=>(l.getLast?.map (·.e)).getD (BB rs r))=(C9 dd r ks).map (BB rs)
 |[],r,ϊ=>rfl|k::ks,r,c=>by
  rw[Jo];show _=Option.map _ ((Ct dd r k).bind λe=>C9 dd e ks)
  have a:=znr h c k;cases q:Ct dd r k with
  |none=>simp_all|some e=>
   rw[q]at a;cases f:Et (Ai ws rs dd) (BB rs r) k with
   |none=>simp_all|some d=>
    rw[f]at a;have b:d.e=BB rs e:=Ý a;have i:=XH h ks (IA h q).1;rw[<- b]at i;erw[ľ];rw[<- i,Option.map_map];refine congrFun (congrArg Option.map<|funext λl=>?_) _
    show((d::l).getLast?.map (·.e)).getD (BB rs r)=(l.getLast?.map (·.e)).getD d.e
    rw[List.getLast?_cons];cases l.getLast?<;>rfl
def Qt{ws:kE}{rs:List<|Str×kL}{dd:List Sd}(h:SpK ws rs dd):Fq (Ai ws rs dd)=BB rs 0:=by
 have a:=h.sp.r.l1;unfold Fq BB;show((rs.map (·.1))[0]?).getD _=_;rw[Ë,Ú,Â<|by lia]
 rfl
def LZ(dd:List Sd)(ks:kF):Option Nat:=if ks.length<=200 then C9 dd 0 ks else none
def znq{ws:kE}{rs:List<|Str×kL}{dd:List Sd}(h:SpK ws rs dd)(ks:kF):(DQ (Ai ws rs dd) ks).map (Cr<|Ai ws rs dd)=(LZ dd ks).map (BB rs):=by
 unfold DQ LZ
 by_cases a:ks.length<=200
 .rw[if_pos a,if_pos a,Qt h,<- XH h ks (by have:=h.sp.r.l1;lia)]
  refine congrFun (congrArg Option.map<|funext λl=>?_) _
  unfold Cr;rw[Qt h];cases l.getLast?<;>rfl
 .rw[if_neg a,if_neg a]
  rfl
def zm2:GZ (.lst []) (.lst [])=↑(.bl true):=by ext
def Ec(dd:List Sd)(r:Nat):kG:=(List.range dd.length).filter λk=>(Ct dd r (k:Int)).isSome
def Ot{dd:List Sd}{k:Nat}(hk:k<dd.length):AW (dd.map BK) (k:Int)=↑(BK dd[k]):=C7<|by simp_all
def VZ{dd:List Sd}{k r:Nat}(hk:k<dd.length):Ct dd r (k:Int)=if dd[k].z=Str.empty/\dd[k].b=r then ↑dd[k].e else none:=by
 unfold Ct
 simp_all
def zjf{ws:kE}{rs:List<|Str×kL}{dd:List Sd}(h:SpK ws rs dd)(r:Nat){x:kH}:Bi (AD 0) TR Ud (Br 0 dd.length) [x,↑(.lst<|dd.map BK),↑(.int (r:Int))]=↑((Ec dd r).map λk:Nat=>T.int (k:Int)):=by
 rw[show Br 0 dd.length=mT dd.length λi=>.int (i:Int) from Ci]
 refine Sy (f:=λk:Nat=>T.int (k:Int)) (p:=λk=>(Ct dd r (k:Int)).isSome) λk hk=>?_
 have a:=á.mp hk;have sd:=h.sp.sd;have m:=Ot a;have gs:A4 dd[k].g=true:=(h.sp.d _<|Ò a).g.sh
 have o:PyData.strOk dd[k].z=true:=by
  rcases h.z _ (Ò a) with e|e<;>rw[e]<;>decide +kernel
 have c:=Kg o UG
 have j:∀{x y z v w:T} {l:kL},AW (x::y::z::v::w::l) (4:Int)=↑w:=by
  intro x y z v w l;have:AW (x::y::z::v::w::l) ((4:Nat):Int)=↑w:=C7 rfl;exact this
 rw[VZ a];change dd[k]=d;change dd.map BK=DT;unfold TR Ud;refine{{false,?_},by simp![]}
 by_cases n:d.b=r
 .have b:((d.b:Int) == (r:Int))=true:=by rw[n];simp
  by_cases g:d.z=Str.empty
  .rw[É (show d.z=Str.ofString "" from g)]at c;rw[if_pos {(g),n}]
   simp![sd,m,Cc,b,j,c,gs,AS,AV,AJ _ gs,ž]
  .rw[Ù (show ¬ d.z=Str.ofString "" from g)]at c;rw[if_neg λz=>g z.1]
   simp![sd,m,Cc,b,j,c,gs,AS,AV,AJ _ gs,Option.isSome_none]
 .have b:((d.b:Int) == (r:Int))=false:=by rw[Ĳ];lia
  rw[if_neg λz=>n z.2]
  simp![sd,m,Cc,b,j,gs,AS,AV,AJ _ gs,Option.isSome_none]
def fg_bk{b:T->AN->Option AN}{body:AG}{t:T}{ts:kL}{Y τ1 τ2:AN}(a:b t Y=↑τ1)(c:body τ1=↑(.bk τ2)):Ak b body (t::ts) Y=↑(.nx τ2):=by
 conv=>lhs;unfold Ak
 lia
def Zy{ws:kE}{rs:List<|Str×kL}{dd:List Sd}(h:SpK ws rs dd){a0 a1 a5 a6:kH}:∀(cs:kF) (ks:kF) (r:Nat) (x4 x8:kH),C9 dd 0 ks=↑r->ks.length+cs.length<=1000 ->
  ∃(ks':kF) (r':Nat) (y4 y8:kH),Ak (AD 4) L9 (cs.map T.int) [a0,a1,↑(.int (r:Int)),↑(.own<|ks.map T.int),x4,a5,a6,↑(.lst<|dd.map BK),x8]=↑(.nx [a0,a1,↑(.int (r':Int)),↑(.own<|ks'.map T.int),y4,a5,a6,↑(.lst<|dd.map BK),y8])/\C9 dd 0 ks'=↑r'/\ks'.length<=ks.length+cs.length
 |[],ks,r,x4,x8,hk,ϊ=>{ks,r,x4,x8,rfl,hk,Æ _}|c::cs,ks,r,x4,x8,hk,A=>by
  rw[Ö]at A;have g:=zjf h r (x:=none);have sd:=h.sp.sd;have s:=AJ _ sd;have dl:=h.sp.l;have ok:CI (dd.length:Int)=true:=EZ<|by lia
  have v:(Br 0 dd.length).length<=100000:=by unfold Br;rw[Á,Ļ];lia
  have t:(dd.map BK).length=dd.length:=Á ..;rw[Ï];cases f:Ec dd r with
  |nil=>
   rw[f]at g;refine{ks,r,↑(.int c),↑(.lst []),fg_bk (τ1:=[a0,a1,↑(.int (r:Int)),↑(.own<|ks.map T.int),↑(.int c),a5,a6,↑(.lst<|dd.map BK),x8]) (by simp![]) ?_,hk,by lia}
   rw[ř]at g;have j:=zm2;change dd.map BK=DT;change ks.map T.int=KT;unfold L9
   simp![-GZ,sd,s,t,ok,ï,g,v,j]
  |cons G H=>
   let(k,p,q):=zp9 (Ec dd r) (by rw[f];simp) c
   have b:=Ŀ.mp p;have a:k<dd.length:=á.mp b.1;let(e,u):=Ŏ.mp b.2;have hd:=u.symm.trans<|VZ (r:=r) a
   have o:dd[k].e=e:=by
    split at hd
    .exact(Ý hd).symm
    .cases hd
   let(ks',r',y4,y8,B,C,D):=Zy h cs (ks++[(k:Int)]) e (↑(.int c)) (↑(.lst ((Ec dd r).map λk:Nat=>T.int (k:Int)))) (by
    rw[VY,hk];show(Ct dd r (k:Int)).bind _=_;rw[u]
    rfl) (by rw[à,Ķ];lia)
   refine{ks',r',y4,y8,(Fw (τ1:=[a0,a1,↑(.int (r:Int)),↑(.own<|ks.map T.int),↑(.int c),a5,a6,↑(.lst<|dd.map BK),x8]) (by simp![]) ?_).trans B,C,by rw[à,Ķ]at D;rw[Ö];lia}
   have i:AW ((Ec dd r).map λk:Nat=>T.int (k:Int)) (c.fmod ((Ec dd r).length:Int))=↑(.int (k:Int)):=NS (λk:Nat=>T.int (k:Int)) q
   have w:A4 ((Ec dd r).map λk:Nat=>T.int (k:Int))=true:=Dd λϊ ϊ=>rfl
   have m:=AJ _ w;have nl:((Ec dd r).length:Int)≠0:=zph (by rw[f];simp)
   have n:((Ec dd r).map λk:Nat=>T.int (k:Int)).length=(Ec dd r).length:=Á ..
   have j:GZ (.lst ((Ec dd r).map λk:Nat=>T.int (k:Int))) (.lst [])=↑(.bl false):=by rw[f];rfl
   have E:(ks.map T.int).length<100000:=by rw[Á];lia
   have y:AW (ks.map T.int++[.int (k:Int)]) (-1)=↑(.int (k:Int)):=Um<|by simp
   have z:=Ot a;have gs:A4 dd[k].g=true:=(h.sp.d _<|Ò a).g.sh;have l:(.int (dd[k].e:Int):T)=.int (e:Int):=by rw[o]
   rw[è];have F:=Cm ks;change dd[k]=d;change ((Ec dd r).map λk:Nat=>T.int (k:Int))=WT
   change dd.map BK=DT;change ks.map T.int=KT;change (Ec dd r).length=wl;unfold L9
   simp![-GZ,sd,s,t,ok,ï,g,v,j,w,m,n,nl,i,E,y,z,gs,AS,l,F]
def zpe{ws:kE}{rs:List<|Str×kL}{dd:List Sd}(h:SpK ws rs dd){cs:kF}(k:cs.length<=100):∃(ks:kF) (r:Nat),Np [Aw ws rs dd,.lst<|cs.map T.int]=↑(.ok<|.tup [.lst<|ks.map T.int,.int (r:Int)])/\C9 dd 0 ks=↑r/\ks.length<=cs.length:=by
 have sr:=Eh h.sp.r;have g:=AJ _ sr;have sd:=h.sp.sd;have d:=AJ _ sd;have i:=Cm cs;have c:=Cq cs;let(ks,r,l,m,e,a,b):=Zy h (a0:=↑(Aw ws rs dd)) (a1:=↑(.lst<|cs.map T.int)) (a5:=↑(.lst<|ws.map T.str)) (a6:=↑(Cb rs)) cs [] 0 none none rfl (by erw[Ď];lia)
 refine{ks,r,?_,a,by simpa using b}
 have j:=Cm ks;have f:=Cq ks;rw[ř,show((0:Nat):Int)=0 from rfl]at e;unfold Np S9
 simp![AV,AS,sr,g,sd,d,i,c,e,j,f]
abbrev QZ:Stmt:=AK 79
def J7:AI:=
 (m2 CJ (AA 1)<|mI 0)
def O4:AG:=
 (Jh 0 1<|mJ 1<|AB (m2 Aq (AA 0)<|AA 1) AE)
def Si:AG:=
 (AF (Fp J7 O4)
 (AQ<|AA 0))
def LO:kL->Option Ru:=AZ 2 2 Si
abbrev Tw:=fA 1 2 QZ LO
abbrev zdf:Gm:=gA QZ 0 [] []
theorem zdq:Ck zdf Tw QZ Si:={}
def aP(a:Int){b:Int}(q:0<b):LO [.int a,.int b]=↑(.ok<|.int<|Zm.gd a b):=by
 have d:=Wq (mc:=J7) (body:=O4)
  (λY=>∃(g l:Int),Y=[↑(.int g),↑(.int l)]/\Zm.gd g l=Zm.gd a b/\0<=l/\(l=0->0<g))
  (λY=>match Y with|[ϊ,↑(.int l)]=>l.natAbs|ϊ=>0)
  {_,_,rfl,rfl,by lia,λz=>by lia} (by
   rintro Y ⟨g,l,rfl,e,k,i⟩
   by_cases f:l=0
   .right;exact{false,by unfold J7;simp![E2,f]}
   .left;exact{false,by unfold J7;simp![E2];simp[f],[↑(.int l),↑(.int<|g.fmod l)],by unfold O4;simp![f],{_,_,rfl,Zm.gd_turn e,í g (by lia),λϊ=>by lia},Zm.fmod_less g f})
 let(m,j,(g,l,rfl,e,k,i),n,o):=d
 have c:l=0:=by
  have p:J7 [↑(.int g),↑(.int l)]=↑(.v (.bl<|!(l == 0)) false):=by rfl
  lia
 unfold LO Si;have h:=Zm.gd_end e c;have:=i c;rw[if_neg<|by lia]at h
 rw[<- h]
 simp![j]
abbrev QL:Stmt:=AK 80
def Sa:AG:=
 (AF (AO (m2 Aj (m2 B9 (AH (AA 0)<|mI 0)<|AH (AA 1)<|mI 1)<|m2 B9 (AH (AA 1)<|mI 0)<|AH (AA 0)<|mI 1)<|AD 2)
 (AF (AO (m2 B9 (AH (AA 0)<|mI 1)<|AH (AA 1)<|mI 1)<|AD 3)
 (AF (AO (AM LO<|mJ 2<|mJ 3 AE)<|AD 4)
 (AQ<|BN<|AB (m2 BX (AA 2)<|AA 4)<|AB (m2 BX (AA 3)<|AA 4) AE))))
def FN:kL->Option Ru:=AZ 2 5 Sa
abbrev Ka:=fA 2 2 QL FN
abbrev zic:Gm:=gA QL 1 [("_law_divisor",Tw)] []
theorem zit:Ck zic Ka QL Sa:={}
def Sq{t b u c:Int}(p:0<b)(r:0<c)(h:t * c=u * b):Zm.lt t b=Zm.lt u c/\Zm.lb t b=Zm.lb u c:=by
 have d:b≠0:=by lia
 have f:c≠0:=by lia
 have g1:=Zm.gd_low (t:=t) d;have g2:=Zm.gd_low (t:=u) f;have A:=Zm.lb_pos (t:=t) p;have B:=Zm.lb_pos (t:=u) r;have s:=Zm.gd_pos (a:=t) d;have v:=Zm.gd_pos (a:=u) f;have l:=Zm.lt_mul (t:=t) d;have m:=Zm.lb_mul (t:=t) d;have n:=Zm.lt_mul (t:=u) f;have o:=Zm.lb_mul (t:=u) f;change Zm.lt t b=x;change Zm.lb t b=y;change Zm.lt u c=z;change Zm.lb u c=w;change Zm.gd t b=g;change Zm.gd u c=k
 have e :=by
  have q :=by
   rw[<- l,<- m,<- n,<- o]at h
   calc (x * w) * (g * k)=x * g * (w * k):=by erw[ā,Ľ,Ă]
    _=z * k * (y * g):=h
    _=(z * y) * (g * k):=by erw[ā,Ľ,Ă]
  exact Int.eq_of_mul_eq_mul_right (Int.ne_of_gt<|Ė s v) q
 unfold Zm.gd at g1 g2;have g1:Int.gcd x y=1:=by lia
 have g2:Int.gcd z w=1:=by lia
 have i :=by
  have:y ∣ x * w:={z,by rw[e,Ă]}
  have:=Int.dvd_gcd_mul_iff_dvd_mul.mpr this;rw[Int.gcd_comm,g1]at this
  simpa using this
 have j :=by
  have:w ∣ z * y:={x,by rw[<- e,Ă]}
  have:=Int.dvd_gcd_mul_iff_dvd_mul.mpr this;rw[Int.gcd_comm,g2]at this
  simpa using this
 have C:y=w:=by
  have:=Int.le_of_dvd B i;have:=Int.le_of_dvd A j
  lia
 subst C;exact{Int.eq_of_mul_eq_mul_right (by lia) e,rfl}
abbrev C6(P v:Int):T:=fr (Zm.lt v P)<|Zm.lb v P
structure Bo(P:Int):Prop where
 p:0<P
 l:P<2 ^ 63
def Bo.s(h:Bo P):DJ P=true:=Cn (by have:=h.p;lia) (by have:=h.l;lia)
theorem Bo.lb(h:Bo P)(v:Int):Bo<|Zm.lb v P:={Zm.lb_pos h.p,by have:=Zm.lb_le (t:=v) h.p;have:=h.l;lia}
def K6{P:Int}(h:0<P):C6 P 0=fr 0 1:=by
 let(a,b):=Sq (t:=0) (b:=P) (u:=0) (c:=1) h (by decide)<|by simp
 unfold C6;rw[b]
 rfl
def aA{a b c d:Int}(e:Bo b)(hd:Bo d):FN [fr a b,fr c d]=↑(.ok<|fr (Zm.lt (a * d+c * b)<|b * d)<|Zm.lb (a * d+c * b)<|b * d):=by
 have f:0<b * d:=Ė e.p hd.p;have k:b * d<10 ^ 70:=Ħ (Ś (ĩ e.l) (ĩ hd.l) (ĩ hd.p)<|by lia)<|by lia
 have g:0<Zm.gd (a * d+c * b) (b * d):=Zm.gd_pos<|by lia
 have g1:Zm.gd (a * d+c * b) (b * d)<=b * d:=Zm.gd_le f;have gs:Bd (Zm.gd (a * d+c * b)<|b * d)=true:=Bv (ń (by lia:(-(10 ^ 70):Int)<0) g)<|Ħ g1 k
 have j:(Zm.gd (a * d+c * b) (b * d)≠0)=True:=eq_true<|by lia
 have m1:Be a d=true:=EA hd.s;have m2:Be c b=true:=EA e.s;have i:Be b d=true:=EA hd.s;have h:=aP (a * d+c * b) f;unfold FN Sa
 simp![m1,m2,i,h,gs,j]
 rfl
def So{P v w a b:Int}(h:Bo P)(d:Bo b)(e:a * P=w * b):FN [C6 P v,fr a b]=↑(.ok<|C6 P<|v+w):=by
 have l:=aA (a:=Zm.lt v P) (c:=a) (h.lb v) d;have f:P≠0:=by have:=h.p;lia
 have g:=Zm.lt_mul (t:=v) f;have i:=Zm.lb_mul (t:=v) f
 have j:Zm.lt v P * P=v * Zm.lb v P:=by
  calc Zm.lt v P * P=Zm.lt v P * (Zm.lb v P * Zm.gd v P):=by rw[i]
   _=(Zm.lt v P * Zm.gd v P) * Zm.lb v P:=by erw[ā,Ľ,Ă]
   _=v * Zm.lb v P:=by rw[g]
 have k:=Sq (t:=Zm.lt v P * b+a * Zm.lb v P) (b:=Zm.lb v P * b) (u:=v+w) (c:=P) (Ė (h.lb v).p d.p) h.p (by
  change Zm.lt v P=x;change Zm.lb v P=y
  calc (x * b+a * y) * P=(x * P) * b+(a * P) * y:=by lia
   _=(v * y) * b+(w * b) * y:=by rw[j,e]
   _=(v+w) * (y * b):=by lia)
 simp_all
abbrev QV:Stmt:=AK 78
def Ld:AG:=
 (AF (AO (AH (AA 2)<|Hf (AA 1)<|AA 3)<|An 2<|AL (AD 7)<|AL (AD 8) Ao)
 (AF (AO (m2 EI (AA 7)<|m2 B9 (AA 5)<|AA 8)<|AD 6)
 (AF (Aa (BE (Bx (m2 Au (AA 4)<|mC<|.str "<")<|m2 (BP λi j=>decide (j<=i)) (AA 6)<|mI 0)<|Bx (m2 Au (AA 4)<|mC<|.str "<=")<|m2 (BP λi j=>decide (j<i)) (AA 6)<|mI 0) (AQ<|mC<|.bl false) A6)
 (Aa (BE (Bx (m2 Au (AA 4)<|mC<|.str ">")<|m2 (BP λi j=>decide (i<=j)) (AA 6)<|mI 0)<|BE (Bx (m2 Au (AA 4)<|mC<|.str ">=")<|m2 (BP λi j=>decide (i<j)) (AA 6)<|mI 0)<|Bx (m2 Au (AA 4)<|mC<|.str "=")<|m2 CJ (AA 6)<|mI 0) (AQ<|mC<|.bl false) A6))))
def Me:AG:=
 (AF (B5 (Ax<|AA 0) (An 3<|AL (AD 3)<|AL (AD 4)<|AL (AD 5) Ao) Ld)
 (AQ<|mC<|.bl true))
def En:kL->Option Ru:=AZ 3 9 Me
abbrev Kb:=fA 1 3 QV En
abbrev zfu:Gm:=gA QV 0 [] [] (N:=["_law_looks","_law_watches","_law_values","_law_watch","_law_word","_law_number_here","_law_left","_law_top","_law_bottom"])
theorem zg9:Ck zfu Kb QV Me:={}
def UB{b:T->AN->Option AN}{body:AG}{t u:T}{ts:kL}{Y τ1:AN}(a:b t Y=↑τ1)(c:body τ1=↑(.rt u)):Ak b body (t::ts) Y=↑(.rt u):=by
 conv=>lhs;unfold Ak
 lia
def Qb{k n:Nat}{u:AG}{ts:kL}{t:T}(hk:ts.length=k)(h:u (ts.map some++List.replicate (n - ts.length) none)=↑(.rt t)):AZ k n u ts=↑(.ok t):=by
 unfold AZ MH
 lia
def cA{α:Type}{b:T->AN->Option AN}{body:AG}(f:α->T)(p:α->Bool)(a:T)(I:AN->Prop):∀(L:List α) (Y:AN),I Y->(∀x∈L,∀Y,I Y->∃τ1,b (f x) Y=↑τ1/\(p x=true->∃τ2,body τ1=↑(.nx τ2)/\I τ2)/\(p x=false->body τ1=↑(.rt a)))->(L.all p=true->∃Y',Ak b body (L.map f) Y=↑(.nx Y')/\I Y')/\(L.all p=false->Ak b body (L.map f) Y=↑(.rt a))
 |[],Y,h,ϊ=>{λϊ=>{(Y),rfl,h},λz=>by cases z}|x::L,Y,h,c=>by
  let(τ1,d,g,l):=c x (Í ..) Y h;rw[Ï,List.all_cons];unfold Ak;rw[d];cases i:p x with
  |false=>lia|true=>let(τ2,e,k):=g i;erw[e];exact cA f p a I L τ2 k λy j=>c y<|Ê _ j
abbrev A9(m:Nat)(P:Int)(x:Nat->Int):kL:=mT m λj=>C6 P<|x<|j+1
def Ds(m:Nat)(P:Int)(x:Nat->Int):A4 (A9 m P x)=true:=IL λϊ=>rfl
def DC(P x:Int)(w:Nat)(n:Int):Bool:=match w with
 |0=>decide (x<n * P)|1=>decide (x<=n * P)|2=>decide (n * P<x)|3=>decide (n * P<=x)|ϊ=>decide (x=n * P)
def BI(P:Int)(L:List<|Nat×Nat×Int)(x:Nat->Int):Bool:=L.all λl=>DC P (x l.1) l.2.1 l.2.2
def MA{P v n:Int}(h:0<P):(0<=Zm.lt v P - n * Zm.lb v P ↔ n * P<=v)/\(0<Zm.lt v P - n * Zm.lb v P ↔ n * P<v)/\(Zm.lt v P - n * Zm.lb v P<=0 ↔ v<=n * P)/\(Zm.lt v P - n * Zm.lb v P<0 ↔ v<n * P)/\(Zm.lt v P - n * Zm.lb v P=0 ↔ v=n * P):=by
 have b:P≠0:=by lia
 have d:=Zm.lt_mul (t:=v) b;have f:=Zm.lb_mul (t:=v) b;have g:=Zm.gd_pos (a:=v) b;have e:(Zm.lt v P - n * Zm.lb v P) * Zm.gd v P=v - n * P:=by rw[Ň,ā,d,f]
 clear d f
 change Zm.lt v P - n * Zm.lb v P=l;change Zm.gd v P=k
 have q:(0<l/\0<l * k)\/(l=0/\l * k=0)\/(l<0/\l * k<0):=by
  rcases Int.lt_trichotomy l 0 with c|c|c
  .exact .inr<|.inr {c,Int.mul_neg_of_neg_of_pos c g}
  .exact .inr<|.inl {c,by rw[c,Ĕ]}
  .exact .inl {c,Ė c g}
 have i:v=n * P+l * k:=by lia
 clear e
 change l * k=m;change n * P=x;subst i;refine{?_,?_,?_,?_,?_}<;>lia
def zfc{P:Int}(h:Bo P){ws:kE}(wl:ws.length<=7)(x:Nat->Int){t:T}(s:∃x y n,t=.tup [.str x,.str y,.int n]/\x∈ws/\y∈BU/\0<=n)(a0:kH)(E x7 F:kH) :
  ∃y6 y7 y8,Ld [a0,↑(.lst<|ws.map T.str),↑(.lst<|A9 ws.length P x),↑(.str<|DM t),↑(.str<|DB t),↑(.int<|Bf t),E,x7,F]=↑(if DC P (x (A2 ws t).1) (A2 ws t).2.1 (A2 ws t).2.2=true then .nx [a0,↑(.lst<|ws.map T.str),↑(.lst<|A9 ws.length P x),↑(.str<|DM t),↑(.str<|DB t),↑(.int<|Bf t),y6,y7,y8] else .rt (.bl false)):=by
 let(I,A,B,J):=Gv s;let(j,m,r,_):=Hl A;have i:=Ds ws.length P x;have o:AW (A9 ws.length P x) (j:Int)=↑(fr (Zm.lt (x<|j+1) P)<|Zm.lb (x<|j+1) P):=CY r;have p:A2 ws t=(j+1,DI<|DB t,Bf t):=by unfold A2;rw[m];rfl
 let(C,D):=L3 _ B;let(d,s1,e,f,g):=OL D;rw[C]at d s1 e f g;rw[p];have m1:Be (Bf t) (Zm.lb (x<|j+1) P)=true:=EA (h.lb _).s;have k:ws.length<1000000:=by lia
 let(c1,c2,c3,G,H):=MA (v:=x<|j+1) (n:=Bf t) h.p;show ∃y6 y7 y8,_=↑(if DC P (x<|j+1) (DI<|DB t) (Bf t)=true then _ else _)
 change A9 ws.length P x=VT;change DM t=X;generalize DB t=τ at *;change Bf t=n;change x (j+1)=v;change DI τ=w;refine{↑(.int<|Zm.lt v P - n * Zm.lb v P),↑(.int<|Zm.lt v P),↑(.int<|Zm.lb v P),?_};change Zm.lt v P=a;change Zm.lb v P=b;unfold Ld;refine sq (by simp![AV,AS,i,IH,m,k,o];rfl) ?_
 refine sq (by simp![m1];rfl) ?_
 change a - n * b=l;have u:w=0\/w=1\/w=2\/w=3\/w=4:=by lia
 rcases u with rfl|rfl|rfl|rfl|rfl
 .by_cases z:v<n * P
  .have c:decide (0<=l)=false:=Ù<|by lia
   rw[if_pos (show DC P v 0 n=true from É z)]
   simp![d,s1,e,f,g,c]
  .have c:decide (0<=l)=true:=É<|by lia
   rw[if_neg (show ¬ DC P v 0 n=true from λq=>z<|ì q)]
   simp![d,s1,e,f,g,c]
 .by_cases z:v<=n * P
  .have c:decide (0<l)=false:=Ù<|by lia
   rw[if_pos (show DC P v 1 n=true from É z)]
   simp![d,s1,e,f,g,c]
  .have c:decide (0<l)=true:=É<|by lia
   rw[if_neg (show ¬ DC P v 1 n=true from λq=>z<|ì q)]
   simp![d,s1,e,f,g,c]
 .by_cases z:n * P<v
  .have c:decide (l<=0)=false:=Ù<|by lia
   rw[if_pos (show DC P v 2 n=true from É z)]
   simp![d,s1,e,f,g,c]
  .have c:decide (l<=0)=true:=É<|by lia
   rw[if_neg (show ¬ DC P v 2 n=true from λq=>z<|ì q)]
   simp![d,s1,e,f,g,c]
 .by_cases z:n * P<=v
  .have c:decide (l<0)=false:=Ù<|by lia
   rw[if_pos (show DC P v 3 n=true from É z)]
   simp![d,s1,e,f,g,c]
  .have c:decide (l<0)=true:=É<|by lia
   rw[if_neg (show ¬ DC P v 3 n=true from λq=>z<|ì q)]
   simp![d,s1,e,f,g,c]
 .by_cases z:v=n * P
  .have c:(l == 0)=true:=by rw[Ę];lia
   rw[if_pos (show DC P v 4 n=true from É z)]
   simp![d,s1,e,f,g,c,E2]
  .have c:(l == 0)=false:=by rw[Ĳ];lia
   rw[if_neg (show ¬ DC P v 4 n=true from λq=>z<|ì q)]
   simp![d,s1,e,f,g,c,E2]
def Iv{P:Int}(h:Bo P){ws:kE}(wl:ws.length<=7)(x:Nat->Int){l:kL}(j:BD ws BU l):En [.lst l,.lst<|ws.map T.str,.lst<|A9 ws.length P x]=↑(.ok<|.bl<|BI P (l.map<|A2 ws) x):=by
 have a:=Ds ws.length P x;have p:=AJ _ a;have k:=j.sh;have c:=AJ _ k
 have i:=cA (b:=An 3<|AL (AD 3)<|AL (AD 4)<|AL (AD 5) Ao) (body:=Ld) (λt:T=>t) (λt=>DC P (x (A2 ws t).1) (A2 ws t).2.1 (A2 ws t).2.2) (.bl false) (λY=>∃m n o d f g,Y=[↑(.lst l),↑(.lst<|ws.map T.str),↑(.lst<|A9 ws.length P x),m,n,o,d,f,g]) l
  [↑(.lst l),↑(.lst<|ws.map T.str),↑(.lst<|A9 ws.length P x),none,none,none,none,none,none] {(none),none,none,none,none,none,rfl} λt s Y v=>by
   let(m,n,o,d,f,g,rfl):=v;let(w,z,A,B):=Gv<|j t s;let(C,D,E,e):=zfc h wl x (j t s) (↑(.lst l)) d f g;refine{[↑(.lst l),↑(.lst<|ws.map T.str),↑(.lst<|A9 ws.length P x),↑(.str<|DM t),↑(.str<|DB t),↑(.int<|Bf t),d,f,g],by rw[w];simp![DM,DB,Bf],λq=>?_,λq=>?_}
   .rw[if_pos q]at e;exact{_,e,_,_,_,_,_,_,rfl}
   .rw[if_neg (by rw[q];exact Ā)]at e
    exact e
 have u:BI P (l.map<|A2 ws) x=l.all λt=>DC P (x (A2 ws t).1) (A2 ws t).2.1 (A2 ws t).2.2:=by
  unfold BI;rw[List.all_map]
  rfl
 rw[u];rw[List.map_id']at i;cases r:l.all λt=>DC P (x (A2 ws t).1) (A2 ws t).2.1 (A2 ws t).2.2 with
 |true=>
  let(y,e,m,n,o,d,f,g,rfl):=i.1 r;change A9 ws.length P x=VT;unfold En Me
  simp![AV,AS,a,p,k,c,e]
 |false=>
  have e:=i.2 r;change A9 ws.length P x=VT;unfold En Me
  simp![AV,AS,a,p,k,c,e]
abbrev QG:Stmt:=AK 82
def NP:AI:=
 (BN<|AB (mI 0)<|AB (mI 1) AE)
def Ma:AG:=
 (AF (AO (BN<|AB (mI 0)<|AB (BG 1 [] (Ax<|AH (AA 0)<|mI 0) (AD 0) (mC<|.bl true) NP) AE)<|AD 1)
 (AF (Aa (As<|AM En<|AB (AH (AH (AH (AA 0)<|mI 1)<|mI 0)<|mI 1)<|AB (AH (AA 0)<|mI 0)<|AB (AH (AA 1)<|mI 1) AE) (AQ<|mC .non) A6)
 (AQ<|AA 1)))
def JU:kL->Option Ru:=AZ 1 2 Ma
abbrev Ts:=fA 2 1 QG JU
abbrev zfq:Gm:=gA QG 1 [("_law_holds",Kb)] []
theorem zg5:Ck zfq Ts QG Ma:={}
abbrev FX(P:Int)(m r:Nat)(x:Nat->Int):T:=.tup [.int (r:Int),.lst<|A9 m P x]
def CH(P:Int)(m:Nat):Option (Nat×(Nat->Int))->T
 |some s=>FX P m s.1 s.2|none=>.non
def CV(ws:kE)(rs:List<|Str×kL)(r:Nat):List<|Nat×Nat×Int:=(rs.getD r (Str.empty,[])).2.map (A2 ws)
def Qf{ws:kE}{rs:List<|Str×kL}(h:RsOk ws rs)(r:Nat):BD ws BU (rs.getD r (Str.empty,[])).2:=by
 by_cases a:r<rs.length
 .rw[Ú,Â a];exact(h.lk _<|Ò a).1.wd
 .rw[Ú,Ą<|by lia]
  exact λt b=>by cases b
def Bu(P:Int)(ws:kE)(rs:List<|Str×kL):Option<|Nat×(Nat->Int):=if BI P (CV ws rs 0) (λϊ=>0)=true then ↑(0,λϊ=>0) else none
def W3{P:Int}(h:Bo P){ws:kE}{rs:List<|Str×kL}{dd:List Sd}(K:SpK ws rs dd):JU [Aw ws rs dd]=↑(.ok<|CH P ws.length<|Bu P ws rs):=by
 have d:=Eh K.sp.r;have f:=AJ _ d;have sd:=K.sp.sd;have e:=AJ _ sd;have w2:=K.w2;have r1:=K.sp.r.l1;have k:=Qf K.sp.r 0;have gs:=k.sh;have c:=Iv h (by lia:ws.length<=7) (λϊ=>0) k
 have n:AW (rs.map BZ) 0=↑(.tup [.str (rs.getD 0 (Str.empty,[])).1,.lst (rs.getD 0 (Str.empty,[])).2]):=Jm (i:=0)<|by lia
 have a:=Ds ws.length P λϊ=>0
 have g:=AJ _ a
 have l:Bi (AD 0) (mC<|.bl true) NP (ws.map T.str) [none]=↑(A9 ws.length P λϊ=>0):=by
  have:=Gw (b:=AD 0) (me:=NP) T.str (λϊ=>C6 P 0) (λY=>∃y,Y=[y]) ws [none] {(none),rfl} λx q Y o=>by
   let(y,rfl):=o;refine{[↑(.str x)],by simp![],?_,_,rfl}
   rw[K6 h.p];unfold NP
   simp![]
  rw[this];refine congrArg some<|EC (Á _) λi p=>?_
  rw[Ë,Â p]
  rfl
 have m:ws.length<=100000:=by lia
 have s1:Bu P ws rs=if BI P (CV ws rs 0) (λϊ=>0)=true then ↑(0,λϊ=>0) else none:=rfl
 rw[s1]
 change En [.lst (rs.getD 0 (Str.empty,[])).2,.lst<|ws.map T.str,.lst<|A9 ws.length P λϊ=>0]=↑(.ok<|.bl<|BI P (CV ws rs 0) λϊ=>0) at c
 change (rs.getD 0 (Str.empty,[])).2=GT;cases j:BI P (CV ws rs 0) λϊ=>0 with
 |true=>
  rw[j]at c;erw[Å];show _=↑(Ru.ok<|.tup [.int ((0:Nat):Int),.lst<|A9 ws.length P λϊ=>0])
  rw[show((0:Nat):Int)=0 from rfl];change (A9 ws.length P λϊ=>0)=VT
  unfold JU Ma
  simp![AV,AS,d,f,sd,e,l,Á,m,a,g,n,gs,AJ _ gs,c]
 |false=>
  rw[j]at c;erw[ą,Ã];show _=↑(Ru.ok .non);change (A9 ws.length P λϊ=>0)=VT
  unfold JU Ma
  simp![AV,AS,d,f,sd,e,l,Á,m,a,g,n,gs,AJ _ gs,c]
abbrev QE:Stmt:=AK 81
def NO:AI:=
 (AM FN<|mJ 0<|mJ 1 AE)
def L8:AG:=
 (Aa (m2 ES (AH (AA 6)<|AA 5)<|AA 13) (Gf 4 (AA 5)<|BN<|AB (mI 0)<|AB (mI 1) AE) A6)
def M9:AG:=
 (AF (AO (AA 0)<|An 3<|AL (AD 6)<|AL (AD 7)<|AL (AD 8) Ao)
 (AF (AO (AA 1)<|An 2<|AL (AD 9)<|AL (AD 4) Ao)
 (AF (Eg 4) (AF (Ca 4<|BG 1 [2] (Ax<|AA 4) (AD 0) (mC<|.bl true) NO)
 (AF (Aa (As<|AM En<|AB (AH (AH (AA 7)<|AA 9)<|mI 1)<|mJ 6<|mJ 4 AE) (AQ<|mC .non) A6)
 (AF (Aa (m2 (CM false) (AA 3)<|mC .non) (AF (Eg 4)<|AQ<|BN<|mJ 9<|mJ 4 AE) A6)
 (AF (AO (AH (AA 8)<|AA 3)<|An 5<|AL (AD 10)<|AL (AD 11)<|AL (AD 12)<|AL (AD 13)<|AL (AD 14) Ao)
 (AF (Aa (BE (m2 CJ (AA 10)<|AA 9)<|BE (m2 CJ (AA 14)<|mC<|.str "")<|As<|AM En<|mJ 12<|mJ 6<|mJ 4 AE) (AQ<|mC .non) A6)
 (AF (B5 (CN<|AB (m1 BC<|AA 6) AE) (AD 5) L8)
 (AF (Aa (As<|AM En<|AB (AH (AH (AA 7)<|AA 11)<|mI 1)<|mJ 6<|mJ 4 AE) (AQ<|mC .non) A6)
 (AF (Eg 4)<|AQ<|BN<|mJ 11<|mJ 4 AE)))))))))))
def Nm:kL->Option Ru:=AZ 4 15 M9
abbrev Tr:=fA 3 4 QE Nm
abbrev zi9:Gm:=gA QE 2 [("_law_plus",Ka),("_law_holds",Kb)] ["range","len"] ["_law_values"] (N:=["_law_spec","_law_stand","_law_wait","_law_number_here","_law_values","_law_k","_law_watches","_law_rooms","_law_doors","_law_room","_law_begin","_law_end","_law_guard_here","_law_noughts","_law_sign"])
theorem ziq:Ck zi9 Tr QE M9:={}
def Cf(P:Int)(ws:kE)(rs:List<|Str×kL)(dd:List Sd)(s:Nat×(Nat->Int))(w:Int)(k:Option Nat):Option<|Nat×(Nat->Int):=
 if BI P (CV ws rs s.1) (λp=>s.2 p+w)=true then (match k with
  |none=>↑(s.1,λp=>s.2 p+w)|some k=>(match dd[k]? with
   |some d=>if d.b=s.1/\d.z=Str.empty/\BI P (d.g.map<|A2 ws) (λp=>s.2 p+w)=true/\BI P (CV ws rs d.e) (λp=>if p∈Ar ws d.n then 0 else s.2 p+w)=true then ↑(d.e,λp=>if p∈Ar ws d.n then 0 else s.2 p+w) else none
   |none=>none)) else none
def ZX{ws:kE}(nd:ws.Nodup){ns:kE}(b:∀x∈ns,x∈ws){j:Nat}(a:j<ws.length):ws[j]∈ns ↔ j+1∈Ar ws ns:=by
 unfold Ar;rw[Ó];constructor
 .intro h;refine{ws[j],h,?_};rw[bU nd a]
  rfl
 .rintro⟨x,c,e⟩;let(i,d,f,ex):=Hl<|b x c
  simp_all
def zK(k:Nat)(ps:kG)(y:Nat->Int):Nat->Int:=λp=>if p∈ps/\p<=k then 0 else y p
def zjm{P:Int}(h:Bo P){ws:kE}(tw:CD ws)(nd:ws.Nodup)(wl:ws.length<=2){ns:kE}(f:∀x∈ns,x∈ws)(y:Nat->Int){a0 a1 a2 a3 a7 a8 a9 a10 a11 a12 a14:kH}{x5:kH} :
  ∃y5,Ak (AD 5) L8 (mT ws.length λi=>.int (i:Int)) [a0,a1,a2,a3,↑(.own<|A9 ws.length P y),x5,↑(.lst<|ws.map T.str),a7,a8,a9,a10,a11,a12,↑(.lst<|ns.map T.str),a14] =
   ↑(.nx [a0,a1,a2,a3,↑(.own (A9 ws.length P λp=>if p∈Ar ws ns then 0 else y p)),y5,↑(.lst<|ws.map T.str),a7,a8,a9,a10,a11,a12,↑(.lst<|ns.map T.str),a14]):=by
 have a:=K8 (b:=AD 5) (body:=L8) (n:=ws.length) (g:=λi=>.int (i:Int)) (Y:=[a0,a1,a2,a3,↑(.own<|A9 ws.length P y),x5,↑(.lst<|ws.map T.str),a7,a8,a9,a10,a11,a12,↑(.lst<|ns.map T.str),a14])
  (λk Y=>∃y5,Y=[a0,a1,a2,a3,↑(.own<|A9 ws.length P<|zK k (Ar ws ns) y),y5,↑(.lst<|ws.map T.str),a7,a8,a9,a10,a11,a12,↑(.lst<|ns.map T.str),a14])
  {x5,by
   rw[show A9 ws.length P (zK 0 (Ar ws ns) y)=A9 ws.length P y from E4 λi ϊ=>by
    unfold zK
    rw[if_neg<|by lia]]} (by
   rintro k Y hk ⟨y5,rfl⟩;refine{[a0,a1,a2,a3,↑(.own<|A9 ws.length P<|zK k (Ar ws ns) y),↑(.int (k:Int)),↑(.lst<|ws.map T.str),a7,a8,a9,a10,a11,a12,↑(.lst<|ns.map T.str),a14],by simp![],[a0,a1,a2,a3,↑(.own<|A9 ws.length P<|zK (k+1) (Ar ws ns) y),↑(.int (k:Int)),↑(.lst<|ws.map T.str),a7,a8,a9,a10,a11,a12,↑(.lst<|ns.map T.str),a14],?_,_,rfl}
   have l:AW (ws.map T.str) (k:Int)=↑(.str ws[k]):=C7 (by rw[Ë,Â hk];rfl)
   have tn:CD ns:=λx q=>tw x<|f x q
   have c:=Iq (o:=false) (k:=.lst) tn<|tw _<|Ò hk;have r:CA (A9 ws.length P<|zK k (Ar ws ns) y).length (k:Int)=↑k:=by rw[BO];exact TJ hk
   have z0:fr 0 1=C6 P 0:=(K6 h.p).symm;unfold L8
   by_cases m:ws[k]∈ns
   .rw[É m]at c
    have st:(A9 ws.length P<|zK k (Ar ws ns) y).set k (fr 0 1)=A9 ws.length P (zK (k+1) (Ar ws ns) y):=by
     rw[z0];unfold A9;rw[Ie];refine E4 λj d=>?_
     have:=ZX nd f d;unfold zK
     grind
    rw[<- st];change A9 ws.length P (zK k (Ar ws ns) y)=VT
    simp![AV,AS,l,c,r]
   .rw[Ù m]at c
    have st:A9 ws.length P (zK k (Ar ws ns) y)=A9 ws.length P (zK (k+1) (Ar ws ns) y):=E4 λj d=>by
     have:=ZX nd f d;unfold zK
     grind
    rw[<- st];change A9 ws.length P (zK k (Ar ws ns) y)=VT
    simp![AV,AS,l,c])
 let(s,e,y5,rfl):=a;refine{y5,e.trans ?_}
 rw[show A9 ws.length P (zK ws.length (Ar ws ns) y)=A9 ws.length P (λp=>if p∈Ar ws ns then 0 else y p) from E4 λj d=>by
  unfold zK
  grind]
def BH:Option Nat->T
 |some k=>.int (k:Int)|none=>.non
def WZ{P:Int}(h:Bo P){ws:kE}{rs:List<|Str×kL}{dd:List Sd}(K:SpK ws rs dd){r:Nat}(Z:r<rs.length)(x:Nat->Int){w a b:Int}(Y:Bo b)(e:a * P=w * b){k:Option Nat}(hk:∀i∈k,i<dd.length):Nm [Aw ws rs dd,FX P ws.length r x,fr a b,BH k]=↑(.ok<|CH P ws.length<|Cf P ws rs dd (r,x) w k):=by
 have C:=Eh K.sp.r;have D:=AJ _ C;have sd:=K.sp.sd;have M:=AJ _ sd;have w2:=K.w2;have U:=Qf K.sp.r r;have gs:=U.sh;have t:=Ds ws.length P x;have y:=AJ _ t;have l:=Ds ws.length P λp=>x p+w
 have m:=AJ _ l
 have lc:Bi (AD 0) (mC<|.bl true) NO (A9 ws.length P x) [none,↑(fr a b)]=↑(A9 ws.length P λp=>x p+w):=EH (n:=ws.length) (me:=NO) (x:=none) (cs:=[↑(fr a b)]) (g:=λj=>C6 P<|x<|j+1) (f:=λj=>C6 P<|x (j+1)+w) λj hj=>by
  unfold NO
  simp![So (v:=x<|j+1) h Y e]
 have ll:(A9 ws.length P x).length<=100000:=by rw[BO];lia
 have V:=Jm Z;have O:En [.lst (rs.getD r (Str.empty,[])).2,.lst<|ws.map T.str,.lst<|A9 ws.length P λp=>x p+w]=↑(.ok<|.bl<|BI P (CV ws rs r) λp=>x p+w):=Iv h (by lia:ws.length<=7) (λp=>x p+w) U
 have oU:CH P ws.length (↑(r,λp=>x p+w))=.tup [.int (r:Int),.lst<|A9 ws.length P λp=>x p+w]:=rfl
 have L:CH P ws.length none=.non:=rfl;refine Qb rfl ?_;show M9 [↑(Aw ws rs dd),↑(.tup [.int (r:Int),.lst<|A9 ws.length P x]),↑(fr a b),↑(BH k),none,none,none,none,none,none,none,none,none,none,none]=_;unfold Cf M9;dsimp only;change (rs.getD r (Str.empty,[])).2=GT;change (rs.getD r (Str.empty,[])).1=GN;generalize X:(A9 ws.length P λp=>x p+w)=VU at *
 change A9 ws.length P x=VT;change BI P (CV ws rs r) (λp=>x p+w)=B
 refine sq (by simp![AV,AS,C,D,sd,M];rfl)<|sq (by simp![t,y];rfl)<|Fk (by simp![t,y])<|sq (by simp![t,y,lc,ll];rfl) ?_
 cases B with
 |false=>exact sr (by simp![AV,AS,C,D,V,gs,AJ _ gs,l,m,O,Ã,ą,L])|true=>
  refine Fk (by simp![AV,AS,C,D,V,gs,AJ _ gs,l,m,O]) ?_
  rw[if_pos rfl];cases k with
  |none=>exact sr (by simp![BH,l,m,oU])|some k=>
   have o:=hk k rfl;have R:=K.sp.d _<|Ò o;have S:BD ws BU dd[k].g:=R.g;have q:=S.sh;have u:=AJ _ q;have W:=Ot o
   have tz:PyData.strOk dd[k].z=true:=by
    rcases K.z _ (Ò o) with e|e<;>rw[e]<;>decide +kernel
   have J:=RR tz UG;have H:=Iv h (by lia:ws.length<=7) (λp=>x p+w) S
   have G:=Jm (K.sp.b _<|Ò o).2;have F:=Qf K.sp.r dd[k].e;have s:=F.sh;have Q:En [.lst (rs.getD dd[k].e (Str.empty,[])).2,.lst<|ws.map T.str,.lst (A9 ws.length P λp=>if p∈Ar ws dd[k].n then 0 else x p+w)]=↑(.ok<|.bl (BI P (CV ws rs dd[k].e) λp=>if p∈Ar ws dd[k].n then 0 else x p+w)):=Iv h (by lia:ws.length<=7) (λp=>if p∈Ar ws dd[k].n then 0 else x p+w) F
   let(y5,N):=zjm (ws:=ws) (ns:=dd[k].n) h K.mc.tw K.mc.wd w2 R.n (λp=>x p+w) (a0:=↑(Aw ws rs dd)) (a1:=↑(.tup [.int (r:Int),.lst VT])) (a2:=↑(fr a b)) (a3:=↑(.int (k:Int))) (a7:=↑(Cb rs)) (a8:=↑(.lst<|dd.map BK)) (a9:=↑(.int (r:Int))) (a10:=↑(.int (dd[k].b:Int))) (a11:=↑(.int (dd[k].e:Int))) (a12:=↑(.lst dd[k].g)) (a14:=↑(.str dd[k].z)) (x5:=none)
   have A:=Ds ws.length P λp=>if p∈Ar ws dd[k].n then 0 else x p+w
   have E:=AJ _ A;have oW:CH P ws.length (↑(dd[k].e,λp=>if p∈Ar ws dd[k].n then 0 else x p+w))=.tup [.int (dd[k].e:Int),.lst (A9 ws.length P λp=>if p∈Ar ws dd[k].n then 0 else x p+w)]:=rfl
   have ok:CI (ws.length:Int)=true:=EZ<|by lia
   have rg:Br 0 ws.length=mT ws.length λi=>.int (i:Int):=Ci
   erw[Â o];rw[X]at H N;change dd[k]=d;change (A9 ws.length P λp=>if p∈Ar ws d.n then 0 else x p+w)=VW
   change (rs.getD d.e (Str.empty,[])).2=G2;change (rs.getD d.e (Str.empty,[])).1=N2;refine Fk (by simp![BH])<|sq (by simp![BH,sd,M,W,q,u,AV,AS];rfl) ?_
   have I:(!((d.b:Int) == (r:Int)))=!decide (d.b=r):=by grind
   by_cases c:d.b=r/\d.z=Str.empty/\BI P (d.g.map<|A2 ws) (λp=>x p+w)=true
   .let(c1,c2,c3):=c;rw[c3]at H;rw[É c1]at I;rw[É (show d.z=Str.ofString "" from c2)]at J;refine Fk (by simp![E2,I,J,q,u,AV,AS,l,m,H])<|sq (by simp![AV,AS,Á,ok,ï,rg,N];rfl) ?_
    change BI P (CV ws rs d.e) (λp=>if p∈Ar ws d.n then 0 else x p+w)=B2
    cases B2 with
    |true=>
     rw[if_pos {(c1),c2,c3,rfl}]
     simp![AV,AS,C,D,G,s,AJ _ s,A,E,Q,oW]
    |false=>
     rw[if_neg λz=>Ā z.2.2.2]
     exact sr<|by simp![AV,AS,C,D,G,s,AJ _ s,A,E,Q,L]
   .rw[if_neg λz=>c {(z.1),z.2.1,z.2.2.1}]
    refine sr ?_;have c:¬ (decide (d.b=r)=true/\decide (d.z=Str.ofString "")=true/\BI P (d.g.map<|A2 ws) (λp=>x p+w)=true):=λz=>c {ì z.1,ì z.2.1,z.2.2}
    change BI P (d.g.map<|A2 ws) (λp=>x p+w)=B1
    change decide (d.z=Str.ofString "")=B2;change decide (d.b=r)=B3
    cases B1<;>cases B2<;>cases B3<;>first
     |exact absurd ⟨rfl,rfl,rfl⟩ c
     |simp![E2,I,J,q,u,AV,AS,l,m,H,L]
abbrev QK:Stmt:=AK 83
def La:AG:=
 (Aa (BE (As<|m1 (Bm "int")<|AA 2)<|BE (m1 (Bm "bool")<|AA 2)<|m2 (BP λi j=>decide (i<j)) (AA 2)<|mI 0) (AQ<|mC<|.bl false) A6)
def Md:AG:=
 (AF (Aa (BE (As<|m1 (Bm "tuple")<|AA 0)<|m2 CJ (m1 BC<|AA 0)<|mI 2) (AQ<|mC<|.bl false) A6)
 (AF (AO (AA 0)<|An 2<|AL (AD 3)<|AL (AD 4) Ao)
 (AF (Aa (BE (As<|m1 (Bm "tuple")<|AA 3)<|m2 CJ (m1 BC<|AA 3)<|mI 2) (AQ<|mC<|.bl false) A6)
 (AF (B5 (Ax<|AA 3) (AD 2) La)
 (AF (Aa (BE (m2 Au (AH (AA 3)<|mI 1)<|mI 0)<|m2 (CM false) (AA 4)<|mC .non) (AQ<|m2 (BP λi j=>decide (j<i)) (AH (AA 3)<|mI 1)<|mI 0) A6)
 (AQ<|Bx (m1 (Bm "int")<|AA 4)<|Bx (As<|m1 (Bm "bool")<|AA 4)<|F9 FH (BP λi j=>decide (i<j)) (mI 0) (AA 4)<|AA 1))))))
def LL:kL->Option Ru:=AZ 2 5 Md
abbrev eA:=fA 1 2 QK LL
abbrev zbe:Gm:=gA QK 0 [] ["isinstance","tuple","len","int","bool"] (N:=["_law_thing","_law_many","_law_part","_law_wait","_law_number_here"])
theorem zbn:Ck zbe eA QK Md:={}
def zh4{a b:Int}(r:0<=a)(p:0<b){k:Option Nat}{n:Nat}(hk:∀i∈k,i<n):LL [.tup [fr a b,BH k],.int (n:Int)]=↑(.ok<|.bl true):=by
 have h:decide (a<0)=false:=Ù<|by lia
 have j:decide (b<0)=false:=Ù<|by lia
 have f:(b == 0)=false:=by rw[Ĳ];lia
 have l:decide (0<b)=true:=É p
 have g:∀(KT:T) (d e:kH),Ak (AD 2) La [.int a,.int b] [↑(.tup [fr a b,KT]),↑(.int (n:Int)),none,d,e]=↑(.nx [↑(.tup [fr a b,KT]),↑(.int (n:Int)),↑(.int b),d,e]):=λKT d e=>by
  refine(Fw (τ1:=[↑(.tup [fr a b,KT]),↑(.int (n:Int)),↑(.int a),d,e]) (τ2:=[↑(.tup [fr a b,KT]),↑(.int (n:Int)),↑(.int a),d,e]) (by simp![]) ?_).trans (Fw (τ1:=[↑(.tup [fr a b,KT]),↑(.int (n:Int)),↑(.int b),d,e]) (by simp![]) ?_)
  .unfold La
   simp![h]
  .unfold La
   simp![j]
 cases k with
 |none=>
  have c:=g .non (↑(fr a b))<|↑.non;unfold LL Md
  simp![BH,E2,c,Cc,f,l]
 |some k=>
  have q:=hk k rfl;have m:decide ((0:Int)<=(k:Int))=true:=É<|by lia
  have o:decide ((k:Int)<(n:Int))=true:=É<|by lia
  have c:=g (.int (k:Int)) (↑(fr a b))<|↑(.int (k:Int));unfold LL Md
  simp![BH,E2,c,Cc,f,m,o]
abbrev QA:Stmt:=AK 84
def HQ:AG:=
 (AF (Aa (BE (m2 (CM false) (AA 2)<|mC .non)<|As<|AM LL<|mJ 3<|AB (m1 BC<|AH (AA 0)<|mI 2) AE) (AQ<|mC .non) A6)
 (AO (AM Nm<|mJ 0<|mJ 2<|AB (AH (AA 3)<|mI 0)<|AB (AH (AA 3)<|mI 1) AE)<|AD 2))
def M7:AG:=
 (AF (AO (AM JU<|mJ 0 AE)<|AD 2)
 (AF (Aa (As<|m1 (Bm "list")<|AA 1) (AQ<|mC .non) A6)
 (AF (B5 (Ax<|AA 1) (AD 3) HQ)
 (AQ<|AA 2))))
def JT:kL->Option Ru:=AZ 2 4 M7
abbrev dU:=fA 4 2 QA JT
abbrev zi8:Gm:=gA QA 3 [("_law_start",Ts),("_law_right_step",eA),("_law_step",Tr)] ["isinstance","list","len"]
theorem zio:Ck zi8 dU QA M7:={}
def DK(P:Int)(ws:kE)(rs:List<|Str×kL)(dd:List Sd):Option (Nat×(Nat->Int))->List (Int×Option Nat)->Option (Nat×(Nat->Int))
 |s,[]=>s|none,ϊ=>none|some s,x::r=>DK P ws rs dd (Cf P ws rs dd s x.1 x.2) r
def Qh{P:Int}{ws:kE}{rs:List<|Str×kL}{dd:List Sd}:∀l,DK P ws rs dd none l=none
 |[]=>rfl|ϊ::ϋ=>rfl
structure Tp where
 w:Int
 a:Int
 b:Int
 k:Option Nat
structure TpOk(P:Int)(n:Nat)(t:Tp):Prop where
 b:Bo t.b
 e:t.a * P=t.w * t.b
 k:∀i∈t.k,i<n
abbrev Bp(t:Tp):T:=.tup [fr t.a t.b,BH t.k]
set_option tactic.hygienic true in
def Wa{P:Int}{ws:kE}{rs:List<|Str×kL}{dd:List Sd}(K:SpK ws rs dd){s s':Nat×(Nat->Int)}{w:Int}{k:Option Nat}(a:s.1<rs.length)(e:Cf P ws rs dd s w k=↑s'):s'.1<rs.length:=by
 unfold Cf at e;split at e
 .split at e
  .lia
  .split at e
   .rename_i d hd;split at e
    .cases e;exact(K.sp.b d<|ç hd).2
    .cases e
   .cases e
 .cases e
def IV(P:Int)(m:Nat)(s:Option<|Nat×(Nat->Int)):(CH P m s).sh=true:=by
 cases s with
 |none=>rfl|some s=>
  show((!false) && (true && (((!false) && A4 (A9 m P s.2)) && true)))=true;rw[Ds]
  rfl
def V5{P:Int}(h:Bo P){ws:kE}{rs:List<|Str×kL}{dd:List Sd}(K:SpK ws rs dd){a1:kH}:∀(L:List Tp) (s:Option<|Nat×(Nat->Int)) (x3:kH),(∀st∈s,st.1<rs.length)->(∀t∈L,TpOk P dd.length t/\0<=t.a) ->
  (∃y3,Ak (AD 3) HQ (L.map Bp) [↑(Aw ws rs dd),a1,↑(CH P ws.length s),x3]=↑(.nx [↑(Aw ws rs dd),a1,↑(CH P ws.length<|DK P ws rs dd s<|L.map λt=>(t.w,t.k)),y3])) \/
   (DK P ws rs dd s (L.map λt=>(t.w,t.k))=none/\Ak (AD 3) HQ (L.map Bp) [↑(Aw ws rs dd),a1,↑(CH P ws.length s),x3]=↑(.rt .non))
 |[],s,x3,ϊ,ϋ=>.inl {x3,by cases s<;>rfl}|t::L,s,x3,A,g=>by
  let(c,z):=g t (Í ..);have k:=Eh K.sp.r;have y:=AJ _ k;have sd:=K.sp.sd;have p:=AJ _ sd;have v:(dd.map BK).length=dd.length:=Á ..;rw[Ï,Ï];have j:(BH t.k).sh=true:=by cases t.k<;>rfl
  have q:=CW _ j;cases s with
  |none=>
   refine .inr {rfl,UB (τ1:=[↑(Aw ws rs dd),a1,↑.non,↑(Bp t)]) (by show AD 3 _ [_,_,↑T.non,_]=_;simp![]) ?_}
   unfold HQ
   simp![]
  |some st=>
   let(r,x):=st;have i:r<rs.length:=A _ rfl;have rt:=zh4 z c.b.p c.k;have st:=WZ h K i x c.b c.e c.k;have d:=Ds ws.length P x;have f:=AJ _ d;have l:=IV P ws.length<|Cf P ws rs dd (r,x) t.w t.k;have w:=CW _ l
   have a:HQ [↑(Aw ws rs dd),a1,↑(FX P ws.length r x),↑(Bp t)]=↑(.nx [↑(Aw ws rs dd),a1,↑(CH P ws.length<|Cf P ws rs dd (r,x) t.w t.k),↑(Bp t)]):=by
    show HQ [↑(Aw ws rs dd),a1,↑(FX P ws.length r x),↑(.tup [fr t.a t.b,BH t.k])]=↑(.nx [↑(Aw ws rs dd),a1,↑(CH P ws.length<|Cf P ws rs dd (r,x) t.w t.k),↑(.tup [fr t.a t.b,BH t.k])]);change CH P ws.length (Cf P ws rs dd (r,x) t.w t.k)=OT;change BH t.k=KT;unfold FX at *;change A9 ws.length P x=VT;unfold HQ
    simp![AV,AS,k,y,sd,p,v,rt,d,f,st,l,w,j,q]
   have step:=Fw (b:=AD 3) (t:=Bp t) (ts:=L.map Bp) (Y:=[↑(Aw ws rs dd),a1,↑(FX P ws.length r x),x3]) (by
    change FX P ws.length r x=OT
    simp![]) a
   have C:=V5 h K (a1:=a1) L (Cf P ws rs dd (r,x) t.w t.k) (↑(Bp t)) (λD m=>Wa K i m) λu B=>g u<|Ê _ B
   rcases C with ⟨y3,e⟩|⟨n,o⟩
   .exact .inl {y3,step.trans e}
   .exact .inr {n,step.trans o}
def zew{P:Int}(h:Bo P){ws:kE}{rs:List<|Str×kL}{dd:List Sd}(K:SpK ws rs dd){L:List Tp}(k:∀t∈L,TpOk P dd.length t/\0<=t.a):JT [Aw ws rs dd,.lst<|L.map Bp]=↑(.ok<|CH P ws.length<|DK P ws rs dd (Bu P ws rs)<|L.map λt=>(t.w,t.k)):=by
 have a:=Eh K.sp.r;have j:=AJ _ a;have sd:=K.sp.sd;have g:=AJ _ sd
 have b:A4 (L.map Bp)=true:=Dd λt ϊ=>by
  show((!false) && (true && ((BH t.k).sh && true)))=true;cases t.k<;>rfl
 have f:=AJ _ b;have st:=W3 h K;have c:=IV P ws.length<|Bu P ws rs;have i:=CW _ c
 have l:∀s∈Bu P ws rs,s.1<rs.length:=λs e=>by
  unfold Bu at e;split at e
  .cases e;have:=K.sp.r.l1
   lia
  .cases e
 have d:=IV P ws.length<|DK P ws rs dd (Bu P ws rs)<|L.map λt=>(t.w,t.k)
 rcases V5 h K (a1:=↑(.lst<|L.map Bp)) L (Bu P ws rs) none l k with ⟨y3,e⟩|⟨e1,e⟩
 .change CH P ws.length (Bu P ws rs)=OT;change L.map Bp=LT;unfold JT M7
  simp![AV,AS,a,j,sd,g,b,f,st,c,i,e,d]
 .rw[e1];show _=↑(Ru.ok .non);change CH P ws.length (Bu P ws rs)=OT;change L.map Bp=LT;unfold JT M7
  simp![AV,AS,a,j,sd,g,b,f,st,c,i,e]
abbrev QI:Stmt:=AK 77
def gH:AI:=
 (AA 2)
def V8:AG:=
 (AO (BV Hm<|AB (m2 Aj (BJ<|Am (AA 1) AE)<|BG 3 [] (Ax<|AA 3) (An 3<|AL (AD 0)<|AL (AD 1)<|AL (AD 2) Ao) (mC<|.bl true) gH) AE)<|AD 1)
def gG:AI:=
 (AA 2)
def V7:AG:=
 (AO (BV Hm<|AB (m2 Aj (BJ<|Am (AA 1) AE)<|BG 3 [] (Ax<|AA 6) (An 3<|AL (AD 0)<|AL (AD 1)<|AL (AD 2) Ao) (mC<|.bl true) gG) AE)<|AD 1)
def S8:AG:=
 (AF (AO (mI 1)<|AD 1)
 (AF (B5 (Ax<|AH (AA 0)<|mI 1) (An 2<|AL (AD 2)<|AL (AD 3) Ao) V8)
 (AF (B5 (Ax<|AH (AA 0)<|mI 2) (An 5<|AL (AD 4)<|AL (AD 5)<|AL (AD 6)<|AL (AD 7)<|AL (AD 8) Ao) V7)
 (AQ<|AA 1))))
def LK:kL->Option Ru:=AZ 1 9 S8
abbrev Tt:=fA 1 1 QI LK
abbrev zfs:Gm:=gA QI 0 [] ["max"]
theorem zg7:Ck zfs Tt QI S8:={}
def bO:∀ns:kF,Hk (ns.map T.int)=↑ns
 |[]=>rfl|i::r=>by
  rw[Ï];unfold Hk;rw[bO r]
  rfl
def zpa{ns:kF}(h:∀x∈ns,0<=x):0<=M3 ns:=by
 unfold M3;rw[Ú];cases e:ns[argBest (λi j=>decide (ns.getD i 0 > ns.getD j 0))<|ns.length - 1]? with
 |none=>simp_all|some y=>exact h y<|ç e
def Zd{ws wd:kE}{l:kL}(d:BD ws wd l)(v:l.length<=1000){a:Int}(a0:0<=a){j:Nat}{me:AI}(e:∀x y z,me [x,y,↑(.int z)]=↑(.v (.int z) false)){Y:AN}(p:Y[1]?=↑(↑(.int a)))(r:Y[j]?=↑(↑(.lst l)))(c:1<Y.length) :
  ∃b,0<=b/\AO (BV Hm<|AB (m2 Aj (BJ<|Am (AA 1) AE)<|BG 3 [] (Ax<|AA j) (An 3<|AL (AD 0)<|AL (AD 1)<|AL (AD 2) Ao) (mC<|.bl true) me) AE) (AD 1) Y=↑(.nx<|Y.set 1<|↑(.int b)):=by
 have h:=Gw (b:=An 3<|AL (AD 0)<|AL (AD 1)<|AL (AD 2) Ao) (me:=me) (λt:T=>t) (λt=>.int<|Bf t) (λY=>∃x y z,Y=[x,y,z]) l [none,none,none] {(none),none,none,rfl} λt f Y q=>by
  let(x,y,z,rfl):=q;let(s,w,A,B):=Gv<|d t f;refine{[↑(.str<|DM t),↑(.str<|DB t),↑(.int<|Bf t)],by rw[s];simp![DM,DB,Bf],e _ _ _,_,_,_,rfl}
 rw[List.map_id']at h;have k:=d.sh;have o:=AJ _ k
 have u:∀x∈a::l.map Bf,0<=x:=λx g=>by
  rcases Ì.mp g with rfl|g
  .exact a0
  .let(t,f,rfl):=Ó.mp g;exact(Gv<|d t f).2.2.2
 have n:Hk (l.map λt=>T.int<|Bf t)=↑(l.map Bf):=by
  have:=bO<|l.map Bf;rw[ü]at this;exact this
 have l1:l.length<=100000:=by lia
 have l2:1+l.length<=100000:=by lia
 have i:A4 (l.map λt=>T.int<|Bf t)=true:=Dd λϊ ϊ=>rfl
 have m:=AJ _ i;refine{M3<|a::l.map Bf,zpa u,?_}
 simp![p,r,k,o,l1,h,Á,l2,i,m,c,n]
def Wi{ws:kE}{rs:List<|Str×kL}{dd:List Sd}(sr:A4 (rs.map BZ)=true)(sd:A4 (dd.map BK)=true)(z:∀r∈rs,BD ws DY r.2/\r.2.length<=2)(hd:∀d∈dd,BD ws BU d.g/\d.g.length<=2):∃m,0<=m/\LK [Aw ws rs dd]=↑(.ok<|.int m):=by
 have y:=AJ _ sr;have x:=AJ _ sd
 let(Y,e,m,x2,a,rfl,c):=FJ (b:=An 2<|AL (AD 2)<|AL (AD 3) Ao) (body:=V8) (ts:=rs.map BZ) (Y:=[↑(Aw ws rs dd),↑(.int 1),none,none,none,none,none,none,none])
  (λϊ Y=>∃m x2 a,Y=[↑(Aw ws rs dd),↑(.int m),x2,a,none,none,none,none,none]/\0<=m) {1,none,none,rfl,by decide} λi t Y g h=>by
  let(m,x2,a,rfl,c):=h;let(r,l,rfl):=Ó.mp<|ç g;let(n,A):=z r l;let(b,f,eb):=Zd n (by lia) c (j:=3) (me:=gH) (λϊ ϊ ϊ=>rfl) (Y:=[↑(Aw ws rs dd),↑(.int m),↑(.str r.1),↑(.lst r.2),none,none,none,none,none]) rfl rfl<|by simp
  exact{_,by simp![],_,eb,b,_,_,rfl,f}
 let(Y,w,m2,p,q,s,u,v,rfl,o):=FJ (b:=An 5<|AL (AD 4)<|AL (AD 5)<|AL (AD 6)<|AL (AD 7)<|AL (AD 8) Ao) (body:=V7) (ts:=dd.map BK) (Y:=[↑(Aw ws rs dd),↑(.int m),x2,a,none,none,none,none,none])
  (λϊ Y=>∃m p q s u v,Y=[↑(Aw ws rs dd),↑(.int m),x2,a,p,q,s,u,v]/\0<=m) {(m),none,none,none,none,none,rfl,c} λi t Y g h=>by
  let(m,p,q,s,u,v,rfl,c):=h;let(d,k,rfl):=Ó.mp<|ç g;let(n,A):=hd d k;let(b,f,eb):=Zd n (by lia) c (j:=6) (me:=gG) (λϊ ϊ ϊ=>rfl) (Y:=[↑(Aw ws rs dd),↑(.int m),x2,a,↑(.int (d.b:Int)),↑(.int (d.e:Int)),↑(.lst d.g),↑(.lst<|d.n.map T.str),↑(.str d.z)]) rfl rfl<|by simp
  exact{_,by simp![],_,eb,b,_,_,_,_,_,rfl,f}
 refine{m2,o,?_};unfold LK S8
 simp![AV,AS,sr,y,sd,x,e,w]
abbrev QN:Stmt:=AK 86
def Lb:AG:=
 (AF (AO (AH (AA 2)<|Hf (AA 1)<|AA 5)<|An 2<|AL (AD 9)<|AL (AD 10) Ao)
 (AF (AO (BN<|AB (m2 EI (m2 B9 (AA 7)<|AA 10)<|AA 9)<|mJ 10 AE)<|AD 8)
 (AF (Aa (m2 Au (AA 6)<|mC<|.str ">") (AO (AM FN<|mJ 8<|mJ 3 AE)<|AD 8) A6)
 (Aa (Bx (m2 ES (AA 6)<|BN<|AB (mC<|.str ">")<|AB (mC<|.str ">=")<|AB (mC<|.str "=") AE)<|m2 (BP λi j=>decide (j<i)) (m2 B9 (AH (AA 8)<|mI 0)<|AH (AA 4)<|mI 1)<|m2 B9 (AH (AA 4)<|mI 0)<|AH (AA 8)<|mI 1) (AO (AA 8)<|AD 4) A6))))
def Sb:AG:=
 (AF (AO (BN<|AB (mI 0)<|AB (mI 1) AE)<|AD 4)
 (AF (B5 (Ax<|AA 0) (An 3<|AL (AD 5)<|AL (AD 6)<|AL (AD 7) Ao) Lb)
 (AQ<|AA 4)))
def Nq:kL->Option Ru:=AZ 4 11 Sb
abbrev eB:=fA 3 4 QN Nq
abbrev zid:Gm:=gA QN 2 [("_law_plus",Ka)] [] (N:=["_law_looks","_law_watches","_law_values","_law_little","_law_need_here","_law_watch","_law_word","_law_number_here","_law_least","_law_top","_law_bottom"])
theorem ziu:Ck zid eB QN Sb:={}
def Zz{P v w a b c d:Int}(h:Bo P)(e:Bo b)(hd:Bo d)(f:a * P=v * b)(g:c * P=w * d):FN [fr a b,fr c d]=↑(.ok<|C6 P<|v+w):=by
 have i:=aA (a:=a) (c:=c) e hd
 have k:=Sq (t:=a * d+c * b) (b:=b * d) (u:=v+w) (c:=P) (Ė e.p hd.p) h.p (by
  calc (a * d+c * b) * P=(a * P) * d+(c * P) * b:=by lia
   _=(v * b) * d+(w * d) * b:=by rw[f,g]
   _=(v+w) * (b * d):=by lia)
 lia
def aB{P v:Int}(h:0<P):Zm.lt v P * P=v * Zm.lb v P:=by
 have a:P≠0:=by lia
 have b:=Zm.lt_mul (t:=v) a;have c:=Zm.lb_mul (t:=v) a
 calc Zm.lt v P * P=Zm.lt v P * (Zm.lb v P * Zm.gd v P):=by rw[c]
  _=(Zm.lt v P * Zm.gd v P) * Zm.lb v P:=by erw[ā,Ľ,Ă]
  _=v * Zm.lb v P:=by rw[b]
structure FP(P a b w:Int):Prop where
 o:Bo b
 e:a * P=w * b
theorem FP.low{P:Int}(h:Bo P)(v:Int):FP P (Zm.lt v P) (Zm.lb v P) v:={h.lb v,aB h.p}
def in3{w:Nat}(h:w<5):ES (.str<|Ep w) (.tup [.str ">",.str ">=",.str "="])=↑(.bl<|decide (2<=w)):=by
 have:w=0\/w=1\/w=2\/w=3\/w=4:=by lia
 rcases this with rfl|rfl|rfl|rfl|rfl<;>ext
def zl8{P:Int}(h:Bo P){ws:kE}(wl:ws.length<=7)(x:Nat->Int){g:kL}(Q:BD ws BU g){c d u:Int}(R:FP P c d u):∃a b w,Nq [.lst g,.lst<|ws.map T.str,.lst<|A9 ws.length P x,fr c d]=↑(.ok<|fr a b)/\FP P a b w:=by
 have m:=Ds ws.length P x;have ev:=AJ _ m;have W:=Q.sh;have eg:=AJ _ W;have M:ws.length<1000000:=by lia
 have H:∀j:Nat,j<ws.length->AW (A9 ws.length P x) (j:Int)=↑(fr (Zm.lt (x<|j+1) P)<|Zm.lb (x<|j+1) P):=λj J=>CY J
 change A9 ws.length P x=VT;let S (v:T) (A C D o r f:kH):AN:=[↑(.lst g),↑(.lst<|ws.map T.str),↑(.lst VT),↑(fr c d),↑v,A,C,D,o,r,f]
 let(Y,e,a,b,w,A,C,D,o,r,f,rfl,E):=FJ (b:=An 3<|AL (AD 5)<|AL (AD 6)<|AL (AD 7) Ao) (body:=Lb) (ts:=g) (Y:=S (fr 0 1) none none none none none none)
  (λϊ Y=>∃a b w A C D o r f,Y=S (fr a b) A C D o r f/\FP P a b w) {0,1,0,none,none,none,none,none,none,rfl,{{by decide,by decide +kernel},by rw[Ĕ,Ĕ]}} λi t Y I s=>by
   let(a,b,w,A,C,D,o,r,f,rfl,E):=s;let(k1,k2,k3,k4):=Gv<|Q t<|ç I;let(j,ej,J,_):=Hl k2;have H:=H j J;let(q1,V):=L3 _ k3;let(_,_,L,_,_):=OL V;have y:=in3 V;rw[q1]at L y;have K:=FP.low h<|x<|j+1
   have G:FP P (Bf t * Zm.lb (x<|j+1) P - Zm.lt (x<|j+1) P) (Zm.lb (x<|j+1) P)<|Bf t * P - x (j+1):={K.o,by
    have:=K.e;change Zm.lt (x<|j+1) P=p;change Zm.lb (x<|j+1) P=q;rw[Ň,Ň,this];erw[ā,Ľ,Ă]}
   have u1:Be (Bf t) (Zm.lb (x<|j+1) P)=true:=EA K.o.s;refine{S (fr a b) (↑(.str<|DM t)) (↑(.str<|DB t)) (↑(.int<|Bf t)) o r f,by rw[k1];simp![S,DM,DB,Bf],?_}
   change DM t=X;generalize DB t=τ at *;change Bf t=n;change n * P - x (j+1)=w1;change Zm.lt (x<|j+1) P=p;change Zm.lb (x<|j+1) P=q
   let(k,l,w2,N,r2):∃k l w2,FP P k l w2/\Aa (m2 Au (AA 6)<|mC<|.str ">") (AO (AM FN<|mJ 8<|mJ 3 AE)<|AD 8) A6 (S (fr a b) (↑(.str X)) (↑(.str τ)) (↑(.int n)) (↑(fr (n * q - p) q)) (↑(.int p))<|↑(.int q))=↑(.nx<|S (fr a b) (↑(.str X)) (↑(.str τ)) (↑(.int n)) (↑(fr k l)) (↑(.int p))<|↑(.int q)):=by
    by_cases U:DI τ=2
    .exact{_,_,_,FP.low h<|w1+u,by simp![S,L,U,ë,Zz h G.o R.o G.e R.e]}
    .exact{_,_,_,G,by simp![S,L,beq_eq_false_iff_ne.mpr U]}
   have Z:Be k b=true:=EA E.o.s;have u3:Be a l=true:=EA N.o.s
   have Az (v:T) (I:decide (2<=DI τ)=true/\a * l<k * b->fr k l=v) (s:¬ (decide (2<=DI τ)=true/\a * l<k * b)->fr a b=v):Lb (S (fr a b) (↑(.str X)) (↑(.str τ)) (↑(.int n)) o r f)=↑(.nx<|S v (↑(.str X)) (↑(.str τ)) (↑(.int n)) (↑(fr k l)) (↑(.int p))<|↑(.int q)):=by
    unfold Lb;refine sq (by simp![S,AV,AS,m,IH,ej,M,H];rfl)<|sq (by simp![S,u1])<|sq r2 ?_
    change decide (2<=DI τ)=B
    by_cases F:a * l<k * b<;>cases B
    .rw[<- s<|by simp]
     simp![S,y]
    .rw[<- I {(rfl),F}]
     simp![S,y,Z,u3,F,ŉ]
    .rw[<- s<|by simp]
     simp![S,y]
    .rw[<- s λz=>F z.2]
     simp![S,y,Z,u3,F,Ŋ]
   by_cases O:decide (2<=DI τ)=true/\a * l<k * b
   .exact{_,Az _ (λϊ=>rfl)<|λz=>absurd O z,k,l,w2,_,_,_,_,_,_,rfl,N}
   .exact{_,Az _ (λz=>absurd z O)<|λϊ=>rfl,a,b,w,_,_,_,_,_,_,rfl,E}
 refine{a,b,w,?_,E};unfold Nq Sb
 simp![S,AV,AS,m,ev,W,eg,e]
abbrev QB:Stmt:=AK 87
def NM:AI:=
 (BN<|AB (mI 0)<|AB (mI 1) AE)
def NN:AI:=
 (AM FN<|mJ 0<|mJ 1 AE)
def Ko:AI:=
 (AH (BJ<|Am (AH (AA 4)<|AA 0)<|Am (BN<|AB (mI 0)<|AB (mI 1) AE) AE)<|m1 K2<|m2 ES (AH (AA 5)<|AA 0)<|AH (AH (AA 1)<|AH (AA 3)<|AA 2)<|mI 3)
def L7:AG:=
 (AF (AO (AA 2)<|AD 11)
 (AF (Aa (m2 (BP λi j=>decide (i<j)) (AA 7)<|m1 BC<|AA 1) (AO (AH (AH (AA 10)<|AH (AA 1)<|AA 7)<|mI 2)<|AD 11) A6)
 (AF (AO (m2 B9 (mI 5)<|AA 7)<|AD 12)
 (AF (Aa (m2 (BP λi j=>decide (i<j)) (AA 7)<|m1 BC<|AA 3) (AO (AH (AA 3)<|AA 7)<|AD 12) A6)
 (AF (AO (AM Eb<|mJ 12<|AB (mI 3) AE)<|AD 13)
 (AF (AO (AM Nq<|mJ 11<|mJ 8<|mJ 5<|AB (BN<|AB (mI 1)<|AB (m2 Aj (mI 1)<|m2 Aq (AH (AA 13)<|mI 0)<|mI 3) AE) AE)<|AD 14)
 (AF (Aa (m2 Au (m2 Aq (AH (AA 13)<|mI 1)<|mI 3)<|mI 0) (AO (AM FN<|mJ 14<|AB (BN<|AB (AH (BJ<|Am (mI 1)<|Am (m2 Aq (AH (AA 13)<|mI 2)<|m2 Aj (mI 1)<|AA 4) AE)<|m2 Aq (m2 BX (AH (AA 13)<|mI 1)<|mI 3)<|mI 2)<|AB (m2 Aj (mI 1)<|m2 Aq (m2 BX (AH (AA 13)<|mI 0)<|mI 3)<|mI 3) AE) AE)<|AD 14) A6)
 (AF (Cv 6<|AA 14)
 (AF (AO (BG 1 [14] (Ax<|AA 5) (AD 0) (mC<|.bl true) NN)<|AD 5)
 (Aa (m2 (BP λi j=>decide (i<j)) (AA 7)<|m1 BC<|AA 1) (AO (BG 1 [10,7,1,5,8] (CN<|AB (m1 BC<|AA 8) AE) (AD 0) (mC<|.bl true) Ko)<|AD 5) A6))))))))))
def S6:AG:=
 (AF (AO (AA 0)<|An 3<|AL (AD 8)<|AL (AD 9)<|AL (AD 10) Ao)
 (AF (AO (AM LK<|mJ 0 AE)<|AD 4)
 (AF (AO (BG 1 [] (Ax<|AA 8) (AD 0) (mC<|.bl true) NM)<|AD 5)
 (AF (Ca 6<|BJ AE)
 (AF (B5 (CN<|AB (m2 Aj (m1 BC<|AA 1)<|mI 1) AE) (AD 7) L7)
 (AQ<|AA 6))))))
def Nl:kL->Option Ru:=AZ 4 15 S6
abbrev dW:=fA 4 4 QB Nl
abbrev zfp:Gm:=gA QB 3 [("_law_scale",Tt),("_law_stream",JB),("_law_need",eB),("_law_plus",Ka)] ["range","len","int"] ["_law_waits_here"] (N:=["_law_spec","_law_road_here","_law_guard_here","_law_cells","_law_scale_here","_law_values","_law_waits_here","_law_k","_law_watches","_law_rooms","_law_doors","_law_looks","_law_cell","_law_xs","_law_wait"])
theorem zg4:Ck zfp dW QB S6:={}
abbrev fw(t:Int×Int):T:=fr t.1 t.2
abbrev wq(A B C D:T)(e:Int)(V W:kL)(k:Int)(X τ Z:T)(a b c d:kH):AN:=[↑A,↑B,↑C,↑D,↑(.int e),↑(.lst V),↑(.own W),↑(.int k),↑X,↑τ,↑Z,a,b,c,d]
theorem HI:Bo 6:={by decide,by decide +kernel}
theorem Uj{d:Int}(a:1<=d)(b:d<=3):Bo d:={by lia,by lia}
def NA{c d:Int}(a:1<=d)(b:d<=3):∃w,FP 6 c d w:=by
 have:d=1\/d=2\/d=3:=by lia
 rcases this with rfl|rfl|rfl
 .exact{c * 6,Uj (by decide) (by decide),by lia}
 .exact{c * 3,Uj (by decide) (by decide),by lia}
 .exact{c * 2,Uj (by decide) (by decide),by lia}
def Zs(i:Int):1<=1+i.fmod 3/\1+i.fmod 3<=3:=by
 lia
def zdu{ws:kE}{rs:List<|Str×kL}{dd:List Sd}(K:SpK ws rs dd){ks:kF}(hks:∀k∈ks,0<=k/\k<(dd.length:Int)){g:kL}(hg:BD ws BU g)(cs:kF){I:Int}(s0:0<=I)(x:Nat->Int)(W:List<|Int×Int)(hW:W.length<=1000)(k:Nat)(y11 G s u:kH) :
  ∃(x':Nat->Int) (t:Int×Int) (w:Int) (z11 z12 z13 z14:kH),L7 (wq (Aw ws rs dd) (.lst<|ks.map T.int) (.lst g) (.lst<|cs.map T.int) I (A9 ws.length 6 x) (W.map fw) (k:Int) (.lst<|ws.map T.str) (Cb rs) (.lst<|dd.map BK) y11 G s u) =
   ↑(.nx<|wq (Aw ws rs dd) (.lst<|ks.map T.int) (.lst g) (.lst<|cs.map T.int) I (A9 ws.length 6 x') ((W++[t]).map fw) (k:Int) (.lst<|ws.map T.str) (Cb rs) (.lst<|dd.map BK) z11 z12 z13 z14)/\FP 6 t.1 t.2 w:=by
 have sd:=K.sp.sd;have ed:=AJ _ sd;have w2:=K.w2;have tw:CD ws:=K.mc.tw;have sg:=hg.sh;have Y:=AJ _ sg;have J:=Cm ks;have X:=Cq ks;have N:=Cm cs;have ec:=Cq cs;have B:(ks.map T.int).length=ks.length:=Á ..;have HG:(cs.map T.int).length=cs.length:=Á ..;have hc:∀h:k<cs.length,AW (cs.map T.int) (k:Int)=↑(.int cs[k]):=λhk=>C7 (by rw[Ë,Â hk];rfl)
 let(d,hd):∃d:Sd,k<ks.length->d∈dd/\∃j,AW (ks.map T.int) (k:Int)=↑(.int j)/\AW (dd.map BK) j=↑(BK d):=by
  by_cases hk:k<ks.length
  .have H:=hks _<|Ò hk;have hl:ks[k].toNat<dd.length:=by lia
   exact{dd[ks[k].toNat],λϊ=>{Ò hl,_,C7 (by rw[Ë,Â hk];rfl),NS BK<|Ht H.1<|Â hl}}
  .exact{{0,0,[],[],Str.empty},λz=>absurd z hk}
 have D:k<ks.length->BD ws BU d.g:=λhk=>(K.sp.d d (hd hk).1).g
 have dn:k<ks.length->∀z∈d.n,z∈ws:=λhk=>(K.sp.d d (hd hk).1).n
 generalize Aw ws rs dd=A;generalize Cb rs=RT;change ks.map T.int=KT;change cs.map T.int=CT;change dd.map BK=DT;let S (V W:kL) (a b c d:kH):=wq A (.lst KT) (.lst g) (.lst CT) I V W (k:Int) (.lst<|ws.map T.str) RT (.lst DT) a b c d
 let(L,hL,r2):∃L:kL,BD ws BU L/\∀V e,Aa (m2 (BP λi j=>decide (i<j)) (AA 7)<|m1 BC<|AA 1) (AO (AH (AH (AA 10)<|AH (AA 1)<|AA 7)<|mI 2)<|AD 11) A6 (S V e (↑(.lst g)) G s u)=↑(.nx<|S V e (↑(.lst L)) G s u):=by
  by_cases hk:k<ks.length
  .let(_,j,Q,R):=hd hk;have dg:=(D hk).sh;exact{d.g,D hk,λV e=>by simp![S,J,X,B,Ĝ.mpr hk,ŉ,sd,Q,R,dg,AJ _ dg,AS]}
  .exact{g,hg,λV e=>by simp![S,J,X,B,Ĝ,hk,Ŋ]}
 let(c,r4):∃c:Int,∀V e,Aa (m2 (BP λi j=>decide (i<j)) (AA 7)<|m1 BC<|AA 3) (AO (AH (AA 3)<|AA 7)<|AD 12) A6 (S V e (↑(.lst L)) (↑(.int<|5 * (k:Int))) s u)=↑(.nx<|S V e (↑(.lst L)) (↑(.int c)) s u):=by
  by_cases hk:k<cs.length
  .exact{cs[k],λV e=>by simp![S,N,ec,HG,Ĝ.mpr hk,ŉ,hc hk]}
  .exact{5 * (k:Int),λV e=>by simp![S,N,ec,HG,Ĝ,hk,Ŋ]}
 let(xs,es):=Jb c (m:=3)<|by decide
 have Z:Eb [.int c,.int 3]=↑(.ok<|.own<|mT 3 λi=>.int<|xs i):=es
 have O:A4 (mT 3 λi=>T.int<|xs i)=true:=Fm _
 have ex:=AJ _ O;have x0:AW (mT 3 λi=>T.int<|xs i) 0=↑(.int<|xs 0):=CY (k:=0)<|by decide
 have x1:AW (mT 3 λi=>T.int<|xs i) 1=↑(.int<|xs 1):=CY (k:=1)<|by decide
 have x2:AW (mT 3 λi=>T.int<|xs i) 2=↑(.int<|xs 2):=CY (k:=2)<|by decide
 change (mT 3 λi=>T.int<|xs i)=XT
 have q0:=Zs<|xs 0;let(wl,hwl):=NA (c:=1) q0.1 q0.2;let(a,b,w,en,hF):=zl8 HI (by lia:ws.length<=7) x hL hwl
 have F:=Ds ws.length 6 x;have ev:=AJ _ F;have sL:=hL.sh;have eL:=AJ _ sL;have s3:Bd 3=true:=Bv (by decide)<|by decide
 obtain⟨t,q,hT,r7⟩:∃(t:Int×Int) (q:Int),FP 6 t.1 t.2 q/\∀V e,Aa (m2 Au (m2 Aq (AH (AA 13)<|mI 1)<|mI 3)<|mI 0) (AO (AM FN<|mJ 14<|AB (BN<|AB (AH (BJ<|Am (mI 1)<|Am (m2 Aq (AH (AA 13)<|mI 2)<|m2 Aj (mI 1)<|AA 4) AE)<|m2 Aq (m2 BX (AH (AA 13)<|mI 1)<|mI 3)<|mI 2)<|AB (m2 Aj (mI 1)<|m2 Aq (m2 BX (AH (AA 13)<|mI 0)<|mI 3)<|mI 3) AE) AE)<|AD 14) A6
   (S V e (↑(.lst L)) (↑(.int c)) (↑(.lst XT))<|↑(fr a b))=↑(.nx<|S V e (↑(.lst L)) (↑(.int c)) (↑(.lst XT))<|↑(fw t)):=by
  by_cases h3:(xs 1).fmod 3=0
  .have q1:=Zs<|(xs 0).fdiv 3
   let(m,em):∃m:Int,AW [T.int 1,.int<|(xs 2).fmod (1+I)] (((xs 1).fdiv 3).fmod 2)=↑(.int m):=by
    have h0:=í ((xs 1).fdiv 3)<|show(0:Int)<2 by decide
    have h1:=ú ((xs 1).fdiv 3)<|show(0:Int)<2 by decide
    have:((xs 1).fdiv 3).fmod 2=0\/((xs 1).fdiv 3).fmod 2=1:=by lia
    rcases this with z|z<;>rw[z]
    .exact{1,G3}
    .exact{_,Fy}
   let(wm,M):=NA (c:=m) q1.1 q1.2;have nz:((1+I)=0)=False:=Ċ<|by lia
   exact{(Zm.lt (w+wm) 6,Zm.lb (w+wm) 6),_,FP.low HI<|w+wm,λV e=>by simp![S,O,x0,x1,x2,h3,Cc,ë,nz,s3,em,Zz HI hF.o M.o hF.e M.e]}
  .exact{(a,b),w,hF,λV e=>by simp![S,O,x1,beq_eq_false_iff_ne.mpr h3,Cc]}
 have lc:Bi (AD 0) (mC<|.bl true) NN (A9 ws.length 6 x) [none,↑(fw t)]=↑(A9 ws.length 6 λp=>x p+q):=EH (n:=ws.length) (me:=NN) (x:=none) (cs:=[↑(fw t)]) (g:=λj=>C6 6<|x<|j+1) (f:=λj=>C6 6<|x (j+1)+q) λj E=>by
  unfold NN
  simp![So (v:=x<|j+1) HI hT.o hT.e]
 have ll:(A9 ws.length 6 x).length<=100000:=by rw[BO];lia
 have lW:(W.map fw).length<100000:=by rw[Á];lia
 have r:=Ds ws.length 6 λp=>x p+q
 have C:=AJ _ r;have U:∀j,j<ws.length->AW (A9 ws.length 6 λp=>x p+q) (j:Int)=↑(C6 6<|x (j+1)+q):=λj E=>CY E
 let(x',r10):∃x':Nat->Int,∀e z11 z12 z13,Aa (m2 (BP λi j=>decide (i<j)) (AA 7)<|m1 BC<|AA 1) (AO (BG 1 [10,7,1,5,8] (CN<|AB (m1 BC<|AA 8) AE) (AD 0) (mC<|.bl true) Ko)<|AD 5) A6 (S (A9 ws.length 6 λp=>x p+q) e z11 z12 z13<|↑(fw t))=↑(.nx<|S (A9 ws.length 6 x') e z11 z12 z13<|↑(fw t)):=by
  by_cases hk:k<ks.length
  .let(_,i,Q,R):=hd hk;have dg:=(D hk).sh;have ok:CI (ws.length:Int)=true:=EZ<|by lia
   have rg:Br 0 ws.length=mT ws.length λi=>.int (i:Int):=Ci
   have a3 {x y z v:T} {l:kL}:AW (x::y::z::v::l) (3:Int)=↑v:=C7 (j:=3) rfl;let f (p:Nat):=if ws.getD (p - 1) Str.empty∈d.n then 0 else x p+q
   have lwl:ws.length<=100000:=by lia
   change (A9 ws.length 6 λp=>x p+q)=VU
   have Fe:Bi (AD 0) (mC<|.bl true) Ko (mT ws.length λi=>.int (i:Int)) [none,↑(.lst DT),↑(.int (k:Int)),↑(.lst KT),↑(.lst VU),↑(.lst<|ws.map T.str)]=↑(A9 ws.length 6 f):=EH (n:=ws.length) (me:=Ko) (x:=none) (g:=λi=>.int (i:Int)) (f:=λj=>C6 6<|f<|j+1) λj E=>by
    have aw:AW (ws.map T.str) (j:Int)=↑(.str ws[j]):=C7 (by rw[Ë,Â E];rfl)
    have ei:=Iq (o:=false) (k:=.lst) (λz hz=>tw z<|dn hk z hz)<|tw _<|Ò E
    have Y:f (j+1)=if ws[j]∈d.n then 0 else x (j+1)+q:=by erw[f];rw[Ŗ,Ú,Â E];rfl
    have U:=U j E;rw[Y];unfold Ko
    by_cases H:ws[j]∈d.n
    .rw[if_pos H,K6<|by decide]
     simp![AV,AS,aw,U,ei,H,ŉ,J,sd,Q,R,a3,dg,r,C]
    .rw[if_neg H]
     simp![AV,AS,aw,U,ei,H,Ŋ,J,sd,Q,R,a3,dg,r,C]
   have P:=Ds ws.length 6 f;refine{f,λe z11 z12 z13=>?_}
   change A9 ws.length 6 f=V3
   simp![S,J,X,B,Ĝ.mpr hk,ŉ,AV,AS,Á,ok,ï,rg,Fe,lwl,r,C,sd,ed,P,AJ _ P]
  .exact{λp=>x p+q,λe z11 z12 z13=>by simp![S,J,X,B,Ĝ,hk,Ŋ]}
 refine{x',t,q,↑(.lst L),↑(.int c),↑(.lst XT),↑(fw t),?_,hT};have m5:Be 5 (k:Int)=true:=Hc<|Cn (by decide)<|by decide
 rw[è];unfold L7;change W.map fw=WT;change (A9 ws.length 6 λp=>x p+q)=VU
 change A9 ws.length 6 x=VT;refine sq (by simp![sg,Y];rfl)<|sq (r2 _ _)<|sq (by simp![S,m5];rfl)<|sq (r4 _ _)<|sq (by simp![S,Z,O,ex];rfl)<|sq (by simp![sL,eL,AV,AS,F,ev,O,x0,en];rfl)<|sq (r7 _ _)<|sq (by simp![S,lW];rfl)<|sq (by simp![F,ev,lc,ll,r,C];rfl)<|r10 _ _ _ _
def zgs{ws:kE}{rs:List<|Str×kL}{dd:List Sd}(K:SpK ws rs dd){ks:kF}(hl:ks.length<=10)(v:∀k∈ks,0<=k/\k<(dd.length:Int)){g:kL}(H:BD ws BU g)(cs:kF):∃W:List (Int×Int),Nl [Aw ws rs dd,.lst<|ks.map T.int,.lst g,.lst<|cs.map T.int]=↑(.ok<|.own<|W.map fw)/\W.length=ks.length+1/\∀t∈W,∃w,FP 6 t.1 t.2 w:=by
 have z:=Eh K.sp.r;have P:=AJ _ z;have sd:=K.sp.sd;have M:=AJ _ sd;have w2:=K.w2;have J:=H.sh;have N:=AJ _ J;have sk:=Cm ks;have O:=Cq ks;have B:=Cm cs;have L:=Cq cs;let(A,s0,p):=Wi (ws:=ws) (rs:=rs) (dd:=dd) z sd (λr I=>{(K.sp.r.lk r I).1,K.l2 r I}) λd hd=>{(K.sp.d d hd).g,K.g2 d hd}
 have X:Bi (AD 0) (mC<|.bl true) NM (ws.map T.str) [none]=↑(A9 ws.length 6 λϊ=>0):=by
  have:=Gw (b:=AD 0) (me:=NM) T.str (λϊ=>C6 6 0) (λY=>∃y,Y=[y]) ws [none] {(none),rfl} λx hx Y R=>by
   let(y,rfl):=R;refine{[↑(.str x)],by simp![],?_,_,rfl}
   rw[K6<|by decide]
   unfold NM
   simp![]
  rw[this];refine congrArg some<|EC (Á _) λi U=>?_
  rw[Ë,Â U]
  rfl
 have l:=K8 (b:=AD 7) (body:=L7) (n:=ks.length+1) (g:=λi=>.int (i:Int)) (Y:=[↑(Aw ws rs dd),↑(.lst<|ks.map T.int),↑(.lst g),↑(.lst<|cs.map T.int),↑(.int A),↑(.lst<|A9 ws.length 6 λϊ=>0),↑(.own []),none,↑(.lst<|ws.map T.str),↑(Cb rs),↑(.lst<|dd.map BK),none,none,none,none])
  (λk Y=>∃(x:Nat->Int) (W:List<|Int×Int) (C a c f h:kH),Y=[↑(Aw ws rs dd),↑(.lst<|ks.map T.int),↑(.lst g),↑(.lst<|cs.map T.int),↑(.int A),↑(.lst<|A9 ws.length 6 x),↑(.own<|W.map fw),C,↑(.lst<|ws.map T.str),↑(Cb rs),↑(.lst<|dd.map BK),a,c,f,h]/\W.length=k/\∀t∈W,∃w,FP 6 t.1 t.2 w)
  {λϊ=>0,[],none,none,none,none,none,rfl,rfl,λt V=>by cases V} (by
   rintro k Y hk ⟨x,W,C,a,c,f,h,rfl,s,q⟩;let(x',t,w,D,E,F,G,e,S):=zdu K v H cs s0 x W (by lia) k a c f h
   refine{wq (Aw ws rs dd) (.lst<|ks.map T.int) (.lst g) (.lst<|cs.map T.int) A (A9 ws.length 6 x) (W.map fw) (k:Int) (.lst<|ws.map T.str) (Cb rs) (.lst<|dd.map BK) a c f h,?_,_,e,x',W++[t],↑(.int (k:Int)),D,E,F,G,rfl,by rw[à,s];rfl,λu j=>?_}
   .generalize A9 ws.length 6 x=VT;generalize W.map fw=WT
    simp![]
   .rcases ä.mp j with j|j
    .exact q u j
    .rw[Ô.mp j];exact{(w),S})
 let(Y',e,x,W,C,a,c,f,h,rfl,s,q):=l;refine{W,?_,s,q};have sW:A4 (W.map fw)=true:=Dd λϊ ϊ=>rfl
 have ok:CI ((ks.length:Int)+1)=true:=EZ (n:=ks.length+1)<|by lia
 have tn:((ks.length:Int)+1).toNat=ks.length+1:=by lia
 have rg:Br 0 (ks.length+1)=mT (ks.length+1) λi=>.int (i:Int):=Ci
 have Z:ws.length<=100000:=by lia
 have m:=Ds ws.length 6 λϊ=>0
 have Q:=AJ _ m;have o:(ks.map T.int).length=ks.length:=Á ..;change (A9 ws.length 6 λϊ=>0)=V0
 change A9 ws.length 6 x=VT;change W.map fw=WT;change ks.map T.int=KT;change cs.map T.int=CT;unfold Nl S6
 simp![AV,AS,z,P,sd,M,sk,O,J,N,B,L,p,X,Á,Z,m,Q,o,ok,tn,rg,e,sW]
abbrev QX:Stmt:=AK 88
def GD:AG:=
 (AF (Aa (BE (m2 (CM false) (AA 4)<|mC .non)<|m2 (BP λi j=>decide (i<j)) (AH (AH (AA 3)<|AA 6)<|mI 0)<|mI 0) (AQ<|mC<|.bl false) A6)
 (AO (AM Nm<|mJ 0<|mJ 4<|AB (AH (AA 3)<|AA 6)<|AB (AH (AA 5)<|AA 6) AE)<|AD 4))
def KD:AG:=
 (AF (AO (AM JU<|mJ 0 AE)<|AD 4)
 (AF (AO (m2 Aj (m1 C1<|AA 1)<|BJ<|Am (mC .non) AE)<|AD 5)
 (AF (B5 (CN<|AB (m1 BC<|AA 5) AE) (AD 6) GD)
 (AQ<|Bx (m2 (CM true) (AA 4)<|mC .non)<|AM En<|mJ 2<|AB (AH (AA 0)<|mI 0)<|AB (AH (AA 4)<|mI 1) AE))))
def JW:kL->Option Ru:=AZ 4 7 KD
abbrev eI:=fA 4 4 QX JW
abbrev zig:Gm:=gA QX 3 [("_law_start",Ts),("_law_step",Tr),("_law_holds",Kb)] ["list","range","len"]
theorem zix:Ck zig eI QX KD:={}
def Jc(W:List<|Int×Int)(w:Int×Int->Int)(ks:kF):List<|Int×Option Nat:=(W.map w).zip (ks.map (λk=>↑k.toNat)++[none])
abbrev gS(A:T)(a1 a2:kH)(W D:kL)(s:T)(x:kH):AN:=[↑A,a1,a2,↑(.lst W),↑s,↑(.lst D),x]
def bY{P:Int}(h:Bo P){ws:kE}{rs:List<|Str×kL}{dd:List Sd}(K:SpK ws rs dd){W:List<|Int×Int}{w:Int×Int->Int}(v:∀t∈W,FP P t.1 t.2<|w t){D:List<|Option Nat}(q:∀k∈D,∀i∈k,i<dd.length)(Q:W.length=D.length){a1 a2:kH} :
  ∀(n:Nat) (i:Nat) (s:Option<|Nat×(Nat->Int)) (x6:kH),i+n=D.length->(∀st∈s,st.1<rs.length) ->
   ((∃y6,Ak (AD 6) GD ((List.range' i n).map λj:Nat=>T.int (j:Int)) (gS (Aw ws rs dd) a1 a2 (W.map fw) (D.map BH) (CH P ws.length s) x6)=↑(.nx<|gS (Aw ws rs dd) a1 a2 (W.map fw) (D.map BH) (CH P ws.length<|DK P ws rs dd s<|((W.drop i).map w).zip (D.drop i)) y6))/\(n=0\/s≠none)/\∀t∈W.drop i,0<=t.1) \/
   Ak (AD 6) GD ((List.range' i n).map λj:Nat=>T.int (j:Int)) (gS (Aw ws rs dd) a1 a2 (W.map fw) (D.map BH) (CH P ws.length s) x6)=↑(.rt<|.bl false)
 |0,i,s,x6,O,z=>.inl {{x6,by
   have H:W.drop i=[]:=List.drop_eq_nil_of_le<|by lia
   rw[H]
   cases s<;>rfl},.inl rfl,λt f=>by
    rw[List.drop_eq_nil_of_le<|by lia]at f
    cases f}
 |n+1,i,s,x6,O,z=>by
  have B:=Eh K.sp.r;have N:=AJ _ B;have sd:=K.sp.sd;have J:=AJ _ sd;have d:i<D.length:=by lia
  have a:i<W.length:=by lia
  have p:AW (W.map fw) (i:Int)=↑(fr W[i].1 W[i].2):=C7 (by rw[Ë,Â a];rfl)
  have F:AW (D.map BH) (i:Int)=↑(BH D[i]):=C7 (by rw[Ë,Â d];rfl)
  have u:=v _<|Ò a;have hk:=q _<|Ò d;have A:(BH D[i]).sh=true:=by cases D[i]<;>rfl
  have L:=CW _ A;have C:A4 (W.map fw)=true:=Dd λϊ ϊ=>rfl
  have S:A4 (D.map BH)=true:=Dd λk ϊ=>by cases k<;>rfl
  rw[List.range'_succ,Ï];cases s with
  |none=>
   refine .inr<|UB rfl ?_;show GD [_,_,_,_,↑.non,_,_]=_;unfold GD
   simp![]
  |some st=>
   let(r,x):=st;have y:r<rs.length:=z _ rfl;have l:=Ds ws.length P x;have o:=AJ _ l;have stp:=WZ h K y x u.o u.e hk;have E:=IV P ws.length<|Cf P ws rs dd (r,x) (w W[i]) D[i];have M:=CW _ E
   by_cases c:W[i].1<0
   .have m:decide (W[i].1<0)=true:=É c;refine .inr<|UB rfl ?_;show GD [_,_,_,_,↑(.tup [_,.lst<|A9 ws.length P x]),_,_]=_;change A9 ws.length P x=VT;change W[i].1=wa;change W[i].2=wb;change W.map fw=WT;unfold GD
    simp![C,p,m]
   .have m:decide (W[i].1<0)=false:=Ù c
    have g:GD (gS (Aw ws rs dd) a1 a2 (W.map fw) (D.map BH) (FX P ws.length r x)<|↑(.int (i:Int)))=↑(.nx<|gS (Aw ws rs dd) a1 a2 (W.map fw) (D.map BH) (CH P ws.length<|Cf P ws rs dd (r,x) (w W[i]) D[i])<|↑(.int (i:Int))):=by
     change CH P ws.length (Cf P ws rs dd (r,x) (w W[i]) D[i])=OT;unfold FX at *;change A9 ws.length P x=VT;change BH D[i]=KT;change W[i].1=wa;change W[i].2=wb;change W.map fw=WT;change D.map BH=DT;unfold GD
     simp![C,p,m,S,F,A,L,AV,AS,B,N,sd,J,l,o,stp,E,M]
    have step:=Fw (b:=AD 6) (t:=.int (i:Int)) (ts:=(List.range' (i+1) n).map λj:Nat=>T.int (j:Int)) (Y:=gS (Aw ws rs dd) a1 a2 (W.map fw) (D.map BH) (FX P ws.length r x) x6) rfl g
    have R:=bY h K v q Q (a1:=a1) (a2:=a2) n (i+1) (Cf P ws rs dd (r,x) (w W[i]) D[i]) (↑(.int (i:Int))) (by lia) λU G=>Wa K y G
    rw[show CH P ws.length (↑(r,x))=FX P ws.length r x from rfl]
    rcases R with ⟨⟨y6,e⟩,_,I⟩|e
    .refine .inl {{y6,?_},.inr (by simp),λt f=>?_}
     .rw[step,e,ċ a,ċ d]
      rfl
     .rw[ċ a]at f
      rcases Ì.mp f with rfl|f
      .lia
      .exact I t f
    .exact .inr<|step.trans e
def zls{P:Int}(h:Bo P){ws:kE}{rs:List<|Str×kL}{dd:List Sd}(K:SpK ws rs dd){ks:kF}(Z:ks.length<=100)(f:∀k∈ks,0<=k/\k<(dd.length:Int)){g:kL}(M:BD ws BU g){W:List<|Int×Int}{w:Int×Int->Int}(S:∀t∈W,FP P t.1 t.2<|w t)(hn:W.length=ks.length+1) :
  ∃b:Bool,JW [Aw ws rs dd,.lst<|ks.map T.int,.lst g,.lst<|W.map fw]=↑(.ok<|.bl b)/\(b=true->(∀t∈W,0<=t.1)/\∃s,DK P ws rs dd (Bu P ws rs) (Jc W w ks)=↑s/\BI P (g.map<|A2 ws) s.2=true):=by
 have m:=Eh K.sp.r;have F:=AJ _ m;have sd:=K.sp.sd;have A:=AJ _ sd;have w2:=K.w2;have p:=M.sh;have B:=AJ _ p;have L:=Cm ks;have C:=Cq ks;have o:A4 (W.map fw)=true:=Dd λϊ ϊ=>rfl
 have y:=AJ _ o;have st:=W3 h K;have u:=IV P ws.length<|Bu P ws rs;have E:=CW _ u
 have X:∀s∈Bu P ws rs,s.1<rs.length:=λs e=>by
  unfold Bu at e;split at e
  .cases e;have:=K.sp.r.l1
   lia
  .cases e
 let(D,c):∃D:List (Option Nat),D=ks.map (λk=>↑k.toNat)++[none]:={_,rfl}
 have R:D.length=ks.length+1:=by rw[c,à,Á];rfl
 have d:D.map BH=ks.map T.int++[.non]:=by
  rw[c,è,ü];refine congrArg (·++[T.non])<|ĥ λk hk=>?_
  show T.int ((k.toNat:Nat):Int)=.int k;rw[œ (f k hk).1]
 have Q:∀k∈D,∀i∈k,i<dd.length:=λk hk i I=>by
  rw[c]at hk
  rcases ä.mp hk with hk|hk
  .let(q,V,rfl):=Ó.mp hk;cases I;have:=f q V
   lia
  .rw[Ô.mp hk]at I;cases I
 have ok:CI ((D.map BH).length:Int)=true:=EZ (by rw[Á];lia)
 have J:Br 0 (D.map BH).length=(List.range' 0 (D.map BH).length).map λj:Nat=>T.int (j:Int):=by
  rw[<- List.range_eq_range'];exact Ci
 have n:A4 (D.map BH)=true:=Dd λk ϊ=>by cases k<;>rfl
 have v:=AJ _ n;have l1:(ks.map T.int).length+1<=100000:=by rw[Á];lia
 have lk:(ks.map T.int).length<=100000:=by lia
 have a:=bY h K S Q (by lia) (a1:=↑(.lst<|ks.map T.int)) (a2:=↑(.lst g)) (D.map BH).length 0 (Bu P ws rs) none (by rw[Á];lia) X
 rw[List.drop_zero,List.drop_zero]at a;have G:((W.map w).zip D)=Jc W w ks:=by unfold Jc;rw[c]
 rw[G]at a
 rcases a with ⟨⟨y6,e⟩,_,O⟩|e
 .have Y:=IV P ws.length<|DK P ws rs dd (Bu P ws rs)<|Jc W w ks;cases N:DK P ws rs dd (Bu P ws rs) (Jc W w ks) with
  |none=>
   rw[N]at e;refine{false,?_,λz=>by cases z}
   rw[show CH P ws.length none=.non from rfl]at e;change CH P ws.length (Bu P ws rs)=OT;rw[d]at *;change ks.map T.int=KT;change W.map fw=WT;unfold JW KD
   simp![AV,AS,m,F,sd,A,L,C,p,B,o,y,st,u,E,lk,l1,n,v,ok,ï,J,e]
  |some s=>
   rw[N]at e;let(r,x):=s;have U:=Iv h (by lia:ws.length<=7) x M
   have l:=Ds ws.length P x;have H:=AJ _ l;refine{BI P (g.map<|A2 ws) x,?_,λz=>{O,_,rfl,z}}
   rw[show CH P ws.length (↑(r,x))=.tup [.int (r:Int),.lst<|A9 ws.length P x] from rfl]at e;change CH P ws.length (Bu P ws rs)=OT;change BI P (g.map<|A2 ws) x=bb;rw[d]at *;change ks.map T.int=KT;change W.map fw=WT;change A9 ws.length P x=VT;unfold JW KD;cases bb<;>simp![AV,AS,m,F,sd,A,L,C,p,B,o,y,st,u,E,lk,l1,n,v,ok,ï,J,e,l,H,U]
 .refine{false,?_,λz=>by cases z}
  change CH P ws.length (Bu P ws rs)=OT;rw[d]at *;change ks.map T.int=KT;change W.map fw=WT;unfold JW KD
  simp![AV,AS,m,F,sd,A,L,C,p,B,o,y,st,u,E,lk,l1,n,v,ok,ï,J,e]
abbrev QO:Stmt:=AK 91
def KC:AG:=
 (AF (AO (AM Eb<|mJ 0<|AB (mI 3) AE)<|AD 1)
 (AF (Aa (m2 Au (m2 Aq (AH (AA 1)<|mI 2)<|mI 2)<|mI 0) (AQ<|BN<|AB (mI 1)<|AB (m2 Aj (mI 2)<|m2 Aq (AH (AA 1)<|mI 1)<|AH (BJ<|Am (mI 10)<|Am (m2 DS (mI 10)<|mI 9) AE)<|m2 Aq (m2 BX (AH (AA 1)<|mI 2)<|mI 2)<|mI 2) AE) A6)
 (AF (AO (AM LO<|AB (m2 Aj (mI 1)<|m2 Aq (AH (AA 1)<|mI 0)<|m2 DS (mI 10)<|mI 9)<|AB (m2 Aj (mI 1)<|m2 Aq (AH (AA 1)<|mI 1)<|m2 DS (mI 10)<|mI 9) AE)<|AD 2)
 (AQ<|BN<|AB (m2 BX (m2 Aj (mI 1)<|m2 Aq (AH (AA 1)<|mI 0)<|m2 DS (mI 10)<|mI 9)<|AA 2)<|AB (m2 BX (m2 Aj (mI 1)<|m2 Aq (AH (AA 1)<|mI 1)<|m2 DS (mI 10)<|mI 9)<|AA 2) AE))))
def JV:kL->Option Ru:=AZ 1 3 KC
abbrev eC:=fA 2 1 QO JV
abbrev zie:Gm:=gA QO 1 [("_law_stream",JB),("_law_divisor",Tw)] []
theorem ziv:Ck zie eC QO KC:={}
def zl9(c:Int):∃p q:Int,JV [.int c]=↑(.ok<|fr p q)/\0<p/\0<q/\q<=10 ^ 9+1:=by
 let(xs,e):=Jb c (m:=3)<|by decide
 have h:Eb [.int c,.int 3]=↑(.ok<|.own<|mT 3 λi=>.int<|xs i):=e
 have g:A4 (mT 3 λi=>T.int<|xs i)=true:=Fm _
 have ex:=AJ _ g;have s:AW (mT 3 λi=>T.int<|xs i) 0=↑(.int<|xs 0):=CY (k:=0)<|by decide
 have u:AW (mT 3 λi=>T.int<|xs i) 1=↑(.int<|xs 1):=CY (k:=1)<|by decide
 have x2:AW (mT 3 λi=>T.int<|xs i) 2=↑(.int<|xs 2):=CY (k:=2)<|by decide
 change xs 0=a;change xs 1=b;change xs 2=d;change (mT 3 λi=>T.int<|xs i)=XT
 have n:(0:Int)<=9/\(9:Int)<=1000000/\DJ 10=true:={by decide,by decide,Cn (by decide)<|by decide}
 have v:((10:Int) ^ 9≠0)=True:=by simp
 have o:(9:Int).toNat=9:=rfl;have r:Bd 2=true:=Bv (by decide)<|by decide
 by_cases hd:d.fmod 2=0
 .have q:(d.fdiv 2).fmod 2=0\/(d.fdiv 2).fmod 2=1:=by
   rw[fm (j:=2)<|by decide]
   lia
  rcases q with q|q
  .have w:=í b<|show(0:Int)<10 by decide
   have x:=ú b<|show(0:Int)<10 by decide
   refine{1,2+b.fmod 10,?_,by decide,by lia,by lia}
   unfold JV KC
   simp![h,g,ex,s,u,x2,hd,n,o,v,r,Cc,q]
  .have w:=í b<|show(0:Int)<10 ^ 9 by decide
   have x:=ú b<|show(0:Int)<10 ^ 9 by decide
   refine{1,2+b.fmod (10 ^ 9),?_,by decide,by lia,by lia}
   unfold JV KC
   simp![h,g,ex,s,u,x2,hd,n,o,v,r,Cc,q]
 .have w:=í a<|show(0:Int)<10 ^ 9 by decide
  have x:=ú a<|show(0:Int)<10 ^ 9 by decide
  have G:=í b<|show(0:Int)<10 ^ 9 by decide
  have H:=ú b<|show(0:Int)<10 ^ 9 by decide
  have l:(d.fmod 2 == 0)=false:=beq_eq_false_iff_ne.mpr hd;have f:0<1+b.fmod (10 ^ 9):=by lia
  have F:=aP (1+a.fmod (10 ^ 9)) f;have y:=Zm.gd_pos (a:=1+a.fmod (10 ^ 9)) (b:=1+b.fmod (10 ^ 9))<|by lia
  have C:=Zm.gd_le (a:=1+a.fmod (10 ^ 9)) f;have D:Bd (Zm.gd (1+a.fmod (10 ^ 9))<|1+b.fmod (10 ^ 9))=true:=Bv (ń (by decide) y)<|Ħ C<|ń (by lia:1+b.fmod (10 ^ 9)<10 ^ 9+2)<|by decide
  have E:(Zm.gd (1+a.fmod (10 ^ 9)) (1+b.fmod (10 ^ 9))≠0)=True:=eq_true<|by lia
  have lb:=Zm.lb_pos (t:=1+a.fmod (10 ^ 9)) f;have le:=Zm.lb_le (t:=1+a.fmod (10 ^ 9)) f
  have lt:0<Zm.lt (1+a.fmod (10 ^ 9)) (1+b.fmod (10 ^ 9)):=by
   have z:=Zm.lt_mul (t:=1+a.fmod (10 ^ 9)) (b:=1+b.fmod (10 ^ 9))<|by lia
   refine Int.pos_of_mul_pos_left ?_ y;rw[z]
   lia
  refine{_,_,?_,lt,lb,by lia}
  unfold Zm.lt Zm.lb;generalize A:1+a.fmod (10 ^ 9)=a' at *;generalize B:1+b.fmod (10 ^ 9)=b' at *;unfold JV KC
  simp![h,g,ex,s,u,x2,l,n,o,v,r,Cc,A,B,F,D,E]
abbrev QC:Stmt:=AK 89
def OW:AG:=
 (AO (AM FN<|mJ 1<|mJ 2 AE)<|AD 1)
def S7:AG:=
 (AF (AO (BN<|AB (mI 0)<|AB (mI 1) AE)<|AD 1)
 (AF (B5 (Ax<|AA 0) (AD 2) OW)
 (AQ<|AA 1)))
def LJ:kL->Option Ru:=AZ 1 3 S7
abbrev Tq:=fA 3 1 QC LJ
abbrev zlu:Gm:=gA QC 2 [("_law_plus",Ka)] []
theorem zmb:Ck zlu Tq QC S7:={}
def WU{P:Int}(h:Bo P){w:Int×Int->Int}{a0:kH}:∀(W:List<|Int×Int) (v:Int) (x2:kH),(∀t∈W,FP P t.1 t.2<|w t)->∃y2,Ak (AD 2) OW (W.map fw) [a0,↑(C6 P v),x2]=↑(.nx [a0,↑(C6 P<|v+(W.map w).sum),y2])
 |[],v,x2,ϊ=>{x2,by rw[show v+(([]:List<|Int×Int).map w).sum=v by simp];rfl}|t::W,v,x2,b=>by
  have a:=b t (Í ..);have e:=So (v:=v) h a.o a.e;let(y2,d):=WU h W (v+w t) (↑(fw t)) λs c=>b s<|Ê _ c
  refine{y2,?_};rw[Ï,Ï,ł,<- Int.add_assoc,<- d];refine Fw (τ1:=[a0,↑(C6 P v),↑(fw t)]) rfl ?_;unfold OW
  simp![e]
def WR{P:Int}(h:Bo P){W:List<|Int×Int}{w:Int×Int->Int}(c:∀t∈W,FP P t.1 t.2<|w t):LJ [.lst<|W.map fw]=↑(.ok<|C6 P (W.map w).sum):=by
 let(d,e):=WU h W 0 none c (a0:=↑(.lst<|W.map fw));have a:A4 (W.map fw)=true:=Dd λϊ ϊ=>rfl
 have b:=AJ _ a;rw[K6 h.p,Int.zero_add]at e;change (W.map w).sum=S;change W.map fw=WT;unfold LJ S7
 simp![a,b,e]
abbrev Q1:Stmt:=AK 90
def Mf:AG:=
 (AF (AO (m2 EI (AH (AA 0)<|mI 0)<|m2 B9 (AH (AA 1)<|mI 0)<|AH (AA 0)<|mI 1)<|AD 2)
 (AQ<|BE (m2 (BP λi j=>decide (j<i)) (AA 2)<|mI 0)<|Bx (m2 Au (AA 2)<|mI 0)<|AH (AA 1)<|mI 1))
def JY:kL->Option Ru:=AZ 2 3 Mf
abbrev eK:=fA 1 2 Q1 JY
abbrev zef:Gm:=gA Q1 0 [] []
theorem zes:Ck zef eK Q1 Mf:={}
def zqj{P:Int}(h:Bo P){X E:Int}{m:Bool}(c:E * P<X\/X=E * P/\m=true):JY [C6 P X,.tup [.int E,.bl m]]=↑(.ok<|.bl true):=by
 let(_,f,_,_,g):=MA (v:=X) (n:=E) h.p;have e:Be E (Zm.lb X P)=true:=EA (h.lb X).s;unfold C6;change Zm.lt X P=a;change Zm.lb X P=b
 rcases c with c|⟨c,rfl⟩
 .have d:decide (0<a - E * b)=true:=É<|f.mpr c;unfold JY Mf
  simp![e,d]
 .have d:a - E * b=0:=g.mpr c;unfold JY Mf
  simp![e,d,Cc]
abbrev QH:Stmt:=AK 92
def Kq:AI:=
 (AH (AA 0)<|mI 1)
def Kp:AI:=
 (AH (AA 0)<|mI 0)
def Mb:AG:=
 (AF (AO (AM JT<|mJ 0<|mJ 5 AE)<|AD 6)
 (AF (Aa (BE (m2 (CM false) (AA 6)<|mC .non)<|As<|AM En<|mJ 2<|AB (AH (AA 0)<|mI 0)<|AB (AH (AA 6)<|mI 1) AE) (AQ<|mC<|.bl false) A6)
 (AF (Aa (m2 CJ (BG 1 [] (Ax<|AA 5) (AD 0) (mC<|.bl true) Kq)<|m2 Aj (AA 1)<|BJ<|Am (mC .non) AE) (AQ<|mC<|.bl false) A6)
 (AF (AO (AM LJ<|AB (BG 1 [] (Ax<|AA 5) (AD 0) (mC<|.bl true) Kp) AE)<|AD 7)
 (AF (AO (m2 EI (AH (AA 7)<|mI 0)<|m2 B9 (AH (AA 3)<|mI 0)<|AH (AA 7)<|mI 1)<|AD 8)
 (AF (Aa (AH (AA 3)<|mI 1) (AQ<|m2 Au (AA 8)<|mI 0) A6)
 (AQ<|Bx (m2 (BP λi j=>decide (j<i)) (AA 8)<|mI 0)<|m2 (BP λi j=>decide (i<j)) (m2 B9 (AA 8)<|AH (AA 4)<|mI 1)<|m2 B9 (AH (AA 4)<|mI 0)<|AH (AA 7)<|mI 1)))))))
def Nn:kL->Option Ru:=AZ 6 9 Mb
abbrev dZ:=fA 5 6 QH Nn
abbrev zfr:Gm:=gA QH 4 [("_law_walk",dU),("_law_holds",Kb),("_law_sum",Tq)] []
theorem zg6:Ck zfr dZ QH Mb:={}
def CB(P:Int)(X:Nat->Int)(b:Dv.Lim):Prop:=X b.1 - X b.2.1<=b.2.2 / 2 * P - 1+b.2.2 % 2
def aR{P:Int}{X:Nat->Int}{t s w:Nat}{n:Int}:(∀b∈Dj t s w n,CB P X b) ↔ DC P (X t - X s) w n=true:=by
 have e:(2 * n) / 2=n:=by lia
 have a:(2 * n+1) / 2=n:=by lia
 have f:(2 * -n) / 2=-n:=by lia
 have c:(2 * -n+1) / 2=-n:=by lia
 have m1:(2 * n) % 2=0:=by lia
 have m2:(2 * n+1) % 2=1:=by lia
 have g:(2 * -n) % 2=0:=by lia
 have d:(2 * -n+1) % 2=1:=by lia
 have en:-n * P=-(n * P):=Int.neg_mul ..;unfold Dj DC;split
 .erw[Ô,forall_eq,CB,e,m1,ê]
  lia
 .erw[Ô,forall_eq,CB,a,m2,ê]
  lia
 .erw[Ô,forall_eq,CB,f,g,en,ê]
  lia
 .erw[Ô,forall_eq,CB,c,d,en,ê]
  lia
 .erw[Ì,ð,þ,forall_eq_or_imp,forall_eq,CB,a,m2,c,d,en,ê]
  lia
def KO{P:Int}{X:Nat->Int}{L:List<|Nat×Nat×Int}{t:Nat}{sa:Nat->Nat}:(∀b∈Bh L t sa,CB P X b) ↔ BI P L (λp=>X t - X (sa p))=true:=by
 unfold Bh BI;rw[ã];constructor
 .intro h l c;exact aR.mp λb a=>h b<|Ο.mpr {(l),c,a}
 .intro h b a;let(l,c,a):=Ο.mp a;exact aR.mpr (h l c) b a
def Hz{P:Int}{X:Nat->Int}{M:Mc}{x:Str}{t:Nat}{sa:Nat->Nat}:(∀b∈Bn M x t sa,CB P X b) ↔ X (t - 1)<=X t/\BI P (DZ M.ws M.rs x) (λp=>X t - X (sa p))=true:=by
 rw[<- KO];unfold Bn
 have:CB P X (t - 1,t,1) ↔ X (t - 1)<=X t:=by
  show X (t - 1) - X t<=1 / 2 * P - 1+1 % 2 ↔ _
  lia
 simp_all
def Oj{ws:kE}{rs:List<|Str×kL}{dd:List Sd}(K:SpK ws rs dd){r:Nat}(a:r<rs.length):DZ (Ai ws rs dd).ws (Ai ws rs dd).rs (BB rs r)=CV ws rs r:=by
 have e:BB rs r=rs[r].1:=by unfold BB;simp_all
 have:=W7 (ws:=ws) K.sp.r.nd<|Ò a;show DZ ws rs (BB rs r)=_;unfold CV
 simp_all
def WO{P:Int}{ws:kE}{rs:List<|Str×kL}{dd:List Sd}(K:SpK ws rs dd){r:Nat}(g:r<rs.length){x y:Nat->Int}(f:∀p,x p<=y p)(h:BI P (CV ws rs r) y=true):BI P (CV ws rs r) x=true:=by
 unfold BI at h ⊢;rw[ã]at h ⊢;intro l d;have i:=h l d;unfold CV at d;rw[Ú,Â g]at d;let(t,k,rfl):=Ó.mp d;let(a,b,n,rfl,_,j,_):=(K.sp.r.lk _<|Ò g).1 t k
 have m:DI b=0\/DI b=1:=by
  have:∀y∈DY,DI y=0\/DI y=1:=by decide +kernel
  exact this b j
 have o:=f (A2 ws<|.tup [.str a,.str b,.int n]).1;show DC P (x (A2 ws<|.tup [.str a,.str b,.int n]).1) (DI b) n=true;have c:DC P (y (A2 ws<|.tup [.str a,.str b,.int n]).1) (DI b) n=true:=i
 rcases m with e|e<;>rw[e]at c ⊢
 .have:=ì c;exact É<|by lia
 .have:=ì c;exact É<|by lia
def FV(X:Nat->Int):Nat->kF->List (Int×Option Nat)
 |t,[]=>[(X t - X (t - 1),none)]|t,k::r=>(X t - X (t - 1),↑k.toNat)::FV X (t+1) r
def Qs{ws:kE}{rs:List<|Str×kL}{dd:List Sd}(K:SpK ws rs dd){r e:Nat}{k:Int}(h:Ct dd r k=↑e):∃d,dd[k.toNat]?=↑d/\d.z=Str.empty/\d.b=r/\d.e=e/\Et (Ai ws rs dd) (BB rs r) k=↑(Dl rs d):=by
 let(g,a,i,d,hd,f,b,c):=IA K h;refine{d,hd,f,b,c,?_};unfold Et;rw[if_pos a];show(match (dd.map<|Dl rs)[k.toNat]? with|some d=>_|none=>_)=_
 rw[Ë,hd];show(if d.z=Str.empty/\BB rs d.b=BB rs r then ↑(Dl rs d) else none)=_
 lia
def Eu(M:Mc)(l:kI)(t:Nat)(sa:Nat->Nat)(x:Str):List Dv.Lim:=(Bw M l t sa).1++Bn M x (t+l.length) (Bw M l t sa).2
def zk0{M:Mc}{t:Nat}{sa:Nat->Nat}{x:Str}:Eu M [] t sa x=Bn M x t sa:=rfl
def MM{M:Mc}{d:Dr}{l:kI}{t:Nat}{sa:Nat->Nat}{x:Str}:Eu M (d::l) t sa x=(Bn M d.s t sa++Bh (d.g.map<|A2 M.ws) t sa)++Eu M l (t+1) (Bq (Ar M.ws d.n) t sa) x:=by
 unfold Eu;rw[show(Bw M (d::l) t sa).1=(Bn M d.s t sa++Bh (d.g.map<|A2 M.ws) t sa)++(Bw M l (t+1)<|Bq (Ar M.ws d.n) t sa).1 from rfl,show(Bw M (d::l) t sa).2=(Bw M l (t+1)<|Bq (Ar M.ws d.n) t sa).2 from rfl,ļ,Ö,show t+(l.length+1)=t+1+l.length by lia]
theorem zml(X:Nat->Int)(t:Nat)(sa:Nat->Nat):(λp=>(X (t - 1) - X (sa p))+(X t - X (t - 1)))=λp=>X t - X (sa p):=funext λp=>by lia
theorem zmm(X:Nat->Int)(t:Nat)(sa:Nat->Nat)(ps:kG):(λp=>if p∈ps then 0 else (X (t - 1) - X (sa p))+(X t - X (t - 1)))=λp=>X t - X (Bq ps t sa p):=funext λp=>by
 unfold Bq
 lia
def W9{P:Int}{ws:kE}{rs:List<|Str×kL}{dd:List Sd}{X:Nat->Int}{r t:Nat}{sa:Nat->Nat}:Cf P ws rs dd (r,λp=>X (t - 1) - X (sa p)) (X t - X (t - 1)) none=if BI P (CV ws rs r) (λp=>X t - X (sa p))=true then ↑(r,λp=>X t - X (sa p)) else none:=by
 unfold Cf
 lia
def W8{P:Int}{ws:kE}{rs:List<|Str×kL}{dd:List Sd}{X:Nat->Int}{r t k:Nat}{sa:Nat->Nat}{d:Sd}(hd:dd[k]?=↑d):Cf P ws rs dd (r,λp=>X (t - 1) - X (sa p)) (X t - X (t - 1)) ↑k=if BI P (CV ws rs r) (λp=>X t - X (sa p))=true then (if d.b=r/\d.z=Str.empty/\BI P (d.g.map<|A2 ws) (λp=>X t - X (sa p))=true/\BI P (CV ws rs d.e) (λp=>X t - X (Bq (Ar ws d.n) t sa p))=true then ↑(d.e,λp=>X t - X (Bq (Ar ws d.n) t sa p)) else none) else none:=by
 unfold Cf;erw[hd,zml,zmm]
def NG{P:Int}{X:Nat->Int}{ws:kE}{rs:List<|Str×kL}{dd:List Sd}(K:SpK ws rs dd){ks:kF}{r e t:Nat}{sa:Nat->Nat}(m:r<rs.length)(hk:C9 dd r ks=↑e){l:kI}(f:Cy (Ai ws rs dd) (BB rs r) ks=↑l)(a:∀b∈Eu (Ai ws rs dd) l t sa (BB rs e),CB P X b):X (t - 1)<=X t/\BI P (CV ws rs r) (λp=>X t - X (sa p))=true:=by
 rw[<- Oj K m];cases ks with
 |nil=>cases hk;cases f;exact Hz.mp a|cons k ks=>
  let(o,h,s):=Ő.mp (show(Ct dd r k).bind (λe=>C9 dd e ks)=↑e from hk)
  let(d,hd,u,c,i,g):=Qs K h;rw[Jo,g]at f;let(v,j,rfl):=Ø.mp f;rw[MM]at a;have n:(Dl rs d).s=BB rs r:=by show BB rs d.b=_;rw[c]
  rw[n]at a;exact Hz.mp λb q=>a b<|ù _<|ù _ q
def Wu{P:Int}{X:Nat->Int}{ws:kE}{rs:List<|Str×kL}{dd:List Sd}(K:SpK ws rs dd):∀(ks:kF) {r e t:Nat} {sa:Nat->Nat},1<=t->r<rs.length->C9 dd r ks=↑e->∀{l:kI},Cy (Ai ws rs dd) (BB rs r) ks=↑l->(∀b∈Eu (Ai ws rs dd) l t sa (BB rs e),CB P X b) ->
  DK P ws rs dd (↑(r,λp=>X (t - 1) - X (sa p))) (FV X t ks)=↑(e,λp=>X (t+l.length) - X ((Bw (Ai ws rs dd) l t sa).2 p))
 |[],r,e,t,sa,B,s,hk,l,g,f=>by
  have fs:=NG K s hk g f;cases hk;cases g;show DK P ws rs dd (Cf P ws rs dd _ _ none) []=_;rw[W9,if_pos fs.2]
  rfl
 |k::ks,r,e,t,sa,B,s,hk,l,g,f=>by
  have fs:=NG K s hk g f;let(w,x,y):=Ő.mp (show(Ct dd r k).bind (λe=>C9 dd e ks)=↑e from hk)
  let(d,hd,C,n,a,u):=Qs K x;rw[Jo,u]at g;let(m,o,rfl):=Ø.mp g;rw[MM]at f;have c:=(IA K x).1;have A:BI P (d.g.map<|A2 ws) (λp=>X t - X (sa p))=true:=KO.mp λb q=>f b<|ù _<|ß _ q
  have i:∀b∈Eu (Ai ws rs dd) m (t+1) (Bq (Ar ws d.n) t sa) (BB rs e),CB P X b:=λb q=>f b<|ß _ q
  have j:Cy (Ai ws rs dd) (BB rs w) ks=↑m:=by
   rw[<- a];exact o
  have h:=NG K c y j i
  have v:BI P (CV ws rs d.e) (λp=>X t - X (Bq (Ar ws d.n) t sa p))=true:=by
   rw[a];refine WO K c (λp=>?_) h.2
   have:=h.1;rw[Ŗ]at this;show X t - _<=X (t+1) - _
   lia
  show DK P ws rs dd (Cf P ws rs dd _ _ ↑k.toNat) (FV X (t+1) ks)=_;rw[W8 hd,if_pos fs.2,if_pos {(n),C,A,v},a];have z:=Wu K ks (r:=w) (e:=e) (t:=t+1) (sa:=Bq (Ar ws d.n) t sa) (by lia) c y j i
  rw[Ŗ]at z;rw[z,Ö,show t+(m.length+1)=t+1+m.length by lia]
  rfl
def Wv{P:Int}{X:Nat->Int}(i:∀t,X t<=X (t+1)){ws:kE}{rs:List<|Str×kL}{dd:List Sd}(K:SpK ws rs dd):∀(ks:kF) {r e t:Nat} {sa:Nat->Nat},1<=t->r<rs.length->C9 dd r ks=↑e->∀{l:kI} {s:Nat×(Nat->Int)},Cy (Ai ws rs dd) (BB rs r) ks=↑l->DK P ws rs dd (↑(r,λp=>X (t - 1) - X (sa p))) (FV X t ks)=↑s ->
  (∀b∈Eu (Ai ws rs dd) l t sa (BB rs e),CB P X b)/\s.2=λp=>X (t+l.length) - X ((Bw (Ai ws rs dd) l t sa).2 p)
 |[],r,e,t,sa,B,q,hk,l,s,h,a=>by
  cases hk;cases h
  have w:X (t - 1)<=X t:=by
   have:=i<|t - 1
   rwa[show t - 1+1=t by lia]at this
  change DK P ws rs dd (Cf P ws rs dd _ _ none) []=_ at a
  rw[W9]at a
  by_cases c:BI P (CV ws rs r) (λp=>X t - X (sa p))=true
  .rw[if_pos c]at a;cases a;rw[zk0,Hz,Oj K q];exact{{(w),c},rfl}
  .rw[if_neg c]at a;cases a
 |k::ks,r,e,t,sa,B,q,hk,l,s,h,a=>by
  have w:X (t - 1)<=X t:=by
   have:=i<|t - 1
   rwa[show t - 1+1=t by lia]at this
  let(y,z,A):=Ő.mp (show(Ct dd r k).bind (λe=>C9 dd e ks)=↑e from hk)
  let(d,hd,E,j,g,u):=Qs K z;rw[Jo,u]at h;let(x,n,rfl):=Ø.mp h;have m:=(IA K z).1
  change DK P ws rs dd (Cf P ws rs dd _ _ ↑k.toNat) (FV X (t+1) ks)=_ at a
  rw[W8 hd]at a
  by_cases c:BI P (CV ws rs r) (λp=>X t - X (sa p))=true
  .rw[if_pos c]at a
   by_cases c2:d.b=r/\d.z=Str.empty/\BI P (d.g.map<|A2 ws) (λp=>X t - X (sa p))=true/\BI P (CV ws rs d.e) (λp=>X t - X (Bq (Ar ws d.n) t sa p))=true
   .rw[if_pos c2,g]at a
    have o:Cy (Ai ws rs dd) (BB rs y) ks=↑x:=by
     rw[<- g];exact n
    let(C,D):=Wv i K ks (r:=y) (e:=e) (t:=t+1) (sa:=Bq (Ar ws d.n) t sa) (by lia) m A o (by rw[Ŗ];exact a)
    refine{λb f=>?_,?_}
    .rw[MM]at f
     rcases ä.mp f with f|f
     .rcases ä.mp f with f|f
      .refine Hz.mpr {w,?_} b f;have v:(Dl rs d).s=BB rs r:=by show BB rs d.b=_;rw[j]
       rw[v,Oj K q];exact c
      .exact KO.mpr c2.2.2.1 b f
     .exact C b f
    .rw[D,Ö,show t+(x.length+1)=t+1+x.length by lia]
     rfl
   .rw[if_neg c2,Qh]at a;cases a
  .rw[if_neg c,Qh]at a;cases a
set_option tactic.hygienic true in
def zmk(f:Db.Z)(x:Dv.Lim)(i j:Nat):Db.le (FQ f x i j)<|f i j:=by
 unfold FQ;split
 .rename_i h;rw[h.1,h.2];exact Db.mn_le _ _
 .exact Db.le_refl _
def VO:∀(L:List Dv.Lim) (f:Db.Z) (i j:Nat),Db.le (FO f L i j)<|f i j
 |[],f,i,j=>Db.le_refl _|x::L,f,i,j=>Db.le_trans (VO L (FQ f x) i j)<|zmk f x i j
def VP:∀(L:List Dv.Lim) (f:Db.Z) {x:Dv.Lim},x∈L->Db.le (FO f L x.1 x.2.1) ↑x.2.2
 |y::L,f,x,h=>by
  rcases Ì.mp h with rfl|h
  .refine Db.le_trans (VO L (FQ f x) _ _) ?_;unfold FQ;rw[if_pos {(rfl),rfl}];exact Db.mn_le' _ _
  .exact VP L (FQ f y) h
set_option tactic.hygienic true in
def OJ{P:Int}{X:Nat->Int}:∀(L:List Dv.Lim) (f:Db.Z),(∀b∈L,CB P X b)->(∀i j,Db.sat P (f i j)<|X i - X j)->∀i j,Db.sat P (FO f L i j)<|X i - X j
 |[],f,ϊ,a,i,j=>a i j|x::L,f,d,a,i,j=>OJ L (FQ f x) (λb c=>d b<|Ê _ c) (λi j=>by
   unfold FQ;split
   .rename_i h;rw[h.1,h.2];exact Db.sat_mn (a _ _)<|d x (Í ..)
   .exact a i j) i j
def RN{u:Int}{v:Nat->Int}{B:List Dv.Lim}:Dv.Ok (B.map<|E6 u) v ↔ ∀b∈B,CB u v b:=by
 constructor
 .intro h b a;exact h _<|Ŕ a
 .intro h x c;let(b,a,rfl):=Ó.mp c;exact h b a
def Vq{L:List Dv.Lim}:∀(t:Nat) (v v':Nat->Int),Dv.tn L t v=↑v'->Dv.Ok L v'
 |0,v,v',h=>by cases h|t+1,v,v',h=>by
  rw[Dv.tn]at h;cases a:(Dv.rz L v false).2 with
  |true=>rw[a]at h;exact Vq t _ v' h|false=>
   let(b,c):=Dv.rz_false L v a
   lia
theorem VJ{N:Nat}{B:List Dv.Lim}{P:Int}(c:0<P){X:Nat->Int}(a:X 0=0)(d:∀i,0<=X i)(e:∀b∈B,CB P X b):Db.Sound N<|FO (λϊ ϊ=>none) B:=
 Db.lie_sound c a (λi ϊ=>d i) λi j ϊ ϊ=>OJ B (λϊ ϊ=>none) e (λϊ ϊ=>trivial) i j
def Du(ws:kF)(t:Nat):Int:=(ws.take t).sum
def Vr(ws:kF){t:Nat}(h:t<ws.length):Du ws (t+1) - Du ws t=ws[t]:=by
 unfold Du;rw[List.take_succ_eq_append_getElem h,List.sum_append];simp
 lia
def Vs{ws:kF}(h:∀w∈ws,0<=w)(t:Nat):Du ws t<=Du ws (t+1):=by
 by_cases a:t<ws.length
 .have:=Vr ws a;have:=h _<|Ò a
  lia
 .unfold Du;rw[ű (by lia),ű<|by lia]
  lia
def Oc{ws:kF}(h:∀w∈ws,0<=w):∀t,0<=Du ws t
 |0=>ö _|t+1=>ē (Oc h t)<|Vs h t
def W4{X:Nat->Int}:∀(ks:kF) (ws:kF) (t:Nat),ws.length=ks.length+1->(∀i,(hi:i<ws.length)->X (t+i) - X (t+i - 1)=ws[i])->ws.zip (ks.map (λk=>↑k.toNat)++[none])=FV X t ks
 |[],ws,t,a,h=>by
  match ws,a with
  |[w],ϊ=>
   have:=h 0<|by simp
   erw[Nat.add_zero]at this;simp[FV,this]
 |k::ks,ws,t,a,h=>by
  match ws,a with
  |w::ws,a=>
   have b:=h 0<|by simp
   erw[Nat.add_zero,List.getElem_cons_zero]at b
   have c:=W4 ks ws (t+1) (by simpa using a) λi hi=>by
    have:=h (i+1) (by simp;lia)
    rw[show t+1+i=t+(i+1) by lia]
    exact this
   rw[Ï,Ų,ĺ,c,FV,b]
def Vp{L:List Dv.Lim}{w:Nat->Int}(b:Dv.Ok L w):∀(t:Nat) (v v':Nat->Int),(∀k,v k<=w k)->Dv.tn L t v=↑v'->∀k,v' k<=w k
 |0,v,v',ϊ,h=>by cases h|t+1,v,v',c,h=>by
  have le:=Dv.rz_le L v false b c;rw[Dv.tn]at h;cases a:(Dv.rz L v false).2 with
  |true=>rw[a]at h;exact Vp b t _ v' le h|false=>rw[a]at h;cases h;exact le
def Zb{N:Nat}(f:0<N){g:Db.Z}(n:Db.Nar N g){u:Int}(m:(N:Int)<=u):∃w:Nat->Int,Db.Lie N u w g/\(∀k,k<N->0<=w k - w 0)/\∀k,k<N->w k - w 0<Dv.low g k * u+N:=by
 let(j,o):=Dv.low_feas n f;let(q,i,h):=Dv.vals_of n j m;refine{_,h,λk hk=>?_,λk hk=>?_}
 .have a:=n.row k hk;have b:=h 0 k f hk;cases e:g 0 k with
  |none=>rw[e]at a;exact a.elim|some d=>
   rw[e]at a b;have l:d<=1:=a;have c:=b;unfold Db.sat at c;have:d / 2 * u<=0:=yda (by lia)<|by lia
   lia
 .have a:=i k hk;have b:=i 0 f;erw[o,Ĕ]
  lia
def soon{N:Nat}(M:2<=N){B:List Dv.Lim}(t:Dv.In N B)(F:Db.Sound N<|FO (λϊ ϊ=>none) B):∃(L o:Int),0<=L/\(o=0\/o=1)/\(∀(P:Int) (X:Nat->Int),X 0=0->(∀i,0<=X i)->(∀b∈B,CB P X b)->L * P+o<=X (N - 1)) /\
  ∀u:Int,(N:Int)<=u->∃v,Dv.tn (B.map<|E6 u) N (λϊ=>0)=↑v/\v 0=0/\(∀k,0<=v k)/\(∀b∈B,CB u v b)/\v (N - 1)<=L * u+o * (N - 1):=by
 have nar:=Db.nar F;have row:=nar.row (N - 1)<|by lia
 generalize y:Db.fw (FO (λϊ ϊ=>none) B) N=f at *
 cases h:f 0 (N - 1) with
 |none=>rw[h]at row;exact row.elim|some c=>
  rw[h]at row;have c1:c<=1:=row;refine{-(c / 2),1 - c % 2,by lia,by lia,λP X q E d=>?_,λu z=>?_}
  .have l1:Db.Lie N P X<|FO (λϊ ϊ=>none) B:=λi j ϊ ϊ=>OJ B (λϊ ϊ=>none) d (λϊ ϊ=>trivial) i j
   have l2:=Db.lie_fw q (λi ϊ=>E i) l1 N (Æ N) 0 (N - 1) (by lia)<|by lia
   rw[y,h]at l2;have J:X 0 - X (N - 1)<=c / 2 * P - 1+c % 2:=l2;rw[q]at J;rw[Int.neg_mul]
   lia
  .have p:0<u:=by lia
   let(w,C,g,O):∃w:Nat->Int,Db.Lie N u w f/\(∀k,k<N->0<=w k - w 0)/\w (N - 1) - w 0<=-(c / 2) * u+(1 - c % 2) * (N - 1):=by
    by_cases o:c % 2=1
    .have K:=Dv.ins_nar nar (a:=N - 1) (b:=0) (e:=↑(2 * -(c / 2)+1)) (by lia) (by lia) (by
      rw[h];show(1:Int)<=Db.bs c (2 * -(c / 2)+1);unfold Db.bs
      lia)
     let(w,m,g,_):=Zb (by lia) K z
     refine{w,Db.lie_mono p m λi j ϊ ϊ=>Db.mn_le _ _,g,?_}
     have l:Db.le (Dv.ins f (N - 1) 0 (↑(2 * -(c / 2)+1)) (N - 1) 0)<|↑(2 * -(c / 2)+1):=by
      refine Db.le_trans (Db.mn_le' ..) ?_;rw[nar.diag 0 (by lia),nar.diag (N - 1) (by lia),Db.add_one,Db.one_add]
      exact Db.le_refl _
     have D:w (N - 1) - w 0<=(2 * -(c / 2)+1) / 2 * u - 1+(2 * -(c / 2)+1) % 2:=Db.sat_le p (m (N - 1) 0 (by lia)<|by lia) l
     rw[show(2 * -(c / 2)+1) / 2=-(c / 2) by lia,show(2 * -(c / 2)+1) % 2=1 by lia]at D
     rw[o]
     lia
    .let(w,m,g,G):=Zb (by lia) nar z
     refine{w,m,g,?_};have l:=G (N - 1)<|by lia
     unfold Dv.low at l;erw[h]at l;rw[show 1 - c % 2=1 by lia]
     lia
   have ok:Dv.Ok (B.map<|E6 u) (λk=>if k<N then w k - w 0 else 0):=RN.mpr λb d=>by
    let(r,s):=t b d;have l:w b.1 - w b.2.1<=b.2.2 / 2 * u - 1+b.2.2 % 2:=Db.sat_le p (C b.1 b.2.1 r s)<|Db.le_trans (by rw[<- y];exact Db.fw_le _ _ _ N)<|VP B _ d
    unfold CB;erw[r,s,Å]
    lia
   let(v,e,o,A,_):=Dv.tn_ok (n:=N) (by lia) (λx H=>by
    let(b,d,rfl):=Ó.mp H;exact t b d) ok λk hk=>by erw[hk,Å];exact g k hk
   have le:=Vp ok N _ v (λk=>by
    by_cases hk:k<N
    .erw[hk,Å];exact g k hk
    .erw[hk,Ã];exact ö _) e
   have I:=le 0;have l1:=le<|N - 1;erw[show 0<N by lia,show N - 1<N by lia,Å]at I l1
   have:=A 0;exact{v,e,by lia,A,RN.mp o,by lia}
def zjw{ws:kE}{rs:List<|Str×kL}{dd:List Sd}(K:SpK ws rs dd){ks:kF}{r:Nat}(d:ks.length<=200)(e:C9 dd 0 ks=↑r):∃l,DQ (Ai ws rs dd) ks=↑l/\Cy (Ai ws rs dd) (BB rs 0) ks=↑l/\Cr (Ai ws rs dd) l=BB rs r/\l.length=ks.length:=by
 have b:=znq K ks;rw[show LZ dd ks=↑r by unfold LZ;lia]at b
 let(l,a,c):=Ø.mp b;refine{l,a,?_,c,(HY a).2.1};unfold DQ at a;rw[if_pos d,Qt K]at a;exact a
def Qw{ws:kE}{rs:List<|Str×kL}{dd:List Sd}{l:kI}{r:Nat}(e:Cr (Ai ws rs dd) l=BB rs r)(g:List<|Nat×Nat×Int):Bl (Ai ws rs dd) l g=Eu (Ai ws rs dd) l 1 (λϊ=>0) (BB rs r)++Bh g (l.length+1) (Bw (Ai ws rs dd) l 1 λϊ=>0).2:=by
 unfold Bl Eu;rw[e,ļ,Ņ 1 l.length]
def VX{ws:kE}{rs:List<|Str×kL}{dd:List Sd}(K:SpK ws rs dd):∀{ks:kF} {r e:Nat},C9 dd r ks=↑e->∀k∈ks,0<=k/\k<(dd.length:Int)
 |[],ϊ,ϋ,ό,k,hk=>by cases hk|q::ks,r,e,h,k,hk=>by
  let(c,a,b):=Ő.mp (show(Ct dd r q).bind (λe=>C9 dd e ks)=↑e from h)
  rcases Ì.mp hk with rfl|hk
  .exact{(IA K a).2.1,(IA K a).2.2.1}
  .exact VX K b k hk
def zn2{P:Int}{ws:kE}{rs:List<|Str×kL}(h:BI P (CV ws rs 0) (λϊ=>0)=true):Bu P ws rs=↑(0,λϊ=>0):=by
 unfold Bu;rw[if_pos h]
def zi6{P:Int}(B:Bo P){ws:kE}{rs:List<|Str×kL}{dd:List Sd}(K:SpK ws rs dd){ks:kF}{r:Nat}(C:ks.length<=200)(z:C9 dd 0 ks=↑r){l:kI}(h:Cy (Ai ws rs dd) (BB rs 0) ks=↑l)(j:Cr (Ai ws rs dd) l=BB rs r)(A:l.length=ks.length){g:List<|Nat×Nat×Int}{w:kF}(v:∀x∈w,0<=x)(wl:w.length=ks.length+1){s:Nat×(Nat->Int)}(d:DK P ws rs dd (Bu P ws rs) (w.zip<|ks.map (λk=>↑k.toNat)++[none])=↑s)(o:BI P g s.2=true):∀b∈Bl (Ai ws rs dd) l g,CB P (Du w) b:=by
 have y:=W4 (X:=Du w) ks w 1 wl λi u=>by
  have:=Vr w u
  lia
 rw[y]at d;have r1:=K.sp.r.l1
 have e:Bu P ws rs=↑(0,λϊ=>0):=by
  cases c:Bu P ws rs with
  |none=>rw[c,Qh]at d;cases d|some q=>
   unfold Bu at c
   lia
 have f:(λp=>Du w (1 - 1) - Du w ((λ_:Nat=>0) p))=λ_:Nat=>(0:Int):=funext λp=>Int.sub_self _
 rw[e,<- f]at d;let(m,n):=Wv (Vs v) K ks (t:=1) (sa:=λϊ=>0) (Æ _) (by lia) z h d
 intro b a;rw[Qw j]at a
 rcases ä.mp a with a|a
 .exact m b a
 .rw[n]at o;refine KO.mpr ?_ b a
  lia
def zjq{P:Int}{ws:kE}{rs:List<|Str×kL}{dd:List Sd}(K:SpK ws rs dd){ks:kF}{r:Nat}(f:C9 dd 0 ks=↑r){l:kI}(d:Cy (Ai ws rs dd) (BB rs 0) ks=↑l)(i:Cr (Ai ws rs dd) l=BB rs r){g:List<|Nat×Nat×Int}{X:Nat->Int}(c:∀b∈Bl (Ai ws rs dd) l g,CB P X b):∃x,DK P ws rs dd (Bu P ws rs) (FV X 1 ks)=↑(r,x)/\BI P g x=true:=by
 rw[Qw i]at c;have a:∀b∈Eu (Ai ws rs dd) l 1 (λϊ=>0) (BB rs r),CB P X b:=λb q=>c b<|ù _ q
 have r1:=K.sp.r.l1;have fs:=NG K (by lia:0<rs.length) f d a
 have h:(λp=>X (1 - 1) - X ((λ_:Nat=>0) p))=λ_:Nat=>(0:Int):=funext λp=>Int.sub_self _
 have st:BI P (CV ws rs 0) (λϊ=>0)=true:=WO K (by lia) (λp=>by
  lia) fs.2
 have e:=Wu K ks (t:=1) (sa:=λϊ=>0) (Æ _) (by lia) f d a
 rw[h]at e;refine{_,by rw[zn2 st];exact e,?_}
 refine KO.mp λb q=>c b<|ß _ ?_
 lia
theorem bQ(ks:kF)(n:Nat):Fit (.lst<|ks.map T.int++[.non])<|n+1:=Fit.nd λt a=>by
 rcases ä.mp a with a|a
 .let(k,_,rfl):=Ó.mp a;exact Fit.int _ _
 .rw[Ô.mp a];exact Fit.non _
def CQ(v:Nat->Int)(u:Int):Nat->kF->List Tp
 |t,[]=>[{v t - v (t - 1),Zm.lt (v t - v (t - 1)) u,Zm.lb (v t - v (t - 1)) u,none}]|t,k::r=>{v t - v (t - 1),Zm.lt (v t - v (t - 1)) u,Zm.lb (v t - v (t - 1)) u,↑k.toNat}::CQ v u (t+1) r
def Vj(v:Nat->Int)(u:Int):∀(t:Nat) (ks:kF),(CQ v u t ks).map (λx=>(x.w,x.k))=FV v t ks
 |t,[]=>rfl|t,k::r=>by
  show _::(CQ v u (t+1) r).map _=_;rw[Vj v u (t+1) r]
  rfl
def Vm(v:Nat->Int)(u:Int):∀(ks:kF) (t:Nat),(∀k∈ks,0<=k)->DO (mT (ks.length+1) λi=>Ed (λj=>v<|t+j) u i) (ks.map T.int++[.non])=(CQ v u (t+1) ks).map Bp
 |[],t,ϊ=>rfl|k::r,t,h=>by
  have d:=Vm v u r (t+1) λq c=>h q<|Ê _ c
  have a:(mT ((k::r).length+1) λi=>Ed (λj=>v<|t+j) u i)=Ed (λj=>v<|t+j) u 0::mT (r.length+1) λi=>Ed (λj=>v<|t+1+j) u i:=by
   unfold mT;rw[List.range_succ_eq_map,Ï,ü];refine congrArg (_::·)<|ĥ λi ϊ=>?_
   unfold Ed
   lia
  rw[a,Ï,Ų];show T.tup [Ed (λj=>v<|t+j) u 0,.int k]::DO _ _=_::(CQ v u (t+1+1) r).map Bp
  rw[d]
  have b:(.int k:T)=BH ↑k.toNat:=by
   show T.int k=.int ((k.toNat:Nat):Int);rw[œ<|h k (Í ..)]
  rw[b]
  rfl
def zms{u:Int}(b:Bo u){n:Nat}{v:Nat->Int}:∀(ks:kF) (t:Nat),1<=t->(∀k∈ks,0<=k/\k<(n:Int))->(∀i,t<=i->i<=t+ks.length->v (i - 1)<=v i)->∀x∈CQ v u t ks,(TpOk u n x/\0<=x.a)/\x.b<=u:=by
 have one:∀t,v (t - 1)<=v t->∀k:Option Nat,(∀i∈k,i<n)->(TpOk u n {v t - v (t - 1),Zm.lt (v t - v (t - 1)) u,Zm.lb (v t - v (t - 1)) u,k}/\0<=Zm.lt (v t - v (t - 1)) u)/\Zm.lb (v t - v (t - 1)) u<=u:=λt f k hk=>by
  refine{{{b.lb _,aB b.p,hk},?_},Zm.lb_le b.p};have d:=(MA (v:=v t - v (t - 1)) (n:=0) b.p).1;rw[Ĕ,Ĕ,Int.sub_zero]at d;exact d.mpr<|by lia
 intro ks
 induction ks with
 |nil=>intro t f hk c x a;have:x=_:=Ô.mp a;subst this;exact one t (c t (Æ _)<|Æ _) none λi e=>by cases e|cons k r h=>
  intro t f hk c x a
  rcases Ì.mp a with rfl|a
  .exact one t (c t (Æ _)<|by lia) ↑k.toNat λi e=>by
    cases e;have:=hk k (Í ..)
    lia
  .exact h (t+1) (by lia) (λq g=>hk q<|Ê _ g) (λi d j=>c i (by lia) (by rw[Ö];lia)) x a
def XQ{P:Int}{X:Nat->Int}{M:Mc}{x:Str}:∀(l:kI) (t:Nat) (sa:Nat->Nat),(∀b∈Eu M l t sa x,CB P X b)->∀i,t<=i->i<=t+l.length->X (i - 1)<=X i
 |[],t,sa,h,i,c,a=>by
  have:i=t:=by simp at a;lia
  subst this;exact(Hz.mp h).1
 |d::l,t,sa,h,i,c,a=>by
  rw[MM]at h
  by_cases e:i=t
  .subst e;exact(Hz.mp λb q=>h b<|ù _<|ù _ q).1
  .exact XQ l (t+1) _ (λb q=>h b<|ß _ q) i (by lia) (by rw[Ö]at a;lia)
def zhr{P V E p q:Int}(h:0<P)(i:(V - E * P) * q<p * P):(Zm.lt V P - E * Zm.lb V P) * q<p * Zm.lb V P:=by
 have c:P≠0:=by lia
 have e:=Zm.lt_mul (t:=V) c;have d:=Zm.lb_mul (t:=V) c;have g:=Zm.gd_pos (a:=V) c;change Zm.lt V P=a;change Zm.lb V P=b;change Zm.gd V P=k;refine Int.lt_of_mul_lt_mul_right (a:=k) ?_<|by lia
 have f:(a - E * b) * q * k=(V - E * P) * q:=by
  rw[<- e,<- d,ā,Ă q,<- ā,Ň,ā]
 rw[f,ā,d];exact i
def Vk(v:Nat->Int)(u:Int):∀(ks:kF) (t:Nat),(CQ v u t ks).length=ks.length+1
 |[],ϊ=>rfl|k::r,t=>congrArg (·+1)<|Vk v u r<|t+1
def Vl(v:Nat->Int)(u:Int):∀(ks:kF) (t:Nat),(∀k∈ks,0<=k)->(CQ v u t ks).map (λt=>BH t.k)=ks.map T.int++[.non]
 |[],t,ϊ=>rfl|k::r,t,hk=>by
  show BH ↑k.toNat::(CQ v u (t+1) r).map _=_;rw[Vl v u r (t+1) λq a=>hk q<|Ê _ a]
  show T.int ((k.toNat:Nat):Int)::_=_;rw[œ<|hk k (Í ..)]
  rfl
def Vi(v:Nat->Int)(u:Int):∀(ks:kF) (t:Nat),((CQ v u (t+1) ks).map λx=>x.w).sum=v (t+1+ks.length) - v t
 |[],t=>by
  show v (t+1) - v t+0=_;simp
 |k::r,t=>by
  show v (t+1) - v t+((CQ v u (t+1+1) r).map λx=>x.w).sum=_
  rw[Vi v u r<|t+1,Ö,show t+1+(r.length+1)=t+1+1+r.length by lia]
  lia
def zgz{u:Int}(c:Bo u){ws:kE}{rs:List<|Str×kL}{dd:List Sd}(K:SpK ws rs dd){ks:kF}(kl:ks.length<=100)(A:∀k∈ks,0<=k/\k<(dd.length:Int)){g:kL}(hg:BD ws BU g){v:Nat->Int}(v0:v 0=0)(B:∀i,1<=i->i<=1+ks.length->v (i - 1)<=v i){r:Nat}{x:Nat->Int}(hr:DK u ws rs dd (Bu u ws rs) (FV v 1 ks)=↑(r,x))(M:BI u (g.map<|A2 ws) x=true){E p q:Int}(hq:DJ q=true){m:Bool}(h1:m=true->v (ks.length+1)=E * u)(Z:m=false->E * u<v (ks.length+1)/\(v (ks.length+1) - E * u) * q<p * u) :
  Nn [Aw ws rs dd,.lst<|ks.map T.int,.lst g,.tup [.int E,.bl m],fr p q,.lst<|(CQ v u 1 ks).map Bp]=↑(.ok<|.bl true):=by
 have Q:=Eh K.sp.r;have X:=AJ _ Q;have sd:=K.sp.sd;have U:=AJ _ sd;have w2:=K.w2;have sg:=hg.sh;have eg:=AJ _ sg;have sk:=Cm ks;have ek:=Cq ks;have L:=zms c ks 1 (Æ _) A B;have wa:=zew c K λt j=>(L t j).1
 rw[Vj,hr]at wa;have S:JT [Aw ws rs dd,.lst<|(CQ v u 1 ks).map Bp]=↑(.ok<|.tup [.int (r:Int),.lst<|A9 ws.length u x]):=wa;have ho:=Iv c (by lia:ws.length<=7) x hg
 rw[M]at ho;have h:=Ds ws.length u x;have s:=AJ _ h
 have F:A4 ((CQ v u 1 ks).map Bp)=true:=Dd λt ϊ=>by
  show((!false) && (true && ((BH t.k).sh && true)))=true;cases t.k<;>rfl
 have H:=AJ _ F;have l:∀t:Tp,(BH t.k).sh=true:=λt=>by cases t.k<;>rfl
 have EH:Bi (AD 0) (mC<|.bl true) Kq ((CQ v u 1 ks).map Bp) [none]=↑(ks.map T.int++[.non]):=by
  rw[Gw (b:=AD 0) (me:=Kq) Bp (λt=>BH t.k) (λY=>∃y,Y=[y]) (CQ v u 1 ks) [none] {(none),rfl} λt j Y I=>by
   let(y,rfl):=I;have l:=l t;refine{[↑(Bp t)],by simp![],?_,_,rfl}
   show Kq [↑(.tup [fr t.a t.b,BH t.k])]=_;change BH t.k=KK;unfold Kq
   simp![l],Vl v u ks 1 λk hk=>(A k hk).1]
 let(W,f):∃W:List (Int×Int),W=(CQ v u 1 ks).map λt=>(t.a,t.b):={_,rfl}
 have Fe:Bi (AD 0) (mC<|.bl true) Kp ((CQ v u 1 ks).map Bp) [none]=↑(W.map fw):=by
  rw[Gw (b:=AD 0) (me:=Kp) Bp (λt=>fr t.a t.b) (λY=>∃y,Y=[y]) (CQ v u 1 ks) [none] {(none),rfl} λt j Y I=>by
   let(y,rfl):=I;have l:=l t;refine{[↑(Bp t)],by simp![],?_,_,rfl}
   show Kp [↑(.tup [fr t.a t.b,BH t.k])]=_;change BH t.k=KK;unfold Kp
   simp![l],f,ü]
  rfl
 have hw:∀x∈CQ v u 1 ks,x.a * u / x.b=x.w:=λx D=>by
  have o:=(L x D).1.1;have b0:=o.b.p;rw[o.e];exact Int.mul_ediv_cancel _<|by lia
 have R:=WR c (W:=W) (w:=λt=>t.1 * u / t.2) λt j=>by
  rw[f]at j;let(x,D,rfl):=Ó.mp j;have o:=(L x D).1.1;have e:=hw x D;exact{o.b,by show x.a * u=x.a * u / x.b * x.b;rw[e];exact o.e}
 have es:(W.map λt=>t.1 * u / t.2).sum=v (ks.length+1):=by
  rw[f,ü];have:=Vi v u ks 0;rw[v0,Int.sub_zero,Ş,Ņ 1]at this;rw[<- this];exact congrArg List.sum<|ĥ hw
 rw[es]at R;change v (ks.length+1)=V;have sW:A4 (W.map fw)=true:=Dd λϊ ϊ=>rfl
 have eW:=AJ _ sW
 have ll:((CQ v u 1 ks).map Bp).length<=100000:=by
  rw[Á,Vk]
  lia
 have N:(ks.map T.int).length+1<=100000:=by rw[Á];lia
 have nq:CJ (.lst<|ks.map T.int++[.non]) (.lst<|ks.map T.int++[.non])=↑(.bl false):=(zm3 (n:=1) (bQ ks 0) (by decide) rfl<|bQ ks 0).2
 have C:A4 (ks.map T.int++[.non])=true:=by
  rw[De,List.all_append,<- De,sk]
  rfl
 have G:=AJ _ C;let(_,g2,_,_,g5):=MA (v:=V) (n:=E) c.p;have mo:Be E (Zm.lb V u)=true:=EA (c.lb V).s;have O:Be p (Zm.lb V u)=true:=EA (c.lb V).s;have P:Be (Zm.lt V u - E * Zm.lb V u) q=true:=EA hq;have nl:m=false->(Zm.lt V u - E * Zm.lb V u) * q<p * Zm.lb V u:=λz=>zhr c.p (Z z).2
 unfold C6 at R;change Zm.lt V u=a;change Zm.lb V u=b;change (CQ v u 1 ks).map Bp=TT;change A9 ws.length u x=VT;generalize J:ks.map T.int++[.non]=KN at *;change ks.map T.int=KT;change W.map fw=WT;unfold Nn;refine Qb rfl ?_;show Mb [↑(Aw ws rs dd),↑(.lst KT),↑(.lst g),↑(.tup [.int E,.bl m]),↑(fr p q),↑(.lst TT),none,none,none]=_;unfold Mb;refine sq (by simp![AV,AS,Q,X,sd,U,F,H,S,h,s];rfl) ?_
 refine Fk (by simp![AV,AS,Q,X,sd,U,sg,eg,h,s,ho]) ?_
 refine Fk (by simp![F,H,EH,ll,sk,ek,N,J,C,G,nq]) ?_
 refine sq (by simp![F,H,Fe,ll,sW,eW,R];rfl) ?_
 refine sq (by simp![mo];rfl) ?_
 cases m with
 |true=>
  have d:a - E * b=0:=g5.mpr<|h1 rfl
  simp![d,Cc]
 |false=>
  have d1:decide (0<a - E * b)=true:=É<|g2.mpr (Z rfl).1;have d2:decide ((a - E * b) * q<p * b)=true:=É<|nl rfl
  simp![d1,d2,O,P]
abbrev ME:Stmt:=AK 93
def M5:AG:=
 (AF (AO (AM Nr<|mJ 0 AE)<|AD 1)
 (AF (AO (AM LN<|mJ 1 AE)<|AD 2)
 (AF (AO (AM Np<|mJ 1<|AB (DV (FD (AA 0) (↑(mI 12))<|↑(mI 20))<|F7 (AA 0) (↑(mI 12))<|↑(mI 20)) AE)<|An 2<|AL (AD 9)<|AL (AD 10) Ao)
 (AF (AO (AM HM<|AB (AM Eb<|AB (AM Eo<|mJ 0<|AB (mI 20) AE)<|AB (mI 5) AE)<|AB (m2 Aj (m2 BX (AM LK<|mJ 1 AE)<|mI 4)<|mI 1)<|AB (AH (AA 1)<|mI 0) AE)<|AD 3)
 (AF (AO (AM JV<|AB (AM Eo<|mJ 0<|AB (mI 30) AE) AE)<|AD 4)
 (AF (AO (AM Kz<|mJ 2<|AB (m1 C1<|AA 9)<|AB (m1 C1<|AA 3) AE)<|AD 5)
 (AF (AO (AM Ky<|mJ 2<|AB (m1 C1<|AA 9)<|AB (m1 C1<|AA 3)<|mJ 4 AE)<|AD 6)
 (AF (AO (AM Nl<|mJ 1<|mJ 9<|mJ 3<|AB (DV (FD (AA 0) (↑(mI 21))<|↑(mI 30))<|F7 (AA 0) (↑(mI 21))<|↑(mI 30)) AE)<|AD 7)
 (AF (AO (AM JW<|mJ 1<|mJ 9<|mJ 3<|mJ 7 AE)<|AD 8)
 (AF (Aa (m2 (CM false) (AM LA<|mJ 2<|mJ 9<|mJ 3 AE)<|mC .non) (AQ<|Bx (m2 (CM false) (AA 5)<|mC .non)<|Bx (m2 (CM false) (AA 6)<|mC .non)<|As<|AA 8) A6)
 (AF (Aa (BE (As<|m1 (Bm "tuple")<|AA 5)<|BE (m2 CJ (m1 BC<|AA 5)<|mI 2)<|As<|m1 (Bm "bool")<|AH (AA 5)<|mI 1) (AQ<|mC<|.bl false) A6)
 (AF (Aa (BE (As<|m1 (Bm "int")<|AH (AA 5)<|mI 0)<|BE (m1 (Bm "bool")<|AH (AA 5)<|mI 0)<|m2 (BP λi j=>decide (i<j)) (AH (AA 5)<|mI 0)<|mI 0) (AQ<|mC<|.bl false) A6)
 (AF (Aa (Bx (AA 8)<|As<|AM JY<|AB (AM LJ<|mJ 7 AE)<|mJ 5 AE) (AQ<|mC<|.bl false) A6)
 (AQ<|AM Nn<|mJ 1<|mJ 9<|mJ 3<|mJ 5<|mJ 4<|mJ 6 AE))))))))))))))
def iC:kL->Option Ru:=AZ 1 11 M5
abbrev zq5:=fA 11 1 ME iC
abbrev zq1:Gm:=gA ME 10 [("_law_machine",eG),("_law_made",eF),("_law_road",d9),("_law_guard",Tv),("_law_stream",JB),("_law_cell_at",Tz),("_law_scale",Tt),("_law_near",eC),("soonest",cG),("soonest_run",cF),("_law_waits",dW),("_law_good",eI),("road_zone",cJ),("_law_behind",eK),("_law_sum",Tq),("_law_shown",dZ)] ["list","isinstance","tuple","len","bool","int"] (N:=["_law_script","_law_spec","_law_machine_here","_law_guard_here","_law_near_here","_law_end","_law_steps","_law_waits_here","_law_good_here","_law_road_here","_law_room"])
theorem zqe:Ck zq1 zq5 ME M5:={}
theorem zf0{N:Nat}{B:List Dv.Lim}(g:Dv.In N B){u:Int}(h:0<u){v:Nat->Int}(sat:∀b∈B,CB u v b)(a:∀k,k<N->v 0<=v k):Db.Sound N<|FO (λϊ ϊ=>none) B:=
 VJ (X:=λk=>if k<N then v k - v 0 else 0) h (by
  show(if 0<N then v 0 - v 0 else 0)=0
  rw[Int.sub_self]
  exact ite_self _) (λi=>by
  show 0<=(if i<N then v i - v 0 else 0)
  split
  .have:=a i<|by assumption
   lia
  .exact ö _) λb c=>by
  let(d,e):=g b c;have f:=sat b c;unfold CB at f ⊢;erw[d,e,Å]
  lia
def XB{v:Nat->Int}{n:Nat}(h:∀i,1<=i->i<=1+n->v (i - 1)<=v i):∀k,k<n+2->v 0<=v k
 |0,ϊ=>ö _|k+1,hk=>ē (XB h k<|by lia)<|h (k+1) (by lia)<|by lia
def e7{V L u s:Int}(e:V=L * u+s)(a:0<=s)(b:s<u):V.fdiv u=L/\V.fmod u=s:=by
 have c:0<u:=by lia
 rw[fd c,fm c,e,Int.add_comm,Int.add_mul_ediv_right _ _ (by lia),Int.ediv_eq_zero_of_lt a b,Int.zero_add,Int.add_mul_emod_self_right]
 exact{rfl,Int.emod_eq_of_lt a b}
def law_true(ns:kF)(h:ns.length<=63):iC [C0 ns]=↑(.ok<|.bl true):=by
 have F:=Wf ns;have F2:=We ns;have c20:Eo [C0 ns,.int 20]=↑(.ok<|.int<|ns.getD (20:Int).toNat 0):=Kl ns (k:=20)<|by decide
 generalize ns.getD (20:Int).toNat 0=c at c20;have c30:Eo [C0 ns,.int 30]=↑(.ok<|.int<|ns.getD (30:Int).toNat 0):=Kl ns (k:=30)<|by decide
 generalize ns.getD (30:Int).toNat 0=c3 at c30;let(p,q,en,p0,q0,q1):=zl9 c3;let(ws,rs,j,sz,em,D):=ze5 ns h;have K:=zq8 D;have md:LN [Aw ws rs j]=↑(.ok<|Al<|Ai ws rs j):=made_ok K.sp K.mc;have A:=Eh K.sp.r;have I:=AJ _ A;have sd:=K.sp.sd;have C:=AJ _ sd;have sm:=FC K.mc;have y:=CW _ sm;have w2:=K.w2;have tw:CD ws:=K.mc.tw
 have hcl:(B0 ns ↑12 ↑20).length<=8:=by
  unfold B0;rw[show(↑(12:Int))=↑((12:Nat):Int) from rfl,show(↑(20:Int))=↑((20:Nat):Int) from rfl,HT.sIx_nat,HT.sIx_nat,Đ]
  lia
 let(a,r,er1,wk,kl):=zpe K (cs:=B0 ns ↑12 ↑20)<|by lia
 have cm:B0 (ns.map T.int) ↑12 ↑20=(B0 ns ↑12 ↑20).map T.int:=UL ..;have scs:=Cm<|B0 ns ↑12 ↑20;have ecs:=Cq<|B0 ns ↑12 ↑20;have cm2:B0 (ns.map T.int) ↑21 ↑30=(B0 ns ↑21 ↑30).map T.int:=UL ..;have scs2:=Cm<|B0 ns ↑21 ↑30;have Y:=Cq<|B0 ns ↑21 ↑30;have J:=Cm a;have H:=Cq a;have lk:(a.map T.int).length<=100000:=by rw[Á];lia
 let(xs,es):=Jb c (m:=5)<|by decide
 have es':Eb [.int c,.int 5]=↑(.ok<|.own<|mT 5 λi=>.int<|xs i):=es
 have sx:A4 (mT 5 λi=>T.int<|xs i)=true:=Fm _
 have ex:=AJ _ sx;let(sc,s0,esc):=Wi (ws:=ws) (rs:=rs) (dd:=j) A sd (λr hr=>{(K.sp.r.lk r hr).1,K.l2 r hr}) λd hd=>{(K.sp.d d hd).g,K.g2 d hd}
 have s4:Bd 4=true:=Bv (by decide)<|by decide
 have u0:0<=sc.fdiv 4+1:=by
  rw[fd<|by decide]
  have:=Int.ediv_nonneg s0<|show(0:Int)<=4 by decide
  lia
 let(g,eg1,hg,gl):=b4 (xs:=xs) u0 tw;have B:=hg.sh;have G:=AJ _ B;have lg:g.length<=100000:=by lia
 have R:BD (Ai ws rs j).ws BU g:=hg;let(l,a1,a2,a3,a4):=zjw K (ks:=a) (by lia) wk
 have S:=VX K wk
 have sG:(T.lst g).sh=true:=by
  show((!false) && A4 g)=true;rw[B]
  rfl
 have sn:=sn_ok K.mc K.s1 a R<|by lia
 rw[a1,show Jl (Ai ws rs j) g ↑l=.ok (II (l.length+1) (1 * ((l.length:Int)+2))<|EF (Ai ws rs j) l g 1) from rfl]at sn;have ro:=(zn3 K.mc (ks:=a) sG p q).trans (znl K.mc K.s1 a R (by lia) (b:=q) q0<|ē q1<|by decide)
 rw[a1,show MI (Ai ws rs j) a g q ↑l=.ok (IQ a (q * ((a.length:Int)+2))<|EF (Ai ws rs j) l g q) from rfl]at ro;have rz:=rz_ok K.mc K.s1 a R<|by lia
 rw[a1,show Jk (Ai ws rs j) g ↑l=.ok (oT (l.length+2)<|Ei (l.length+2)<|Cw (Ai ws rs j) l g) from rfl]at rz;have hI:=Qv K.mc (HY a1).1 R;have oz:=Xq (l.length+2)<|Ei (l.length+2)<|Cw (Ai ws rs j) l g;have oe:=CW _ oz;have oi:=oT_is (l.length+2) (Ei (l.length+2)<|Cw (Ai ws rs j) l g) false;let(W,eW,lW,hF):=zgs K (ks:=a) (by lia) S hg<|B0 ns ↑21 ↑30
 let(w,hw):∃w:Int×Int->Int,∀t∈W,FP 6 t.1 t.2<|w t:=by
  have:∀t:Int×Int,∃w,t∈W->FP 6 t.1 t.2 w:=λt=>by
   by_cases ht:t∈W
   .let(w,hw):=hF t ht;exact{w,λϊ=>hw}
   .exact{0,λz=>absurd z ht}
  let(f,hf):=Classical.axiomOfChoice this;exact{f,λt ht=>hf t ht}
 let(bb,eb,hbb):=zls HI K (ks:=a) (by lia) S hg hw lW
 have Z:bb=true->(∀x∈W.map w,0<=x)/\∀b∈Bl (Ai ws rs j) l (g.map<|A2 ws),CB 6 (Du<|W.map w) b:=λz=>by
  let(p1,s,p2,p3):=hbb z
  have M:∀x∈W.map w,0<=x:=λx hx=>by
   let(t,ht,rfl):=Ó.mp hx;have e:=(hw t ht).e;have b0:=(hw t ht).o.p;have a0:=p1 t ht
   by_cases z:0<=w t
   .exact z
   .exfalso
    have:w t * t.2<0:=Int.mul_neg_of_neg_of_pos (by lia) b0
    lia
  exact{M,zi6 HI K (by lia) wk a2 a3 a4 M (by rw[Á];exact lW) p2 p3}
 have su:=WR HI hw;have sW:A4 (W.map fw)=true:=Dd λϊ ϊ=>rfl
 have N:=AJ _ sW
 have e6:(W.map w).sum=Du (W.map w) (l.length+2 - 1):=by
  unfold Du;rw[ű (by rw[Á,lW,a4];lia)]
 have rsn:∀{u:Int} {v:Nat->Int},(∀b∈Bl (Ai ws rs j) l (g.map<|A2 ws),CB u v b)->∀i,1<=i->i<=1+a.length->v (i - 1)<=v i:=λ{u v} sat=>by
  rw[Qw a3]at sat;have:=XQ l 1 (λϊ=>0) λb q=>sat b<|ù _ q
  rwa[a4]at this
 refine Qb rfl ?_;show M5 [↑(C0 ns),none,none,none,none,none,none,none,none,none,none]=_;unfold M5;unfold C0 at *;have Q:=Cm ns;have O:=Cq ns;change ns.map T.int=NT;change (B0 ns ↑12 ↑20).map T.int=CT;change (B0 ns ↑21 ↑30).map T.int=C2;change (mT 5 λi=>T.int<|xs i)=XT
 by_cases hs:Db.Sound (l.length+2)<|Cw (Ai ws rs j) l g
 .let(L,o,L0,ho,low,exv):=soon (by lia) hI hs
  let(v1,t1,z1,n1,b1,u1):=exv (1 * ((l.length:Int)+2))<|by lia
  have qn:1 * ((l.length:Int)+2)<=q * ((l.length:Int)+2):=Ģ (by lia)<|by lia
  let(n,t2,z2,n2,b2,u2):=exv (q * ((l.length:Int)+2))<|by lia
  have l1:=low _ v1 z1 n1 b1;have l2:=low _ n z2 n2 b2;have ev1:EF (Ai ws rs j) l g 1=↑v1:=t1;have ev2:EF (Ai ws rs j) l g q=↑n:=t2;rw[show l.length+2 - 1=l.length+1 from rfl]at u1 l1 u2 l2 e6
  have l6:bb=true->L * 6+o<=(W.map w).sum:=λz=>by
   let(M,sat):=Z z;have:=low 6 (Du<|W.map w) rfl (Oc M) sat;rw[e6];exact this
  rw[ev1]at sn;rw[ev2]at ro;have o1:o * (((l.length+2:Nat):Int) - 1)=o * ((l.length:Int)+1):=by rw[show(((l.length+2:Nat):Int) - 1)=(l.length:Int)+1 by lia]
  rw[o1]at u1 u2;let(m,hm):∃m:Bool,m=decide (o=0):={_,rfl}
  have e1:II (l.length+1) (1 * ((l.length:Int)+2)) ↑v1=.tup [.int L,.bl m]:=by
   show T.tup [.int<|(v1<|l.length+1).fdiv _,.bl<|(v1<|l.length+1).fmod _ == 0]=_;change v1 (l.length+1)=V;have U0:1 * ((l.length:Int)+2)=l.length+2:=Int.one_mul _;change 1 * ((l.length:Int)+2)=U
   rcases ho with rfl|rfl
   .rw[Ĕ,ņ]at u1;rw[ņ]at l1;let(f1,f2):=e7 (V:=V) (L:=L) (u:=U) (s:=0) (by rw[ņ];exact Int.le_antisymm u1 l1) (ö _)<|by lia
    rw[f1,f2,hm]
    rfl
   .rw[Int.one_mul]at u1;let(f1,f2):=e7 (V:=V) (L:=L) (u:=U) (s:=V - L * U) (by lia) (by lia)<|by lia
    rw[f1,f2,hm,beq_eq_false_iff_ne.mpr<|show V - L * U≠0 by lia]
    rfl
  rw[e1]at sn;rw[a4]at b2 u2 l2;have bu:Bo<|q * ((a.length:Int)+2):={Ė q0 (by lia),Ħ (Ś q1 (show(a.length:Int)+2<=12 by lia) (by lia)<|by decide)<|by decide}
  let(x,hr,hgx):=zjq K wk a2 a3 b2
  have sh:=zgz bu K (by lia) S hg z2 (rsn b2) hr hgx (E:=L) (p:=p) (q:=q) (Cn (by lia)<|Ħ q1<|by decide) (m:=m) (λz=>by
   have z0:o=0:=ì<|hm▸z;subst z0;rw[Ĕ,ņ]at u2;rw[ņ]at l2
   exact Int.le_antisymm u2 l2) λz=>by
   have z1:o=1:=ho.resolve_left<|of_decide_eq_false<|hm▸z;subst z1;change n (a.length+1)=V;have k1:=Ģ (show V - L * (q * ((a.length:Int)+2))<=(a.length:Int)+1 by lia)<|show 0<=q by lia
   have k2:=Ģ (show 1<=p by lia)<|ĩ bu.p
   have k3:q * ((a.length:Int)+2)=((a.length:Int)+1) * q+q:=by
    rw[Ă,show(a.length:Int)+2=(a.length+1)+1 by lia,Int.add_mul,Int.one_mul]
   exact{by lia,by lia}
  have eT:Lu a n (q * ((a.length:Int)+2))=(CQ n (q * ((a.length:Int)+2)) 1 a).map Bp:=by
   have:=Vm n (q * ((a.length:Int)+2)) a 0 λk hk=>(S k hk).1
   rw[<- this];unfold Lu
   congr 2
   funext i
   show fr (Zm.lt (n (i+1) - n i) _) (Zm.lb (n (i+1) - n i) _)=fr (Zm.lt (n (0+(i+1)) - n (0+i)) _) (Zm.lb (n (0+(i+1)) - n (0+i)) _);rw[Ş,Ş]
  have sL:A4 ((CQ n (q * ((a.length:Int)+2)) 1 a).map Bp)=true:=Dd λt ϊ=>by
   show((!false) && (true && ((BH t.k).sh && true)))=true;cases t.k<;>rfl
  have eL:=AJ _ sL;rw[show IQ a (q * ((a.length:Int)+2)) ↑n=.own (Lu a n<|q * ((a.length:Int)+2)) from rfl,eT]at ro;have dL:decide (L<0)=false:=Ù<|by lia
  have ezn:Ei (l.length+2) (Cw (Ai ws rs j) l g)=↑(Db.fw (Cw (Ai ws rs j) l g)<|l.length+2):=by
   unfold Ei;rw[if_pos hs]
  rw[ezn]at rz oz oe oi;have oi':CM false (oT (l.length+2)<|↑(Db.fw (Cw (Ai ws rs j) l g)<|l.length+2)) .non=↑(.bl false):=oi
  have be:bb=true->JY [C6 6 (W.map w).sum,.tup [.int L,.bl m]]=↑(.ok<|.bl true):=λz=>zqj HI (by
   have:=l6 z
   rcases ho with rfl|rfl
   .by_cases c:(W.map w).sum=L * 6
    .exact .inr {(c),hm}
    .exact .inl<|by lia
   .exact .inl<|by lia)
  unfold C6 at be su;change oT (l.length+2) (↑(Db.fw (Cw (Ai ws rs j) l g)<|l.length+2))=OZ;change Zm.lt (W.map w).sum 6=sa;change Zm.lb (W.map w).sum 6=sb;change (CQ n (q * ((a.length:Int)+2)) 1 a).map Bp=TT;change W.map fw=WT;change a.map T.int=KT;refine sq (by simp![Q,O,em,AV,AS,A,I,sd,C];rfl)<|sq (by simp![AV,AS,A,I,sd,C,md,sm,y];rfl)<|sq (by simp![AV,AS,A,I,sd,C,Q,O,cm,scs,ecs,er1,J,H];rfl)<|sq (by simp![AV,AS,A,I,sd,C,Q,O,c20,es',sx,ex,esc,s4,eg1,B,G];rfl)<|sq (by simp![Q,O,c30,en];rfl)<|sq (by simp![J,H,lk,B,G,lg,sm,y,sn];rfl)<|sq (by simp![J,H,lk,B,G,lg,sm,y,ro,sL,eL];rfl)<|sq (by simp![AV,AS,A,I,sd,C,J,H,B,G,Q,O,cm2,scs2,Y,eW,sW,N];rfl)<|sq (by simp![AV,AS,A,I,sd,C,J,H,B,G,sW,N,eb];rfl) ?_
  refine Fk (by simp![-CM,J,H,B,G,sm,y,rz,oz,oe,oi'])<|Fk (by simp![E2])<|Fk (by simp![dL])<|Fk ?_ ?_
  .cases bb with
   |false=>simp![]|true=>simp![sW,N,su,be rfl]
  .simp![AV,AS,A,I,sd,C,J,H,B,G,sL,eL,sh]
 .have nn:∀b:Int,0<b->EF (Ai ws rs j) l g b=none:=λb hb=>by
   cases ev:EF (Ai ws rs j) l g b with
   |none=>rfl|some v=>
    exfalso
    have sat:=RN.mp<|Vq _ _ _ (show Dv.tn ((Bl (Ai ws rs j) l<|g.map<|A2 ws).map (E6<|b * ((l.length:Int)+2))) (l.length+2) (λϊ=>0)=↑v from ev)
    have r0:=XB<|rsn sat;rw[<- a4]at r0;exact hs<|zf0 hI (Ė hb<|by lia) sat r0
  have b0:bb=false:=by
   cases bb with
   |false=>rfl|true=>let(M,sat):=Z rfl;exact absurd (VJ (P:=6) (X:=Du<|W.map w) (by decide) rfl (Oc M) sat) hs
  subst b0;rw[nn 1<|by decide]at sn
  rw[nn q q0]at ro;have sn':Kz [Al<|Ai ws rs j,.lst<|a.map T.int,.lst g]=↑(.ok .non):=sn;have ro':Ky [Al<|Ai ws rs j,.lst<|a.map T.int,.lst g,fr p q]=↑(.ok .non):=ro
  have ezn:Ei (l.length+2) (Cw (Ai ws rs j) l g)=none:=by
   unfold Ei;rw[if_neg hs]
  rw[ezn]at rz;have rz':LA [Al<|Ai ws rs j,.lst<|a.map T.int,.lst g]=↑(.ok .non):=rz;change W.map fw=WT;change a.map T.int=KT;refine sq (by simp![Q,O,em,AV,AS,A,I,sd,C];rfl)<|sq (by simp![AV,AS,A,I,sd,C,md,sm,y];rfl)<|sq (by simp![AV,AS,A,I,sd,C,Q,O,cm,scs,ecs,er1,J,H];rfl)<|sq (by simp![AV,AS,A,I,sd,C,Q,O,c20,es',sx,ex,esc,s4,eg1,B,G];rfl)<|sq (by simp![Q,O,c30,en];rfl)<|sq (by simp![J,H,lk,B,G,lg,sm,y,sn'];rfl)<|sq (by simp![J,H,lk,B,G,lg,sm,y,ro'];rfl)<|sq (by simp![AV,AS,A,I,sd,C,J,H,B,G,Q,O,cm2,scs2,Y,eW,sW,N];rfl)<|sq (by simp![AV,AS,A,I,sd,C,J,H,B,G,sW,N,eb];rfl) ?_
  simp![J,H,B,G,sm,y,rz']
end
end Zl
namespace Zl
open PySem PySem.W L2 Zw Zx Pu Hd
abbrev pw:Program:=PySem.Challenge.pw_zonewalk_k54_soonest_ends
abbrev Qa:OpenLaw:=PySem.Challenge.rw_zonewalk_k54_soonest_ends
abbrev md:String:="__module__"
abbrev fl:String:="__firstlineno__"
abbrev sa:String:="__static_attributes__"
abbrev dc:String:="__doc__"
abbrev cf:Str:="/claim/cut.py"
def tO(l:k9):Obj:={(.type "tuple"),none,(.seq (Array.mk l) 0),Array.mk []}
def dO(l:List DictEntry)(n:Nat):Obj:={(.type "dict"),none,(.dict (Array.mk l) n),Array.mk []}
def eb:k9:=[(.type "ValueError"),(.type "Exception"),(.type "BaseException"),(.type "object")]
def yO(a:Str)(b c:k9)(n:Addr)(d:k9)(r e f:Nat)(w:String):Obj:={(.type "type"),none,(.cls {a,b,c,n,a,true,[],d,false,none,false}),Array.mk [(↑(.ref r)),none,(↑(.str a e)),(↑(.str a f)),(↑(.builtin w)),(↑(.bool true))]}
def cP(a:Str)(c:Nat)(b:Str)(d e:Nat)(r n k:Int)(r1:Nat)(z:Int)(g h i j l:Value)(x y:Int)(f:Nat):Obj:={(.type "code"),none,(.fields<|Array.mk [(.str a c),(.str b d),(.str cf e),(.int r 0),(.int n 0),(.int 0 0),(.int 0 0),(.int k 0),(.ref r1),(.bool true),(.int z 0),g,h,i,j,l,(.int x 0),(.int y 0),(.str cf f)]),Array.mk []}
def cL(a b:Str)(t r n q x:Nat):Obj:=cP a t b (t+1) (t+2) r n 3 q 181 (.ref<|q+1) .none (.ref<|q+2) (.ref<|q+3) (.ref<|q+4) x r<|x+1
def cN(a:Str):=cL a a
def cM(a b:Str)(t r n q:Nat):Obj:=cP a t b (t+1) (t+2) r n 3 q 181 (.ref<|q+1) .none .none .none (.ref<|q+2) ((t+3:Nat):Int) r<|t+4
def o2(P:Params):Obj:={.none,none,(.dict (Array.mk []) 0),Array.mk []}
def o3(P:Params):Obj:=dO [en P "__name__" 165<|.str "law_zonewalk_k54_soonest_ends" 795,en P "__doc__" 166 .none,en P "__package__" 167 .none,en P "__loader__" 168<|.builtin "__main__.__loader__#opaque",en P "__spec__" 169 .none,en P "__annotations__" 170<|.ref 6,en P "__builtins__" 171<|.ref 4,en P "__file__" 173<|.str "/claim/cut.py" 172,en P "__cached__" 174 .none,en P "WalkError" 206<|.ref 24,en P "NoNumber" 222<|.ref 37,en P "BadMachine" 238<|.ref 49,en P "TooMany" 254<|.ref 61,en P "NoMark" 270<|.ref 73,en P "NoRoad" 286<|.ref 85,en P "is_whole" 295<|.ref 94,en P "greatest_divisor" 306<|.ref 101,en P "fraction" 316<|.ref 109,en P "at_most" 325<|.ref 116,en P "below" 332<|.ref 123,en P "number_of" 339<|.ref 130,en P "is_open" 346<|.ref 137,en P "narrower" 354<|.ref 144,en P "unit_of" 364<|.ref 151,en P "limits_of" 370<|.ref 156,en P "least_values" 380<|.ref 163,en P "raise_all" 393<|.ref 170,en P "WORDS" 401<|.ref 171,en P "STAY_WORDS" 404<|.ref 172,en P "is_look" 413<|.ref 179,en P "is_number" 420<|.ref 186,en P "is_guard" 426<|.ref 191,en P "look_bounds" 437<|.ref 198,en P "MOST_WATCHES" 441<|.int 7 440,en P "MOST_ROOMS" 443<|.int 64 442,en P "MOST_DOORS" 445<|.int 200 444,en P "is_small_letter" 452<|.ref 205,en P "is_name" 458<|.ref 210,en P "is_watch_name" 465<|.ref 217,en P "is_room_name" 471<|.ref 222,en P "is_sign" 478<|.ref 229,en P "own_copy" 485<|.ref 236,en P "Door" 537<|.ref 268,en P "Machine" 603<|.ref 322,en P "check_watches" 609<|.ref 331,en P "are_unlike" 616<|.ref 338,en P "check_rooms" 622<|.ref 343,en P "check_doors" 632<|.ref 350,en P "are_noughts" 638<|.ref 355,en P "placed" 644<|.ref 360,en P "nought_places" 652<|.ref 365,en P "free_bound" 662<|.ref 372,en P "narrowest" 668<|.ref 377,en P "is_broken" 674<|.ref 382,en P "row_over" 687<|.ref 389,en P "MOST_ROAD_DOORS" 691<|.int 200 690,en P "road_doors" 704<|.ref 396,en P "last_room" 712<|.ref 403,en P "looked_at" 725<|.ref 410,en P "waited_till" 736<|.ref 417,en P "road_bounds" 742<|.ref 422,en P "road_zone" 748<|.ref 427,en P "road_unit" 756<|.ref 434,en P "least_times" 767<|.ref 441,en P "run_by" 773<|.ref 446,en P "soonest" 784<|.ref 453,en P "soonest_run" 794<|.ref 460,en P "_law_cell_at" 804<|.ref 467,en P "_law_stream" 816<|.ref 474,en P "_law_names" 822<|.ref 479,en P "_law_number" 830<|.ref 486,en P "_law_guard" 842<|.ref 493,en P "_law_stay" 854<|.ref 500,en P "_law_door" 860<|.ref 505,en P "_law_machine" 866<|.ref 510,en P "_law_made" 872<|.ref 515,en P "_law_scale" 878<|.ref 520,en P "_law_holds" 893<|.ref 527,en P "_law_divisor" 901<|.ref 534,en P "_law_plus" 912<|.ref 541,en P "_law_step" 918<|.ref 546,en P "_law_start" 924<|.ref 551,en P "_law_right_step" 935<|.ref 558,en P "_law_walk" 945<|.ref 565,en P "_law_road" 951<|.ref 570,en P "_law_need" 968<|.ref 577,en P "_law_waits" 974<|.ref 582,en P "_law_good" 987<|.ref 589,en P "_law_sum" 996<|.ref 596,en P "_law_behind" 1005<|.ref 603,en P "_law_near" 1014<|.ref 610,en P "_law_shown" 1020<|.ref 615,en P "law" 1037<|.ref 622] 93
def o15(P:Params):Obj:=tO [(.type "ValueError")]
def o22(P:Params):Obj:=tO []
def o23(P:Params):Obj:=dO [en P md 196<|.str "zonewalk.errors" 187,en P fl 200<|.int 2 199,en P sa 201<|.ref 22,en P "__weakref__" 203<|.ref 25,en P dc 204 .none] 3
def o24(P:Params):Obj:=yO "WalkError" [(.type "ValueError")] ([(.ref 24)]++eb) 23 [(.ref 37),(.ref 49),(.ref 61),(.ref 73),(.ref 85)] 15 189 197 "ValueError.__new__"
def o25(P:Params):Obj:={(.type "getset_descriptor"),none,(.fields<|Array.mk [(.str "__weakref__" 202),(.ref 24),(.builtin "ExceptionGroup.__weakref__"),.none]),Array.mk []}
def o28(P:Params):Obj:=tO [(.ref 24)]
def o35(P:Params):Obj:=tO []
def o36(P:Params):Obj:=dO [en P md 214<|.str "zonewalk.errors" 187,en P fl 218<|.int 4 217,en P sa 219<|.ref 35,en P dc 220 .none] 2
def o37(P:Params):Obj:=yO "NoNumber" [(.ref 24)] ([(.ref 37),(.ref 24)]++eb) 36 [] 28 207 215 "ValueError.__new__"
def o40(P:Params):Obj:=tO [(.ref 24)]
def o47(P:Params):Obj:=tO []
def o48(P:Params):Obj:=dO [en P md 230<|.str "zonewalk.errors" 187,en P fl 234<|.int 6 233,en P sa 235<|.ref 47,en P dc 236 .none] 2
def o49(P:Params):Obj:=yO "BadMachine" [(.ref 24)] ([(.ref 49),(.ref 24)]++eb) 48 [] 40 223 231 "ValueError.__new__"
def o52(P:Params):Obj:=tO [(.ref 24)]
def o59(P:Params):Obj:=tO []
def o60(P:Params):Obj:=dO [en P md 246<|.str "zonewalk.errors" 187,en P fl 250<|.int 8 249,en P sa 251<|.ref 59,en P dc 252 .none] 2
def o61(P:Params):Obj:=yO "TooMany" [(.ref 24)] ([(.ref 61),(.ref 24)]++eb) 60 [] 52 239 247 "ValueError.__new__"
def o64(P:Params):Obj:=tO [(.ref 24)]
def o71(P:Params):Obj:=tO []
def o72(P:Params):Obj:=dO [en P md 262<|.str "zonewalk.errors" 187,en P fl 266<|.int 10 265,en P sa 267<|.ref 71,en P dc 268 .none] 2
def o73(P:Params):Obj:=yO "NoMark" [(.ref 24)] ([(.ref 73),(.ref 24)]++eb) 72 [] 64 255 263 "ValueError.__new__"
def o76(P:Params):Obj:=tO [(.ref 24)]
def o83(P:Params):Obj:=tO []
def o84(P:Params):Obj:=dO [en P md 278<|.str "zonewalk.errors" 187,en P fl 282<|.int 12 281,en P sa 283<|.ref 83,en P dc 284 .none] 2
def o85(P:Params):Obj:=yO "NoRoad" [(.ref 24)] ([(.ref 85),(.ref 24)]++eb) 84 [] 76 271 279 "ValueError.__new__"
def o93(_:Params):=cN "is_whole" 289 15 1 88 293
def b5(a:Str)(s:Stmt)(c:Nat):=gO a s "zonewalk.fractions" 287 c
def Xr(_:Params):=b5 "is_whole" (AK 8) 93
def o100(_:Params):=cN "greatest_divisor" 296 17 2 95 304
def ZQ(_:Params):=b5 "greatest_divisor" (AK 9) 100
def ZP(P:Params):Obj:=tO [(.int 1 307)]
def o108(_:Params):=cN "fraction" 308 25 2 103 314
def ZO(_:Params):=fO "fraction" "fraction" (AK 10) (.ref 102) "zonewalk.fractions" 287 108 .none
def o115(_:Params):=cN "at_most" 319 35 1 110 323
def K4(a:Str)(s:Stmt)(c:Nat):=gO a s "zonewalk.bounds" 317 c
def ZN(_:Params):=K4 "at_most" (AK 12) 115
def o122(_:Params):=cN "below" 326 37 1 117 330
def ZM(_:Params):=K4 "below" (AK 13) 122
def o129(_:Params):=cN "number_of" 333 39 1 124 337
def ZL(_:Params):=K4 "number_of" (AK 14) 129
def o136(_:Params):=cN "is_open" 340 41 1 131 344
def ZK(_:Params):=K4 "is_open" (AK 15) 136
def o143(_:Params):=cN "narrower" 347 43 2 138 352
def ZJ(_:Params):=K4 "narrower" (AK 16) 143
def o150(_:Params):=cN "unit_of" 357 50 2 145 362
def Mz(a:Str)(s:Stmt)(c:Nat):=gO a s "zonewalk.leasts" 355 c
def ZI(_:Params):=Mz "unit_of" (AK 18) 150
def o155(P:Params):Obj:=cM "limits_of" "limits_of" 365 52 2 152
def ZH(_:Params):=Mz "limits_of" (AK 19) 155
def o162(_:Params):=cN "least_values" 371 54 2 157 378
def ZG(_:Params):=Mz "least_values" (AK 20) 162
def o169(_:Params):=cN "raise_all" 381 60 2 164 391
def ZF(_:Params):=Mz "raise_all" (AK 21) 169
def ZE(P:Params):Obj:=tO [(.str "<" 396),(.str "<=" 397),(.str ">" 398),(.str ">=" 399),(.str "=" 400)]
def ZD(P:Params):Obj:=tO [(.str "<" 402),(.str "<=" 403)]
def o178(_:Params):=cN "is_look" 405 71 3 173 411
def My(a:Str)(s:Stmt)(c:Nat):=gO a s "zonewalk.looks" 394 c
def ZC(_:Params):=My "is_look" (AK 25) 178
def o185(_:Params):=cN "is_number" 414 75 1 180 418
def ZA(_:Params):=My "is_number" (AK 26) 185
def o190(P:Params):Obj:=cM "is_guard" "is_guard" 421 77 3 187
def Yz(_:Params):=My "is_guard" (AK 27) 190
def o197(_:Params):=cN "look_bounds" 427 79 4 192 435
def Yy(_:Params):=My "look_bounds" (AK 28) 197
def o204(_:Params):=cN "is_small_letter" 446 94 1 199 450
def FI(a:Str)(s:Stmt)(c:Nat):=gO a s "zonewalk.machines" 438 c
def Yx(_:Params):=FI "is_small_letter" (AK 33) 204
def o209(P:Params):Obj:=cM "is_name" "is_name" 453 96 1 206
def Yw(_:Params):=FI "is_name" (AK 34) 209
def o216(_:Params):=cN "is_watch_name" 459 98 1 211 463
def Yv(_:Params):=FI "is_watch_name" (AK 35) 216
def o221(P:Params):Obj:=cM "is_room_name" "is_room_name" 466 100 1 218
def Yu(_:Params):=FI "is_room_name" (AK 36) 221
def o228(_:Params):=cN "is_sign" 472 104 1 223 476
def Yt(_:Params):=FI "is_sign" (AK 37) 228
def o235(_:Params):=cN "own_copy" 479 108 1 230 483
def Ys(_:Params):=FI "own_copy" (AK 38) 235
def Yr(P:Params):Obj:=tO [(.str "" 498)]
def o250(P:Params):Obj:=cL "__init__" "Door.__init__" 499 112 6 245 508
def Yq(_:Params):=fO "__init__" "Door.__init__" (DU 39 0) (.ref 244) "zonewalk.machines" 438 250 .none
def o257(P:Params):Obj:=cL "asks" "Door.asks" 511 119 1 252 515
def Yp(_:Params):=fO "asks" "Door.asks" (DU 39 1) .none "zonewalk.machines" 438 257 .none
def o264(P:Params):Obj:=cL "sets" "Door.sets" 518 122 1 259 522
def Yo(_:Params):=fO "sets" "Door.sets" (DU 39 2) .none "zonewalk.machines" 438 264 .none
def o266(P:Params):Obj:=tO [(.str "end" 525),(.str "guard" 526),(.str "noughts" 527),(.str "sign" 528),(.str "start" 529)]
def o267(P:Params):Obj:=dO [en P md 493<|.str "zonewalk.machines" 438,en P fl 497<|.int 110 496,en P "__init__" 510<|.ref 251,en P "asks" 517<|.ref 258,en P "sets" 524<|.ref 265,en P sa 530<|.ref 266,en P "__dict__" 532<|.ref 269,en P "__weakref__" 534<|.ref 270,en P dc 535 .none] 4
def o268(P:Params):Obj:={(.type "type"),none,(.cls {"Door",[(.type "object")],[(.ref 268),(.type "object")],267,"Door",true,[],[],false,none,false}),Array.mk [none,none,(↑(.str "Door" 486)),(↑(.str "Door" 494)),(↑(.builtin "object.__new__")),(↑(.bool true))]}
def o269(P:Params):Obj:={(.type "getset_descriptor"),none,(.fields<|Array.mk [(.str "__dict__" 531),(.ref 268),(.builtin "function.__dict__"),(.builtin "function.__dict__#set")]),Array.mk []}
def o270(P:Params):Obj:={(.type "getset_descriptor"),none,(.fields<|Array.mk [(.str "__weakref__" 533),(.ref 268),(.builtin "ExceptionGroup.__weakref__"),.none]),Array.mk []}
def o283(P:Params):Obj:=cM "__init__" "Machine.__init__" 550 126 4 280
def Yn(_:Params):=fO "__init__" "Machine.__init__" (DU 40 0) .none "zonewalk.machines" 438 283 .none
def o290(P:Params):Obj:=cL "watches" "Machine.watches" 556 138 1 285 560
def Ym(_:Params):=fO "watches" "Machine.watches" (DU 40 1) .none "zonewalk.machines" 438 290 .none
def o297(P:Params):Obj:=cL "rooms" "Machine.rooms" 563 141 1 292 567
def Yl(_:Params):=fO "rooms" "Machine.rooms" (DU 40 2) .none "zonewalk.machines" 438 297 .none
def o304(P:Params):Obj:=cL "doors" "Machine.doors" 570 144 1 299 574
def Yk(_:Params):=fO "doors" "Machine.doors" (DU 40 3) .none "zonewalk.machines" 438 304 .none
def o311(P:Params):Obj:=cL "stay" "Machine.stay" 577 147 2 306 582
def Yj(_:Params):=fO "stay" "Machine.stay" (DU 40 4) .none "zonewalk.machines" 438 311 .none
def o318(P:Params):Obj:=cL "watch_number" "Machine.watch_number" 585 150 2 313 590
def Yi(_:Params):=fO "watch_number" "Machine.watch_number" (DU 40 5) .none "zonewalk.machines" 438 318 .none
def o320(P:Params):Obj:=tO [(.str "door_list" 593),(.str "stays" 594),(.str "watch_names" 595)]
def o321(P:Params):Obj:=dO [en P md 545<|.str "zonewalk.machines" 438,en P fl 549<|.int 124 548,en P "__init__" 555<|.ref 284,en P "watches" 562<|.ref 291,en P "rooms" 569<|.ref 298,en P "doors" 576<|.ref 305,en P "stay" 584<|.ref 312,en P "watch_number" 592<|.ref 319,en P sa 596<|.ref 320,en P "__dict__" 598<|.ref 323,en P "__weakref__" 600<|.ref 324,en P dc 601 .none] 4
def o322(P:Params):Obj:={(.type "type"),none,(.cls {"Machine",[(.type "object")],[(.ref 322),(.type "object")],321,"Machine",true,[],[],false,none,false}),Array.mk [none,none,(↑(.str "Machine" 538)),(↑(.str "Machine" 546)),(↑(.builtin "object.__new__")),(↑(.bool true))]}
def o323(P:Params):Obj:={(.type "getset_descriptor"),none,(.fields<|Array.mk [(.str "__dict__" 597),(.ref 322),(.builtin "function.__dict__"),(.builtin "function.__dict__#set")]),Array.mk []}
def o324(P:Params):Obj:={(.type "getset_descriptor"),none,(.fields<|Array.mk [(.str "__weakref__" 599),(.ref 322),(.builtin "ExceptionGroup.__weakref__"),.none]),Array.mk []}
def o330(P:Params):Obj:=cM "check_watches" "check_watches" 604 152 1 327
def Yh(_:Params):=FI "check_watches" (AK 41) 330
def o337(_:Params):=cN "are_unlike" 610 157 1 332 614
def Yg(_:Params):=FI "are_unlike" (AK 42) 337
def o342(P:Params):Obj:=cM "check_rooms" "check_rooms" 617 159 2 339
def Ye(_:Params):=FI "check_rooms" (AK 43) 342
def o349(_:Params):=cN "check_doors" 623 169 3 344 630
def Yd(_:Params):=FI "check_doors" (AK 44) 349
def o354(P:Params):Obj:=cM "are_noughts" "are_noughts" 633 181 2 351
def Yc(_:Params):=FI "are_noughts" (AK 45) 354
def o359(P:Params):Obj:=cM "placed" "placed" 639 185 2 356
def Yb(_:Params):=FI "placed" (AK 46) 359
def o364(P:Params):Obj:=cM "nought_places" "nought_places" 647 191 2 361
def gO6(a:Str)(s:Stmt)(c:Nat):=gO a s "zonewalk.plans" 645 c
def Y9(_:Params):=gO6 "nought_places" (AK 48) 364
def o371(_:Params):=cN "free_bound" 655 194 2 366 660
def Mx(a:Str)(s:Stmt)(c:Nat):=gO a s "zonewalk.zones" 653 c
def Y8(_:Params):=Mx "free_bound" (AK 50) 371
def o376(P:Params):Obj:=cM "narrowest" "narrowest" 663 198 1 373
def Y7(_:Params):=Mx "narrowest" (AK 51) 376
def o381(P:Params):Obj:=cM "is_broken" "is_broken" 669 206 1 378
def Y6(_:Params):=Mx "is_broken" (AK 52) 381
def o388(_:Params):=cN "row_over" 675 208 3 383 685
def Y5(_:Params):=Mx "row_over" (AK 53) 388
def o395(_:Params):=cN "road_doors" 692 219 2 390 702
def Fg(a:Str)(s:Stmt)(c:Nat):=gO a s "zonewalk.roads" 688 c
def Y4(_:Params):=Fg "road_doors" (AK 56) 395
def o402(_:Params):=cN "last_room" 705 234 2 397 710
def Y3(_:Params):=Fg "last_room" (AK 57) 402
def o409(_:Params):=cN "looked_at" 713 236 3 404 723
def Y2(_:Params):=Fg "looked_at" (AK 58) 409
def o416(_:Params):=cN "waited_till" 726 241 4 411 734
def Y1(_:Params):=Fg "waited_till" (AK 59) 416
def o421(P:Params):Obj:=cM "road_bounds" "road_bounds" 737 244 3 418
def Y0(_:Params):=Fg "road_bounds" (AK 60) 421
def o426(P:Params):Obj:=cM "road_zone" "road_zone" 743 258 3 423
def YZ(_:Params):=Fg "road_zone" (AK 61) 426
def o433(_:Params):=cN "road_unit" 749 265 2 428 754
def YY(_:Params):=Fg "road_unit" (AK 62) 433
def o440(_:Params):=cN "least_times" 757 267 4 435 765
def YX(_:Params):=Fg "least_times" (AK 63) 440
def o445(P:Params):Obj:=cM "run_by" "run_by" 768 270 4 442
def YW(_:Params):=Fg "run_by" (AK 64) 445
def o452(_:Params):=cN "soonest" 774 277 3 447 782
def YV(_:Params):=Fg "soonest" (AK 65) 452
def o459(_:Params):=cN "soonest_run" 785 283 4 454 792
def YU(_:Params):=Fg "soonest_run" (AK 66) 459
def o466(_:Params):=cN "_law_cell_at" 797 286 2 461 802
def CO(a:Str)(s:Stmt)(c:Nat):=gO a s "law_zonewalk_k54_soonest_ends" 795 c
def YT(_:Params):=CO "_law_cell_at" (AK 68) 466
def o473(_:Params):=cN "_law_stream" 805 290 2 468 814
def YS(_:Params):=CO "_law_stream" (AK 69) 473
def o478(P:Params):Obj:=cM "_law_names" "_law_names" 817 303 2 475
def YR(_:Params):=CO "_law_names" (AK 70) 478
def o485(_:Params):=cN "_law_number" 823 313 2 480 828
def YQ(_:Params):=CO "_law_number" (AK 71) 485
def o492(_:Params):=cN "_law_guard" 831 315 3 487 840
def YO(_:Params):=CO "_law_guard" (AK 72) 492
def o499(_:Params):=cN "_law_stay" 843 322 3 494 852
def YN(_:Params):=CO "_law_stay" (AK 73) 499
def o504(P:Params):Obj:=cM "_law_door" "_law_door" 855 329 4 501
def YM(_:Params):=CO "_law_door" (AK 74) 504
def o509(P:Params):Obj:=cM "_law_machine" "_law_machine" 861 334 1 506
def YL(_:Params):=CO "_law_machine" (AK 75) 509
def o514(P:Params):Obj:=cM "_law_made" "_law_made" 867 346 1 511
def YK(_:Params):=CO "_law_made" (AK 76) 514
def o519(P:Params):Obj:=cM "_law_scale" "_law_scale" 873 352 1 516
def YJ(_:Params):=CO "_law_scale" (AK 77) 519
def o526(_:Params):=cN "_law_holds" 879 359 3 521 891
def YI(_:Params):=CO "_law_holds" (AK 78) 526
def o533(_:Params):=cN "_law_divisor" 894 368 2 528 899
def YH(_:Params):=CO "_law_divisor" (AK 79) 533
def o540(_:Params):=cN "_law_plus" 902 372 2 535 910
def YG(_:Params):=CO "_law_plus" (AK 80) 540
def o545(P:Params):Obj:=cM "_law_step" "_law_step" 913 377 4 542
def YF(_:Params):=CO "_law_step" (AK 81) 545
def o550(P:Params):Obj:=cM "_law_start" "_law_start" 919 394 1 547
def YE(_:Params):=CO "_law_start" (AK 82) 550
def o557(_:Params):=cN "_law_right_step" 925 399 2 552 933
def YD(_:Params):=CO "_law_right_step" (AK 83) 557
def o564(_:Params):=cN "_law_walk" 936 411 2 559 943
def YC(_:Params):=CO "_law_walk" (AK 84) 564
def o569(P:Params):Obj:=cM "_law_road" "_law_road" 946 420 2 566
def YB(_:Params):=CO "_law_road" (AK 85) 569
def o576(_:Params):=cN "_law_need" 952 431 4 571 966
def YA(_:Params):=CO "_law_need" (AK 86) 576
def o581(P:Params):Obj:=cM "_law_waits" "_law_waits" 969 441 4 578
def Xz(_:Params):=CO "_law_waits" (AK 87) 581
def o588(_:Params):=cN "_law_good" 975 462 4 583 985
def Xy(_:Params):=CO "_law_good" (AK 88) 588
def o595(_:Params):=cN "_law_sum" 988 470 1 590 994
def Xx(_:Params):=CO "_law_sum" (AK 89) 595
def o602(_:Params):=cN "_law_behind" 997 475 2 597 1003
def Xw(_:Params):=CO "_law_behind" (AK 90) 602
def o609(_:Params):=cN "_law_near" 1006 478 1 604 1012
def Xv(_:Params):=CO "_law_near" (AK 91) 609
def o614(P:Params):Obj:=cM "_law_shown" "_law_shown" 1015 484 6 611
def Xu(_:Params):=CO "_law_shown" (AK 92) 614
def o621(_:Params):=cN "law" 1021 495 1 616 1035
def Xs(_:Params):=CO "law" (AK 93) 621
def e8:List Addr:=[2,3,15,22,23,24,25,28,35,36,37,40,47,48,49,52,59,60,61,64,71,72,73,76,83,84,85,93,94,100,101,102,108,109,115,116,122,123,129,130,136,137,143,144,150,151,155,156,162,163,169,170,171,172,178,179,185,186,190,191,197,198,204,205,209,210,216,217,221,222,228,229,235,236,244,250,251,257,258,264,265,266,267,268,269,270,283,284,290,291,297,298,304,305,311,312,318,319,320,321,322,323,324,330,331,337,338,342,343,349,350,354,355,359,360,364,365,371,372,376,377,381,382,388,389,395,396,402,403,409,410,416,417,421,422,426,427,433,434,440,441,445,446,452,453,459,460,466,467,473,474,478,479,485,486,492,493,499,500,504,505,509,510,514,515,519,520,526,527,533,534,540,541,545,546,550,551,557,558,564,565,569,570,576,577,581,582,588,589,595,596,602,603,609,610,614,615,621,622]
def JA(P:Params):Frag:=e8.zipWith (λa o=>(a,o P)) [o2,o3,o15,o22,o23,o24,o25,o28,o35,o36,o37,o40,o47,o48,o49,o52,o59,o60,o61,o64,o71,o72,o73,o76,o83,o84,o85,o93,Xr,o100,ZQ,ZP,o108,ZO,o115,ZN,o122,ZM,o129,ZL,o136,ZK,o143,ZJ,o150,ZI,o155,ZH,o162,ZG,o169,ZF,ZE,ZD,o178,ZC,o185,ZA,o190,Yz,o197,Yy,o204,Yx,o209,Yw,o216,Yv,o221,Yu,o228,Yt,o235,Ys,Yr,o250,Yq,o257,Yp,o264,Yo,o266,o267,o268,o269,o270,o283,Yn,o290,Ym,o297,Yl,o304,Yk,o311,Yj,o318,Yi,o320,o321,o322,o323,o324,o330,Yh,o337,Yg,o342,Ye,o349,Yd,o354,Yc,o359,Yb,o364,Y9,o371,Y8,o376,Y7,o381,Y6,o388,Y5,o395,Y4,o402,Y3,o409,Y2,o416,Y1,o421,Y0,o426,YZ,o433,YY,o440,YX,o445,YW,o452,YV,o459,YU,o466,YT,o473,YS,o478,YR,o485,YQ,o492,YO,o499,YN,o504,YM,o509,YL,o514,YK,o519,YJ,o526,YI,o533,YH,o540,YG,o545,YF,o550,YE,o557,YD,o564,YC,o569,YB,o576,YA,o581,Xz,o588,Xy,o595,Xx,o602,Xw,o609,Xv,o614,Xu,o621,Xs]
def vq:Program:={ pw with main:={ (pw).main with body:=[AK 93] } }
def loo:kE:=["WalkError","NoNumber","BadMachine","TooMany","NoMark","NoRoad","is_whole","greatest_divisor","fraction","at_most","below","number_of","is_open","narrower","unit_of","limits_of","least_values","raise_all","WORDS","STAY_WORDS","is_look","is_number","is_guard","look_bounds","MOST_WATCHES","MOST_ROOMS","MOST_DOORS","is_small_letter","is_name","is_watch_name","is_room_name","is_sign","own_copy","Door","Machine","check_watches","are_unlike","check_rooms","check_doors","are_noughts","placed","nought_places","free_bound","narrowest","is_broken","row_over","MOST_ROAD_DOORS","road_doors","last_room","looked_at","waited_till","road_bounds","road_zone","road_unit","least_times","run_by","soonest","soonest_run","_law_cell_at","_law_stream","_law_names","_law_number","_law_guard","_law_stay","_law_door","_law_machine","_law_made","_law_scale","_law_holds","_law_divisor","_law_plus","_law_step","_law_start","_law_right_step","_law_walk","_law_road","_law_need","_law_waits","_law_good","_law_sum","_law_behind","_law_near","_law_shown"].map Str.ofString
abbrev hk:Hook:=kHook JA e8<|λϊ=>by ext
def znj(w:World)(os:OsState):(go pw 4239 w os).map (λs=>MC pw vq loo (xt Qa.row.toRowW vq) hk.obs (boot_heap w.params) s.abs)=↑(true,openGood vq loo,hk.val w):=by ext
theorem left:LeftO pw vq loo (xt Qa.row.toRowW vq) hk.obs hk.val 9058 true:=zlk 9058 4239 (by ext) (by decide) (λs=>by ext) (by decide) znj
abbrev fr(w:World):Frag:=JA w.params
def ca:Str->Value:=λc=>if c="BadMachine" then .ref 49 else if c="TooMany" then .ref 61 else if c="NoMark" then .ref 73 else if c="NoNumber" then .ref 37 else if c="NoRoad" then .ref 85 else if c="WalkError" then .ref 24 else .none
section
variable {w:World}{mg:Str->Option Value}{base:Heap} [q:Qx pw w (fr w) mg base ca]
theorem Fx:Cls (fr w) BS:={by ext,by ext,by ext,by ext}
def Hb:∀f∈B7,Cd (fr w) BS f:=(BY (by unfold Cd;ext)<|BY (by unfold Cd;ext)<|BY (by unfold Cd;ext)<|BY (by unfold Cd;ext)<|BY (by unfold Cd;ext) Bb)
theorem FK:Cls (fr w) Av:={by ext,by ext,by ext,by ext}
def IY:∀f∈BA,Cd (fr w) Av f:=(BY (by unfold Cd;ext)<|BY (by unfold Cd;ext)<|BY (by unfold Cd;ext) Bb)
def yg:specialIn (fr w) (.builtin "object.__class__") "__get__"=↑(↑(.builtin "getset_descriptor.__get__"))/\takesIn (fr w) (.builtin "object.__class__")=↑true:={by ext,by ext}
include q
def zc1:ECls (fr w) mg "BadMachine":=HG yg 49 (q.c _ _<|by ext)<|by ext
def VF:∃T:ECls (fr w) mg "BadMachine",ca "BadMachine"=.ref T.C/\DX (fr w) T.C=↑none:={zc1,by rfl,by ext}
def zev:ECls (fr w) mg "TooMany":=HG yg 61 (q.c _ _<|by ext)<|by ext
def zgn:∃T:ECls (fr w) mg "TooMany",ca "TooMany"=.ref T.C/\DX (fr w) T.C=↑none:={zev,by rfl,by ext}
def zgp:ECls (fr w) mg "NoMark":=HG yg 73 (q.c _ _<|by ext)<|by ext
def zj8:∃T:ECls (fr w) mg "NoMark",ca "NoMark"=.ref T.C/\DX (fr w) T.C=↑none:={zgp,by rfl,by ext}
def zds:ECls (fr w) mg "NoNumber":=HG yg 37 (q.c _ _<|by ext)<|by ext
def zeu:∃T:ECls (fr w) mg "NoNumber",ca "NoNumber"=.ref T.C/\DX (fr w) T.C=↑none:={zds,by rfl,by ext}
def zgo:ECls (fr w) mg "NoRoad":=HG yg 85 (q.c _ _<|by ext)<|by ext
def zj7:∃T:ECls (fr w) mg "NoRoad",ca "NoRoad"=.ref T.C/\DX (fr w) T.C=↑none:={zgo,by rfl,by ext}
def D1:=Ae YT 467 zdr<|Af A8 A7 (b:=.all<|Bz λϊ ϊ=>rfl)
def D2:=Ae Yg 338 zbz<|Af A8 A7 (b:=.all<|Bt λϊ=>rfl)
def D3:=Ae Yx 205 za9<|Af A8 A7 (b:=.all<|Bt λϊ=>rfl)
def D4:=Ae Yw 210 zen<|Af (AU D3 A8) A7 (b:=.all<|Bt λϊ=>rfl)
def D5:=Ae Yv 217 zal<|Af (AU D4 A8) A7 (b:=.all<|Bt λϊ=>rfl)
def zax:∃u v,mg "MOST_WATCHES"=↑u/\Ab v u/\∀F:Hp,Rp (fr w) F F Mp v R0:={(.int (7) 440),(.int 7),q.c _ _ (by ext),{_,rfl},λF=>.int _}
def D6:=Ae Yh 331 zam<|Af (AU D5<|AU D2 A8) (A7 (co:=(FE zax Di))) (hex:=(BY VF Bb)) (b:=.all<|Bt λϊ=>rfl)
def D7:=Ae Yu 222 zaz<|Af (AU D3 A8) A7 (b:=.all<|Bt λϊ=>rfl)
def D8:=Ae Xr 94 zdm<|Af A8 A7 (b:=.all<|Bt λϊ=>rfl)
def D9:=Ae ZA 186 zcw<|Af (AU D8 A8) A7 (b:=.all<|Bt λϊ=>rfl)
def D10:=Ae ZC 179 zeo<|Af (AU D9 A8) A7 (b:=.all<|FT λϊ ϊ ϊ=>rfl)
def VH:=Ae Yz 191 zdn<|Af (AU D10 A8) A7 (b:=.all<|FT λϊ ϊ ϊ=>rfl)
def zbu:∃u v,mg "STAY_WORDS"=↑u/\Ab v u/\∀F:Hp,Rp (fr w) F F Mn v R0:={_,.ref 172,q.c _ (.ref 172) (by ext),rfl,λF=>Ah.of_node (k:=.rt) (xs:=[.str "<",.str "<="]) (.inr {ZD w.params,_,_,by ext,rfl,rfl,by decide,(.cons {_,rfl}<|.cons {_,rfl} .nil)})<|Qg ["<","<="]}
def D12:=Ae Ye 343 zbk<|Af (AU D7<|AU VH<|AU D2 A8) (A7 (co:=(FE zbu Di))) (hex:=(BY VF Bb)) (b:=.all<|Bz λϊ ϊ=>rfl)
def D13:=Ae Yc 355 zbm<|Af (AU D5<|AU D2 A8) A7 (b:=.all<|Bz λϊ ϊ=>rfl)
def D14:=Ae Yt 229 zel<|Af (AU D4 A8) A7 (b:=.all<|Bt λϊ=>rfl)
def fX:∃u v,mg "WORDS"=↑u/\Ab v u/\∀F:Hp,Rp (fr w) F F Im v R0:={_,.ref 171,q.c _ (.ref 171) (by ext),rfl,λF=>Ah.of_node (k:=.rt) (xs:=[.str "<",.str "<=",.str ">",.str ">=",.str "="]) (.inr {ZE w.params,_,_,by ext,rfl,rfl,by decide,(.cons {_,rfl}<|.cons {_,rfl}<|.cons {_,rfl}<|.cons {_,rfl}<|.cons {_,rfl} .nil)})<|Qg ["<","<=",">",">=","="]}
def D15:=Ae Yd 350 zbl<|Af (AU VH<|AU D13<|AU D14 A8) (A7 (co:=(FE fX Di)) (cl:=(BY {(Fx),Hb} Bb)) (ci:=(FE {268,q.c _ _ (by ext),(FE {{Fx,by ext,by ext,by ext,by ext},by ext}<|FE {{FK,by ext,by ext,by ext,by ext},by ext} Di),by ext} Di))) (hex:=(BY VF Bb)) (b:=.all<|FT λϊ ϊ ϊ=>rfl)
def zbv:∃u v,mg "MOST_ROOMS"=↑u/\Ab v u/\∀F:Hp,Rp (fr w) F F Mq v R0:={(.int (64) 442),(.int 64),q.c _ _ (by ext),{_,rfl},λF=>.int _}
def zbw:∃u v,mg "MOST_DOORS"=↑u/\Ab v u/\∀F:Hp,Rp (fr w) F F Mr v R0:={(.int (200) 444),(.int 200),q.c _ _ (by ext),{_,rfl},λF=>.int _}
def iW:=fP "Machine" Av BA Yn 284 zb1<|hG (AU D6<|AU D12<|AU D15 A8) (A7 (co:=(FE zbv<|FE zbw Di)) (sf:=(λC fs h=>by cases h;exact{(FK),IY}))) (hex:=(BY zgn Bb))
theorem E16:Ce (fr w) (iW (w:=w) (mg:=mg) (base:=base)).fd To.ps []:=.all<|FR λϊ ϊ ϊ ϊ=>rfl
def D17:=Ae Ys 236 zdk<|Af A8 A7 (b:=.all<|Bt λϊ=>rfl)
def iU:=fP "Door" BS B7 Yq 251 zcz<|hG (AU D17 A8)<|A7 (sf:=(λC fs h=>by cases h;exact{(Fx),Hb}))
theorem E18:Ce (fr w) (iU (w:=w) (mg:=mg) (base:=base)).fd UA.ps []:=λs a X b=>Vd (P:=λa=>BindsTo s _ {a,[]}<|List.zip _<|a++_) (λϊ ϊ ϊ ϊ ϊ ϊ=>binds_K X rfl (show(fr w).lookup 244=↑(Yr w.params) by ext) rfl rfl rfl) a<|by simpa using b
def D19:=Ae YK 515 ziw<|Af A8 (A7 (nw:=(ZU {by decide,BS,iU,(FE {[],[],E18,.nil,λϊ=>.nil} Di)}<|ZU {by decide,Av,iW,(FE {[],[],E16,.nil,λϊ=>.nil} Di)} ZR))) (b:=.all<|Bt λϊ=>rfl)
def D20:=Ae YR 479 zg8<|Af A8 A7 (b:=.all<|Bz λϊ ϊ=>rfl)
def LW:=Ae YS 474 zeq<|Af A8 A7 (b:=.all<|Bz λϊ ϊ=>rfl)
def iS:=Ae YQ 486 zer<|Af A8 A7 (b:=.all<|Bz λϊ ϊ=>rfl)
def iR:=Ae YO 493 zga<|Af (AU iS A8) A7 (b:=.all<|FT λϊ ϊ ϊ=>rfl)
def D24:=Ae YM 505 ziy<|Af (AU LW<|AU iR A8) A7 (b:=.all<|FR λϊ ϊ ϊ ϊ=>rfl)
def D25:=Ae YN 500 zir<|Af (AU iS A8) A7 (b:=.all<|FT λϊ ϊ ϊ=>rfl)
def D26:=Ae YL 510 zdp<|Af (AU D1<|AU D20<|AU LW<|AU D25<|AU D24 A8) A7 (b:=.all<|Bt λϊ=>rfl)
def iQ:=Hq Ym 291 zaa FK<|Hs A8 (A7 (cl:=(BY {(FK),IY} Bb))) (b:=.all<|Bt λϊ=>rfl)
def iP:=Hq Yi 319 za2 FK<|Hs A8 (A7 (cl:=(BY {(FK),IY} Bb))) (b:=.all<|Bz λϊ ϊ=>rfl)
def iO:=Ae Yb 360 zg3<|Af (AU VH A8) (A7 (co:=(FE fX Di)) (mt:=(BY {by decide,{(iQ)}}<|BY {by decide,{(iP)}} Bb))) (hex:=(BY zj8 Bb)) (b:=.all<|Bz λϊ ϊ=>rfl)
def iN:=Hq Yl 298 zan FK<|Hs A8 (A7 (cl:=(BY {(FK),IY} Bb))) (b:=.all<|Bt λϊ=>rfl)
def D31:=Hq Yj 312 zb0 FK<|Hs A8 (A7 (cl:=(BY {(FK),IY} Bb))) (b:=.all<|Bz λϊ ϊ=>rfl)
def D32:=Hq Yk 305 zao FK<|Hs A8 (A7 (cl:=(BY {(FK),IY} Bb))) (b:=.all<|Bt λϊ=>rfl)
def D33:=Hq Yp 258 zd0 Fx<|Hs A8 (A7 (cl:=(BY {(Fx),Hb} Bb))) (b:=.all<|Bt λϊ=>rfl)
def D34:=Hq Yo 265 zcy Fx<|Hs A8 (A7 (cl:=(BY {(Fx),Hb} Bb))) (b:=.all<|Bt λϊ=>rfl)
def OI:=Ae ZN 116 zep<|Af A8 A7 (b:=.all<|Bt λϊ=>rfl)
def D36:=Ae ZM 123 zin<|Af A8 A7 (b:=.all<|Bt λϊ=>rfl)
def D37:=Ae ZL 130 zcr<|Af A8 A7 (b:=.all<|Bt λϊ=>rfl)
def D38:=Ae ZK 137 zem<|Af A8 A7 (b:=.all<|Bt λϊ=>rfl)
def iM:=Ae ZJ 144 zdl<|Af A8 A7 (b:=.all<|Bz λϊ ϊ=>rfl)
def D40:=Ae Y8 372 zby<|Af (AU OI A8) A7 (b:=.all<|Bz λϊ ϊ=>rfl)
def D41:=Ae Y5 389 zdj<|Af A8 A7 (b:=.all<|FT λϊ ϊ ϊ=>rfl)
def D42:=Ae Y6 382 zcx<|Af (AU OI A8) A7 (b:=.all<|Bt λϊ=>rfl)
def D43:=Ae Y7 377 zcs<|Af (AU iM<|AU D40<|AU D42<|AU D41 A8) A7 (b:=.all<|Bt λϊ=>rfl)
def D44:=Ae Yy 198 zbi<|Af (AU D36<|AU OI A8) A7 (b:=.all<|FR λϊ ϊ ϊ ϊ=>rfl)
def D45:=Ae Y9 365 zak<|Af A8 (A7 (mt:=(BY {by decide,{(D34)}}<|BY {by decide,{(iP)}} Bb))) (b:=.all<|Bz λϊ ϊ=>rfl)
def D46:=Ae ZQ 101 za4<|Af A8 A7 (b:=.all<|Bz λϊ ϊ=>rfl)
def D47:=Ae ZO 109 zdo<|Af (AU D8<|AU D46 A8) A7 (hex:=(BY zeu Bb)) (b:=λs a X c=>Bz (P:=λa=>BindsTo s _ {a,[]}<|List.zip _<|a++_) (λϊ ϊ=>binds_K X rfl (show(fr w).lookup 102=↑(ZP w.params) by ext) rfl rfl rfl) a<|by simpa using c)
def D48:=dfC ZF 170 zcq<|ayU A8 A7 (b:=.all<|Bz λϊ ϊ=>rfl)
def D49:=Ae ZG 163 zay<|Af A8 A7 (hms:=(zhs (by decide) D48 Jx)) (b:=.all<|Bz λϊ ϊ=>rfl)
def D50:=Ae ZH 156 zcu<|Af (AU D37<|AU D38 A8) A7 (b:=.all<|Bz λϊ ϊ=>rfl)
def D51:=Ae ZI 151 zej<|Af A8 A7 (b:=.all<|Bz λϊ ϊ=>rfl)
def za8:∃u v,mg "MOST_ROAD_DOORS"=↑u/\Ab v u/\∀F:Hp,Rp (fr w) F F Io v R0:={(.int (200) 690),(.int 200),q.c _ _ (by ext),{_,rfl},λF=>.int _}
def D52:=Ae Y4 396 zbx<|Af (AU D8 A8) (A7 (co:=(FE za8 Di)) (cl:=(BY {(Fx),Hb} Bb)) (mt:=(BY {by decide,{(D32)}}<|BY {by decide,{(iN)}} Bb))) (hex:=(BY zj7 Bb)) (b:=.all<|Bz λϊ ϊ=>rfl)
def D53:=Ae Y3 403 zcv<|Af A8 (A7 (cl:=(BY {(Fx),Hb} Bb)) (mt:=(BY {by decide,{(iN)}} Bb))) (b:=.all<|Bz λϊ ϊ=>rfl)
def iL:=Ae Y2 410 zct<|Af (AU D44 A8) A7 (b:=.all<|FT λϊ ϊ ϊ=>rfl)
def D55:=Ae Y1 417 zbf<|Af (AU iO<|AU OI<|AU iL A8) (A7 (mt:=(BY {by decide,{(D31)}} Bb))) (b:=.all<|FR λϊ ϊ ϊ ϊ=>rfl)
def iK:=Ae Y0 422 zbh<|Af (AU D52<|AU iO<|AU D55<|AU iL<|AU D45<|AU D53 A8) (A7 (cl:=(BY {(Fx),Hb} Bb)) (mt:=(BY {by decide,{(iQ)}}<|BY {by decide,{(D33)}} Bb))) (b:=.all<|FT λϊ ϊ ϊ=>rfl)
def VG:=Ae YY 434 zcp<|Af (AU D51 A8) A7 (b:=.all<|Bz λϊ ϊ=>rfl)
def iJ:=Ae YX 441 zbj<|Af (AU iK<|AU D49<|AU D50<|AU VG A8) A7 (b:=.all<|FR λϊ ϊ ϊ ϊ=>rfl)
def D59:=Ae YW 446 zg2<|Af (AU iJ<|AU VG<|AU D47 A8) A7 (b:=.all<|FR λϊ ϊ ϊ ϊ=>rfl)
def D60:=Ae YV 453 zek<|Af (AU iJ<|AU VG A8) A7 (b:=.all<|FT λϊ ϊ ϊ=>rfl)
def D61:=Ae YU 460 zbg<|Af (AU D59 A8) A7 (b:=.all<|FR λϊ ϊ ϊ ϊ=>rfl)
def D62:=Ae YZ 427 zco<|Af (AU iK<|AU iM<|AU D43 A8) A7 (b:=.all<|FT λϊ ϊ ϊ=>rfl)
def D63:=Ae YB 570 zis<|Af A8 A7 (b:=.all<|Bz λϊ ϊ=>rfl)
def iI:=Ae YH 534 zdq<|Af A8 A7 (b:=.all<|Bz λϊ ϊ=>rfl)
def OH:=Ae YG 541 zit<|Af (AU iI A8) A7 (b:=.all<|Bz λϊ ϊ=>rfl)
def OF:=Ae YI 527 zg9<|Af A8 A7 (b:=.all<|FT λϊ ϊ ϊ=>rfl)
def iH:=Ae YE 551 zg5<|Af (AU OF A8) A7 (b:=.all<|Bt λϊ=>rfl)
def iG:=Ae YF 546 ziq<|Af (AU OH<|AU OF A8) A7 (b:=.all<|FR λϊ ϊ ϊ ϊ=>rfl)
def D69:=Ae YD 558 zbn<|Af A8 A7 (b:=.all<|Bz λϊ ϊ=>rfl)
def D70:=Ae YC 565 zio<|Af (AU iH<|AU D69<|AU iG A8) A7 (b:=.all<|Bz λϊ ϊ=>rfl)
def iF:=Ae YJ 520 zg7<|Af A8 A7 (b:=.all<|Bt λϊ=>rfl)
def D72:=Ae YA 577 ziu<|Af (AU OH A8) A7 (b:=.all<|FR λϊ ϊ ϊ ϊ=>rfl)
def D73:=Ae Xz 582 zg4<|Af (AU iF<|AU LW<|AU D72<|AU OH A8) A7 (b:=.all<|FR λϊ ϊ ϊ ϊ=>rfl)
def D74:=Ae Xy 589 zix<|Af (AU iH<|AU iG<|AU OF A8) A7 (b:=.all<|FR λϊ ϊ ϊ ϊ=>rfl)
def D75:=Ae Xv 610 ziv<|Af (AU LW<|AU iI A8) A7 (b:=.all<|Bt λϊ=>rfl)
def iE:=Ae Xx 596 zmb<|Af (AU OH A8) A7 (b:=.all<|Bt λϊ=>rfl)
def D77:=Ae Xw 603 zes<|Af A8 A7 (b:=.all<|Bz λϊ ϊ=>rfl)
def D78:=Ae Xu 615 zg6<|Af (AU D70<|AU OF<|AU iE A8) A7 (b:=.all<|Vd λϊ ϊ ϊ ϊ ϊ ϊ=>rfl)
def D79:=Ae Xs 622 zqe<|Af (AU D26<|AU D19<|AU D63<|AU iR<|AU LW<|AU D1<|AU iF<|AU D75<|AU D60<|AU D61<|AU D73<|AU D74<|AU D62<|AU D77<|AU iE<|AU D78 A8) A7 (b:=.all<|Bt λϊ=>rfl)
end
def all_mk{w:World}{h:Heap}{mg:Str->Option Value}{b:Addr}(X:(JA w.params).In h)(G:h.Ns mainGlobals mg)(a:mg "law"=↑(.ref b))
  : ∃fd:FuncData,(∀(s:Shared) (v:Value),BindsTo s fd {[v],[]} [("_law_script",v)])/\∀base:Heap,(JA w.params).In base->base.Ns mainGlobals mg->FnOk pw w (JA w.params) mg base LX 11 b fd ["_law_script"] (Lw<|JA w.params):=by
 have e:=a.symm.trans<|mg_of X G<|show nsIn (fr w) mainGlobals "law"=↑(↑(.ref 622)) by ext
 cases e;refine{gF "law" "law" ME .none "law_zonewalk_k54_soonest_ends" 795 621 .none,λs v=>.of_eq rfl,λbase ϊ ϊ=>?_}
 have q:Qx pw w (fr w) mg base ca:={λϊ ϊ e=>mg_of X G e,λϊ e=>mg_none_of X G e}
 exact zpm (D79 (mg:=mg)).ok λns h=>law_true ns h
theorem walk{l:PySem.W.OpenLaw}{q:Program}{loose:kE}{XP:(Str->Option Value)->Heap->Prop}{YP:World->Heap->Prop}{d:DefRec}{K:Params->k6}(j:l.most=↑63)(b:d.params.defaults=[])
  (g:∀(w:World) (h:Heap),YP w h->(K w.params).In h)
  (F : ∀ (w : World) (mg : Str -> Option Value) (fa : Addr) (h : Heap), (K w.params).In h -> h.Ns mainGlobals mg -> mg d.name = ↑(.ref fa) ->
   ∃fd:FuncData,(∀(s:Shared) (u:Value),BindsTo s fd {[u],[]} [("_law_script",u)])/\∀base:Heap,(K w.params).In base->base.Ns mainGlobals mg->FnOk l.prog w (K w.params) mg base LX 11 fa fd ["_law_script"] (Lw<|K w.params)) :
  PySem.W.WalkO q loose XP YP l.row.toRowW d [] (λf vs=>PySem.call f vs):=
 L2.walk_of (n:=63) (k:=11) (x:="_law_script") (CX:=λϊ=>LX) (sp:=λw=>Lw<|K w.params) j (by decide) b {rfl,by decide,by decide} g F (λϊ ϊ a ns i c e=>{a,ns,rfl,G5.of c e,i,λϊ=>rfl}) λϊ ϊ ϊ ϊ ϊ z=>z
end Zl
open PySem PySem.W PyProof.Rows
set_option maxRecDepth 100000 in
set_option maxHeartbeats 0 in
theorem PySem.Challenge.cw_zonewalk_k54_soonest_ends_holds : PySem.Challenge.rw_zonewalk_k54_soonest_ends.Holds := by
 refine holds_law Zl.said λs=>?_
 refine holds_open (q:=Zl.vq) (loose:=Zl.loo) (Xt:=Hd.xt PySem.Challenge.rw_zonewalk_k54_soonest_ends.row.toRowW Zl.vq) (XP:=XL Zl.vq []) (Yf:=Zl.hk.obs) (Ya:=Zl.hk.val) (YP:=Zl.hk.says) Zl.left Zl.hk.of Zl.hk.keeps (λs e=>xl_of s (Bool.and_eq_true_iff.mp e).1) XL.keeps (by rfl) (by rfl) (by rfl) (λs e=>recFacts_of (Bool.and_eq_true_iff.mp e).2) (by rfl) s (by decide +kernel) ⟨rfl,rfl,rfl,rfl,rfl,by decide +kernel⟩ ?hw ?hc
 case hw=>w_witness2
 case hc=>exact Zl.walk (l:=PySem.Challenge.rw_zonewalk_k54_soonest_ends) rfl rfl (λw h Y=>kIn_of Y) λw mg fa h X G e=>Zl.all_mk X G e
end
