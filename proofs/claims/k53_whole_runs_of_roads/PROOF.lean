import PyProof.Rows.All
import Wide.All
import OpenK.AllK
import Wide.FinOn
import Lean
import PyProof.EqAt
import PyProof.EqKinds
import PyProof.TupleCall
import PySem.Challenge.RW_zonewalk_k53_whole_runs_of_roads
set_option compiler.extract_closed false
set_option bootstrap.genMatcherCode false
set_option linter.all false
def Â:=@List.getElem?_eq_getElem
def Á:=@List.length_map
def É:=@List.mem_cons_of_mem
def È:=@Bool.and_eq_true
def Ñ:=@List.getElem?_eq_some_iff
def Í:=@List.mem_cons_self
def Ë:=@List.getElem?_map
def Ð:=@PySem.Heap.get?_push_of_some
def Ä:=@PySem.Heap.lt_size
def Ú:=@List.getD_eq_getElem?_getD
def Ê:=@List.mem_cons
def Ç:=@Nat.le_refl
def Ö:=@Option.map_eq_some_iff
def Ô:=@List.mem_singleton
def Ò:=@List.getElem_mem
def Ï:=@List.map_cons
def Ø:=@List.length_cons
def Û:=@Nat.lt_of_lt_of_le
def ß:=@List.mem_append_right
def Ó:=@List.mem_map
def â:=@PySem.Heap.get?_push_size
def à:=@List.length_append
def Õ:=@Nat.ne_of_lt
def é:=@List.getElem?_set_self
def Ý:=@Option.some.inj
def æ:=@List.getElem?_set_ne
def ç:=@List.mem_of_getElem?
def ã:=@List.all_eq_true
def ä:=@List.mem_append
def á:=@List.mem_range
def Î:=@Ne.symm
def í:=@List.contains_iff_mem
def Ü:=@Nat.le_trans
def å:=@List.lookup_cons
def Þ:=@Nat.lt_irrefl
def ê:=@List.not_mem_nil
def õ:=@PySem.Heap.get?_update_other
def è:=@List.map_append
def î:=@Int.toNat_natCast
def ú:=@List.getElem?_append_left
def ö:=@List.mem_append_left
def û:=@Int.fmod_nonneg_of_pos
def ø:=@List.size_toArray
def Ć:=@List.drop_eq_getElem_cons
def ě:=@List.findIdx?_eq_some_iff_getElem
def ó:=@PySem.W.kia_one
def Ĕ:=@PyProof.Rows.callWith_type1
def ÿ:=@List.getElem?_eq_none
def ü:=@Bool.false_ne_true
def Ā:=@Bool.false_eq_true
def ć:=@PySem.Heap.get?_update_self
def Ĉ:=@Bool.or_eq_false_iff
def Ĝ:=@List.getElem?_append_right
def ā:=@List.append_nil
def ĉ:=@Int.fmod_lt_of_pos
def ô:=@Nat.zero_le
def Ċ:=@List.length_nil
def ċ:=@Option.map_some
def ĕ:=@PySem.mem_of_lookup
def Ĭ:=@Array.getElem?_eq_some_iff
def Č:=@List.length_take
def č:=@Nat.le_add_right
def Ă:=@PySem.Heap.size_push
def ĭ:=@Classical.byContradiction
def Ď:=@Bool.or_eq_true
def ý:=@List.map_map
def ł:=@List.getElem?_cons_succ
def ĝ:=@PySem.W.hideAll_get
def Ė:=@Nat.lt_succ_self
def Į:=@PyProof.Rows.boot_list
def į:=@List.length_singleton
def Ğ:=@Nat.lt_succ_of_lt
def Ń:=@PySem.F.plain_extend_loop
def ń:=@Array.getElem?_eq_getElem
def ă:=@Int.le_refl
def ğ:=@List.getElem_inj
def Ņ:=@Option.isSome_iff_exists
def ď:=@Int.mul_comm
def ņ:=@PySem.F.slot_str_getitem
def İ:=@List.map_congr_left
def Ň:=@Option.bind_eq_some_iff
def ı:=@PySem.W.of_hideAll
def Ĳ:=@List.mem_filterMap
def ĳ:=@List.getElem?_drop
def Ĵ:=@List.zip_cons_cons
def Š:=@Int.mul_le_mul_of_nonneg_right
def Đ:=@Nat.le_succ
def ĵ:=@List.length_range
def Ķ:=@List.append_assoc
def ķ:=@Int.mul_left_comm
def ň:=@List.getElem?_zipWith
def ė:=@Int.ofNat_lt
def ŉ:=@PySem.Around.under_plainId
def ĸ:=@Option.bind_some
def š:=@Int.fdiv_eq_ediv_of_nonneg
def Ġ:=@Int.mul_assoc
def Ŋ:=@Int.toNat_of_nonneg
def ŋ:=@List.mem_map_of_mem
def Ĺ:=@List.mem_filter
def ĺ:=@List.nodup_cons
def Ļ:=@Int.emod_two_eq
def ġ:=@Int.le_trans
def Ģ:=@Nat.ne_of_gt
def Ţ:=@List.getElem?_take_of_lt
def ģ:=@Int.lt_or_le
def Ō:=@PySem.Obj.data_mapFields
def Ĥ:=@PySem.F.called_set
def ţ:=@List.take_append_getElem
def ō:=@Nat.add_sub_cancel
def Ť:=@List.getElem?_replicate
def ť:=@PySem.F.plainAttrs_list
def Ŧ:=@PyProof.Rows.F.plain_set_update_loop
def Ŏ:=@Bool.not_eq_true'
def ŧ:=@Option.some.injEq
def Ũ:=@PyProof.V.reads_dictOf
def ũ:=@PySem.SeqAt.notIn_list_reads
def ĥ:=@Int.mul_pos
def Ū:=@List.cons_append
def ū:=@List.length_replicate
def Ŭ:=@PySem.Obj.isFreed_of_fields
def ļ:=@Nat.lt_trans
def Ľ:=@Int.le_of_lt
def ŭ:=@PySem.W.hideAll_none
def Ů:=@List.length_set
def ů:=@List.nil_append
def ŏ:=@PySem.F.slot_zip_next
def Ű:=@List.mem_iff_getElem
def Ő:=@List.map_nil
def ľ:=@Int.zero_mul
def ű:=@PySem.W.plainGet_of
def Ų:=@PySem.SeqAt.in_list_reads
def ų:=@List.getElem?_range
def Ŵ:=@Bool.false_and
def ő:=@Int.mul_nonneg
def ŵ:=@Int.lt_of_le_of_lt
def Ŷ:=@PySem.Calls.spliced_cons
def ŷ:=@Option.isSome_some
def Ÿ:=@Int.natCast_nonneg
def Ź:=@PySem.W.callWith_K
def ź:=@PySem.F.called_enumerate
def Ż:=@List.findIdx?_cons
def Œ:=@PySem.Paired.length
def ż:=@Bool.or_false
def Ž:=@Bool.and_true
def œ:=@List.sum_cons
def ž:=@PySem.W.kitx_list
def ſ:=@PySem.W.kitx_dict
def Α:=@PySem.Calls.spliced_nil
def Β:=@PySem.PassesOwn.leaving
def Ŕ:=@Nat.le_of_lt
def Δ:=@List.any_eq_true
def ŕ:=@PySem.Txt.slice_le
def Ε:=@List.getElem_map
def Ζ:=@List.take_length
def Ŗ:=@Nat.add_comm
def Η:=@Option.getD_some
def Θ:=@List.mem_flatMap
def Ù:=@decide_eq_false
def ï:=@PySem.wpAny_mono
def Ą:=@PySem.wpAny_truthy_bool
def ŗ:=@PySem.wpAny_execs_nil
def Ι:=@PyProof.Rows.assignInOrder_cons
def À:=@PySem.wpAny_bind
def ð:=@PySem.wpAny_holding
def Ħ:=@PySem.wpAny_standAt
def Å:=@PySem.wpAny_pure
def Κ:=@PySem.wpAny_newObj_type
def Ę:=@PySem.wpAny_passesOwn
def ħ:=@PySem.wpAny_pyIter_list
def đ:=@PySem.sizeLine_eq
def ę:=@PySem.wpAny_Call_Name_kw
def Ĩ:=@PySem.typeIs_str
def Æ:=@if_true
def Ŀ:=@PySem.call_meets
def ą:=@PySem.codeAny_mono
def Ì:=@decide_eq_true
def Ř:=@PySem.wpAny_setField
def ù:=@PySem.wpAny_field
def ĩ:=@PySem.wpAny_call
def Ē:=@beq_iff_eq
def ë:=@decide_eq_true_eq
def Λ:=@PySem.wpAny_nextOf_list_end
def Μ:=@PySem.wpAny_pyIter_enum
def ñ:=@or_false
def Ν:=@PySem.wpAny_pyIter_zip
def ì:=@beq_self_eq_true
def ř:=@PySem.pushCells_keeps
def ò:=@of_decide_eq_true
def Ã:=@if_false
def Ś:=@PySem.wpAny_loadPart'
def Ī:=@PySem.codeAny_builtin
def Ξ:=@PySem.codeAny_call_builtin
def Ě:=@PySem.wpAny_of_eq
def Ο:=@PySem.wpAny_nextOf_list_item
def ś:=@PySem.wpAny_isInstance
def Ŝ:=@PySem.wpAny_updateSeq
def ŝ:=@PySem.wpAny_specialOf
def þ:=@PySem.wpAny_ite_false
def Ş:=@PySem.wpAny_getItem_str_slice
def ş:=@PySem.post_val_or_str
def ī:=@beq_eq_false_iff_ne
def ē:=@eq_false
def ŀ:=@decide_true
def Ł:=@decide_false
noncomputable section
abbrev k7:=List<|PySem.Str×List Int
abbrev k8:=List<|Nat×Nat
abbrev k9:=List PySem.Value
abbrev kA:=Option Int
abbrev kC:=List PySem.Expr
abbrev kD:=List PySem.Stmt
abbrev kE:=List PySem.Str
abbrev kF:=List Int
abbrev kG:=List Nat
local macro_rules|`(tactic|ext)=>`(tactic|kernel_rfl)
local macro_rules|`(tactic|change $e = $x)=>`(tactic|generalize $e = $(⟨x.raw⟩):ident at *)
set_option hygiene false
local macro_rules|`(tactic|symm)=>`(tactic|exact q.elim)
set_option hygiene true
def rcp:Nat->Lean.Syntax->Lean.MacroM (Lean.TSyntax `rcasesPat)
 |n+1,t=>do if t.getKind==`Lean.Parser.Term.tuple then let l<-((t[1][0]::t[1][2].getSepArgs.toList).toArray.mapM (rcp n));`(rcasesPat|⟨$l,*⟩) else if t.isIdent then `(rcasesPat|$(⟨t⟩):ident) else `(rcasesPat|_)
 |_,_=>Lean.Macro.throwUnsupported
theorem hld{g:Prop}(h:∀G:Prop,(g->G)->G):g:=h g id
local macro_rules
  |`(tactic|let $p:term $[:$t]? := $e)=>do
    if p.raw.getKind != `Lean.Parser.Term.tuple then Lean.Macro.throwUnsupported
    let q<-rcp 20 p.raw
    if p.raw[1][2].getSepArgs.size>1 then `(tactic|(refine hld fun G k=>?_;obtain $q:rcasesPat $[:$t]? := $e;refine k ?_;try clear k G)) else `(tactic|obtain $q:rcasesPat $[:$t]? := $e)
local macro_rules(kind:=Lean.Parser.Command.declaration)|s=>do
  let d:=s[1];let k:=d.getKind;let m:=s[0];let t:=s.setArg 1 (d.setArg 0 (.atom .none d[0].getAtomVal))
  if m[4].getNumArgs != 0||(d[0].getHeadInfo matches .none) then Lean.Macro.throwUnsupported
  if k==`Lean.Parser.Command.definition&&(d[3][1].getKind==`Lean.Parser.Term.byTactic||[`«term_=_»,`«term_∧_»,`«term_∨_»,`«term∃_,_»,`«term_≤_»,`«term_<_»,`«term_<->_»,`«term_↔_»,`«term_≠_»,`«term_∈_»,`Lean.Parser.Term.forall].contains d[2][1][0][1].getKind) then return s.setArg 1 (.node .none `Lean.Parser.Command.theorem #[.atom .none "theorem",d[1],.node .none `Lean.Parser.Command.declSig #[d[2][0],d[2][1][0]],d[3]])
  else if k==`Lean.Parser.Command.definition||k==`Lean.Parser.Command.abbrev then return t.setArg 0 (m.setArg 4 (Lean.mkNullNode #[.node .none `Lean.Parser.Command.noncomputable #[.atom .none "noncomputable"]]))
  else if k==`Lean.Parser.Command.theorem then return t else Lean.Macro.throwUnsupported
local macro_rules|`({$x:term,*})=>`(⟨$x,*⟩)
local macro_rules|`(↑$x:term)=>`(some $x)
local macro_rules|`(tactic|erw [$rs,*] $[$l:location]?)=>do let ts:=rs.getElems.map fun r=>(⟨r.raw[1]⟩:Lean.TSyntax `term);`(tactic|simp only [$[$ts:term],*] $[$l]?)
abbrev k6:=PySem.W.Frag
set_option Elab.async false
set_option linter.all false
set_option maxRecDepth 100000
set_option genSizeOf false
set_option genInjectivity false
local macro_rules
  |`(tactic| lia)=>`(tactic| first
    |assumption
    |exact Ü (by assumption) (by decide +kernel)
    |exact Û (by assumption) (by decide +kernel)
    |exact Nat.lt_of_le_of_lt (by assumption) (by decide +kernel)
    |exact Nat.succ_pos _
    |exact Û (by assumption) (Nat.succ_le_succ (Ü (by assumption) (by decide +kernel)))
    |exact Nat.succ_le_succ (Ü (by assumption) (by decide +kernel))
    |exact ļ (by assumption) (by assumption)
    |exact Û (by assumption) (by assumption)
    |exact Int.lt_trans (b:=0) (by decide +kernel) (by assumption)
    |exact Int.lt_of_lt_of_le (b:=0) (by decide +kernel) (by assumption)
    |exact ŵ (by assumption) (by decide +kernel)
    |exact ġ (by assumption) (by decide +kernel)
    |exact Ľ (by assumption)
    |exact Int.ne_of_gt (by assumption)
    |lia +clean
    |fail)
def Zl.said:PySem.Challenge.rw_zonewalk_k53_whole_runs_of_roads.wellSaid=true:=(congrFun PySem.W.Fast.te9446332074065402090 _).trans<|by ext
namespace L2
open PySem PySem.Spec PyProof.Rows
abbrev Key:=Sum Int Str
def Gu:Key->Value->Bool
 |.inl k,v=>Value.isInt k v|.inr x,v=>Value.isStrOf x v
def keyH(w:World):Key->Int
 |.inl k=>hashInt k|.inr x=>hashStr w x
def F7:∀{k} {v},Gu k v=true->(∃i t,k=Sum.inl i/\v=Value.int i t)\/(∃x t,k=Sum.inr x/\v=Value.str x t)
 |.inl i,v,h=>by
  let(t,e):=Value.isInt_shape h
  grind
 |.inr x,v,h=>by
  let(t,e):=Value.isStrOf_shape h
  grind
def Ρ(i)(t):Gu (.inl i) (.int i t)=true:=by simp[Gu,Value.isInt]
def Τ(x)(t):Gu (.inr x) (.str x t)=true:=by simp[Gu,Value.isStrOf]
def Υ(a b:Int):decide ((Sum.inl a:Key)=Sum.inl b)=(a == b):=by
 grind
def Φ(a b:Str):decide ((Sum.inr a:Key)=Sum.inr b)=decide (a=b):=by
 simp
def Χ(a:Int)(b:Str):decide (Sum.inl a=Sum.inr b)=false:=Ù<|λq=>nomatch q
def Ψ(a:Str)(b:Int):decide (Sum.inr a=Sum.inl b)=false:=Ù<|λq=>nomatch q
def DY(prog:Program)(w:World):PySem.KeyKind prog w Key where
 is:=Gu
 hash:=keyH w
 inj:=λv a b ha hb=>by
  rcases F7 ha with ⟨i,t,rfl,rfl⟩|⟨x,t,rfl,rfl⟩
  .rcases F7 hb with ⟨j,u,rfl,e⟩|⟨y,u,rfl,e⟩
   .injection e with e1 _;rw[e1]
   .exact nomatch e
  .rcases F7 hb with ⟨j,u,rfl,e⟩|⟨y,u,rfl,e⟩
   .exact nomatch e
   .injection e with e1 _;rw[e1]
 byValue:=λk v h=>by
  rcases F7 h with ⟨i,t,rfl,rfl⟩|⟨x,t,rfl,rfl⟩<;>rfl
 pyHash:=λhv h=>by
  rcases F7 hv with ⟨i,t,rfl,rfl⟩|⟨x,t,rfl,rfl⟩
  .exact wpAny_pyHash_int h
  .exact wpAny_pyHash_str h
 eqBool:=λhu hv h=>by
  rcases F7 hu with ⟨i,t,rfl,rfl⟩|⟨x,t,rfl,rfl⟩
  .rcases F7 hv with ⟨j,u,rfl,rfl⟩|⟨y,u,rfl,rfl⟩
   .rw[Υ]at h;exact wpAny_eqBool_int h
   .rw[Χ]at h;exact SeqAt.EqAt.int_str i t y u _ _ _ _ h
  .rcases F7 hv with ⟨j,u,rfl,rfl⟩|⟨y,u,rfl,rfl⟩
   .rw[Ψ]at h;exact SeqAt.EqAt.str_int x t j u _ _ _ _ h
   .rw[Φ]at h;exact wpAny_eqBool_str h
 «strs»:=λk x t v h=>by
  rcases F7 h with ⟨i,u,rfl,e⟩|⟨y,u,rfl,e⟩
  .exact nomatch e
  .injection e with e1 _
   subst e1;cases v<;>rfl
def Ω(prog)(w)(i)(t):(DY prog w).is (.inl i) (.int i t)=true:=Ρ i t
def zd2(prog)(w)(x)(t):(DY prog w).is (.inr x) (.str x t)=true:=Τ x t
set_option genInjectivity true in
inductive V where
 |non|bl (b:Bool)|int (i:Int)|str (x:Str)|byt (b:Array UInt8)|flt (b:UInt64)|ref (a:Addr)|ty (n:String)
 deriving DecidableEq
abbrev kK:=List V
def A7:V->Value->Prop
 |.non,u=>u=Value.none|.bl b,u=>u=Value.bool b|.int i,u=>∃t,u=Value.int i t|.str x,u=>∃t,u=Value.str x t|.byt b,u=>∃t,u=Value.bytes b t|.flt b,u=>∃t,u=Value.float b t|.ref a,u=>u=Value.ref a|.ty n,u=>u=Value.type n
abbrev Ac:kK->k9->Prop:=Paired A7
def Ac.length(r:Ac xs us):xs.length=us.length:=Œ r
def Ac.get:∀{xs} {us} {i:Nat} {x},Ac xs us->xs[i]?=↑x->∃u,us[i]?=↑u/\A7 x u
 |_,_,_,_,.nil,e=>by simp at e|_,_,0,_,.cons r _,e=>by grind|_,_,i+1,x,.cons _ t,e=>by
  let(u,h1,h2):=Ac.get t<|by simpa using e
  grind
def Ac.set(r:A7 x u):∀{xs} {us} (i),Ac xs us->Ac (xs.set i x) (us.set i u)
 |_,_,_,.nil=>.nil|_,_,0,.cons _ t=>.cons r t|_,_,i+1,.cons q t=>.cons q<|Ac.set r i t
def Ac.append:∀{xs ys} {us ws},Ac xs us->Ac ys ws->Ac (xs++ys) (us++ws)
 |_,_,_,_,.nil,s=>s|_,_,_,_,.cons r t,s=>.cons r<|Ac.append t s
def Ac.take:∀{xs} {us} (n),Ac xs us->Ac (xs.take n) (us.take n)
 |_,_,0,_=>.nil|_,_,_+1,.nil=>.nil|_,_,n+1,.cons r t=>.cons r<|Ac.take n t
def Ac.drop:∀{xs} {us} (n),Ac xs us->Ac (xs.drop n) (us.drop n)
 |_,_,0,r=>r|_,_,_+1,.nil=>.nil|_,_,n+1,.cons _ t=>Ac.drop n t
def Ac.none_of:∀{i:Nat},Ac xs us->xs[i]?=none->us[i]?=none:=λr e=>by
 have h1:=r.length
 grind
def EK:Option V->Option Value->Prop
 |some v,↑u=>A7 v u|none,none=>True|_,_=>False
def KV{κ:Type}:List (κ×V)->List (κ×Value)->Prop:=Paired λ(p:κ×V) (q:κ×Value)=>p.1=q.1/\A7 p.2 q.2
def kV:Key->V
 |.inl i=>.int i|.inr x=>.str x
set_option genInjectivity true in
inductive HO where
 |lst (xs:List V)
 |tup (xs:List V)
 |dK (kvs:List<|Key×V)|dT (kvs:List<|List Key×V)
 |set (S:Int->Bool) (n:Nat)
 |ins (C dx:Addr) (fs:List<|Str×V)
 |own (x:Addr)
 |xd (fs:List<|Str×V)
 |met (f x:Addr)
 |rng (lo hi:Int)
 |frz (o:Obj) (u:HO)
 |tbl (ps:Array Value)
 |ext (φ:Heap->Prop)
abbrev Hp:=Addr->Option HO
def upd(H:Hp)(a:Addr)(o:HO):Hp:=λb=>if b=a then ↑o else H b
def CJ{H:Hp}{a:Addr}{o:HO}:upd H a o a=↑o:=by unfold upd;simp
def An(h:b≠a):upd H a o b=H b:=by unfold upd;rw[if_neg h]
def ne_of{H:Hp}   (h:H a=↑o)(h':H b=↑u)(d:o≠u):a≠b:=by
 grind
def Cr{H:Hp}(h:H a=↑o)(h':H b=none):a≠b:=by
 grind
section
variable (P:Program)(w:World)
def Cz(H:Hp)(h:Heap)(a:Addr):HO->Prop
 |.lst xs=>xs.length<=sizeLine/\∃(its:k9) (n:Nat),Ac xs its/\h.get? a=↑{ cls:=.type "list",data:=.seq its.toArray n }|.tup xs=>xs.length<=sizeLine/\∃its:k9,Ac xs its/\IsTup h a its.toArray|.dK kvs=>kvs.length<=sizeLine/\(a == sysModules)=false/\∃vs,KV kvs vs/\h.DictOf (DY P w) a vs|.dT kvs=>kvs.length<=sizeLine/\(a == sysModules)=false/\∃xs:List (List Key×Addr×Value),
   Paired (λ(p:List Key×V) (q:List Key×Addr×Value)=>p.1=q.1/\H q.2.1=↑(.tup<|p.1.map kV)/\A7 p.2 q.2.2) kvs xs /\
   ∃o es ep,h.get? a=↑o/\o.ExactDict/\o.data=.dict es ep/\es.toList=xs.map (entryOfKey<|tupleKind<|DY P w)/\(xs.map (·.1)).Nodup
 |.set S n=>h.SetOf (intKind P w) a S n|.ins C dx fs=>H dx=↑(.own a)/\fs.length<=1000/\dx≠a/\h.get? a=↑(W.instObj C dx) /\
   ∃mA,h.Ns1 dx mA/\(∀f,EK (fs.lookup f)<|mA f)/\PySem.Within mA (fs.map (·.1))
 |.own _=>∃o,h.get? a=↑o|.xd fs=>∃mA,h.Ns1 a mA/\∀f,EK (fs.lookup f) (mA f)|.rng lo hi=>∃t u v,h.get? a=↑{ cls:=.type "range",data:=.fields #[.int lo t,.int hi u,.int 1 v] }|.frz o u=>h.get? a=↑o/\Cz H h a u|.tbl ps=>h.get? a=↑{ cls:=.none,data:=.fields ps }|.met f x=>h.get? a=↑(W.methodObj (.ref f)<|.ref x)|.ext φ=>φ h/\(∃o,h.get? a=↑o)/\∀h1 h2:Heap,φ h1->(∀o,h1.get? a=↑o->h2.get? a=↑o)->φ h2
def HOk(H:Hp)(h:Heap):Prop:=∀a o,H a=↑o->Cz P w H h a o
end
section
variable {P:Program}{w:World}{H H':Hp}{h h':Heap}{a:Addr}{o:HO}
def Cz.lt(x:Cz P w H h a o):a<h.objs.size:=by
 cases o with
 |lst xs=>let(_,_,_,_,e):=x;exact Ä e
 |tup xs=>let(_,_,_,p):=x;exact p.lt
 |dK kvs=>let(_,_,_,_,o,_,_,e,_):=x;exact Ä e
 |dT kvs=>let(_,_,_,_,o,_,_,e,_):=x;exact Ä e
 |set S n=>let(o,_,_,_,e,_):=x;exact Ä e
 |ins C dx fs=>let(_,_,_,e,_):=x;exact Ä e
 |own y=>let(_,e):=x;exact Ä e
 |xd fs=>let(_,(_,_,_,e,_),_):=x;exact Ä e
 |rng lo hi=>let(_,_,_,e):=x;exact Ä e
 |frz ob u=>let(e,_):=x;exact Ä e
 |tbl ps=>exact Ä (x)|met f y=>exact Ä (x)|ext φ=>let(_,(_,e),_):=x;exact Ä e
def Paired.mapP:∀{l₁:List α} {l₂:List β},Paired F l₁ l₂->(∀a b,F a b->G a b)->Paired G l₁ l₂
 |_,_,.nil,_=>.nil|_,_,.cons r t,f=>.cons (f _ _ r)<|Paired.mapP t f
def Cz.stay(x:Cz P w H h a o)(k:∀b u,(b=a\/H b=↑(.own a))->h.get? b=↑u->h'.get? b=↑u)
  (ho:∀b,H b=↑(.own a)->H' b=↑(.own a)) (ht:∀b xs,H b=↑(.tup xs)->H' b=↑(.tup xs)):Cz P w H' h' a o:=by
 induction o with
 |lst xs=>let(z,its,n,r,e):=x;exact{z,its,n,r,k _ _ (.inl rfl) e}
 |tup xs=>let(z,its,r,ob,e,c):=x;exact{z,its,r,ob,k _ _ (.inl rfl) e,c}
 |dK kvs=>let(z,y,vs,r,ob,es,ep,e,c):=x;exact{z,y,vs,r,ob,es,ep,k _ _ (.inl rfl) e,c}
 |dT kvs=>let(z,y,xs,r,ob,es,ep,e,c):=x;exact{z,y,xs,Paired.mapP r λp q z=>{z.1,ht _ _ z.2.1,z.2.2},ob,es,ep,k _ _ (.inl rfl) e,c}
 |set S n=>let(ob,es,ep,t,e,c):=x;exact{ob,es,ep,t,k _ _ (.inl rfl) e,c}
 |ins C dx fs=>let(d,z,ne,e,mA,(od,es,ep,e2,c),r):=x;exact{ho _ d,z,ne,k _ _ (.inl rfl) e,mA,{od,es,ep,k _ _ (.inr d) e2,c},r}
 |own y=>let(ob,e):=x;exact{ob,k _ _ (.inl rfl) e}
 |xd fs=>let(mA,(od,es,ep,e,c),r):=x;exact{mA,{od,es,ep,k _ _ (.inl rfl) e,c},r}
 |rng lo hi=>let(t,u,v,e):=x;exact{t,u,v,k _ _ (.inl rfl) e}
 |frz ob u ih=>let(e,q):=x;exact{k _ _ (.inl rfl) e,ih q}
 |tbl ps=>have e :=x;exact k a _ (.inl rfl) e|met f y=>have e :=x;exact k a _ (.inl rfl) e|ext φ=>let(p,(o,e),st):=x;exact{st _ _ p λo q=>k _ _ (.inl rfl) q,{o,k _ _ (.inl rfl) e},st}
def HOk.lt(x:HOk P w H h)(e:H a=↑o):a<h.objs.size:=(x a o e).lt
def HOk.fresh(x:HOk P w H h)(e:h.objs.size<=a):H a=none:=by
 cases q:H a with
 |none=>rfl|some u=>exact absurd (Û (x.lt q) e)<|Þ _
theorem HOk.kept(x:HOk P w H h)(k:∀b u,h.get? b=↑u->h'.get? b=↑u):HOk P w H h':=λa o e=>
 (x a o e).stay (λb u _ q=>k b u q) (λ_ q=>q) λ_ _ q=>q
theorem HOk.laid(x:HOk P w H h)(k:∀b u,h.get? b=↑u->h'.get? b=↑u)(hp:h.objs.size<=a)(new:Cz P w (upd H a o) h' a o):HOk P w (upd H a o) h':=λb u e=>by
 have hn:=x.fresh hp
 by_cases hb:b=a
 .subst hb;rw[CJ]at e;grind
 .rw[An hb]at e;exact(x b u e).stay (λc v _ q=>k c v q) (λc q=>by rw[An<|Cr q hn];exact q) λc xs q=>by rw[An<|Cr q hn];exact q
end
def Rd(H:Hp)(a:Addr)(u:HO):Prop:=H a=↑u\/∃o,H a=↑(.frz o u)
def Rd.ok(r:Rd H a u)(x:HOk P w H h):Cz P w H h a u:=by
 rcases r with r|⟨o,r⟩
 .exact x a u r
 .let(_,q):=x a _ r;exact q
def Kz:Option HO->Prop
 |some (.lst _)=>True|some (.dK _)=>True|some (.dT _)=>True|some (.set _ _)=>True|some (.ins _ _ _)=>True|some (.ext _)=>True|_=>False
section
variable {P:Program}{w:World}{H:Hp}{h h':Heap}{x e:Addr}{o':HO}
theorem HOk.write(ok:HOk P w H h)(mu:Kz<|H x)(he:e=x\/H e=↑(.own x))(k:∀b u,b≠e->h.get? b=↑u->h'.get? b=↑u)(heo:∃u,h'.get? e=↑u)
  (new:Cz P w (upd H x o') h' x o'):HOk P w (upd H x o') h':=λb u q=>by
 have nown:∀c y,H c=↑(.own y)->c≠x:=λc y r z=>by subst z;rw[r]at mu;exact mu
 have ntup:∀c xs,H c=↑(.tup xs)->c≠x:=λc xs r z=>by subst z;rw[r]at mu;exact mu
 by_cases hb:b=x
 .subst hb;rw[CJ]at q;cases q;exact new
 .rw[An hb]at q
  by_cases hbe:b=e
  .have q':H b=↑(.own x):=by
    grind
   rw[q]at q';cases q';let(v,hv):=heo;exact{v,by rw[hbe];exact hv}
  .refine(ok b u q).stay (λc v hc r=>k c v ?_ r) (λc r=>by rw[An<|nown c b r];exact r) λc xs r=>by rw[An<|ntup c xs r];exact r
   grind
end
structure Un(fs ex:List Addr)(H H':Hp)(h h':Heap):Prop where
 keep:∀b o,h.get? b=↑o->H b=none->b∉fs->b∉ex->h'.get? b=↑o
 slot:∀b o,h.get? b=↑o->H b=none->b∈fs->b∉ex->∃sl,h'.get? b=↑{ o with slots:=sl }
 free:∀b o,h.get? b=↑o->H b=none->b∉ex->H' b=none
 there:∀b o,h.get? b=↑o->b∉ex->∃o',h'.get? b=↑o'
 tups:∀b xs,H b=↑(.tup xs)->H' b=↑(.tup xs)
 frzs:∀b o u,H b=↑(.frz o u)->H' b=↑(.frz o u)
 tbls:∀b ps,H b=↑(.tbl ps)->∃more,H' b=↑(.tbl<|ps++more)
section
variable {fs fs' ex ex':List Addr}{H H1 H2:Hp}{h h1 h2 h':Heap}{a x e:Addr}{o:HO}
def Un.any(u:Un fs ex H H1 h h1)(q:h.get? b=↑ob)(n:H b=none)(hx:b∉ex):∃sl,h1.get? b=↑{ ob with slots:=sl}:=by
 by_cases hb:b∈fs
 .exact u.slot b ob q n hb hx
 .exact{ob.slots,u.keep b ob q n hb hx}
theorem Un.kept(k:∀b u,h.get? b=↑u->h'.get? b=↑u):Un fs ex H H h h':=
 {λb ob q _ _ _=>k b ob q,λb ob q _ _ _=>{ob.slots,k b ob q},λ_ _ _ n _=>n,λb ob q _=>{ob,k b ob q},λ_ _ q=>q,λ_ _ _ q=>q,λ_ ps q=>{#[],by rw[q];simp}}
theorem Un.refl:Un fs ex H H h h:=Un.kept λ_ _ q=>q
theorem Un.laid(k:∀b u,h.get? b=↑u->h'.get? b=↑u)(hp:h.objs.size<=a)(hn:H a=none):Un fs ex H (upd H a o) h h' where
 keep:=λb u q _ _ _=>k b u q
 slot:=λb u q _ _ _=>{u.slots,k b u q}
 free:=λb u q n _=>by rw[An<|Õ<|Û (Ä q) hp];exact n
 there:=λb u q _=>{u,k b u q}
 tups:=λb xs q=>by rw[An<|Cr q hn];exact q
 frzs:=λb u xs q=>by rw[An<|Cr q hn];exact q
 tbls:=λb ps q=>{#[],by rw[An<|Cr q hn,q];simp}
def Un.write(mu:Kz<|H x)(he:e=x\/H e=↑(.own x))(k:∀b u,b≠e->h.get? b=↑u->h'.get? b=↑u)(heo:∃u,h'.get? e=↑u):Un fs ex H (upd H x o) h h':=by
 have hx:∀b,H b=none->b≠x:=λb n z=>by subst z;rw[n]at mu;exact mu
 have hb:∀b,H b=none->b≠e:=λb n z=>by
  grind
 have hm:∀b u,H b=↑u->¬ Kz ↑u->b≠x:=λb u q nm z=>by grind
 refine{λb u q n _ _=>k b u (hb b n) q,λb u q n _ _=>{u.slots,k b u (hb b n) q},λb u q n _=>by rw[An<|hx b n];exact n,λb u q _=>?_,
  λb xs q=>by rw[An<|hm b _ q λz=>z];exact q,λb u xs q=>by rw[An<|hm b _ q λz=>z];exact q,λb ps q=>{#[],by rw[An<|hm b _ q λz=>z,q];simp}}
 grind
end
def LY(h:Heap)(H:Hp):List Addr:=(List.range h.objs.size).filter λa=>(H a).isSome
def HA(h:Heap)(H:Hp):Heap:=W.hideAll h<|LY h H
def zff(h)(H):(HA h H).objs.size=h.objs.size:=W.hideAll_size _ _
def zhx(e:h.get? b=↑o)(n:H b=none):(HA h H).get? b=↑o:=
 ĝ _ e λhm=>by
  have q :=(Ĺ.mp hm).2
  grind
def zkv(e:(HA h H).get? b=↑o):h.get? b=↑o/\H b=none:=by
 have e' :=ı (LY h H) e;refine{e',?_};cases q:H b with
 |none=>rfl|some x=>
  have hm:b∈LY h H:=Ĺ.mpr {á.mpr<|Ä e',by simp[q]}
  have z:(HA h H).get? b=none:=ŭ (LY h H) hm
  grind
structure Mod(K:k6)(mg:Str->Option Value)(base:Heap):Prop where
 kin:K.In base
 glob:base.Ns mainGlobals mg
 blt:∃mb,base.Ns builtinsNs mb/\∀x:Str,x≠"__name__"->mb x=bootBuiltins x
 nolimit:base.NoLimit
structure Cx where
 prog:Program
 w:World
 K:k6
 mg:Str->Option Value
 base:Heap
 A:Around
 N:kE
 s₀:Shared
 H₀:Hp
 env:Env
 outer:List Env
 stack:List Env
 ex:List Addr
 fn:Str->Bool
 calm:Bool
 pn:List (Addr×Obj)
 xe:Value->Shared->Prop
def B9(l:List Env):List Addr:=l.filterMap (·.frame)
abbrev Cx.fs(X:Cx):List Addr:=B9 X.outer
def Ef(sc:Scope)(x:Str):Prop:=sc.names.lookup x=↑.local\/sc.names.lookup x=↑.cell\/sc.names.lookup x=↑.free
def HJ(sc:Scope)(x:Str):Prop:=sc.names.lookup x=↑.local\/sc.names.lookup x=↑.cell
def Look(env:Env)(h:Heap)(m:Str->Option Value)(x:Str)(u:Value):Prop:=
 (env.kindOf x=↑.local/\m x=↑u)\/((env.kindOf x=↑.cell\/env.kindOf x=↑.free)/\∃c,env.cells.lookup x=↑c/\h.IsCell c ↑u)
structure Cx.Ok(X:Cx):Prop where
 mod:Mod X.K X.mg X.base
 kind:X.env.scope.kind=.function
 glob:X.env.globals=mainGlobals
 blt:X.env.builtins=builtinsNs
 above:X.s₀.heap.objs.size<=X.env.locals
 inj:∀x y c,X.env.cells.lookup x=↑c->X.env.cells.lookup y=↑c->x=y
 has:∀x,(X.env.kindOf x=↑.cell\/X.env.kindOf x=↑.free)->∃c,X.env.cells.lookup x=↑c
 cab:∀x c,X.fn x=true->X.env.cells.lookup x=↑c->X.s₀.heap.objs.size<=c
 hd:X.calm=true->X.A.handled=none
 frames:X.A.frames=↑X.stack
 stk:X.stack=X.outer\/(X.stack=X.env::X.outer/\X.env.frame=↑X.env.locals)
 exf:∀b∈X.ex,b≠X.env.locals/\∀x c,X.env.cells.lookup x=↑c->c≠b
 bs:∀b o,X.base.get? b=↑o->X.s₀.heap.get? b=↑o/\X.H₀ b=none
 bsz:X.base.objs.size<=X.s₀.heap.objs.size
 noex:∀b o,X.base.get? b=↑o->b∉X.ex
 exfs:∀b∈X.ex,b∉X.fs
 funs:X.s₀.heap.FunFrames X.base X.outer
 frf:∀b∈X.fs,X.H₀ b=none
structure Inv(X:Cx)(pq:List<|Addr×Obj)(O:List<|Option V)(H:Hp)(s:Shared):Prop where
 ok:X.Ok
 os:s.os=X.s₀.os
 bare:AllBare s.gens
 base:Un X.fs X.ex X.H₀ H X.s₀.heap s.heap
 loc:∃m,s.heap.Ns X.env.locals m/\∀(i:Nat) (x:Str) (v:V),X.N[i]?=↑x->O[i]?=↑↑v->Ef X.env.scope x->∃u,A7 v u/\Look X.env s.heap m x u
 cell:∀x c,X.env.cells.lookup x=↑c->∃v,s.heap.IsCell c v
 free:H X.env.locals=none
 freeC:∀x c,X.env.cells.lookup x=↑c->H c=none
 pin:∀p∈X.pn++pq,s.heap.get? p.1=↑p.2/\H p.1=none/\p.1≠X.env.locals/\p.1∉X.fs/\∀v,p.2.data≠.cell v
 hok:HOk X.prog X.w H s.heap
 len:O.length=X.N.length
section
variable {X:Cx}{pq:List<|Addr×Obj}{O:List<|Option V}{H H':Hp}{s:Shared}{h':Heap}
theorem Cx.Ok.nofr(ok:X.Ok)(e:X.base.get? b=↑o):b∉X.fs:=λhb=>by
 have:=(ok.funs.mem hb).1
 grind
def Inv.bs(I:Inv X pq O H s):∀b o,X.base.get? b=↑o->s.heap.get? b=↑o/\H b=none:=λb o e=>
 {I.base.keep b o (I.ok.bs b o e).1 (I.ok.bs b o e).2 (I.ok.nofr e) (I.ok.noex b o e),I.base.free b o (I.ok.bs b o e).1 (I.ok.bs b o e).2 (I.ok.noex b o e)}
def Inv.bk(I:Inv X pq O H s):∀b o,X.base.get? b=↑o->s.heap.get? b=↑o:=λb o e=>(I.bs b o e).1
theorem Inv.mod(I:Inv X pq O H s):Mod X.K X.mg X.base:=I.ok.mod
theorem Inv.kIn(I:Inv X pq O H s):X.K.In s.heap:=I.ok.mod.kin.keeps I.bk
def Inv.lt(I:Inv X pq O H s):X.env.locals<s.heap.objs.size:=let ⟨_,hn,_⟩:=I.loc;hn.lt
def Inv.sz(I:Inv X pq O H s):X.s₀.heap.objs.size<=s.heap.objs.size:=Ü I.ok.above<|Ŕ I.lt
theorem Inv.nofs(I:Inv X pq O H s){a:Addr}(h:s.heap.objs.size<=a):a∉X.fs:=λhb=>by
 let(_,o,ho,_):=I.ok.funs.mem hb;exact absurd (Û (Ä ho)<|Ü I.sz h)<|Þ _
def Inv.cne(I:Inv X pq O H s):∀x c,X.env.cells.lookup x=↑c->c≠X.env.locals:=λx c e z=>by
 let(v,o,ho,hd):=I.cell x c e;let(m,(o',es,ep,ho',hd',_),_):=I.loc
 grind
def Inv.funs(I:Inv X pq O H s):s.heap.FunFrames X.base X.outer:=by
 have all:∀(l ),(∀b∈B9 l,b∈X.fs)->X.s₀.heap.FunFrames X.base l->s.heap.FunFrames X.base l:=by
  intro l
  induction l with
  |nil=>intro _ _;trivial|cons env r ih=>
   intro hs hl;let(hk,(L,o,hf,hn,ho,hd),hr):=hl;have hL :=hs L (by unfold B9;grind)
   let(sl,e):=I.base.slot L o ho (I.ok.frf L hL) hL λz=>I.ok.exfs L z hL
   exact{hk,{L,_,hf,hn,e,hd},ih (λb hb=>hs b (by unfold B9;rw[List.filterMap_cons,hf];exact É _ hb)) hr}
 exact all X.outer (λ_ hb=>hb) I.ok.funs
def Inv.stack(I:Inv X pq O H s):s.heap.FunFrames X.base X.stack:=by
 rcases I.ok.stk with e|⟨e,hf⟩
 .rw[e];exact I.funs
 .rw[e];let(m,hn,_):=I.loc;refine .cons (by rw[I.ok.kind];decide) hf hn ?_ I.funs
  exact Heap.get?_none_of_le<|Ü I.ok.bsz I.ok.above
def Inv.stkSub(I:Inv X pq O H s):∀b∈B9 X.stack,b∈X.env.locals::X.fs:=λb hb=>by
 rcases I.ok.stk with e|⟨e,hf⟩
 .grind
 .rw[e]at hb;unfold B9 at hb;rw[List.filterMap_cons,hf]at hb;exact hb
def Inv.stkFree(I:Inv X pq O H s):∀b∈B9 X.stack,H b=none:=λb hb=>by
 rcases Ê.mp (I.stkSub b hb) with e|hb
 .rw[e];exact I.free
 .let(_,o,ho,_):=I.ok.funs.mem hb;exact I.base.free b o ho (I.ok.frf b hb) λz=>I.ok.exfs b z hb
def Inv.step{t':Nat}{d':Drawn}{ch:List Addr}(I:Inv X pq O H s)
  (hch:∀b∈ch,(b∈X.ex\/X.s₀.heap.objs.size<=b)/\b≠X.env.locals/\(∀x c,X.env.cells.lookup x=↑c->c≠b)/\∀p∈X.pn++pq,p.1≠b)
  (keep:∀b o,b≠X.env.locals->b∉X.fs->b∉ch->s.heap.get? b=↑o->H b=none->h'.get? b=↑o)
  (slot:∀b o,b≠X.env.locals->b∈X.fs->b∉ch->s.heap.get? b=↑o->H b=none->∃sl,h'.get? b=↑{ o with slots:=sl }) (free:∀b o,b∉ch->s.heap.get? b=↑o->H b=none->H' b=none)
  (there:∀b o,b∉ch->s.heap.get? b=↑o->∃o',h'.get? b=↑o')
  (tups:∀b xs,H b=↑(.tup xs)->H' b=↑(.tup xs)) (frzs:∀b o u,H b=↑(.frz o u)->H' b=↑(.frz o u)) (tbls:∀b ps,H b=↑(.tbl ps)->∃more,H' b=↑(.tbl<|ps++more))
  (ns:∀m,s.heap.Ns X.env.locals m->h'.Ns X.env.locals m) (hok:HOk X.prog X.w H' h') (hg:AllBare g') :
  Inv X pq O H' { s with heap:=h',gens:=g',drawn:=d',toks:=t' }:=by
 have neL:∀b o,X.s₀.heap.get? b=↑o->b≠X.env.locals:=λb o e=>Õ<|Û (Ä e) I.ok.above
 have neC:∀b o,X.s₀.heap.get? b=↑o->b∉X.ex->b∉ch:=λb o e hx hb=>by
  rcases(hch b hb).1 with z|z
  .exact hx z
  .exact absurd (Û (Ä e) z)<|Þ _
 have cellK:∀x c,X.env.cells.lookup x=↑c->∀v,s.heap.IsCell c v->h'.IsCell c v:=λx c e v ⟨o,ho,hd⟩=>by
  have nch :=λz=>(hch c z).2.2.1 x c e rfl
  by_cases hc:c∈X.fs
  .let(sl,q):=slot c o (I.cne x c e) hc nch ho<|I.freeC x c e;exact{_,q,hd}
  .exact{o,keep c o (I.cne x c e) hc nch ho<|I.freeC x c e,hd}
 refine{I.ok,I.os,hg,{λb o e n hb hx=>?_,λb o e n hb hx=>?_,λb o e n hx=>?_,λb o e hx=>?_,λb xs e=>tups b xs<|I.base.tups b xs e,λb o xs e=>frzs b o xs<|I.base.frzs b o xs e,λb ps e=>?_},?_,λx c e=>?_,?_,λx c e=>?_,λp hp=>?_,hok,I.len}
 .exact keep b o (neL b o e) hb (neC b o e hx) (I.base.keep b o e n hb hx)<|I.base.free b o e n hx
 .let(sl,e1):=I.base.slot b o e n hb hx;let(sl',e2):=slot b _ (neL b o e) hb (neC b o e hx) e1<|I.base.free b o e n hx;exact{(sl'),e2}
 .let(o',e1):=I.base.there b o e hx;exact free b o' (neC b o e hx) e1<|I.base.free b o e n hx
 .let(o',e1):=I.base.there b o e hx;exact there b o' (neC b o e hx) e1
 .let(m1,e1):=I.base.tbls b ps e;let(m2,e2):=tbls b _ e1;exact{m1++m2,by rw[e2,Array.append_assoc]}
 .let(m,hn,hl):=I.loc;refine{m,ns m hn,λi x v e1 e2 e3=>?_}
  let(u,r,l):=hl i x v e1 e2 e3;refine{u,r,?_}
  rcases l with l|⟨k,c,e,z⟩
  .exact .inl l
  .exact .inr {k,c,e,cellK x c e _ z}
 .let(v,z):=I.cell x c e;exact{v,cellK x c e v z}
 .let(m,(o,_,_,ho,_),_):=I.loc;exact free _ o (λz=>(hch _ z).2.1 rfl) ho I.free
 .let(v,o,ho,hd):=I.cell x c e;exact free c o (λz=>(hch c z).2.2.1 x c e rfl) ho<|I.freeC x c e
 .let(e,n,ne,nf,d):=I.pin p hp;have nch :=λz=>(hch p.1 z).2.2.2 p hp rfl
  exact{keep p.1 p.2 ne nf nch e n,free p.1 p.2 nch e n,ne,nf,d}
def Inv.un(I:Inv X pq O H s)(u:Un X.fs [] H H' s.heap h')(hok:HOk X.prog X.w H' h'):Inv X pq O H' { s with heap:=h',toks:=t' }:=by
 let(m,(o,es,ep,ho,r),_):=id I.loc;let(sl,hL):=u.any ho I.free<|by simp
 exact I.step (ch:=[]) (λ_ z=>nomatch z) (λb o _ hb _ e n=>u.keep b o e n hb<|by simp) (λb o _ hb _ e n=>u.slot b o e n hb<|by simp) (λb o _ e n=>u.free b o e n<|by simp) (λb o _ e=>u.there b o e<|by simp) u.tups u.frzs u.tbls (λm' hm=>by
  let(o',es',ep',ho',r'):=hm;rw[ho]at ho';cases ho';exact{_,es',ep',hL,r'}) hok I.bare
def Inv.call(I:Inv X pq O H s)(u:Un (B9 X.stack) ch H H' s.heap h')(hok:HOk X.prog X.w H' h')(hg:AllBare g')
  (hch:∀b∈ch,(b∈X.ex\/X.s₀.heap.objs.size<=b)/\b≠X.env.locals/\(∀x c,X.env.cells.lookup x=↑c->c≠b)/\∀p∈X.pn++pq,p.1≠b) :
  Inv X pq O H' { s with heap:=h',gens:=g',drawn:=d',toks:=t' }:=by
 let(m,(o,es,ep,ho,r),_):=id I.loc;let(sl,hL):=u.any ho I.free λz=>(hch _ z).2.1 rfl
 exact I.step hch (λb o hL hb hc e n=>u.keep b o e n (λz=>(Ê.mp<|I.stkSub b z).elim hL hb) hc) (λb o _ _ hc e n=>u.any e n hc) (λb o hc e n=>u.free b o e n hc) (λb o hc e=>u.there b o e hc) u.tups u.frzs u.tbls (λm' hm=>by
  let(o',es',ep',ho',r'):=hm;rw[ho]at ho';cases ho';exact{_,es',ep',hL,r'}) hok hg
def Inv.turned(I:Inv X pq O H s)(k:∀b o,b≠it->s.heap.get? b=↑o->h'.get? b=↑o)(hn:H it=none)(hL:it≠X.env.locals)
  (h1:it∈X.ex\/X.s₀.heap.objs.size<=it) (h2:∀x c,X.env.cells.lookup x=↑c->c≠it) (h3:∀p∈X.pn++pq,p.1≠it):Inv X pq O H { s with heap:=h',toks:=t' }:=by
 refine I.step (ch:=[it]) (λb hb=>?_) (λb o _ _ hc e _=>k b o (λz=>hc<|by simp[z]) e) (λb o _ _ hc e _=>{o.slots,k b o (λz=>hc<|by simp[z]) e}) (λ_ _ _ _ n=>n)
  (λb o hc e=>{o,k b o (λz=>hc<|by simp[z]) e}) (λ_ _ e=>e) (λ_ _ _ e=>e) (λb ps e=>{#[],by rw[e];simp}) (λm hm=>?_) (λb u e=>?_) I.bare
 .grind
 .let(o,es,ep,ho,r):=hm;exact{o,es,ep,k _ o (Î hL) ho,r}
 .refine(I.hok b u e).stay (λc v hc q=>k c v ?_ q) (λ_ q=>q) λ_ _ q=>q
  grind
theorem Inv.tok(I:Inv X pq O H s)(t):Inv X pq O H { s with toks:=t}:=I.un Un.refl I.hok
theorem Inv.kept(I:Inv X pq O H s)(k:∀b u,s.heap.get? b=↑u->h'.get? b=↑u):Inv X pq O H { s with heap:=h',toks:=t' }:=I.un (Un.kept k)<|I.hok.kept k
theorem Inv.laid{a:Addr}   (I:Inv X pq O H s)(k:∀b u,s.heap.get? b=↑u->h'.get? b=↑u)(hp:s.heap.objs.size<=a)(new:Cz X.prog X.w (upd H a o) h' a o) :
  Inv X pq O (upd H a o) { s with heap:=h',toks:=t' }:=I.un (Un.laid k hp<|I.hok.fresh hp)<|I.hok.laid k hp new
theorem Inv.write(I:Inv X pq O H s)(mu:Kz<|H x)(he:e=x\/H e=↑(.own x))(k:∀b u,b≠e->s.heap.get? b=↑u->h'.get? b=↑u)(heo:∃u,h'.get? e=↑u)
  (new:Cz X.prog X.w (upd H x o) h' x o):Inv X pq O (upd H x o) { s with heap:=h',toks:=t' }:=I.un (Un.write mu he k heo)<|I.hok.write mu he k heo new
theorem Inv.pins_of(I:Inv X pq O H s)(h:∀p∈pins',s.heap.get? p.1=↑p.2/\H p.1=none/\p.1≠X.env.locals/\p.1∉X.fs/\∀v,p.2.data≠.cell v):Inv X pins' O H s:=
 {I.ok,I.os,I.bare,I.base,I.loc,I.cell,I.free,I.freeC,λp hp=>(ä.mp hp).elim (λz=>I.pin p<|ö _ z) (h p),I.hok,I.len}
def Yg{N:kE}(hN:N.Nodup){i j:Nat}(a:N[i]?=↑x)(b:N[j]?=↑x):i=j:=by
 let(h1,e1):=Ñ.mp a;let(h2,e2):=Ñ.mp b;exact(ğ hN).mp (e1.trans e2.symm)
def Ve(I:Inv X pq O H s)(hN:X.N.Nodup)(hi:X.N[i]?=↑x)(hx:HJ X.env.scope x)(r:A7 v u)
  (h:∀s',Inv X pq (O.set i ↑v) H s'->(∃a,Heap.SameBut a s.heap s'.heap/\(a=X.env.locals\/X.env.cells.lookup x=↑a))->Q () s') (hf:X.fn x=true\/X.env.scope.names.lookup x=↑.local:=by first|exact .inl rfl|exact .inr rfl|assumption):wpAny M A (storeName X.env x u) Q E s:=by
 let(m,hn,hl):=id I.loc;have hcls:(X.env.scope.kind == .class || (X.env.scope.kind == .module && X.env.locals != X.env.globals))=false:=by rw[I.ok.kind];rfl
 have hiσ:i<O.length:=by rw[I.len];exact(Ñ.mp hi).1
 have cne:=I.cne
 have tracked:∀{a } {h' },(∃o,s.heap.get? a=↑o/\H a=none)->Heap.SameBut a s.heap h'->HOk X.prog X.w H h':=fun  ha hs b ob e=>by
  let(_,_,hfree):=ha;refine(I.hok b ob e).stay (λc w' hc q=>(hs.2 c ?_).trans q) (λ_ q=>q) λ_ _ q=>q
  rintro rfl
  rcases hc with rfl|hc
  .rw[hfree]at e;cases e
  .rw[hfree]at hc;cases hc
 rcases hx with hk|hk
 .refine wpAny_storeName_local hk hn (λh' hn' hs=>?_) hcls
  let(oL,_,_,hoL,_):=id hn;refine h _ {I.ok,I.os,I.bare,{λb o e n hb hx=>?_,λb o e n hb hx=>?_,I.base.free,λb o e hx=>?_,I.base.tups,I.base.frzs,I.base.tbls},{_,hn',λj y v' e1 e2 e3=>?_},λy c e=>?_,I.free,I.freeC,λp hp=>?_,tracked {(oL),hoL,I.free} hs,by simpa using I.len} {_,hs,.inl rfl}
  .exact(hs.2 b<|Õ<|Û (Ä e) I.ok.above).trans (I.base.keep b o e n hb hx)
  .let(sl,e1):=I.base.slot b o e n hb hx;exact{sl,(hs.2 b<|Õ<|Û (Ä e) I.ok.above).trans e1}
  .let(o',e1):=I.base.there b o e hx;exact{o',(hs.2 b<|Õ<|Û (Ä e) I.ok.above).trans e1}
  .by_cases hj:j=i
   .subst hj;rw[hi]at e1;cases e1;rw[é hiσ]at e2;cases e2;exact{u,r,.inl {hk,by simp}}
   .rw[æ<|Î hj]at e2;let(u',r',q):=hl j y v' e1 e2 e3;refine{u',r',?_}
    rcases q with ⟨k,e⟩|⟨k,c,e,z⟩
    .refine .inl {k,?_};have:y≠x:=λe=>hj<|Yg hN e1<|e▸hi
     simp[this,e]
    .exact .inr {k,c,e,z.sameBut hs<|cne y c e}
  .let(w',z):=I.cell y c e;exact{w',z.sameBut hs<|cne y c e}
  .let(e,n,ne,nf,d):=I.pin p hp;exact{(hs.2 p.1 ne).trans e,n,ne,nf,d}
 .have hfn:X.fn x=true:=by
   rcases hf with z|z
   .exact z
   .rw[z]at hk;cases hk
  let(c,hc):=I.ok.has x<|.inl hk;let(w',z):=I.cell x c hc;refine wpAny_storeName_cell I.ok.kind hk hc z<|λh' hc' hs=>?_
  let(oc,hoc,hocd):=id z;refine h { s with heap:=h' } {I.ok,I.os,I.bare,{λb o e n hb hx=>?_,λb o e n hb hx=>?_,I.base.free,λb o e hx=>?_,I.base.tups,I.base.frzs,I.base.tbls},{m,hn.sameBut hs<|Î<|cne x c hc,λj y v' e1 e2 e3=>?_},λy c' e=>?_,I.free,I.freeC,λp hp=>?_,tracked {oc,hoc,I.freeC x c hc} hs,by simpa using I.len} {c,hs,.inr hc}
  .exact(hs.2 b<|Õ<|Û (Ä e)<|I.ok.cab x c hfn hc).trans (I.base.keep b o e n hb hx)
  .let(sl,e1):=I.base.slot b o e n hb hx;exact{sl,(hs.2 b<|Õ<|Û (Ä e)<|I.ok.cab x c hfn hc).trans e1}
  .let(o',e1):=I.base.there b o e hx;exact{o',(hs.2 b<|Õ<|Û (Ä e)<|I.ok.cab x c hfn hc).trans e1}
  .by_cases hj:j=i
   .subst hj;rw[hi]at e1;cases e1;rw[é hiσ]at e2;cases e2;exact{u,r,.inr {.inl hk,c,hc,hc'}}
   .rw[æ<|Î hj]at e2;let(u',r',q):=hl j y v' e1 e2 e3;refine{u',r',?_}
    rcases q with q|⟨k,c',e,z'⟩
    .exact .inl q
    .refine .inr {k,c',e,z'.sameBut hs ?_};rintro rfl;exact hj<|Yg hN e1<|I.ok.inj _ _ _ e hc▸hi
  .by_cases hcc:c'=c
   .subst hcc;exact{_,hc'}
   .let(w2,z2):=I.cell y c' e;exact{w2,z2.sameBut hs hcc}
  .let(e,n,ne,nf,d):=I.pin p hp;refine{(hs.2 p.1 ?_).trans e,n,ne,nf,d};intro q;rw[q,hoc]at e;have q' :=Ý e;exact d w' (by rw[<- q'];exact hocd)
theorem La(I:Inv X pq O H s)(hN:X.N.Nodup)(hi:X.N[i]?=↑x)(hx:HJ X.env.scope x)(r:A7 v u)
  (h:∀s',Inv X pq (O.set i ↑v) H s'->Q () s') (hf:X.fn x=true\/X.env.scope.names.lookup x=↑.local):wpAny M A (storeName X.env x u) Q E s:=
 Ve I hN hi hx r (λs' I' _=>h s' I') hf
def Inv.call'(I:Inv X pq O H s)(ho:s'.os=s.os)(u:Un (B9 X.stack) ch H H' s.heap s'.heap)(hok:HOk X.prog X.w H' s'.heap)(hg:AllBare s'.gens)
  (hch:∀b∈ch,(b∈X.ex\/X.s₀.heap.objs.size<=b)/\b≠X.env.locals/\(∀x c,X.env.cells.lookup x=↑c->c≠b)/\∀p∈X.pn++pq,p.1≠b):Inv X pq O H' s':=by
 let(h',g',d',t',o'):=s';have e :=ho;subst e;exact I.call u hok hg hch
end
abbrev XK:=Value->Option Addr->Hp->Prop
abbrev St:=List<|Option V
abbrev VK:=V->Hp->Prop
abbrev TE:=St->Hp->VK->Prop
abbrev TT:=St->Hp->(Bool->Hp->Prop)->Prop
abbrev TA:=St->Hp->(kK->Hp->Prop)->Prop
structure Ends where
 nx:St->Hp->Prop
 rt:VK
 bk:St->Hp->Prop:=λ_ _=>False
 ct:St->Hp->Prop:=λ_ _=>False
abbrev TS:=Ends->St->Hp->Prop
def EP(X:Cx)(pq:List<|Addr×Obj)(O:St)(Q:VK)(u:Value)(s':Shared):Prop:=∃v H',Inv X pq O H' s'/\A7 v u/\Q v H'
def TP(X:Cx)(pq:List<|Addr×Obj)(O:St)(Q:Bool->Hp->Prop)(b:Bool)(s':Shared):Prop:=∃H',Inv X pq O H' s'/\Q b H'
def AP(X:Cx)(pq:List<|Addr×Obj)(O:St)(Q:kK->Hp->Prop)(us:k9)(s':Shared):Prop:=∃vs H',Inv X pq O H' s'/\Ac vs us/\Q vs H'
def SP(X:Cx)(pq:List<|Addr×Obj)(D:Ends)(f:Flow)(s':Shared):Prop:=
 match f with
 |.next=>∃O' H',Inv X pq O' H' s'/\D.nx O' H'|.brk=>∃O' H',Inv X pq O' H' s'/\D.bk O' H'|.cont=>∃O' H',Inv X pq O' H' s'/\D.ct O' H'|.ret u=>∃v O' H',Inv X pq O' H' s'/\A7 v u/\D.rt v H'
def PE(X:Cx)(e:Expr)(t:TE):Prop:=
 ∀(pq:List<|Addr×Obj) (s:Shared) (O:St) (H:Hp) (Q:VK),Inv X pq O H s->t O H Q->wpAny (model X.prog X.w) X.A (eval e X.env) (EP X pq O Q) X.xe s
def PT(X:Cx)(e:Expr)(t:TT):Prop:=
 ∀(pq:List<|Addr×Obj) (s:Shared) (O:St) (H:Hp) (Q:Bool->Hp->Prop),Inv X pq O H s->t O H Q->wpAny (model X.prog X.w) X.A (isTrue e X.env<|eval e X.env) (TP X pq O Q) X.xe s
def PW(X:Cx)(e:Expr)(t:TT):Prop:=
 ∀(whole:Sem Value) (pq:List<|Addr×Obj) (s:Shared) (O:St) (H:Hp) (Q:Bool->Hp->Prop),Inv X pq O H s->t O H Q->wpAny (model X.prog X.w) X.A (isTrue e X.env whole) (TP X pq O Q) X.xe s
theorem PW.pt{X:Cx}{e:Expr}{t:TT}(h:PW X e t):PT X e t:=h _
def PA(X:Cx)(es:kC)(t:TA):Prop:=
 ∀(pos:Pos) (pq:List<|Addr×Obj) (s:Shared) (O:St) (H:Hp) (Q:kK->Hp->Prop),Inv X pq O H s->t O H Q->wpAny (model X.prog X.w) X.A (spliced<|backTo pos<|starEach es X.env) (AP X pq O Q) X.xe s
def PS(X:Cx)(st:Stmt)(t:TS):Prop:=
 ∀(pq:List<|Addr×Obj) (s:Shared) (O:St) (H:Hp) (D:Ends),Inv X pq O H s->t D O H->wpAny (model X.prog X.w) X.A (exec st X.env) (SP X pq D) X.xe s
def B5(X:Cx)(st:kD)(t:TS):Prop:=
 ∀(pq:List<|Addr×Obj) (s:Shared) (O:St) (H:Hp) (D:Ends),Inv X pq O H s->t D O H->wpAny (model X.prog X.w) X.A (execs st X.env) (SP X pq D) X.xe s
theorem AX{t:Sem α}      (h:wpAny M A t Q E s)(hQ:∀a s,Q a s->Q' a s):wpAny M A t Q' E s:=ï h hQ λ_ _ x=>x
section
variable {X:Cx}
def VJ(i:Nat):TE:=λO H Q=>∃v,O[i]?=↑↑v/\Q v H
def tC(v:V):TE:=λ_ H Q=>Q v H
def Gk{pos}(hN:X.N[i]?=↑x)(hv:Ef X.env.scope x)(hd:(x == "__debug__")=false)(hcd:(x == "__classdict__")=false):PE X (.Name x pos)<|VJ i:=by
 intro pq s O H Q I h;let(v,e,h):=h;let(m,hn,hl):=I.loc;let(u,r,l):=hl i x v hN e hv;have Aw:EP X pq O Q u s:={(v),H,I,r,h}
 rcases l with ⟨hk,hm⟩|⟨hk,c,hc,hcell⟩
 .exact wpAny_Name (wpAny_loadName_local I.ok.kind hk hn hm Aw) hd
 .rcases hk with hk|hk
  .exact wpAny_Name (wpAny_loadName_cell I.ok.kind hk hc hcell Aw) hd
  .exact wpAny_Name (wpAny_loadName_free I.ok.kind hk hc hcell Aw hcd) hd
theorem zo8:PE X (.Constant (.int i) j pos)<|tC<|.int i:=λ_ _ _ H _ I h=>wpAny_Constant_int {.int i,H,I.tok _,{_,rfl},h}
theorem pe_bl:PE X (.Constant (.bool b) j pos)<|tC<|.bl b:=λ_ _ _ H _ I h=>Constant_bool {.bl b,H,I,rfl,h}
theorem zo5:PE X (.Constant .none j pos)<|tC .non:=λ_ _ _ H _ I h=>Constant_none {.non,H,I,rfl,h}
theorem zo2:PE X (.Constant (.str x) j pos)<|tC<|.str x:=λ_ _ _ H _ I h=>Calls.Constant_str {.str x,H,I.tok _,{_,rfl},h}
def Gl(X:Cx)(x:Str):Prop:=X.env.kindOf x=↑.globalImplicit
theorem MW{O:St}(I:Inv X pq O H s)(hg:Gl X x)(hm:X.mg x=↑u)(h:Q u s)
  (hd:(x == "__debug__")=false):wpAny (model X.prog X.w) X.A (eval (.Name x pos) X.env) Q E s:=
 Calls.Name_function_global I.ok.kind hg (Calls.loadGlobal_global (by rw[I.ok.glob];exact I.mod.glob.keeps I.bk) hm h) hd
def Fo{E}{O:St}{pos}(I:Inv X pq O H s)(hg:Gl X x)(hm:X.mg x=none)(hv:bootBuiltins x=↑u)(h:Q u s)
  (hn:x≠"__name__":=by decide) (hd:(x == "__debug__")=false:=by decide):wpAny (model X.prog X.w) X.A (eval (.Name x pos) X.env) Q E s:=by
 let(mb,h1,h2):=I.mod.blt;exact Calls.Name_function_global I.ok.kind hg (Calls.loadGlobal_builtin (by rw[I.ok.glob];exact I.mod.glob.keeps I.bk) hm (by rw[I.ok.blt];exact h1.keeps I.bk) ((h2 x hn).trans hv) h) hd
theorem Wu(hg:Gl X x)(hm:X.mg x=↑u)(r:A7 v u)(hd:(x == "__debug__")=false):PE X (.Name x pos)<|tC v:=
 λ_ _ _ H _ I h=>MW I hg hm {(v),H,I,r,h} hd
theorem zkh{x:Str}{v:V}{u:Value}{pos:Pos}(hg:Gl X x)(hm:X.mg x=none)(hv:bootBuiltins x=↑u)(r:A7 v u)(hn:x≠"__name__")(hd:(x == ("__debug__":Str))=false):PE X (.Name x pos)<|tC v:=
 λ_ _ _ H _ I h=>Fo I hg hm hv {(v),H,I,r,h} hn hd
variable {a b:Expr}{ta tb:TE}{pos:Pos}
def tB(t:TE):TT:=λO H Q=>t O H λx H1=>∃c,x=.bl c/\Q c H1
def Q6(h:PE X e t)(he:∀whole,isTrue e X.env whole=(do let v <- whole;standAt e.pos;holding [v] (truthy v))):PT X e<|tB t:=by
 intro pq s O H Q I hw;refine isTrue_plain (AX (h pq s O H _ I hw) λv s1 zz=>?_)<|he _
 let(x,H1,I1,r1,q1):=zz;let(d,rfl,q):=q1;cases r1;exact Ą {(H1),I1,q}
variable {tA tB':TT}{rest:kC}
def tAnd(t u:TT):TT:=λO H Q=>t O H λc H1=>if c=true then u O H1 Q else Q false H1
def tOr(t u:TT):TT:=λO H Q=>t O H λc H1=>if c=true then Q true H1 else u O H1 Q
def VQ(t:TT):TT:=λO H Q=>t O H λc H1=>Q (!c) H1
def zk2(ha:PT X a tA):PW X (.BoolOp .And [a] pos) tA:=by
 intro wh pq s O H Q I h;refine isTrue_and<|AX (ha pq s O H Q I h) λc s1 e=>?_
 cases c with
 |true=>exact isTrue_and_nil e|false=>exact e
def znq(ha:PT X a tA):PW X (.BoolOp .Or [a] pos) tA:=by
 intro wh pq s O H Q I h;refine isTrue_or<|AX (ha pq s O H Q I h) λc s1 e=>?_
 cases c with
 |false=>exact isTrue_or_nil e|true=>exact e
def znr(ha:PT X a tA)(hb:PW X (.BoolOp .And (b::rest) pos) tB'):PW X (.BoolOp .And (a::b::rest) pos)<|tAnd tA tB':=by
 intro wh pq s O H Q I h;refine isTrue_and<|AX (ha pq s O H _ I h) λc s1 zz=>?_
 let(H1,I1,q1):=zz;cases c with
 |true=>exact hb wh pq s1 O H1 Q I1 q1|false=>exact{(H1),I1,q1}
def pw_or(ha:PT X a tA)(hb:PW X (.BoolOp .Or (b::rest) pos) tB'):PW X (.BoolOp .Or (a::b::rest) pos)<|tOr tA tB':=by
 intro wh pq s O H Q I h;refine isTrue_or<|AX (ha pq s O H _ I h) λc s1 zz=>?_
 let(H1,I1,q1):=zz;cases c with
 |true=>exact{(H1),I1,q1}|false=>exact hb wh pq s1 O H1 Q I1 q1
def Wm(ha:PT X a tA):PT X (.UnaryOp .Not a pos)<|VQ tA:=by
 intro pq s O H Q I h;exact isTrue_not<|ha pq s O H (λc H1=>Q (!c) H1) I h
def tAndV(ta tb:TE):TE:=λO H Q=>ta O H λx H1=>∃c,x=.bl c/\if c=true then tb O H1 Q else Q (.bl false) H1
def tOrV(ta tb:TE):TE:=λO H Q=>ta O H λx H1=>∃c,x=.bl c/\if c=true then Q (.bl true) H1 else tb O H1 Q
def VP(ta:TE):TE:=λO H Q=>ta O H λx H1=>∃c,x=.bl c/\Q (.bl<|!c) H1
theorem zo3(h:PE X a t):PE X (.BoolOp op [a] pos) t:=λpq s O H Q I hw=>BoolOp_one<|h pq s O H Q I hw
def zo9(ha:PE X a ta)(hb:PE X (.BoolOp .And (b::rest) pos) tb):PE X (.BoolOp .And (a::b::rest) pos)<|tAndV ta tb:=by
 intro pq s O H Q I h;refine BoolOp_and<|AX (ha pq s O H _ I h) λv s1 zz=>?_
 let(x,H1,I1,r1,q1):=zz;let(c,rfl,q1):=q1;cases r1;refine Ą ?_;cases c with
 |true=>exact hb pq s1 O H1 Q I1 q1|false=>exact{.bl false,H1,I1,rfl,q1}
def pe_or(ha:PE X a ta)(hb:PE X (.BoolOp .Or (b::rest) pos) tb):PE X (.BoolOp .Or (a::b::rest) pos)<|tOrV ta tb:=by
 intro pq s O H Q I h;refine BoolOp_or<|AX (ha pq s O H _ I h) λv s1 zz=>?_
 let(x,H1,I1,r1,q1):=zz;let(c,rfl,q1):=q1;cases r1;refine Ą ?_;cases c with
 |false=>exact hb pq s1 O H1 Q I1 q1|true=>exact{.bl true,H1,I1,rfl,q1}
def zo4(ha:PE X a ta):PE X (.UnaryOp .Not a pos)<|VP ta:=by
 intro pq s O H Q I h;refine UnaryOp_<|AX (ha pq s O H _ I h) λv s1 zz=>?_
 let(x,H1,I1,r1,q1):=zz;let(c,rfl,q1):=q1;cases r1;exact not_of<|Ą {.bl<|!c,H1,I1,rfl,q1}
def tIf(t:TT)(ta tb:TE):TE:=λO H Q=>t O H λc H1=>if c=true then ta O H1 Q else tb O H1 Q
def zhd(hc:PT X c tA)(ha:PE X a ta)(hb:PE X b tb):PE X (.IfExp c a b pos)<|tIf tA ta tb:=by
 intro pq s O H Q I h;refine wpAny_IfExp<|AX (hc pq s O H _ I h) λd s1 zz=>?_
 let(H1,I1,q1):=zz;cases d with
 |true=>exact ha pq s1 O H1 Q I1 q1|false=>exact hb pq s1 O H1 Q I1 q1
end
def AZ(K:k6)(H:Hp)(a:Addr)(xs:kK):Prop:=
 Rd H a (.lst xs) \/
  ∃(o:Obj) (its:Array Value) (n:Nat),K.lookup a=↑o/\o.cls=.type "list"/\o.dict=none/\o.data=.seq its n/\its.size<=sizeLine/\Ac xs its.toList
def Bt(K:k6)(H:Hp)(a:Addr)(xs:kK):Prop:=
 Rd H a (.tup xs) \/
  ∃(o:Obj) (its:Array Value) (n:Nat),K.lookup a=↑o/\o.cls=.type "tuple"/\o.data=.seq its n/\its.size<=sizeLine/\Ac xs its.toList
def absV:Value->Option V
 |.none=>↑.non|.bool b=>↑(.bl b)|.int i _=>↑(.int i)|.str x _=>↑(.str x)|.bytes b _=>↑(.byt b)|.float b _=>↑(.flt b)|.ref a=>↑(.ref a)|.type n=>↑(.ty n)|_=>none
def A7.abs(r:A7 x u):absV u=↑x:=by
 cases x with
 |non=>cases r;rfl|bl _=>cases r;rfl|int _=>let(t,rfl):=r;rfl
 |str _=>let(t,rfl):=r;rfl
 |byt _=>let(t,rfl):=r;rfl
 |flt _=>let(t,rfl):=r;rfl
 |ref _=>cases r;rfl|ty _=>cases r;rfl
def A7.inj(r:A7 x u)(q:A7 y u):x=y:=Ý<|r.abs.symm.trans q.abs
def Ac.inj:∀{xs ys} {us},Ac xs us->Ac ys us->xs=ys
 |_,_,_,.nil,.nil=>rfl|_,_,_,.cons r t,.cons r' t'=>by rw[r.inj r',Ac.inj t t']
section
variable {X:Cx}{pq:List<|Addr×Obj}{O:St}{H:Hp}{s:Shared}{a:Addr}{xs ys:kK}
theorem AZ.of{K:k6}(h:H a=↑(.lst xs)):AZ K H a xs:=.inl<|.inl h
theorem Bt.of{K:k6}(h:H a=↑(.tup xs)):Bt K H a xs:=.inl<|.inl h
def Inv.list(I:Inv X pq O H s)(h:AZ X.K H a xs):∃its ,Ac xs its/\PlainL s.heap a its.toArray/\xs.length<=sizeLine:=by
 rcases h with h|⟨o,its,n,hk,hc,hd,hs,hz,r⟩
 .let(z,its,n,r,e):=h.ok I.hok;exact{its,r,{_,n,e,rfl,rfl,rfl},z}
 .refine{its.toList,r,{o,n,I.kIn a o hk,hc,hd,by lia},?_}
  have e:=r.length
  grind
def Inv.tuple(I:Inv X pq O H s)(h:Bt X.K H a xs):∃its ,Ac xs its/\IsTup s.heap a its.toArray/\xs.length<=sizeLine:=by
 rcases h with h|⟨o,its,n,hk,hc,hs,hz,r⟩
 .let(z,its,r,p):=h.ok I.hok
  grind
 .refine{its.toList,r,{o,I.kIn a o hk,hc,n,by lia},?_}
  have e:=r.length
  grind
def Inv.list_inj(I:Inv X pq O H s)(h:AZ X.K H a xs)(h':AZ X.K H a ys):xs=ys:=by
 let(its,r,(o,n,e,_,_,d),_):=I.list h;let(its',r',(o',n',e',_,_,d'),_):=I.list h';have:its=its':=by grind
 subst this;exact r.inj r'
def Inv.tuple_inj(I:Inv X pq O H s)(h:Bt X.K H a xs)(h':Bt X.K H a ys):xs=ys:=by
 let(its,r,(o,e,_,n,d),_):=I.tuple h;let(its',r',(o',e',_,n',d'),_):=I.tuple h';have:its=its':=by grind
 subst this;exact r.inj r'
variable {E:Value->Shared->Prop}
end
section
variable {X:Cx}{st:Stmt}{rest:kD}{t u:TS}{e:Expr}{te:TE}{pos:Pos}
def VS:TS:=λD O H=>D.nx O H
def VN(t u:TS):TS:=λD O H=>t { D with nx:=u D } O H
theorem zk7:B5 X [] VS:=λ_ _ O H _ I h=>ŗ {(O),H,I,h}
def zh7(h1:PS X st t)(h2:B5 X rest u):B5 X (st::rest)<|VN t u:=by
 intro pq s O H D I h;refine wpAny_execs_cons<|AX (h1 pq s O H { D with nx:=u D } I h) λf s1 q=>?_
 cases f with
 |next=>let(O',H',I',q):=q;exact h2 pq s1 O' H' D I' q
 |ret v=>exact q|brk=>exact q|cont=>exact q
def zk6(h1:PS X st t):B5 X [st] t:=by
 intro pq s O H D I h;refine wpAny_execs_cons<|AX (h1 pq s O H D I h) λf s1 q=>?_
 cases f with
 |next=>exact ŗ q|ret v=>exact q|brk=>exact q|cont=>exact q
def zmp:TS:=λD O H=>D.bk O H
def tCont:TS:=λD O H=>D.ct O H
theorem zk8:PS X (.Pass pos) VS:=λ_ _ O H _ I h=>wpAny_Pass {(O),H,I,h}
theorem zha:PS X (.Break pos) zmp:=λ_ _ O H _ I h=>wpAny_Break {(O),H,I,h}
theorem zd1:PS X (.Continue pos) tCont:=λ_ _ O H _ I h=>wpAny_Continue {(O),H,I,h}
def Inv.quiet{O:St}   (I:Inv X pq O H s):interactive X.env=false:=by simp[interactive,I.ok.kind]
def tDrop(te:TE):TS:=λD O H=>te O H λ_ H1=>D.nx O H1
def Q8(he:PE X e te)(hs:swapsWith e none pos.line X.env=pure false):PS X (.Expr e pos)<|tDrop te:=by
 intro pq s O H D I h;exact wpAny_Expr_any (AX (he pq s O H _ I h) λv s1 ⟨x,H1,I1,r1,q1⟩=>{(O),H1,I1,q1}) I.quiet hs
def tRet(te:TE):TS:=λD O H=>te O H D.rt
def Wp(he:PE X e te):PS X (.Return ↑e pos)<|tRet te:=by
 intro pq s O H D I h;exact wpAny_Return_some<|AX (he pq s O H _ I h) λv s1 ⟨x,H1,I1,r1,q1⟩=>{(x),O,H1,I1,r1,q1}
def tRetN:TS:=λD _ H=>D.rt .non H
theorem Wo:PS X (.Return none pos) tRetN:=λ_ _ O H _ I h=>wpAny_Return_none {.non,O,H,I,rfl,h}
def tIfS(c:TT)(t u:TS):TS:=λD O H=>c O H λb H1=>if b=true then t D O H1 else u D O H1
def Q7(hc:PT X c tc)(ha:B5 X a t)(hb:B5 X b u):PS X (.If c a b pos)<|tIfS tc t u:=by
 intro pq s O H D I h;refine wpAny_If<|AX (hc pq s O H _ I h) λd s1 zz=>?_
 let(H1,I1,q1):=zz;cases d with
 |true=>exact ha pq s1 O H1 D I1 q1|false=>exact hb pq s1 O H1 D I1 q1
end
abbrev TG:=V->St->Hp->(St->Hp->Prop)->Prop
abbrev JD:=kK->St->Hp->(St->Hp->Prop)->Prop
def PG(X:Cx)(target:Expr)(t:TG):Prop:=
 ∀(pq:List<|Addr×Obj) (s:Shared) (O:St) (H:Hp) (v:V) (u:Value) (Q:St->Hp->Prop),Inv X pq O H s->A7 v u->t v O H Q ->
  wpAny (model X.prog X.w) X.A (assign target X.env u) (λ_ s'=>∃O' H',Inv X pq O' H' s'/\Q O' H') X.xe s
def EL(X:Cx)(ts:kC)(t:JD):Prop:=
 ∀(pq:List<|Addr×Obj) (s:Shared) (O:St) (H:Hp) (vs:kK) (us:k9) (Q:St->Hp->Prop),Inv X pq O H s->Ac vs us->t vs O H Q ->
  wpAny (model X.prog X.w) X.A (assignInOrder ((assignEach ts X.env).map (·.2)) us) (λ_ s'=>∃O' H',Inv X pq O' H' s'/\Q O' H') X.xe s
abbrev UJ:=V->V->V->Hp->(Hp->Prop)->Prop
def UU(X:Cx)(t:UJ):Prop:=
 ∀(pq:List<|Addr×Obj) (s:Shared) (O:St) (H:Hp) (o i v:V) (ov iv u:Value) (Q:Hp->Prop),Inv X pq O H s->A7 o ov->A7 i iv->A7 v u->t o i v H Q ->
  wpAny (model X.prog X.w) X.A (setItem ov iv u) (λ_ s'=>∃H',Inv X pq O H' s'/\Q H') X.xe s
section
variable {X:Cx}{pos:Pos}
def GU(i:Nat):TG:=λv O H Q=>Q (O.set i ↑v) H
def zke{i:Nat}{x:Str}(hN:X.N.Nodup)(hi:X.N[i]?=↑x)(hx:HJ X.env.scope x)(hf:X.fn x=true\/X.env.scope.names.lookup x=↑.local):PG X (.Name x pos)<|GU i:=by
 intro pq s O H v u Q I r h;exact wpAny_assign_Name<|La I hN hi hx r (λs' I'=>{_,H,I',h}) hf
def gNil:JD:=λvs O H Q=>vs=[]/\Q O H
def gCons(t:TG)(u:JD):JD:=λvs O H Q=>∃v r,vs=v::r/\t v O H λO' H'=>u r O' H' Q
def zkd:EL X [] gNil:=by
 intro pq s O H vs us Q I r h;let(e,h):=h;exact assignInOrder_nil {(O),H,I,h}
def zhc(h1:PG X e t)(h2:EL X es u)
  (hs:(assignEach (e::es) X.env).map (·.2)=assign e X.env::(assignEach es X.env).map (·.2)):EL X (e::es)<|gCons t u:=by
 intro pq s O H vs us Q I r h;let(v,vr,e1,h):=h;subst e1;cases r with
 |cons r rr=>
  rw[hs];refine Ι<|AX (h1 pq s O H _ _ _ I r h) λ_ s1 zz=>?_
  let(O1,H1,I1,q1):=zz;exact h2 pq s1 O1 H1 _ _ Q I1 rr q1
def Sg(K:k6)(n:Nat)(t:JD):TG:=λv O H Q=>∃a xs,v=.ref a/\Bt K H a xs/\xs.length=n/\t xs O H Q
def znz{k}(hc:X.calm=true)(h:EL X es t)
  (hn:(assignEach es X.env).length=n) (hst:(assignEach es X.env).findIdx? (·.1)=none):PG X (.Tuple es k pos)<|Sg X.K n t:=by
 intro pq s O H v u Q I r hw;let(a,xs,e1,hq,hl,hw):=hw;subst e1;cases r;let(its,rv,ht,hz):=I.tuple hq;refine assign_Tuple_tuple (I.ok.hd hc) ht (by simp[hn,<- hl,rv.length]) hst λh' hx=>?_
 have I1 :=I.kept (t':=s.toks) λb o e=>hx b o (Õ<|Ä e) e
 exact h pq _ O H xs _ Q I1 (by lia) hw
def gSub(to ti:TE)(t:UJ):TG:=λv O H Q=>to O H λo H1=>ti O H1 λi H2=>t o i v H2 λH3=>Q O H3
def Qc(ho:PE X o to)(hi:PE X i ti)(hs:UU X t)
  (ha : ∀ v, assign (.Subscript o i pos) X.env v = (do
   let ov <- holding [v]<|eval o X.env;let iv <- holding [v,ov] (eval i X.env)
   standAt pos
   holding [v,ov,iv] (setItem ov iv v)
   release [v,ov,iv] []):=by rfl):PG X (.Subscript o i pos)<|gSub to ti t:=by
 intro pq s O H v u Q I r h;refine À<|ð<|AX (ho pq s O H _ I h) λov s1 zz=>?_
 let(x,H1,I1,r1,q1):=zz;refine À<|ð<|AX (hi pq s1 O H1 _ I1 q1) λiv s2 zz=>?_
 let(y,H2,I2,r2,q2):=zz;refine À<|Ħ<|À<|ð<|AX (hs pq s2 O H2 x y v ov iv u _ I2 r1 r2 r q2) λ_ s3 zz=>?_
 let(H3,I3,q3):=zz;exact wpAny_release {(O),H3,I3,q3}
def G8(te:TE)(g:TG):TS:=λD O H=>te O H λx H1=>g x O H1 D.nx
def Lx{tg e:Expr}{te:TE}{g:TG}(he:PE X e te)(hg:PG X tg g)(hs:swapsWithSole [tg] e pos.line X.env=pure false)(hw:swappedStores [tg] e X.env=pure none)
  (h1:(assignEach [tg] X.env).map (·.2)=[assign tg X.env]):PS X (.Assign [tg] e pos)<|G8 te g:=by
 intro pq s O H D I h;refine wpAny_Assign_stores (AX (he pq s O H _ I h) λv s1 zz=>?_) hs hw
 let(x,H1,I1,r1,q1):=zz;rw[h1];exact AX (hg pq s1 O H1 x v _ I1 r1 q1) λ_ s2 q=>q
def Wn(hN:X.N.Nodup)(hi:X.N[i]?=↑x)(hx:HJ X.env.scope x)(he:PE X e te)(hs:swapsWith e (↑(.Name x pos')) pos.line X.env=pure false)(hf:X.fn x=true\/X.env.scope.names.lookup x=↑.local) :
  PS X (.Assign [.Name x pos'] e pos) (G8 te<|GU i):=by
 intro pq s O H D I h;refine wpAny_Assign_Name (AX (he pq s O H _ I h) λv s1 zz=>?_) hs
 let(y,H1,I1,r1,q1):=zz;exact La I1 hN hi hx r1 (λs2 I2=>{_,H1,I2,q1}) hf
def tPar(i j:Nat)(ta:TA):TS:=λD O H=>ta O H λvs H1=>∃v w,vs=[v,w]/\D.nx ((O.set i ↑v).set j ↑w) H1
def zns(hc:X.calm=true)(hN:X.N.Nodup)(hi:X.N[i]?=↑x)(hj:X.N[j]?=↑y)(hij:i≠j)
  (hx:X.env.scope.names.lookup x=↑.local) (hy:X.env.scope.names.lookup y=↑.local) (ha:PA X [a,b] ta)
  (hw:swappedStores [.Tuple [.Name x px,.Name y py] kt pt] (.Tuple [a,b] k2 pt2) X.env=pure (↑[x,y]))
  (hs:swapsWithSole [.Tuple [.Name x px,.Name y py] kt pt] (.Tuple [a,b] k2 pt2) pos.line X.env=pure false) :
  PS X (.Assign [.Tuple [.Name x px,.Name y py] kt pt] (.Tuple [a,b] k2 pt2) pos) (tPar i j ta):=by
 intro pq s O H D I h;rw[exec_Assign_arm];refine À<|Ħ ?_;rw[hs];refine À<|Å ?_;rw[if_neg<|by decide]
 refine À<|Tuple_<|AX (ha _ pq s O H _ I h) λus s1 zz=>?_
 let(vs,H1,I1,r1,q1):=zz;let(v,w,e1,q1):=q1;subst e1
 let(u1,u2,rfl,rv,rw'):∃u1 u2,us=[u1,u2]/\A7 v u1/\A7 w u2:=by
  cases r1 with
  |cons p q=>
   cases q with
   |cons p' q'=>cases q';exact{_,_,rfl,p,p'}
 refine Κ ?_ (by show 2<=sizeLine;decide)
 have I2:Inv X pq O H1 { s1 with heap:=s1.heap.push { cls:=.type "tuple",data:=.seq [u1,u2].toArray } }:=I1.kept λb o e=>Ð _ e
 rw[hw];refine À<|Å ?_;show wpAny (model X.prog X.w) X.A (do rule "assign.swapped-stores";let items <- unpackItems (.ref s1.heap.objs.size) 2 none;assignInOrder [λv=>bindName X.env y v,λv=>bindName X.env x v] items.reverse;pure Flow.next) _ _ _
 refine À<|wpAny_rule<|À<|unpackItems_tuple (items:=#[u1,u2]) (I.ok.hd hc) (IsTup.new s1.heap _) λh' hx'=>?_
 have I3:=I2.kept (t':=s1.toks) λb o e=>hx' b o (Õ<|Ä e) e
 show wpAny _ _ (assignInOrder [λv=>bindName X.env y v,λv=>bindName X.env x v] [u2,u1] >>= λ_=>pure Flow.next) _ _ _
 refine À<|Ι<|wpAny_bindName<|La I3 hN hj (.inl hy) rw' (λs2 I4=>?_)<|.inr hy
 refine Ι<|wpAny_bindName<|La I4 hN hi (.inl hx) rv (λs3 I5=>assignInOrder_nil<|Å ?_)<|.inr hx
 rw[List.set_comm _ _<|Î hij]at I5;exact{_,H1,I5,q1}
def zmi(c:TT)(tb:TS):TS:=λD O H=>∃W:Nat->St->Hp->Prop,(∃m,W m O H)/\∀m O H,W m O H ->
 c O H λb H1=>if b=true then ∃N:St->Hp->Prop,(∀O' H',N O' H'->∃m',m'<m/\W m' O' H')/\tb { D with nx:=N,ct:=N,bk:=D.nx } O H1 else D.nx O H1
def zh8(hp:PassesOwn (model X.prog X.w) X.A X.env X.xe)(hc:PT X c tc)(hb:B5 X body tb):PS X (.While c body [] pos)<|zmi tc tb:=by
 intro pq s O H D I h;let(W,(m0,w0),turn):=h;refine wpAny_While<|codeAny_whileLoop (λn s'=>∃O' H',Inv X pq O' H' s'/\W n O' H') ?_ m0 {(O),H,I,w0}
 rintro n s1 ⟨O1,H1,I1,w1⟩;refine Ę hp<|AX (hc pq s1 O1 H1 _ I1<|turn n O1 H1 w1) λb s2 zz=>?_
 let(H2,I2,q2):=zz;cases b with
 |true=>
  let(N,hN,q2):=q2;rw[if_pos rfl];refine Ę hp<|AX (hb pq s2 O1 H2 _ I2 q2) λf s3 q3=>?_
  cases f with
  |next=>
   let(σ3,H3,I3,n3):=q3
   grind
  |cont=>
   let(σ3,H3,I3,n3):=q3
   grind
  |brk=>exact q3|ret v=>exact q3
 |false=>rw[if_neg ü];exact ŗ {(O1),H2,I2,q2}
end
structure It where
 go:Nat->Hp->Prop
 yld:Nat->Hp->V->Hp->Prop
 stop:Nat->Hp->Prop
def CV(X:Cx)(pq:List<|Addr×Obj)(H:Hp)(b:Addr):Prop:=
 H b=none/\b≠X.env.locals/\b∉X.fs/\(b∈X.ex\/X.s₀.heap.objs.size<=b)/\(∀x c,X.env.cells.lookup x=↑c->c≠b)/\∀p∈X.pn++pq,p.1≠b
def Inv.fpOk{X:Cx}{O:St}{b:Addr}(I:Inv X pq O H s)(hb:s.heap.objs.size<=b)(hn:H' b=none):CV X pq H' b:=by
 refine{hn,Ģ<|Û I.lt hb,I.nofs hb,.inr<|Ü I.sz hb,λx c e z=>?_,λp hp z=>?_}
 .let(v,q):=I.cell x c e;exact absurd (Û q.lt<|by grind)<|Þ _
 .exact absurd (Û (Ä (I.pin p hp).1)<|by grind)<|Þ _
structure Turn(P:Program)(w:World)(K:k6)(tg:Expr)(Γ:It)(fp:List Addr)(it:Addr)(tn:Nat->Heap->Prop):Prop where
 mem:it∈fp
 obj:∀i h,tn i h->∀b∈fp,∃o,h.get? b=↑o/\∀v,o.data≠.cell v
 keep:∀i h h',tn i h->(∀b∈fp,∀o,h.get? b=↑o->h'.get? b=↑o)->tn i h'
 item:∀(X:Cx),X.prog=P->X.w=w->X.K=K->X.calm=true->∀(i:Nat) (pq:List<|Addr×Obj) (s:Shared) (O:St) (H:Hp) (E:Value->Shared->Prop),Inv X pq O H s->(∀b∈fp,CV X pq H b)->tn i s.heap->Γ.go i H ->
  wpAny (model P w) X.A (pyNext<|.ref it) (λr s1=>∃u,r=↑u /\
   wpAny (model P w) X.A (letOwnedTupleGo tg (.ref it) u) (λ_ s2=>∃x H',Inv X pq O H' s2/\A7 x u/\Γ.yld i H x H'/\tn (i+1) s2.heap/\∀b∈fp,H' b=none) E s1) E s
 done:∀(X:Cx),X.prog=P->X.w=w->X.K=K->X.calm=true->∀(i:Nat) (pq:List<|Addr×Obj) (s:Shared) (O:St) (H:Hp) (E:Value->Shared->Prop),Inv X pq O H s->(∀b∈fp,CV X pq H b)->tn i s.heap->Γ.stop i H ->
  wpAny (model P w) X.A (pyNext<|.ref it) (λr s1=>r=none/\Inv X pq O H s1) E s
 self:∀(A:Around) (i:Nat) (s:Shared) (Q:Value->Shared->Prop) (E:Value->Shared->Prop),tn i s.heap->Q (.ref it) s->wpAny (model P w) A (pyIter<|.ref it) Q E s
abbrev TI:=St->Hp->(It->Hp->Prop)->Prop
def fL(X:Cx)(pq:List<|Addr×Obj)(O:St)(tg:Expr)(R:It->Hp->Prop)(itv:Value)(s2:Shared):Prop:=
 ∃(it:Addr) (fp:List Addr) (tn:Nat->Heap->Prop) (Γ:It) (H':Hp),itv=.ref it/\Inv X pq O H' s2/\Turn X.prog X.w X.K tg Γ fp it tn/\tn 0 s2.heap/\(∀b∈fp,CV X pq H' b)/\R Γ H'
def PI(X:Cx)(tg iter:Expr)(wi:TI):Prop:=
 ∀(pq:List<|Addr×Obj) (s:Shared) (O:St) (H:Hp) (R:It->Hp->Prop),Inv X pq O H s->wi O H R ->
  wpAny (model X.prog X.w) X.A (eval iter X.env) (λv s1=>wpAny (model X.prog X.w) X.A (pyIter v) (fL X pq O tg R) X.xe s1) X.xe s
def M8(ho:s.heap.get? it=↑o)(hc:o.cls=.type n)(hd:o.data=.fields vs)
    (hn:["enumerate","zip","dict_itemiterator","dict_reverseitemiterator","odict_iterator","itertools.zip_longest","itertools.pairwise"].contains n=false) (hQ:Q () s):wpAny M A (letOwnedTupleGo tg (.ref it) u) Q E s:=by
  unfold letOwnedTupleGo
  cases tg<;>first
    |exact Å hQ
    |(cases u<;>first
        |exact Å hQ
        | (refine À<|wpAny_load ho ?_
           rw[hc,hd];show wpAny M A (if (["enumerate","zip","dict_itemiterator","dict_reverseitemiterator","odict_iterator","itertools.zip_longest","itertools.pairwise"].contains n && vs[0]? == ↑(rawInt _))=true then _ else _) Q E s
           rw[if_neg (by intro h;rw[hn,Ŵ]at h;cases h)]
           exact Å hQ))
def UZ(K:k6)(a:Addr):It:=
 {λi H=>∃xs x,AZ K H a xs/\xs[i]?=↑x,λi H x H'=>H'=H/\∀xs,AZ K H a xs->xs[i]?=↑x,λi H=>∃xs,AZ K H a xs/\xs.length<=i}
def UY(K:k6)(a:Addr):It:=
 {λi H=>∃xs x,Bt K H a xs/\xs[i]?=↑x,λi H x H'=>H'=H/\∀xs,Bt K H a xs->xs[i]?=↑x,λi H=>∃xs,Bt K H a xs/\xs.length<=i}
def Ng(lo:Int)(n:Nat):It:={λi _=>i<n,λi H x H'=>H'=H/\x=.int (lo+i),λi _=>n<=i}
def zet{K}(a it):Turn P w K tg (UZ K a) [it] it (λi h=>h.IsListIter it a i) where
 mem:=by simp
 obj:=λi h st b hb=>by
  have e :=by simpa using hb
  subst e;let(o,e,c,d):=st;exact{o,e,λv z=>by rw[d]at z;cases z}
 keep:=λi h h' st k=>st.at λo e=>k it (by simp) o e
 item:=by
  intro X hP hw hK hc i pq s O H E I hf st hg;subst hP hw hK;let(xs,x,hq,hx):=hg;let(its,rv,p,hz):=I.list hq;let(u,hu,ru):=rv.get hx;let(f0,f1,f2,f3,f4,f5):=hf it<|by simp
  refine wpAny_pyNext_list_item st p.isList (by simpa using hu) λh' st' sb=>?_
  have I1 :=I.turned (t':=s.toks) (λb o hb e=>(sb.2 b hb).trans e) f0 f1 f3 f4 f5
  let(o,e,c,d):=id st';exact{u,rfl,M8 e c d (by decide) {x,H,I1,ru,{rfl,λys hy=>by rw[I.list_inj hy hq];exact hx},st',λb hb=>(hf b hb).1}}
 done:=by
  intro X hP hw hK hc i pq s O H E I hf st hg;subst hP hw hK;let(xs,hq,hx):=hg;let(its,rv,p,hz):=I.list hq;let(f0,f1,f2,f3,f4,f5):=hf it<|by simp
  have hl:=rv.length;exact wpAny_pyNext_list_end (I.ok.hd hc) st p.isList (by simp;lia) λh' eb=>{rfl,I.turned (λb o hb e=>eb b o hb e) f0 f1 f3 f4 f5}
 self:=λ_ _ _ _ _ st h=>wpAny_pyIter_listiter st h
def zdu{K}(a it):Turn P w K tg (UY K a) [it] it (λi h=>h.IsTupleIter it a i) where
 mem:=by simp
 obj:=λi h st b hb=>by
  have e :=by simpa using hb
  subst e;let(o,e,c,d):=st;exact{o,e,λv z=>by rw[d]at z;cases z}
 keep:=λi h h' st k=>st.at λo e=>k it (by simp) o e
 item:=by
  intro X hP hw hK hc i pq s O H E I hf st hg;subst hP hw hK;let(xs,x,hq,hx):=hg;let(its,rv,p,hz):=I.tuple hq;let(u,hu,ru):=rv.get hx;let(f0,f1,f2,f3,f4,f5):=hf it<|by simp
  refine wpAny_pyNext_tuple_item st (p) (by simpa using hu) λh' st' sb=>?_
  have I1 :=I.turned (t':=s.toks) (λb o hb e=>(sb.2 b hb).trans e) f0 f1 f3 f4 f5
  let(o,e,c,d):=id st';exact{u,rfl,M8 e c d (by decide) {x,H,I1,ru,{rfl,λys hy=>by rw[I.tuple_inj hy hq];exact hx},st',λb hb=>(hf b hb).1}}
 done:=by
  intro X hP hw hK hc i pq s O H E I hf st hg;subst hP hw hK;let(xs,hq,hx):=hg;let(its,rv,p,hz):=I.tuple hq;let(f0,f1,f2,f3,f4,f5):=hf it<|by simp
  have hl:=rv.length;exact wpAny_pyNext_tuple_end (I.ok.hd hc) st (p) (by simp;lia) λh' eb=>{rfl,I.turned (λb o hb e=>eb b o hb e) f0 f1 f3 f4 f5}
 self:=λ_ _ _ _ _ st h=>wpAny_pyIter_tupleiter st h
def zdv{K}(it)(lo)(n):Turn P w K tg (Ng lo n) [it] it (λi h=>IsRangeIter h it (lo+i * 1) (n - i) 1) where
 mem:=by simp
 obj:=λi h st b hb=>by
  have e :=by simpa using hb
  subst e
  exact{_,st,λv z=>by
   have z' :=z;cases z'}
 keep:=λi h h' st k=>k it (by simp) _ st
 item:=by
  intro X hP hw hK hc i pq s O H E I hf st hg;subst hP hw hK;let(f0,f1,f2,f3,f4,f5):=hf it<|by simp
  have W:=Walks.range (prog:=X.prog) (w:=X.w) (I.ok.hd hc) it lo 1 n;refine W.item i s _ _ hg st λv h' tk hv st' kk=>?_
  let(t,rfl):=hv;have I1:Inv X pq O H { s with heap:=h',toks:=tk }:=I.turned (λb o hb e=>kk b o (by simpa using hb) e) f0 f1 f3 f4 f5
  refine{_,rfl,M8 st' rfl rfl (by decide) {.int<|lo+i,H,I1,{t,?_},{(rfl),rfl},st',λb hb=>(hf b hb).1}}
  rw[Int.mul_one]
 done:=by
  intro X hP hw hK hc i pq s O H E I hf st hg;subst hP hw hK;let(f0,f1,f2,f3,f4,f5):=hf it<|by simp
  exact wpAny_pyNext_range_end (I.ok.hd hc) st (by have:n<=i:=hg;lia) λh' eb=>{rfl,I.turned (λb o hb e=>eb b o hb e) f0 f1 f3 f4 f5}
 self:=λ_ _ _ _ _ st h=>wpAny_pyIter_rangeiter st h
section
variable {X:Cx}{tg:Expr}
def iList(K:k6)(tl:TE):TI:=λO H R=>tl O H λx H1=>∃a,x=.ref a/\(∃xs,AZ K H1 a xs)/\R (UZ K a) H1
def iTup(K:k6)(tl:TE):TI:=λO H R=>tl O H λx H1=>∃a,x=.ref a/\(∃xs,Bt K H1 a xs)/\R (UY K a) H1
def zkb(hl:PE X l tl):PI X tg l<|iList X.K tl:=by
 intro pq s O H R I h;refine AX (hl pq s O H _ I h) λv s1 zz=>?_
 let(x,H1,I1,r1,q1):=zz;let(a,e,(xs,hq),q):=q1;subst e;cases r1;let(its,rv,p,hz):=I1.list hq;refine ħ p.isList ?_;refine{s1.heap.objs.size,[s1.heap.objs.size],_,_,H1,rfl,I1.kept λb o e=>Ð _ e,zet a _,{_,â _ rfl,rfl,rfl},λb hb=>?_,q}
 have e:b=s1.heap.objs.size:=by grind
 subst e;exact I1.fpOk (Ç _)<|I1.hok.fresh<|Ç _
def znx(hl:PE X l tl):PI X tg l<|iTup X.K tl:=by
 intro pq s O H R I h;refine AX (hl pq s O H _ I h) λv s1 zz=>?_
 let(x,H1,I1,r1,q1):=zz;let(a,e,(xs,hq),q):=q1;subst e;cases r1;let(its,rv,p,hz):=I1.tuple hq;refine wpAny_pyIter_tuple (p) ?_;refine{s1.heap.objs.size,[s1.heap.objs.size],_,_,H1,rfl,I1.kept λb o e=>Ð _ e,zdu a _,{_,â _ rfl,rfl,rfl},λb hb=>?_,q}
 have e:b=s1.heap.objs.size:=by grind
 subst e;exact I1.fpOk (Ç _)<|I1.hok.fresh<|Ç _
def zh2{O:St}{H:Hp}    {lo hi:Int}   (I:Inv X pq O H s)(h1:-(2 ^ 62)<=lo)(h2:lo<2 ^ 62)(h3:-(2 ^ 62)<=hi)(h4:hi<2 ^ 62)
  (q:R (Ng lo (hi - lo).toNat) H):wpAny (model X.prog X.w) X.A (pyIter<|.ref s.heap.objs.size) (fL X pq O tg R) E { s with heap:=s.heap.push { cls:=.type "range",data:=.fields #[.int lo t,.int hi u,.int 1 v] },toks:=tk }:=by
 refine wpAny_pyIter_range (IsRange.new ..) (small_one h1 h2 h3 h4) ?_;have I1:Inv X pq O H { s with heap:=s.heap.push { cls:=.type "range",data:=.fields #[.int lo t,.int hi u,.int 1 v] },toks:=tk }:=I.kept λb o e=>Ð _ e
 refine{(s.heap.push { cls:=.type "range",data:=.fields #[.int lo t,.int hi u,.int 1 v] }).objs.size,[(s.heap.push { cls:=.type "range",data:=.fields #[.int lo t,.int hi u,.int 1 v] }).objs.size],_,_,H,rfl,
  I1.kept λb o e=>Ð _ e,zdv _ lo (hi - lo).toNat,?_,λb hb=>?_,q}
 .have e1:lo+(0:Nat) * 1=lo:=by simp
  have e2:(hi - lo).toNat - (0:Nat)=Builtin.Range.rangeSize lo hi 1:=by rw[rangeSize_one];grind
  rw[e1,e2];exact â _ rfl
 .have e:b=(s.heap.push { cls:=.type "range",data:=.fields #[.int lo t,.int hi u,.int 1 v] }).objs.size:=by grind
  subst e;exact I1.fpOk (Ç _)<|I1.hok.fresh<|Ç _
def iRng1(ta:TA):TI:=λO H R=>ta O H λvs H1=>∃j:Int,vs=[.int j]/\-(2 ^ 62)<=j/\j<2 ^ 62/\R (Ng 0 j.toNat) H1
def zex(hg:Gl X "range")(hm:X.mg "range"=none)(ha:PA X [a] ta)(hs:starEach [a] X.env=[(false,eval a X.env)]):PI X tg (.Call (.Name "range" p) [a] [] pos)<|iRng1 ta:=by
 intro pq s O H R I h;refine Call_<|Fo I hg hm boot_range<|Ĕ (AX (ha pos pq s O H _ I h) λus s1 zz=>?_) hs rfl
 let(vs,H1,I1,r1,q1):=zz;let(j,e,q1,q2,q):=q1;subst e;cases r1 with
 |cons r rr=>cases rr;let(t,rfl):=r;exact call_range_1<|zh2 I1 (by lia) (by lia) q1 q2<|by simpa using q
def tFor(wi:TI)(g:TG)(tb:TS):TS:=λD O H=>wi O H λΓ H1=>∃W:Nat->Nat->St->Hp->Prop,(∃m,W 0 m O H1)/\∀i m O H,W i m O H ->
 (Γ.stop i H/\D.nx O H)\/(Γ.go i H/\∃N:St->Hp->Prop,(∀O' H',N O' H'->∃m',m'<m/\W (i+1) m' O' H')/\∀x H',Γ.yld i H x H'->g x O H' λO2 H2=>tb { D with nx:=N,ct:=N,bk:=D.nx } O2 H2)
def HU(fp:List Addr)(h:Heap):List<|Addr×Obj:=fp.filterMap λb=>(h.get? b).map λo=>(b,o)
def HZ(hb:b∈fp)(e:h.get? b=↑o):(b,o)∈HU fp h:=Ĳ.mpr {b,hb,by rw[e];rfl}
def XF(hp:p∈HU fp h):p.1∈fp/\h.get? p.1=↑p.2:=by
 let(b,hb,e):=Ĳ.mp hp;cases q:h.get? b with
 |none=>grind|some o=>grind
theorem Inv.pinned{O:St}(I:Inv X pq O H s)(hf:∀b∈fp,CV X pq H b)(ho:∀b∈fp,∃o,s.heap.get? b=↑o/\∀v,o.data≠.cell v):Inv X (pq++HU fp s.heap) O H s:=
 I.pins_of λp hp=>(ä.mp hp).elim (λz=>I.pin p<|ß _ z) λz=>by
  let(hb,e):=XF z;let(f0,f1,f2,_):=hf p.1 hb
  grind
theorem Inv.unpinned{O:St}(I:Inv X (pq++pl) O H s):Inv X pq O H s:=I.pins_of λp hp=>I.pin p<|ß _<|ö _ hp
def znt(hp:PassesOwn (model X.prog X.w) X.A X.env X.xe)(hc:X.calm=true)(hi:PI X tg iter wi)(hg:PG X tg g)(hb:B5 X body tb)
  (hs:∀x,foldedSetIterable iter X.env x=pure x:=by intro _;rfl):PS X (.For tg iter body [] pos)<|tFor wi g tb:=by
 intro pq s O H D I h;refine wpAny_For (AX (hi pq s O H _ I h) λv s1 h1=>AX h1 λitv s2 h2=>?_) hs
 let(it,fp,tn,Γ,H2,e,I2,T,st2,f2,W,(m0,w0),turn):=h2;subst e;have stat:∀{H' },(∀b∈fp,H' b=none)->∀b∈fp,CV X pq H' b:=λhn b hb=>{hn b hb,(f2 b hb).2}
 refine codeAny_forLoop_any (λn s'=>∃i O' H',Inv X pq O' H' s'/\tn i s'.heap/\(∀b∈fp,H' b=none)/\W i n O' H') ?_ m0 {0,O,H2,I2,st2,λb hb=>(f2 b hb).1,w0}
 rintro n s3 ⟨i,σ3,H3,I3,st3,fr3,w3⟩
 rcases turn i n σ3 H3 w3 with ⟨stop,qn⟩|⟨go,N,hN,step⟩
 .refine Ę hp<|AX (T.done X rfl rfl rfl hc i pq s3 σ3 H3 X.xe I3 (stat fr3) st3 stop) λr s4 zz=>?_
  let(hr,I4):=zz;subst hr;exact ŗ {(σ3),H3,I4,qn}
 .refine Ę hp<|AX (T.item X rfl rfl rfl hc i pq s3 σ3 H3 X.xe I3 (stat fr3) st3 go) λr s4 zz=>?_
  let(u,hr,h4):=zz;subst hr;refine Ę hp<|AX h4 λ_ s5 zz=>?_
  let(x,H5,I5,r5,y5,st5,fr5):=zz;have I5':=I5.pinned (stat fr5)<|T.obj _ _ st5;refine Ę hp<|AX (hg _ s5 σ3 H5 x u _ I5' r5<|step x H5 y5) λ_ s6 zz=>?_
  let(σ6,H6,I6,q6):=zz;refine Ę hp<|AX (hb _ s6 σ6 H6 _ I6 q6) λf s7 q7=>?_
  have again:∀{σ7 } {H7 },Inv X (pq++HU fp s5.heap) σ7 H7 s7->N σ7 H7->∃m,m<n/\∃i O' H',Inv X pq O' H' s7/\tn i s7.heap/\(∀b∈fp,H' b=none)/\W i m O' H':=λ{σ7 H7} I7 n7=>by
   let(m',hm,w7):=hN σ7 H7 n7;refine{m',hm,i+1,σ7,H7,I7.unpinned,T.keep _ _ _ st5 λb hb o e=>(I7.pin (b,o)<|ß _<|ß _<|HZ hb e).1,λb hb=>?_,w7}
   let(o,e,d):=T.obj _ _ st5 b hb;exact(I7.pin (b,o)<|ß _<|ß _<|HZ hb e).2.1
  cases f with
  |next=>let(σ7,H7,I7,n7):=q7;exact again I7 n7
  |cont=>let(σ7,H7,I7,n7):=q7;exact again I7 n7
  |brk=>let(σ7,H7,I7,q7):=q7;exact{(σ7),H7,I7.unpinned,q7}
  |ret v=>let(x7,σ7,H7,I7,r7,q7):=q7;exact{(x7),σ7,H7,I7.unpinned,r7,q7}
end
abbrev R2:=V->V->Hp->VK->Prop
def Ae(X:Cx)(f:Value->Value->Sem Value)(r:R2):Prop:=
 ∀(pq:List<|Addr×Obj) (s:Shared) (O:St) (H:Hp) (x y:V) (v u:Value) (Q:VK),Inv X pq O H s->A7 x v->A7 y u->r x y H Q ->
  wpAny (model X.prog X.w) X.A (f v u) (EP X pq O Q) X.xe s
def Kh(X:Cx)(f:Value->Sem Value)(r:V->Hp->VK->Prop):Prop:=
 ∀(pq:List<|Addr×Obj) (s:Shared) (O:St) (H:Hp) (x:V) (v:Value) (Q:VK),Inv X pq O H s->A7 x v->r x H Q ->
  wpAny (model X.prog X.w) X.A (f v) (EP X pq O Q) X.xe s
def Bp(X:Cx)(f:Value)(r:kK->Hp->VK->Prop):Prop:=
 ∀(pq:List<|Addr×Obj) (s:Shared) (O:St) (H:Hp) (xs:kK) (us:k9) (Q:VK),Inv X pq O H s->Ac xs us->r xs H Q ->
  wpAny (model X.prog X.w) X.A (call f us) (EP X pq O Q) X.xe s
def ID(r:R2)(ta tb:TE):TE:=λO H Q=>ta O H λx H1=>tb O H1 λy H2=>r x y H2 Q
def VL(r:V->Hp->VK->Prop)(ta:TE):TE:=λO H Q=>ta O H λx H1=>r x H1 Q
def rI(C:Int->Int->Prop)(g:Int->Int->V):R2:=λx y H Q=>∃i j,x=.int i/\y=.int j/\C i j/\Q (g i j) H
def Eo(g:Int->Int->V):R2:=λx y H Q=>∃i j,x=.int i/\y=.int j/\Q (g i j) H
def rU(g:Int->V):V->Hp->VK->Prop:=λx H Q=>∃i,x=.int i/\Q (g i) H
section
variable {X:Cx}{a b c:Expr}{ta tb tc:TE}{pos:Pos}
def UE(ha:PE X a ta)(hb:PE X b tb){O:St}{R:V->V->Hp->Prop}(I:Inv X pq O H s)
  (h:ta O H λx H1=>tb O H1 λy H2=>R x y H2)  {f:Value->Value->Sem Value}
  (hf:∀v u s2 x y H2,Inv X pq O H2 s2->A7 x v->A7 y u->R x y H2->wpAny (model X.prog X.w) X.A (f v u) Q X.xe s2) :
  wpAny (model X.prog X.w) X.A (eval a X.env) (λv s₁=>wpAny (model X.prog X.w) X.A (eval b X.env) (λu s₂=>wpAny (model X.prog X.w) X.A (f v u) Q X.xe s₂) X.xe s₁) X.xe s:=by
 refine AX (ha pq s O H _ I h) λv s1 zz=>?_
 let(x,H1,I1,r1,q1):=zz;refine AX (hb pq s1 O H1 _ I1 q1) λu s2 zz=>?_
 let(y,H2,I2,r2,q2):=zz;grind
def pe_op(ho:Ae X (binaryOp op) r)(ha:PE X a ta)(hb:PE X b tb):PE X (.BinOp a op b pos)<|ID r ta tb:=by
 intro pq s O H Q I h;exact wpAny_BinOp<|UE ha hb I h λv u s2 x y H2 I2 rx ry q=>ho pq s2 O H2 x y v u Q I2 rx ry q
def pe_un(ho:Kh X (unaryOp op) r)(ha:PE X a ta):PE X (.UnaryOp op a pos)<|VL r ta:=by
 intro pq s O H Q I h;exact UnaryOp_<|AX (ha pq s O H _ I h) λv s1 ⟨x,H1,I1,r1,q1⟩=>ho pq s1 O H1 x v Q I1 r1 q1
def Jk{g:Int->Int->Int}
  (rule:∀(i j ) (t u ) (s ) (Q ) (E ),C i j->Q (.int (g i j) s.toks) { s with toks:=s.toks+1 }->wpAny (model X.prog X.w) X.A (f (.int i t)<|.int j u) Q E s) :
  Ae X f (rI C λi j=>.int<|g i j):=by
 intro pq s O H x y v u Q I rx ry h;let(i,j,rfl,rfl,hc,q):=h;let(t,rfl):=rx;let(t',rfl):=ry;exact rule i j t t' s _ _ hc {.int<|g i j,H,I.tok _,{_,rfl},q}
def ME{g:Int->Int->Int}
  (rule:∀(i j ) (t u ) (s ) (Q ) (E ),Q (.int (g i j) s.toks) { s with toks:=s.toks+1 }->wpAny (model X.prog X.w) X.A (f (.int i t)<|.int j u) Q E s) :
  Ae X f (Eo λi j=>.int<|g i j):=by
 intro pq s O H x y v u Q I rx ry h;let(i,j,rfl,rfl,q):=h;let(t,rfl):=rx;let(t',rfl):=ry;exact rule i j t t' s _ _ {.int<|g i j,H,I.tok _,{_,rfl},q}
def MF{g:Int->Int->Bool}
  (rule:∀(i j ) (t u ) (s ) (Q ) (E ),Q (.bool<|g i j) s->wpAny (model X.prog X.w) X.A (f (.int i t)<|.int j u) Q E s) :
  Ae X f (Eo λi j=>.bl<|g i j):=by
 intro pq s O H x y v u Q I rx ry h;let(i,j,rfl,rfl,q):=h;let(t,rfl):=rx;let(t',rfl):=ry;exact rule i j t t' s _ _ {.bl<|g i j,H,I,rfl,q}
def CPow(i j:Int):Prop:=0<=j/\j<=1000000/\i.natAbs<2 ^ 64
def U4(i j:Int):Prop:=(-(2 ^ 64)<i/\i<2 ^ 64)\/(-(2 ^ 64)<j/\j<2 ^ 64)
def U4.ok(h:U4 i j):IntMulOk i j:=by
 rcases h with ⟨h1,h2⟩|⟨h1,h2⟩
 .exact .of_left<|intBits_le_64 h1 h2
 .exact .of_right<|intBits_le_64 h1 h2
theorem zoi:Ae X (binaryOp .Add)<|Eo λi j=>.int<|i+j:=ME λ_ _ _ _ _ _ _ q=>add_int q
theorem zob:Ae X (binaryOp .Sub)<|Eo λi j=>.int<|i - j:=ME λ_ _ _ _ _ _ _ q=>sub_int q
theorem Wy:Ae X (binaryOp .Mult)<|rI U4 λi j=>.int<|i * j:=Jk λ_ _ _ _ _ _ _ hc q=>mul_int q hc.ok
theorem zkm:Ae X (binaryOp .Mod)<|rI (λ_ j=>j≠0) λi j=>.int<|i.fmod j:=Jk λ_ _ _ _ _ _ _ hc q=>mod_int' hc q
theorem zod:Ae X (binaryOp .Pow)<|rI CPow λi j=>.int<|i ^ j.toNat:=Jk λ_ _ _ _ _ _ _ hc q=>pow_int_small hc.1 hc.2.1 hc.2.2 q
theorem zoh:Ae X (binaryOp .BitAnd)<|Eo λi j=>.int<|Builtin.bitAnd i j:=ME λ_ _ _ _ _ _ _ q=>and_int q
theorem op_or:Ae X (binaryOp .BitOr)<|Eo λi j=>.int<|Builtin.bitOr i j:=ME λ_ _ _ _ _ _ _ q=>or_int q
def unI{g:Int->Int}
  (rule:∀(i ) (t ) (s ) (Q ) (E ),Q (.int (g i) s.toks) { s with toks:=s.toks+1 }->wpAny (model X.prog X.w) X.A (f<|.int i t) Q E s) :
  Kh X f (rU λi=>.int<|g i):=by
 intro pq s O H x v Q I rx h;let(i,rfl,q):=h;let(t,rfl):=rx;exact rule i t s _ _ {.int<|g i,H,I.tok _,{_,rfl},q}
theorem zmf:Kh X (unaryOp .USub)<|rU λi=>.int<|-i:=unI λ_ _ _ _ _ q=>neg_int q
def K1{O:St}(I:Inv X pq O H s)(q:Q (.bl k) H)(e:k=k'):EP X pq O Q (.bool k') s:=by
 subst e;exact{.bl k,H,I,rfl,q}
theorem op_lt:Ae X (compareOp .Lt)<|Eo λi j=>.bl<|decide (i<j):=MF λ_ _ _ _ _ _ _ q=>lt_int q
theorem Wz:Ae X (compareOp .LtE)<|Eo λi j=>.bl<|decide (i<=j):=MF λ_ _ _ _ _ _ _ q=>le_int q
theorem op_gt:Ae X (compareOp .Gt)<|Eo λi j=>.bl<|decide (j<i):=MF λ_ _ _ _ _ _ _ q=>gt_int q
theorem op_ge:Ae X (compareOp .GtE)<|Eo λi j=>.bl<|decide (j<=i):=MF λ_ _ _ _ _ _ _ q=>ge_int q
def zey:Ae X (compareOp .In) (λx y H Q=>∃i j,x=.str i/\y=.str j/\Q (.bl<|!(Builtin.Str.occurrences j i 0 j.length 1).isEmpty) H):=by
 intro pq s O H x y v u Q I rx ry h;let(i,j,rfl,rfl,q):=h;let(t,rfl):=rx;let(t',rfl):=ry;exact in_str<|K1 I q rfl
def zoe:Ae X (compareOp .Is)<|λx y H Q=>y=.non/\Q (.bl<|decide (x=.non)) H:=by
 intro pq s O H x y v u Q I rx ry h;let(rfl,q):=h;cases ry;refine is_none_gen<|K1 I q ?_
 cases x<;>first
  |rfl
  |(let(t,rfl):=rx;rfl)
def zkj:Ae X (compareOp .IsNot)<|λx y H Q=>y=.non/\Q (.bl<|!decide (x=.non)) H:=by
 intro pq s O H x y v u Q I rx ry h;let(rfl,q):=h;cases ry;refine isnot_none_gen<|K1 I q ?_
 cases x<;>first
  |rfl
  |(let(t,rfl):=rx;rfl)
def zkg(ho:Ae X (compareOp op) r)(ha:PE X a ta)(hb:PE X b tb)(hm:behindInMarks op b=false):PE X (.Compare a [op] [b] pos)<|ID r ta tb:=by
 intro pq s O H Q I h;exact wpAny_Compare1 (UE ha hb I h λv u s2 x y H2 I2 rx ry q=>ho pq s2 O H2 x y v u Q I2 rx ry q) hm
def VM(t:TE):TT:=λO H Q=>t O H λx H'=>∃k,x=.bl k/\Q k H'
def zk5(ho:Ae X (compareOp op) r)(ha:PE X a ta)(hb:PE X b tb)(hm:behindInMarks op b=false):PT X (.Compare a [op] [b] pos)<|VM<|ID r ta tb:=by
 intro pq s O H Q I h
 refine wpAny_isTrue_Compare1 (AX (ha pq s O H _ I h) λv s1 ⟨x,H1,I1,r1,q1⟩=>AX (hb pq s1 O H1 _ I1 q1) λu s2 ⟨y,H2,I2,r2,q2⟩=>
  AX (ho pq s2 O H2 x y v u _ I2 r1 r2 q2) λc s3 ⟨z,H3,I3,r3,k,e,q3⟩=>?_) hm
 subst e;cases r3;exact Ą {(H3),I3,q3}
def OV(r r':R2)(ta tb tc:TE):TE:=λO H Q=>ta O H λx H1=>tb O H1 λy H2=>r x y H2 λz H3=>∃k,z=.bl k /\
 (if k=true then tc O H3 λw' H4=>r' y w' H4 Q else Q (.bl false) H3)
def zhe(ho:Ae X (compareOp op) r)(ho':Ae X (compareOp op') r')(ha:PE X a ta)(hb:PE X b tb)(hc:PE X c tc)
  (hm:lastMarks [op,op'] [b,c]=false):PE X (.Compare a [op,op'] [b,c] pos)<|OV r r' ta tb tc:=by
 intro pq s O H Q I h
 refine Compare_chain (AX (ha pq s O H _ I h) λv s1 ⟨x,H1,I1,r1,q1⟩=>chain_link (AX (hb pq s1 O H1 _ I1 q1) λu s2 ⟨y,H2,I2,r2,q2⟩=>
  AX (ho pq s2 O H2 x y v u _ I2 r1 r2 q2) λd s3 ⟨z,H3,I3,r3,k,e,q3⟩=>?_)) hm
 subst e;cases r3;refine Ą ?_;cases k with
 |false=>exact ite_ff {.bl false,H3,I3,rfl,q3}|true=>exact ite_tt<|chain_last<|AX (hc pq s3 O H3 _ I3 q3) λw' s4 ⟨z',H4,I4,r4,q4⟩=>ho' pq s4 O H4 y z' u w' Q I4 r2 r4 q4
def zh6(ho:Ae X (compareOp op) r)(ho':Ae X (compareOp op') r')(ha:PE X a ta)(hb:PE X b tb)(hc:PE X c tc)
  (hm:lastMarks [op,op'] [b,c]=false):PT X (.Compare a [op,op'] [b,c] pos)<|VM<|OV r r' ta tb tc:=by
 intro pq s O H Q I h
 refine isTrue_chain (AX (ha pq s O H _ I h) λv s1 ⟨x,H1,I1,r1,q1⟩=>test_link (AX (hb pq s1 O H1 _ I1 q1) λu s2 ⟨y,H2,I2,r2,q2⟩=>
  AX (ho pq s2 O H2 x y v u _ I2 r1 r2 q2) λd s3 ⟨z,H3,I3,r3,k,e,q3⟩=>?_)) hm
 subst e;cases r3;refine Ą ?_;cases k with
 |false=>let(k',e',q'):=q3;cases e';exact ite_ff {(H3),I3,q'}
 |true=>
  refine ite_tt<|test_last<|AX (hc pq s3 O H3 _ I3 q3) λw' s4 ⟨z',H4,I4,r4,q4⟩=>AX (ho' pq s4 O H4 y z' u w' _ I4 r2 r4 q4) λd' s5 zz=>?_
  let(z2,H5,I5,r5,k2,e2,q5):=zz;subst e2;cases r5;exact Ą {(H5),I5,q5}
def KA:(sizeLine:Nat)<2 ^ 63:=by rw[đ];decide
def ze0:Ae X (binaryOp .Add) (λx y H Q=>∃i j,x=.str i/\y=.str j/\i.length+j.length<=sizeLine/\Q (.str<|i++j) H):=by
 intro pq s O H x y v u Q I rx ry h;let(i,j,rfl,rfl,hz,q):=h;let(t,rfl):=rx;let(t',rfl):=ry;exact add_str (λt' tk=>{.str<|i++j,H,I.tok _,{_,rfl},q}) hz
def Ei(r:Ac [x] us):∃u,us=[u]/\A7 x u:=by
 cases r with
 |cons r1 r2=>cases r2;grind
def G6(r:Ac [x,y] us):∃u w',us=[u,w']/\A7 x u/\A7 y w':=by
 cases r with
 |cons r1 r2=>
  cases r2 with
  |cons r3 r4=>cases r4;grind
def ziu:Bp X (.builtin "abs") (λxs H Q=>∃i,xs=[.int i]/\Q (.int (if i<0 then -i else i)) H):=by
 intro pq s O H xs us Q I r h;let(i,rfl,q):=h;let(u,rfl,t,rfl):=Ei r;exact call_abs_int λu tk=>{.int (if i<0 then -i else i),H,I.tok _,{_,rfl},q}
def zg8(hc:X.calm=true):Bp X (.builtin "max") (λxs H Q=>∃i j,xs=[.int i,.int j]/\Q (.int (if j > i then j else i)) H):=by
 intro pq s O H xs us Q I r h;let(i,j,rfl,q):=h;let(u,w',rfl,(t,rfl),(t',rfl)):=G6 r;refine max_two_ints (I.ok.hd hc) λh' tk k=>{_,H,I.kept k,?_,q}
 by_cases hj:j > i
 .rw[if_pos hj,if_pos hj];exact{_,rfl}
 .rw[if_neg hj,if_neg hj];exact{_,rfl}
def zg7(hc:X.calm=true):Bp X (.builtin "min") (λxs H Q=>∃i j,xs=[.int i,.int j]/\Q (.int (if j<i then j else i)) H):=by
 intro pq s O H xs us Q I r h;let(i,j,rfl,q):=h;let(u,w',rfl,(t,rfl),(t',rfl)):=G6 r;refine min_two_ints (I.ok.hd hc) λh' tk k=>{_,H,I.kept k,?_,q}
 by_cases hj:j<i
 .rw[if_pos hj,if_pos hj];exact{_,rfl}
 .rw[if_neg hj,if_neg hj];exact{_,rfl}
def eB:Bp X (.type "int") (λxs H Q=>(∃i,xs=[.int i]/\Q (.int i) H)\/∃k,xs=[.bl k]/\Q (.int (if k then 1 else 0)) H):=by
 intro pq s O H xs us Q I r h
 rcases h with ⟨i,rfl,q⟩|⟨k,rfl,q⟩
 .let(u,rfl,t,rfl):=Ei r;exact call_int_int {.int i,H,I,{_,rfl},q}
 .let(u,rfl,r1):=Ei r;cases r1;exact call_int_bool {.int (if k then 1 else 0),H,I.tok _,{_,rfl},q}
def LenV(K:k6)(x:V)(H:Hp)(n:Nat):Prop:=
 match x with
 |.str y=>y.length<=sizeLine/\n=y.length|.byt y=>y.size<=sizeLine/\n=y.size|.ref p=>(∃xs,AZ K H p xs/\n=xs.length)\/∃xs,Bt K H p xs/\n=xs.length|_=>False
def eA:Bp X (.builtin "len") (λxs H Q=>∃x n,xs=[x]/\LenV X.K x H n/\Q (.int n) H):=by
 intro pq s O H xs us Q I r h;let(x,n,rfl,e,q):=h;let(u,rfl,rx):=Ei r;have hl:=KA;have hs :=đ;cases x with
 |str y=>let(t,rfl):=rx;let(hy,e'):y.length<=sizeLine/\n=y.length:=e;subst e';exact len_str (by lia) {.int _,H,I.tok _,{_,rfl},q}
 |byt y=>let(t,rfl):=rx;let(hy,e'):y.size<=sizeLine/\n=y.size:=e;subst e';exact W.len_bytes (by lia) {.int _,H,I.tok _,{_,rfl},q}
 |ref p=>
  cases rx;have e' :=e
  rcases e' with ⟨xs,hx,e'⟩|⟨xs,hx,e'⟩
  .subst e';let(its,r',pl,hz):=I.list hx;have hlen:=r'.length;exact Calls.call_len_list pl.isList (by erw[ø];lia) {.int xs.length,H,I.tok _,{_,by erw[ø];rw[hlen]},q}
  .subst e';let(its,r',pl,hz):=I.tuple hx;have hlen:=r'.length;exact len_tuple pl (by grind) {.int xs.length,H,I.tok _,{_,by erw[ø];rw[hlen]},q}
 |_=>exact(e).elim
end
structure ObjM(h:Heap)(x dx C:Addr)(mA:Str->Option Value):Prop where
 obj:h.get? x=↑(W.instObj C dx)
 ns:h.Ns1 dx mA
 ne:dx≠x
def zf8{h:Heap}(n:h.Ns1 dx mA):∃od,h.get? dx=↑od/\∀name,W.lookIn name od=↑(mA name):=by
 let(o,es,ep,ho,hd,hk,_,hm):=n;refine{o,ho,λname=>?_}
 have e:=hm name;unfold nsFind findBy at e;rw[<- Array.find?_toList]at e;unfold W.lookIn;rw[hd];dsimp only;split
 .grind
 .have a:es.toList.any (·.refKey)=false:=by
   rw[List.any_eq_false];intro y hy;let(z,t,hkey):=hk y<|Array.mem_toList_iff.mp hy;simp[DictEntry.refKey,hkey]
  grind
def ObjM.look(I:ObjM h x dx C mA):∃od,PySem.W.InstAt h x (W.instObj C dx) C ↑od/\∀name,W.lookIn name od=↑(mA name):=
 let ⟨od,ho,hl⟩:=zf8 I.ns
 {od,{(I.obj),rfl,rfl,ho},hl}
section
variable {prog:Program}{w:World}{A:Around}{E:Value->Shared->Prop}{s:Shared}{K:k6}{x dx C f:Addr}{mA:Str->Option Value}{name:Str}{v:Value}
def zln(X:K.In s.heap)(I:ObjM s.heap x dx C mA)(hg:W.plainGet K C name=true)(hh:W.hasDictIn K C=true)
  (ha:W.findIn K (.ref C) name=↑none) (hv:mA name=↑v) (hv':W.handedIn v=true) (h:Q v { s with toks:=s.toks+1 }) :
  wpAny (model prog w) A (getAttr (.ref x) name expr) Q E s:=by
 let(od,Γ,hl):=I.look;exact W.get_value X Γ (ű hg).1 (W.findObj_own hh ha rfl<|by rw[hl,hv]) hv' h
def zib(X:K.In s.heap)(I:ObjM s.heap x dx C mA)(hg:W.plainGet K C name=true)
  (hf:W.findIn K (.ref C) name=↑(↑(.ref f))) (ht:W.isFn K (.ref f)=true) (hv:mA name=none) (h:Q (.ref f,[.ref x]) s) :
  wpAny (model prog w) A (getMethod (.ref x) name pl) Q E s:=by
 let(od,Γ,hl):=I.look;exact W.method_fn X Γ (ű hg).1 (ű hg).2 hf (beq_iff_eq.mp ht) (by show(W.lookIn name od).map (·.isSome)=↑false;grind) h
def zjh(X:K.In s.heap)(I:ObjM s.heap x dx C mA)
  (hs:W.findIn K (.ref C) "__setattr__"=↑(↑(.builtin "object.__setattr__"))) (hp:W.plainOver K C=true) (ht:W.takerIn K C name=↑none) (hh:W.hasDictIn K C=true)
  (hw:PySem.Within mA ns) (hsz:ns.length<=sizeLine)
  (h:∀h',ObjM h' x dx C (λy=>if y=name then ↑v else mA y)->Heap.SameBut dx s.heap h'->Q () { s with heap:=h',toks:=s.toks+2 }) :
  wpAny (model prog w) A (setAttr (.ref x) name v) Q E s:=by
 let(od,Γ,hl):=I.look;refine W.set_plain X Γ hs<|W.osa_open X Γ hp ht λb=>?_
 let(cd,hc,hd'):=W.any_some hh;have hx :=I.obj;refine À<|Å<|À<|À<|wpAny_loadPart hx<|À<|PySem.W.Looks.here (W.looks_clsIn X hc) ?_;rw[hd'];refine Å<|À<|Å<|À ?_;refine wpAny_nsSet1 I.ns λh' hn2 hs2=>?_
 let(oD,esD,epD,hoD,hdD,hcD):=hn2.count<|PySem.Within.cons name v hw;refine À<|wpAny_lookBehind hoD (by rw[hdD];exact pastItsLine_dict<|Ü hcD<|by grind) ?_
 exact Å<|h _ {(hs2.2 _<|Î I.ne).trans I.obj,hn2,I.ne} hs2
def zhn(X:K.In s.heap)(hm:W.makesIn K C=true)
  (hi:W.findIn K (.ref C) "__init__"=↑(↑(.ref f))) (hf:W.typeIn K (.ref f)=↑(.type "function"))
  (h : codeAny (model prog w) (A.under<|.builtin "type.__call__" {.ref C :: vs, kw}) (.call (.ref f) {.ref (s.heap.objs.size + 1) :: vs, kw}) (PySem.W.InitBack (s.heap.objs.size + 1) R)
   { s with heap:=(s.heap.push W.emptyDict).push (W.instObj C s.heap.objs.size) }) :
  codeAny (model prog w) A (.call (.ref C) {(vs),kw}) R s:=by
 exact W.make_core (W.makes_of X hm) (W.looks_findIn X hi) (λself=>W.bind_fn X self hf) (.inl rfl) h
end
def DX(f:Str)(v:V):List (Str×V)->List (Str×V)
 |[]=>[(f,v)]|(g,x)::r=>if g=f then (g,v)::r else (g,x)::DX f v r
theorem ZN(f g)(v):∀fs ,(DX f v fs).lookup g=if g=f then ↑v else fs.lookup g
 |[]=>by
  show List.lookup g [(f,v)]=_
  grind
 |(k,x)::r=>by
  have ih:=ZN f g v r;rw[show DX f v ((k,x)::r)=(if k=f then (k,v)::r else (k,x)::DX f v r) from rfl]
  grind
def SM(f)(v):∀fs ,f∈(DX f v fs).map (·.1)/\∀g,g∈fs.map (·.1)->g∈(DX f v fs).map (·.1)
 |[]=>{by simp[DX],λg h=>by simp at h}|(k,x)::r=>by
  let(i1,i2):=SM f v r;rw[show DX f v ((k,x)::r)=(if k=f then (k,v)::r else (k,x)::DX f v r) from rfl]
  grind
def ZW(f)(v):∀fs ,(DX f v fs).length<=fs.length+1
 |[]=>by simp[DX]|(k,x)::r=>by
  have ih:=ZW f v r;rw[show DX f v ((k,x)::r)=(if k=f then (k,v)::r else (k,x)::DX f v r) from rfl]
  grind
def EK.some_of(r:EK ↑v o):∃u,o=↑u/\A7 v u:=by
 cases o with
 |none=>exact(r).elim|some u=>exact{(u),rfl,r}
def EK.none_of(r:EK none o):o=none:=by
 cases o with
 |none=>rfl|some u=>exact(r).elim
def zfg(r:A7 v u):W.handedIn u=true:=by
 cases v with
 |non=>cases (r);rfl|bl b=>cases (r);rfl|int i=>let(t,e):=(r);cases e;rfl
 |str x=>let(t,e):=(r);cases e;rfl
 |byt b=>let(t,e):=(r);cases e;rfl
 |flt b=>let(t,e):=(r);cases e;rfl
 |ref a=>cases (r);rfl|ty n=>cases (r);rfl
section
variable {P:Program}{w:World}{H H':Hp}{h h':Heap}{a C dx:Addr}{fs fs':List<|Str×V}
def M5(hok:HOk P w H h)(e:H a=↑(.ins C dx fs)):∃mA,ObjM h a dx C mA/\(∀f,EK (fs.lookup f)<|mA f)/\PySem.Within mA (fs.map (·.1))/\fs.length<=1000/\H dx=↑(.own a):=by
 let(d,z,ne,ob,mA,n,r,q):=(hok a _ e);exact{mA,{(ob),n,ne},r,q,z,d}
end
structure Cls(K:k6)(C:Addr):Prop where
 pg:W.plainGet K C Str.empty=true
 hd:W.hasDictIn K C=true
 po:W.plainOver K C=true
 sa:W.findIn K (.ref C) "__setattr__"=↑(↑(.builtin "object.__setattr__"))
def Cls.get{K}(c:Cls K C)(f):W.plainGet K C f=true:=c.pg
def C4(K:k6)(C:Addr)(f:Str):Prop:=W.findIn K (.ref C) f=↑none
def C4.taker{K}(n:C4 K C f):W.takerIn K C f=↑none:=by
 unfold W.takerIn;rw[n]
 rfl
structure Meth(K:k6)(C:Addr)(m:Str)(f:Addr):Prop where
 at_:W.findIn K (.ref C) m=↑(↑(.ref f))
 fn:W.isFn K (.ref f)=true
 kp:W.keepIn K (.ref f)=true
section
variable {X:Cx}{pq:List<|Addr×Obj}{O:St}{H:Hp}{s:Shared}{a C dx:Addr}{fs:List<|Str×V}{f:Str}{v:V}{A:Around}{E:Value->Shared->Prop}
def zed(I:Inv X pq O H s)(e:H a=↑(.ins C dx fs))(c:Cls X.K C)(n:C4 X.K C f)(l:fs.lookup f=↑v)
  (h:∀u s',Inv X pq O H s'->A7 v u->Q u s'):wpAny (model X.prog X.w) A (getAttr (.ref a) f b) Q E s:=by
 let(mA,σ,r,_,_,_):=M5 I.hok e;let(u,hu,ru):=EK.some_of (v:=v) (o:=mA f)<|by grind
 exact zln I.kIn σ (c.get f) c.hd n hu (zfg ru)<|h u _ (I.tok _) ru
def aC(I:Inv X pq O H s)(e:H a=↑(.ins C dx fs))(c:Cls X.K C)(k:Meth X.K C m g)(l:fs.lookup m=none)
  (h:Q (.ref g,[.ref a]) s):wpAny (model X.prog X.w) A (getMethod (.ref a) m pl) Q E s:=by
 let(mA,σ,r,_,_,_):=M5 I.hok e;have hn:mA m=none:=EK.none_of<|by grind
 exact zib I.kIn σ (c.get m) k.at_ k.fn hn h
def zdx(I:Inv X pq O H s)(e:H a=↑(.ins C dx fs))(c:Cls X.K C)(n:C4 X.K C f)(hl:fs.length<1000)(ry:A7 y u)
  (h:∀s',Inv X pq O (upd H a<|.ins C dx<|DX f y fs) s'->Q () s'):wpAny (model X.prog X.w) A (setAttr (.ref a) f u) Q E s:=by
 let(mA,σ,r,wi,_,ho):=M5 I.hok e;have hz:(fs.map (·.1)).length<=sizeLine:=by rw[Á,đ];lia
 refine zjh I.kIn σ c.sa c.po n.taker c.hd wi hz λh' σ' sb=>h _ ?_
 have hd:∃o,h'.get? dx=↑o:=let ⟨o,_,_,e',_⟩:=σ'.ns;{(o),e'};refine I.write (by rw[e];exact True.intro) (.inr ho) (λb q hb z=>(sb.2 b hb).trans z) hd ?_
 refine{by rw[An σ.ne];exact ho,?_,σ.ne,σ'.obj,_,σ'.ns,λg=>?_,λg hg=>?_}
 .have:=ZW f y fs;lia
 .rw[ZN]
  by_cases q:g=f
  .rw[if_pos q,if_pos q];exact ry
  .rw[if_neg q,if_neg q];exact r g
 .by_cases q:g=f
  .rw[q];exact(SM f y fs).1
  .refine(SM f y fs).2 g (wi g λz=>hg ?_)
   grind
def Inv.made(I:Inv X pq O H s):Inv X pq O (upd (upd H s.heap.objs.size<|.own<|s.heap.objs.size+1) (s.heap.objs.size+1)<|.ins C s.heap.objs.size [])
  { s with heap:=(s.heap.push W.emptyDict).push (W.instObj C s.heap.objs.size) }:=by
 have e1:(s.heap.push W.emptyDict).get? s.heap.objs.size=↑W.emptyDict:=â s.heap rfl
 have e2:((s.heap.push W.emptyDict).push (W.instObj C s.heap.objs.size)).get? (s.heap.objs.size+1)=↑(W.instObj C s.heap.objs.size):=by
  have:=â (s.heap.push W.emptyDict) (o:=W.instObj C s.heap.objs.size) rfl
  simp_all
 have e3:(s.heap.push W.emptyDict).Ns s.heap.objs.size (λ_=>none):={W.emptyDict,#[],_,e1,rfl,(λe he=>absurd he<|by simp),λ_=>rfl}
 have I1:=I.laid (o:=.own<|s.heap.objs.size+1) (t':=s.toks) (λb u q=>Ð _ q) (Ç _) {_,e1}
 refine I1.laid (λb u q=>Ð _ q) (Nat.le_of_eq<|Ă _ _) ?_
 have ne:s.heap.objs.size≠s.heap.objs.size+1:=Õ<|Ė _;refine{by rw[An ne,CJ],ô _,ne,e2,λ_=>none,(Heap.Ns1.of_empty e3).at λo q=>Ð _ q,λ_=>True.intro,λy hy=>absurd rfl hy}
theorem zm4(hb:attributeBase e f env (eval e env)=eval e env)
  (h:wpAny (model prog w) A (eval e env) (λo s₁=>wpAny (model prog w) A (getAttr o f true) Q E s₁) E s):wpAny (model prog w) A (eval (.Attribute e f pos) env) Q E s:=
 Attribute_any_ h (by rw[arm_eval_Attribute,hb])
end
def tFld(K:k6)(ta:TE)(f:Str):TE:=λO H Q=>ta O H λx H1=>∃a C dx fs v,x=.ref a/\H1 a=↑(.ins C dx fs)/\Cls K C/\C4 K C f/\fs.lookup f=↑v/\Q v H1
def sFld(K:k6)(ta tv:TE)(f:Str):TS:=λD O H=>tv O H λy H1=>ta O H1 λx H2=>∃a C dx fs,x=.ref a/\H2 a=↑(.ins C dx fs)/\Cls K C/\C4 K C f/\fs.length<1000 /\
 D.nx O (upd H2 a<|.ins C dx<|DX f y fs)
section
variable {X:Cx}{o e value:Expr}{f:Str}{pos pos' tpos:Pos}{ta tv:TE}
def Wv(he:PE X e ta)(hb:attributeBase e f X.env (eval e X.env)=eval e X.env):PE X (.Attribute e f pos)<|tFld X.K ta f:=by
 intro pq s O H Q I h;refine zm4 hb<|AX (he pq s O H _ I h) λu s1 zz=>?_
 let(x,H1,I1,rx,a,C,dx,fs,v,ex,ea,c,n,l,q):=zz;subst ex;obtain rfl:u=Value.ref a:=rx;exact zed I1 ea c n l λu' s2 I2 ru=>{(v),H1,I2,ru,q}
def znu(ha:PE X o ta)(hv:PE X value tv)(hs:swapsWith value (↑(.Attribute o f pos')) pos.line X.env=pure false):PS X (.Assign [.Attribute o f pos'] value pos)<|sFld X.K ta tv f:=by
 intro pq s O H D I h;refine plainObj_wpAny_Assign_Attribute (AX (hv pq s O H _ I h) λu s1 ⟨y,H1,I1,ry,q⟩=>AX (ha pq s1 O H1 _ I1 q) λov s2 zz=>?_) hs
 let(x,H2,I2,rx,a,C,dx,fs,ex,ea,c,n,l,q2):=zz;subst ex;obtain rfl:ov=Value.ref a:=rx;exact zdx I2 ea c n l ry λs3 I3=>{O,_,I3,q2}
end
section
variable {X:Cx}{pq:List<|Addr×Obj}{O:St}{H:Hp}{s:Shared}{A:Around}{E:Value->Shared->Prop}{Q:Value->Shared->Prop}{c:Value}{b:Bool}
inductive TyOf(K:k6)(H:Hp):V->Value->Prop where
 |non:TyOf K H .non<|.type "NoneType"
 |bl (x:Bool):TyOf K H (.bl x)<|.type "bool"
 |int (i:Int):TyOf K H (.int i)<|.type "int"
 |str (x:Str):TyOf K H (.str x)<|.type "str"
 |flt (x:UInt64):TyOf K H (.flt x)<|.type "float"
 |lst {a:Addr} {xs:List V} (e:H a=↑(.lst xs)):TyOf K H (.ref a)<|.type "list"
 |frz {a:Addr} {o:Obj} {xs:List V} (e:H a=↑(.frz o<|.lst xs)):TyOf K H (.ref a)<|.type "list"
 |tup {a:Addr} {xs:List V} (e:H a=↑(.tup xs)):TyOf K H (.ref a)<|.type "tuple"
 |dK {a:Addr} {kvs:List<|Key×V} (e:H a=↑(.dK kvs)):TyOf K H (.ref a)<|.type "dict"
 |dT {a:Addr} {kvs:List<|List Key×V} (e:H a=↑(.dT kvs)):TyOf K H (.ref a)<|.type "dict"
 |ins {a C dx:Addr} {fs:List<|Str×V} (e:H a=↑(.ins C dx fs)) (cl:Cls K C) (ha:W.findIn K (.ref C) "__class__"=↑(↑(.builtin "object.__class__")))
   (hn:W.specialIn K (.builtin "object.__class__") "__get__"=↑(↑(.builtin "getset_descriptor.__get__"))) (htk:W.takesIn K (.builtin "object.__class__")=↑true)
   (hm:W.mroIn K C (.type "object")=↑true):TyOf K H (.ref a)<|.ref C
def SW{x:V}  (I:Inv X pq O H s)(rx:A7 x u)(ty:TyOf X.K H x t)(e:W.kitOne X.K t c=↑b)(h:∀tk,Q (.bool b) { s with toks:=tk }) :
  wpAny (model X.prog X.w) A (call (.builtin "isinstance") [u,c]) Q E s:=by
 cases ty with
 |non=>cases (rx);exact ó W.kitx_none I.kIn True.intro e (λz=>nomatch z) h
 |bl y=>cases (rx);exact ó W.kitx_bool I.kIn True.intro e (λz=>nomatch z) h
 |int i=>let(t,q):=(rx);cases q;exact ó W.kitx_int I.kIn True.intro e (λz=>nomatch z) h
 |str y=>let(t,q):=(rx);cases q;exact ó W.kitx_str I.kIn True.intro e (λz=>nomatch z) h
 |flt y=>let(t,q):=(rx);cases q;exact ó W.kitx_float I.kIn True.intro e (λz=>nomatch z) h
 |@lst a xs ea=>cases (rx);let(_,_,n,_,h1):=(I.hok a _ ea);exact ó ž I.kIn {_,h1,rfl} e (λz=>nomatch z) h
 |@frz a ob xs ea=>cases (rx);let(_,_,_,n,_,h1):=(I.hok a _ ea);exact ó ž I.kIn {_,h1,rfl} e (λz=>nomatch z) h
 |@tup a xs ea=>cases (rx);let(_,_,_,p):=(I.hok a _ ea);let(o,h1,h2,_):=p;exact ó W.kitx_tuple I.kIn {(o),h1,h2} e (λz=>nomatch z) h
 |@dK a kvs ea=>cases (rx);let(_,_,vs,_,p):=(I.hok a _ ea);let(o,es,ep,h1,h2,_):=p;exact ó ſ I.kIn {(o),h1,h2.1} e (λz=>nomatch z) h
 |@dT a kvs ea=>cases (rx);let(_,_,xs,_,o,es,ep,h1,h2,_):=(I.hok a _ ea);exact ó ſ I.kIn {(o),h1,h2.1} e (λz=>nomatch z) h
 |@ins a C dx fs ea cl ha hn htk hm=>cases (rx);let(mA,σ,_):=M5 I.hok ea;let(od,Γ,_):=σ.look;exact ó (W.kitx_own (cl.get _) cl.hd ha hn htk hm) I.kIn Γ e (λz=>nomatch z) h
end
structure Room(k:Nat)(A:Around):Prop where
 hd:A.handled=none
 dp:A.depth+3 * k+5<recursionLimit
 un:A.units+16 * k+200<cLine
theorem Room.mono(r:Room k A)(h:j<=k):Room j A:={r.hd,by have:=r.dp;lia,by have:=r.un;lia}
theorem Room.deeper(r:Room (k+1) A)(env):Room k<|A.deeper env:=
 {r.hd,by have:=r.dp;show A.depth+1+3 * k+5<_;lia,by have:=r.un;show A.units+3+16 * k+200<_;lia}
def ze3{A:Around}:(A.under<|.builtin "type.__call__" {.ref C::us,kw}).depth=A.depth+1:=by
 rfl
def ze2{A:Around}:(A.under<|.builtin "type.__call__" {.ref C::us,kw}).units=A.units+1:=by
 rfl
theorem Room.make(r:Room (k+1) A)(C)(us)(kw):Room k<|A.under<|.builtin "type.__call__" {.ref C::us,kw}:=
 {r.hd,by have:=r.dp;rw[ze3];lia,by have:=r.un;rw[ze2];lia}
def Room.depth(r:Room k A):A.depth<recursionLimit:=by have:=r.dp;lia
def Room.units(r:Room k A):A.units+64<cLine:=by have:=r.un;lia
def VR:TA:=λ_ H Q=>Q [] H
def tCons(ta:TE)(tr:TA):TA:=λO H Q=>ta O H λx H1=>tr O H1 λxs H2=>Q (x::xs) H2
section
variable {X:Cx}{e:Expr}{es:kC}{te:TE}{t:TA}{pos:Pos}
theorem FQ:PA X [] VR:=λ_ _ _ _ H Q I h=>Α {[],H,I,.nil,h}
def EB(ha:PE X e te)(hr:PA X es t)(hs:starEach (e::es) X.env=(false,eval e X.env)::starEach es X.env:=by rfl):PA X (e::es)<|tCons te t:=by
 intro pos pq s O H Q I h;rw[hs];refine Ŷ<|AX (ha pq s O H _ I h) λu s1 zz=>?_
 let(x,H1,I1,r1,q1):=zz;exact AX (hr pos pq s1 O H1 _ I1 q1) λus s2 ⟨xs,H2,I2,r2,q2⟩=>{x::xs,H2,I2,.cons r1 r2,q2}
def tTup(t:TA):TE:=λO H Q=>t O H λxs H1=>xs.length<=sizeLine/\∀p,H1 p=none->Q (.ref p) (upd H1 p<|.tup xs)
def tLst(t:TA):TE:=λO H Q=>t O H λxs H1=>xs.length<=sizeLine/\∀p,H1 p=none->Q (.ref p) (upd H1 p<|.lst xs)
def zo1(h:PA X es t):PE X (.Tuple es x1 pos)<|tTup t:=by
 intro pq s O H Q I hq;refine wpAny_Tuple_spliced<|AX (h pos pq s O H _ I hq) λus s1 ⟨xs,H1,I1,r,z,q⟩=>{by rw[<- r.length];exact z,?_}
 have hf :=I1.hok.fresh<|Ç _;refine{.ref s1.heap.objs.size,upd H1 s1.heap.objs.size<|.tup xs,I1.laid (λb u e=>Ð _ e) (Ç _) ?_,rfl,q _ hf}
 exact{z,us,r,{_,â _ rfl,rfl,_,rfl}}
def zo6(h:PA X es t):PE X (.List es pos)<|tLst t:=by
 intro pq s O H Q I hq;refine wpAny_List_spliced<|AX (h pos pq s O H _ I hq) λus s1 ⟨xs,H1,I1,r,z,q⟩=>{by rw[<- r.length];exact z,?_}
 have hf :=I1.hok.fresh<|Ç _;refine{.ref s1.heap.objs.size,upd H1 s1.heap.objs.size<|.lst xs,I1.laid (λb u e=>Ð _ e) (Ç _) ?_,rfl,q _ hf}
 exact{z,us,0,r,â _ rfl}
end
abbrev Sp:=kK->Hp->VK->XK->Prop
abbrev Fx:=List Env->Hp->Shared->XK->Value->Shared->Prop
structure Env0(P:Program)(w:World)(K:k6)(mg:Str->Option Value)(base:Heap)(A:Around)(outer:List Env)(s:Shared)(H:Hp):Prop where
 frames:A.frames=↑outer
 mod:Mod K mg base
 bs:∀b o,base.get? b=↑o->s.heap.get? b=↑o/\H b=none
 bsz:base.objs.size<=s.heap.objs.size
 funs:s.heap.FunFrames base outer
 frf:∀b∈B9 outer,H b=none
 hok:HOk P w H s.heap
 bare:AllBare s.gens
def CE(outer:List Env)(P:Program)(w:World)(H:Hp)(s:Shared)(Q:VK)(u:Value)(s':Shared):Prop:=
 ∃v H',s'.os=s.os/\AllBare s'.gens/\Un (B9 outer) [] H H' s.heap s'.heap/\HOk P w H' s'.heap/\A7 v u/\Q v H'
def CR(CX:Fx)(outer:List Env)(P:Program)(w:World)(H:Hp)(s:Shared)(Q:VK)(E:XK)(r:Result)(s':Shared):Prop:=
 match r with
 |.ok (.ret u)=>CE outer P w H s Q u s'|.ok _=>False|.error e=>CX outer H s E e s'
structure FnOk(P:Program)(w:World)(K:k6)(mg:Str->Option Value)(base:Heap)(CX:Fx)(k:Nat)(f:Addr)(fd:FuncData)(ps:kE)(sp:Sp):Prop where
 len:∀vs H Q E,sp vs H Q E->vs.length=ps.length
 run:∀(A:Around) (outer:List Env) (s:Shared) (H:Hp) (args:Args) (us:k9) (vs:kK) (Q:VK) (E:XK),Room k A->Env0 P w K mg base A outer s H->BindsTo s fd args (ps.zip us)->Ac vs us->sp vs H Q E ->
  codeAny (model P w) A (.call (.ref f) args) (CR CX outer P w H s Q E) s
theorem Env0.make{w:World}{K}{s:Shared}{H:Hp}(e:Env0 P w K mg base A outer s H)(C:Addr)(us)(kw) :
  Env0 P w K mg base (A.under<|.builtin "type.__call__" {.ref C::us,kw}) outer s H:={by first|exact e.frames|rfl,e.mod,e.bs,e.bsz,e.funs,e.frf,e.hok,e.bare}
section
variable {X:Cx}{pq:List<|Addr×Obj}{O:St}{H:Hp}{s s':Shared}
theorem Inv.env0(I:Inv X pq O H s):Env0 X.prog X.w X.K X.mg X.base X.A X.stack s H:=
 {I.ok.frames,I.ok.mod,I.bs,Ü I.ok.bsz I.sz,I.stack,I.stkFree,I.hok,I.bare}
def Inv.after(I:Inv X pq O H s)(h:CE X.stack X.prog X.w H s Q u s'):EP X pq O Q u s':=by
 let(v,H',os,bare,un,hok,r,q):=h;let(hh,g,d,t,os'):=s';obtain rfl:os'=s.os:=os;exact{v,H',I.call un hok bare<|λb z=>absurd z<|by simp,r,q}
end
def C6(K:k6)(fd:FuncData)(ps:kE)(ds:k9):Prop:=
 ∀(s:Shared) (us:k9),K.In s.heap->(us++ds).length=ps.length->BindsTo s fd {us,[]} (ps.zip<|us++ds)
theorem C6.all{K }   (h:∀us ,us.length=ps.length->bindArgs fd {us,[]}=pure (ps.zip us)):C6 K fd ps []:=λs us _ hl=>by
 rw[ā]at hl ⊢;exact .of_eq<|h us hl
section
variable {X:Cx}{CX:Fx}{k:Nat}{f C:Addr}{fd:FuncData}{ps:kE}{sp:Sp}{dvs:kK}{ds:k9}{E:XK}{x m:Str}{p pos apos:Pos}{e o:Expr}{es:kC}{ta:TE}{t:TA}
structure Mk(K:k6)(C f:Addr):Prop where
 makes:W.makesIn K C=true
 init:W.findIn K (.ref C) "__init__"=↑(↑(.ref f))
 fn:W.isFn K (.ref f)=true
 kp:W.keepIn K (.ref C)=true
end
section
variable {X:Cx}{CX:Fx}{k:Nat}{f C:Addr}{fd:FuncData}{ps ks:kE}{sp:Sp}{E:XK}{x m:Str}{p pos apos kpos:Pos}{e o:Expr}{es:kC}{kws:List Keyword}{te ta:TE}{t tk:TA}{nm:Option Str}
variable {g:k9->k9->k9}{gV:kK->kK->kK}
end
structure FnScope(N P:kE)(sc:Scope):Prop where
 kind:sc.kind=.function
 co:sc.isCoroutine=false
 gen:sc.isGenerator=false
 nd:N.Nodup
 pre:N.take P.length=P
 par:∀x∈P,sc.names.lookup x=↑.local\/sc.names.lookup x=↑.cell
 nofree:∀y∈sc.names,y.2≠.free
def eR{kindOf}:∀{binds} {m},(∀v,(x,v)∉binds)->bindL kindOf binds m x=m x
 |[],_,_=>rfl|(n,v)::r,m,h=>by
  unfold bindL;rw[eR λw hw=>h w<|É _ hw]
  split
  .grind
  .rfl
def eY{kindOf}:∀{binds} {m},(∀v,(x,v)∉binds)->bindC kindOf binds m x=m x
 |[],_,_=>rfl|(n,v)::r,m,h=>by
  unfold bindC;rw[eY λw hw=>h w<|É _ hw]
  split
  .rfl
  grind
def eV{kindOf}{x:Str}{v}:∀{P:kE} {vs} {i:Nat} {m},P.Nodup->P[i]?=↑x->vs[i]?=↑v->kindOf x=↑.local ->
  bindL kindOf (P.zip vs) m x=↑v
 |[],_,_,_,_,h,_,_=>by simp at h|_::_,[],_,_,_,_,h,_=>by simp at h|p::P,w::vs,0,m,nd,h1,h2,hk=>by
  simp at h1 h2;subst h1;subst h2;show bindL kindOf ((p,w)::P.zip vs) m p=_;unfold bindL;rw[eR λv hv=>(ĺ.mp nd).1 (List.of_mem_zip hv).1,if_pos hk]
  simp
 |p::P,w::vs,i+1,m,nd,h1,h2,hk=>by
  unfold bindL;exact eV (i:=i) (ĺ.mp nd).2 (by grind) (by grind) hk
def eZ{kindOf}{x:Str}{v}:∀{P:kE} {vs} {i:Nat} {m},P.Nodup->P[i]?=↑x->vs[i]?=↑v->kindOf x≠↑.local ->
  bindC kindOf (P.zip vs) m x=↑v
 |[],_,_,_,_,h,_,_=>by simp at h|_::_,[],_,_,_,_,h,_=>by simp at h|p::P,w::vs,0,m,nd,h1,h2,hk=>by
  simp at h1 h2;subst h1;subst h2;show bindC kindOf ((p,w)::P.zip vs) m p=_;unfold bindC;rw[eY λv hv=>(ĺ.mp nd).1 (List.of_mem_zip hv).1,if_neg hk]
  simp
 |p::P,w::vs,i+1,m,nd,h1,h2,hk=>by
  unfold bindC;exact eZ (i:=i) (ĺ.mp nd).2 (by grind) (by grind) hk
def start(N:kE)(vs:kK):St:=vs.map some++List.replicate (N.length - vs.length) none
def F9(CX:Fx)(P:Program)(w:World)(K:k6)(mg:Str->Option Value)(base:Heap)(N:kE)(qual:Str)(scope:Scope)(f:Addr)(cd:Value)(A:Around)(outer:List Env)(s:Shared)(H:Hp)(E:XK):Cx where
 prog:=P
 w:=w
 K:=K
 mg:=mg
 base:=base
 A:=A.deeper (envOfC qual scope s.heap.objs.size f cd)
 N:=N
 s₀:=s
 H₀:=H
 env:=envOfC qual scope s.heap.objs.size f cd
 outer:=outer
 stack:=envOfC qual scope s.heap.objs.size f cd::outer
 ex:=[]
 calm:=true
 fn:=λ_=>true
 pn:=[]
 xe:=λe s'=>wpAny (model P w) (A.deeper<|envOfC qual scope s.heap.objs.size f cd) (leaving (envOfC qual scope s.heap.objs.size f cd) e) (λ_ s''=>CX outer H s E e s'') (λe' s''=>CX outer H s E e' s'') s'
def dZ{sc:Scope}(h:sc.names.lookup x=↑.cell):∃c,(cellsFrom n sc.names []).lookup x=↑c:=by
 have q:=W.cellsFrom_some sc.names n []<|.inl h;exact Ņ.mp q
def zfd{CX:Fx}{P:Program}{w:World}{K:k6}{base:Heap}{N ps:kE}{qual:Str}{scope:Scope}{f:Addr}{cd:Value}{A:Around}{s s1:Shared}{H:Hp}{E:XK}{vs:kK}
  (S:FnScope N ps scope) (hd:A.handled=none) (e0:Env0 P w K mg base A outer s H) (hl:vs.length=ps.length) (r:Ac vs us)
  (x:InCallC s s.heap.objs.size (bindL (envOfC qual scope s.heap.objs.size f cd).kindOf (ps.zip us) λ_=>none) (cellsFrom (s.heap.objs.size+1) scope.names []) (bindC (envOfC qual scope s.heap.objs.size f cd).kindOf (ps.zip us) λ_=>none) s1) :
  Inv (F9 CX P w K mg base N qual scope f cd A outer s H E) [] (start N vs) H s1:=by
 have hpl :=by have:=congrArg List.length S.pre;rw[Č]at this;lia
 let(h1,tk,rfl,hk):=x.done;have noA:∀b ,b∉(F9 CX P w K mg base N qual scope f cd A outer s H E).ex:=λb z=>absurd (show b∈[] from z)<|by simp
 refine{{e0.mod,S.kind,rfl,rfl,Ç _,λy z c h1 h2=>?_,λy hy=>?_,λy c _ h=>?_,λ_=>hd,Around.frames_deeper e0.frames,.inr {(rfl),rfl},λb z=>absurd z<|noA b,e0.bs,e0.bsz,λb _ _=>noA b,λb z=>absurd z<|noA b,e0.funs,e0.frf},
  rfl,e0.bare,Un.kept hk,{_,x.toInCall.ns,λi y v h1 h2 h3=>?_},λy c h=>{_,x.cell y c h},e0.hok.fresh<|Ç _,λy c h=>?_,λp hp=>absurd (show p∈[] from hp) (by simp),e0.hok.kept hk,?_}
 .exact name_of_addr x.apart (ĕ h1)<|ĕ h2
 .have hy :=hy
  rcases hy with hy|hy
  .exact dZ hy
  .exact absurd rfl<|S.nofree _<|ĕ hy
 .exact Ŕ<|x.above y c<|ĕ h
 .have hi:i<vs.length:=by
   unfold start at h2
   by_cases hi:i<vs.length
   .exact hi
   .rw[Ĝ<|by simpa using hi]at h2
    rw[Ť]at h2;split at h2<;>cases h2
  have ha:vs[i]?=↑v:=by
   unfold start at h2;rw[ú (by simpa using hi),Ë]at h2
   cases e:vs[i]? with
   |none=>rw[e]at h2;cases h2|some a=>rw[e]at h2;cases h2;rfl
  let(u,hu,rv):=r.get ha
  have hp:ps[i]?=↑y:=by
   rw[<- S.pre,Ţ<|by lia];exact h1
  have ndP:ps.Nodup:=by rw[<- S.pre];exact S.nd.sublist<|List.take_sublist _ _
  refine{u,rv,?_}
  rcases S.par y (ç hp) with k|k
  .exact .inl {k,eV ndP hp hu k}
  .let(c,e):=dZ k;refine .inr {.inl k,c,e,?_};have q:=x.cell y c e;rw[eZ ndP hp hu (by show scope.names.lookup y≠_;rw[k];decide)]at q
   exact q
 .exact e0.hok.fresh<|Ŕ<|x.above y c<|ĕ h
 .unfold start;show _=N.length;rw[à,Á,ū]
  lia
def fn_of{CX:Fx}   {K }   {k:Nat}{f:Addr}     {dV kV doc pm cdv ct oc:Value}
   {sp:Sp} (lk:K.lookup f=↑{oc,od,.func<|W.fnOf name qual params body scope dV kV doc pm an cdv ct,osl}) (hcd:W.codeIn K cdv qual=true) (S:FnScope N ps scope)
  (len:∀vs H Q E,sp vs H Q E->vs.length=ps.length)
  (hbody : ∀ (A : Around) (outer ) (s : Shared) (H : Hp) (vs : kK) (Q : VK) (E : XK), Room k (A.deeper<|envOfC qual scope s.heap.objs.size f cdv) -> sp vs H Q E ->
   ∃t,B5 (F9 CX P w K mg base N qual scope f cdv A outer s H E) body t/\t { nx:=λ_ H'=>Q .non H',rt:=Q } (start N vs) H) :
  FnOk P w K mg base CX (k+1) f (W.fnOf name qual params body scope dV kV doc pm an cdv ct) ps sp:=by
 refine{len,λA outer s H args us vs Q E hr e0 hb r hsp=>?_}
 have hl:=len _ _ _ _ hsp;have KX :=e0.mod.kin.keeps λb o e=>(e0.bs b o e).1
 have BS :=e0.mod.nolimit.keeps λb o e=>(e0.bs b o e).1
 have hkind:∀y∈ps.zip us,scope.names.lookup y.1=↑.local\/(scope.names.lookup y.1=↑.cell/\((cellsFrom (s.heap.objs.size+1) scope.names []).lookup y.1).isSome=true):=λ⟨n,v⟩ hy=>by
  rcases S.par n (List.of_mem_zip hy).1 with q|q
  .exact .inl q
  .exact .inr {q,W.cellsFrom_some _ _ _<|.inl q}
 refine codeAny_call_function hr.depth (KX _ _ lk) rfl S.co S.gen rfl (W.codeRec_of KX hcd)<|hb _ _ _ _ ?_;refine wpAny_newFunctionEnv_cells S.kind hkind λenv he s1 x=>?_
 subst he;refine{BS.keeps x.toInCall.keep,codeAny_func ?_};let(t,ht,hq):=hbody A outer s H vs Q E (hr.deeper _) hsp;have I:Inv (F9 CX P w K mg base N qual scope f cdv A outer s H E) [] (start N vs) H s1:=zfd S hr.hd e0 hl r x;refine ï (ht [] s1 (start N vs) H _ I hq) (λfl s' hs=>?_) λe s' hs=>hs
 have Aw:∀{O' } {H' } {v } {u },Inv (F9 CX P w K mg base N qual scope f cdv A outer s H E) [] O' H' s'->A7 v u->Q v H'->CE outer P w H s Q u s':=
  λ{O' H' v u} Γ rv q=>{(v),H',Γ.os,Γ.bare,Γ.base,Γ.hok,rv,q}
 cases fl with
 |ret u=>let(v,O',H',Γ,rv,q):=hs;exact Aw Γ rv q
 |next=>let(O',H',Γ,q):=hs;exact Aw (v:=V.non) Γ rfl q
 |brk=>let(_,_,_,q):=hs;exact False.elim q
 |cont=>let(_,_,_,q):=hs;exact False.elim q
section
variable {X:Cx}{x:Str}{p pos:Pos}{e:Expr}{es:kC}{t:TA}{id T:String}{r:kK->Hp->VK->Prop}
def V7(r:kK->Hp->VK->Prop)(t:TA):TE:=λO H Q=>t O H λvs H1=>r vs H1 Q
def Ly(hc:Bp X (.builtin id) r)(hg:Gl X x)(hm:X.mg x=none)(hv:bootBuiltins x=↑(.builtin id))(ha:PA X (e::es) t)(hn:x≠"__name__")(hdb:(x == "__debug__")=false)
  (he:starEach (e::es) X.env=(false,eval e X.env)::starEach es X.env) (hpl:(backTo pos<|starEach es X.env).any (·.1)=false):PE X (.Call (.Name x p) (e::es) [] pos)<|V7 r t:=by
 intro pq s O H Q I h;refine ę<|Fo I hg hm hv ?_ hn hdb;exact PyProof.Rows.callWith_builtin1 (AX (ha pos pq s O H _ I h) λus s1 ⟨vs,H1,I1,r1,q1⟩=>hc pq s1 O H1 vs us Q I1 r1 q1) he hpl
def Ww(hc:Bp X (.type T) r)(hg:Gl X x)(hm:X.mg x=none)(hv:bootBuiltins x=↑(.type T))(ha:PA X (e::es) t)(hn:x≠"__name__")(hdb:(x == "__debug__")=false)
  (he:starEach (e::es) X.env=(false,eval e X.env)::starEach es X.env) (hpl:(backTo pos<|starEach es X.env).any (·.1)=false):PE X (.Call (.Name x p) (e::es) [] pos)<|V7 r t:=by
 intro pq s O H Q I h;refine ę<|Fo I hg hm hv ?_ hn hdb;exact Ĕ (AX (ha pos pq s O H _ I h) λus s1 ⟨vs,H1,I1,r1,q1⟩=>hc pq s1 O H1 vs us Q I1 r1 q1) he hpl
end
end L2
namespace HT
open PySem PyProof.Rows
section
open PySem.SeqAt
open PySem.AutoSeq1 (wpAny_loadPart')
open PySem.MeetsSeq PySem.MeetsSeq2 PySem.MeetsSeq3
end
section
variable {prog:Program}{w:World}{A:Around}{E:Value->Shared->Prop}{s:Shared}
def sIx(n d:Nat):kA->Nat
 |none=>d|some v=>if v<0 then (v+(n:Int)).toNat else min v.toNat n
def sIx_nat(n d k:Nat):sIx n d (↑(k:Int))=min k n:=by
 rfl
end
end HT
namespace L2
open PySem PySem.Spec PyProof.Rows
abbrev TO:=St->Hp->(kA->Hp->Prop)->Prop
def PO(X:Cx)(e:Option Expr)(t:TO):Prop:=
 ∀(pq:List<|Addr×Obj) (s:Shared) (O:St) (H:Hp) (Q:kA->Hp->Prop),Inv X pq O H s->t O H Q ->
  wpAny (model X.prog X.w) X.A (evalPart e X.env) (λu s'=>∃o H',Inv X pq O H' s'/\IsPart u o/\Q o H') X.xe s
def zja:TO:=λ_ H Q=>Q none H
def tPart(t:TE):TO:=λO H Q=>t O H λx H1=>∃i,x=.int i/\Q ↑i H1
section
variable {X:Cx}{e:Expr}{te:TE}{lo hi:Option Expr}{tl th:TO}{pos p2:Pos}
def zka:PO X none zja:=by
 intro pq s O H Q I h;exact Å {none,H,I,.none,h}
def zk9(h:PE X e te):PO X ↑e<|tPart te:=by
 intro pq s O H Q I hw;refine AX (h pq s O H _ I hw) λu s1 zz=>?_
 let(x,H1,I1,r1,q1):=zz;let(i,rfl,q):=q1;let(t,rfl):=r1;exact{↑i,H1,I1,.int i t,q}
def UK(X:Cx)(r:V->kA->kA->Hp->VK->Prop):Prop:=
 ∀(pq:List<|Addr×Obj) (s:Shared) (O:St) (H:Hp) (x:V) (v vl vu:Value) (lo hi:kA) (sl:Addr) (Q:VK),Inv X pq O H s->A7 x v->s.heap.IsSliceOf sl vl vu .none->IsPart vl lo->IsPart vu hi->r x lo hi H Q ->
  ∃T id,typeLookup (.type T) "__getitem__"=pure (↑(.builtin id))/\s.TypeIs v T/\wpAny (model X.prog X.w) X.A (getItem v<|.ref sl) (EP X pq O Q) X.xe s
def tSl(r:V->kA->kA->Hp->VK->Prop)(te:TE)(tl th:TO):TE:=λO H Q=>te O H λx H1=>tl O H1 λl H2=>th O H2 λu H3=>r x l u H3 Q
def Wt(hr:UK X r)(he:PE X e te)(hl:PO X lo tl)(hu:PO X hi th):PE X (.Subscript e (.Slice lo hi none p2) pos)<|tSl r te tl th:=by
 intro pq s O H Q I h;refine Subscript_<|AX (he pq s O H _ I h) λv s1 zz=>?_
 let(x,H1,I1,r1,q1):=zz;refine wpAny_Slice<|AX (hl pq s1 O H1 _ I1 q1) λvl s2 ⟨l,H2,I2,pl,q2⟩=>AX (hu pq s2 O H2 _ I2 q2) λvu s3 zz=>?_
 let(u,H3,I3,pu,q3):=zz;refine Å ?_;have I4:Inv X pq O H3 { s3 with heap:=s3.heap.push { cls:=.type "slice",data:=.fields #[vl,vu,.none] } }:=I3.kept λb ob q=>Ð _ q
 let(T,id,hT,ht,hg):=hr pq { s3 with heap:=s3.heap.push { cls:=.type "slice",data:=.fields #[vl,vu,.none] } } O H3 x v vl vu l u s3.heap.objs.size Q I4 r1 (Heap.IsSliceOf.new ..) pl pu q3
 exact tail_any ht hT hg<|by rfl
def K6(xs:kK)(lo hi:kA):kK:=(xs.drop<|HT.sIx xs.length 0 lo).take (HT.sIx xs.length xs.length hi - HT.sIx xs.length 0 lo)
def zdf(xs)(lo hi):(K6 xs lo hi).length<=xs.length:=by
 unfold K6
 grind
end
def Bw(n:Nat)(i:Int):Option Nat:=if 0<=i then (if i<n then ↑i.toNat else none) else if -(n:Int)<=i then ↑(i+n).toNat else none
def AU{α:Type}(xs:List α)(i:Int):Option α:=(Bw xs.length i).bind λj=>xs[j]?
def KG(h:Bw n i=↑j):seqIndex? i n=↑j/\j<n/\-n<=i/\i<n:=by
 unfold Bw at h
 by_cases h0:0<=i
 .rw[if_pos h0]at h
  by_cases h1:i<n
  .rw[if_pos h1]at h;have e :=Ý h;exact{by rw[seqIndex_of h0 h1,e],by lia,by lia,h1}
  grind
 .rw[if_neg h0]at h
  by_cases h1:-n<=i
  .rw[if_pos h1]at h;have e :=Ý h;exact{by rw[seqIndex_neg (by lia) h1,e],by lia,h1,by lia}
  grind
def UH(h:AU xs i=↑v):∃j,seqIndex? i xs.length=↑j/\xs[j]?=↑v/\j<xs.length/\-xs.length<=i/\i<xs.length:=by
 unfold AU at h;cases e:Bw xs.length i with
 |none=>grind|some j=>
  let(h1,h2,h3,h4):=KG e
  grind
def CU{j:Nat}{v}(h:xs[j]?=↑v):AU xs j=↑v:=by
 have hj :=(Ñ.mp h).1
 have e:Bw xs.length j=↑j:=by
  unfold Bw
  grind
 unfold AU;grind
def Kx(b:Expr):Prop:=∀o i,subscripted b false o i=operate [o,i] (getItem o i)
def Fw(X:Cx)(r:R2):Prop:=
 ∀(value slice:Expr) (pq:List<|Addr×Obj) (s:Shared) (O:St) (H:Hp) (x y:V) (v u:Value) (Q:VK),Inv X pq O H s->A7 x v->A7 y u->r x y H Q ->
  subscripted slice false v u=operate [v,u] (getItem v u)->wpAny (model X.prog X.w) X.A (subscriptTail value slice v u) (EP X pq O Q) X.xe s
def MtR(X:Cx)(id:String)(r:V->kK->Hp->VK->Prop):Prop:=
 ∀(pq:List<|Addr×Obj) (s:Shared) (O:St) (H:Hp) (x:V) (xs:kK) (v:Value) (us:k9) (Q:VK),Inv X pq O H s->A7 x v->Ac xs us->r x xs H Q ->
  wpAny (model X.prog X.w) X.A (call (.builtin id)<|v::us) (EP X pq O Q) X.xe s
section
variable {X:Cx}{a b:Expr}{ta tb:TE}{pos:Pos}
def Fw.or(h:Fw X r)(h':Fw X r'):Fw X<|λx y H Q=>r x y H Q\/r' x y H Q:=by
 intro value slice pq s O H x y v u Q I rx ry q hs
 rcases q with q|q
 .exact h value slice pq s O H x y v u Q I rx ry q hs
 .exact h' value slice pq s O H x y v u Q I rx ry q hs
def Qd(hr:Fw X r)(ha:PE X a ta)(hb:PE X b tb)(hs:Kx b):PE X (.Subscript a b pos)<|ID r ta tb:=by
 intro pq s O H Q I h;exact Subscript_<|UE ha hb I h λv u s2 x y H2 I2 rx ry q=>hr a b pq s2 O H2 x y v u Q I2 rx ry q<|hs _ _
def Wj(K:k6):R2:=λx y H Q=>∃p xs i v,x=.ref p/\y=.int i/\AZ K H p xs/\AU xs i=↑v/\Q v H
def Wh(K:k6):R2:=λx y H Q=>∃p xs i v,x=.ref p/\y=.int i/\Bt K H p xs/\AU xs i=↑v/\Q v H
def Wi:R2:=λx y H Q=>∃z i c,x=.str z/\y=.int i/\z.length<=sizeLine/\AU z.cps.toList i=↑c/\Q (.str {#[c]}) H
def Ze:Fw X<|Wj X.K:=by
 intro value slice pq s O H x y v u Q I rx ry h hs;let(p,xs,i,z,rfl,rfl,hq,he,q):=h;cases rx;let(t,rfl):=ry;let(its,r,pl,hz):=I.list hq;let(j,h1,h2,h3,h4,h5):=UH he;let(w,ew,rw'):=r.get h2;have hl:=r.length;have hn:=KA;have Aw:EP X pq O Q w s:={(z),H,I,rw',q}
 by_cases h0:0<=i
 .have hj :=by
   rw[seqIndex_of h0 h5]at h1;exact Ý h1
  exact item_listR pl.isList h0 (by lia) (by rw[hj];simpa using ew) Aw hs
 .have hj:(i+its.toArray.size).toNat=j:=by
   rw[seqIndex_neg (by lia) h4]at h1
   grind
  exact subscriptTail_builtinR pl.isList.typeIs slot_list_getitem.lookup
   (wpAny_getItem_list_neg pl.isList (by lia) (by rw[ø]<;>lia) (by lia) (by rw[hj];simpa using ew) {(rfl),Aw}) hs
def zpf:Fw X<|Wh X.K:=by
 intro value slice pq s O H x y v u Q I rx ry h hs;let(p,xs,i,z,rfl,rfl,hq,he,q):=h;cases rx;let(t,rfl):=ry;let(its,r,pl,hz):=I.tuple hq;let(j,h1,h2,h3,h4,h5):=UH he;let(w,ew,rw'):=r.get h2;have hl:=r.length;have hn:=KA;have Aw:EP X pq O Q w s:={(z),H,I,rw',q}
 exact subscriptTail_builtinR pl.typeIs slot_tuple_getitem.lookup
  (getItem_tuple (j:=j) pl (by lia) (by lia) (by grind) (by grind) {(rfl),Aw}) hs
def zpg:Fw X Wi:=by
 intro value slice pq s O H x y v u Q I rx ry h hs;let(z,i,c,rfl,rfl,hz,he,q):=h;let(t,rfl):=rx;let(t',rfl):=ry;let(j,h1,h2,h3,h4,h5):=UH he;have hl:z.cps.toList.length=z.length:=by simp[Str.length]
 rw[hl]at h1 h4 h5;have hn:=KA
 exact tail_any (Ĩ s z t) slot_str_getitem.lookup (getItem_str (by
  grind) (by grind) {.str {#[c]},H,I.tok _,{_,rfl},q}) hs
def Wk(K:k6):R2:=λx y H Q=>Wj K x y H Q\/Wh K x y H Q\/Wi x y H Q
theorem zph:Fw X<|Wk X.K:=Ze.or<|zpf.or zpg
def ze1(its:k9)(n j )(u ):Obj.mapSeq (·.setIfInBounds j u) { cls:=.type "list",data:=.seq its.toArray n }={ cls:=.type "list",data:=.seq (its.set j u).toArray n }:=by
 simp[Obj.mapSeq]
def Inv.lst{pq:List<|Addr×Obj}{O:St}{H:Hp}{s:Shared}{p:Addr}{xs:kK}(I:Inv X pq O H s)(h:H p=↑(.lst xs)) :
  ∃(its:k9) (n:Nat),Ac xs its/\s.heap.get? p=↑{ cls:=.type "list",data:=.seq its.toArray n }/\xs.length<=sizeLine:=by
 let(z,its,n,r,e):=I.hok p _ h
 grind
def Inv.lstUpd{O:St}     {its its':k9}   (I:Inv X pq O H s)(h:H p=↑(.lst xs))
  (ho:s.heap.get? p=↑{ cls:=.type "list",data:=.seq its.toArray n }) (hf:f { cls:=.type "list",data:=.seq its.toArray n }={ cls:=.type "list",data:=.seq its'.toArray n' }) (r:Ac ys its') (hz:ys.length<=sizeLine) (t:Nat) :
  Inv X pq O (upd H p<|.lst ys) { s with heap:=s.heap.update p f,toks:=t }:=by
 have e:(s.heap.update p f).get? p=↑{ cls:=.type "list",data:=.seq its'.toArray n' }:=by
  rw[ć f ho (by rw[hf]<;>rfl),hf]
 refine I.write (by rw[h];trivial) (.inl rfl) (λb u hb q=>(õ _ _<|Î hb).trans q) {_,e} ?_
 exact{(hz),its',n',r,e}
def rSetL:V->V->V->Hp->(Hp->Prop)->Prop:=λo i v H Q=>∃p xs k j,o=.ref p/\i=.int k/\H p=↑(.lst xs)/\Bw xs.length k=↑j/\Q (upd H p<|.lst<|xs.set j v)
def Vw:UU X rSetL:=by
 intro pq s O H o i v ov iv u Q I ro ri rv h;let(p,xs,k,j,rfl,rfl,hp,hj,q):=h;cases ro;let(t,rfl):=ri;let(its,n,r,ho,hz):=I.lst hp;let(h1,h2,h3,h4):=KG hj;have hl:=r.length;have hn:=KA
 have I' :=
  I.lstUpd hp ho (ze1 its n j u) (r.set rv j) (by rw[Ů];exact hz) s.toks
 by_cases h0:0<=k
 .have hk :=by
   rw[seqIndex_of h0 h4]at h1;exact Ý h1
  exact W.ki_setAt ho h0 (by lia) (by grind) (by rw[hk];exact{_,I',q})
 .have hk:(k+its.toArray.size).toNat=j:=by
   rw[seqIndex_neg (by lia) h3]at h1
   grind
  exact W.ki_setBack ho (by lia) (by grind) (by lia) (by rw[hk];exact{_,I',q})
def zc0(lo hi)(n):(sliceBounds lo hi none n).1=HT.sIx n 0 lo/\(sliceBounds lo hi none n).2.1=HT.sIx n n hi/\(sliceBounds lo hi none n).2.2=1:=by
 refine{?_,?_,rfl}
 .cases lo with
  |none=>simp[sliceBounds,HT.sIx]|some i=>
   erw[sliceBounds,HT.sIx,Option.getD_none,Æ]
   grind
 .cases hi with
  |none=>simp[sliceBounds,HT.sIx]|some i=>
   erw[sliceBounds,HT.sIx,Option.getD_none,Æ]
   grind
def zbm(its:k9)(lo hi):slicePick its.toArray lo hi none=((its.drop<|HT.sIx its.length 0 lo).take (HT.sIx its.length its.length hi - HT.sIx its.length 0 lo)).toArray:=by
 let(h1,h2,h3):=zc0 lo hi its.toArray.size;unfold slicePick;rw[h1,h2,h3];erw[sliceRange_one,pick_run]<;>rfl
def Wg(K:k6):V->kA->kA->Hp->VK->Prop:=λx lo hi H Q=>∃a xs,x=.ref a/\AZ K H a xs/\∀p,H p=none->Q (.ref p) (upd H p<|.lst<|K6 xs lo hi)
def zjf:UK X<|Wg X.K:=by
 intro pq s O H x v vl vu lo hi sl Q I rx hs pl pu h;let(a,xs,rfl,hx,q):=h;cases rx;let(its,r,ht,hz):=I.list hx;have hlen:=r.length;refine{"list",_,slot_list_getitem.lookup,ht.isList.typeIs,?_};refine wpAny_getItem_list_slice ht.isList hs pl pu .none (by simp) ?_<|by grind
 rw[zbm,<- hlen];refine{.ref s.heap.objs.size,_,I.laid (λb ob q=>Ð _ q) (Ç _) ?_,rfl,q _<|I.hok.fresh<|Ç _}
 exact{Ü (zdf xs lo hi) hz,_,0,(r.drop<|HT.sIx xs.length 0 lo).take (HT.sIx xs.length xs.length hi - HT.sIx xs.length 0 lo),â _ rfl}
def zcz:Bp X (.type "list") (λxs H Q=>∃p ys,xs=[.ref p]/\(AZ X.K H p ys\/Bt X.K H p ys)/\∀l,H l=none->Q (.ref l) (upd H l<|.lst ys)):=by
 intro pq s O H xs us Q I r h;let(p,ys,rfl,hq,q):=h;let(u,rfl,rx):=Ei r;cases rx
 have Aw:∀(its ),Ac ys its->ys.length<=sizeLine->∀(h' ) (c' ),(∀b o',s.heap.get? b=↑o'->h'.get? b=↑o') ->
   h'.get? s.heap.objs.size=↑{ cls:=.type "list",dict:=none,data:=.seq its.toArray c',slots:=#[] }->EP X pq O Q (.ref s.heap.objs.size) { s with heap:=h' }:=λits r' hz h' c' kp e=>
  {.ref s.heap.objs.size,_,I.laid kp (Ç _) (show Cz X.prog X.w _ h' _ (.lst ys) from{(hz),its,c',r',e}),rfl,q _<|I.hok.fresh<|Ç _}
 rcases hq with hq|hq
 .let(its,r',pl,hz):=I.list hq;have hlen:=r'.length;let(o,ho,hc,n,hd):=pl.isList;exact call_list_seq p (.inl rfl) ho hc hd (λh' c' kp e=>Aw its r' hz h' c' kp e)<|by grind
 .let(its,r',pl,hz):=I.tuple hq;have hlen:=r'.length;let(o,ho,hc,n,hd):=pl;exact call_list_seq p (.inr rfl) ho hc hd (λh' c' kp e=>Aw its r' hz h' c' kp e)<|by grind
def Uw(K:k6)(T:String)(x:V)(H:Hp):Prop:=match x with
 |.str _=>T="str"|.int _=>T="int"|.ref p=>(T="list"/\∃xs,AZ K H p xs)\/(T="tuple"/\∃o,K.lookup p=↑o/\o.cls=.type "tuple"/\o.dict=none) \/
   (T="dict"/\((∃kvs,H p=↑(.dK kvs))\/∃kvs,H p=↑(.dT kvs)))\/(T="set"/\∃S n,H p=↑(.set S n))
 |_=>False
def zmg{O:St}{x:V}(I:Inv X pq O H s)(r:A7 x v)(ty:Uw X.K T x H) :
  s.TypeIs v T/\∀a,v=.ref a->∃ob,s.heap.get? a=↑ob/\ob.dict=none:=by
 cases x with
 |str z=>let(t,rfl):=r;cases (ty);exact{Ĩ s z t,λ_ e=>nomatch e}
 |int i=>let(t,rfl):=r;cases (ty);exact{typeIs_int s i t,λ_ e=>nomatch e}
 |ref p=>
  cases r
  rcases ty with ⟨rfl,xs,hq⟩|⟨rfl,o,hk,hc,hd⟩|⟨rfl,hk⟩|⟨rfl,S,n,hk⟩
  .let(its,_,pl,_):=I.list hq;refine{pl.isList.typeIs,λa e=>?_}
   cases e;let(o,n,e,c,hd,_):=pl;exact{(o),e,hd}
  .refine{{o,I.kIn p o hk,hc},λa e=>?_}
   cases e;exact{o,I.kIn _ o hk,hd}
  .have z:∃o,s.heap.get? p=↑o/\o.ExactDict:=by
    rcases hk with ⟨kvs,hk⟩|⟨kvs,hk⟩
    .let(_,_,_,_,o,_,_,e,ex,_):=I.hok p _ hk;exact{(o),e,ex}
    .let(_,_,_,_,o,_,_,e,ex,_):=I.hok p _ hk;exact{(o),e,ex}
   let(o,e,ex):=z;refine{{(o),e,ex.1},λa e2=>?_}
   cases e2;exact{(o),e,ex.2.1}
  .let(o,_,_,_,e,ex,_):=I.hok p _ hk;refine{{(o),e,ex.1},λa e2=>?_}
   cases e2;exact{(o),e,ex.2.1}
 |_=>exact False.elim ty
def tBM(K:k6)(T:String)(r:V->kK->Hp->VK->Prop)(to:TE)(t:TA):TE:=λO H Q=>to O H λx H1=>Uw K T x H1/\t O H1 λxs H2=>r x xs H2 Q
variable {o e:Expr}{es:kC}{to:TE}{t:TA}{name:Str}{apos cpos:Pos}{T id:String}{r:V->kK->Hp->VK->Prop}
def Lz(pa:PlainAttrs T)(slot:Slot T name id)(hty:typeOf (.builtin id)=pure (.type "method_descriptor"))(hm:MtR X id r)(ho:PE X o to)(ha:PA X (e::es) t)
  (hbase:attributeBase o name X.env (eval o X.env)=eval o X.env)
  (hfew : ((backTo cpos<|starEach (e :: es) X.env).all (fun x => !x.1) && (backToKw cpos<|keywordEach [] X.env).all (fun x => x.1.isSome)
   && decide ((e::es).length+([]:List Keyword).length+(if ([]:List Keyword).isEmpty then 0 else 1)<30))=true:=by rfl)
  (hline:(apos.endLine == cpos.line)=true) (hs:starEach (e::es) X.env=(false,eval e X.env)::starEach es X.env) (hplain:(backTo cpos<|starEach es X.env).any (·.1)=false) :
  PE X (.Call (.Attribute o name apos) (e::es) [] cpos) (tBM X.K T r to t):=by
 intro pq s O H Q I h;refine wpAny_Call_method_late hbase hfew hline rfl<|AX (ho pq s O H _ I h) λv s1 zz=>?_
 let(x,H1,I1,r1,ty,q1):=zz;let(h1,h2):=zmg I1 r1 ty;refine{T,id,pa,slot,hty,h1,h2,?_};have hA:=ha cpos pq s1 O H1 _ I1 q1;rw[hs]at hA ⊢;refine Calls.callWith_builtin (by grind)<|Calls.evalArgs_plain ?_
 exact AX hA λus s2 ⟨vs,H2,I2,r2,q2⟩=>hm pq s2 O H2 x vs v us Q I2 r1 r2 q2
end
def Nd(X:Cx)(id:String)(r:V->kK->Hp->VK->Prop):Prop:=
 ∀(pq:List<|Addr×Obj) (s:Shared) (O:St) (H:Hp) (x:V) (xs:kK) (v:Value) (us:k9) (Q:VK),Inv X pq O H s->A7 x v->Ac xs us->r x xs H Q ->
  wpAny (model X.prog X.w) X.A (call (.builtin id)<|v::us) (EP X pq O Q) X.xe s
def Ac.one:∀{x} {us},Ac [x] us->∃u,us=[u]/\A7 x u
 |_,_,.cons r .nil=>{_,rfl,r}
def Ac.rep(h:Ac xs us):∀k ,Ac (List.replicate k xs).flatten (List.replicate k us).flatten
 |0=>.nil|k+1=>by
  exact Ac.append h<|Ac.rep h k
def aM(its):∀(k) (acc:k9),
  List.foldl (λx1 x2=>x1++x2) acc.toArray (List.replicate k its.toArray)=(acc++(List.replicate k its).flatten).toArray
 |0,acc=>by simp|k+1,acc=>by
  have e:acc.toArray++its.toArray=(acc++its).toArray:=by simp
  have e2:(acc++its)++(List.replicate k its).flatten=acc++(List.replicate (k+1) its).flatten:=by
   grind
  rw[<- e2,<- aM its k<|acc++its,<- e,List.replicate_succ,List.foldl_cons]
section
variable {X:Cx}{pq:List<|Addr×Obj}{O:St}{H:Hp}{s:Shared}{l b:Addr}{xs ys zs:kK}
def Inv.lset{its its':k9}(I:Inv X pq O H s)(hH:H l=↑(.lst xs))
  (e:s.heap.get? l=↑{ cls:=.type "list",data:=.seq its.toArray n }) (hf:f its.toArray=its'.toArray) (hv:Ac ys its') (hz:ys.length<=sizeLine) :
  Inv X pq O (upd H l<|.lst ys) { s with heap:=s.heap.update l<|Obj.mapSeq f,toks:=t' }:=by
 have q:=PySem.IsL.update e f;rw[hf]at q;refine I.write (by rw[hH];exact trivial) (.inl rfl) (λb' u hb hu=>(õ s.heap (Obj.mapSeq f)<|Î hb).trans hu) {_,q} ?_
 exact{hz,its',_,hv,q}
theorem Inv.lnew(I:Inv X pq O H s)(hv:Ac ys its)(hz:ys.length<=sizeLine) :
  Inv X pq O (upd H s.heap.objs.size<|.lst ys) { s with heap:=s.heap.push { cls:=.type "list",data:=.seq its.toArray },toks:=t' }:=
 I.laid (λ_ _ q=>Ð _ q) (Ç _) {hz,its,0,hv,â _ rfl}
def Inv.fresh(I:Inv X pq O H s):H s.heap.objs.size=none:=I.hok.fresh<|Ç _
def Inv.lstM(I:Inv X pq O H s)(hH:H l=↑(.lst xs)):xs.length<=sizeLine/\∃(its:k9) (n:Nat),Ac xs its/\xs.length=its.length/\s.heap.get? l=↑{ cls:=.type "list",data:=.seq its.toArray n }:=by
 let(z,its,n,r,e):=I.hok l _ hH;exact{(z),its,n,r,r.length,e}
def Yd(h:n<=sizeLine):Builtin.List.listTooLong n=false:=by
 exact Ù<|by lia
end
section
variable {X:Cx}
def zk1:V->kK->Hp->VK->Prop:=λx vs H Q=>∃l xs y,x=.ref l/\vs=[y]/\H l=↑(.lst xs)/\xs.length<sizeLine/\Q .non (upd H l<|.lst<|xs++[y])
def zf3:Nd X "list.append" zk1:=by
 intro pq s O H x vs v us Q I rx rv h;let(l,xs,y,rfl,rfl,hH,hz,q):=h;cases rx;let(u,rfl,ru):=rv.one;let(z,its,n,r,hl,e):=I.lstM hH;refine Ŀ F.slot_list_append {_,e,rfl} F.entry_list_append (F.args_list_append_2 _ _) (PySem.list_append l its.toArray n u<|by grind) {e,?_}
 refine{.non,_,I.lset hH e (by simp) (r.append<|.cons ru .nil) ?_,rfl,q}
 grind
def zk0:V->kK->Hp->VK->Prop:=λx vs H Q=>∃l b xs zs,x=.ref l/\vs=[.ref b]/\H l=↑(.lst xs)/\H b=↑(.lst zs)/\xs.length+zs.length<=sizeLine/\Q .non (upd H l<|.lst<|xs++zs)
def zf2:Nd X "list.extend" zk0:=by
 intro pq s O H x vs v us Q I rx rv h;let(l,b,xs,zs,rfl,rfl,hH,hB,hz,q):=h;cases rx;let(u,rfl,ru):=rv.one;cases ru;let(z,its,n,r,hl,e):=I.lstM hH;let(z2,its2,n2,r2,hl2,e2):=I.lstM hB;have hsz:its.toArray.size+its2.toArray.size<=sizeLine:=by grind
 have hlong:¬ (!its.toArray.isEmpty && Builtin.List.listTooLong (its.toArray.size+its2.toArray.size))=true:=by
  rw[Yd hsz];simp
 refine Ŀ F.slot_list_extend {_,e,rfl} F.entry_list_extend (F.args_list_extend_2 _ _)
  (AutoSeq1.list_extend_list_list_0 l its.toArray n b its2.toArray n2 hlong (by lia)<|by lia) {e,e2,?_}
 refine{.non,_,I.lset hH e (by simp) (r.append r2) ?_,rfl,q}
 grind
def rCat:R2:=λx y H Q=>∃l b xs zs,x=.ref l/\y=.ref b/\H l=↑(.lst xs)/\H b=↑(.lst zs)/\xs.length+zs.length<=sizeLine/\∀p,H p=none->Q (.ref p) (upd H p<|.lst<|xs++zs)
def zog:Ae X (binaryOp .Add) rCat:=by
 intro pq s O H x y v u Q I rx ry h;let(l,b,xs,zs,rfl,rfl,hH,hB,hz,q):=h;cases rx;cases ry;let(z,its,n,r,hl,e):=I.lstM hH;let(z2,its2,n2,r2,hl2,e2):=I.lstM hB;refine PySem.P.add_list e e2 ?_<|by grind
 have ea:its.toArray++its2.toArray=(its++its2).toArray:=by simp
 rw[ea];exact{.ref _,_,I.lnew (r.append r2) (by grind),rfl,q _ I.fresh}
def rRep:R2:=λx y H Q=>∃l k xs,x=.ref l/\y=.int k/\H l=↑(.lst xs)/\-(2 ^ 63)<=k/\k<2 ^ 63/\xs.length * k.toNat<=sizeLine /\
 ∀p,H p=none->Q (.ref p) (upd H p<|.lst (List.replicate k.toNat xs).flatten)
def zla{α:Type}(xs:List α)(k):(List.replicate k xs).flatten.length=k * xs.length:=by
 simp
def zoc:Ae X (binaryOp .Mult) rRep:=by
 intro pq s O H x y v u Q I rx ry h;let(l,k,xs,rfl,rfl,hH,h1,h2,hz,q):=h;cases rx;let(t,rfl):=ry;let(z,its,n,r,hl,e):=I.lstM hH;have hlen:its.toArray.size * k.toNat<=sizeLine:=by rw[ø,<- hl];exact hz
 have hcap:¬ its.toArray.size * k.toNat > (2 ^ 63 - 1) / 8:=by
  have:sizeLine<=(2 ^ 63 - 1) / 8:=by decide
  lia
 have hfit:¬ (!Builtin.List.listFitsIndex k)=true:=by
  rw[fitsIndex_both h1 h2];exact ü
 have hlong:¬ Builtin.List.listTooLong (its.toArray.size * k.toNat)=true:=by
  rw[Yd hlen];exact ü
 have hnew:List.foldl (λx1 x2=>x1++x2) #[] (List.replicate (if its.toArray.isEmpty=true then 0 else k.toNat) its.toArray)=(List.replicate k.toNat its).flatten.toArray:=by
  have f0 :=λm=>by
   have:=aM its m [];rw[ů]at this;exact this
  rw[f0];cases its with
  |nil=>simp|cons a r'=>rw[if_neg<|by simp]
 refine wpAny_binaryOp_repeat_ref (by decide) {_,e,rfl} (λs'=>typeIs_int s' k t) noFill_list_mul F.fills_int_mul F.slot_int_rmul repeat_list F.slot_int_index.lookup
  (Ŀ F.slot_int_rmul (typeIs_int s k t) F.entry_int_rmul (F.args_int_rmul_2 _ _) (int___rmul___int_list k t l its.toArray n)
   {e,rfl,{_,e,rfl},Ŀ F.slot_list_mul {_,e,rfl} F.entry_list_mul (F.args_list_mul_2 _ _) (AutoListH.list___mul___list_int_3 l its.toArray n k t hfit hcap hlong) {e,?_}})
 rw[hnew];exact{.ref _,_,I.lnew (r.rep k.toNat) (by rw[zla,Nat.mul_comm];exact hz),rfl,q _ I.fresh}
variable {prog:Program}{w:World}{A:Around}{E:Value->Shared->Prop}{s:Shared}
end
section
variable {X:Cx}
end
end L2
namespace Att
open PySem PySem.W PySem.Calls PyProof.Rows
def zaq:∀(ns) (vs),WellAll P h vs (ns.map WData.int)->IntsAre vs ns:=by
 intro ns
 induction ns with
 |nil=>intro vs w;cases w;exact .nil|cons n ns ih=>
  intro vs w;cases w with
  |cons a b=>cases a;exact .cons _ _<|ih _ b
def zev{l:OpenLaw}(hn:l.most=↑n)
  (hpre:l.row.toRowW.claim.pre args=true) (hwl:WellAll P h vals args) :
  ∃a vs ns,vals=[Value.ref a]/\args=[WData.list<|ns.map WData.int]/\h.get? a=↑{ cls:=.type "list",data:=.seq vs.toArray }/\IntsAre vs ns/\ns.length<=n:=by
 have hsh :=(pre_splitW hpre).1;have hc:l.pre.holds [] { args:=args }=true:=(pre_splitW hpre).2;let(d,r,rfl,h1,h2):=hasAllW_cons hsh;obtain rfl:=hasAllW_nil h2;let(xs,rfl,h3):=hasW_list h1;let(ns,rfl):=items_int h3
 have hlen:ns.length<=n:=by
  have h4:(WTm.not<|.lt (.lit<|.int n)<|.len<|.arg 0).holds [] { args:=[.list<|ns.map .int] }=true:=by
   have h4:=(holds_andW hc).1
   grind
  have h5:=condW_of h4<|w_not<|w_lt w_lit<|w_len_list<|w_arg rfl
  grind
 cases hwl with
 |cons w1 w2=>
  cases w2;cases w1 with
  |list ho hall=>exact{_,_,ns,rfl,rfl,ho,zaq ns _ hall,hlen}
def zew(l:OpenLaw)(args):l.row.toRowW.claim.post args (.bool true) args=true:=
 postW_of
  (by rfl)
  (w_eq_bool (w_res rfl) w_lit) rfl
def attach_call{l:OpenLaw}
  (hn:l.most=↑n) (hdf:d.params.defaults=[])
  (call : ∀ (w ) (s₀ s₁ ) (mg mb ) (fa ) (o ) (pm cd doc ) (a ) (vs ) (ns ),
   Ground q loose [] XP w s₀ mg mb s₁.heap->YP w s₁.heap ->
   s₁.heap.get? fa=↑o->o.data=.func (docDef d.name d.params d.body d.scope pm cd doc)->s₁.heap.CodeRec cd d.name->mg d.name=↑(.ref fa) ->
   s₁.heap.get? a=↑{ cls:=.type "list",data:=.seq vs.toArray }->IntsAre vs ns->ns.length<=n->s₁.gens=#[] ->
   codeAny (model l.prog w) callerA (.call (.ref fa) {[.ref a],[]}) (λr s'=>r=.ok (.ret<|.bool true)/\OldK s₁.heap s'.heap/\s'.os=s₁.os/\AllBare s'.gens) s₁) :
  WalkO q loose XP YP l.row.toRowW d [] (λf vs=>PySem.call f vs):=by
 intro w s₀ s₁ mg mb G τ fa o pm cd doc dV kV ho hd hcd hD hmg hg args vals as hpre hlay hrd hwl hlo;obtain rfl:dV=.none:=Dflts.none hD hdf;obtain rfl:kV=.none:=Dflts.noKw hD;let(a,vs,ns,rfl,rfl,hobj,hints,hlen):=zev hn hpre hwl;refine enter_call<|ą (call w s₀ s₁ mg mb fa o pm cd doc a vs ns G τ ho (fd_plain hd) hcd hmg hobj hints hlen hg) λr s' hq=>?_
 let(rfl,h2,h3,h4):=hq;exact{.inl {.bool true,.bool true,[],rfl,λ_=>rfl,.bool true,zew l _,λ_=>{List.Pairwise.nil,λ_ hm=>(nomatch hm)}},h2,h3,h4}
section
variable {prog:Program}{w:World}{A:Around}{E:Value->Shared->Prop}{s:Shared}{K:Frag}
end
end Att
namespace L2
open PySem PySem.Spec PyProof.Rows
def Us:∀{vs} {ns},IntsAre vs ns->Ac (ns.map V.int) vs
 |_,_,.nil=>.nil|_,_,.cons n t h=>.cons {(t),rfl}<|Us h
def Nc(H:Hp):Prop:=∀b,H b=none\/∃o xs,H b=↑(.frz o<|.lst xs)
def zhp{K }   {k:Nat}   {x:Str}{sp:Sp}
  (KX:K.In s₁.heap) (hns:s₁.heap.Ns mainGlobals mg) (hb:s₁.heap.Ns builtinsNs mb) (hbb:∀x:Str,x≠"__name__"->mb x=bootBuiltins x) (hlim:s₁.heap.NoLimit) (hg:s₁.gens=#[])
  (ha:s₁.heap.get? a=↑{ cls:=.type "list",data:=.seq vs.toArray }) (hi:IntsAre vs ns) (hl:ns.length<=sizeLine) (hr:Room k callerA)
  (F:∀base:Heap,K.In base->base.Ns mainGlobals mg->FnOk P w K mg base CX k fa fd [x] sp) (hbind:∀(s:Shared) (u:Value),BindsTo s fd {[u],[]} [(x,u)])
  (hsp:∀H:Hp,Nc H->AZ K H a (ns.map V.int)->sp [.ref a] H (λv _=>v=.bl true) λ_ _ _=>False)
  (hCX:∀H e s',CX [] H s₁ (λ_ _ _=>False) e s'->False) :
  codeAny (model P w) callerA (.call (.ref fa) {[.ref a],[]}) (λr s'=>r=.ok (.ret<|.bool true)/\OldK s₁.heap s'.heap/\s'.os=s₁.os/\AllBare s'.gens) s₁:=by
 have rv:=Us hi;have lenV:=hi.length
 have core:∀H ,Nc H->AZ K H a (ns.map V.int)->HOk P w H s₁.heap->(∀b,H b≠none->b=a)->(H a≠none->K.lookup a=none) ->
   codeAny (model P w) callerA (.call (.ref fa) {[.ref a],[]}) (λr s'=>r=.ok (.ret<|.bool true)/\OldK s₁.heap s'.heap/\s'.os=s₁.os/\AllBare s'.gens) s₁:=by
  intro H hO hS hok hA hK;have base_of:∀{b } {o },s₁.heap.get? b=↑o->H b=none->(HA s₁.heap H).get? b=↑o:=λe n=>zhx e n
  have noA:∀{b } {o } {es } {ep },s₁.heap.get? b=↑o->o.data=.dict es ep->H b=none:=λ{b o es ep} e d=>by
   cases q:H b with
   |none=>rfl|some u=>
    have e' :=hA b (by rw[q];simp)
    subst e';rw[ha]at e;cases e;have d' :=d;cases d'
  have nsK:∀{b } {m },s₁.heap.Ns b m->(HA s₁.heap H).Ns b m:=λ{b m} ⟨o,es,ep,e,d,r⟩=>{o,es,ep,base_of e<|noA e d,d,r}
  have hKb :=λb o e=>base_of (KX b o e) (by
   cases q:H b with
   |none=>rfl|some u=>
    have e' :=hA b (by rw[q];simp)
    subst e';rw[hK (by rw[q];simp)]at e;cases e)
  have hM:Mod K mg<|HA s₁.heap H:={hKb,nsK hns,{mb,nsK hb,hbb},let ⟨mc,h1,h2⟩:=hlim;{mc,nsK h1,h2}};have e0:Env0 P w K mg (HA s₁.heap H) callerA [] s₁ H:={rfl,hM,λb o e=>zkv e,Nat.le_of_eq<|zff _ _,trivial,λb hb=>absurd (show b∈[] from hb) (by simp),hok,.of_eq hg}
  refine ą ((F _ hKb<|nsK hns).run callerA [] s₁ H {[.ref a],[]} [.ref a] [.ref a] _ _ hr e0 (hbind s₁<|.ref a) (.cons rfl .nil) (hsp H hO hS)) λr s' h=>?_
  cases r with
  |error e=>exact(hCX H e s' h).elim|ok fl=>
   cases fl with
   |next=>exact False.elim h|brk=>exact False.elim h|cont=>exact False.elim h|ret u=>
    let(v,H',os,bare,un,hok',r',q):=h;have q' :=q;subst q';obtain rfl:u=Value.bool true:=r';refine{rfl,OldK.of_keep λb o e=>?_,os,bare}
    cases q:H b with
    |none=>exact un.keep b o e q (by intro z;exact absurd (show b∈[] from z)<|by simp) (by simp)|some u=>
     rcases hO b with z|⟨ob,xs,z⟩
     .rw[q]at z;cases z
     .have z2:=un.frzs b ob _ z;let(e1,_):=hok b _ z;let(e2,_):=hok' b _ z2;rw[e]at e1;cases e1;exact e2
 cases hk:K.lookup a with
 |some o=>have e:=KX a o hk;rw[ha]at e;cases e;refine core (λ_=>none) (λ_=>.inl rfl) (.inr {_,vs.toArray,_,hk,rfl,rfl,rfl,by rw[ø,lenV];exact hl,by simpa using rv}) (λb u z=>by have z' :=z;cases z') (λb z=>absurd rfl z) λz=>absurd rfl z|none=>
  refine core (λb=>if b=a then ↑(.frz { cls:=.type "list",data:=.seq vs.toArray }<|.lst<|ns.map V.int) else none) (λb=>?_) (.inl<|.inr {{ cls:=.type "list",data:=.seq vs.toArray },if_pos rfl}) (λb u z=>?_) (λb z=>?_) λ_=>hk
  .by_cases hb:b=a
   .exact .inr {_,_,if_pos hb}
   .exact .inl<|if_neg hb
  .by_cases hb:b=a
   .have z':=(if_pos hb).symm.trans z;cases z';subst hb;exact{ha,by rw[Á];exact hl,vs,_,rv,ha}
   .have z':=(if_neg hb).symm.trans z;cases z'
  .by_cases hb:b=a
   .exact hb
   .exact absurd (if_neg hb) z
def walk_of{l:PySem.W.OpenLaw}{n k:Nat}     {d:DefRec}{K:Params->k6}{CX:World->Fx}{sp:World->Sp}{x:Str}
  (hn:l.most=↑n) (hn2:n<=sizeLine) (hdf:d.params.defaults=[]) (hr:Room k callerA)
  (hY:∀(w:World) (h:Heap),YP w h->(K w.params).In h)
  (F : ∀ (w : World) (mg ) (fa : Addr) (h : Heap), (K w.params).In h -> h.Ns mainGlobals mg -> mg d.name = ↑(.ref fa) ->
   ∃fd:FuncData,(∀(s:Shared) (u:Value),BindsTo s fd {[u],[]} [(x,u)]) /\
    ∀base:Heap,(K w.params).In base->base.Ns mainGlobals mg->FnOk l.prog w (K w.params) mg base (CX w) k fa fd [x] (sp w))
  (hsp:∀(w:World) (H:Hp) (a:Addr) (ns:kF),ns.length<=n->Nc H->AZ (K w.params) H a (ns.map V.int)->sp w [.ref a] H (λv _=>v=.bl true) λ_ _ _=>False)
  (hCX:∀(w:World) (H:Hp) (s:Shared) (e:Value) (s':Shared),CX w [] H s (λ_ _ _=>False) e s'->False) :
  PySem.W.WalkO q loose XP YP l.row.toRowW d [] (λf vs=>PySem.call f vs):=by
 refine Att.attach_call hn hdf λw s₀ s₁ mg mb fa o pm cd doc a vs ns G τ ho hd hcd hmg hobj hints hlen hg=>?_
 have KX:=hY w _ τ;let(fd,hb,hF):=F w mg fa _ KX G.T.g hmg;exact zhp KX G.T.g G.T.b G.T.builtins G.T.nolimit hg hobj hints (Ü hlen hn2) hr hF hb (λH hO hS=>hsp w H a ns hlen hO hS) λH e s'=>hCX w H s₁ e s'
def Mn(s:Stmt):Arguments:=match s with
 |.FunctionDef _ a _ _ _ _ _ _ _ _=>a|_=>{ posonlyargs:=[],args:=[],vararg:=none,kwonlyargs:=[],kw_defaults:=[],kwarg:=none,defaults:=[] }
def GW(s:Stmt):kD:=match s with
 |.FunctionDef _ _ b _ _ _ _ _ _ _=>b|_=>[]
def Cj(s:Stmt):Scope:=match s with
 |.FunctionDef _ _ _ _ _ _ sc _ _ _=>sc|_=>{ kind:=.function,names:=[],isGenerator:=false,isCoroutine:=false }
abbrev LC:Fx:=λ_ _ _ _ _ _=>False
abbrev E0:XK:=λ_ _ _=>False
section
variable {P:Program}{w:World}{K:k6}{mg:Str->Option Value}{base:Heap}
variable {X:Cx}
end
def KI{A B:Prop}(h:B):if false=true then A else B:=by
 grind
def KH{A B:Prop}(h:A):if true=true then A else B:=by
 rw[if_pos rfl];exact h
def A4(H H':Hp):Prop:=∀b o,H b=↑o->H' b=↑o
theorem A4.refl(H:Hp):A4 H H:=λ_ _ h=>h
theorem A4.trans(a:A4 H H1)(b:A4 H1 H2):A4 H H2:=λc o h=>b c o<|a c o h
def A4.seq{K}(e:A4 H H')(h:AZ K H a xs):AZ K H' a xs:=by
 rcases h with (h|⟨o,h⟩)|h
 .exact .inl<|.inl<|e _ _ h
 .exact .inl<|.inr {o,e _ _ h}
 .exact .inr h
section
variable {κ:Type} [DecidableEq κ]
def EN(kvs:List<|κ×V)(k:κ):Option V:=(kvs.find? λkv=>decide (kv.1=k)).map (·.2)
def EU(kvs:List<|κ×V)(k:κ)(v:V):List<|κ×V:=
 if (kvs.any λkv=>decide (kv.1=k))=true then kvs.map (λkv=>if kv.1=k then (kv.1,v) else kv) else kvs++[(k,v)]
def LS{k:κ}(e:p.1=k):EN (p::r) k=↑p.2:=by simp[EN,e]
def LU{k:κ}(e:¬ p.1=k):EN (p::r) k=EN r k:=by simp[EN,e]
def Uu(k:κ):∀kvs ,(kvs.any λkv=>decide (kv.1=k))=(EN kvs k).isSome
 |[]=>rfl|p::r=>by
  rw[List.any_cons]
  by_cases e:p.1=k
  .erw[LS e,Ì e,Bool.true_or,ŷ]
  .rw[LU e,Ù e];exact Uu k r
def ZV(kvs)(k:κ)(v):(EU kvs k v).length<=kvs.length+1:=by
 unfold EU
 grind
def EK.isSome_eq(r:EK o u):o.isSome=u.isSome:=by
 cases o with
 |none=>cases u with
  |none=>rfl|some _=>exact(r).elim
 |some _=>cases u with
  |none=>exact(r).elim|some _=>rfl
def KV.val(r:KV kvs vs)(k:κ):EK (EN kvs k)<|valueAt vs k:=by
 induction r with
 |nil=>exact True.intro|@cons p q ps qs h t ih=>
  let(h1,h2):=h
  by_cases e:p.1=k
  .have e' :=h1.symm.trans e;have b:valueAt (q::qs) k=↑q.2:=by simp[valueAt,e']
   rw[LS e,b];exact h2
  .have e':¬ q.1=k:=λz=>e<|h1.trans z
   have b:valueAt (q::qs) k=valueAt qs k:=by simp[valueAt,e']
   rw[LU e,b];exact ih
def KV.any(r:KV kvs vs)(k:κ):(kvs.any λkv=>decide (kv.1=k))=vs.any λkv=>decide (kv.1=k):=by
 induction r with
 |nil=>rfl|cons h t ih=>grind
def KV.repl(r:KV kvs vs)(k:κ)(ry:A7 y u) :
  KV (kvs.map λkv=>if kv.1=k then (kv.1,y) else kv) (vs.map λkv=>if kv.1=k then (kv.1,u) else kv):=by
 induction r with
 |nil=>exact .nil|@cons p q ps qs h t ih=>
  refine .cons ?_ ih
  grind
def KV.put(r:KV kvs vs)(k:κ)(ry:A7 y u):KV (EU kvs k y)<|stored vs k u:=by
 unfold EU stored;rw[r.any k]
 by_cases e:(vs.any λkv=>decide (kv.1=k))=true
 .rw[if_pos e,if_pos e];exact r.repl k ry
 .rw[if_neg e,if_neg e];exact Paired.snoc r {(rfl),ry}
def KV.length{kvs:List<|κ×V}(r:KV kvs vs):kvs.length=vs.length:=Œ r
end
def SQ(r:A7 (kV k) u):(DY P w).is k u=true:=by
 cases k with
 |inl i=>let(t,e):=(r);subst e;exact Ω P w i t
 |inr x=>let(t,e):=(r);subst e;exact zd2 P w x t
def Zi:∀{ks} {us},Ac (ks.map kV) us->ItemsAre (DY P w) ks us
 |[],_,r=>by cases r;exact .nil|k::ks,_,r=>by
  cases r with
  |cons h t=>exact .cons (SQ h)<|Zi t
abbrev KT(H:Hp):List (List Key×V)->List (List Key×Addr×Value)->Prop:=Paired λp q=>p.1=q.1/\H q.2.1=↑(.tup<|p.1.map kV)/\A7 p.2 q.2.2
def KT.val(r:KT H kvs xs)(k):EK (EN kvs k) ((atKey xs k).map (·.2)):=by
 induction r with
 |nil=>exact True.intro|@cons p q ps qs h t ih=>
  let(h1,_,h2):=h
  by_cases e:p.1=k
  .have e' :=h1.symm.trans e;have b:atKey (q::qs) k=↑q.2:=by simp[atKey,e']
   rw[LS e,b];exact h2
  .have e':¬ q.1=k:=λz=>e<|h1.trans z
   have b:atKey (q::qs) k=atKey qs k:=by simp[atKey,e']
   rw[LU e,b];exact ih
def KT.repl(r:KT H kvs xs)(k)(ry:A7 y u) :
  KT H (kvs.map λkv=>if kv.1=k then (kv.1,y) else kv) (xs.map<|putAt k u):=by
 induction r with
 |nil=>exact .nil|@cons p q ps qs h t ih=>
  refine .cons ?_ ih;unfold putAt
  grind
def KT.put{H:Hp}(r:KT H kvs xs)(k:List Key){y:V}(hb:H b=↑(.tup<|k.map kV))(ry:A7 y u) :
  KT H (EU kvs k y) (storedH xs k b u):=by
 have e:(kvs.any λkv=>decide (kv.1=k))=(atKey xs k).isSome:=by
  rw[Uu,(r.val k).isSome_eq,Option.isSome_map]
 unfold EU storedH;rw[e]
 by_cases q:(atKey xs k).isSome=true
 .rw[if_pos q,if_pos q];exact r.repl k ry
 .rw[if_neg q,if_neg q];exact Paired.snoc r {(rfl),hb,ry}
theorem KT.keeps(r:KT H kvs xs)(ht:∀b ys,H b=↑(.tup ys)->H' b=↑(.tup ys)):KT H' kvs xs:=
 Paired.mapP r λ_ _ z=>{z.1,ht _ _ z.2.1,z.2.2}
section
variable {P:Program}{w:World}{H:Hp}{h:Heap}{a:Addr}
theorem WX{u:HO}(ok:HOk P w H h)(e:Rd H a u):Cz P w H h a u:=e.ok ok
theorem dD(ok:HOk P w H h)(e:Rd H a<|.dK kvs):kvs.length<=sizeLine/\(a == sysModules)=false/\∃vs,KV kvs vs/\h.DictOf (DY P w) a vs:=
 WX ok e
theorem dE(ok:HOk P w H h)(e:H a=↑(.dK kvs)):kvs.length<=sizeLine/\(a == sysModules)=false/\∃vs,KV kvs vs/\h.DictOf (DY P w) a vs:=dD ok<|.inl e
def SO(ok:HOk P w H h)(e:H a=↑(.tup<|ks.map kV)):(tupleKind<|DY P w).is h ks a:=by
 let(_,its,r,o,h1,h2,n,h3):=(ok a _ e);exact{o,its.toArray,n,h1,h2,h3,by simpa using Zi r}
def c9(ok:HOk P w H h)(e:Rd H a<|.dT kvs):kvs.length<=sizeLine/\(a == sysModules)=false /\
  ∃xs,KT H kvs xs/\h.DictOfH (tupleKind<|DY P w) a xs:=by
 let(z,y,xs,r,o,es,ep,h1,h2,h3,h4,h5):=(WX ok e);refine{z,y,xs,r,o,es,ep,h1,h2,h3,h4,λx hx=>?_,h5}
 have all:∀{l } {m },KT H l m->∀x∈m,(tupleKind<|DY P w).is h x.1 x.2.1:=by
  intro l m q
  induction q with
  |nil=>simp|@cons p q ps qs hq t ih=>
   intro x hx
   rcases(Ê.mp hx) with e|hx
   .exact SO ok<|by grind
   grind
 grind
theorem dt_of(ok:HOk P w H h)(e:H a=↑(.dT kvs)):kvs.length<=sizeLine/\(a == sysModules)=false /\
  ∃xs,KT H kvs xs/\h.DictOfH (tupleKind<|DY P w) a xs:=c9 ok<|.inl e
end
def Nm(H:Hp)(a:Addr)(y:V)(r:Option V):Prop:=
 (∃kvs k,Rd H a (.dK kvs)/\y=kV k/\r=EN kvs k)\/∃kvs k b,Rd H a (.dT kvs)/\y=.ref b/\H b=↑(.tup<|k.map kV)/\r=EN kvs k
def Nl(H:Hp)(a:Addr)(y v:V)(H':Hp):Prop:=
 (∃kvs k,H a=↑(.dK kvs)/\y=kV k/\kvs.length<sizeLine/\H'=upd H a (.dK<|EU kvs k v)) \/
 ∃kvs k b,H a=↑(.dT kvs)/\y=.ref b/\H b=↑(.tup<|k.map kV)/\kvs.length<sizeLine/\H'=upd H a (.dT<|EU kvs k v)
theorem Nm.k{k}(e:H a=↑(.dK kvs)):Nm H a (kV k)<|EN kvs k:=.inl {kvs,k,.inl e,rfl,rfl}
theorem Nl.k{k}(e:H a=↑(.dK kvs))(hl:kvs.length<sizeLine):Nl H a (kV k) v<|upd H a<|.dK<|EU kvs k v:=.inl {(kvs),k,e,rfl,hl,rfl}
section
variable {X:Cx}{pq:List<|Addr×Obj}{O:St}{H:Hp}{s:Shared}{a:Addr}{y v:V}{u r:Value}{o:Option V}{A:Around}{E:Value->Shared->Prop}
def Inv.big(I:Inv X pq O H s):sysModules<s.heap.objs.size:=by
 have h :=(I.mod.glob.keeps I.bk).lt;exact ļ (by decide) h
def zfv(hu:A.units+1<cLine)(I:Inv X pq O H s)(g:Nm H a y ↑v)(ry:A7 y u)(h:∀w' s',Inv X pq O H s'->A7 v w'->Q w' s') :
  wpAny (model X.prog X.w) A (getItem (.ref a) u) Q E s:=by
 rcases g with ⟨kvs,k,e,ey,l⟩|⟨kvs,k,b,e,ey,eb,l⟩
 .subst ey;let(z,hd,vs,rel,dd):=dD I.hok e;let(w',hw,rw'):=EK.some_of (by rw[l];exact rel.val k)
  exact wpAny_getItem_of (SQ ry) dd.mapOf hw<|h w' _ (I.tok _) rw'
 .subst ey;cases (ry);let(z,hd,xs,rel,dd):=c9 I.hok e;let(w',hw,rw'):=EK.some_of (by rw[l];exact rel.val k)
  let(p,hp,hp2):=Ö.mp hw;refine wpAny_getItem_heap (tupleKind_room_in1 hu) (SO I.hok eb) dd hp ?_;rw[hp2];exact h w' _ (I.tok _) rw'
theorem dN(I:Inv X pq O H s)(mu:Kz<|H a)(hs:Heap.SameBut a s.heap h')(he:∃q,h'.get? a=↑q)(new:Cz X.prog X.w (upd H a ob) h' a ob) :
  Inv X pq O (upd H a ob) { s with heap:=h',toks:=t' }:=
 I.write mu (.inl rfl) (λb q hb z=>(hs.2 b hb).trans z) he new
theorem zpu(z:kvs.length<=sizeLine)(hd:(a == sysModules)=false)(rel:KV kvs vs)(dd:h'.DictOf (DY P w) a vs) :
  Cz P w H' h' a (.dK kvs):={(z),hd,vs,rel,dd}
def zfu(hu:A.units+1<cLine)(I:Inv X pq O H s)(g:Nl H a y v H')(ry:A7 y u)(rv:A7 v r)(h:∀s',Inv X pq O H' s'->Q () s') :
  wpAny (model X.prog X.w) A (setItem (.ref a) u r) Q E s:=by
 rcases g with ⟨kvs,k,e,ey,l,eH⟩|⟨kvs,k,b,e,ey,eb,l,eH⟩
 .subst ey eH;let(z,hd,vs,rel,dd):=dE I.hok e;have hz:vs.length<=sizeLine:=by rw[<- rel.length];exact z
  have hl:(EU kvs k v).length<=sizeLine:=by have:=ZV kvs k v;lia
  refine wpAny_setItem_pairs (SQ ry) dd λh' dd' hs=>h _ ?_
  have he:∃q,h'.get? a=↑q:=let ⟨q,_,_,hq,_⟩:=dd';{(q),hq};exact dN I (by rw[e];exact True.intro) hs he<|zpu hl hd (rel.put k rv) dd'
 .subst ey eH;cases (ry);let(z,hd,xs,rel,dd):=dt_of I.hok e;have hz:xs.length<=sizeLine:=by rw[<- Œ rel];exact z
  have hl:(EU kvs k v).length<=sizeLine:=by have:=ZV kvs k v;lia
  refine wpAny_setItem_heap (tupleKind_room_in1 hu) (SO I.hok eb) dd λh' dd' hs=>h _ ?_
  let(q,es,ep,hq,h2,h3,h4,_,h5):=dd';refine dN I (by rw[e];exact True.intro) hs {(q),hq} {hl,hd,_,(rel.put k eb rv).keeps λc ys ec=>?_,q,es,ep,hq,h2,h3,h4,h5}
  rw[An<|ne_of ec e<|λz=>nomatch z]
  exact ec
variable {kvs:List<|Key×V}{k:Key}
end
section
variable {X:Cx}{o i e value:Expr}{pos pos' tpos:Pos}{td ty tv:TE}
end
theorem zie(h:Heap)(hb:sysModules<h.objs.size):Cz P w H (h.push { cls:=.type "dict",data:=.dict #[]}) h.objs.size<|.dK []:=
 {ô _,beq_eq_false_iff_ne.mpr<|Î<|Õ hb,[],.nil,Heap.DictOf.new h}
section
variable {X:Cx}{pos:Pos}
variable {pq:List<|Addr×Obj}{O:St}{H:Hp}{s:Shared}{a:Addr}{y d:V}{u r:Value}{o:Option V}{A:Around}{E:Value->Shared->Prop}
end
section
variable {X:Cx}{o e f:Expr}{apos cpos:Pos}{td ty tx:TE}
variable {pq:List<|Addr×Obj}{O:St}{H:Hp}{s:Shared}{a:Addr}{kvs:List<|Key×V}{A:Around}{E:Value->Shared->Prop}
end
section
variable {X:Cx}{pq:List<|Addr×Obj}{O:St}{H:Hp}{s:Shared}{a:Addr}{y:V}{u:Value}{A:Around}{E:Value->Shared->Prop}
end
end L2
namespace Zm
def zic(a b):Int.gcd b (a.fmod b)=Int.gcd a b:=by
 rw[Int.fmod_def,Int.gcd_comm a b];simp
def fmod_less(a:Int)(h:b≠0):(a.fmod b).natAbs<b.natAbs:=by
 rcases Int.lt_or_gt_of_ne h with hb|hb
 .have e:a.fmod b=-((-a).fmod (-b)):=by rw[Int.neg_fmod_neg,Int.neg_neg]
  have h1:=û (-a)<|show 0 < -b by lia
  have h2:=ĉ (-a)<|show 0 < -b by lia
  lia
 .have h1:=û a hb;have h2:=ĉ a hb
  lia
def gd(a b:Int):Int:=(Int.gcd a b:Nat)
def gd_end(hg:gd a b=gd a0 b0)(hb:b=0):(if a<0 then -a else a)=gd a0 b0:=by
 subst hb;rw[<- hg];unfold gd;rw[Int.gcd_zero_right]
 lia
def gd_turn(hg:gd a b=gd a0 b0):gd b (a.fmod b)=gd a0 b0:=by
 rw[<- hg];unfold gd;rw[zic]
def gd_abs(a b):gd (if a<0 then -a else a) (if b<0 then -b else b)=gd a b:=by
 unfold gd
 have e1:Int.gcd (if a<0 then -a else a) (if b<0 then -b else b)=Int.gcd a b:=by
  split<;>split<;>simp[Int.gcd_neg]
 rw[e1]
def gd_pos{a b:Int}(h:b≠0):0<gd a b:=by
 unfold gd
 simp_all
def gd_le(h:0<b):gd a b<=b:=by
 exact Int.le_of_dvd h<|Int.gcd_dvd_right a b
def lt(t b:Int):Int:=t.fdiv<|gd t b
def lb(t b:Int):Int:=b.fdiv<|gd t b
def cQ{x g:Int}(hg:g≠0)(h:g ∣ x):x.fdiv g * g=x:=by
 rw[ď];exact Int.mul_fdiv_cancel' h
def lt_mul(h:b≠0):lt t b * gd t b=t:=by
 exact cQ (by have:=gd_pos (a:=t) h;lia)<|Int.gcd_dvd_left t b
def lb_mul(h:b≠0):lb t b * gd t b=b:=by
 exact cQ (by have:=gd_pos (a:=t) h;lia)<|Int.gcd_dvd_right t b
def lb_pos(h:0<b):0<lb t b:=by
 have h1:=lb_mul (t:=t)<|show b≠0 by lia
 have h2:=gd_pos (a:=t)<|show b≠0 by lia
 rcases ģ 0 (lb t b) with q|q
 .exact q
 .have:=Int.mul_nonpos_of_nonpos_of_nonneg q<|Ľ h2
  lia
def zeo{x g:Int}(h:0<g):x.natAbs<=(x * g).natAbs:=by
 rw[Int.natAbs_mul];exact Nat.le_mul_of_pos_right _<|by lia
def lb_le(h:0<b):lb t b<=b:=by
 have h1:=lb_mul (t:=t)<|show b≠0 by lia
 have h2:=zeo (x:=lb t b)<|gd_pos (a:=t)<|show b≠0 by lia
 grind
def gd_low(h:b≠0):gd (lt t b) (lb t b)=1:=by
 have hp:=gd_pos (a:=t) h;unfold lt lb gd;have hp':0<Int.gcd t b:=by unfold gd at hp;lia
 have e:=Int.gcd_ediv_gcd_ediv_gcd hp';rw[š _<|Ÿ _,š _<|Ÿ _,e]
 rfl
end Zm
namespace Zw
open PySem PySem.Spec PyProof.Rows L2
def Sm(i:Int):Prop:=-(10 ^ 70)<i/\i<10 ^ 70
def Sm.nat{i:Int}(h:Sm i):i.natAbs<10 ^ 70:=by
 unfold Sm at h
 lia
def znv:10 ^ 70<=2 ^ 300:=by decide +kernel
def Sm.log(h:Sm i):i.natAbs.log2<300:=by
 by_cases z:i.natAbs=0
 .simp_all
 .exact(Nat.log2_lt z).mpr (Û h.nat znv)
def Sm.bits(h:Sm i):Builtin.Int.intBits i<=2 ^ 20:=by
 have q:=h.log;unfold Builtin.Int.intBits
 grind
section
variable {X:Cx}
theorem zkl:Ae X (binaryOp .Mult)<|rI (λi j=>Sm i/\Sm j) λi j=>.int<|i * j:=Jk λ_ _ _ _ _ _ _ hc q=>mul_int q<|.of_bits hc.1.bits hc.2.bits
theorem zhh:Ae X (binaryOp .FloorDiv)<|rI (λ_ j=>j≠0/\Sm j) λi j=>.int<|i.fdiv j:=
 Jk λ_ _ _ _ _ _ _ hc q=>floordiv_int hc.1 q<|.inl<|PyProof.noPylong_of_log2<|ļ hc.2.log<|by decide
def Zn(r:A7 x v):PySem.plainIs v (.bool b)=true/\(v == Value.bool b)=decide (x=V.bl b):=by
 cases x with
 |non=>cases r;exact{rfl,by simp}|bl c=>cases r;exact{rfl,by grind}|int i=>let(t,rfl):=r;exact{rfl,by simp}
 |str i=>let(t,rfl):=r;exact{rfl,by simp}
 |byt i=>let(t,rfl):=r;exact{rfl,by simp}
 |flt i=>let(t,rfl):=r;exact{rfl,by simp}
 |ref i=>cases r;exact{rfl,by simp}|ty i=>cases r;exact{rfl,by simp}
def zof:Ae X (compareOp .Is) (λx y H Q=>∃b,y=.bl b/\Q (.bl<|decide (x=.bl b)) H):=by
 intro pq s O H x y v u Q I rx ry h;let(b,rfl,q):=h;cases ry;let(e1,e2):=Zn rx;exact wpAny_is_plain e1<|K1 I q e2.symm
def zkk:Ae X (compareOp .IsNot) (λx y H Q=>∃b,y=.bl b/\Q (.bl<|!decide (x=.bl b)) H):=by
 intro pq s O H x y v u Q I rx ry h;let(b,rfl,q):=h;cases ry;let(e1,e2):=Zn rx;exact wpAny_isNot_plain e1<|K1 I q<|by rw[e2]
def zir:Bp X (.builtin "isinstance") (λxs H Q=>∃x t b,xs=[x,.ty c]/\TyOf X.K H x t/\W.kitOne X.K t (.type c)=↑b/\Q (.bl b) H):=by
 intro pq s O H xs us Q I r h;let(x,t,b,rfl,ty,e,q):=h;let(u,w',rfl,rx,ry):=G6 r;cases ry;exact SW I rx ty e λtk=>{.bl b,H,I.tok _,rfl,q}
variable {pos:Pos}
end
section
variable {X:Cx}
end
def zd5:W.kitMeta "int"=true:=by decide +kernel
def zc3:W.kitMeta "bool"=true:=by decide +kernel
def zbn:W.kitMeta "tuple"=true:=by decide +kernel
def zhq(K)(c):W.kitOne K (.type c) (.type c)=↑true:=by
 unfold W.kitOne;simp
def zp9(K){l:k9}(h:t≠c)(hm:W.kitMeta c=true)(hl:(fastBuiltinMro t).map (·.contains (Value.type c))=↑b):W.kitOne K (.type t) (.type c)=↑b:=by
 unfold W.kitOne;rw[if_neg<|by simpa using h]
 show(if W.kitMeta c=true then W.subIn K (.type t) (.type c) else none)=↑b
 rw[if_pos hm];exact hl
structure FunD(K:k6)(x qual:Str)(st:Stmt)(f:Addr)(fd:FuncData):Prop where
 ex:∃(oc:Value) (od:Option Addr) (dV kV doc pm:Value) (an:Option Addr) (cdv ct:Value) (osl:Array<|Option Value),
  fd=W.fnOf x qual (Mn st) (GW st) (Cj st) dV kV doc pm an cdv ct/\K.lookup f=↑{oc,od,.func fd,osl}/\W.codeIn K cdv qual=true
 kp:W.keepIn K (.ref f)=true
theorem zlq{K}{st}{dV kV doc pm cdv ct}(l:K.lookup f=↑{oc,od,.func<|W.fnOf x qual (Mn st) (GW st) (Cj st) dV kV doc pm an cdv ct,osl})
  (c:W.codeIn K cdv qual=true) (k:W.keepIn K (.ref f)=true):FunD K x qual st f<|W.fnOf x qual (Mn st) (GW st) (Cj st) dV kV doc pm an cdv ct:={{(oc),od,dV,kV,doc,pm,an,cdv,ct,osl,rfl,l,c},k}
structure Tx(K:k6)(mg:Str->Option Value)(x:Str)(st:Stmt)(ps:kE) where
 f:Addr
 fd:FuncData
 F:FunD K x x st f fd
 m:mg x=↑(.ref f)
 b:C6 K fd ps []
section
variable {X:Cx}{k j:Nat}{x:Str}{ps:kE}{sp:Sp}{p pos:Pos}{e:Expr}{es:kC}{t:TA}
end
theorem Fh(h:H p=none)(o):A4 H<|upd H p o:=λb u q=>by
 rw[An<|Cr q h];exact q
def zpx(X:Cx)(scope:Scope)(cl:List<|Str×Addr)(N':kE)(C:Addr)(s₀:Shared)(H₀:Hp)(ex:List Addr):Cx:=
 { X with N:=N',s₀:=s₀,H₀:=H₀,env:=compEnvC scope cl C X.env,outer:=X.stack,ex:=ex,fn:=λ_=>false,xe:=λ_ _=>False }
theorem HOk.adopt(x:HOk P w H h)(hn:H a=none)(new:Cz P w (upd H a o) h a o):HOk P w (upd H a o) h:=λb u e=>by
 by_cases hb:b=a
 .subst hb;rw[CJ]at e
  grind
 .rw[An hb]at e;exact(x b u e).stay (λc v _ q=>q) (λc q=>by rw[An<|Cr q hn];exact q) λc xs q=>by rw[An<|Cr q hn];exact q
section
variable {X:Cx}{elt iter tg:Expr}{scope:Scope}{pos:Pos}{cl:List<|Str×Addr}{N':kE}{wi:TI}{g:TG}{te:TE}
end
end Zw
namespace Zx
open PySem PySem.Spec PyProof.Rows L2 Zw
def NG(h B:Heap)(a:Addr)(cls:Value×Option Addr)(fl:Value):Prop:=
 ∃oe vs T oT ts,h.get? a=↑oe/\((oe.cls,oe.dict)=cls/\vs[2]?=↑.none)/\oe.data=.fields vs/\vs[1]?=↑(.ref T)/\B.get? T=none/\T≠a/\h.get? T=↑oT/\oT.data=.fields ts/\ts[3]?=↑fl
def LA(B:Heap)(l:List Env)(a:Addr)(cls:Value×Option Addr)(h:Heap):Prop:=B.StaysIn h/\B.get? a=none/\h.FunFrames B l/\NG h B a cls .none
def U0(B:Heap)(l:List Env)(a:Addr)(cls:Value×Option Addr)(L:Addr)(h:Heap):Prop:=B.StaysIn h/\B.get? a=none/\h.FunFrames B l/\NG h B a cls (rawInt L)
def zf5(f)(o):((Obj.mapFields f o).cls,(Obj.mapFields f o).dict)=(o.cls,o.dict):=by
 unfold Obj.mapFields;split<;>rfl
section
variable {M:Model}{A:Around}{E:Value->Shared->Prop}{s:Shared}{B:Heap}{env v:Env}{l:List Env}{L a:Addr}{cls:Value×Option Addr}{Q:Unit->Shared->Prop}
def cZ(hfr:A.frames=↑(v::l))(hl:s.heap.FunFrames B<|v::l)(hL:v.frame=↑L)(he:s.heap.get? a=↑oe)(hk:B.StaysIn s.heap)(ha:B.get? a=none)
  (hd:oe.data=.fields vs) (hsz:1<vs.size) (h2:vs[2]?=↑.none) (h:∀h',U0 B (v::l) a (oe.cls,oe.dict) L h'->s.heap.UpToSlots h'->Q () { s with heap:=h' }) :
  wpAny M A (do let f <- frameOf v;let pl <- entryPlaceOf L hn;let b <- EntryCells.newEntry head f .none (rawInt L) .none pl;setField (.ref a) 1 b) Q E s:=by
 have nof:a∉(v::l).filterMap (·.frame):=λz=>by
  let(_,o,ho,n):=hl.mem z;rw[he]at ho;cases ho;exact n vs hd
 refine À<|wpAny_frameOf_fun hfr hl hL λh1 k1=>?_
 refine À<|wpAny_entryPlaceOf λpl hpl=>?_
 unfold EntryCells.newEntry newFields;refine À<|Κ ?_<|hpl.sizeOk5 _ _ _ _ _;have e1 :=(k1.2.1 a nof).trans he;have b1:B.StaysIn h1:=λb o q=>(k1.2.1 b λz=>by rw[(hl.mem z).1]at q;cases q).trans (hk b o q)
 have ne :=Ģ<|Ä e1;refine Ř (Ð _ e1) hd hsz ?_;have hd3:=Ō hd (·.setIfInBounds 1 (Value.ref h1.objs.size));have kp:∀nw b o,b≠a->h1.get? b=↑o->((h1.push nw).update a (Obj.mapFields (·.setIfInBounds 1 (Value.ref h1.objs.size)))).get? b=↑o:=λnw b o n q=>(õ _ _<|Î n).trans (Ð _ q)
 have nr:∀b o,s.heap.get? b=↑o->(∀ws,o.data≠.fields ws)->b≠a:=λb o q n z=>by
  rw[z,he]at q;cases q;exact n vs hd
 have sm:∀nw,s.heap.UpToSlots ((h1.push nw).update a (Obj.mapFields (·.setIfInBounds 1 (Value.ref h1.objs.size)))):=λnw b o q n=>by
  let(sl,q1):=k1.2.2 b o q;exact{sl,kp nw b _ (nr b o q n) q1}
 refine h _ {λb o q=>kp _ b o (λz=>by rw[z,ha]at q;cases q)<|b1 b o q,ha,hl.of_keeps λb o q n=>?_,_,_,h1.objs.size,_,_,ć _ (Ð _ e1)<|Ŭ hd3,{by rw[zf5],?_},hd3,by simp[hsz],b1.fresh,ne,
  (õ _ _<|Î ne).trans (â h1 rfl),rfl,?_}<|sm _
 .let(sl,q1):=sm _ b o q n;exact{_,q1,rfl}
 .rw[Array.getElem?_setIfInBounds_ne<|by decide]
  exact h2
 .first|(simp;done)|(rcases hpl with rfl|⟨_,_,_,_,_,_,_,rfl⟩<;>simp)
def zls(hk:B.StaysIn s.heap)(ha:B.get? a=none)(hl:s.heap.FunFrames B l)(ht:NG s.heap B a cls fl)(h:∀h',LA B l a cls h'->s.heap.UpToSlots h'->Q () { s with heap:=h' }):wpAny M A (setFlight (.ref a) none) Q E s:=by
 let(oe,vs,T,oT,ts,he,hc,hd,g1,nT,Tne,hT,dT,g3):=ht;have s3:3<ts.size:=(Ĭ.mp g3).1;have oth:∀b,b≠T->(s.heap.update T (Obj.mapFields (·.setIfInBounds 3 ((none:Option Addr).elim Value.none λf=>rawInt f)))).get? b=s.heap.get? b:=λb hb=>õ _ _<|Î hb
 have nr:∀b o,s.heap.get? b=↑o->(∀ws,o.data≠.fields ws)->b≠T:=λb o q n z=>by
  rw[z,hT]at q;cases q;exact n ts dT
 unfold setFlight;refine À<|ù he hd g1 ?_;rw[if_pos<|by simp]
 exact Ř hT dT s3 (h _ {λb o q=>(oth b λz=>by rw[z,nT]at q;cases q).trans (hk b o q),ha,hl.of_keeps λb o q n=>{o,(oth b<|nr b o q n).trans q,rfl},
  oe,vs,T,_,_,(oth a<|Î Tne).trans he,hc,hd,g1,nT,Tne,ć _ hT<|Ŭ<|Ō dT _,Ō dT _,by simp[s3]} λb o q n=>{o.slots,(oth b<|nr b o q n).trans q})
theorem Z5(hh:U0 B l a cls L s.heap)(hQ:∀h',LA B l a cls h'->s.heap.UpToSlots h'->Q () { s with heap:=h' }):wpAny M A (setFlight (.ref a) none) Q E s:=
 zls hh.1 hh.2.1 hh.2.2.1 hh.2.2.2 hQ
structure MadeO(h h':Heap)(a:Addr)(cls:Value×Option Addr):Prop where
 keeps:∀b o,h.get? b=↑o->h'.get? b=↑o
 new:h.get? a=none
 there:∃oe t,h'.get? a=↑oe/\(oe.cls,oe.dict)=cls/\oe.data=.fields #[.ref t,.none,.none,.none,.bool false,.none]
theorem madeO(hx:Heap.MadeExcOf h h' a c args):MadeO h h' a (c,none):=
 {hx.keeps,hx.new,let ⟨t,he,_,_⟩:=hx.there;{_,t,he,rfl,rfl}}
def madeX(hfr:A.frames=↑(v::l))(hL:v.frame=↑L)(hk:B.StaysIn h)(hl:h.FunFrames B<|v::l)(hx:MadeO h s.heap a cls)
  (hQ:∀h',LA B l a cls h'->s.heap.UpToSlots h'->Q () { s with heap:=h' }):wpAny M A (leaving v<|.ref a) Q E s:=by
 let(oe,t,he,rfl,hd):=hx.there
 have fr:B.get? a=none:=by
  cases q:B.get? a with
  |none=>rfl|some o=>have:=hk a o q;rw[hx.new]at this;cases this
 unfold leaving noteFrame;erw[hL];refine À<|À<|ù he hd rfl ?_;refine cZ hfr (hl.of_keeps λb o q _=>{o,hx.keeps b o q,rfl}) hL he (λb o q=>hx.keeps b o<|hk b o q) fr hd (by simp) rfl λh1 k1 sm=>Z5 k1 λh2 k2 sm2=>?_
 let(k1,k2,(_,_,k3),k4):=k2;exact hQ h2 {(k1),k2,k3,k4}<|sm.trans sm2
end
def Nk(B:Heap)(l:List Env)(a:Addr)(cls:Value×Option Addr)(h:Heap):Prop:=∃fl,B.StaysIn h/\B.get? a=none/\h.FunFrames B l/\NG h B a cls fl
theorem cH(x:LA B l a cls h):Nk B l a cls h:={.none,x}
section
variable {M:Model}{A:Around}{E:Value->Shared->Prop}{s:Shared}{B:Heap}{env v:Env}{l:List Env}{L a:Addr}{cls:Value×Option Addr}{Q:Unit->Shared->Prop}
def Yc(hfr:A.frames=↑(v::l))(hv:env.frame=v.frame)(hL:v.frame=↑L)(hx:Nk B (v::l) a cls s.heap)(hQ:∀h',U0 B (v::l) a cls L h'->s.heap.UpToSlots h'->Q () { s with heap:=h' }):wpAny M A (noteFrame (.ref a) env) Q E s:=by
 have en:noteFrame (.ref a) env=noteFrame (.ref a) v:=by
  unfold noteFrame PySem.frameOf;rw[hv]
 rw[en];let(fl,f1,f2,f3,f4):=hx
 by_cases hfl:fl=rawInt L
 .subst hfl;let(oe,ws,Tb,oT,ts,ha,_,hd,g1,_,_,hT,dT,g3):=id f4;unfold noteFrame;erw[hL];refine À<|ù ha hd g1 ?_;rw[if_pos<|by simp]
  refine À<|ù hT dT g3 ?_;rw[if_pos<|by simp]
  exact Å<|hQ _ {(f1),f2,f3,f4}<|.refl _
 .let(oe,ws,Tb,oT,ts,ha,(rfl,g0),hd,g1,nT,Tne,hT,dT,g3):=f4;have g3s:=(Ĭ.mp g3).1;have oth:∀b,b≠Tb->(s.heap.update Tb (Obj.mapFields (·.setIfInBounds 3 Value.none))).get? b=s.heap.get? b:=λb hb=>õ _ _<|Î hb
  have nr:∀b o,s.heap.get? b=↑o->(∀us,o.data≠.fields us)->b≠Tb:=λb o hb hn z=>by
   rw[z,hT]at hb;cases hb;exact hn ts dT
  unfold noteFrame;erw[hL];refine À<|ù ha hd g1 ?_;rw[if_pos<|by simp]
  refine À<|ù hT dT g3 ?_;rw[if_neg<|λz=>hfl<|beq_iff_eq.mp z]
  refine À<|Ř hT dT g3s ?_;refine cZ hfr (f3.of_keeps λb o hb hn=>{o,(oth b<|nr b o hb hn).trans hb,rfl}) hL ((oth a<|Î Tne).trans ha) (λb o hb=>(oth b λz=>by rw[z,nT]at hb;cases hb).trans (f1 b o hb)) f2 hd (Ĭ.mp g1).1 g0 λh' k k4=>?_
  exact hQ h' k λb o hb hn=>k4 b o ((oth b<|nr b o hb hn).trans hb) hn
def leavX(hfr:A.frames=↑(v::l))(hL:v.frame=↑L)(hx:Nk B (v::l) a cls s.heap)(hQ:∀h',LA B l a cls h'->s.heap.UpToSlots h'->Q () { s with heap:=h' }):wpAny M A (leaving v<|.ref a) Q E s:=by
 refine À<|Yc hfr rfl hL hx λh1 hh sm1=>Z5 hh λh2 hf sm2=>?_
 let(k1,k2,(_,_,k3),k4):=hf;exact hQ h2 {(k1),k2,k3,k4}<|sm1.trans sm2
end
def DA(P:Program)(w:World):Fx:=λouter H s E e s'=>∃(a:Addr) (cls:Value×Option Addr) (H':Hp) (B:Heap),
 e=.ref a/\s'.os=s.os/\AllBare s'.gens/\Un (B9 outer) [] H H' s.heap s'.heap/\HOk P w H' B/\(∀b o,s.heap.get? b=↑o->H b=none->b∉B9 outer->B.get? b=↑o) /\
 (∀b o,s.heap.get? b=↑o->b∉B9 outer->∃o',B.get? b=↑o')/\Nk B outer a cls s'.heap/\E cls.1 cls.2 H'
def Cy(X:Cx)(E:L2.St->XK):Prop:=∀(pq:List<|Addr×Obj) (O:L2.St) (H:Hp) (s:Shared) (e:Value) (s':Shared),Inv X pq O H s->DA X.prog X.w X.stack H s (E O) e s'->X.xe e s'
def UW(X:Cx)(E:L2.St->XK):Prop:=∀(pq:List<|Addr×Obj) (O:L2.St) (H:Hp) (s:Shared) (a:Addr) (cls:Value) (vs:k9) (h':Heap),Inv X pq O H s->Heap.MadeExcOf s.heap h' a cls vs->E O cls none H->X.xe (.ref a) { s with heap:=h' }
section
variable {X:Cx}{pq:List<|Addr×Obj}{O:L2.St}{H:Hp}{s:Shared}
theorem MG(I:Inv X pq O H s)(e:X.s₀.heap.get? b=↑o)(hb:b∉B9 X.outer):b∉B9 X.stack:=λz=>by
 rcases Ê.mp (I.stkSub b z) with q|q
 .exact absurd (Û (Ä e) I.ok.above) (by rw[q];exact Þ _)
 .exact hb q
def zeu(hst:X.stack=X.env::X.outer)(hb:b∈B9 X.outer):b∈B9 X.stack:=by
 rw[hst];let(v,h1,h2):=Ĳ.mp hb;exact Ĳ.mpr {v,É _ h1,h2}
theorem zpl(I:Inv X pq O H s):HOk X.prog X.w H<|W.hideAll s.heap<|B9 X.stack:=λb u e=>(I.hok b u e).stay (λc v hc q=>ĝ _ q λz=>by
  have f:=I.stkFree c z
  grind) (λ_ q=>q) λ_ _ q=>q
def made_ok(hst:X.stack=X.env::X.outer)(hf:X.env.frame=↑X.env.locals)(hex:X.ex=[])       (I:Inv X pq O H s)(hx:Heap.MadeExcOf s.heap h' a cls vs)(he:E cls none H) :
  wpAny (model X.prog X.w) X.A (leaving X.env<|.ref a) (λ_ s2=>DA X.prog X.w X.outer X.H₀ X.s₀ E (.ref a) s2) Ex { s with heap:=h' }:=by
 have nex:∀b ,b∉X.ex:=λb z=>by grind
 have hfr :=hst▸I.ok.frames
 have FF:s.heap.FunFrames (W.hideAll s.heap<|B9 X.stack)<|X.env::X.outer:=by
  rw[<- hst];exact W.funFrames_hide I.stack λv hv b hb=>Ĳ.mpr {(v),hv,hb}
 refine madeX hfr hf (λb o q=>ı _ q) FF (madeO hx) λh2 fl sm=>?_
 have kB :=λb o e n hb=>ĝ _ (I.base.keep b o e n hb<|nex b)<|MG I e hb
 have tB:∀b o,X.s₀.heap.get? b=↑o->b∉B9 X.outer->∃o',(W.hideAll s.heap<|B9 X.stack).get? b=↑o':=λb o e hb=>by
  let(o',e'):=I.base.there b o e<|nex b;exact{o',ĝ _ e'<|MG I e hb}
 have sl:∀b o,X.s₀.heap.get? b=↑o->X.H₀ b=none->b∈B9 X.outer->∃z,h2.get? b=↑{ o with slots:=z }:=λb o e n hb=>by
  let(z,e1):=I.base.slot b o e n hb<|nex b;let(_,o2,ho2,hd):=I.funs.mem hb;rw[e1]at ho2;cases ho2;let(z3,e3):=sm b { o with slots:=z } (hx.keeps b _ e1) hd
  exact{(z3),e3}
 refine{a,(cls,none),H,_,rfl,I.os,I.bare,{λb o e n hb _=>fl.1 b o<|kB b o e n hb,λb o e n hb _=>sl b o e n hb,λb o e n _=>I.base.free b o e n<|nex b,λb o e _=>?_,I.base.tups,I.base.frzs,I.base.tbls},zpl I,kB,tB,cH fl,he}
 by_cases hb:b∈B9 X.outer
 .let(z,q):=sl b o e (I.ok.frf b hb) hb;exact{_,q}
 .let(o',q):=tB b o e hb;exact{o',fl.1 b o' q}
def zki(hst:X.stack=X.env::X.outer)(hf:X.env.frame=↑X.env.locals)(hex:X.ex=[])     (I:Inv X pq O H s)(h:DA X.prog X.w X.stack H s E e s') :
  wpAny (model X.prog X.w) X.A (leaving X.env e) (λ_ s2=>DA X.prog X.w X.outer X.H₀ X.s₀ E e s2) Ex s':=by
 let(a,cls,H',B,rfl,os,bare,un,hok,kB0,tB0,fl0,he):=h;have nex:∀b ,b∉X.ex:=λb z=>by rw[hex]at z;cases z
 have hfr :=hst▸I.ok.frames;have fl1 :=hst▸fl0;refine leavX hfr hf fl1 λh2 fl sm=>?_
 have kB :=λb o e n hb=>kB0 b o (I.base.keep b o e n hb<|nex b) (I.base.free b o e n<|nex b)<|MG I e hb
 have tB:∀b o,X.s₀.heap.get? b=↑o->b∉B9 X.outer->∃o',B.get? b=↑o':=λb o e hb=>by
  let(o',e'):=I.base.there b o e<|nex b;exact tB0 b o' e'<|MG I e hb
 have sl:∀b o,X.s₀.heap.get? b=↑o->X.H₀ b=none->b∈B9 X.outer->∃z,h2.get? b=↑{ o with slots:=z }:=λb o e n hb=>by
  let(z,e1):=I.base.slot b o e n hb<|nex b;let(_,o2,ho2,hd):=I.funs.mem hb;rw[e1]at ho2;cases ho2;let(z2,e2):=un.slot b { o with slots:=z } e1 (I.base.free b o e n<|nex b) (zeu hst hb)<|by simp
  let(z3,e3):=sm b { o with slots:=z2 } e2 hd
  exact{(z3),e3}
 refine{a,cls,H',B,rfl,os.trans I.os,bare,{λb o e n hb _=>fl.1 b o<|kB b o e n hb,λb o e n hb _=>sl b o e n hb,λb o e n _=>?_,λb o e _=>?_,λb xs e=>un.tups b xs<|I.base.tups b xs e,λb o u e=>un.frzs b o u<|I.base.frzs b o u e,λb ps e=>?_},hok,kB,tB,cH fl,he}
 .let(o',e'):=I.base.there b o e<|nex b;exact un.free b o' e' (I.base.free b o e n<|nex b)<|by simp
 .by_cases hb:b∈B9 X.outer
  .let(z,q):=sl b o e (I.ok.frf b hb) hb;exact{_,q}
  .let(o',q):=tB b o e hb;exact{o',fl.1 b o' q}
 .let(m1,e1):=I.base.tbls b ps e;let(m2,e2):=un.tbls b _ e1;exact{m1++m2,e2.trans<|by rw[Array.append_assoc]}
end
section
variable {P:Program}{w:World}{K:k6}{mg:Str->Option Value}{base:Heap}
theorem Qf:Cy (F9 (DA P w) P w K mg base N qual sc f cd A outer s H E)<|λ_=>E:=
 λ_ _ _ _ _ _ I h=>zki rfl rfl rfl I h
theorem Qo:UW (F9 (DA P w) P w K mg base N qual sc f cd A outer s H E)<|λ_=>E:=
 λ_ _ _ _ _ _ _ _ I hx he=>made_ok rfl rfl rfl I hx he
def Qh{st }      (F:FunD K x qual st f fd)(S:FnScope N ps<|Cj st)(len:∀vs H Q E,sp vs H Q E->vs.length=ps.length)
  (hbody : ∀ (cdv ) (A ) (outer ) (s ) (H ) (vs ) (Q ) (E ), Room k (A.deeper<|envOfC qual (Cj st) s.heap.objs.size f cdv) -> sp vs H Q E ->
   ∃t,B5 (F9 (DA P w) P w K mg base N qual (Cj st) f cdv A outer s H E) (GW st) t/\t { nx:=λ_ H'=>Q .non H',rt:=Q } (start N vs) H):FnOk P w K mg base (DA P w) (k+1) f fd ps sp:=by
 let(oc,od,dV,kV,doc,pm,an,cdv,ct,osl,rfl,lk,hcd):=F.ex;exact fn_of lk hcd S len λA outer s H vs Q E hr hsp=>hbody cdv A outer s H vs Q E hr hsp
end
structure DefX(P:Program)(w:World)(K:k6)(mg:Str->Option Value)(base:Heap)(k:Nat)(x:Str)(ps:kE)(sp:Sp) where
 f:Addr
 fd:FuncData
 ok:FnOk P w K mg base (DA P w) k f fd ps sp
 m:mg x=↑(.ref f)
 kp:W.keepIn K (.ref f)=true
 b:C6 K fd ps []
structure DefsX(K:k6)(fd:FuncData)(ps:kE)(dvs:kK):Prop where
 ex:∃ds,C6 K fd ps ds/\Ac dvs ds
section
variable {X:Cx}{k j:Nat}{f:Addr}{fd:FuncData}{x:Str}{ps:kE}{sp:Sp}{p pos:Pos}{e:Expr}{es:kC}{t:TA}{E:L2.St->XK}{dvs:kK}
def QK{O:L2.St}      (F:FnOk X.prog X.w X.K X.mg X.base (DA X.prog X.w) k f fd ps sp)(hr:Room k X.A)(hb:C6 X.K fd ps ds)(hd:Ac dvs ds)(hx:Cy X E)
  (I:Inv X pq O H s) (r:Ac vs us) (h:sp (vs++dvs) H Q<|E O):wpAny (model X.prog X.w) X.A (call (.ref f) us) (EP X pq O Q) X.xe s:=by
 have r2 :=r.append hd;have hl :=r2.length.symm.trans<|F.len _ _ _ _ h;refine ĩ<|ą (F.run X.A X.stack s H {us,[]} (us++ds) (vs++dvs) Q (E O) hr I.env0 (hb s us I.kIn hl) r2 h) λr s' hq=>?_
 cases r with
 |error v=>exact hx pq O H s v s' I hq|ok fl=>
  cases fl with
  |ret u=>exact I.after hq|_=>exact False.elim hq
def V6(sp:Sp)(dvs:kK)(E:L2.St->XK)(t:TA):TE:=λO H Q=>t O H λvs H1=>sp (vs++dvs) H1 Q<|E O
def px(D:DefX X.prog X.w X.K X.mg X.base k x ps sp)(hr:Room j X.A)(hx:Cy X E)(ha:PA X (e::es) t)(hk:k<=j)(hg:Gl X x)(hdb:(x == "__debug__")=false)
  (he:starEach (e::es) X.env=(false,eval e X.env)::starEach es X.env) (hpl:(backTo pos<|starEach es X.env).any (·.1)=false):PE X (.Call (.Name x p) (e::es) [] pos)<|V6 sp [] E t:=by
 intro pq s O H Q I h;refine ę<|MW I hg D.m ?_ hdb;refine Ź I.ok.mod.kin D.kp (AX (ha pos pq s O H _ I h) λus s1 ⟨vs,H1,I1,r,q⟩=>{I1.kIn,?_}) he hpl
 exact QK D.ok (hr.mono hk) D.b .nil hx I1 r q
end
abbrev Ur:k9:=[.type "ValueError",.type "Exception",.type "BaseException",.type "object"]
def Ml(K:k6)(C:Addr):Bool:=match K.lookup C with
 |some ⟨.type "type",_,.cls k,l⟩=>(match k.mro,l.toList with|.ref D::r,[_,_,_,_,↑(.builtin n),_]=>D == C && n == "ValueError.__new__" && !k.hasDel && W.tailIn K Ur r && W.nsOkIn K k.ns|_,_=>false)
 |_=>false
def DQ(K:k6)(C:Addr):Option<|Option Value:=(W.clsIn K C).bind λk=>W.nsIn K k.ns "__init__"
structure ExcK(K:k6)(C:Addr):Prop where
 q:Ml K C=true
 self:W.subIn K (.ref C) (.ref C)=↑true
 cd:∃cd,W.clsIn K C=↑cd
 ty:W.typeIn K (.ref C)=↑(.type "type")
 ga:W.findIn K (.ref C) "__getattribute__"=↑(↑(.builtin "BaseException.__getattribute__"))
 gt:W.findIn K (.ref C) "__getattr__"=↑none
 ca:W.findIn K (.ref C) "__class__"=↑(↑(.builtin "object.__class__"))
 ob:W.mroIn K C (.type "object")=↑true
 be:W.mroIn K C (.type "BaseException")=↑true
 gs:W.specialIn K (.builtin "object.__class__") "__get__"=↑(↑(.builtin "getset_descriptor.__get__"))
 tk:W.takesIn K (.builtin "object.__class__")=↑true
structure ECls(K:k6)(mg:Str->Option Value)(x:Str) where
 C:Addr
 m:mg x=↑(.ref C)
 k:ExcK K C
def zpr{K}(X:K.In h)(q:Ml K C=true):∃bm N nm qn bs hd sn sub ab col dd k0 k1 k2 k3 k5 mN,
  h.get? C=↑(excClassObj nm qn C N bs bm hd sn sub ab col dd k0 k1 k2 k3 k5 "ValueError.__new__")/\h.Ns N mN/\(∃cd,W.clsIn K C=↑cd/\cd.ns=N/\cd.mro=.ref C::bm/\cd.hasDict=hd)/\OwnTail h Ur bm:=by
 unfold Ml at q;split at q
 .rename_i dd cd sl ho;have hcl:W.clsIn K C=↑cd:=by unfold W.clsIn;rw[ho]
  split at q
  .rename_i C2 bm k0 k1 k2 k3 nid k5 hm hs;erw[Ŏ,È,Ē]at q;let((((z1,z2),hdel),ht),hok):=q;subst z1;subst z2;let(nm,bs,mro,nsp,qn,hd,sn,sub,ab,col,dl):=cd;dsimp only at hm hok hdel;subst hm;subst hdel
   have hsl:sl=#[k0,k1,k2,k3,↑(.builtin "ValueError.__new__"),k5]:=by
    obtain⟨l⟩:=sl;have hs':l=[k0,k1,k2,k3,↑(.builtin "ValueError.__new__"),k5]:=hs;rw[hs']
   subst hsl;exact{bm,nsp,nm,qn,bs,hd,sn,sub,ab,col,dd,k0,k1,k2,k3,k5,_,X _ _ ho,.of_isNs<|W.isNs_of_in X hok,{_,hcl,rfl,rfl,rfl},W.tail_of_in X ht}
  .exact absurd q ü
 .exact absurd q ü
def zhw{K}(X:K.In h)(G:h.Ns N mN)(hc:W.clsIn K C=↑cd)(hn:cd.ns=N)(q:DQ K C=↑none):mN "__init__"=none:=by
 unfold DQ at q;rw[hc]at q;subst hn;exact W.ns_none_of X G q
section
variable {X:Cx}{x:Str}{p cpos pos:Pos}{e:Expr}{es:kC}{t:TA}{E:L2.St->XK}
def zml(C:Addr)(E:L2.St->XK)(t:TA):TS:=λ_ O H=>t O H λvs H1=>vs.length<=sizeLine/\E O (.ref C) none H1
def zh9(T:ECls X.K X.mg x)(hini:DQ X.K T.C=↑none)(hc:X.calm=true)(hx:UW X E)(ha:PA X (e::es) t)(hg:Gl X x)(hdb:(x == ("__debug__":Str))=false)
  (he:starEach (e::es) X.env=(false,eval e X.env)::starEach es X.env) (hpl:(backTo cpos<|starEach (e::es) X.env).any (·.1)=false) :
  PS X (.Raise (↑(.Call (.Name x p) (e::es) [] cpos)) none pos) (zml T.C E t):=by
 intro pq s O H D I h;let(bm,N,nm,qn,bs,hd,sn,sub,ab,col,dd,k0,k1,k2,k3,k5,mN,hC,hN,(cd,hcd,hcn,_),TL):=zpr I.mod.kin T.k.q;have hni:=zhw I.mod.kin hN hcd hcn hini
 refine wpAny_Raise_call_subT (nm:=nm) (q:=qn) (N:=N) (bs:=bs) (hdct:=hd) (sn:=sn) (sub:=sub) (ab:=ab) (col:=col) (dd:=dd) (k0:=k0) (k1:=k1) (k2:=k2) (k3:=k3) (k5:=k5)
  PySem.F.excBase_ValueError (TL.hasType PySem.F.excBase_ValueError.hasBase) (I.ok.hd hc) hpl hni (MW I hg T.m {rfl,?_} hdb)
 have h2:=ha cpos pq s O H _ I h;rw[he]at h2 ⊢;exact Calls.evalArgs_plain<|AX h2 λus s1 ⟨vs,H1,I1,r,z,q1⟩=>{rfl,r.length▸z,I1.bk _ _ hC,hN.keeps I1.bk,TL.keeps I1.bk,λh' a hm=>hx pq O H1 s1 a _ us h' I1 hm q1}
end
def IsX(H:Hp)(a C:Addr):Prop:=∃ob,H a=↑(.frz ob<|.own 0)/\ob.cls=.ref C/\∃vs,ob.data=.fields vs/\vs[2]?=↑.none
def Nj(H:Hp)(a C:Addr)(dx:Option Addr):Prop:=∃ob,H a=↑(.frz ob<|.own 0)/\(ob.cls,ob.dict)=(.ref C,dx)/\∃vs,ob.data=.fields vs/\vs[2]?=↑.none
theorem Nj.of(x:Nj H a C dx)(e:∀u,H a=↑u->F a=↑u):Nj F a C dx:=
 let ⟨ob,y,r⟩:=x;{ob,e _ y,r}
section
variable {K:k6}{a C:Addr}
variable {X:Cx}
end
section
variable {X:Cx}{pq:List<|Addr×Obj}{O:L2.St}{H:Hp}{s:Shared}{xe:Value->Shared->Prop}
variable {A:Around}{E:Value->Shared->Prop}{M:Model}
end
section
variable {X:Cx}{i:Nat}{x n:Str}{np pos hpos:Pos}{body suite:kD}{b₀:Stmt}{tb th:TS}{E:L2.St->XK}
end
end Zx
namespace Pu
open PySem PySem.Spec PyProof.Rows L2 Zw Zx
abbrev Rg:=Addr->Prop
def R0:Rg:=λ_=>False
set_option genInjectivity true in
inductive Kd where
 |lst|rl|tup|rt|pin (p:Addr)
set_option genInjectivity true in
inductive Ob where
 |ins (C:Addr) (fs:List Str)|exn (C:Addr)|sdc (ks:List Str)|lab (p:Addr)
set_option genInjectivity true in
inductive T where
 |non|bl (b:Bool)|int (i:Int)|str (x:Str)|nd (o:Bool) (k:Kd) (l:List T)|dic (ks:List Int) (l:List T)|pdc (ks:List Int) (l:List T)|odc (ks:List Int) (l:List T)
 |obj (k:Ob) (l:List T)|oob (p C:Addr) (fs:List Str) (l:List T)|osd (ks:List Str) (l:List T)
abbrev kH:=Option T
abbrev kL:=List T
abbrev T.lst(l:kL):T:=.nd false .lst l
abbrev T.own(l:kL):T:=.nd true .lst l
abbrev T.tup(l:kL):T:=.nd false .tup l
mutual
noncomputable def T.share:T->T
 |.nd _ k l=>.nd false k (BN l)|.dic ks l=>.dic ks (BN l)|.pdc ks l=>.pdc ks (BN l)|.odc ks l=>.pdc ks (BN l)|.obj k l=>.obj k (BN l)|.oob _ C fs l=>.obj (.ins C fs) (BN l)|.osd ks l=>.obj (.sdc ks) (BN l)|.non=>.non|.bl b=>.bl b|.int i=>.int i|.str x=>.str x
noncomputable def BN:List T->List T
 |[]=>[]|t::r=>t.share::BN r
end
mutual
noncomputable def T.sh:T->Bool
 |.nd o _ l=>!o && A6 l|.dic _ l=>A6 l|.pdc _ l=>A6 l|.odc _ _=>false|.obj _ l=>A6 l|.oob _ _ _ _=>false|.osd _ _=>false|.non=>true|.bl _=>true|.int _=>true|.str _=>true
noncomputable def A6:List T->Bool
 |[]=>true|t::r=>t.sh && A6 r
end
def T.flat:T->Bool
 |.nd _ _ _=>false|.dic _ _=>false|.pdc _ _=>false|.odc _ _=>false|.obj _ _=>false|.oob _ _ _ _=>false|.osd _ _=>false|.non=>true|.bl _=>true|.int _=>true|.str _=>true
def FL:∀l ,BN l=l.map T.share
 |[]=>rfl|t::r=>by rw[BN,FL r];rfl
def DV:∀l ,A6 l=l.all T.sh
 |[]=>rfl|t::r=>by rw[A6,DV r];rfl
mutual
theorem CY:∀t:T,t.sh=true->t.share=t
 |.nd o k l,h=>by
  rw[T.sh,È]at h;have ho:o=false:=by simpa using h.1
  subst ho;rw[T.share,AJ l h.2]
 |.dic ks l,h=>by
  rw[T.sh]at h;rw[T.share,AJ l h]
 |.pdc ks l,h=>by
  rw[T.sh]at h;rw[T.share,AJ l h]
 |.odc ks l,h=>by
  rw[T.sh]at h;cases h
 |.obj k l,h=>by
  rw[T.sh]at h;rw[T.share,AJ l h]
 |.oob p C fs l,h=>by
  rw[T.sh]at h;cases h
 |.osd ks l,h=>by
  rw[T.sh]at h;cases h
 |.non,_=>rfl|.bl _,_=>rfl|.int _,_=>rfl|.str _,_=>rfl
theorem AJ:∀l:List T,A6 l=true->BN l=l
 |[],_=>rfl|t::r,h=>by
  rw[A6,È]at h;rw[BN,CY t h.1,AJ r h.2]
end
mutual
theorem zgu:∀t:T,t.share.sh=true
 |.nd o k l=>by
  rw[T.share,T.sh,GA l]
  rfl
 |.dic ks l=>by rw[T.share,T.sh,GA l]|.pdc ks l=>by rw[T.share,T.sh,GA l]|.odc ks l=>by rw[T.share,T.sh,GA l]|.obj k l=>by rw[T.share,T.sh,GA l]|.oob p C fs l=>by rw[T.share,T.sh,GA l]|.osd ks l=>by rw[T.share,T.sh,GA l]|.non=>rfl|.bl _=>rfl|.int _=>rfl|.str _=>rfl
theorem GA:∀l:List T,A6 (BN l)=true
 |[]=>rfl|t::r=>by rw[BN,A6,zgu t,GA r];rfl
end
def zjg(h:A6 l=true){i:Nat}(e:l[i]?=↑t):t.sh=true:=by
 rw[DV]at h;exact ã.mp h _<|ç e
def G0(K:k6)(F:Hp)(p:Addr)(xs:kK):Prop:=(∃o,F p=↑(.frz o<|.lst xs))\/∃(o:Obj) (its:Array Value) (n:Nat),K.lookup p=↑o/\o.cls=.type "list"/\o.dict=none/\o.data=.seq its n/\its.size<=sizeLine/\Ac xs its.toList
theorem G0.l{K}(h:G0 K F p xs):AZ K F p xs:=h.elim (λz=>.inl<|.inr z) .inr
def Fv(K:k6)(F:Hp)(k:Kd)(p:Addr)(xs:kK):Prop:=match k with
 |.lst=>F p=↑(.lst xs)|.rl=>G0 K F p xs|.tup=>F p=↑(.tup xs)|.rt=>Bt K F p xs|.pin _=>F p=↑(.lst xs)
def Gc{K}(s:A4 F F')(h:Bt K F p xs):Bt K F' p xs:=by
 rcases h with (h|⟨o,h⟩)|h
 .exact .inl<|.inl<|s _ _ h
 .exact .inl<|.inr {o,s _ _ h}
 .exact .inr h
def Fv.same{K}(h:Fv K F k p xs)(s:A4 F F'):Fv K F' k p xs:=by
 cases k with
 |lst=>exact s _ _ h|rl=>exact h.elim (λ⟨o,z⟩=>.inl {o,s _ _ z}) .inr|tup=>exact s _ _ h|rt=>exact Gc s h|pin q=>exact s _ _ h
def Kd.isT:Kd->Bool
 |.tup=>true|_=>false
def JT(k:Kd)(p:Addr):Prop:=match k with
 |.lst=>True|.pin q=>q=p|.tup=>True|_=>False
def S8:Kd->kK->HO
 |.tup,xs=>.tup xs|_,xs=>.lst xs
def Zz(h:k.isT=false):S8 k xs=.lst xs:=by cases k<;>first|rfl|cases h
def JT.node{K}(hk:JT k p)(h:F p=↑(S8 k xs)):Fv K F k p xs:=by
 cases k with
 |lst=>exact h|pin q=>exact h|tup=>exact h|_=>exact hk.elim
def Ii(ks:kF)(xs:kK):List<|Key×V:=List.zipWith (λk x=>(Sum.inl k,x)) ks xs
def Cf(ks:kE)(xs:kK):List<|Key×V:=List.zipWith (λk x=>(Sum.inr k,x)) ks xs
def Ki(F:Hp)(dx:Option Addr)(v:V):Prop:=∃d od u,dx=↑d/\F d=↑(.frz od<|.own 0)/\A7 v u/\W.lookIn "step" od=↑↑u
theorem Ki.of(h:Ki F dx v)(s:∀a u,F a=↑u->F' a=↑u):Ki F' dx v:=
 let ⟨d,od,u,e,h1,r⟩:=h;{d,od,u,e,s _ _ h1,r}
def Ky(F:Hp)(k:Ob)(p:Addr)(xs:kK):Prop:=match k with
 |.ins C fs=>∃dx,F p=↑(.ins C dx<|fs.zip xs)|.exn C=>∃dx,Nj F p C dx/\∀v∈xs,Ki F dx v|.sdc ks=>ks.length=xs.length/\F p=↑(.dK<|Cf ks xs)|.lab q=>q=p/\xs=[.ref p]
def Ky.same(h:Ky F k p xs)(s:A4 F F'):Ky F' k p xs:=by
 cases k with
 |ins C fs=>exact h.elim λdx e=>{dx,s _ _ e}|exn C=>exact h.elim λdx e=>{dx,e.1.of λu=>s p u,λv hv=>(e.2 v hv).of s}|sdc ks=>exact{h.1,s _ _ h.2}|lab q=>exact h
inductive Rp(K:k6)(F H:Hp):T->V->Rg->Prop where
 |non:Rp K F H .non .non R0
 |bl (b:Bool):Rp K F H (.bl b) (.bl b) R0
 |int (i:Int):Rp K F H (.int i) (.int i) R0
 |str (x:Str):Rp K F H (.str x) (.str x) R0
 |shr {k:Kd} {p:Addr} {xs:List V} {l:List T} (h:Fv K F k p xs) (e:l.length=xs.length) (c:∀(i:Nat) (t:T) (x:V),l[i]?=↑t->xs[i]?=↑x->Rp K F H t x R0):Rp K F H (.nd false k l) (.ref p) R0
 |dic {p:Addr} {ob:Obj} {ks:List Int} {xs:List V} {l:List T} (h:F p=↑(.frz ob<|.dK<|Ii ks xs)) (e:l.length=xs.length) (ek:ks.length=xs.length) (c:∀(i:Nat) (t:T) (x:V),l[i]?=↑t->xs[i]?=↑x->Rp K F H t x R0):Rp K F H (.dic ks l) (.ref p) R0
 |pdc {p:Addr} {ks:List Int} {xs:List V} {l:List T} (h:F p=↑(.dK<|Ii ks xs)) (e:l.length=xs.length) (ek:ks.length=xs.length) (c:∀(i:Nat) (t:T) (x:V),l[i]?=↑t->xs[i]?=↑x->Rp K F H t x R0):Rp K F H (.pdc ks l) (.ref p) R0
 |odc {p:Addr} {ks:List Int} {xs:List V} {l:List T} (f:F p=none) (h:H p=↑(.dK<|Ii ks xs)) (e:l.length=xs.length) (ek:ks.length=xs.length) (c:∀(i:Nat) (t:T) (x:V),l[i]?=↑t->xs[i]?=↑x->Rp K F H t x R0):Rp K F H (.odc ks l) (.ref p)<|λa=>a=p
 |obj {k:Ob} {p:Addr} {xs:List V} {l:List T} (h:Ky F k p xs) (e:l.length=xs.length) (c:∀(i:Nat) (t:T) (x:V),l[i]?=↑t->xs[i]?=↑x->Rp K F H t x R0):Rp K F H (.obj k l) (.ref p) R0
 |oob {C p dx:Addr} {fs:List Str} {xs:List V} {l:List T} (R:Nat->Rg) (f:F p=none) (h:H p=↑(.ins C dx<|fs.zip xs)) (e:l.length=xs.length) (c:∀(i:Nat) (t:T) (x:V),l[i]?=↑t->xs[i]?=↑x->Rp K F H t x (R i))
   (d:∀i j a,i≠j->R i a->¬ R j a) (dp:∀i,¬ R i p) (o:∀i a,R i a->i<l.length):Rp K F H (.oob p C fs l) (.ref p) (λa=>a=p\/∃i,R i a)
 |osd {p:Addr} {ks:List Str} {xs:List V} {l:List T} (R:Nat->Rg) (f:F p=none) (h:H p=↑(.dK<|Cf ks xs)) (e:l.length=xs.length) (ek:ks.length=xs.length) (c:∀(i:Nat) (t:T) (x:V),l[i]?=↑t->xs[i]?=↑x->Rp K F H t x (R i))
   (d:∀i j a,i≠j->R i a->¬ R j a) (dp:∀i,¬ R i p) (o:∀i a,R i a->i<l.length):Rp K F H (.osd ks l) (.ref p) (λa=>a=p\/∃i,R i a)
 |own {k:Kd} {p:Addr} {xs:List V} {l:List T} (hk:JT k p) (R:Nat->Rg) (f:F p=none) (h:H p=↑(S8 k xs)) (e:l.length=xs.length) (c:∀(i:Nat) (t:T) (x:V),l[i]?=↑t->xs[i]?=↑x->Rp K F H t x (R i))
   (d:∀i j a,i≠j->R i a->¬ R j a) (dp:∀i,¬ R i p) (o:∀i a,R i a->i<l.length):Rp K F H (.nd true k l) (.ref p) (λa=>a=p\/∃i,R i a)
theorem reg0{p:Addr}:(λa=>a=p\/∃_:Nat,R0 a)=λa=>a=p:=funext λ_=>propext {λz=>z.elim id λ⟨_,w⟩=>w.elim,.inl}
def Rp.osd0{K}{F H:Hp}{p:Addr}{ks:kE}{xs:kK}{l:kL}(f:F p=none)(h:H p=↑(.dK<|Cf ks xs))(e:l.length=xs.length)(ek:ks.length=xs.length)(c:∀(i:Nat) (t:T) (x:V),l[i]?=↑t->xs[i]?=↑x->Rp K F H t x R0):Rp K F H (.osd ks l) (.ref p)<|λa=>a=p:=by
 have r:Rp K F H (.osd ks l) (.ref p) (λa=>a=p\/∃_:Nat,R0 a):=.osd (λ_=>R0) f h e ek c (λ_ _ _ _ z=>z.elim) (λ_ z=>z)<|λ_ _ z=>z.elim
 rwa[reg0]at r
section
variable {K:k6}{F F' H H':Hp}{t:T}{x:V}{A:Rg}
def Rp.frame(h:Rp K F H t x A)(s:A4 F F')(k:∀a,A a->H' a=H a/\F' a=none):Rp K F' H' t x A:=by
 induction h with
 |non=>exact .non|bl b=>exact .bl b|int i=>exact .int i|str y=>exact .str y|shr h e c ih=>exact .shr (h.same s) e λi t x h1 h2=>ih i t x h1 h2 λa z=>z.elim|dic h e ek c ih=>exact .dic (s _ _ h) e ek λi t x h1 h2=>ih i t x h1 h2 λa z=>z.elim|pdc h e ek c ih=>exact .pdc (s _ _ h) e ek λi t x h1 h2=>ih i t x h1 h2 λa z=>z.elim|odc f h e ek c ih=>have q:=k _ rfl;exact .odc q.2 (q.1.trans h) e ek λi t x h1 h2=>ih i t x h1 h2 λa z=>z.elim|obj h e c ih=>exact .obj (h.same s) e λi t x h1 h2=>ih i t x h1 h2 λa z=>z.elim|oob R f h e c d dp o ih=>have q:=k _<|.inl rfl;exact .oob R q.2 (q.1.trans h) e (λi t x h1 h2=>ih i t x h1 h2 λa z=>k a<|.inr {(i),z}) d dp o|osd R f h e ek c d dp o ih=>have q:=k _<|.inl rfl;exact .osd R q.2 (q.1.trans h) e ek (λi t x h1 h2=>ih i t x h1 h2 λa z=>k a<|.inr {(i),z}) d dp o|own hk R f h e c d dp o ih=>have q:=k _<|.inl rfl;exact .own hk R q.2 (q.1.trans h) e (λi t x h1 h2=>ih i t x h1 h2 λa z=>k a<|.inr {(i),z}) d dp o
def Rp.dom(h:Rp K F H t x A)(ha:A a):F a=none/\∃u,H a=↑u:=by
 induction h with
 |non=>exact ha.elim|bl b=>exact ha.elim|int i=>exact ha.elim|str y=>exact ha.elim|shr h e c ih=>exact ha.elim|dic h e ek c ih=>exact ha.elim|pdc h e ek c ih=>exact ha.elim|odc f h e ek c ih=>grind|obj h e c ih=>exact ha.elim|@osd p ks xs l R f h e ek c d dp o ih=>
  rcases ha with rfl|⟨i,z⟩
  .grind
  .have hi:=o i a z;have hx:i<xs.length:=by lia
   exact ih i _ _ (Â hi) (Â hx) z
 |@oob C p dx fs xs l R f h e c d dp o ih=>
  rcases ha with rfl|⟨i,z⟩
  .grind
  .have hi:=o i a z;have hx:i<xs.length:=by lia
   exact ih i _ _ (Â hi) (Â hx) z
 |@own k0 p xs l hk R f h e c d dp o ih=>
  rcases ha with rfl|⟨i,z⟩
  .grind
  .have hi:=o i a z;have hx:i<xs.length:=by lia
   exact ih i _ _ (Â hi) (Â hx) z
def Rp.share(h:Rp K F H t x A)(s:A4 F F')(k:∀a u,A a->H a=↑u->F' a=↑u):Rp K F' H' t.share x R0:=by
 induction h with
 |non=>exact .non|bl b=>exact .bl b|int i=>exact .int i|str y=>exact .str y|@shr k0 p xs l h e c ih=>
  rw[T.share,FL];refine .shr (h.same s) (by rw[Á];exact e) λi t x h1 h2=>?_
  rw[Ë]at h1;let(t0,e0,rfl):=Ö.mp h1;exact ih i t0 x e0 h2 λa u z=>z.elim
 |@dic p ob ks xs l h e ek c ih=>
  rw[T.share,FL];refine .dic (s _ _ h) (by rw[Á];exact e) ek λi t x h1 h2=>?_
  rw[Ë]at h1;let(t0,e0,rfl):=Ö.mp h1;exact ih i t0 x e0 h2 λa u z=>z.elim
 |@pdc p ks xs l h e ek c ih=>
  rw[T.share,FL];refine .pdc (s _ _ h) (by rw[Á];exact e) ek λi t x h1 h2=>?_
  rw[Ë]at h1;let(t0,e0,rfl):=Ö.mp h1;exact ih i t0 x e0 h2 λa u z=>z.elim
 |@odc p ks xs l f h e ek c ih=>
  rw[T.share,FL];refine .pdc (k _ _ rfl h) (by rw[Á];exact e) ek λi t x h1 h2=>?_
  rw[Ë]at h1;let(t0,e0,rfl):=Ö.mp h1;exact ih i t0 x e0 h2 λa u z=>z.elim
 |@obj k0 p xs l h e c ih=>
  rw[T.share,FL];refine .obj (h.same s) (by rw[Á];exact e) λi t x h1 h2=>?_
  rw[Ë]at h1;let(t0,e0,rfl):=Ö.mp h1;exact ih i t0 x e0 h2 λa u z=>z.elim
 |@oob C p dx fs xs l R f h e c d dp o ih=>
  rw[T.share,FL];refine .obj {dx,k _ _ (.inl rfl) h} (by rw[Á];exact e) λi t x h1 h2=>?_
  grind
 |@osd p ks xs l R f h e ek c d dp o ih=>
  rw[T.share,FL];refine .obj {ek,k _ _ (.inl rfl) h} (by rw[Á];exact e) λi t x h1 h2=>?_
  grind
 |@own k0 p xs l hk R f h e c d dp o ih=>
  rw[T.share,FL];refine .shr (hk.node<|k _ _ (.inl rfl) h) (by rw[Á];exact e) λi t x h1 h2=>?_
  grind
def Rp.r0(h:Rp K F H t x A)(s:t.sh=true):A=R0:=by
 cases h with
 |own hk R f h e c d dp o=>cases s|odc f h e ek c=>cases s|oob R f h e c d dp o=>cases s|osd R f h e ek c d dp o=>cases s|_=>rfl
def Rp.move(h:Rp K F H t x A)(s:t.sh=true)(q:A4 F F'):Rp K F' H' t x R0:=by
 have e:=h.r0 s;subst e;exact h.frame q λa z=>z.elim
def Rp.flat_any(h:Rp K F H t x A)(s:t.flat=true):Rp K F' H' t x R0:=by
 cases h with
 |non=>exact .non|bl b=>exact .bl b|int i=>exact .int i|str y=>exact .str y|shr h e c=>cases s|dic h e ek c=>cases s|pdc h e ek c=>cases s|odc f h e ek c=>cases s|obj h e c=>cases s|oob R f h e c d dp o=>cases s|osd R f h e ek c d dp o=>cases s|own hk R f h e c d dp o=>cases s
def Rp.int_inv{i:Int}(h:Rp K F H (.int i) x A):x=.int i:=by cases h;rfl
def Rp.bl_inv{b:Bool}(h:Rp K F H (.bl b) x A):x=.bl b:=by cases h;rfl
def Rp.non_inv(h:Rp K F H .non x A):x=.non:=by cases h;rfl
def Rp.str_inv{y:Str}(h:Rp K F H (.str y) x A):x=.str y:=by cases h;rfl
end
def Ah(K:k6)(F:Hp)(ts:kL)(xs:kK):Prop:=ts.length=xs.length/\∀(i:Nat) (t:T) (x:V),ts[i]?=↑t->xs[i]?=↑x->Rp K F F t x R0
theorem Ah.nil{K}:Ah K F [] []:={rfl,λi t x h=>by simp at h}
theorem Rp.any{K}(h:Rp K F H t x R0):Rp K F H' t x R0:=h.frame (A4.refl F) λa z=>z.elim
def Ah.cons{K:k6}{F H:Hp}{t:T}{x:V}{ts:kL}{xs:kK}(h:Rp K F H t x R0)(r:Ah K F ts xs):Ah K F (t::ts)<|x::xs:=by
 refine{by simp[r.1],λi t' x' h1 h2=>?_}
 cases i with
 |zero=>simp at h1 h2;subst h1;subst h2;exact h.any|succ j=>exact r.2 j t' x' (by simpa using h1)<|by simpa using h2
def Ah.inv{K}(r:Ah K F (t::ts) xs):∃x xs',xs=x::xs'/\Rp K F F t x R0/\Ah K F ts xs':=by
 let(e,h):=r;cases xs with
 |nil=>simp at e|cons x xs'=>exact{x,xs',rfl,h 0 t x rfl rfl,by simpa using e,λi t' x' h1 h2=>h (i+1) t' x' (by simpa using h1)<|by simpa using h2}
def Ah.inv0{K}(r:Ah K F [] xs):xs=[]:=by
 let(e,h):=r
 grind
theorem Ah.same{K}(r:Ah K F ts xs)(s:A4 F F'):Ah K F' ts xs:={r.1,λi t x h1 h2=>((r.2 i t x h1 h2).frame s λa z=>z.elim)}
def Ah.node{K}(h:Rp K F H (.nd false k l) (.ref p) A):∃xs,Fv K F k p xs/\Ah K F l xs:=by
 cases h with
 |shr h e c=>exact{_,h,e,λi t x h1 h2=>(c i t x h1 h2).any}
def Rp.ref_inv{K}(h:Rp K F H (.nd o k l) x A):∃p,x=.ref p:=by
 cases h with
 |shr h e c=>exact{_,rfl}|own hk R f h e c d dp o=>exact{_,rfl}
theorem Ah.of_node{K}(h:Fv K F k p xs)(r:Ah K F l xs):Rp K F H (.nd false k l) (.ref p) R0:=.shr h r.1 λi t x h1 h2=>(r.2 i t x h1 h2).any
structure Ext(F H F' H':Hp)(B:Rg):Prop where
 hh:A4 H H'
 ff:A4 F F'
 fh:A4 F' H'
 nb:∀b,B b->H b=none
 nf:∀b u,F' b=↑u->F b=↑u\/H b=none
def GJ(s:A4 H H')(h:H' b=none):H b=none:=by
 cases e:H b with
 |none=>rfl|some u=>rw[s b u e]at h;cases h
section
variable {F H F1 H1 F2 H2:Hp}{B C:Rg}
theorem Ext.refl(s:A4 F H):Ext F H F H R0:={.refl _,.refl _,s,λ_ z=>z.elim,λ_ _ e=>.inl e}
theorem Ext.trans(a:Ext F H F1 H1 B)(b:Ext F1 H1 F2 H2 C):Ext F H F2 H2 (λx=>B x\/C x) where
 hh:=a.hh.trans b.hh
 ff:=a.ff.trans b.ff
 fh:=b.fh
 nb:=λx z=>z.elim (a.nb x) λz=>GJ a.hh (b.nb x z)
 nf:=λx u e=>(b.nf x u e).elim (a.nf x u) λz=>.inr<|GJ a.hh z
theorem Ext.mono(a:Ext F H F1 H1 B)(h:∀x,C x->B x):Ext F H F1 H1 C:={a.hh,a.ff,a.fh,λx z=>a.nb x<|h x z,a.nf}
theorem Ext.trans0(a:Ext F H F1 H1 R0)(b:Ext F1 H1 F2 H2 C):Ext F H F2 H2 C:=(a.trans b).mono λx z=>.inr z
open Classical in
def frz(F H:Hp)(A:Rg):Hp:=λb=>if A b then H b else F b
def EI{A:Rg}{b:Addr}(h:A b):frz F H A b=H b:=by unfold frz;rw[if_pos h]
def Ec{A:Rg}{b:Addr}(h:¬ A b):frz F H A b=F b:=by unfold frz;rw[if_neg h]
theorem Ed(n:∀a,A a->F a=none):A4 F<|frz F H A:=λb u e=>by
 by_cases h:A b
 .grind
 .rw[Ec h];exact e
theorem Hk(s:A4 F H):A4 (frz F H A) H:=λb u e=>by
 by_cases h:A b
 .rw[EI h]at e;exact e
 .rw[Ec h]at e;exact s b u e
theorem Ext.frz(a:Ext F H F1 H1 B)(n:∀b,B b->F1 b=none):Ext F H (frz F1 H1 B) H1 R0 where
 hh:=a.hh
 ff:=a.ff.trans (Ed n)
 fh:=Hk a.fh
 nb:=λ_ z=>z.elim
 nf:=λb u e=>by
  by_cases h:B b
  .exact .inr<|a.nb b h
  .rw[Ec h]at e;exact a.nf b u e
theorem Rp.ext{K }    (h:Rp K F H t x A)(a:Ext F H F1 H1 B):Rp K F1 H1 t x A:=h.frame a.ff λb z=>by
 let(f,u,e):=h.dom z;refine{(a.hh b u e).trans e.symm,?_};cases q:F1 b with
 |none=>rfl|some u'=>
  rcases a.nf b u' q with z|z
  .grind
  grind
theorem Rp.apart{K}(h:Rp K F H t x A)(a:Ext F H F1 H1 B)(hb:B b):¬ A b:=λz=>by
 let(f,u,e):=h.dom z;rw[a.nb b hb]at e;cases e
theorem Ext.new(s:A4 F H)(h:H p=none):Ext F H (upd F p o) (upd H p o) R0 where
 hh:=Fh h o
 ff:=Fh (GJ s h) o
 fh:=λb u e=>by
  by_cases hb:b=p
  .subst hb;rw[CJ]at e ⊢;exact e
  .rw[An hb]at e ⊢;exact s b u e
 nb:=λ_ z=>z.elim
 nf:=λb u e=>by
  by_cases hb:b=p
  .grind
  .rw[An hb]at e;exact .inl e
theorem Ext.newO(s:A4 F H)(h:H p=none):Ext F H F (upd H p o) (λa=>a=p) where
 hh:=Fh h o
 ff:=.refl _
 fh:=λb u e=>Fh h o b u (s b u e)
 nb:=λb z=>by grind
 nf:=λb u e=>.inl e
end
abbrev AM:=List<|kH
structure StR(K:k6)(F H:Hp)(O:L2.St)(Y:AM)(R:Nat->Rg):Prop where
 fh:A4 F H
 len:O.length=Y.length
 rep:∀i t,Y[i]?=↑↑t->∃x,O[i]?=↑↑x/\Rp K F H t x (R i)
 out:∀i a,R i a->∃t,Y[i]?=↑↑t
 dis:∀i j a,i≠j->R i a->¬ R j a
section
variable {K:k6}{F H F1 H1:Hp}{O:L2.St}{Y:AM}{R:Nat->Rg}{B:Rg}
def StR.dom(h:StR K F H O Y R)(ha:R i a):F a=none/\∃u,H a=↑u:=by
 let(t,e):=h.out i a ha;let(x,_,r):=h.rep i t e;exact r.dom ha
theorem StR.ext(h:StR K F H O Y R)(a:Ext F H F1 H1 B):StR K F1 H1 O Y R where
 fh:=a.fh
 len:=h.len
 rep:=λi t e=>by
  let(x,e1,r):=h.rep i t e;exact{x,e1,r.ext a}
 out:=h.out
 dis:=h.dis
theorem StR.apart(h:StR K F H O Y R)(a:Ext F H F1 H1 B)(hb:B b)(i):¬ R i b:=λz=>by
 let(f,u,e):=h.dom z;rw[a.nb b hb]at e;cases e
end
def Z9:Key->PyData
 |.inl i=>.int i|.inr x=>.str x
mutual
noncomputable def T.data:T->PyData
 |.non=>.none|.bl b=>.bool b|.int i=>.int i|.str x=>.str x|.nd _ .lst l=>.list (Bg l)|.nd _ .rl l=>.list (Bg l)|.nd _ .tup l=>.tuple (Bg l)|.nd _ .rt l=>.tuple (Bg l)|.nd _ (.pin _) l=>.list (Bg l)|.dic ks l=>.dict ((ks.map PyData.int).zip (Bg l))|.pdc ks l=>.dict ((ks.map PyData.int).zip (Bg l))|.odc ks l=>.dict ((ks.map PyData.int).zip (Bg l))|.obj _ _=>.none|.oob _ _ _ _=>.none|.osd _ _=>.none
noncomputable def Bg:List T->List PyData
 |[]=>[]|t::r=>t.data::Bg r
end
mutual
noncomputable def T.pln:T->Bool
 |.nd _ _ l=>Er l|.dic _ l=>Er l|.pdc _ l=>Er l|.odc _ l=>Er l|.obj _ _=>false|.oob _ _ _ _=>false|.osd _ _=>false|.non=>true|.bl _=>true|.int _=>true|.str _=>true
noncomputable def Er:List T->Bool
 |[]=>true|t::r=>t.pln && Er r
end
def Ep:∀{l},Er l=true->∀{i:Nat} {t},l[i]?=↑t->t.pln=true
 |[],_,i,t,e=>by simp at e|a::r,h,i,t,e=>by
  rw[Er,È]at h;cases i with
  |zero=>simp at e;subst e;exact h.1|succ i=>exact Ep h.2<|by simpa using e
def WV:∀{l} {us},l.length=us.length->(∀(i:Nat) (t) (u),l[i]?=↑t->us[i]?=↑u->∃as,Reads h u t.data as)->∃as,ReadsAll h us (Bg l) as
 |[],[],_,_=>{_,.nil}|[],_::_,e,_=>by simp at e|_::_,[],e,_=>by simp at e|t::l,u::us,e,f=>by
  let(a1,r1):=f 0 t u rfl rfl;let(a2,r2):=WV (l:=l) (us:=us) (by simpa using e) λi t' u' h1 h2=>f (i+1) t' u' (by simpa using h1)<|by simpa using h2
  exact{_,.cons r1 r2}
def SN(e:(DY P w).is k v=true):Reads h v (Z9 k) []:=by
 rcases F7 (e) with ⟨i,t,rfl,rfl⟩|⟨x,t,rfl,rfl⟩
 .exact .int i t
 .exact .str x t
def MB:∀(ks) (xs) (l) (vs),KV (Ii ks xs) vs->l.length=xs.length->ks.length=xs.length->(∀(i:Nat) (t) (x),l[i]?=↑t->xs[i]?=↑x->∀{u},A7 x u->∃as,Reads h u t.data as) ->
  ∃bs,PyProof.V.PairsRead h Z9 vs ((ks.map PyData.int).zip (Bg l)) bs
 |[],xs,l,vs,r,_,_,_=>by
  have r':Paired _ [] vs:=(show Paired _ (Ii [] xs) vs from r);cases r';exact{_,.nil}
 |k::ks,[],l,vs,r,_,ek,_=>by simp at ek|k::ks,x::xs,[],vs,r,e,_,_=>by simp at e|k::ks,x::xs,t::l,vs,r,e,ek,f=>by
  have r':Paired (λ(p:Key×V) (q:Key×Value)=>p.1=q.1/\A7 p.2 q.2) ((Sum.inl k,x)::Ii ks xs) vs:=r
  cases r' with
  |@cons _ q _ qs hd tl=>
   let(a1,r1):=f 0 t x rfl rfl hd.2;let(a2,r2):=MB ks xs l qs tl (by simpa using e) (by simpa using ek) λi t' x' h1 h2=>f (i+1) t' x' (by simpa using h1)<|by simpa using h2
   let(q1,q2):=q;cases (show Sum.inl k=q1 from hd.1);exact{_,.cons r1 r2}
section
variable {X:Cx}{pq:List<|Addr×Obj}{O:L2.St}{F H:Hp}{s:Shared}
def Gh(I:Inv X pq O H s)(fh:A4 F H)(h:Rp X.K F H t x A)(hpl:t.pln=true):∀{u},A7 x u->∃as,Reads s.heap u t.data as:=by
 have kids:∀{l } {xs } {its },Ac xs its->l.length=xs.length->(∀(i:Nat) (t ) (x ),l[i]?=↑t->xs[i]?=↑x->∀{u },A7 x u->∃as,Reads s.heap u t.data as)->∃as,ReadsAll s.heap its (Bg l) as:=by
  intro l xs its r e ih;refine WV (e.trans r.length) λi t u h1 h2=>?_
  have hi:i<xs.length:=by
   have:=(Ñ.mp h1).1
   lia
  let(u',e1,r1):=r.get<|Â hi;rw[h2]at e1;cases e1;exact ih i t _ h1 (Â hi) r1
 have lsts:∀{p } {l } {xs },AZ X.K H p xs->l.length=xs.length->(∀(i:Nat) (t ) (x ),l[i]?=↑t->xs[i]?=↑x->∀{u },A7 x u->∃as,Reads s.heap u t.data as)->∃as,Reads s.heap (.ref p) (.list<|Bg l) as:=by
  intro p l xs hq e ih;let(its,r,(o,n,e1,e2,e3,e4),_):=I.list hq;let(as,ra):=kids r e ih;exact{_,.list e1 e2 e4<|by simpa using ra}
 have tups:∀{p } {l } {xs },Bt X.K H p xs->l.length=xs.length->(∀(i:Nat) (t ) (x ),l[i]?=↑t->xs[i]?=↑x->∀{u },A7 x u->∃as,Reads s.heap u t.data as)->∃as,Reads s.heap (.ref p) (.tuple<|Bg l) as:=by
  intro p l xs hq e ih;let(its,r,(o,e1,e2,n,e4),_):=I.tuple hq;let(as,ra):=kids r e ih;exact{_,.tuple e1 e2 e4<|by simpa using ra}
 induction h with
 |non=>intro u r;cases r;exact{_,.none}|bl b=>intro u r;cases r;exact{_,.bool b}|int i=>intro u r;let(t,rfl):=r;exact{_,.int i t}
 |str y=>intro u r;let(t,rfl):=r;exact{_,.str y t}
 |@shr k p xs l h e c ih=>
  intro u r;cases r;cases k with
  |lst=>exact lsts (AZ.of<|fh _ _ h) e λi t x h1 h2=>ih i t x h1 h2 (Ep hpl h1)|rl=>exact lsts (fh.seq h.l) e λi t x h1 h2=>ih i t x h1 h2 (Ep hpl h1)|tup=>exact tups (Bt.of<|fh _ _ h) e λi t x h1 h2=>ih i t x h1 h2 (Ep hpl h1)|rt=>exact tups (Gc fh h) e λi t x h1 h2=>ih i t x h1 h2 (Ep hpl h1)|pin q=>exact lsts (AZ.of<|fh _ _ h) e λi t x h1 h2=>ih i t x h1 h2<|Ep hpl h1
 |@dic p ob ks xs l h e ek c ih=>
  intro u r;cases r;let(ho,z,hd,vs,rel,dd):=(I.hok p _<|fh _ _ h);let(bs,pr):=MB ks xs l vs rel e ek λi t x h1 h2=>ih i t x h1 h2<|Ep hpl h1
  exact{_,Ũ (λk v q=>SN q) dd pr}
 |@pdc p ks xs l h e ek c ih=>
  intro u r;cases r;let(z,hd,vs,rel,dd):=(I.hok p _<|fh _ _ h);let(bs,pr):=MB ks xs l vs rel e ek λi t x h1 h2=>ih i t x h1 h2<|Ep hpl h1
  exact{_,Ũ (λk v q=>SN q) dd pr}
 |@odc p ks xs l f h e ek c ih=>
  intro u r;cases r;let(z,hd,vs,rel,dd):=(I.hok p _ h);let(bs,pr):=MB ks xs l vs rel e ek λi t x h1 h2=>ih i t x h1 h2<|Ep hpl h1
  exact{_,Ũ (λk v q=>SN q) dd pr}
 |obj h e c ih=>cases hpl|oob R f h e c d dp o ih=>cases hpl|osd R f h e ek c d dp o ih=>cases hpl|@own k0 p xs l hk R f h e c d dp o ih=>
  intro u r;cases r;cases k0 with
  |lst=>exact lsts (AZ.of h) e λi t x h1 h2=>ih i t x h1 h2 (Ep hpl h1)|pin q=>exact lsts (AZ.of h) e λi t x h1 h2=>ih i t x h1 h2 (Ep hpl h1)|tup=>exact tups (Bt.of h) e λi t x h1 h2=>ih i t x h1 h2 (Ep hpl h1)|_=>exact hk.elim
end
def E2(t:T):Bool:=t.pln && t.data.canLay0
def Iy(t u:T):Bool:=PyData.eqv t.data u.data
def HB(t u:T):Bool:=E2 t && E2 u && decide (min t.data.depth u.data.depth<=60)
def BD(t u:T):kH:=if HB t u then ↑(.bl<|Iy t u) else none
def CD(t u:T):kH:=if HB t u then ↑(.bl<|!Iy t u) else none
def Io(t:T)(l:kL):Bool:=E2 t && (Er l && PyData.canLayAll0 (Bg l)) && decide (min (PyData.depthAll<|Bg l) t.data.depth<=60)
def S9(t:T)(l:kL):Bool:=(Bg l).any λy=>PyData.eqv y t.data
def Zu(t:T)(y:Str):kH:=match t with
 |.str x=>↑(.bl<|!(Builtin.Str.occurrences y x 0 y.length 1).isEmpty)|_=>none
def EH(t c:T):kH:=match c with
 |.nd _ _ l=>if Io t l then ↑(.bl<|S9 t l) else none
 |.str y=>Zu t y|_=>none
def HW(t c:T):kH:=match c with
 |.nd _ _ l=>if Io t l then ↑(.bl<|!S9 t l) else none
 |_=>none
def Di(K:k6)(F H:Hp)(v:T)(Q:VK):Prop:=∀F' H' z C,Ext F H F' H' C->Rp K F' H' v z C->Q z H'
def Be(K:k6)(g:T->T->kH):R2:=λx y H Q=>∃F t u v,A4 F H/\Rp K F F t x R0/\Rp K F F u y R0/\g t u=↑v/\Di K F H v Q
def Lw(K:k6)(g:T->kH):V->Hp->VK->Prop:=λx H Q=>∃F t v,A4 F H/\Rp K F F t x R0/\g t=↑v/\Di K F H v Q
def DM(K:k6)(g:kL->kH):kK->Hp->VK->Prop:=λxs H Q=>∃F ts v,A4 F H/\Ah K F ts xs/\g ts=↑v/\Di K F H v Q
section
variable {K:k6}{F H:Hp}{Q:VK}
theorem Di.int(q:Di K F H (.int i) Q)(s:A4 F H):Q (.int i) H:=q F H _ _ (Ext.refl s)<|.int i
theorem Di.bl(q:Di K F H (.bl b) Q)(s:A4 F H):Q (.bl b) H:=q F H _ _ (Ext.refl s)<|.bl b
theorem Di.str(q:Di K F H (.str x) Q)(s:A4 F H):Q (.str x) H:=q F H _ _ (Ext.refl s)<|.str x
def Di.list(q:Di K F H (.own l) Q)(s:A4 F H)(r:Ah K F l xs)  (hp:H p=none):Q (.ref p)<|upd H p<|.lst xs:=by
 refine q F (upd H p<|.lst xs) (.ref p) _ ((Ext.newO s hp).mono ?_)<|.own (k:=.lst) trivial (λ_=>R0) (GJ s hp) CJ r.1 (λi t x h1 h2=>?_) (λ_ _ _ _ z=>z.elim) (λ_ z=>z) (λ_ _ z=>z.elim)
 .rintro a (z|⟨i,z⟩)
  .exact z
  .exact z.elim
 .exact(r.2 i t x h1 h2).any
def Di.tuple(q:Di K F H (.tup l) Q)(s:A4 F H)(r:Ah K F l xs)(hp:H p=none):Q (.ref p)<|upd H p<|.tup xs:=by
 have e:=Ext.new (o:=.tup xs) s hp;exact q _ _ _ _ e<|Ah.of_node CJ<|r.same e.ff
end
def DW(i:Int):Bool:=@decide (-(2 ^ 64)<i/\i<2 ^ 64) (Classical.propDecidable _)
def Bk(i:Int):Bool:=@decide (-(10 ^ 70)<i/\i<10 ^ 70) (Classical.propDecidable _)
def KE(k:Int):Bool:=@decide (k<2 ^ 63/\-(2 ^ 63)<=k) (Classical.propDecidable _)
def Bs(i j:Int):Bool:=DW i || DW j || (Bk i && Bk j)
def BS:Nat:=16777216
def Al:T->T->kH
 |.int i,.int j=>↑(.int<|i+j)|.str x,.str y=>if x.length+y.length<=BS then ↑(.str<|x++y) else none
 |.nd _ .lst l,.nd _ .lst m=>if l.length+m.length<=BS then ↑(.own<|l++m) else none
 |_,_=>none
def E8:T->T->kH
 |.int i,.int j=>↑(.int<|i - j)|_,_=>none
def Bm:T->T->kH
 |.int i,.int j=>if Bs i j then ↑(.int<|i * j) else none
 |.nd _ .lst l,.int k=>if KE k=true/\l.length * k.toNat<=BS then ↑(.own (List.replicate k.toNat l).flatten) else none
 |.str x,.int k=>if 0<=k/\k<=1000000/\x.length<=16 then ↑(.str<|Txt.mul x k) else none
 |_,_=>none
def BB:T->T->kH
 |.int i,.int j=>if j≠0 then ↑(.int<|i.fmod j) else none
 |_,_=>none
def Bd:T->T->kH
 |.int i,.int j=>if j≠0/\Bk j then ↑(.int<|i.fdiv j) else none
 |_,_=>none
def Ea:T->T->kH
 |.int i,.int j=>if 0<=j/\j<=1000000/\DW i then ↑(.int<|i ^ j.toNat) else none
 |_,_=>none
def Kc:T->T->kH
 |.int i,.int j=>↑(.int<|Builtin.bitOr i j)|_,_=>none
def Kf:T->T->kH
 |.int i,.int j=>↑(.int<|Builtin.bitAnd i j)|_,_=>none
def BX(f:Int->Int->Bool):T->T->kH
 |.int i,.int j=>↑(.bl<|f i j)|_,_=>none
def Et:T->kH
 |.int i=>↑(.int<|-i)|_=>none
def QF(h:DW i=true):-(2 ^ 64)<i/\i<2 ^ 64:=@of_decide_eq_true _ (Classical.propDecidable _) h
theorem QE(h:Bk i=true):Sm i:=@of_decide_eq_true _ (Classical.propDecidable _) h
def Zc(h:KE k=true):k<2 ^ 63/\-(2 ^ 63)<=k:=@of_decide_eq_true _ (Classical.propDecidable _) h
def GO:BS=sizeLine:=by rw[đ];rfl
def Lp{K}{F}:∀{l m} {xs ys},Ah K F l xs->Ah K F m ys->Ah K F (l++m) (xs++ys)
 |[],m,xs,ys,r,q=>by rw[r.inv0];exact q|t::l,m,xs,ys,r,q=>by
  let(x,xs',rfl,r1,r2):=r.inv;exact .cons r1<|Lp r2 q
def WQ{K}(r:Ah K F l xs):∀n ,Ah K F (List.replicate n l).flatten (List.replicate n xs).flatten
 |0=>.nil|n+1=>by
  exact Lp r<|WQ r n
section
variable {X:Cx}
def Ds{K}(h:Rp K F H (.nd o k l) x R0):∃p xs,x=.ref p/\o=false/\Fv K F k p xs/\Ah K F l xs:=by
 generalize hA:R0=A at h;cases h with
 |shr h e c=>exact{_,_,rfl,rfl,h,e,λi t x h1 h2=>(hA▸c i t x h1 h2).any}|@own k0 p xs l hk R f h e c d dp o=>
  exfalso
  have z:=congrFun hA p;have:R0 p:=by rw[z];exact .inl rfl
  exact this
def zku:Ae X (binaryOp .Add)<|Be X.K Al:=by
 intro pq s O H x y v u Q I rx ry h;let(F,t1,t2,r,fh,r1,r2,e,q):=h;unfold Al at e;split at e
 .cases e;rw[r1.int_inv]at rx;rw[r2.int_inv]at ry;exact zoi pq s O H _ _ v u Q I rx ry {_,_,rfl,rfl,q.int fh}
 .split at e
  .cases e;rename_i hz;rw[r1.str_inv]at rx;rw[r2.str_inv]at ry;exact ze0 pq s O H _ _ v u Q I rx ry {_,_,rfl,rfl,by rw[<- GO];exact hz,q.str fh}
  .cases e
 .split at e
  .cases e;rename_i hz;let(p,xs,rfl,rfl,n1,k1):=Ds r1;let(p2,ys,rfl,rfl,n2,k2):=Ds r2;refine zog pq s O H _ _ v u Q I rx ry {p,p2,xs,ys,rfl,rfl,fh _ _ n1,fh _ _ n2,?_,λa ha=>q.list fh (Lp k1 k2) ha}
   rw[<- k1.1,<- k2.1,<- GO];exact hz
  .cases e
 .cases e
def HV(ho:Ae X f<|rI C g)(hg:∀t u v,gT t u=↑v->∃i j,t=.int i/\u=.int j/\C i j/\((∃k,v=.int k/\g i j=.int k)\/∃k,v=.bl k/\g i j=.bl k)):Ae X f<|Be X.K gT:=by
 intro pq s O H x y v u Q I rx ry h;let(F,t1,t2,r,fh,r1,r2,e,q):=h;let(i,j,rfl,rfl,hc,hv):=hg _ _ _ e;rw[r1.int_inv]at rx;rw[r2.int_inv]at ry;refine ho pq s O H _ _ v u Q I rx ry {i,j,rfl,rfl,hc,?_}
 rcases hv with ⟨k,rfl,ek⟩|⟨k,rfl,ek⟩
 .rw[ek];exact q.int fh
 .rw[ek];exact q.bl fh
theorem Ae.weak(h:Ae X f r)(w:∀x y H Q,r' x y H Q->r x y H Q):Ae X f r':=λpq s O H x y v u Q I rx ry q=>h pq s O H x y v u Q I rx ry<|w x y H Q q
theorem Lq(h:Ae X f<|Eo g):Ae X f<|rI (λ_ _=>True) g:=Ae.weak h λx y H Q ⟨i,j,a,b,_,q⟩=>{(i),j,a,b,q}
theorem zkn:Ae X (binaryOp .Sub)<|Be X.K E8:=HV (Lq zob) λt u v h=>by
 unfold E8 at h;split at h
 .cases h;exact{_,_,rfl,rfl,trivial,.inl {_,rfl,rfl}}
 .cases h
theorem zkt:Ae X (binaryOp .BitOr)<|Be X.K Kc:=HV (Lq op_or) λt u v h=>by
 unfold Kc at h;split at h
 .cases h;exact{_,_,rfl,rfl,trivial,.inl {_,rfl,rfl}}
 .cases h
theorem zhj:Ae X (binaryOp .BitAnd)<|Be X.K Kf:=HV (Lq zoh) λt u v h=>by
 unfold Kf at h
 grind
theorem zkq:Ae X (binaryOp .Mod)<|Be X.K BB:=HV zkm λt u v h=>by
 unfold BB at h;split at h
 .split at h
  .cases h;exact{_,_,rfl,rfl,by assumption,.inl {_,rfl,rfl}}
  .cases h
 .cases h
theorem zhi:Ae X (binaryOp .FloorDiv)<|Be X.K Bd:=HV zhh λt u v h=>by
 unfold Bd at h;split at h
 .split at h
  .cases h;rename_i hc;exact{_,_,rfl,rfl,{hc.1,QE hc.2},.inl {_,rfl,rfl}}
  .cases h
 .cases h
theorem zko:Ae X (binaryOp .Pow)<|Be X.K Ea:=HV zod λt u v h=>by
 unfold Ea at h;split at h
 .split at h
  .cases h;rename_i hc;have q:=QF hc.2.2;exact{_,_,rfl,rfl,{hc.1,hc.2.1,by lia},.inl {_,rfl,rfl}}
  .cases h
 .cases h
theorem MD(ho:Ae X (compareOp op)<|Eo λi j=>.bl<|g i j):Ae X (compareOp op)<|Be X.K<|BX g:=HV (Lq ho) λt u v h=>by
 unfold BX at h
 grind
def zkp:Ae X (binaryOp .Mult)<|Be X.K Bm:=by
 intro pq s O H x y v u Q I rx ry h;let(F,t1,t2,r,fh,r1,r2,e,q):=h;unfold Bm at e;split at e
 .rename_i i j;split at e
  .cases e;rename_i hc;rw[r1.int_inv]at rx;rw[r2.int_inv]at ry;unfold Bs at hc;rw[Ď,Ď,È]at hc
   rcases hc with (hc|hc)|hc
   .exact Wy pq s O H _ _ v u Q I rx ry {i,j,rfl,rfl,.inl<|QF hc,q.int fh}
   .exact Wy pq s O H _ _ v u Q I rx ry {i,j,rfl,rfl,.inr<|QF hc,q.int fh}
   .exact zkl pq s O H _ _ v u Q I rx ry {i,j,rfl,rfl,{QE hc.1,QE hc.2},q.int fh}
  .cases e
 .split at e
  .cases e;rename_i hc;let(p,xs,rfl,rfl,n1,k1):=Ds r1;rw[r2.int_inv]at ry;refine zoc pq s O H _ _ v u Q I rx ry {p,_,xs,rfl,rfl,fh _ _ n1,(Zc hc.1).2,(Zc hc.1).1,?_,λa ha=>q.list fh (WQ k1 _) ha}
   rw[<- k1.1,<- GO];exact hc.2
  .cases e
 .split at e
  .cases e;rename_i hc;rw[r1.str_inv]at rx;rw[r2.int_inv]at ry;let(t1,rfl):=rx;let(t2,rfl):=ry;exact SB.mul (mulOk_of 16 1048576 hc.2.2 (by lia) (by lia) (by decide)<|by decide) λt' k=>{.str _,H,I.tok _,{_,rfl},q.str fh}
  .cases e
 .cases e
def zj8:Kh X (unaryOp .USub)<|Lw X.K Et:=by
 intro pq s O H x v Q I rx h;let(F,t,r,fh,r1,e,q):=h;unfold Et at e;split at e
 .cases e;rw[r1.int_inv]at rx;exact zmf pq s O H _ v Q I rx {_,rfl,q.int fh}
 .cases e
def dH{A:Around}(hu:A.units+64<cLine)(h:n<=60):A.units+n<cLine:=by lia
def XA(hu:X.A.units+64<cLine):Ae X (compareOp .Eq)<|Be X.K BD:=by
 intro pq s O H x y v u Q I rx ry h;let(F,t1,t2,r,fh,r1,r2,e,q):=h;unfold BD at e;split at e
 .cases e;rename_i hc;unfold HB E2 at hc;rw[È,È,È,È,ë]at hc;let(a1,q1):=Gh I fh (r1.any) hc.1.1.1 rx;let(a2,q2):=Gh I fh (r2.any) hc.1.2.1 ry;exact SeqAt.compareEq_reads q1 q2 hc.1.1.2 hc.1.2.2 (dH hu hc.2) {.bl _,H,I,rfl,q.bl fh}
 .cases e
def zol(hu:X.A.units+64<cLine):Ae X (compareOp .In)<|Be X.K EH:=by
 intro pq s O H x y v u Q I rx ry h;let(F,t1,t2,r,fh,r1,r2,e,q):=h;unfold EH at e;split at e
 .rename_i o k l;split at e
  .cases e;rename_i hc;unfold Io E2 at hc;rw[È,È,È,È,ë]at hc;let(a1,q1):=Gh I fh (r1.any) hc.1.1.1 rx;let(a2,q2):=Gh I fh (r2.any) (hc.1.2.1) ry;have hd:X.A.units+1+min (PyData.depthAll<|Bg l) t1.data.depth<cLine:=by lia
   cases k with
   |lst=>exact Ų q2 q1 hc.1.2.2 hc.1.1.2 hd {.bl _,H,I,rfl,q.bl fh}|rl=>exact Ų q2 q1 hc.1.2.2 hc.1.1.2 hd {.bl _,H,I,rfl,q.bl fh}|tup=>exact SeqAt.in_tuple_reads q2 q1 hc.1.2.2 hc.1.1.2 hd {.bl _,H,I,rfl,q.bl fh}|rt=>exact SeqAt.in_tuple_reads q2 q1 hc.1.2.2 hc.1.1.2 hd {.bl _,H,I,rfl,q.bl fh}|pin _=>exact Ų q2 q1 hc.1.2.2 hc.1.1.2 hd {.bl _,H,I,rfl,q.bl fh}
  .cases e
 .unfold Zu at e;split at e
  .cases e;rw[r1.str_inv]at rx;rw[r2.str_inv]at ry;exact zey pq s O H _ _ v u Q I rx ry {_,_,rfl,rfl,q.bl fh}
  .cases e
 .cases e
def zez(hu:X.A.units+64<cLine):Ae X (compareOp .NotIn)<|Be X.K HW:=by
 intro pq s O H x y v u Q I rx ry h;let(F,t1,t2,r,fh,r1,r2,e,q):=h;unfold HW at e;split at e
 .rename_i o k l;split at e
  .cases e;rename_i hc;unfold Io E2 at hc;rw[È,È,È,È,ë]at hc;let(a1,q1):=Gh I fh (r1.any) hc.1.1.1 rx;let(a2,q2):=Gh I fh (r2.any) (hc.1.2.1) ry;have hd:X.A.units+1+min (PyData.depthAll<|Bg l) t1.data.depth<cLine:=by lia
   cases k with
   |lst=>exact ũ q2 q1 hc.1.2.2 hc.1.1.2 hd {.bl _,H,I,rfl,q.bl fh}|rl=>exact ũ q2 q1 hc.1.2.2 hc.1.1.2 hd {.bl _,H,I,rfl,q.bl fh}|tup=>exact SeqAt.notIn_tuple_reads q2 q1 hc.1.2.2 hc.1.1.2 hd {.bl _,H,I,rfl,q.bl fh}|rt=>exact SeqAt.notIn_tuple_reads q2 q1 hc.1.2.2 hc.1.1.2 hd {.bl _,H,I,rfl,q.bl fh}|pin _=>exact ũ q2 q1 hc.1.2.2 hc.1.1.2 hd {.bl _,H,I,rfl,q.bl fh}
  .cases e
 .cases e
def isT(b:T)(neg:Bool)(t _u:T):kH:=↑(.bl (if neg then !(decide (t.data.depth=0) && eqIs t b) else eqIs t b))
where eqIs:T->T->Bool
  |.non,.non=>true|.bl x,.bl y=>x == y|_,_=>false
end
set_option genInjectivity true in
inductive Rs where
 |v (t:T) (b:Bool)|x (c:Str)
abbrev AH:=AM->Option Rs
set_option genInjectivity true in
inductive RsL where
 |v (ts:List T) (b:Bool)|x (c:Str)
abbrev As:=AM->Option RsL
def tot(R:Nat->Rg):Rg:=λa=>∃i,R i a
def Dh(K:k6)(F H:Hp)(R:Nat->Rg)(v:T)(b:Bool)(x:V)(B:Rg):Prop:=match b with
 |true=>B=R0/\∃A,(∀a,A a->tot R a)/\Rp K F H v x A|false=>Rp K F H v x B
def Gz(b:Bool)(F H:Hp)(R:Nat->Rg):Hp:=match b with
 |true=>frz F H (tot R)|false=>F
section
variable {K:k6}{F H F1 H1:Hp}{O:L2.St}{Y:AM}{R:Nat->Rg}{B:Rg}{b c:Bool}{v:T}{x:V}
def StR.tot(S:StR K F H O Y R)(h:tot R a):F a=none/\∃u,H a=↑u:=by
 let(i,z):=h;exact S.dom z
def M6(S:StR K F H O Y R):A4 F<|Gz b F H R:=by
 cases b with
 |true=>exact Ed λa z=>(S.tot z).1|false=>exact .refl _
def Sa(S:StR K F H O Y R):A4 (Gz b F H R) H:=by
 cases b with
 |true=>exact Hk S.fh|false=>exact S.fh
def zlk(S:StR K F H O Y R)(e:Ext F H F1 H1 B)(h:b=true->c=true):A4 (Gz b F H R)<|Gz c F1 H1 R:=by
 have S1:=S.ext e;cases b with
 |false=>exact e.ff.trans (M6 S1)|true=>
  rw[h rfl];intro a u q;show frz F1 H1 (Pu.tot R) a=↑u
  by_cases z:Pu.tot R a
  .rw[EI z];have q':frz F H (Pu.tot R) a=↑u:=q;rw[EI z]at q';exact e.hh _ _ q'
  .rw[Ec z];have q':frz F H (Pu.tot R) a=↑u:=q;rw[Ec z]at q';exact e.ff _ _ q'
def Dh.frz(S:StR K F H O Y R)(e:Ext F H F1 H1 B)(g:Dh K F1 H1 R v b x B):∃F2,Ext F H F2 H1 R0/\A4 F1 F2/\Rp K (Gz b F2 H1 R) (Gz b F2 H1 R) v.share x R0:=by
 have S1:=S.ext e;cases b with
 |true=>
  let(rfl,A,hA,r):=g
  exact{F1,e,.refl _,r.share (M6 S1) λa u z q=>by
   show Pu.frz F1 H1 (Pu.tot R) a=↑u;rw[EI<|hA a z];exact q}
 |false=>
  have g' :=g;have n:∀a,B a->F1 a=none:=λa z=>(g'.dom z).1
  exact{_,e.frz n,Ed n,g'.share (Ed n) λa u z q=>by
   show Pu.frz F1 H1 B a=↑u;rw[EI z];exact q}
theorem Ext.grow(e:Ext F H F1 H1 R0)(s:A4 H1 H2):Ext F H F1 H2 R0:={e.hh.trans s,e.ff,e.fh.trans s,λ_ z=>z.elim,e.nf}
end
def GF(c:Str):Option Nat:=match c.cps.toList with
 |[78,111,82,117,110,n]=>↑n|_=>none
def Wx(c:Str):Str:=match GF c with
 |some _=>"NoRun"|none=>c
def Qe(c:Str):kK:=match GF c with
 |some n=>[.int n]|none=>[]
def US(F:Hp)(c:Str)(dx:Option Addr):Prop:=∀v∈Qe c,Ki F dx v
def XE(E:XK)(ca:Str->Value)(c:Str)(F H:Hp):Prop:=∀dx,US F c dx->E (ca<|Wx c) dx H
def XE.plain(h:XE E ca c F H)(hc:GF c=none):E (ca c) none H:=by
 have:=h none (by unfold US Qe;grind)
 unfold Wx at this
 grind
theorem XE.any(h:XE E ca c F H)(hc:GF c=none):XE E ca c F' H:=λdx _=>h dx (by unfold US Qe;grind)
def pM(K:k6)(E:L2.St->XK)(ca:Str->Value)(O:L2.St)(Q:VK)(F H:Hp)(R:Nat->Rg):Option Rs->Prop
 |some (.v v b)=>∀F' H' x B,Ext F H F' H' B->Dh K F' H' R v b x B->Q x H'|some (.x c)=>∀F' H',Ext F H F' H' R0->XE (E O) ca c F' H'|none=>False
def tM(K:k6)(E:L2.St->XK)(ca:Str->Value)(m:AH):TE:=λO H Q=>∃F Y R,StR K F H O Y R/\pM K E ca O Q F H R (m Y)
def pMs(K:k6)(E:L2.St->XK)(ca:Str->Value)(O:L2.St)(Q:kK->Hp->Prop)(F H:Hp)(R:Nat->Rg):Option RsL->Prop
 |some (.v ts b)=>∀F' H' xs,Ext F H F' H' R0->Ah K (Gz b F' H' R) ts xs->Q xs H'|some (.x c)=>∀F' H',Ext F H F' H' R0->XE (E O) ca c F' H'|none=>False
def CK(K:k6)(E:L2.St->XK)(ca:Str->Value)(m:As):TA:=λO H Q=>∃F Y R,StR K F H O Y R/\pMs K E ca O Q F H R (m Y)
def pMB(K:k6)(E:L2.St->XK)(ca:Str->Value)(O:L2.St)(Q:Bool->Hp->Prop)(F H:Hp):Option Rs->Prop
 |some (.v (.bl c) _)=>∀F' H',Ext F H F' H' R0->Q c H'|some (.v _ _)=>False|some (.x c)=>∀F' H',Ext F H F' H' R0->XE (E O) ca c F' H'|none=>False
def BM(K:k6)(E:L2.St->XK)(ca:Str->Value)(m:AH):TT:=λO H Q=>∃F Y R,StR K F H O Y R/\pMB K E ca O Q F H (m Y)
def AA(i:Nat):AH:=λY=>match Y[i]? with
 |some ↑t=>↑(.v t<|!t.sh)|_=>none
def mC(t:T):AH:=λ_=>↑(.v t false)
def AE:As:=λ_=>↑(.v [] false)
def AB(m:AH)(ms:As):As:=λY=>match m Y with
 |some (.v t b)=>(match ms Y with
  |some (.v ts b')=>↑(.v (t.share::ts)<|b || b')|r=>r)
 |some (.x c)=>↑(.x c)|none=>none
def Aw(b:Bool)(v:T):Option Rs:=if b && !v.flat then none else ↑(.v v false)
def BQ(g:kL->kH)(ms:As):AH:=λY=>match ms Y with
 |some (.v ts b)=>(match g ts with
  |some v=>Aw b v|none=>none)
 |some (.x c)=>↑(.x c)|none=>none
def g2(g:T->T->kH):kL->kH
 |[t,u]=>g t u|_=>none
def g1(g:T->kH):kL->kH
 |[t]=>g t|_=>none
abbrev m1(g:T->kH)(a:AH):AH:=BQ (g1 g)<|AB a AE
abbrev m2(g:T->T->kH)(a b:AH):AH:=BQ (g2 g)<|AB a<|AB b AE
def EF(c:AH)(a b:AH):AH:=λY=>match c Y with
 |some (.v (.bl true) _)=>a Y|some (.v (.bl false) _)=>b Y|some (.x c)=>↑(.x c)|_=>none
def Au(c:AH):AH:=λY=>match c Y with
 |some (.v (.bl b) _)=>↑(.v (.bl<|!b) false)|some (.x c)=>↑(.x c)|_=>none
def CP(a b:AH):AH:=EF a b<|mC<|.bl false
def BK(a b:AH):AH:=EF a (mC<|.bl true) b
section
variable {X:Cx}{E:L2.St->XK}{ca:Str->Value}{O:L2.St}{H:Hp}{m ma mb mc:AH}{ms:As}{K:k6}{a b c e:Expr}{es:kC}{pos:Pos}
theorem PE.weak(h:PE X e t)(w:∀O H Q,t' O H Q->t O H Q):PE X e t':=λpq s O H Q I q=>h pq s O H Q I<|w O H Q q
theorem PT.weak(h:PT X e t)(w:∀O H Q,t' O H Q->t O H Q):PT X e t':=λpq s O H Q I q=>h pq s O H Q I<|w O H Q q
theorem PA.weak(h:PA X es t)(w:∀O H Q,t' O H Q->t O H Q):PA X es t':=λpos pq s O H Q I q=>h pos pq s O H Q I<|w O H Q q
def tM.mono(h:tM K E ca m O H Q)(w:∀x H',Q x H'->Q' x H'):tM K E ca m O H Q':=by
 let(F,Y,R,S,q):=h;refine{F,Y,R,S,?_};cases hm:m Y with
 |none=>rw[hm]at q;exact q|some r=>
  rw[hm]at q;cases r with
  |v v b=>exact λF' H' x B e g=>w _ _ (q F' H' x B e g)|x c=>exact q
def HN(h:CK K E ca AE O H Q):Q [] H:=by
 let(F,Y,R,S,q):=h;exact q F H [] (Ext.refl S.fh) .nil
def HP(h:CK K E ca (AB m ms) O H Q):tM K E ca m O H λx H1=>CK K E ca ms O H1 λxs H2=>Q (x::xs) H2:=by
 let(F,Y,R,S,q):=h;refine{F,Y,R,S,?_};unfold AB at q;cases hm:m Y with
 |none=>rw[hm]at q;exact q|some r=>
  rw[hm]at q;cases r with
  |x c=>exact q|v t b=>
   intro F' H' x B e g;let(F2,e2,_,r2):=Dh.frz S e g;have S2:=S.ext e2;refine{F2,Y,R,S2,?_};cases hs:ms Y with
   |none=>rw[hs]at q;symm|some r=>
    erw[hs]at q;cases r with
    |x c=>exact λF3 H3 e3=>q F3 H3 (e2.trans0 e3)|v ts b'=>
     intro F3 H3 xs e3 rs;refine q F3 H3 (x::xs) (e2.trans0 e3) ?_;refine .cons (H:=H3) ((r2.frame (zlk S2 e3<|by grind) λa z=>z.elim)) ?_
     cases b' with
     |true=>grind|false=>
      cases b with
      |false=>exact rs|true=>exact rs.same<|M6<|S2.ext e3
def HQ(h:tM K E ca (BQ g ms) O H Q):CK K E ca ms O H λxs H1=>DM K g xs H1 Q:=by
 let(F,Y,R,S,q):=h;refine{F,Y,R,S,?_};unfold BQ at q;cases hs:ms Y with
 |none=>rw[hs]at q;symm|some r=>
  erw[hs]at q;cases r with
  |x c=>exact q|v ts b=>
   intro F1 H1 xs e1 rs;have S1:=S.ext e1;cases hg:g ts with
   |none=>erw[hg]at q;symm|some v=>
    erw[hg]at q;refine{Gz b F1 H1 R,ts,v,Sa S1,rs,hg,λF2 H2 z C e2 r2=>?_}
    unfold Aw at q;cases b with
    |false=>exact q F2 H2 z C (e1.trans0 e2) r2|true=>
     cases hf:v.flat with
     |false=>rw[hf]at q;exact False.elim q|true=>rw[hf]at q;exact q F1 H2 z R0 (e1.grow e2.hh)<|r2.flat_any hf
def rTn2(h:DM K (g2 g) [x,y] H Q):Be K g x y H Q:=by
 let(F,ts,v,fh,rs,e,q):=h;unfold g2 at e;split at e
 .let(x1,xs1,e1,r1,rs1):=rs.inv;let(x2,xs2,e2,r2,rs2):=rs1.inv;cases e1;cases e2;exact{F,_,_,v,fh,r1,r2,e,q}
 .cases e
def rTn1(h:DM K (g1 g) [x] H Q):Lw K g x H Q:=by
 let(F,ts,v,fh,rs,e,q):=h;unfold g1 at e;split at e
 .let(x1,xs1,e1,r1,rs1):=rs.inv;cases e1;exact{F,_,v,fh,r1,e,q}
 .cases e
theorem OS(h:tM K E ca (BQ (g2 g)<|AB ma<|AB mb AE) O H Q):ID (Be K g) (tM K E ca ma) (tM K E ca mb) O H Q:=
 (HP<|HQ h).mono λx H1 h1=>(HP h1).mono λy H2 h2=>rTn2<|HN h2
theorem zmn(h:tM K E ca (BQ (g1 g)<|AB ma AE) O H Q):VL (Lw K g) (tM K E ca ma) O H Q:=
 (HP<|HQ h).mono λx H1 h1=>rTn1<|HN h1
def zmd(h:tM K E ca (AA i) O H Q):VJ i O H Q:=by
 let(F,Y,R,S,q):=h;unfold AA at q;split at q
 .rename_i t ht;let(x,e,r):=S.rep i t ht;refine{x,e,q F H x R0 (Ext.refl S.fh) ?_};cases hs:t.sh with
  |true=>exact r.move hs (.refl _)|false=>exact{rfl,R i,λa z=>{(i),z},r}
 .exact False.elim q
theorem r_var(hN:X.N[i]?=↑x)(hv:Ef X.env.scope x)(hd:(x == "__debug__")=false)(hcd:(x == "__classdict__")=false):PE X (.Name x pos)<|tM X.K E ca<|AA i:=PE.weak (Gk hN hv hd hcd) λ_ _ _ h=>zmd h
theorem Lu(h:PE X e<|tC v)(r:∀F H,Rp X.K F H t v R0):PE X e<|tM X.K E ca<|mC t:=PE.weak h λO H Q h=>by
 let(F,Y,R,S,q):=h;exact q F H v R0 (Ext.refl S.fh)<|r _ _
theorem Wb:PA X []<|CK X.K E ca AE:=PA.weak FQ λO H Q h=>HN h
theorem We(ha:PE X e<|tM X.K E ca m)(hr:PA X es<|CK X.K E ca ms)(hs:starEach (e::es) X.env=(false,eval e X.env)::starEach es X.env):PA X (e::es)<|CK X.K E ca<|AB m ms:=
 PA.weak (EB ha hr hs) λO H Q h=>HP h
theorem r_bin(ho:Ae X (binaryOp op)<|Be X.K g)(ha:PE X a<|tM X.K E ca ma)(hb:PE X b<|tM X.K E ca mb):PE X (.BinOp a op b pos)<|tM X.K E ca<|BQ (g2 g)<|AB ma<|AB mb AE:=
 PE.weak (pe_op ho ha hb) λO H Q h=>OS h
theorem r_un(ho:Kh X (unaryOp op)<|Lw X.K g)(ha:PE X a<|tM X.K E ca ma):PE X (.UnaryOp op a pos)<|tM X.K E ca<|BQ (g1 g)<|AB ma AE:=
 PE.weak (pe_un ho ha) λO H Q h=>zmn h
theorem r_cmp(ho:Ae X (compareOp op)<|Be X.K g)(ha:PE X a<|tM X.K E ca ma)(hb:PE X b<|tM X.K E ca mb)(hm:behindInMarks op b=false):PE X (.Compare a [op] [b] pos)<|tM X.K E ca<|BQ (g2 g)<|AB ma<|AB mb AE:=
 PE.weak (zkg ho ha hb hm) λO H Q h=>OS h
def LZ(h:BM K E ca m O H Q):tM K E ca m O H λx H1=>∃k,x=.bl k/\Q k H1:=by
 let(F,Y,R,S,q):=h;refine{F,Y,R,S,?_};cases hm:m Y with
 |none=>rw[hm]at q;exact q|some r=>
  rw[hm]at q;cases r with
  |x c=>exact q|v v b=>
   cases v with
   |bl k=>
    intro F' H' x B e g
    have hx:x=.bl k:=by
     cases b with
     |true=>let(_,A,_,r):=g;exact r.bl_inv
     |false=>exact(g).bl_inv
    exact{k,hx,q F' H'<|e.mono λ_ z=>z.elim}
   |_=>symm
theorem znf(ho:Ae X (compareOp op)<|Be X.K g)(ha:PE X a<|tM X.K E ca ma)(hb:PE X b<|tM X.K E ca mb)(hm:behindInMarks op b=false):PT X (.Compare a [op] [b] pos)<|BM X.K E ca<|BQ (g2 g)<|AB ma<|AB mb AE:=
 PT.weak (zk5 ho ha hb hm) λO H Q h=>OS<|LZ h
theorem W9(h:PE X e<|tM X.K E ca m)(he:∀whole,isTrue e X.env whole=(do let v <- whole;standAt e.pos;holding [v] (truthy v))):PT X e<|BM X.K E ca m:=PT.weak (Q6 h he) λO H Q h=>LZ h
def V5(h:BM K E ca (EF mc ma mb) O H Q):BM K E ca mc O H λk H1=>if k=true then BM K E ca ma O H1 Q else BM K E ca mb O H1 Q:=by
 let(F,Y,R,S,q):=h;refine{F,Y,R,S,?_};unfold EF at q;cases hm:mc Y with
 |none=>rw[hm]at q;symm|some r=>
  erw[hm]at q;cases r with
  |x c=>exact q|v v b=>
   cases v with
   |bl k=>
    intro F1 H1 e1;have S1:=S.ext e1
    have key:∀{mm },(match mm Y with
      |some (.v (.bl c) _)=>∀F' H',Ext F H F' H' R0->Q c H'|some (.v _ _)=>False|some (.x c)=>∀F' H',Ext F H F' H' R0->XE (E O) ca c F' H'|none=>False)->BM K E ca mm O H1 Q:=λ{mm} q=>by
     refine{F1,Y,R,S1,?_};cases hr:mm Y with
     |none=>grind|some r=>
      erw[hr]at q;cases r with
      |x c=>exact λF' H' e=>q F' H' (e1.trans0 e)|v v b=>
       cases v with
       |bl k=>exact λF' H' e=>q F' H' (e1.trans0 e)|_=>symm
    cases k with
    |true=>exact KH (key q)|false=>exact KI<|key q
   |_=>symm
def VZ(h:tM K E ca (EF mc ma mb) O H Q):BM K E ca mc O H λk H1=>if k=true then tM K E ca ma O H1 Q else tM K E ca mb O H1 Q:=by
 let(F,Y,R,S,q):=h;refine{F,Y,R,S,?_};unfold EF at q;cases hm:mc Y with
 |none=>rw[hm]at q;symm|some r=>
  erw[hm]at q;cases r with
  |x c=>exact q|v v b=>
   cases v with
   |bl k=>
    intro F1 H1 e1;have S1:=S.ext e1
    have key:∀{mm },(match mm Y with
      |some (.v v b)=>∀F' H' x B,Ext F H F' H' B->Dh K F' H' R v b x B->Q x H'|some (.x c)=>∀F' H',Ext F H F' H' R0->XE (E O) ca c F' H'|none=>False)->tM K E ca mm O H1 Q:=λ{mm} q=>by
     refine{F1,Y,R,S1,?_};cases hr:mm Y with
     |none=>grind|some r=>
      erw[hr]at q;cases r with
      |x c=>exact λF' H' e=>q F' H' (e1.trans0 e)|v v b=>exact λF' H' x B e g=>q F' H' x B (e1.trans0 e) g
    cases k with
    |true=>exact KH (key q)|false=>exact KI<|key q
   |_=>symm
theorem r_ife(hc:PT X c<|BM X.K E ca mc)(ha:PE X a<|tM X.K E ca ma)(hb:PE X b<|tM X.K E ca mb):PE X (.IfExp c a b pos)<|tM X.K E ca<|EF mc ma mb:=PE.weak (zhd hc ha hb) λO H Q h=>VZ h
def zjb(h:BM K E ca (Au mc) O H Q):VQ (BM K E ca mc) O H Q:=by
 let(F,Y,R,S,q):=h;refine{F,Y,R,S,?_};unfold Au at q;cases hm:mc Y with
 |none=>rw[hm]at q;symm|some r=>
  erw[hm]at q;cases r with
  |x c=>exact q|v v b=>
   cases v with
   |bl k=>exact q|_=>symm
theorem zne(hc:PT X c<|BM X.K E ca mc):PT X (.UnaryOp .Not c pos)<|BM X.K E ca<|Au mc:=PT.weak (Wm hc) λO H Q h=>zjb h
def zmo(h:tM K E ca (Au mc) O H Q):VP (tM K E ca mc) O H Q:=by
 let(F,Y,R,S,q):=h;refine{F,Y,R,S,?_};unfold Au at q;cases hm:mc Y with
 |none=>rw[hm]at q;symm|some r=>
  erw[hm]at q;cases r with
  |x c=>exact q|v v b=>
   cases v with
   |bl k=>
    intro F' H' x B e g
    have hx:x=.bl k:=by
     cases b with
     |true=>let(_,A,_,r):=g;exact r.bl_inv
     |false=>exact(g).bl_inv
    exact{k,hx,q F' H' _ R0 (e.mono λ_ z=>z.elim)<|.bl _}
   |_=>symm
theorem r_not(ha:PE X a<|tM X.K E ca ma):PE X (.UnaryOp .Not a pos)<|tM X.K E ca<|Au ma:=PE.weak (zo4 ha) λO H Q h=>zmo h
theorem VY(h:tM K E ca (EF mc ma mb) O H Q):tM K E ca mc O H λx H1=>∃k,x=.bl k/\if k=true then tM K E ca ma O H1 Q else tM K E ca mb O H1 Q:=LZ<|VZ h
def V2(r:∀F H,Rp K F H t v R0)(h:tM K E ca (mC t) O H Q):Q v H:=by
 let(F,Y,R,S,q):=h;exact q F H v R0 (Ext.refl S.fh)<|r _ _
theorem r_and{rest}(ha:PE X a<|tM X.K E ca ma)(hb:PE X (.BoolOp .And (b::rest) pos)<|tM X.K E ca mb):PE X (.BoolOp .And (a::b::rest) pos)<|tM X.K E ca<|CP ma mb:=
 PE.weak (zo9 ha hb) λO H Q h=>(VY h).mono λx H1 ⟨k,e,q⟩=>{k,e,by
  cases k with
  |true=>exact q|false=>exact V2 (λ_ _=>.bl _) q}
theorem r_or{rest}(ha:PE X a<|tM X.K E ca ma)(hb:PE X (.BoolOp .Or (b::rest) pos)<|tM X.K E ca mb):PE X (.BoolOp .Or (a::b::rest) pos)<|tM X.K E ca<|BK ma mb:=
 PE.weak (pe_or ha hb) λO H Q h=>(VY h).mono λx H1 ⟨k,e,q⟩=>{k,e,by
  cases k with
  |true=>exact V2 (λ_ _=>.bl _) q|false=>exact q}
theorem r_one(ha:PE X a<|tM X.K E ca ma):PE X (.BoolOp op [a] pos)<|tM X.K E ca ma:=zo3 ha
def BM.mono(h:BM K E ca m O H Q)(w:∀x H',Q x H'->Q' x H'):BM K E ca m O H Q':=by
 let(F,Y,R,S,q):=h;refine{F,Y,R,S,?_};cases hm:m Y with
 |none=>rw[hm]at q;exact q|some r=>
  rw[hm]at q;cases r with
  |v v b=>
   cases v with
   |bl k=>exact λF' H' e=>w _ _ (q F' H' e)|_=>symm
  |x c=>exact q
def OU(h:BM K E ca (mC<|.bl k) O H Q):Q k H:=by
 let(F,Y,R,S,q):=h;exact q F H<|Ext.refl S.fh
theorem PW.weak(h:PW X e t)(w:∀O H Q,t' O H Q->t O H Q):PW X e t':=λwh pq s O H Q I q=>h wh pq s O H Q I<|w O H Q q
theorem znd{rest}(ha:PT X a<|BM X.K E ca ma)(hb:PW X (.BoolOp .And (b::rest) pos)<|BM X.K E ca mb):PW X (.BoolOp .And (a::b::rest) pos)<|BM X.K E ca<|CP ma mb:=
 PW.weak (znr ha hb) λO H Q h=>(V5 h).mono λk H1 q=>by
  cases k with
  |true=>exact q|false=>exact OU q
theorem r_wor{rest}(ha:PT X a<|BM X.K E ca ma)(hb:PW X (.BoolOp .Or (b::rest) pos)<|BM X.K E ca mb):PW X (.BoolOp .Or (a::b::rest) pos)<|BM X.K E ca<|BK ma mb:=
 PW.weak (pw_or ha hb) λO H Q h=>(V5 h).mono λk H1 q=>by
  cases k with
  |true=>exact OU q|false=>exact q
theorem zjw(ha:PT X a<|BM X.K E ca ma):PW X (.BoolOp .And [a] pos)<|BM X.K E ca ma:=zk2 ha
theorem zjv(ha:PT X a<|BM X.K E ca ma):PW X (.BoolOp .Or [a] pos)<|BM X.K E ca ma:=znq ha
end
section
variable {X:Cx}{pq:List<|Addr×Obj}{O:L2.St}{H:Hp}{s:Shared}{h':Heap}
def G7{ch:List Addr}(I:Inv X pq O H s)(k:∀b o,b∉ch->s.heap.get? b=↑o->h'.get? b=↑o)(f:∀b∈ch,CV X pq H b):Inv X pq O H { s with heap:=h',toks:=t'}:=by
 have nit:∀b u,H b=↑u->b∉ch:=λb u e z=>by rw[(f b z).1]at e;cases e
 refine I.step (g':=s.gens) (d':=s.drawn) (ch:=ch) (λb hb=>?_) (λb o _ _ hc e _=>k b o hc e) (λb o _ _ hc e _=>{o.slots,k b o hc e}) (λ_ _ _ _ n=>n)
  (λb o hc e=>{o,k b o hc e}) (λ_ _ e=>e) (λ_ _ _ e=>e) (λb ps e=>{#[],by rw[e];simp}) (λm hm=>?_) (λb u e=>?_) I.bare
 .let(_,f1,f2,f3,f4,f5):=f b hb;exact{(f3),f1,f4,f5}
 .let(o,es,ep,ho,r):=hm;exact{o,es,ep,k _ o (λz=>(f _ z).2.1 rfl) ho,r}
 .refine(I.hok b u e).stay (λc v hc q=>k c v ?_ q) (λ_ q=>q) λ_ _ q=>q
  rcases hc with z|z
  .rw[z];exact nit b u e
  .exact nit c _ z
def ON{ch:List Addr}{p:Addr}(I:Inv X pq O H s)(k:∀b o,b∉ch->s.heap.get? b=↑o->h'.get? b=↑o)(f:∀b∈ch,CV X pq H b)(hp:s.heap.objs.size<=p)(new:Cz X.prog X.w (upd H p o) h' p o) :
  Inv X pq O (upd H p o) { s with heap:=h',toks:=t' }:=by
 have hn :=I.hok.fresh hp;have nit:∀b u,H b=↑u->b∉ch:=λb u e z=>by rw[(f b z).1]at e;cases e
 have old:∀b ob,s.heap.get? b=↑ob->b≠p:=λb ob e z=>by
  subst z;exact absurd (Ä e)<|Nat.not_lt.mpr hp
 refine I.step (λb hb=>?_) (λb o _ _ hc e _=>k b o hc e) (λb o _ _ hc e _=>{o.slots,k b o hc e}) (λb ob hc e n=>by rw[An<|old b ob e];exact n)
  (λb o hc e=>{o,k b o hc e}) (λb xs e=>by rw[An<|Cr e hn];exact e) (λb o u e=>by rw[An<|Cr e hn];exact e) (λb ps e=>{#[],by rw[An<|Cr e hn,e];simp}) (λm hm=>?_) (λb u e=>?_) I.bare
 .let(_,f1,f2,f3,f4,f5):=f b hb;exact{(f3),f1,f4,f5}
 .let(o,es,ep,ho,r):=hm;exact{o,es,ep,k _ o (λz=>(f _ z).2.1 rfl) ho,r}
 .by_cases hb:b=p
  .subst hb;rw[CJ]at e;cases e;exact new
  .rw[An hb]at e;refine(I.hok b u e).stay (λc v hc q=>k c v ?_ q) (λc q=>by rw[An<|Cr q hn];exact q) λc xs q=>by rw[An<|Cr q hn];exact q
   grind
theorem KU(f:CV X pq H b)(h:b≠p):CV X pq (upd H p o) b:={by rw[An h];exact f.1,f.2}
end
def Nh(K:k6)(k:Nat)(l:Addr):It:=
 {λi H=>∃xs x,AZ K H l xs/\xs[i]?=↑x,λi H x H'=>∃p y,x=.ref p/\H p=none/\H'=upd H p (.tup [.int ((k+i:Nat):Int),y])/\∀xs,AZ K H l xs->xs[i]?=↑y,λi H=>∃xs,AZ K H l xs/\xs.length<=i}
theorem drw{w:World}    {n:Nat}  {St }(D:Draws P w A it fp n Q St)(k:Nat):Draws P w A it fp (k+n) (λj x=>∃i,j=k+i/\Q i x) (λj h=>∃i,j=k+i/\St i h) where
 live:=λ_ h ⟨i,_,st⟩=>D.live i h st
 frame:=λ_ h h' ⟨i,e,st⟩ c=>{i,e,D.frame i h h' st c}
 item:=λj s R E hj ⟨i,e,st⟩ hQ=>D.item i s R E (by lia) st λx h' tk q st' sb=>hQ x h' tk {(i),e,q} {i+1,by lia,st'} sb
 done:=λs R E ⟨i,e,st⟩ hE=>D.done s R E (by grind) hE
def zlt(he:IsEnum h e it i old)(hi:h.IsListIter it l j)(hl:h.IsList l its):l≠it/\l≠e:=by
 let(o,h1,c1,_):=hl;let(o2,h2,c2,_):=hi
 grind
theorem drw0(hh:A.handled=none)(hi:its[i]?=none):Draws P w A it [it,l] i (λ_ _=>True) (λj h=>j=i/\h.IsListIter it l i/\h.IsList l its) where
 live:=λ_ _ ⟨_,⟨o,ho,_⟩,_⟩=>{(o),ho}
 frame:=λ_ _ _ ⟨e,a,b⟩ c=>{e,a.at λo q=>c it (by simp) o q,b.at λo q=>c l (by simp) o q}
 item:=λj _ _ _ hj ⟨e,_⟩=>absurd hj<|by lia
 done:=λ_ _ _ ⟨_,a,b⟩ hE=>Λ hh a b hi hE
def Uz{K}(k:Nat)(l e it:Addr)(hei:e≠it) :
  Turn P w K (.Tuple elts kk tpos) (Nh K k l) [e,it] e (λi h=>(∃old,IsEnum h e it (k+i:Nat) old)/\h.IsListIter it l i) where
 mem:=by simp
 obj:=λi h st b hb=>by
  let((old,he),o,hi,hc,hd):=st;obtain rfl|hb:=Ê.mp hb
  .exact{_,he,λv z=>by
    have z' :=z;cases z'}
  .have q :=by simpa using hb
   subst q;exact{o,hi,λv z=>by rw[hd]at z;cases z}
 keep:=λi h h' st k=>by
  let((old,he),hi):=st;exact{{old,k e (by simp) _ he},hi.at λo q=>k it (by simp) o q}
 item:=by
  intro X hP hw hK hc i pq s O H E I hf st hg;subst hP hw hK;let((old,he),hit):=st;let(xs,x,hq,hx):=hg;let(its,rv,p,hz):=I.list hq;let(u,hu,ru):=rv.get hx;have elt :=Ä he;have ilt:it<s.heap.objs.size:=by let(o,q,_):=hit;exact Ä q
  have hn :=I.hok.fresh<|Ç _;let(n1,n2):=zlt he hit p.isList;have hlt:i<its.toArray.size:=by simpa using (Ñ.mp hu).1
  refine wpAny_pyNext_enum_itemD (drw (Draws.list (A:=X.A.in1) (I.ok.hd hc) it l n1 _) k) he {(i),rfl,hit,p.isList} (by lia) hei (by simp[hei,Î n2]) λx' h' tk hx' ho hit' hT hsz hk=>?_
  let(i',e1,hx'):=hx';have e1:i'=i:=by lia
  subst e1
  have e2 :=by
   rw[List.getElem?_toArray,hu]at hx';exact(Ý hx').symm
  subst e2;let(i2,e2,hit',_):=hit';have e2:i2=i'+1:=by lia
  subst e2
  have I1:Inv X pq O (upd H s.heap.objs.size<|.tup [.int<|k+i',x]) { s with heap:=h',toks:=tk+1 }:=by
   refine ON I (λb o hb q=>hk b o (λz=>hb<|by simp[z]) (λz=>hb<|by simp[z]) q) hf (Ç _) ?_
   exact{by erw[Ø,Ċ];rw[đ];decide,[.int (k+i') tk,x'],.cons {_,rfl}<|.cons ru .nil,_,hT,rfl,0,rfl}
  have f1:∀b∈[e,it],CV X pq (upd H s.heap.objs.size<|.tup [.int (k+i':Nat),x]) b:=λb hb=>KU (hf b hb) (by
   obtain rfl|hb:=Ê.mp hb
   .exact Õ elt
   .have q :=by simpa using hb
    subst q;exact Õ ilt)
  refine{.ref s.heap.objs.size,rfl,wpAny_letOwnedTupleGo_enum ho λh2 he2 hs2=>?_}
  refine{.ref s.heap.objs.size,_,G7 (ch:=[e]) I1 (λb o hb q=>hs2.extBut b o (λz=>hb<|by simp[z]) q)<|λb hb=>f1 b (by simp at hb;simp[hb]),rfl,{_,x,rfl,hn,rfl,λys hy=>by rw[I.list_inj hy hq];exact hx},{{_,by simpa[Int.add_assoc] using he2},hit'.extBut hs2.extBut hei.symm},λb hb=>(f1 b hb).1}
 done:=by
  intro X hP hw hK hc i pq s O H E I hf st hg;subst hP hw hK;let((old,he),hit):=st;let(xs,hq,hx):=hg;let(its,rv,p,hz):=I.list hq;have hl:=rv.length;exact wpAny_pyNext_enum_endD (drw0 (I.ok.hd hc) (by simp;lia)) he {(rfl),hit,p.isList} λh' eb=>{rfl,G7 (ch:=[it]) I (λb o hb q=>eb b o (λz=>hb<|by simp[z]) q)<|λb hb=>hf b (by simp at hb;simp[hb])}
 self:=λ_ _ _ _ _ st h=>Μ st.1.choose_spec h
def UX(K:k6)(l1 l2:Addr):It:=
  {λi H=>∃xs x ys y,AZ K H l1 xs/\xs[i]?=↑x/\AZ K H l2 ys/\ys[i]?=↑y,
   λi H x H'=>∃p y z,x=.ref p/\H p=none/\H'=upd H p (.tup [y,z])/\(∀xs,AZ K H l1 xs->xs[i]?=↑y)/\∀xs,AZ K H l2 xs->xs[i]?=↑z,
   λi H=>∃xs ys,AZ K H l1 xs/\AZ K H l2 ys/\(xs.length<=i\/ys.length<=i)}
def zgp{K}(z TI TO i1 i2 l1 l2)(D:ZipApart z TI TO i1 i2 l1 l2) :
  Turn P w K (.Tuple elts kk tpos) (UX K l1 l2) [z,TI,TO,i1,i2] z (λi h=>IsZip h z TI TO .none/\IsPair h TI (.ref i1) (.ref i2)/\(∃a b,IsPair h TO a b)/\h.IsListIter i1 l1 i/\h.IsListIter i2 l2 i) where
 mem:=by simp
 obj:=λi h st b hb=>by
  let(hz,hTI,(a,c,hTO),(o1,e1,_,d1),(o2,e2,_,d2)):=st;erw[Ê,ê,ñ]at hb;rcases hb with rfl|rfl|rfl|rfl|rfl
  .exact{_,hz,λv z=>by
    have z' :=z;cases z'}
  .exact{_,hTI,λv z=>by
    have z' :=z;cases z'}
  .exact{_,hTO,λv z=>by
    have z' :=z;cases z'}
  .exact{o1,e1,λv z=>by rw[d1]at z;cases z}
  .exact{o2,e2,λv z=>by rw[d2]at z;cases z}
 keep:=λi h h' st k=>by
  let(hz,hTI,(a,c,hTO),h1,h2):=st;exact{k z (by simp) _ hz,k TI (by simp) _ hTI,{a,c,k TO (by simp) _ hTO},h1.at λo q=>k i1 (by simp) o q,h2.at λo q=>k i2 (by simp) o q}
 item:=by
  intro X hP hw hK hc i pq s O H E I hf st hg;subst hP hw hK;let(hz,hTI,(a,c,hTO),h1,h2):=st;let(xs,x,ys,y,hq,hx,hq2,hy):=hg;let(its,rv,p,hzz):=I.list hq;let(its2,rv2,p2,hzz2):=I.list hq2;let(u,hu,ru):=rv.get hx;let(u2,hu2,ru2):=rv2.get hy;have hn :=I.hok.fresh<|Ç _
  have lt:∀b∈[z,TI,TO,i1,i2],b≠s.heap.objs.size:=λb hb=>by
   erw[Ê,ê,ñ]at hb;rcases hb with rfl|rfl|rfl|rfl|rfl
   .exact Õ<|Ä hz
   .exact Õ<|Ä hTI
   .exact Õ<|Ä hTO
   .let(o,q,_):=h1;exact Õ<|Ä q
   .let(o,q,_):=h2;exact Õ<|Ä q
  refine wpAny_pyNext_zip_item D hz hTI hTO h1 h2 p.isList p2.isList (by simpa using hu) (by simpa using hu2) λh' a1 a2 a3 a4 a5 a6 hk=>?_
  have I1:Inv X pq O (upd H s.heap.objs.size<|.tup [x,y]) { s with heap:=h',toks:=s.toks }:=by
   refine ON I (λb o hb q=>hk b o (λz=>hb<|by simp[z]) (λz=>hb<|by simp[z]) (λz=>hb<|by simp[z]) (λz=>hb<|by simp[z]) q) hf (Ç _) ?_
   exact{by erw[Ø,Ċ];rw[đ];decide,[u,u2],.cons ru<|.cons ru2 .nil,_,a5,rfl,0,rfl}
  have f1:∀b∈[z,TI,TO,i1,i2],CV X pq (upd H s.heap.objs.size<|.tup [x,y]) b:=λb hb=>KU (hf b hb)<|lt b hb
  refine{.ref s.heap.objs.size,rfl,wpAny_letOwnedTupleGo_zip a1 λh3 hz3 hs3=>?_}
  refine{.ref s.heap.objs.size,_,G7 (ch:=[z]) I1 (λb o hb q=>hs3.extBut b o (λz=>hb<|by simp[z]) q)<|λb hb=>f1 b (by simp at hb;simp[hb]),rfl,{_,x,y,rfl,hn,rfl,(λzs hy'=>by rw[I.list_inj hy' hq];exact hx),λzs hy'=>by rw[I.list_inj hy' hq2];exact hy},?_,λb hb=>(f1 b hb).1}
  exact{hz3,hs3.extBut _ _ D.TIz<|hk _ _ D.TIz D.TITO D.TIi1 D.TIi2 hTI,{_,_,hs3.extBut _ _ D.TOz a2},a3.extBut hs3.extBut D.i1z,a4.extBut hs3.extBut D.i2z}
 done:=by
  intro X hP hw hK hc i pq s O H E I hf st hg;subst hP hw hK;let(hz,hTI,(a,c,hTO),h1,h2):=st;let(xs,ys,hq,hq2,hx):=hg;let(its,rv,p,hzz):=I.list hq;let(its2,rv2,p2,hzz2):=I.list hq2;have hl:=rv.length;have hl2:=rv2.length;refine wpAny_pyNext_zip_end (I.ok.hd hc) D hz hTI hTO h1 h2 p.isList p2.isList ?_ λh' hk=>{rfl,G7 I (λb o hb q=>hk b o (λz=>hb<|by simp[z]) (λz=>hb<|by simp[z]) (λz=>hb<|by simp[z]) (λz=>hb<|by simp[z]) q) hf}
  rcases hx with hx|hx
  .exact .inl (by simp;lia)
  .exact .inr (by simp;lia)
 self:=λ_ _ _ _ _ st h=>Ν st.1 h
section
variable {X:Cx}{elts:kC}{kk:Nat}{tpos:Pos}
def iEnum(K:k6)(ta:TA):TI:=λO H R=>ta O H λvs H1=>∃a,vs=[.ref a]/\(∃xs,AZ K H1 a xs)/\R (Nh K 0 a) H1
def zkc(hg:Gl X "enumerate")(hm:X.mg "enumerate"=none)(ha:PA X [a] ta)(hs:starEach [a] X.env=[(false,eval a X.env)]):PI X (.Tuple elts kk tpos) (.Call (.Name "enumerate" p) [a] [] pos)<|iEnum X.K ta:=by
 intro pq s O H R I h;refine Call_<|Fo I hg hm boot_enumerate<|Ĕ (AX (ha pos pq s O H _ I h) λus s1 zz=>?_) hs rfl
 let(vs,H1,I1,r1,q1):=zz;let(l,e,(xs,hq),q):=q1;subst e;let(u,rfl,ru):=Ei r1;cases ru;let(its,rv,pl,hz):=I1.list hq;refine call_enumerate_list pl.isList λh' he hit hsz hk=>?_
 have I2:Inv X pq O H1 { s1 with heap:=h',toks:=s1.toks }:=I1.kept hk
 refine Μ he {s1.heap.objs.size+1,[s1.heap.objs.size+1,s1.heap.objs.size],_,_,H1,rfl,I2,Uz 0 l _ _ (by simp),{{_,by simpa using he},hit},λb hb=>?_,q}
 have hb':s1.heap.objs.size<=b:=by
  grind
 exact I1.fpOk hb'<|I1.hok.fresh hb'
def iZip(K:k6)(ta:TA):TI:=λO H R=>ta O H λvs H1=>∃a b,vs=[.ref a,.ref b]/\(∃xs,AZ K H1 a xs)/\(∃xs,AZ K H1 b xs)/\R (UX K a b) H1
def znw(hg:Gl X "zip")(hm:X.mg "zip"=none)(ha:PA X [a,b] ta)(hs:starEach [a,b] X.env=[(false,eval a X.env),(false,eval b X.env)])(hs2:starEach [b] X.env=[(false,eval b X.env)]):PI X (.Tuple elts kk tpos) (.Call (.Name "zip" p) [a,b] [] pos)<|iZip X.K ta:=by
 intro pq s O H R I h;refine Call_<|Fo I hg hm boot_zip<|Ĕ (AX (ha pos pq s O H _ I h) λus s1 zz=>?_) (by rw[hs,hs2]) (by rw[hs2];rfl)
 let(vs,H1,I1,r1,q1):=zz;let(l1,l2,e,(xs,hq),(ys,hq2),q):=q1;subst e;let(u,u2,rfl,ru,ru2):=G6 r1;cases ru;cases ru2;let(its,rv,pl,hz):=I1.list hq;let(its2,rv2,pl2,hz2):=I1.list hq2;have llt:l1<s1.heap.objs.size:=by let(o,n,e,_):=pl;exact Ä e
 have llt2:l2<s1.heap.objs.size:=by let(o,n,e,_):=pl2;exact Ä e
 refine call_zip_2 pl.isList pl2.isList λh' a1 a2 a3 a4 a5 a6 hk=>?_
 have I2:Inv X pq O H1 { s1 with heap:=h',toks:=s1.toks }:=I1.kept hk
 have D:ZipApart (s1.heap.objs.size+4) (s1.heap.objs.size+2) (s1.heap.objs.size+3) s1.heap.objs.size (s1.heap.objs.size+1) l1 l2:=by
  have n1:∀k:Nat,l1≠s1.heap.objs.size+k:=λk z=>Þ _<|Û llt<|z▸č _ _
  have n2:∀k:Nat,l2≠s1.heap.objs.size+k:=λk z=>Þ _<|Û llt2<|z▸č _ _
  refine{?_,?_,?_,?_,?_,?_,?_,?_,?_,?_,n1 4,n1 3,n1 0,n1 1,n2 4,n2 3,n2 0,n2 1}<;>intro z<;>simp at z
 refine Ν a1 {_,[s1.heap.objs.size+4,s1.heap.objs.size+2,s1.heap.objs.size+3,s1.heap.objs.size,s1.heap.objs.size+1],_,_,H1,rfl,I2,zgp _ _ _ _ _ l1 l2 D,{a1,a2,{_,_,a3},a4,a5},λb hb=>?_,q}
 have hb':s1.heap.objs.size<=b:=by
  erw[Ê,ê,ñ]at hb;rcases hb with rfl|rfl|rfl|rfl|rfl
  .exact č _ _
  .exact č _ _
  .exact č _ _
  .exact Ç _
  .exact č _ _
 exact I1.fpOk hb'<|I1.hok.fresh hb'
variable {pq:List<|Addr×Obj}{O:L2.St}{H:Hp}{s:Shared}{a:Addr}{o:Obj}{kvs:List<|Key×V}
def zp8(r:KV kvs vs):kvs.length=vs.length:=Œ<|r
end
section
variable {X:Cx}{o:Expr}{to:TE}{ap cp:Pos}{elts:kC}{kk:Nat}{tpos:Pos}
end
def J0(ifs:kC)(env:Env):Sem Bool:=forIn ifs true λc r=>if r=true then do let ok <- isTrue c env<|eval c env;pure (ForInStep.yield ok) else pure (ForInStep.yield r)
def HI(X:Cx)(ifs:kC)(t:TT):Prop:=
 ∀(pq:List<|Addr×Obj) (s:Shared) (O:L2.St) (H:Hp) (Q:Bool->Hp->Prop),Inv X pq O H s->t O H Q->wpAny (model X.prog X.w) X.A (J0 ifs X.env) (TP X pq O Q) X.xe s
theorem zk4:HI X []<|λ_ H Q=>Q true H:=λpq s O H Q I h=>Å {(H),I,h}
theorem zk3(h:PT X c t):HI X [c] t:=λpq s O H Q I q=>by
 have e:J0 [c] X.env=(isTrue c X.env (eval c X.env) >>= λok=>pure ok):=by
  unfold J0;simp
 rw[e];exact À<|ï (h pq s O H Q I q) (λb s1 h1=>Å h1) λ_ _ z=>z
def zee:compTurn (.ListComp elt [{target,iter,ifs,0}] scope pos) 0 it acc env=(standAt iter.pos >>= λ_=>pyNext it >>= λr=>match r with
  |none=>pure (.done .next)|some u=>letOwnedTupleGo target it u >>= λ_=>assign target env u >>= λ_=>J0 ifs env >>= λok=>
   if ok=true then ((eval elt env >>= λx=>call (.builtin "list.append") [acc,x] >>= λ_=>pure ()) >>= λ_=>again<|.compLoop (.ListComp elt [{target,iter,ifs,0}] scope pos) 0 it acc env)
   else again (.compLoop (.ListComp elt [{target,iter,ifs,0}] scope pos) 0 it acc env)):=by rfl
def zef(hN:NE=notedBy (model prog w) A env λe s'=>R (.error e) s')(I:Nat->Shared->Prop)
  (hturn : ∀ n s, I n s -> wpAny (model prog w) A (pyNext it) (fun r s₁ => match r with
   |none=>R (.ok .next) s₁|some v=>wpAny (model prog w) A (letOwnedTupleGo target it v) (λ_ s₁'=>wpAny (model prog w) A (assign target env v) (λ_ s₂=>wpAny (model prog w) A (J0 ifs env) (λok s₂'=>if ok=true then wpAny (model prog w) A (eval elt env) (λx s₃=>
     wpAny (model prog w) A (call (.builtin "list.append") [acc,x]) (λ_ s₄=>∃m,m<n/\I m s₄) NE s₃)
     NE s₂' else ∃m,m<n/\I m s₂') NE s₂) NE s₁') NE s₁) NE s)
  (k ) (hk:I k s):codeAny (model prog w) A (.compLoop (.ListComp elt [{target,iter,ifs,0}] scope pos) 0 it acc env) R s:=by
 subst hN;refine codeAny_loop rfl I (λn s hI=>?_) k hk
 refine wpAny_noted ?_;rw[zee];refine À<|Ħ<|À<|ï (hturn n s hI) (λr s₁ h₁=>?_) λ_ _ z=>z
 cases r with
 |none=>exact Å h₁|some v=>
  refine À<|ï h₁ (λ_ s₁' h₁'=>?_) λ_ _ z=>z
  refine À<|ï h₁' (λ_ s₂ h₂=>À<|ï h₂ (λok s₂' h₂'=>?_) λ_ _ z=>z) λ_ _ z=>z
  cases ok with
  |false=>
   rw[if_neg<|by decide]at h₂' ⊢
   exact Å {(rfl),h₂'}
  |true=>rw[if_pos rfl]at h₂' ⊢;exact À<|À<|ï h₂' (λx s₃ h₃=>À<|ï h₃ (λ_ s₄ h₄=>Å<|Å {(rfl),h₄}) λ_ _ z=>z) λ_ _ z=>z
def T4(env ):∀(names:List<|Str×NameKind),(∀y∈names,y.2=.free->∃c,env.cells.lookup y.1=↑c)->∀acc ,∃cl ,
  (forIn names acc λ(x:Str×NameKind) r=>if (x.2 == NameKind.free)=true then do let a <- cellOf env x.1;pure (ForInStep.yield<|(x.1,a)::r) else pure (ForInStep.yield r))=pure cl /\
  (∀y c,cl.lookup y=↑c->acc.lookup y=↑c\/env.cells.lookup y=↑c)/\(∀y∈names,y.2=.free->∃c,cl.lookup y.1=↑c)/\∀y c,acc.lookup y=↑c->∃c',cl.lookup y=↑c'
 |[],_,acc=>{acc,rfl,λ_ _ e=>.inl e,(λ_ z=>by cases z),λ_ c e=>{(c),e}}|(n,k)::r,h,acc=>by
  rw[List.forIn_cons]
  by_cases hk:k=.free
  .subst hk;let(c,hc):=h (n,.free) (Í ..) rfl;have e1:cellOf env n=pure c:=by unfold cellOf;rw[hc]
   let(cl,e,h1,h2,h3):=T4 env r (λy hy=>h y<|É _ hy)<|(n,c)::acc
   refine{cl,?_,λy c' q=>?_,λy hy hf=>?_,λy c' q=>?_}
   .erw[ì,Æ,e1,pure_bind];exact e
   .rcases h1 y c' q with z|z
    .rw[å]at z;cases hy:y == n with
     |true=>rw[hy]at z;cases z;exact .inr (by rw[eq_of_beq hy];exact hc)|false=>rw[hy]at z;exact .inl z
    .exact .inr z
   .obtain rfl|hy:=Ê.mp hy
    .exact h3 n c<|by simp
    .exact h2 y hy hf
   .by_cases hy:y=n
    .subst hy;exact h3 y c<|by simp
    .exact h3 y c' (by rw[å,beq_eq_false_iff_ne.mpr hy];exact q)
  .have hk':(k == NameKind.free)=false:=beq_eq_false_iff_ne.mpr hk;let(cl,e,h1,h2,h3):=T4 env r (λy hy=>h y<|É _ hy) acc
   refine{cl,?_,h1,λy hy hf=>?_,h3}
   .erw[hk',pure_bind];exact e
   .obtain rfl|hy:=Ê.mp hy
    .exact absurd hf hk
    .exact h2 y hy hf
def zdg(scope)(env)(h:∀y∈scope.names,y.2=.free->∃c,env.cells.lookup y.1=↑c):∃cl,closureFor scope env=pure cl/\(∀y c,cl.lookup y=↑c->env.cells.lookup y=↑c)/\∀y∈scope.names,y.2=.free->∃c,cl.lookup y.1=↑c:=by
 let(cl,e,h1,h2,_):=T4 env scope.names h [];refine{cl,?_,λy c q=>?_,h2}
 .have e2:closureFor scope env=(forIn scope.names [] λ(x:Str×NameKind) (r:List<|Str×Addr)=>(if (x.2 == NameKind.free)=true then do let a <- cellOf env x.1;pure (ForInStep.yield<|(x.1,a)::r) else pure (ForInStep.yield r):Sem<|ForInStep<|List<|Str×Addr)) >>= pure:=rfl
  rw[e2,e,pure_bind]
 .rcases h1 y c q with z|z
  .cases z
  .exact z
def T6:∀(names ) (h:Heap) (acc ) (y ) (c ),(cellsFrom h.objs.size names acc).lookup y=↑c->acc.lookup y=↑c\/(h.objs.size<=c/\(pushCells h names).IsCell c none/\(y,NameKind.cell)∈names)
 |[],h,acc,y,c,e=>.inl e|(n,k)::r,h,acc,y,c,e=>by
  unfold cellsFrom at e;unfold pushCells;split at e
  .rename_i hk;rw[if_pos hk];have ez:(h.push { cls:=.type "cell",data:=.cell none }).objs.size=h.objs.size+1:=Ă ..;rw[<- ez]at e
   rcases T6 r _ _ y c e with q|⟨q1,q2,q3⟩
   .rw[å]at q;cases hy:y == n with
    |true=>rw[hy]at q;cases q;have e1:y=n:=eq_of_beq hy;subst e1;exact .inr {Ç _,{_,ř _ _ _ _<|â _ rfl,rfl},by rw[eq_of_beq hk];exact Í ..}|false=>rw[hy]at q;exact .inl q
   .exact .inr {by rw[ez]at q1;exact Ü (Đ _) q1,q2,É _ q3}
  .rename_i hk;rw[if_neg hk]
   rcases T6 r h acc y c e with q|⟨q1,q2,q3⟩
   .exact .inl q
   .exact .inr {q1,q2,É _ q3}
def T7:∀(names) (h:Heap) (acc:List<|Str×Addr),(∀y z c,acc.lookup y=↑c->acc.lookup z=↑c->y=z)->(∀y c,acc.lookup y=↑c->c<h.objs.size) ->
  ∀y z c,(cellsFrom h.objs.size names acc).lookup y=↑c->(cellsFrom h.objs.size names acc).lookup z=↑c->y=z
 |[],h,acc,hi,_=>hi|(n,k)::r,h,acc,hi,hl=>by
  unfold cellsFrom;split
  .have ez:(h.push { cls:=.type "cell",data:=.cell none }).objs.size=h.objs.size+1:=Ă ..;rw[<- ez];refine T7 r _ _ (λy z c h1 h2=>?_)<|λy c h1=>?_
   .rw[å]at h1 h2;cases hy:y == n with
    |true=>
     rw[hy]at h1;cases h1;cases hz:z == n with
     |true=>rw[eq_of_beq hy,eq_of_beq hz]|false=>rw[hz]at h2;exact absurd (hl z _ h2)<|Þ _
    |false=>
     rw[hy]at h1;cases hz:z == n with
     |true=>rw[hz]at h2;cases h2;exact absurd (hl y _ h1) (Þ _)|false=>rw[hz]at h2;exact hi y z c h1 h2
   .rw[å]at h1;rw[ez];cases hy:y == n with
    |true=>rw[hy]at h1;cases h1;exact Ė _|false=>rw[hy]at h1;exact Ğ<|hl y c h1
  .exact T7 r h acc hi hl
def T5:∀(names) (n lo:Nat) (acc:List<|Str×Addr) (y) (c),lo<=n->((y,NameKind.cell)∈names\/∃c0,acc.lookup y=↑c0/\lo<=c0)->(cellsFrom n names acc).lookup y=↑c->lo<=c
 |[],n,lo,acc,y,c,hn,h,e=>by
  rcases h with h|⟨c0,h1,h2⟩
  .cases h
  .have e':acc.lookup y=↑c:=e;rw[h1]at e';cases e';exact h2
 |(m,k)::r,n,lo,acc,y,c,hn,h,e=>by
  unfold cellsFrom at e;split at e
  .refine T5 r (n+1) lo _ y c (Nat.le_succ_of_le hn) ?_ e
   by_cases hy:y=m
   .subst hy;exact .inr {n,by simp,hn}
   .rcases h with h|⟨c0,h1,h2⟩
    .rcases Ê.mp h with z|z
     .cases z;exact absurd rfl hy
     .exact .inl z
    .exact .inr {c0,by rw[å,beq_eq_false_iff_ne.mpr hy];exact h1,h2}
  .rename_i hk;refine T5 r n lo acc y c hn ?_ e
   rcases h with h|h
   .rcases Ê.mp h with z|z
    .cases z;exact absurd rfl hk
    .exact .inl z
   .exact .inr h
def zc1{code}
  (hQ:Q (newEnv scope s.heap.objs.size globals (cellsFrom (s.heap.objs.size+1) scope.names cl) qual func code ↑outer builtins) { s with heap:=pushCells (s.heap.push { cls:=.type "dict",data:=.dict #[] }) scope.names }) :
  wpAny M A (newFunctionEnv scope globals cl [] qual func code ↑outer builtins) Q E s:=by
 erw[newFunctionEnv,ŷ,Æ];refine À<|wpAny_alloc ?_;refine À<|wpAny_layCells _ (λname kind cells=>by rfl) _ _ _ _ ?_;rw[Ă ..]
 exact À<|Å<|Å hQ
abbrev Dg(X:Cx)(scope:Scope)(cl:List<|Str×Addr)(N':kE)(C:Addr)(s₀:Shared)(H₀:Hp)(ex:List Addr)(xb:Value->Shared->Prop):Cx:={ zpx X scope cl N' C s₀ H₀ ex with fn:=λx=>decide (scope.names.lookup x=↑.cell),xe:=xb }
def cO{h h' B B':Heap}(k:∀b o,B.get? b=none->h.get? b=↑o->(∀us,o.data≠.fields us)->B'.get? b=none/\∃o',h'.get? b=↑o'/\∀us,o'.data≠.fields us):∀{l},h.FunFrames B l->h'.FunFrames B' l
 |[],_=>trivial|_::_,{x,{(L),o,y1,y2,y3,y4},r}=>by
  let(z1,o',z2,z3):=k L o y2 y3 y4;exact{x,{(L),o',y1,z1,z2,z3},cO k r}
def Hv(X:Cx):Prop:=∃v l,X.stack=v::l/\X.env.frame=v.frame
def zfw{X:Cx}   {O:L2.St}{H:Hp}        (hx:Cy X E)(hst:Hv X)(I:Inv X pq O H s)(fC:CV X pq H C)(hC:∃m,s.heap.Ns C m)(nC:C∉B9 X.stack)
  (hb:benv.frame=X.env.frame) (h:DA X.prog X.w X.stack H s (E O) e s'):wpAny (model X.prog X.w) X.A (noteFrame e benv) (λ_ s2=>compPost (model X.prog X.w) X.A X.xe use QQ acc C (.error e) s2) EE s':=by
 let(v,l,st,hv):=hst;let(a,cls,H',B,rfl,os,bare,un,hok,kB,tB,fl0,he):=h;have fl1 :=st▸fl0
 let(L,hL):∃L,v.frame=↑L:=by
  let(_,_,_,(_,(L,_,y,_),_),_):=fl1;exact{(L),y}
 refine Yc (st▸I.ok.frames) (hb.trans hv) hL fl1 λh4 held sm=>?_
 let(m,oC,es,ep,hCo,dC,rC):=hC;have bC :=kB C oC hCo fC.1 nC;let(f1,f2,f3,oe,ws,Tb,oT,ts,ha,hcl,hd,g1,nT,Tne,hT,dT,g3):=held
 have hne:∀{b },B.get? b=none->b≠C:=λz w=>by
  rw[w,bC]at z;cases z
 have key:∃m,h4.Ns C m/\∀h',Heap.SameBut C h4 h'->∀cenv ,cenv.locals=C->wpAny (model X.prog X.w) X.A (PySem.passOn "comprehension.variables-let-go" (.ref a) cenv:Sem Value) (λ_ _=>False) X.xe { s' with heap:=h' }:=by
  refine{m,{oC,es,ep,f1 C oC bC,dC,rC},λh5 sb cenv _=>?_}
  have ha5 :=(sb.2 a<|hne f2).trans ha;have hT5 :=(sb.2 Tb<|hne nT).trans hT;unfold PySem.passOn;refine À<|ù ha5 hd g1 ?_;rw[if_neg<|by simp]
  refine À ?_;unfold setFlight;refine À<|ù ha5 hd g1 ?_;rw[if_pos<|by simp]
  refine Ř hT5 dT (Ĭ.mp g3).1 (wpAny_throw ?_);generalize hfl:(cenv.frame.elim Value.none λf=>rawInt f)=fl
  have dT6:=Ō dT (·.setIfInBounds 3 fl);have hT6:=ć (Obj.mapFields (·.setIfInBounds 3 fl)) hT5<|Ŭ dT6;generalize hh6:h5.update Tb (Obj.mapFields (·.setIfInBounds 3 fl))=h6 at hT6 ⊢
  have to6:∀b o,b≠C->b≠Tb->h4.get? b=↑o->h6.get? b=↑o:=λb o n1 n2 e=>by
   rw[<- hh6,õ _ _<|Î n2];exact(sb.2 b n1).trans e
  have B6 :=λb o n e=>to6 b o n (λz=>by rw[z,nT]at e;cases e)<|f1 b o e
  have hid:∀{b } {o },(W.hideAll s.heap [C]).get? b=↑o->s.heap.get? b=↑o/\b≠C:=λ{b o} e=>{ı _ e,λz=>by
   rw[z,ŭ [C]<|Ô.mpr rfl]at e;cases e}
  have hidB:∀{b } {o },b≠C->B.get? b=↑o->(W.hideAll B [C]).get? b=↑o:=λ{b o} n e=>ĝ _ e<|λz=>n<|Ô.mp z
  have hidN:∀{b },B.get? b=none->(W.hideAll B [C]).get? b=none:=λ{b} e=>by
   cases q:(W.hideAll B [C]).get? b with
   |none=>rfl|some o=>rw[ı _ q]at e;cases e
  have IX :=G7 (t':=s.toks) I (λb o n e=>ĝ _ e n) λb z=>by
   rw[Ô.mp z];exact fC
  have slot:∀b o,s.heap.get? b=↑o->H b=none->b∈B9 X.stack->∃z,h6.get? b=↑{ o with slots:=z }:=λb o e n z=>by
   let(_,o2,ho2,d2):=I.stack.mem z;rw[e]at ho2;cases ho2;let(z2,e2):=un.slot b o e n z<|by simp
   let(z3,e3):=sm b _ e2 d2;refine{z3,to6 b _ (λw=>nC<|w▸z) (λw=>?_) e3}
   rw[w,hT]at e3;cases e3;exact d2 _ dT
  have HC :=un.free C oC hCo fC.1<|by simp
  refine hx pq O H _ _ _ IX {a,cls,H',W.hideAll B [C],rfl,os,bare,{λb o e n z _=>?_,λb o e n z _=>slot b o (hid e).1 n z,λb o e n z=>un.free b o (hid e).1 n z,λb o e _=>?_,un.tups,un.frzs,un.tbls},?_,λb o e n z=>hidB (hid e).2 (kB b o (hid e).1 n z),λb o e z=>?_,{fl,λb o e=>?_,hidN f2,?_,?_},he}
  .exact B6 b o (hid e).2 (kB b o (hid e).1 n z)
  .by_cases z:b∈B9 X.stack
   .let(w,q):=slot b o (hid e).1 (I.stkFree b z) z;exact{_,q}
   .let(o',q):=tB b o (hid e).1 z;exact{o',B6 b o' (hid e).2 q}
  .intro b u e;refine(hok b u e).stay (λc x hc q=>hidB (λw=>?_) q) (λ_ q=>q) λ_ _ q=>q
   rcases hc with y|y
   .rw[<- y,w,HC]at e;cases e
   .rw[w,HC]at y;cases y
  .let(o',q):=tB b o (hid e).1 z;exact{o',hidB (hid e).2 q}
  .have e':=ı _ e;refine B6 b o (λw=>?_) e'
   rw[w,ŭ [C]<|Ô.mpr rfl]at e;cases e
  .rw[st];refine cO (λb o n e d=>{hidN n,o,to6 b o (hne n) (λw=>?_) e,d}) f3
   rw[w,hT]at e;cases e;exact d _ dT
  .refine{oe,ws,Tb,_,_,?_,hcl,hd,g1,hidN nT,Tne,hT6,dT6,?_}
   .rw[<- hh6,õ _ _ Tne];exact ha5
   .simp[Array.getElem?_setIfInBounds,(Ĭ.mp g3).1]
 cases use<;>exact key
structure TurnG(cq:Cx->Prop)(P:Program)(w:World)(K:k6)(tg:Expr)(Γ:It)(fp:List Addr)(it:Addr)(tn:Nat->Heap->Prop):Prop where
 obj:∀i h,tn i h->∀b∈fp,∃o,h.get? b=↑o/\∀v,o.data≠.cell v
 keep:∀i h h',tn i h->(∀b∈fp,∀o,h.get? b=↑o->h'.get? b=↑o)->tn i h'
 item:∀(X:Cx),X.prog=P->X.w=w->X.K=K->cq X->∀(i:Nat) (pq:List<|Addr×Obj) (s:Shared) (O:L2.St) (H:Hp) (E:Value->Shared->Prop),Inv X pq O H s->(∀b∈fp,CV X pq H b)->tn i s.heap->Γ.go i H ->
  wpAny (model P w) X.A (pyNext<|.ref it) (λr s1=>∃u,r=↑u/\wpAny (model P w) X.A (letOwnedTupleGo tg (.ref it) u) (λ_ s2=>∃x H',Inv X pq O H' s2/\A7 x u/\Γ.yld i H x H'/\tn (i+1) s2.heap/\∀b∈fp,H' b=none) E s1) E s
 done:∀(X:Cx),X.prog=P->X.w=w->X.K=K->cq X->∀(i:Nat) (pq:List<|Addr×Obj) (s:Shared) (O:L2.St) (H:Hp) (E:Value->Shared->Prop),Inv X pq O H s->(∀b∈fp,CV X pq H b)->tn i s.heap->Γ.stop i H ->
  wpAny (model P w) X.A (pyNext<|.ref it) (λr s1=>r=none/\Inv X pq O H s1) E s
 self:∀(A:Around) (i:Nat) (s:Shared) (Q:Value->Shared->Prop) (E:Value->Shared->Prop),tn i s.heap->Q (.ref it) s->wpAny (model P w) A (pyIter<|.ref it) Q E s
def PJ(cq:Cx->Prop)(X:Cx)(tg iter:Expr)(wi:TI):Prop:=
 ∀(pq:List<|Addr×Obj) (s:Shared) (O:L2.St) (H:Hp) (R:It->Hp->Prop),Inv X pq O H s->wi O H R ->
  wpAny (model X.prog X.w) X.A (eval iter X.env) (λv s1=>wpAny (model X.prog X.w) X.A (pyIter v) (λitv s2=>∃(it:Addr) (fp:List Addr) (tn:Nat->Heap->Prop) (Γ:It) (H':Hp),itv=.ref it/\Inv X pq O H' s2/\TurnG cq X.prog X.w X.K tg Γ fp it tn/\tn 0 s2.heap/\(∀b∈fp,CV X pq H' b)/\R Γ H') X.xe s1) X.xe s
theorem Ws(h:PI X tg iter wi):PJ (λX=>X.calm=true) X tg iter wi:=λpq s O H R I q=>
 AX (h pq s O H R I q) λ_ _ h1=>AX h1 λ_ _ ⟨it,fp,tn,Γ,H',e,I2,T,r⟩=>{it,fp,tn,Γ,H',e,I2,{(T.obj),T.keep,T.item,T.done,T.self},r}
section
variable {X:Cx}{elt iter tg:Expr}{ifs:kC}{scope:Scope}{pos pos2:Pos}{cl:List<|Str×Addr}{N':kE}{wi:TI}{g:TG}{tt:TT}{te:TE}
def L0(O':L2.St->L2.St)(wi:TI)(g:TG)(tt:TT)(te:TE):TE:=λO H Q=>wi O H λΓ H1=>∃(W:Nat->kK->L2.St->Hp->Prop) (n:Nat),n<=sizeLine/\W 0 [] (O' O) H1/\∀i ys Y H,W i ys Y H->ys.length<=i/\i<=n /\
 ((Γ.stop i H/\∀p,H p=none->Q (.ref p) (upd H p<|.lst ys))\/(i<n/\Γ.go i H/\∀x H',Γ.yld i H x H'->g x Y H' λτ2 H2=>tt τ2 H2 λk H3=>if k=true then te τ2 H3 λy H4=>W (i+1) (ys++[y]) τ2 H4 else W (i+1) ys τ2 H3))
def AC(X:Cx)(scope:Scope)(N':kE)(E:L2.St->XK)(F:Cx->Prop):Prop:=∀cl C s₀ H₀ ex xb,Cy (Dg X scope cl N' C s₀ H₀ ex xb) E->F (Dg X scope cl N' C s₀ H₀ ex xb)
structure BlkC(X:Cx)(scope:Scope)(N':kE)(O':L2.St->L2.St)(cl:List<|Str×Addr):Prop where
 clos:closureFor scope X.env=pure cl
 kind:scope.kind=.function
 names:∀y∈scope.names,y.2=.local->scope.names.lookup y.1=↑.local
 sub:∀y c,cl.lookup y=↑c->X.env.cells.lookup y=↑c
 has:∀y,(relabel scope X.env).names.lookup y=↑.cell\/(relabel scope X.env).names.lookup y=↑.free->(y,NameKind.cell)∈scope.names\/∃c,cl.lookup y=↑c
 cap:∀(O:L2.St) (i:Nat) (y:Str) (v:V),N'[i]?=↑y->(O' O)[i]?=↑↑v->(y,NameKind.cell)∉scope.names
 len:∀O:L2.St,O.length=X.N.length->(O' O).length=N'.length
 vis:∀(O:L2.St) (i:Nat) (y:Str) (v:V),N'[i]?=↑y->(O' O)[i]?=↑↑v->((relabel scope X.env).names.lookup y=↑.cell\/(relabel scope X.env).names.lookup y=↑.free)/\∃j:Nat,X.N[j]?=↑y/\O[j]?=↑↑v/\Ef X.env.scope y/\X.env.kindOf y≠↑.local
def Z2{O':L2.St->L2.St}(L:BlkC X scope N' O' cl){cq:Cx->Prop}(hc:∀pq O H s cl C ex xb,Inv X pq O H s->cq (Dg X scope cl N' C s H ex xb))(hi:PJ cq X tg iter wi){E:L2.St->XK}(hps:Cy X E)(hst:Hv X){O:L2.St}(hg:AC X scope N' (λ_=>E O) λτ=>PG τ tg g/\HI τ ifs tt/\PE τ elt te)
  (hs:∀x,foldedSetIterable iter X.env x=pure x) {use:Option<|Value->Sem Unit} {pq:List<|Addr×Obj} {s:Shared} {H:Hp} {Q:VK} {QQ:Value->Shared->Prop} (I:Inv X pq O H s) (h:L0 O' wi g tt te O H Q)
  (hend:∀(D C:Addr) (s5:Shared) (H5:Hp),Inv X pq O H5 s5->Q (.ref D) H5->(∃m,s5.heap.Ns C m)->CV X pq H5 C->compPost (model X.prog X.w) X.A X.xe use QQ (.ref D) C (.ok .next) s5) :
  wpAny (model X.prog X.w) X.A (comprehension (.ListComp elt [{tg,iter,ifs,0}] scope pos) scope X.env pos2 (newList []) false (eval iter X.env) use) QQ X.xe s:=by
 let(hclos,hkind,hnames,hcl,hhas,hcap,hσ,hvis):=L;refine wpAny_comprehension_free (use:=use) rfl hs hclos hkind hnames<|AX (hi pq s O H _ I h) λv s1 h1=>AX h1 λitv s2 h2=>?_
 let(it,fp,tn,Γ,H2,e,I2,T,st2,f2,W,n,hn,w0,turn):=h2;subst e;refine Κ<|zc1 ?_;dsimp only;generalize hHp:s2.heap.push { cls:=.type "list",dict:=none,data:=.seq ([]:k9).toArray }=P2;generalize hcl':cellsFrom (P2.objs.size+1) scope.names cl=cl';generalize hh1:pushCells (P2.push { cls:=.type "dict",data:=.dict #[] }) scope.names=h₁;have hC:P2.objs.size=s2.heap.objs.size+1:=by rw[<- hHp,Ă]
 have hP3:(P2.push { cls:=.type "dict",data:=.dict #[] }).objs.size=P2.objs.size+1:=Ă ..;have hDC:s2.heap.objs.size≠P2.objs.size:=by rw[hC];exact Õ<|Ė _
 have below:∀b,b<s2.heap.objs.size->b≠P2.objs.size/\b≠s2.heap.objs.size:=λb hb=>{by rw[hC];exact Õ<|Ğ hb,Õ hb}
 have old:∀b o,s2.heap.get? b=↑o->h₁.get? b=↑o:=λb o e=>by
  rw[<- hh1];exact ř _ _ _ _<|Ð _<|hHp▸Ð _ e
 have hacc:h₁.PlainList s2.heap.objs.size #[]:={_,by
  rw[<- hh1];exact ř _ _ _ _<|Ð _<|hHp▸â _ rfl}
 have hns₁:h₁.Ns P2.objs.size<|λ_=>none:=by
  rw[<- hh1];exact(Heap.Ns.new P2<|.type "dict").keeps (ř _ _)
 have cells:∀y c,cl'.lookup y=↑c->X.env.cells.lookup y=↑c\/(P2.objs.size<c/\h₁.IsCell c none/\(y,NameKind.cell)∈scope.names):=λy c e=>by
  rw[<- hcl',<- hP3]at e
  rcases T6 _ _ _ y c e with q|⟨q1,q2,q3⟩
  .exact .inl<|hcl y c q
  .rw[hP3]at q1;rw[hh1]at q2;exact .inr {(q1),q2,q3}
 have has':∀y,(y,NameKind.cell)∈scope.names\/(∃c,cl.lookup y=↑c)->∃c,cl'.lookup y=↑c:=λy hy=>by
  rw[<- hcl']
  have go:∀(names:List<|Str×NameKind) (n:Nat) (acc:List<|Str×Addr),((y,NameKind.cell)∈names\/∃c,acc.lookup y=↑c)->∃c,(cellsFrom n names acc).lookup y=↑c:=by
   intro names
   induction names with
   |nil=>
    intro n acc h
    rcases h with h|h
    .cases h
    .exact h
   |cons x r ih=>
    let(m,k):=x;intro n acc h;unfold cellsFrom;split
    .refine ih _ _ ?_
     by_cases hm:y=m
     .subst hm;exact .inr {n,by simp}
     .rcases h with h|⟨c,h⟩
      .rcases Ê.mp h with z|z
       .cases z;exact absurd rfl hm
       .exact .inl z
      .exact .inr {c,by rw[å,beq_eq_false_iff_ne.mpr hm];exact h}
    .rename_i hk;refine ih _ _ ?_
     rcases h with h|h
     .rcases Ê.mp h with z|z
      .cases z;exact absurd rfl hk
      .exact .inl z
     .exact .inr h
  exact go _ _ _ hy
 have fsub:∀b∈B9 X.stack,b∈X.env.locals::X.fs:=I2.stkSub
 have fpfs:∀b∈fp,b∉B9 X.stack:=λb hb z=>by
  let(_,h2,h3,_):=f2 b hb
  rcases Ê.mp (fsub b z) with q|q
  .exact h2 q
  .exact h3 q
 have fpold:∀b∈fp,b<s2.heap.objs.size:=λb hb=>by
  let(o,e,_):=T.obj 0 _ st2 b hb;exact Ä e
 have cold:∀y c,cl'.lookup y=↑c->c<s2.heap.objs.size\/P2.objs.size<c:=λy c e=>by
  rcases cells y c e with q|q
  .let(v,z):=I2.cell y c q;exact .inl z.lt
  .exact .inr q.1
 have cneD:∀y c,cl'.lookup y=↑c->c≠s2.heap.objs.size:=λy c e z=>by
  rcases cold y c e with q|q
  .rw[z]at q;exact Þ _ q
  .rw[z,hC]at q;exact absurd q<|Nat.not_lt.mpr<|Đ _
 have cneF:∀b,b<s2.heap.objs.size->(∀y c,X.env.cells.lookup y=↑c->c≠b)->∀y c,cl'.lookup y=↑c->c≠b:=λb hb hx y c e z=>by
  rcases cells y c e with q|q
  .exact hx y c q z
  .have:=q.1;rw[z,hC]at this;exact absurd (ļ hb<|Nat.lt_of_succ_lt this)<|Þ _
 have fresh2:∀b,s2.heap.objs.size<=b->H2 b=none:=λb hb=>I2.hok.fresh hb
 have CS:s2.heap.objs.size<=P2.objs.size:=by rw[hC];exact Đ _
 let(xb,hxb):∃xb,xb=notedBy (model X.prog X.w) X.A (compEnvC scope cl' P2.objs.size X.env) λe s'=>compPost (model X.prog X.w) X.A X.xe use QQ (.ref s2.heap.objs.size) P2.objs.size (.error e) s':={_,rfl}
 have hpb:Cy (Dg X scope cl' N' P2.objs.size s2 H2 fp xb)<|λ_=>E O:=by
  subst hxb;intro pins4 σ4 H4 s4 e s' I4 hcx
  have IX:Inv X pq O H4 s4:=I2.call' (s':=s4) (ch:=fp) I4.os I4.base I4.hok I4.bare λb hb=>by
   let(g1,g2,g3,g4,g5,g6):=f2 b hb;exact{(g4),g2,g5,g6}
  let(m4,hm4,_):=I4.loc
  exact zfw hps hst IX {I4.free,(I2.fpOk (H':=H2) CS<|fresh2 _ CS).2} {(m4),hm4} (λz=>by
   let(o,ho,_):=(I2.stack.mem z).2;exact absurd (Ä ho)<|Nat.not_lt.mpr CS) rfl hcx
 let(hg,ht,he):=hg _ _ _ _ _ _ hpb
 have ok':(Dg X scope cl' N' P2.objs.size s2 H2 fp xb).Ok:=by
  refine{I2.ok.mod,hkind,I2.ok.glob,I2.ok.blt,CS,?inj,λy hy=>has' y<|hhas y hy,?cab,I2.ok.hd,I2.ok.frames,.inl rfl,λb hb=>{(below b<|fpold b hb).1,cneF b (fpold b hb) λy c e=>(f2 b hb).2.2.2.2.1 y c e},
   λb o e=>I2.bs b o e,Ü I2.ok.bsz I2.sz,λb o e hb=>?_,λb hb=>fpfs b hb,I2.stack,I2.stkFree}
  case inj=>
   intro y z c h1 h2;have h1':(cellsFrom (P2.push { cls:=.type "dict",data:=.dict #[] }).objs.size scope.names cl).lookup y=↑c:=by rw[hP3,hcl'];exact h1
   have h2':(cellsFrom (P2.push { cls:=.type "dict",data:=.dict #[] }).objs.size scope.names cl).lookup z=↑c:=by rw[hP3,hcl'];exact h2
   refine T7 scope.names _ cl (λy z c g1 g2=>I2.ok.inj y z c (hcl y c g1)<|hcl z c g2) (λy c g=>?_) y z c h1' h2'
   let(v,q):=I2.cell y c<|hcl y c g;rw[hP3,hC];exact Ğ<|Ğ q.lt
  case cab=>
   intro y c hy e;have hy':scope.names.lookup y=↑.cell:=ò hy;have e':(cellsFrom (P2.objs.size+1) scope.names cl).lookup y=↑c:=by rw[hcl'];exact e
   exact Ü CS<|Ü (Đ _)<|T5 scope.names _ (P2.objs.size+1) cl y c (Ç _) (.inl<|ĕ hy') e'
  .let(_,_,_,q,_):=f2 b hb
   rcases q with q|q
   .exact I2.ok.noex b o e q
   .exact absurd (Û (Ä e)<|Ü I2.ok.bsz q)<|Þ _
 have I':Inv (Dg X scope cl' N' P2.objs.size s2 H2 fp xb) pq (O' O) H2 { s2 with heap:=h₁ }:=by
  refine{ok',rfl,I2.bare,Un.kept old,{_,hns₁,λi y v h1 h2 h3=>?_},λy c e=>?_,fresh2 _ CS,?fc,λp hp=>?_,I2.hok.kept old,hσ O I2.len}
  case fc=>
   intro y c e
   rcases cells y c e with q|q
   .exact I2.freeC y c q
   .exact fresh2 c<|Ü CS<|Ŕ q.1
  .let(hk,j,h4,h5,h6,h7):=hvis O i y v h1 h2;have hno:=hcap O i y v h1 h2;let(m,hn',hl):=I2.loc;let(u,r,l):=hl j y v h4 h5 h6;let(c,hcc):=has' y<|hhas y hk;refine{u,r,.inr {hk,c,hcc,?_}}
   rcases l with ⟨k1,_⟩|⟨_,c',e',z⟩
   .exact absurd k1 h7
   .rcases cells y c hcc with w|w
    .rw[w]at e';cases e';let(o,ho,hd):=z;exact{o,old _ _ ho,hd}
    .exact absurd w.2.2 hno
  .rcases cells y c e with w|w
   .let(v,o,ho,hd):=I2.cell y c w;exact{v,o,old _ _ ho,hd}
   .exact{(none),w.2.1}
  .let(e1,e2,e3,e4,e5):=I2.pin p hp;refine{old _ _ e1,e2,(below _<|Ä e1).1,λz=>?_,e5}
   rcases Ê.mp (fsub _ z) with q|q
   .exact e3 q
   .exact e4 q
 have stat:∀{H':Hp},(∀b∈fp,H' b=none)->∀b∈fp,CV (Dg X scope cl' N' P2.objs.size s2 H2 fp xb) pq H' b:=λhn' b hb=>
  {hn' b hb,(below b<|fpold b hb).1,fpfs b hb,.inl hb,cneF b (fpold b hb) λy c e=>(f2 b hb).2.2.2.2.1 y c e,(f2 b hb).2.2.2.2.2}
 have Dok:∀{H':Hp},H' s2.heap.objs.size=none->CV (Dg X scope cl' N' P2.objs.size s2 H2 fp xb) pq H' s2.heap.objs.size:=λhn'=>
  {hn',hDC,(λz=>by
   let(o,ho,_):=(I2.stack.mem z).2;exact absurd (Ä ho)<|Þ _),.inr<|Ç _,cneD,λp hp z=>absurd (Ä (I2.pin p hp).1) (by rw[z];exact Þ _)}
 have loop:∀s3:Shared,s3={ s2 with heap:=h₁ } ->
   codeAny (model X.prog X.w) X.A (.compLoop (.ListComp elt [{tg,iter,ifs,0}] scope pos) 0 (.ref it) (.ref s2.heap.objs.size)<|compEnvC scope cl' P2.objs.size X.env)
    (compPost (model X.prog X.w) X.A X.xe use QQ (.ref s2.heap.objs.size) P2.objs.size) s3:=by
  rintro s3 rfl
  refine zef hxb (λm s'=>∃i ys Y H',m=n - i/\Inv (Dg X scope cl' N' P2.objs.size s2 H2 fp xb) pq Y H' s'/\tn i s'.heap/\(∀b∈fp,H' b=none)/\H' s2.heap.objs.size=none/\(∃its:k9,Ac ys its/\s'.heap.PlainList s2.heap.objs.size its.toArray)/\W i ys Y H')
   ?_ n {0,[],O' O,H2,rfl,I',T.keep _ _ _ st2 λb _ o e=>old b o e,λb hb=>(f2 b hb).1,fresh2 _<|Ç _,{[],.nil,hacc},w0}
  rintro m s4 ⟨i,ys,Y,H4,rfl,I4,st4,fr4,hD4,⟨its,rv,hpl⟩,w4⟩;let(hly,hin,c):=turn i ys Y H4 w4
  have statp:∀{H':Hp},(∀b∈fp,H' b=none)->∀b∈fp,CV (Dg X scope cl' N' P2.objs.size s2 H2 fp xb) (pq++HU [s2.heap.objs.size] s4.heap) H' b:=λ{H'} fr' b hb=>by
    let(g1,g2,g3,g4,g5,g6):=stat fr' b hb;refine{g1,g2,g3,g4,g5,λp hp z=>?_}
    rcases ä.mp hp with y|y
    .exact g6 p (ö _ y) z
    .rcases ä.mp y with y|y
     .exact g6 p (ß _ y) z
     .let(hb',_):=XF y;rw[z,Ô]at hb';exact absurd (fpold b hb) (by rw[hb'];exact Þ _)
  rcases c with ⟨stop,q⟩|⟨hlt,go,step⟩
  .let(k,hDo):=hpl;have I4p:=I4.pinned (fp:=[s2.heap.objs.size]) (λb hb=>by rw[Ô.mp hb];exact Dok hD4) (λb hb=>by rw[Ô.mp hb];exact{_,hDo,λv z=>(by cases z)})
   refine AX (T.done (Dg X scope cl' N' P2.objs.size s2 H2 fp xb) rfl rfl rfl (hc _ _ _ _ _ _ _ _ I2) i _ s4 Y H4 _ I4p (statp fr4) st4 stop) λr s5 zz=>?_
   let(hr,I5):=zz;subst hr;have hD5 :=(I5.pin (s2.heap.objs.size,_)<|ß _<|ß _<|HZ (Ô.mpr rfl) hDo).1;let(m5,hn5,_):=I5.loc;have fC:H4 P2.objs.size=none:=I5.free
   have U5:Un (B9 X.stack) fp H2 (upd H4 s2.heap.objs.size<|.lst ys) s2.heap s5.heap:=by
    have B:=I5.base;refine{λb o e1 e2 e3 e4=>B.keep b o e1 e2 e3 e4,λb o e1 e2 e3 e4=>B.slot b o e1 e2 e3 e4,λb o e1 e2 e4=>?_,λb o e1 e4=>B.there b o e1 e4,λb xs e1=>?_,λb o u e1=>?_,λb ps e1=>?_}
    .rw[An (below b<|Ä e1).2];exact B.free b o e1 e2 e4
    .have q':=B.tups b xs e1;rw[An<|Cr q' hD4];exact q'
    .have q':=B.frzs b o u e1;rw[An<|Cr q' hD4];exact q'
    .let(more,q'):=B.tbls b ps e1;exact{more,by rw[An<|Cr q' hD4];exact q'}
   have hzy:ys.length<=sizeLine:=Ü hly<|Ü hin hn;have HK:HOk X.prog X.w (upd H4 s2.heap.objs.size<|.lst ys) s5.heap:=Zw.HOk.adopt I5.hok hD4 {(hzy),its,k,rv,hD5};have os5:s5.os=s2.os:=I5.os
   have IX:Inv X pq O (upd H4 s2.heap.objs.size<|.lst ys) s5:=I2.call' (s':=s5) (ch:=fp) os5 U5 HK I5.bare (λb hb=>by
    let(g1,g2,g3,g4,g5,g6):=f2 b hb;exact{(g4),g2,g5,g6})
   refine hend s2.heap.objs.size P2.objs.size s5 _ IX (q _ hD4) {(m5),hn5} ?_;have CL:s2.heap.objs.size<=P2.objs.size:=CS;have fp0:CV X pq H2 P2.objs.size:=I2.fpOk CS<|fresh2 _ CS;exact{by rw[An<|Î hDC];exact fC,fp0.2}
  .let(k,hDo):=hpl;have I4p:=I4.pinned (fp:=[s2.heap.objs.size]) (λb hb=>by rw[Ô.mp hb];exact Dok hD4) (λb hb=>by rw[Ô.mp hb];exact{_,hDo,λv z=>(by cases z)})
   refine AX (T.item (Dg X scope cl' N' P2.objs.size s2 H2 fp xb) rfl rfl rfl (hc _ _ _ _ _ _ _ _ I2) i _ s4 Y H4 _ I4p (statp fr4) st4 go) λr s5 zz=>?_
   let(u,hr,h5):=zz;subst hr;refine AX h5 λ_ s6 zz=>?_
   let(x,H6,I6,r6,y6,st6,fr6):=zz;have I6':=I6.pinned (statp fr6)<|T.obj _ _ st6;refine AX (hg _ s6 Y H6 x u _ I6' r6<|step x H6 y6) λ_ s7 zz=>?_
   let(τ7,H7,I7,q7):=zz;refine AX (ht _ s7 τ7 H7 _ I7 q7) λok s7b zz=>?_
   let(H7b,I7b,q7b):=zz;have Aw:∀{H8:Hp} {s8:Shared} {τ8:L2.St},Inv (Dg X scope cl' N' P2.objs.size s2 H2 fp xb) (pq++HU [s2.heap.objs.size] s4.heap++HU fp s6.heap) τ8 H8 s8->∀h9:Heap,(∀b o,b≠s2.heap.objs.size->s8.heap.get? b=↑o->h9.get? b=↑o)->tn (i+1) h9/\∀b∈fp,H8 b=none:=λ{H8 s8 τ8} I8 h9 sb=>by
    refine{T.keep _ _ _ st6 λb hb o e=>?_,λb hb=>?_}
    .exact sb b o (below b<|fpold b hb).2 (I8.pin (b,o)<|ß _<|ß _<|HZ hb e).1
    .let(o,e,d):=T.obj _ _ st6 b hb;exact(I8.pin (b,o)<|ß _<|ß _<|HZ hb e).2.1
   cases ok with
   |false=>
    rw[if_neg<|by decide]at q7b ⊢
    have hD8:=I7b.pin (s2.heap.objs.size,_)<|ß _<|ö _<|ß _<|HZ (Ô.mpr rfl) hDo;let(t9,f9):=Aw I7b s7b.heap λb o _ e=>e
    exact{n - (i+1),by lia,i+1,ys,τ7,H7b,rfl,I7b.unpinned.unpinned,t9,f9,hD8.2.1,{(its),rv,k,hD8.1},q7b}
   |true=>
    rw[if_pos rfl]at q7b ⊢;refine AX (he _ s7b τ7 H7b _ I7b q7b) λuy s8 zz=>?_
    let(y,H8,I8,ry,w8):=zz;have hD8:=I8.pin (s2.heap.objs.size,_)<|ß _<|ö _<|ß _<|HZ (Ô.mpr rfl) hDo;have P8:s8.heap.PlainList s2.heap.objs.size its.toArray:={(k),hD8.1};have hlen:=rv.length;refine wpAny_list_append_plain P8 (λh' pl' sb=>?_) (by rw[ø,<- hlen];lia)
    have I8u :=I8.unpinned.unpinned;let(d1,d2,d3,d4,d5,d6):=Dok hD8.2.1;have I9 :=I8u.turned (t':=s8.toks) (λb o hb e=>(sb.2 b hb).trans e) d1 d2 d4 d5 d6
    let(t9,f9):=Aw I8 h' λb o hb e=>(sb.2 b hb).trans e
    exact{n - (i+1),by lia,i+1,ys++[y],τ7,H8,rfl,I9,t9,f9,hD8.2.1,{its++[uy],rv.append<|.cons ry .nil,by simpa using pl'},w8}
 refine codeAny_compStart_list (loop _ rfl)<|T.self _ 0 _ _ _ (T.keep _ _ _ st2 λb _ o e=>old b o e)<|loop _ rfl
def zp3(L:BlkC X scope N' O' cl)(hc:∀pq O H s cl C ex xb,Inv X pq O H s->cq (Dg X scope cl N' C s H ex xb))(hi:PJ cq X tg iter wi)(hps:Cy X E)(hst:Hv X){O:L2.St}(hg:AC X scope N' (λ_=>E O) λτ=>PG τ tg g/\HI τ ifs tt/\PE τ elt te)
  (hs:∀x,foldedSetIterable iter X.env x=pure x)   {H:Hp} {Q:VK} (I:Inv X pq O H s) (h:L0 O' wi g tt te O H Q) :
  wpAny (model X.prog X.w) X.A (eval (.ListComp elt [{tg,iter,ifs,0}] scope pos) X.env) (EP X pq O Q) X.xe s:=by
 refine Z2 L hc hi hps hst hg hs I h λD C s5 H5 I5 q5 ⟨m,hm⟩ f=>{m,hm,λh' sb=>?_}
 exact{.ref D,H5,G7 (ch:=[C]) I5 (λb o hb e=>(sb.2 b<|λz=>hb<|by simp[z]).trans e) (λb hb=>by grind),rfl,q5}
def zp4(L:BlkC X scope N' O' cl)(hc:X.calm=true)(hi:PI X tg iter wi)(hps:Cy X E)(hst:Hv X)(hg:AC X scope N' (λ_=>E O) λτ=>PG τ tg g/\HI τ ifs tt/\PE τ elt te)
  (hs:∀x,foldedSetIterable iter X.env x=pure x)   {H:Hp} {D:Ends} {i:Nat} {x:Str}  (hN:X.N.Nodup) (hix:X.N[i]?=↑x) (hx:X.env.scope.names.lookup x=↑.local)
  (hsw:swapsWith (.ListComp elt [{tg,iter,ifs,0}] scope pos) (↑(.Name x pos')) pos2.line X.env=pure true)
  (I:Inv X pq O H s) (h:L0 O' wi g tt te O H λv H1=>D.nx (O.set i ↑v) H1) :
  wpAny (model X.prog X.w) X.A (exec (.Assign [.Name x pos'] (.ListComp elt [{tg,iter,ifs,0}] scope pos) pos2) X.env) (SP X pq D) X.xe s:=by
 rw[exec_Assign_Name_used _ _ _ _ hsw];refine À<|Ħ<|À ?_;refine À<|ï (Z2 L (λ_ _ _ _ _ _ _ _ _=>hc) (Ws hi) hps hst hg hs I h λA C s5 H5 I5 q5 ⟨m,hm⟩ f=>?_) (λ_ s' hq=>Å<|Å hq) λ_ _ e=>e
 show wpAny _ X.A (assign (.Name x pos') X.env<|.ref A) _ _ _;refine wpAny_assign_Name<|Ve I5 hN hix (.inl hx) (v:=.ref A) rfl (λs6 I6 zz=>?_)<|.inr hx
 let(a,sb,ha):=zz;have hCa:C≠a:=by
  rcases ha with rfl|ha
  .exact f.2.1
  .exact λz=>f.2.2.2.2.1 x a ha z.symm
 refine{m,hm.sameBut sb hCa,λh' sb2=>{_,H5,G7 (ch:=[C]) I6 (λb o hb e=>(sb2.2 b<|λz=>hb<|by simp[z]).trans e) (λb hb=>by rw[Ô.mp hb];exact f),q5}}
end
structure RpO(K:k6)(F H:Hp)(l:kL)(xs:kK)(R:Nat->Rg):Prop where
 len:l.length=xs.length
 rep:∀(i:Nat) (t:T) (x:V),l[i]?=↑t->xs[i]?=↑x->Rp K F H t x (R i)
 dis:∀i j a,i≠j->R i a->¬ R j a
 out:∀i a,R i a->i<l.length
section
variable {K:k6}{F H F1 H1:Hp}{l:kL}{xs:kK}{R:Nat->Rg}{B:Rg}
theorem RpO.nil:RpO K F H [] []<|λ_=>R0:={rfl,λi t x h=>by simp at h,λ_ _ _ _ z=>z.elim,λ_ _ z=>z.elim}
def RpO.dom(h:RpO K F H l xs R)(z:R i a):F a=none/\∃u,H a=↑u:=by
 have hi:=h.out i a z;have hx:i<xs.length:=by have:=h.len;lia
 exact(h.rep i _ _ (Â hi)<|Â hx).dom z
theorem RpO.ext(h:RpO K F H l xs R)(e:Ext F H F1 H1 B):RpO K F1 H1 l xs R:={h.len,λi t x h1 h2=>(h.rep i t x h1 h2).ext e,h.dis,h.out}
theorem RpO.apart(h:RpO K F H l xs R)(e:Ext F H F1 H1 B)(hb:B b)(i):¬ R i b:=λz=>by
 let(f,u,q):=h.dom z;rw[e.nb b hb]at q;cases q
def RpO.snoc(h:RpO K F H l xs R)   (r:Rp K F H t x B)(d:∀i a,R i a->¬ B a):RpO K F H (l++[t]) (xs++[x]) (λj=>if j=l.length then B else R j):=by
 have hl:=h.len;refine{by simp[hl],λi t' x' h1 h2=>?_,λi j a hij z1 z2=>?_,λi a z=>?_}
 .by_cases hi:i=l.length
  .subst hi;rw[if_pos rfl];have e1:t=t':=by simpa using h1
   have e2:x=x':=by rw[hl]at h2;simpa using h2
   subst e1;subst e2;exact r
  .rw[if_neg hi]
   have hlt:i<l.length:=by
    have:=(Ñ.mp h1).1;simp at this
    lia
   rw[ú hlt]at h1;rw[ú<|by lia]at h2
   exact h.rep i t' x' h1 h2
 .by_cases hi:i=l.length
  .erw[hi,Æ]at z1;have hj:¬ j=l.length:=λz=>hij<|hi.trans z.symm
   erw[hj,Ã]at z2;exact d j a z2 z1
  .erw[hi,Ã]at z1
   by_cases hj:j=l.length
   .erw[hj,Æ]at z2;exact d i a z1 z2
   .erw[hj,Ã]at z2;exact h.dis i j a hij z1 z2
 .by_cases hi:i=l.length
  .simp[hi]
  .erw[hi,Ã]at z;have:=h.out i a z;simp
   lia
def RpO.cons(h:RpO K F H l xs R)   (r:Rp K F H t x B)(d:∀i a,R i a->¬ B a):RpO K F H (t::l) (x::xs) (λj=>match j with|0=>B|j+1=>R j):=by
 refine{by simp[h.len],λi t' x' h1 h2=>?_,λi j a hij z1 z2=>?_,λi a z=>?_}
 .cases i with
  |zero=>simp at h1 h2;subst h1;subst h2;exact r|succ i=>exact h.rep i t' x' (by simpa using h1)<|by simpa using h2
 .cases i with
  |zero=>
   cases j with
   |zero=>exact hij rfl|succ j=>exact d j a z2 z1
  |succ i=>
   cases j with
   |zero=>exact d i a z1 z2|succ j=>exact h.dis i j a (λz=>hij<|by rw[z]) z1 z2
 .cases i with
  |zero=>simp|succ i=>have:=h.out i a z;simp;lia
def RpO.list(h:RpO K F H l xs R)(s:A4 F H)  (hp:H p=none):Rp K F (upd H p<|.lst xs) (.own l) (.ref p) (λa=>a=p\/∃i,R i a)/\Ext F H F (upd H p<|.lst xs) (λa=>a=p):=by
 have e:=Ext.newO (o:=.lst xs) s hp;have h':=h.ext e;exact{.own (k:=.lst) trivial R (GJ s hp) CJ h.len h'.rep h.dis (λi z=>h.apart e rfl i z) h.out,e}
end
def AK(ma mk:AH):AH:=λY=>match ma Y with
 |some (.v t b)=>(match mk Y with
  |some (.v (.int i) _)=>(match t with
   |.nd _ _ l=>(match AU l i with
    |some c=>↑(.v c<|b && !c.sh)|none=>none)
   |.str z=>if z.length<=BS then (match AU z.cps.toList i with
    |some c=>↑(.v (.str {#[c]}) false)|none=>none) else none
   |_=>none)
  |some (.v _ _)=>none|r=>r)
 |r=>r
def zm5{c:α}(e:l.length=m.length)(h:AU l i=↑c):∃(j:Nat) (d:β),l[j]?=↑c/\m[j]?=↑d/\AU m i=↑d:=by
 unfold AU at h ⊢;rw[<- e];cases q:Bw l.length i with
 |none=>rw[q]at h;cases h|some j=>
  rw[q]at h;have h':l[j]?=↑c:=h
  have hj:j<m.length:=by
   have:=(Ñ.mp h').1
   lia
  exact{j,m[j],h',Â hj,Â hj}
section
variable {K:k6}{F H:Hp}
def Rp.seq(s:A4 F H)(h:Rp K F H (.nd o k l) x A):∃p xs,x=.ref p/\(AZ K H p xs\/Bt K H p xs)/\l.length=xs.length/\∀(i:Nat) (t ) (x ),l[i]?=↑t->xs[i]?=↑x->∃B,(∀a,B a->A a)/\Rp K F H t x B:=by
 cases h with
 |@shr k p xs l h e c=>
  refine{p,xs,rfl,?_,e,λi t x h1 h2=>{R0,λ_ z=>z.elim,c i t x h1 h2}}
  cases k with
  |lst=>exact .inl (AZ.of<|s _ _ h)|rl=>exact .inl (s.seq h.l)|tup=>exact .inr (Bt.of<|s _ _ h)|rt=>exact .inr (Gc s h)|pin q=>exact .inl<|AZ.of<|s _ _ h
 |@own k0 p xs l hk R f h e c d dp o=>
  refine{p,xs,rfl,?_,e,λi t x h1 h2=>{R i,λa z=>.inr {(i),z},c i t x h1 h2}}
  cases k with
  |tup=>exact .inr (Bt.of h)|_=>exact .inl<|AZ.of h
end
section
variable {X:Cx}{E:L2.St->XK}{ca:Str->Value}{O:L2.St}{H:Hp}{m ma mb mc:AH}{ms:As}{K:k6}{a b c e:Expr}{es:kC}{pos:Pos}
def tM_ix(h:tM K E ca (AK ma mb) O H Q):ID (Wk K) (tM K E ca ma) (tM K E ca mb) O H Q:=by
 let(F,Y,R,S,q):=h;refine{F,Y,R,S,?_};unfold AK at q;cases hm:ma Y with
 |none=>erw[hm]at q<;>symm|some r=>
  erw[hm]at q;cases r with
  |x c=>exact q|v t bb=>
   intro F1 H1 x B e1 g1;have S1:=S.ext e1;refine{F1,Y,R,S1,?_};cases hk:mb Y with
   |none=>erw[hk]at q<;>symm|some r=>
    erw[hk]at q;cases r with
    |x c=>exact λF' H' e=>q F' H' ((e1.trans e).mono λ_ z=>z.elim)|v tk bk=>
     cases tk with
     |int i=>
      intro F2 H2 y C e2 g2
      have hy:y=.int i:=by
       cases bk with
       |true=>let(_,A,_,r):=g2;exact r.int_inv
       |false=>exact(g2).int_inv
      subst hy;have e02 :=(e1.trans e2).mono λ_ z=>.inl z
      have S2:=S1.ext e2;cases t with
      |nd o k l=>
       simp only at q;cases hc:AU l i with
       |none=>erw[hc]at q<;>symm|some cc=>
        erw[hc]at q
        have node:∃A0,(bb=true->∀a,A0 a->tot R a)/\(bb=false->∀a,A0 a->B a)/\Rp K F2 H2 (.nd o k l) x A0:=by
         cases bb with
         |true=>let(_,A,hA,r):=g1;exact{A,λ_=>hA,(λz=>by cases z),r.ext e2}
         |false=>exact{B,(λz=>by cases z),λ_ _ z=>z,(g1).ext e2}
        let(A0,hA1,hA2,rn):=node;let(p,xs,rfl,hq,hl,kids):=Rp.seq S2.fh rn;let(j,d,h1,h2,h3):=zm5 hl hc;let(A1,hA,rk):=kids j cc d h1 h2
        have qq :=by
         cases bb with
         |false=>exact q F2 H2 d A1 (e02.mono λa z=>hA2 rfl a<|hA a z) rk|true=>
          cases hs:cc.sh with
          |true=>rw[hs]at q;exact q F2 H2 d R0 (e02.mono λ_ z=>z.elim) (rk.move hs<|.refl _)|false=>rw[hs]at q;exact q F2 H2 d R0 (e02.mono λ_ z=>z.elim) {rfl,A1,λa z=>hA1 rfl a<|hA a z,rk}
        rcases hq with hq|hq
        .exact .inl {(p),xs,i,d,rfl,rfl,hq,h3,qq}
        .exact .inr<|.inl {(p),xs,i,d,rfl,rfl,hq,h3,qq}
      |str z=>
       by_cases hz:z.length<=BS
       .erw[hz,Æ]at q;cases hc:AU z.cps.toList i with
        |none=>erw[hc]at q<;>symm|some cc=>
         erw[hc]at q
         have hx:x=.str z:=by
          cases bb with
          |true=>let(_,A,_,r):=g1;exact r.str_inv
          |false=>exact(g1).str_inv
         subst hx;exact .inr<|.inr {z,i,cc,rfl,rfl,by rw[<- GO];exact hz,hc,q F2 H2 _ R0 (e02.mono λ_ z=>z.elim)<|.str _}
       .erw[hz,Ã]at q<;>symm
      |_=>symm
     |_=>symm
theorem r_ix(ha:PE X a<|tM X.K E ca ma)(hb:PE X b<|tM X.K E ca mb)(hs:Kx b):PE X (.Subscript a b pos)<|tM X.K E ca<|AK ma mb:=PE.weak (Qd zph ha hb hs) λO H Q h=>tM_ix h
def BW{α:Type}(l:List α)(lo hi:kA):List α:=(l.drop<|HT.sIx l.length 0 lo).take (HT.sIx l.length l.length hi - HT.sIx l.length 0 lo)
def FV(m:Option<|AH):AM->Option (kA):=λY=>match m with
 |none=>↑none|some m=>match m Y with
  |some (.v (.int i) _)=>↑↑i|_=>none
def Ew(ma:AH)(ml mh:Option<|AH):AH:=λY=>match ma Y with
 |some (.v t false)=>(match FV ml Y with
  |some lo=>(match FV mh Y with
   |some hi=>(match t with
    |.nd _ .lst l=>↑(.v (.own<|BW (BN l) lo hi) false)|.nd _ .rl l=>↑(.v (.own<|BW (BN l) lo hi) false)|_=>none)
   |none=>none)
  |none=>none)
 |some (.v _ true)=>none|r=>r
def HM(K:k6)(m:Option<|AH):TO:=λO H Q=>∃F Y R o,StR K F H O Y R/\FV m Y=↑o/\∀F' H',Ext F H F' H' R0->Q o H'
theorem r_po0:PO X none<|HM X.K none:=λpq s O H Q I h=>by
 let(F,Y,R,o,S,e,q):=h;cases e;exact zka pq s O H Q I<|q F H<|Ext.refl S.fh
theorem r_po1(ha:PE X e<|tM X.K E ca m):PO X ↑e<|HM X.K ↑m:=λpq s O H Q I h=>by
 let(F,Y,R,o,S,e',q):=h;refine zk9 ha pq s O H Q I {F,Y,R,S,?_};unfold FV at e';simp only at e';cases hm:m Y with
 |none=>grind|some r=>
  rw[hm]at e';cases r with
  |x c=>cases e'|v v b=>
   cases v with
   |int i=>
    cases e';intro F' H' x B e g
    have hx:x=.int i:=by
     cases b with
     |true=>let(_,A,_,r):=g;exact r.int_inv
     |false=>exact(g).int_inv
    exact{i,hx,q F' H'<|e.mono λ_ z=>z.elim}
   |_=>cases e'
def zif(r:Ah K F l xs)(lo hi):Ah K F (BW l lo hi)<|K6 xs lo hi:=by
 have hl:=r.1;unfold BW K6;rw[hl];refine{by simp[hl],λi t x h1 h2=>?_}
 rw[List.getElem?_take]at h1 h2;split at h1
 .rename_i hi';rw[if_pos hi',ĳ]at h2;rw[ĳ]at h1;exact r.2 _ t x h1 h2
 .cases h1
def Wa{lo hi}(ha:PE X a<|tM X.K E ca ma)(hl:PO X lo<|HM X.K ml)(hh:PO X hi<|HM X.K mh):PE X (.Subscript a (.Slice lo hi none p2) pos)<|tM X.K E ca<|Ew ma ml mh:=by
 refine PE.weak (Wt zjf ha hl hh) λO H Q h=>?_
 let(F,Y,R,S,q):=h;refine{F,Y,R,S,?_};unfold Ew at q;cases hm:ma Y with
 |none=>erw[hm]at q<;>symm|some r=>
  erw[hm]at q;cases r with
  |x c=>exact q|v t bb=>
   cases bb with
   |true=>symm|false=>
    intro F1 H1 x B e1 g1;let(F1',e1',_,r1):=Dh.frz S e1 g1;have S1:=S.ext e1';simp only at q;cases h1:FV ml Y with
    |none=>erw[h1]at q<;>symm|some lo'=>
     erw[h1]at q;refine{F1',Y,R,lo',S1,h1,λF2 H2 e2=>?_}
     have S2:=S1.ext e2;cases h2:FV mh Y with
     |none=>erw[h2]at q<;>symm|some hi'=>
      erw[h2]at q;refine{F2,Y,R,hi',S2,h2,λF3 H3 e3=>?_}
      have S3:=S2.ext e3;have e03:=e1'.trans0<|e2.trans0 e3;have r3:Rp X.K F3 F3 t.share x R0:=(r1).frame (e2.ff.trans e3.ff) λ_ z=>z.elim
      have key:∀{o } {k } {l },t=.nd o k l->(k=.lst\/k=.rl)->(∀F' H' x B,Ext F H F' H' B->Rp X.K F' H' (.own<|BW (BN l) lo' hi') x B->Q x H')->Wg X.K x lo' hi' H3 Q:=by
       intro o k l et hk qq;subst et;rw[T.share]at r3;let(p,xs,rfl,_,n3,k3):=Ds r3
       have sq:AZ X.K H3 p xs:=by
        rcases hk with rfl|rfl
        .exact AZ.of<|S3.fh _ _ n3
        .exact S3.fh.seq n3.l
       refine{p,xs,rfl,sq,λp' hp'=>?_}
       have gg:Di X.K F3 H3 (.own<|BW (BN l) lo' hi') Q:=λF' H' z C e g=>qq F' H' z C (e03.trans0 e) g
       exact gg.list S3.fh (zif k3 lo' hi') hp'
      cases t with
      |nd o k l=>
       cases k with
       |lst=>exact key rfl (.inl rfl) q|rl=>exact key rfl (.inr rfl) q|tup=>symm|rt=>symm|pin _=>symm
      |_=>symm
def pMo(K:k6)(E:L2.St->XK)(ca:Str->Value)(O:L2.St)(Q:kK->Hp->Prop)(F H:Hp):Option RsL->Prop
 |some (.v ts _)=>∀F' H' xs (Rr:Nat->Rg),Ext F H F' H' (tot Rr)->RpO K F' H' ts xs Rr->Q xs H'|some (.x c)=>∀F' H',Ext F H F' H' R0->XE (E O) ca c F' H'|none=>False
def J2(K:k6)(E:L2.St->XK)(ca:Str->Value)(m:As):TA:=λO H Q=>∃F Y R,StR K F H O Y R/\pMo K E ca O Q F H (m Y)
def Ai(m:AH)(ms:As):As:=λY=>match m Y with
 |some (.v t false)=>(match ms Y with
  |some (.v ts _)=>↑(.v (t::ts) false)|r=>r)
 |some (.v _ true)=>none|some (.x c)=>↑(.x c)|none=>none
theorem znh:PA X []<|J2 X.K E ca AE:=PA.weak FQ λO H Q h=>by
 let(F,Y,R,S,q):=h;exact q F H [] (λ_=>R0) ((Ext.refl S.fh).mono λa ⟨i,z⟩=>z.elim) .nil
def zjy(ha:PE X e<|tM X.K E ca m)(hr:PA X es<|J2 X.K E ca ms)(hs:starEach (e::es) X.env=(false,eval e X.env)::starEach es X.env):PA X (e::es)<|J2 X.K E ca<|Ai m ms:=by
 refine PA.weak (EB ha hr hs) λO H Q h=>?_
 let(F,Y,R,S,q):=h;refine{F,Y,R,S,?_};unfold Ai at q;cases hm:m Y with
 |none=>erw[hm]at q<;>symm|some r=>
  erw[hm]at q;cases r with
  |x c=>exact q|v t bb=>
   cases bb with
   |true=>symm|false=>
    intro F1 H1 x B e1 g1;have S1:=S.ext e1;refine{F1,Y,R,S1,?_};cases hs:ms Y with
    |none=>erw[hs]at q<;>symm|some r=>
     erw[hs]at q;cases r with
     |x c=>exact λF' H' e=>q F' H' ((e1.trans e).mono λ_ z=>z.elim)|v ts b'=>
      intro F2 H2 xs Rr e2 ro;have g1' :=g1;refine q F2 H2 (x::xs) _ ((e1.trans e2).mono ?_)<|ro.cons (g1'.ext e2) λi a z=>?_
      .rintro a ⟨j,z⟩;cases j with
       |zero=>exact .inl z|succ j=>exact .inr {(j),z}
      .exact g1'.apart e2 {(i),z}
def BH(ms:As):AH:=λY=>match ms Y with
 |some (.v ts _)=>if ts.length<=BS then ↑(.v (.own ts) false) else none
 |some (.x c)=>↑(.x c)|none=>none
def r_lst(h:PA X es<|J2 X.K E ca ms):PE X (.List es pos)<|tM X.K E ca<|BH ms:=by
 refine PE.weak (zo6 h) λO H Q h=>?_
 let(F,Y,R,S,q):=h;refine{F,Y,R,S,?_};unfold BH at q;cases hm:ms Y with
 |none=>erw[hm]at q<;>symm|some r=>
  erw[hm]at q;cases r with
  |x c=>exact q|v ts b=>
   intro F1 H1 xs Rr e1 ro
   by_cases hz:ts.length<=BS
   .erw[hz]at q;refine{by rw[<- ro.len];exact hz,λp hp=>?_}
    let(r,e2):=ro.list e1.fh hp;refine q F1 _ _ _ ((e1.trans e2).mono ?_) r;rintro a (z|⟨i,z⟩)
    .exact .inr z
    .exact .inl {(i),z}
   .erw[hz]at q<;>symm
def BZ(ms:As):AH:=λY=>match ms Y with
 |some (.v ts false)=>if ts.length<=BS then ↑(.v (.tup ts) false) else none
 |some (.v _ true)=>none|some (.x c)=>↑(.x c)|none=>none
def r_tup(h:PA X es<|CK X.K E ca ms):PE X (.Tuple es k pos)<|tM X.K E ca<|BZ ms:=by
 refine PE.weak (zo1 h) λO H Q h=>?_
 let(F,Y,R,S,q):=h;refine{F,Y,R,S,?_};unfold BZ at q;cases hm:ms Y with
 |none=>erw[hm]at q<;>symm|some r=>
  erw[hm]at q;cases r with
  |x c=>exact q|v ts b=>
   cases b with
   |true=>symm|false=>
    intro F1 H1 xs e1 rs
    by_cases hz:ts.length<=BS
    .erw[hz]at q;refine{by rw[<- rs.1];exact hz,λp hp=>?_}
     have gg:Di X.K F1 H1 (.tup ts) Q:=λF' H' z C e g=>q F' H' z C (e1.trans0 e) g
     exact gg.tuple e1.fh rs hp
    .erw[hz]at q<;>symm
theorem zno{id}(hc:Bp X (.builtin id)<|DM X.K g)(hg:Gl X x)(hm:X.mg x=none)(hv:bootBuiltins x=↑(.builtin id))(ha:PA X (e::es)<|CK X.K E ca ms)(hn:x≠"__name__")(hdb:(x == "__debug__")=false)
  (he:starEach (e::es) X.env=(false,eval e X.env)::starEach es X.env) (hpl:(backTo pos<|starEach es X.env).any (·.1)=false):PE X (.Call (.Name x p) (e::es) [] pos)<|tM X.K E ca<|BQ g ms:=
 PE.weak (Ly hc hg hm hv ha hn hdb he hpl) λO H Q h=>HQ h
theorem Wf(hc:Bp X (.type T')<|DM X.K g)(hg:Gl X x)(hm:X.mg x=none)(hv:bootBuiltins x=↑(.type T'))(ha:PA X (e::es)<|CK X.K E ca ms)(hn:x≠"__name__")(hdb:(x == "__debug__")=false)
  (he:starEach (e::es) X.env=(false,eval e X.env)::starEach es X.env) (hpl:(backTo pos<|starEach es X.env).any (·.1)=false):PE X (.Call (.Name x p) (e::es) [] pos)<|tM X.K E ca<|BQ g ms:=
 PE.weak (Ww hc hg hm hv ha hn hdb he hpl) λO H Q h=>HQ h
end
def BA:T->kH
 |.nd _ _ l=>↑(.int l.length)|.str z=>if z.length<=BS then ↑(.int z.length) else none
 |_=>none
def Cc:T->kH
 |.nd _ _ l=>↑(.own l)|_=>none
def JB:T->kH
 |.int i=>↑(.int (if i<0 then -i else i))
 |_=>none
def Jq:T->T->kH
 |.int i,.int j=>↑(.int (if j<i then j else i))
 |_,_=>none
def MH:T->T->kH
 |.int i,.int j=>↑(.int (if j > i then j else i))
 |_,_=>none
def Hf:kL->Option (kF)
 |[]=>↑[]|.int i::r=>(Hf r).map (i::·)|_=>none
def MI(ns:kF):Int:=ns.getD (argBest (λi j=>decide (ns.getD i 0 > ns.getD j 0))<|ns.length - 1) 0
def Hi:kL->kH
 |[.nd _ .lst l]=>(match Hf l with
  |some (i::r)=>↑(.int<|MI<|i::r)|_=>none)
 |[t,u]=>MH t u|_=>none
def KO:T->kH
 |.int i=>↑(.int i)|.bl k=>↑(.int (if k then 1 else 0))
 |.str x=>if x.length<=640 then (intText? x).map T.int else none
 |_=>none
def GX:kL->Option (List Bool)
 |[]=>↑[]|.bl b::r=>(match GX r with
  |some l=>↑(b::l)|none=>none)
 |_::_=>none
def Fu:T->kH
 |.nd _ .lst l=>(match GX l with
  |some bs=>↑(.bl<|bs.all id)|none=>none)
 |_=>none
def Kg:T->kH
 |.nd _ .lst l=>(match GX l with
  |some bs=>↑(.bl<|bs.any id)|none=>none)
 |_=>none
def Uy:Kd->Option String
 |.lst=>↑"list"|.tup=>↑"tuple"|.rl=>↑"list"|.rt=>none|.pin _=>none
def LX:T->Option String
 |.non=>↑"NoneType"|.bl _=>↑"bool"|.int _=>↑"int"|.str _=>↑"str"|.nd _ k _=>Uy k|.dic _ _=>↑"dict"|.pdc _ _=>↑"dict"|.odc _ _=>none|.obj _ _=>none|.oob _ _ _ _=>none|.osd _ _=>none
def IA:List String:=["int","bool","str","list","tuple"]
def L6(a c:String):Bool:=a == c || (a == "bool" && c == "int")
def CH(c:String)(t:T):kH:=match LX t with
 |some a=>if c∈IA then ↑(.bl<|L6 a c) else none
 |none=>none
def zd4:W.kitMeta "str"=true:=by decide +kernel
def zc2:W.kitMeta "list"=true:=by decide +kernel
def Z8(K)(ha:a∈["NoneType","bool","int","str","list","tuple","dict"])(hc:c∈IA):W.kitOne K (.type a) (.type c)=↑(L6 a c):=by
 have km:W.kitMeta c=true:=by
  erw[IA,Ê,ê,ñ]at hc
  rcases hc with rfl|rfl|rfl|rfl|rfl
  .exact zd5
  .exact zc3
  .exact zd4
  .exact zc2
  .exact zbn
 by_cases h:a=c
 .subst h;rw[zhq];simp[L6]
 .refine zp9 K (l:=[]) h km ?_;erw[IA,Ê,ê,ñ]at hc ha
  rcases ha with rfl|rfl|rfl|rfl|rfl|rfl|rfl<;>rcases hc with rfl|rfl|rfl|rfl|rfl<;>first|exact absurd rfl h|decide +kernel
section
variable {X:Cx}
def zgc:Bp X (.builtin "len")<|DM X.K<|g1 BA:=by
 intro pq s O H xs us Q I r h;let(F,ts,v,fh,rs,e,q):=h;unfold g1 at e;split at e
 .let(x1,xs1,rfl,r1,rs1):=rs.inv;cases rs1.inv0;unfold BA at e;split at e
  .cases e;let(p,ys,rfl,hq,hl,_):=Rp.seq fh<|r1.any;refine eA pq s O H _ us Q I r {_,ys.length,rfl,?_,by rw[<- hl];exact q.int fh}
   rcases hq with hq|hq
   .exact .inl {(ys),hq,rfl}
   .exact .inr {(ys),hq,rfl}
  .split at e
   .cases e;rename_i hz;rw[r1.str_inv]at r;exact eA pq s O H _ us Q I r {_,_,rfl,{by exact hz,rfl},q.int fh}
   .cases e
  .cases e
 .cases e
def zf1{K}(s:A4 F H)(h:Fv K F k p xs):AZ K H p xs\/Bt K H p xs:=by
 cases k with
 |lst=>exact .inl (AZ.of<|s _ _ h)|rl=>exact .inl (s.seq h.l)|tup=>exact .inr (Bt.of<|s _ _ h)|rt=>exact .inr (Gc s h)|pin q=>exact .inl<|AZ.of<|s _ _ h
def eE:Bp X (.type "list")<|DM X.K<|g1 Cc:=by
 intro pq s O H xs us Q I r h;let(F,ts,v,fh,rs,e,q):=h;unfold g1 at e;split at e
 .let(x1,xs1,rfl,r1,rs1):=rs.inv;cases rs1.inv0;unfold Cc at e;split at e
  .cases e;let(p,ys,rfl,rfl,n1,k1):=Ds r1;have hq :=zf1 fh n1;exact zcz pq s O H _ us Q I r {p,ys,rfl,hq,λl hl=>q.list fh k1 hl}
  .cases e
 .cases e
def zgh:Bp X (.builtin "abs")<|DM X.K<|g1 JB:=by
 intro pq s O H xs us Q I r h;let(F,ts,v,fh,rs,e,q):=h;unfold g1 at e;split at e
 .let(x1,xs1,rfl,r1,rs1):=rs.inv;cases rs1.inv0;unfold JB at e;split at e
  .cases e;rw[r1.int_inv]at r;exact ziu pq s O H _ us Q I r {_,rfl,q.int fh}
  .cases e
 .cases e
def zge:Bp X (.type "int")<|DM X.K<|g1 KO:=by
 intro pq s O H xs us Q I r h;let(F,ts,v,fh,rs,e,q):=h;unfold g1 at e;split at e
 .let(x1,xs1,rfl,r1,rs1):=rs.inv;cases rs1.inv0;unfold KO at e;split at e
  .cases e;rw[r1.int_inv]at r;exact eB pq s O H _ us Q I r<|.inl {_,rfl,q.int fh}
  .cases e;rw[r1.bl_inv]at r;exact eB pq s O H _ us Q I r<|.inr {_,rfl,q.int fh}
  .split at e
   .let(n,hn,rfl):=Ö.mp e;rw[r1.str_inv]at r;let(u,rfl,ru):=r.one;let(t,rfl):=ru;exact PySem.W.KIN.call_text hn ‹_› {.int n,H,I.tok _,{_,rfl},q.int fh}
   .cases e
  .cases e
 .cases e
def eC{gi:Int->Int->Int}(hc:Bp X (.builtin f) (λxs H Q=>∃i j,xs=[.int i,.int j]/\Q (.int<|gi i j) H))(hg:∀t u v,g t u=↑v->∃i j,t=.int i/\u=.int j/\v=.int (gi i j)):Bp X (.builtin f)<|DM X.K<|g2 g:=by
 intro pq s O H xs us Q I r h;let(F,ts,v,fh,rs,e,q):=h;unfold g2 at e;split at e
 .let(x1,xs1,rfl,r1,rs1):=rs.inv;let(x2,xs2,rfl,r2,rs2):=rs1.inv;cases rs2.inv0;let(i,j,rfl,rfl,rfl):=hg _ _ _ e;rw[r1.int_inv,r2.int_inv]at r;exact hc pq s O H _ us Q I r {_,_,rfl,q.int fh}
 .cases e
theorem zga(hc:X.calm=true):Bp X (.builtin "min")<|DM X.K<|g2 Jq:=eC (zg7 hc) λt u v h=>by
 unfold Jq at h;split at h
 .cases h;exact{_,_,rfl,rfl,rfl}
 .cases h
theorem zgb(hc:X.calm=true):Bp X (.builtin "max")<|DM X.K<|g2 MH:=eC (zg8 hc) λt u v h=>by
 unfold MH at h;split at h
 .cases h;exact{_,_,rfl,rfl,rfl}
 .cases h
def Zr:∀{l} {ns} {ys} {its},Hf l=↑ns->Ah X.K F l ys->Ac ys its->∃xs:List (Int×Tok),its=xs.map (λp=>.int p.1 p.2)/\xs.map (·.1)=ns
 |[],ns,ys,its,h,r,rv=>by
  cases h;cases r.inv0;cases rv;simp
 |t::l,ns,ys,its,h,r,rv=>by
  cases t with
  |int i=>
   let(ms,hm,rfl):=Ö.mp h;let(x,ys',rfl,r1,r2):=r.inv;rw[r1.int_inv]at rv;cases rv with
   |cons ru rv=>let(tk,rfl):=ru;let(xs,rfl,rfl):=Zr hm r2 rv;exact{(i,tk)::xs,rfl,rfl}
  |_=>cases h
def ziv(hc:X.calm=true):Bp X (.builtin "max")<|DM X.K Hi:=by
 intro pq s O H xs us Q I r h;let(F,ts,v,fh,rs,e,q):=h;unfold Hi at e;split at e
 .split at e
  .rename_i l i m hi;cases e;let(x1,xs1,rfl,r1,rs1):=rs.inv;cases rs1.inv0;let(p,ys,rfl,_,n1,k1):=Ds r1;let(u,rfl,ru):=Ei r;cases ru;let(its,rv,pl,hz):=I.list (AZ.of (fh _ _ n1):AZ X.K H p ys);let(zs,rfl,en):=Zr hi k1 rv;have ez:(zs.map λp=>Value.int p.1 p.2).toArray=intItems zs.toArray:=by simp[intItems]
   have ln:zs.length=(i::m).length:=by rw[<- en,Á]
   have na:numAt zs.toArray=λk=>(i::m).getD k 0:=funext λk=>by
    rw[<- en];simp[numAt]
   refine max_intList (I.ok.hd hc) (ez▸pl.isList) (by rw[ø,ln];simp) λv h' tk hv hk=>?_
   let(t,rfl):=intItems_at hv;rw[ø,ln,na];exact{.int _,H,I.kept hk,{_,rfl},q.int fh}
  .cases e
 .exact zgb hc pq s O H xs us Q I r {F,_,v,fh,rs,e,q}
 .cases e
def eK:∀{l} {bs},GX l=↑bs->l.length=bs.length/\∀(i:Nat) (t),l[i]?=↑t->∃b,bs[i]?=↑b/\t=.bl b
 |[],bs,h=>by cases h;exact{rfl,λi t e=>by simp at e}|t::r,bs,h=>by
  unfold GX at h;cases t with
  |bl b=>
   simp only at h;cases hr:GX r with
   |none=>erw[hr]at h;cases h|some l=>
    erw[hr]at h;cases h;let(h1,h2):=eK hr;refine{by simp[h1],λi t e=>?_}
    cases i with
    |zero=>simp at e;exact{(b),rfl,e.symm}|succ i=>exact h2 i t<|by simpa using e
  |_=>cases h
def W7{bs:List Bool}(h:∀(i:Nat) (b:Bool),bs[i]?=↑b->tr i=b):(List.range bs.length).all tr=bs.all id/\(List.range bs.length).any tr=bs.any id:=by
 have e:(List.range bs.length).map tr=bs:=by
  apply List.ext_getElem?;intro i;rw[Ë]
  by_cases hi:i<bs.length
  .rw[ų hi,Â hi];erw[ċ];rw[h i _<|Â hi]
  .rw[ÿ (by simp;lia),ÿ<|by lia]
   rfl
 constructor
 .have:(List.range bs.length).all tr=((List.range bs.length).map tr).all id:=by rw[List.all_map];rfl
  rw[this,e]
 .have:(List.range bs.length).any tr=((List.range bs.length).map tr).any id:=by rw[List.any_map];rfl
  rw[this,e]
def Uo(hc:X.calm=true)   {O:L2.St}{H:Hp}{F:Hp}       (I:Inv X pq O H s)(fh:A4 F H)(r1:Rp X.K F F (.nd o .lst l) (.ref p) R0)(hb:GX l=↑bs)
  (hP : ∀ (I0 : Addr) (wr fp ) (St ) (PP ) (tr ) (s2 : Shared), Walks X.prog X.w X.A.in1 I0 fp wr bs.length PP St -> St 0 s2.heap -> TruthOf X.prog X.w X.A.in1 PP tr -> (∀ (i : Nat) (b : Bool), bs[i]? = ↑b -> tr i = b) ->
   (∀h' tk,(∀b o,b∉wr->s2.heap.get? b=↑o->h'.get? b=↑o)->Inv X pq O H { s2 with heap:=h',toks:=tk })->P (.ref I0) s2):wpAny (model X.prog X.w) X.A.in1 (pyIter<|.ref p) P E' s:=by
 let(p',ys,e',rfl,n1,k1):=Ds r1;cases e';let(hlen,hget):=eK hb;let(its,rv,pl,hz):=I.list<|AZ.of<|fh _ _ n1;have hl:=rv.length
 have hne :=Õ (by
  let(o,n,e,_):=pl;exact Ä e)
 have hh:X.A.in1.handled=none:=I.ok.hd hc
 have val:∀(i:Nat) (v ),its[i]?=↑v->∃b,bs[i]?=↑b/\v=.bool b:=λi v hv=>by
  have hi:i<ys.length:=by
   have:=(Ñ.mp hv).1
   lia
  have hi2:i<l.length:=by rw[k1.1];exact hi
  let(b,h1,h2):=hget i _<|Â hi2;have rr:=k1.2 i _ _ (Â hi2)<|Â hi;rw[h2]at rr;let(u,e1,ru):=rv.get<|Â hi;rw[hv]at e1;cases e1;rw[rr.bl_inv]at ru;exact{(b),h1,ru}
 have hbl:its.toArray.size=bs.length:=by rw[ø,<- hl,<- k1.1,hlen]
 refine ħ pl.isList ?_;have W:=Walks.list (prog:=X.prog) (w:=X.w) hh s.heap.objs.size p hne its.toArray;rw[hbl]at W;refine hP s.heap.objs.size _ _ _ _ (λi=>bs.getD i false) _ W {{_,â _ rfl,rfl,rfl},?_} ?_ ?_ ?_
 .let(o,ho,hr):=pl.isList;exact{o,Ð _ ho,hr}
 .intro i v s' Q' E'' hv hq';let(b,h1,h2):=val i v<|by simpa using hv
  subst h2;refine Ą ?_;have e:bs.getD i false=b:=by rw[Ú,h1];rfl
  rw[<- e];exact hq'
 .intro i b hb';show bs.getD i false=b;rw[Ú,hb']
  rfl
 .intro h' tk k
  exact I.kept λb o e=>k b o (λz=>by
   rw[Ô]at z;exact absurd (Ä e) (by rw[z];exact Þ _))<|Ð _ e
def zgg(hc:X.calm=true):Bp X (.builtin "all")<|DM X.K<|g1 Fu:=by
 intro pq s O H xs us Q I r h;let(F,ts,v,fh,rs,e,q):=h;unfold g1 at e;split at e
 .let(x1,xs1,rfl,r1,rs1):=rs.inv;cases rs1.inv0;unfold Fu at e;split at e
  .split at e
   .cases e;rename_i bs hbs;let(p,rfl):=r1.ref_inv;let(u,rfl,ru):=Ei r;cases ru;refine call_all_walk<|Uo hc I fh r1 hbs λI0 wr fp St PP tr s2 W st0 tro htr Aw=>{I0,fp,wr,bs.length,PP,St,tr,rfl,W,st0,tro,λh' tk k=>?_}
    rw[(W7 htr).1];exact{.bl _,H,Aw h' tk k,rfl,q.bl fh}
   .cases e
  .cases e
 .cases e
def zgf(hc:X.calm=true):Bp X (.builtin "any")<|DM X.K<|g1 Kg:=by
 intro pq s O H xs us Q I r h;let(F,ts,v,fh,rs,e,q):=h;unfold g1 at e;split at e
 .let(x1,xs1,rfl,r1,rs1):=rs.inv;cases rs1.inv0;unfold Kg at e;split at e
  .split at e
   .cases e;rename_i bs hbs;let(p,rfl):=r1.ref_inv;let(u,rfl,ru):=Ei r;cases ru;refine call_any_walk<|Uo hc I fh r1 hbs λI0 wr fp St PP tr s2 W st0 tro htr Aw=>{I0,fp,wr,bs.length,PP,St,tr,rfl,W,st0,tro,λh' tk k=>?_}
    rw[(W7 htr).2];exact{.bl _,H,Aw h' tk k,rfl,q.bl fh}
   .cases e
  .cases e
 .cases e
def UI(K:k6)(H:Hp)(x:V)(a:String):Prop:=(a="dict"/\∃p ob kvs,x=.ref p/\H p=↑(.frz ob<|.dK kvs))\/(a="list"/\∃p xs,x=.ref p/\AZ K H p xs)
def Zj{O:L2.St}(I:Inv X pq O H s)(rx:A7 x u)(ty:UI X.K H x a)(e:W.kitOne X.K (.type a) c=↑b)(h:∀tk,Q (.bool b) { s with toks:=tk }) :
  wpAny (model X.prog X.w) A (call (.builtin "isinstance") [u,c]) Q E s:=by
 rcases ty with ⟨rfl,p,ob,kvs,rfl,ea⟩|⟨rfl,p,xs,rfl,hq⟩
 .cases rx;let(_,_,_,vs,_,q):=(I.hok p _ ea);let(o,es,ep,h1,h2,_):=q;exact ó ſ I.kIn {(o),h1,h2.1} e (λz=>nomatch z) h
 .cases rx;let(its,r,(o,n,e1,e2,e3,e4),_):=I.list hq;exact ó ž I.kIn {(o),e1,e2} e (λz=>nomatch z) h
def Ux(fh:A4 F H)(r:Rp X.K F F t x R0)(h:LX t=↑a):(TyOf X.K H x (.type a)\/UI X.K H x a)/\a∈["NoneType","bool","int","str","list","tuple","dict"]:=by
 cases t with
 |non=>cases h;rw[r.non_inv];exact{.inl .non,by simp}|bl b=>cases h;rw[r.bl_inv];exact{.inl<|.bl b,by simp}|int i=>cases h;rw[r.int_inv];exact{.inl<|.int i,by simp}|str y=>cases h;rw[r.str_inv];exact{.inl<|.str y,by simp}|nd o k l=>
  let(p,xs,rfl,_,n,_):=Ds r;cases k with
  |lst=>cases h;exact{.inl<|.lst<|fh _ _ n,by simp}|tup=>cases h;exact{.inl<|.tup<|fh _ _ n,by simp}|rl=>cases h;exact{.inr<|.inr {rfl,p,xs,rfl,fh.seq<|G0.l n},by simp}|rt=>cases h|pin _=>cases h
 |dic ks l=>
  cases h;cases r with
  |dic h e ek c=>exact{.inr<|.inl {rfl,_,_,_,rfl,fh _ _ h},by simp}
 |pdc ks l=>
  cases h;cases r with
  |pdc h e ek c=>exact{.inl<|.dK<|fh _ _ h,by simp}
 |odc ks l=>cases h|obj k l=>cases h|oob p C fs l=>cases h|osd ks l=>cases h
def zgd:Bp X (.builtin "isinstance") (λxs H Q=>∃x,xs=[x,.ty c]/\DM X.K (g1<|CH c) [x] H Q):=by
 intro pq s O H xs us Q I r h;let(x,rfl,F,ts,v,fh,rs,e,q):=h;unfold g1 at e;split at e
 .let(x1,xs1,e1,r1,rs1):=rs.inv;cases e1;unfold CH at e;split at e
  .rename_i a ha;split at e
   .cases e;rename_i hc;let(ty,hm):=Ux fh r1 ha
    rcases ty with ty|hp
    .exact zir pq s O H _ us Q I r {x,_,_,rfl,ty,Z8 X.K hm hc,q.bl fh}
    .let(u,w',rfl,rx,ry):=G6 r;cases ry;exact Zj I rx hp (Z8 X.K hm hc) λtk=>{.bl _,H,I.tok _,rfl,q.bl fh}
   .cases e
  .cases e
 .cases e
def T.isN:T->Bool
 |.non=>true|_=>false
def T.isB(b:Bool):T->Bool
 |.bl c=>c == b|_=>false
def Cg(neg:Bool)(t u:T):kH:=match u with
 |.non=>↑(.bl<|neg ^^ t.isN)|.bl b=>↑(.bl<|neg ^^ t.isB b)|_=>none
def dJ{K}(r:Rp K F H t x A):decide (x=V.non)=t.isN:=by
 cases r<;>simp[T.isN]
def dM{K}(r:Rp K F H t x A):decide (x=V.bl b)=t.isB b:=by
 cases r<;>simp[T.isB]
 rfl
def zok:Ae X (compareOp .Is)<|Be X.K<|Cg false:=by
 intro pq s O H x y v u Q I rx ry h;let(F,t1,t2,r,fh,r1,r2,e,q):=h;unfold Cg at e;split at e
 .cases e;rw[r2.non_inv]at ry;refine zoe pq s O H _ _ v u Q I rx ry {rfl,?_};rw[dJ r1];have:=q.bl fh
  simp_all
 .cases e;rw[r2.bl_inv]at ry;refine zof pq s O H _ _ v u Q I rx ry {_,rfl,?_};rw[dM r1];have:=q.bl fh
  simp_all
 .cases e
def zf0:Ae X (compareOp .IsNot)<|Be X.K<|Cg true:=by
 intro pq s O H x y v u Q I rx ry h;let(F,t1,t2,r,fh,r1,r2,e,q):=h;unfold Cg at e;split at e
 .cases e;rw[r2.non_inv]at ry;refine zkj pq s O H _ _ v u Q I rx ry {rfl,?_};rw[dJ r1];have:=q.bl fh
  simp_all
 .cases e;rw[r2.bl_inv]at ry;refine zkk pq s O H _ _ v u Q I rx ry {_,rfl,?_};rw[dM r1];have:=q.bl fh
  simp_all
 .cases e
end
section
variable {X:Cx}{E:L2.St->XK}{ca:Str->Value}{O:L2.St}{H:Hp}{m ma mb mc:AH}{ms:As}{K:k6}{a b c e:Expr}{es:kC}{pos p p2:Pos}
def r_isT{c}(hv:bootBuiltins cn=↑(.type c))(hg:Gl X "isinstance")(hm:X.mg "isinstance"=none)(hgc:Gl X cn)(hmc:X.mg cn=none)(hn:cn≠"__name__")(hd:(cn == "__debug__")=false)(ha:PE X e<|tM X.K E ca m)(he:starEach [e,.Name cn p2] X.env=(false,eval e X.env)::starEach [.Name cn p2] X.env) :
  PE X (.Call (.Name "isinstance" p) [e,.Name cn p2] [] pos) (tM X.K E ca<|BQ (g1<|CH c)<|AB m AE):=by
 refine PE.weak (Ly (zgd (c:=c)) hg hm PyProof.Rows.boot_isinstance (EB ha (EB (zkh (v:=.ty c) hgc hmc hv rfl hn hd) FQ) he) (by decide) (by decide) he rfl) λO H Q h=>?_
 exact(HP<|HQ h).mono λx H1 h1=>{x,rfl,HN h1}
set_option genInjectivity true in
inductive Ru where
 |ok (t:T)|exc (c:Str)
def Bb(K:k6)(ca:Str->Value)(g:kL->Option Ru):Sp:=λvs H Q E=>∃F ts,A4 F H/\Ah K F ts vs/\match g ts with
 |some (.ok v)=>Di K F H v Q|some (.exc c)=>∀F' H',Ext F H F' H' R0->XE E ca c F' H'|none=>False
def K2:Bool->Str->Option Rs
 |false,c=>↑(.x c)|true,c=>(match GF c with
  |none=>↑(.x c)|some _=>none)
def AN(g:kL->Option Ru)(ms:As):AH:=λY=>match ms Y with
 |some (.v ts b)=>(match g ts with
  |some (.ok v)=>Aw b v|some (.exc c)=>K2 b c|none=>none)
 |some (.x c)=>↑(.x c)|none=>none
def zm1(h:tM K E ca (AN g ms) O H Q):V6 (Bb K ca g) [] E (CK K E ca ms) O H Q:=by
 let(F,Y,R,S,q):=h;refine{F,Y,R,S,?_};unfold AN at q;cases hs:ms Y with
 |none=>erw[hs]at q<;>symm|some r=>
  erw[hs]at q;cases r with
  |x c=>exact q|v ts b=>
   intro F1 H1 xs e1 rs;have S1:=S.ext e1;rw[ā];refine{Gz b F1 H1 R,ts,Sa S1,rs,?_};cases hg:g ts with
   |none=>erw[hg]at q<;>symm|some r=>
    erw[hg]at q;cases r with
    |exc c=>
     cases b with
     |false=>exact λF' H' e2=>q F' H' (e1.trans0 e2)|true=>
      erw[K2]at q;cases hp:GF c with
      |none=>rw[hp]at q;exact λF' H' e2=>(q F1 H'<|e1.grow e2.hh).any hp|some n=>rw[hp]at q;symm
    |ok v=>
     intro F2 H2 z C e2 r2;simp only at q;unfold Aw at q;cases b with
     |false=>exact q F2 H2 z C (e1.trans0 e2) r2|true=>
      cases hf:v.flat with
      |false=>rw[hf]at q;cases q|true=>rw[hf]at q;exact q F1 H2 z R0 (e1.grow e2.hh)<|r2.flat_any hf
theorem znn(D:DefX X.prog X.w X.K X.mg X.base k x ps<|Bb X.K ca g)(hr:Room j X.A)(hx:Cy X E)(ha:PA X (e::es)<|CK X.K E ca ms)(hk:k<=j)(hg:Gl X x)(hdb:(x == "__debug__")=false)
  (he:starEach (e::es) X.env=(false,eval e X.env)::starEach es X.env) (hpl:(backTo pos<|starEach es X.env).any (·.1)=false):PE X (.Call (.Name x p) (e::es) [] pos)<|tM X.K E ca<|AN g ms:=PE.weak (px D hr hx ha hk hg hdb he hpl) λ_ _ _ h=>zm1 h
end
section
variable {X:Cx}{E:L2.St->XK}{ca:Str->Value}{ms:As}{e:Expr}{es:kC}{p pos:Pos}
end
def G5(K:k6)(Γ:It)(F:Hp)(ts:kL):Prop:=∀(i:Nat) (F' H':Hp),A4 F F'->A4 F' H' ->
 (∀t,ts[i]?=↑t->Γ.go i H'/\∀x H'',Γ.yld i H' x H''->∃F'',Ext F' H' F'' H'' R0/\Rp K F'' H'' t x R0)/\(i=ts.length->Γ.stop i H')
def pI(K:k6)(E:L2.St->XK)(ca:Str->Value)(O:L2.St)(P:It->Hp->Prop)(F H:Hp):Option RsL->Prop
 |some (.v ts _)=>∀F' H' Γ,Ext F H F' H' R0->G5 K Γ F' ts->P Γ H'|some (.x c)=>∀F' H',Ext F H F' H' R0->XE (E O) ca c F' H'|none=>False
def tI(K:k6)(E:L2.St->XK)(ca:Str->Value)(m:As):TI:=λO H P=>∃F Y R,StR K F H O Y R/\pI K E ca O P F H (m Y)
def GS:T->Bool
 |.nd _ .lst _=>true|.nd _ .rl _=>true|.nd _ (.pin _) _=>true|_=>false
def Ip(m:AH):As:=λY=>match m Y with
 |some (.v (.nd _ k l) false)=>↑(.v (BN l) false)|some (.x c)=>↑(.x c)|_=>none
def Bl(lo:Int)(n:Nat):kL:=(List.range n).map λ(i:Nat)=>.int<|lo+(i:Int)
def CB(j:Int):Bool:=@decide (-(2 ^ 62)<=j/\j<2 ^ 62) (Classical.propDecidable _)
def NC:kL->kA
 |[.int j]=>↑j|_=>none
def CI(ms:As):As:=λY=>match ms Y with
 |some (.v ts _)=>(match NC ts with
  |some j=>if CB j then ↑(.v (Bl 0 j.toNat) false) else none
  |none=>none)
 |r=>r
def E3:Nat->kL->kL
 |_,[]=>[]|i,t::r=>.tup [.int (i:Int),t]::E3 (i+1) r
def Hq:kL->Option (kL)
 |[.nd o k l]=>if GS (.nd o k l) then ↑l else none
 |_=>none
def NB:kL->Option (kL×kL)
 |[.nd o k l,.nd o' k' m]=>if GS (.nd o k l) && GS (.nd o' k' m) then ↑(l,m) else none
 |_=>none
def E1(ms:As):As:=λY=>match ms Y with
 |some (.v ts false)=>(match Hq ts with
  |some l=>↑(.v (E3 0 l) false)|none=>none)
 |some (.v _ true)=>none|r=>r
def DI(l m:kL):kL:=List.zipWith (λa b=>T.tup [a,b]) l m
def Gw(ms:As):As:=λY=>match ms Y with
 |some (.v ts false)=>(match NB ts with
  |some (l,m)=>↑(.v (DI l m) false)|none=>none)
 |some (.v _ true)=>none|r=>r
def cY:∀(l) (n i),(E3 n l)[i]?=(l[i]?).map λt=>T.tup [.int (n+i:Nat),t]
 |[],n,i=>by rfl|t::r,n,i=>by
  cases i with
  |zero=>rfl|succ i=>
   erw[E3,ł];rw[cY r (n+1) i]
   grind
def zcl(l):∀n,(E3 n l).length=l.length:=by
 induction l with
 |nil=>intro n;rfl|cons t r ih=>simp[E3,ih]
section
variable {X:Cx}{E:L2.St->XK}{ca:Str->Value}{O:L2.St}{H:Hp}{m ma mb mc:AH}{ms:As}{K:k6}{a b c e tg:Expr}{es elts:kC}{pos p tpos:Pos}{kk:Nat}
def SV{p}(n:∀F' H' ,A4 F F'->A4 F' H'->AZ K H' p xs)(r:Ah K F l xs):G5 K (UZ K p) F l:=by
 intro i F' H' s1 s2;have sq:=n F' H' s1 s2;refine{λt ht=>?_,λe=>{xs,sq,by rw[e,r.1];simp}}
 have hi:i<xs.length:=by
  have:=(Ñ.mp ht).1;have:=r.1
  lia
 refine{{xs,xs[i],sq,Â hi},λx H'' y=>?_}
 let(rfl,y):=y;have hx:=y xs sq;exact{F',Ext.refl s2,((r.same s1).2 i t x ht hx).any}
def Zf{p}(n:∀F' H' ,A4 F F'->A4 F' H'->Bt K H' p xs)(r:Ah K F l xs):G5 K (UY K p) F l:=by
 intro i F' H' s1 s2;have sq:=n F' H' s1 s2;refine{λt ht=>?_,λe=>{xs,sq,by rw[e,r.1];simp}}
 have hi:i<xs.length:=by
  have:=(Ñ.mp ht).1;have:=r.1
  lia
 refine{{xs,xs[i],sq,Â hi},λx H'' y=>?_}
 let(rfl,y):=y;have hx:=y xs sq;exact{F',Ext.refl s2,((r.same s1).2 i t x ht hx).any}
def zfc{lo}:G5 K (Ng lo n) F<|Bl lo n:=by
 intro i F' H' s1 s2;refine{λt ht=>?_,λe=>?_}
 .unfold Bl at ht;rw[Ë]at ht;let(j,e1,e2):=Ö.mp ht
  have hi:i<n:=by
   have:=(Ñ.mp e1).1
   simpa using this
  have hj:i=j:=by rw[ų hi]at e1;exact Ý e1
  subst hj;subst e2;refine{hi,λx H'' y=>?_}
  let(rfl,rfl):=y;exact{F',Ext.refl s2,.int _}
 .have:n<=i:=by rw[e];simp[Bl]
  exact this
def Zh{p}(n:∀F' H' ,A4 F F'->A4 F' H'->AZ K H' p xs)(r:Ah K F l xs):G5 K (Nh K k p) F<|E3 k l:=by
 intro i F' H' s1 s2;have sq:=n F' H' s1 s2;refine{λt ht=>?_,λe=>{xs,sq,by rw[e,zcl,r.1];simp}}
 rw[cY]at ht;let(t0,h0,rfl):=Ö.mp ht
 have hi:i<xs.length:=by
  have:=(Ñ.mp h0).1;have:=r.1
  lia
 refine{{xs,xs[i],sq,Â hi},λx H'' y=>?_}
 let(q,y0,rfl,hq,rfl,y):=y;have hx:=y xs sq;have e:=Ext.new (o:=.tup [.int<|k+i,y0]) s2 hq;refine{_,e,Ah.of_node CJ ?_};exact .cons (H:=H') (.int _)<|.cons (H:=H') (((r.same<|s1.trans e.ff).2 i t0 y0 h0 hx).any) .nil
def zlh{p p2}(n:∀F' H' ,A4 F F'->A4 F' H'->AZ K H' p xs)(n2:∀F' H' ,A4 F F'->A4 F' H'->AZ K H' p2 ys)(r:Ah K F l xs)(r2:Ah K F l2 ys):G5 K (UX K p p2) F<|DI l l2:=by
 intro i F' H' s1 s2;have sq:=n F' H' s1 s2;have sq2:=n2 F' H' s1 s2;have l1:=r.1;have l2':=r2.1;refine{λt ht=>?_,λe=>{xs,ys,sq,sq2,?_}}
 .unfold DI at ht;rw[ň]at ht;cases h1:l[i]? with
  |none=>rw[h1]at ht;cases ht|some t1=>
   cases h2:l2[i]? with
   |none=>rw[h1,h2]at ht;cases ht|some t2=>
    rw[h1,h2]at ht;cases ht;have hi:i<xs.length:=by have:=(Ñ.mp h1).1;lia
    have hi2:i<ys.length:=by grind
    refine{{xs,xs[i],ys,ys[i],sq,Â hi,sq2,Â hi2},λx H'' y=>?_}
    let(q,y0,z0,rfl,hq,rfl,y,z):=y;have hx:=y xs sq;have hy:=z ys sq2;have e:=Ext.new (o:=.tup [y0,z0]) s2 hq;refine{_,e,Ah.of_node CJ ?_};exact .cons (H:=H') (((r.same<|s1.trans e.ff).2 i t1 y0 h1 hx).any)<|.cons (H:=H') (((r2.same<|s1.trans e.ff).2 i t2 z0 h2 hy).any) .nil
 .have:i=min l.length l2.length:=by rw[e];simp[DI]
  lia
theorem PI.weak(h:PI X tg e t)(w:∀O H P,t' O H P->t O H P):PI X tg e t':=λpq s O H P I q=>h pq s O H P I<|w O H P q
theorem PI.or(h:PI X tg e t)(h':PI X tg e t'):PI X tg e<|λO H P=>t O H P\/t' O H P:=λpq s O H P I q=>q.elim (h pq s O H P I)<|h' pq s O H P I
def Wc(ha:PE X e<|tM X.K E ca m):PI X tg e<|tI X.K E ca<|Ip m:=by
 refine PI.weak (PI.or (zkb ha)<|znx ha) λO H P h=>?_
 let(F,Y,R,S,q):=h;unfold Ip at q
 have key:∀{o } {k } {l },m Y=↑(.v (.nd o k l) false)->(∀F' H' Γ,Ext F H F' H' R0->G5 X.K Γ F' (BN l)->P Γ H')->∀F1 H1 x B,Ext F H F1 H1 B->Dh X.K F1 H1 R (.nd o k l) false x B->∃(F2:Hp) (p:Addr) (xs:kK),x=.ref p/\Ext F H F2 H1 R0/\Fv X.K F2 k p xs/\Ah X.K F2 (BN l) xs:=by
  intro o k l hm q F1 H1 x B e1 g1;let(F2,e2,_,r2):=Dh.frz S e1 g1;have r2' :=r2;rw[T.share]at r2';let(p,xs,rfl,_,n,kd):=Ds r2';exact{(F2),p,xs,rfl,e2,n,kd}
 cases hm:m Y with
 |none=>erw[hm]at q<;>symm|some r=>
  erw[hm]at q;cases r with
  |x c=>exact .inl {F,Y,R,S,by rw[hm];exact q}|v t bb=>
   cases t with
   |nd o k l=>
    cases bb with
    |true=>symm|false=>
     simp only at q;cases k with
     |lst=>refine .inl {F,Y,R,S,?_};rw[hm];intro F1 H1 x B e1 g1;let(F2,p,xs,rfl,e2,n,kd):=key hm q F1 H1 x B e1 g1;exact{p,rfl,{xs,AZ.of<|e2.fh _ _ n},q F2 H1 _ e2<|SV (λF' H' s1 s2=>AZ.of<|s2 _ _<|s1 _ _ n) kd}
     |pin _=>refine .inl {F,Y,R,S,?_};rw[hm];intro F1 H1 x B e1 g1;let(F2,p,xs,rfl,e2,n,kd):=key hm q F1 H1 x B e1 g1;exact{p,rfl,{xs,AZ.of<|e2.fh _ _ n},q F2 H1 _ e2<|SV (λF' H' s1 s2=>AZ.of<|s2 _ _<|s1 _ _ n) kd}
     |rl=>refine .inl {F,Y,R,S,?_};rw[hm];intro F1 H1 x B e1 g1;let(F2,p,xs,rfl,e2,n,kd):=key hm q F1 H1 x B e1 g1;exact{p,rfl,{xs,e2.fh.seq n.l},q F2 H1 _ e2<|SV (λF' H' s1 s2=>s2.seq<|s1.seq n.l) kd}
     |tup=>refine .inr {F,Y,R,S,?_};rw[hm];intro F1 H1 x B e1 g1;let(F2,p,xs,rfl,e2,n,kd):=key hm q F1 H1 x B e1 g1;exact{p,rfl,{xs,Bt.of<|e2.fh _ _ n},q F2 H1 _ e2<|Zf (λF' H' s1 s2=>Bt.of<|s2 _ _<|s1 _ _ n) kd}
     |rt=>refine .inr {F,Y,R,S,?_};rw[hm];intro F1 H1 x B e1 g1;let(F2,p,xs,rfl,e2,n,kd):=key hm q F1 H1 x B e1 g1;exact{p,rfl,{xs,Gc e2.fh n},q F2 H1 _ e2<|Zf (λF' H' s1 s2=>Gc s2<|Gc s1 n) kd}
   |_=>symm
def L3{f:(As)->As}   (hx:∀Y c,ms Y=↑(.x c)->f ms Y=↑(.x c))(hn:∀Y,ms Y=none->f ms Y=none)
  (hv : ∀ F Y R ts b, StR K F H O Y R -> ms Y = ↑(.v ts b) -> (match f ms Y with
   |some (.v us _)=>∀F' H' Γ,Ext F H F' H' R0->G5 K Γ F' us->P Γ H'|some (.x c)=>∀F' H',Ext F H F' H' R0->XE (E O) ca c F' H'|none=>False)->∀F' H' xs,Ext F H F' H' R0->Ah K (Gz b F' H' R) ts xs->W xs H') (h:tI K E ca (f ms) O H P):CK K E ca ms O H W:=by
 let(F,Y,R,S,q):=h;refine{F,Y,R,S,?_};cases hm:ms Y with
 |none=>rw[hn Y hm]at q;symm|some r=>
  cases r with
  |x c=>rw[hx Y c hm]at q;exact q|v ts b=>exact λF' H' xs e rs=>hv F Y R ts b S hm q F' H' xs e rs
def zhk(h:CB j=true):-(2 ^ 62)<=j/\j<2 ^ 62:=@of_decide_eq_true _ (Classical.propDecidable _) h
def zh4(hg:Gl X "range")(hm:X.mg "range"=none)(ha:PA X [a]<|CK X.K E ca ms)(hs:starEach [a] X.env=[(false,eval a X.env)]):PI X tg (.Call (.Name "range" p) [a] [] pos)<|tI X.K E ca<|CI ms:=by
 refine PI.weak (zex hg hm ha hs) λO H P h=>?_
 refine L3 (f:=CI) (λY c e=>by unfold CI;rw[e]) (λY e=>by unfold CI;rw[e]) (λF Y R ts b S e q F' H' xs e1 rs=>?_) h
 unfold CI at q;rw[e]at q;simp only at q;cases h1:NC ts with
 |none=>erw[h1]at q<;>symm|some j=>
  erw[h1]at q
  by_cases hj:CB j=true
  .erw[hj,Æ]at q;let(g1,g2):=zhk hj;unfold NC at h1;split at h1
   .cases h1;let(x1,xs1,rfl,r1,rs1):=rs.inv;cases rs1.inv0;rw[r1.int_inv];exact{j,rfl,g1,g2,q F' H' _ e1 zfc}
   .cases h1
  .erw[hj]at q;symm
def KJ(h:GS (.nd o k l)=true)(r:Rp K F F (.nd o k l) x R0):∃p xs,x=.ref p/\(∀F' H' ,A4 F F'->A4 F' H'->AZ K H' p xs)/\Ah K F l xs:=by
 let(p,xs,rfl,_,n,kd):=Ds r;refine{p,xs,rfl,λF' H' s1 s2=>?_,kd}
 cases k with
 |lst=>exact AZ.of (s2 _ _<|s1 _ _ n)|rl=>exact s2.seq (s1.seq n.l)|tup=>cases h|rt=>cases h|pin q=>exact AZ.of<|s2 _ _<|s1 _ _ n
def Wd(hg:Gl X "enumerate")(hm:X.mg "enumerate"=none)(ha:PA X [a]<|CK X.K E ca ms)(hs:starEach [a] X.env=[(false,eval a X.env)]):PI X (.Tuple elts kk tpos) (.Call (.Name "enumerate" p) [a] [] pos)<|tI X.K E ca<|E1 ms:=by
 refine PI.weak (zkc hg hm ha hs) λO H P h=>?_
 refine L3 (f:=E1) (λY c e=>by unfold E1;rw[e]) (λY e=>by unfold E1;rw[e]) (λF Y R ts b S e q F' H' xs e1 rs=>?_) h
 unfold E1 at q;rw[e]at q;cases b with
 |true=>symm|false=>
  simp only at q;cases h1:Hq ts with
  |none=>erw[h1]at q<;>symm|some l=>
   erw[h1]at q;unfold Hq at h1;split at h1
   .split at h1
    .cases h1;rename_i hL;let(x1,xs1,rfl,r1,rs1):=rs.inv;cases rs1.inv0;let(p',ys,rfl,sq,kd):=KJ hL r1;exact{p',rfl,{ys,sq F' H' (.refl _) e1.fh},q F' H' _ e1<|Zh sq kd}
    .cases h1
   .cases h1
def r_zip(hg:Gl X "zip")(hm:X.mg "zip"=none)(ha:PA X [a,b]<|CK X.K E ca ms)(hs:starEach [a,b] X.env=[(false,eval a X.env),(false,eval b X.env)])(hs2:starEach [b] X.env=[(false,eval b X.env)]):PI X (.Tuple elts kk tpos) (.Call (.Name "zip" p) [a,b] [] pos)<|tI X.K E ca<|Gw ms:=by
 refine PI.weak (znw hg hm ha hs hs2) λO H P h=>?_
 refine L3 (λY c e=>by unfold Gw;rw[e]) (λY e=>by unfold Gw;rw[e]) (λF Y R ts b S e q F' H' xs e1 rs=>?_) h
 unfold Gw at q;rw[e]at q;cases b with
 |true=>symm|false=>
  simp only at q;cases h1:NB ts with
  |none=>erw[h1]at q<;>symm|some lm=>
   let(l,m'):=lm;erw[h1]at q;unfold NB at h1;split at h1
   .split at h1
    .cases h1;rename_i hL;rw[È]at hL;let(x1,xs1,rfl,r1,rs1):=rs.inv;let(x2,xs2,rfl,r2,rs2):=rs1.inv;cases rs2.inv0;let(p',ys,rfl,sq,kd):=KJ hL.1 r1;let(p2,zs,rfl,sq2,kd2):=KJ hL.2 r2;exact{p',p2,rfl,{ys,sq F' H' (.refl _) e1.fh},{zs,sq2 F' H' (.refl _) e1.fh},q F' H' _ e1<|zlh sq sq2 kd kd2}
    .cases h1
   .cases h1
end
def StR.set{K}(S:StR K F H O Y R)(r:Rp K F H t x A)(d:∀j a,j≠i->R j a->¬ A a)(hi:i<Y.length) :
  StR K F H (O.set i ↑x) (Y.set i ↑t) (λj=>if j=i then A else R j):=by
 have hl:=S.len;refine{S.fh,by simp[hl],λj t' e=>?_,λj a z=>?_,λj k a hjk z1 z2=>?_}
 .by_cases hj:j=i
  .subst hj;rw[é hi]at e;cases e;exact{x,é (by lia),by simpa using r}
  .rw[æ<|Î hj]at e ⊢;let(y,e1,r1):=S.rep j t' e;exact{y,e1,by simpa[hj] using r1}
 .by_cases hj:j=i
  .subst hj;exact{t,é hi}
  .erw[hj,Ã]at z;let(t',e):=S.out j a z;exact{t',by rw[æ<|Î hj];exact e}
 .by_cases hj:j=i
  .erw[hj,Æ]at z1;have hk:¬ k=i:=λz=>hjk<|hj.trans z.symm
   erw[hk,Ã]at z2;exact d k a hk z2 z1
  .erw[hj,Ã]at z1
   by_cases hk:k=i
   .erw[hk,Æ]at z2;exact d j a hj z1 z2
   .erw[hk,Ã]at z2;exact S.dis j k a hjk z1 z2
def E7(K:k6)(b:T->AM->Option AM):TG:=λv O H Q=>∃F Y R t Y',StR K F H O Y R/\Rp K F H t v R0/\b t Y=↑Y'/\∀O' R',StR K F H O' Y' R'->(∀i a,R' i a->R i a)->Q O' H
def HR(K:k6)(b:kL->AM->Option AM):JD:=λvs O H Q=>∃F Y R ts Y',StR K F H O Y R/\Ah K F ts vs/\b ts Y=↑Y'/\∀O' R',StR K F H O' Y' R'->(∀i a,R' i a->R i a)->Q O' H
def AD(i:Nat):T->AM->Option AM:=λt Y=>if i<Y.length then ↑(Y.set i ↑t) else none
def Am:kL->AM->Option AM
 |[],Y=>↑Y|_::_,_=>none
def AI(b:T->AM->Option AM)(bs:kL->AM->Option AM):kL->AM->Option AM
 |t::ts,Y=>(match b t Y with
  |some Y'=>bs ts Y'|none=>none)
 |[],_=>none
def Ak(n:Nat)(bs:kL->AM->Option AM):T->AM->Option AM
 |.nd _ .tup l,Y=>if l.length=n then bs l Y else none
 |.nd _ .rt l,Y=>if l.length=n then bs l Y else none
 |.nd _ .lst l,Y=>if l.length=n then bs l Y else none
 |_,_=>none
def zo0(hc:X.calm=true)(h:EL X es t)(hn:(assignEach es X.env).length=n)(hst:(assignEach es X.env).findIdx? (·.1)=none):PG X (.Tuple es k pos) (λv O H Q=>Sg X.K n t v O H Q\/∃a xs,v=.ref a/\AZ X.K H a xs/\xs.length=n/\t xs O H Q):=by
 intro pq s O H v u Q I r hw
 rcases hw with hw|⟨a,xs,e1,hq,hl,hw⟩
 .exact znz hc h hn hst pq s O H v u Q I r hw
 .subst e1;cases r;let(its,rv,(o,m,ho,hcl,_,hd),hz):=I.list hq;refine À<|Ħ ?_;unfold unpack;rw[hst,hn,show n=its.toArray.size by simp[<- hl,rv.length]]
  refine À<|ð<|W.kun_itemsOf (I.ok.hd hc) {(o),ho,hcl,m,hd} λh' hx=>?_
  have I1 :=I.kept (t':=s.toks) λb o e=>hx b o (Õ<|Ä e) e
  exact h pq _ O H xs _ Q I1 (by grind) hw
section
variable {X:Cx}{e:Expr}{es:kC}{pos:Pos}{b:T->AM->Option AM}{bs:kL->AM->Option AM}
theorem PG.weak(h:PG X e t)(w:∀v O H Q,t' v O H Q->t v O H Q):PG X e t':=λpq s O H v u Q I r q=>h pq s O H v u Q I r<|w v O H Q q
theorem EL.weak(h:EL X es t)(w:∀v O H Q,t' v O H Q->t v O H Q):EL X es t':=λpq s O H v u Q I r q=>h pq s O H v u Q I r<|w v O H Q q
def g_nm(hN:X.N.Nodup)(hi:X.N[i]?=↑x)(hx:HJ X.env.scope x)(hf:X.fn x=true\/X.env.scope.names.lookup x=↑.local):PG X (.Name x pos)<|E7 X.K<|AD i:=by
 refine PG.weak (zke hN hi hx hf) λv O H Q h=>?_
 let(F,Y,R,t,Y',S,r,e,q):=h;unfold AD at e;split at e
 .cases e;rename_i hl;refine q _ _ (S.set r (λ_ _ _ _ z=>z.elim) hl) λj a z=>?_
  by_cases hj:j=i
  .erw[hj]at z;exact z.elim
  grind
 .cases e
theorem g_nil:EL X []<|HR X.K Am:=EL.weak zkd λv O H Q h=>by
 let(F,Y,R,ts,Y',S,r,e,q):=h;cases ts with
 |nil=>cases e;exact{r.inv0,q O R S λ_ _ z=>z}|cons _ _=>cases e
def zpn(h1:PG X e<|E7 X.K b)(h2:EL X es<|HR X.K bs)(hs:(assignEach (e::es) X.env).map (·.2)=assign e X.env::(assignEach es X.env).map (·.2)):EL X (e::es)<|HR X.K<|AI b bs:=by
 refine EL.weak (zhc h1 h2 hs) λv O H Q h=>?_
 let(F,Y,R,ts,Y',S,r,e,q):=h;cases ts with
 |nil=>cases e|cons t ts=>
  let(x,xs,rfl,r1,rs):=r.inv;unfold AI at e;simp only at e;cases hb:b t Y with
  |none=>grind|some τ1=>rw[hb]at e;exact{x,xs,rfl,F,Y,R,t,τ1,S,r1.any,hb,λO1 R1 S1 w1=>{F,τ1,R1,ts,Y',S1,rs,e,λO2 R2 S2 w2=>q O2 R2 S2 λi a z=>w1 i a<|w2 i a z}}
def g_tup(hc:X.calm=true)(h:EL X es<|HR X.K bs)(hn:(assignEach es X.env).length=n)(hst:(assignEach es X.env).findIdx? (·.1)=none):PG X (.Tuple es k pos)<|E7 X.K<|Ak n bs:=by
 refine PG.weak (zo0 hc h hn hst) λv O H Q h=>?_
 let(F,Y,R,t,Y',S,r,e,q):=h
 have key:∀{o:Bool} {kd:Kd} {l:kL},t=.nd o kd l->(kd=.tup\/kd=.rt\/kd=.lst)->(if l.length=n then bs l Y else none)=↑Y'->(Sg X.K n (HR X.K bs) v O H Q\/∃a xs,v=.ref a/\AZ X.K H a xs/\xs.length=n/\HR X.K bs xs O H Q):=by
  intro o kd l et hk e';subst et;split at e'
  .rename_i hl;let(p,xs,rfl,_,nn,kid):=Ds<|r.any (H':=F);have hx:xs.length=n:=by rw[<- kid.1];exact hl
   rcases hk with rfl|rfl|rfl
   .exact .inl {p,xs,rfl,Bt.of<|S.fh _ _ nn,hx,F,Y,R,l,Y',S,kid,e',q}
   .exact .inl {p,xs,rfl,Gc S.fh nn,hx,F,Y,R,l,Y',S,kid,e',q}
   .exact .inr {p,xs,rfl,AZ.of<|S.fh _ _ nn,hx,F,Y,R,l,Y',S,kid,e',q}
  .cases e'
 unfold Ak at e;split at e
 .exact key rfl (.inl rfl) e
 .exact key rfl (.inr<|.inl rfl) e
 .exact key rfl (.inr<|.inr rfl) e
 .cases e
end
section
abbrev Jz(l:Addr):Obj:={ cls:=.type "list_iterator",data:=.fields #[.ref l,.int 0 0] }
abbrev TR(p:Addr)(k:Int):Obj:={ cls:=.type "enumerate",data:=.fields #[.none,.bool false,.ref p,rawInt k,.none,.none] }
set_option maxHeartbeats 1000001 in
theorem zkz(l:Addr)(its:Array Value)(n:Nat)(d:Option Addr)(sl:Array<|Option Value)(t:Tok) :
  Meets (Builtin.«enumerate.__new__» {[.type "enumerate",.ref l],[("start",.int 1 t)]}) (λ_ R s=>s.heap.get? l=↑{.type "list",d,.seq its n,sl} /\
   R (.ok<|.ret<|.ref (s.heap.push<|Jz l).objs.size) { s with heap:=(s.heap.push<|Jz l).push (TR s.heap.objs.size 1) }):=Meets.of_wp λprog w A R s h=>by
 let(hp,g,d2,tk,os):=s;let(hl,h):=h;have hsub:=sub_enumerate;have hL:Heap.IsList (Shared.heap {(hp),g,d2,tk,os}) l its:={_,hl,rfl,n,rfl}
 wp_walk using Ś hl
 refine wpAny_stack_any λst=>Å ?_
 split
 .rename_i c _ _ _ _ _;cases (c == Value.type "enumerate")
  .wp_walk using Ś hl,ħ hL
   exact{_,rfl,h}
  .wp_walk using Ś hl,ħ hL
   exact{_,rfl,h}
 .wp_walk using Ś hl,ħ hL
  exact{_,rfl,h}
set_option maxHeartbeats 1000001 in
theorem zhv(x l:Addr)(t:Tok):Meets (Builtin.«object.__init__» {[.ref x,.ref l],[("start",.int 1 t)]})<|λ_ R s=>s.TypeIs (.ref x) "enumerate"/\R (.ok<|.ret .none) s:=Meets.of_wp λprog w A R s hs=>by
 let(hT,hq):=hs;have hl:=ź.init.lookup;have hm:=ź.made;have hne:(↑"enumerate.__new__" != ↑"object.__new__")=true:=by decide
 repeat (any_goals (first|assumption|wp_step))
 exact{_,rfl,hq}
set_option maxHeartbeats 1000001 in
def zit{prog:Program}{w:World}{A:Around}{E:Value->Shared->Prop}{s:Shared}{l:Addr}{its:Array Value}{t:Tok}{Q:Value->Shared->Prop}(hL:s.heap.IsList l its)
  (h:∀h',IsEnum h' (s.heap.objs.size+1) s.heap.objs.size 1 .none->h'.IsListIter s.heap.objs.size l 0->h'.objs.size=s.heap.objs.size+2->(∀b o,s.heap.get? b=↑o->h'.get? b=↑o)->Q (.ref<|s.heap.objs.size+1) { s with heap:=h' }) :
  wpAny (model prog w) A (call (.type "enumerate") [.ref l] [("start",.int 1 t)]) Q E s:=by
 let((c,d,dt,sl),hl,hc,n,hd):=hL
 replace hc:c=.type "list":=hc
 replace hd:dt=.seq its n:=hd
 subst hc hd;have ft:=ź;let(c,tl,hmro):=ft.mro;have hmade:=ft.made;have hsub:=ft.sub;have hct:checkTypeCall "enumerate" {[.ref l],[("start",.int 1 t)]}=pure ():=by ext
 have hcn:checkBuiltinCall "enumerate.__new__" {[.type "enumerate",.ref l],[("start",.int 1 t)]}=pure ():=by ext
 refine ĩ<|codeAny_of_tree ?_;refine Å {Code.quiet_builtin _ (by decide +kernel),Ī F.entry_type_call ?_}
 rw[Around.under_plain (weight_type_call_type "enumerate" _ _)<|units_type_call_type "enumerate" _ _];have h1:=ft.notType;have h2:=ft.canCreate
 repeat (any_goals (first|assumption|wp_step))
 refine ą (Ξ ft.plain F.entry_enumerate_new<|Ě hcn<|zkz l its n d sl t prog w A.in1 (wants (λo s1=>o=.ref (s.heap.objs.size+1)/\s1.TypeIs o "enumerate"/\Q o s1) E) s {hl,?_}) λr s1 hr=>?_
 .have hz:(s.heap.push<|Jz l).objs.size=s.heap.objs.size+1:=Ă ..
  have he:IsEnum ((s.heap.push<|Jz l).push (TR s.heap.objs.size 1)) (s.heap.objs.size+1) s.heap.objs.size 1 .none:=by
   have:=â (s.heap.push<|Jz l) (o:=TR s.heap.objs.size 1) rfl;rw[hz]at this;exact this
  show _/\_;rw[hz];exact{rfl,{_,he,rfl},h _ he {_,Ð _<|â _ rfl,rfl,rfl} (by rw[Ă,hz]) λb o x=>Ð _<|Ð _ x}
 .cases r with
  |error e=>exact hr|ok fl=>
   cases fl with
   |ret obj=>
    let(rfl,hT,hq):=hr;have hli:=ft.init.lookup;have hbi:=ft.init.bind<|.ref<|s.heap.objs.size+1;have hok:argsOk "object.__init__" {[.ref<|s.heap.objs.size+1,.ref l],[("start",.int 1 t)]}:=by ext
    repeat (any_goals (first|assumption|wp_step))
    refine ą (Ξ ft.init.plain F.entry_object_init<|ft.init.check _ _ _ _ _ _ _ _ hT hok<|zhv _ l t prog w A.in1 (wants (λr s2=>r=.none/\Q (.ref<|s.heap.objs.size+1) s2) E) s1 {(hT),rfl,hq}) λr2 s2 hr2=>?_
    cases r2 with
    |error e=>exact hr2|ok fl2=>
     cases fl2 with
     |ret r=>
      let(rfl,hq):=hr2
      repeat (any_goals (first|assumption|wp_step))
     |_=>exact hr2.elim
   |_=>exact hr.elim
end
section
variable {X:Cx}{a:Expr}{elts:kC}{kk ko:Nat}{tpos p pos kp vp:Pos}{E:L2.St->XK}{ca:Str->Value}{ms:As}
abbrev MY(ko:Nat)(vp kp:Pos):List Keyword:=[{↑(Str.ofString "start"),.Constant (.int 1) ko vp,kp}]
def zpv{T}(h1:args.any (·.1)=false)(h2:ks.any (·.1.isNone)=false)
  (h:wpAny M A (evalArgs (.type T) true args ks) (λa s1=>wpAny M A (call (.type T) a.pos a.kw) Q R s1) R s):wpAny M A (callWith pos (.type T) [] args ks) Q R s:=by
 refine À<|ð<|AX h λa s1 q=>À<|Ħ ?_
 erw[h1,h2];exact À<|Å<|À<|AX q λr s2 z=>À<|ð<|wpAny_point<|Å z
def zpk(K:k6)(ta:TA):TI:=λO H R=>ta O H λvs H1=>∃a,vs=[.ref a]/\(∃xs,AZ K H1 a xs)/\R (Nh K 1 a) H1
def zhb(hg:Gl X "enumerate")(hm:X.mg "enumerate"=none)(ha:PA X [a] ta)(hs:starEach [a] X.env=[(false,eval a X.env)]):PI X (.Tuple elts kk tpos) (.Call (.Name "enumerate" p) [a] (MY ko vp kp) pos)<|zpk X.K ta:=by
 intro pq s O H R I h;have he:eval (.Call (.Name "enumerate" p) [a] (MY ko vp kp) pos) X.env=(do callWith pos (<- eval (.Name "enumerate" p) X.env) [] (backTo pos<|starEach [a] X.env) (backToKw pos<|keywordEach (MY ko vp kp) X.env)):=by rfl
 rw[he];refine À<|Fo I hg hm boot_enumerate<|zpv (by rw[hs];rfl) rfl ?_
 have hb:backTo pos (starEach [a] X.env)=[(false,eval a X.env)]:=by rw[hs];rfl
 have h0:=ha pos pq s O H _ I h;rw[hb]at h0 ⊢;refine evalArgs_kwB rfl<|AX h0 λus s1 ⟨vs,H1,I1,r1,q1⟩=>kws_cons ?_
 refine wpAny_Constant_int<|kws_nil ?_;let(l,e,(xs,hq),q):=q1;subst e;let(u,rfl,ru):=Ei r1;cases ru;have I2:Inv X pq O H1 { s1 with toks:=s1.toks+1 }:=I1.tok _
 let(its,rv,pl,hz):=I2.list hq;refine zit pl.isList λh' he hit hsz hk=>?_
 have I3:Inv X pq O H1 { s1 with heap:=h',toks:=s1.toks+1 }:=I2.kept hk
 refine Μ he {s1.heap.objs.size+1,[s1.heap.objs.size+1,s1.heap.objs.size],_,_,H1,rfl,I3,Uz 1 l _ _ (by simp),{{_,by simpa using he},hit},λb hb=>?_,q}
 have hb':s1.heap.objs.size<=b:=by
  obtain rfl|hb:=Ê.mp hb
  .exact Đ _
  .rw[Ô.mp hb];exact Ç _
 exact I1.fpOk hb'<|I1.hok.fresh hb'
def Gy(ms:As):As:=λY=>match ms Y with
 |some (.v ts false)=>(match Hq ts with
  |some l=>↑(.v (E3 1 l) false)|none=>none)
 |some (.v _ true)=>none|r=>r
def r_en1(hg:Gl X "enumerate")(hm:X.mg "enumerate"=none)(ha:PA X [a]<|CK X.K E ca ms)(hs:starEach [a] X.env=[(false,eval a X.env)]):PI X (.Tuple elts kk tpos) (.Call (.Name "enumerate" p) [a] (MY ko vp kp) pos)<|tI X.K E ca<|Gy ms:=by
 refine PI.weak (zhb hg hm ha hs) λO H P h=>?_
 refine L3 (f:=Gy) (λY c e=>by unfold Gy;rw[e]) (λY e=>by unfold Gy;rw[e]) (λF Y R ts b S e q F' H' xs e1 rs=>?_) h
 unfold Gy at q;rw[e]at q;cases b with
 |true=>symm|false=>
  simp only at q;cases h1:Hq ts with
  |none=>erw[h1]at q<;>symm|some l=>
   erw[h1]at q;unfold Hq at h1;split at h1
   .split at h1
    .cases h1;rename_i hL;let(x1,xs1,rfl,r1,rs1):=rs.inv;cases rs1.inv0;let(p',ys,rfl,sq,kd):=KJ hL r1;exact{p',rfl,{ys,sq F' H' (.refl _) e1.fh},q F' H' _ e1<|Zh sq kd}
    .cases h1
   .cases h1
end
abbrev GZ(h:Heap)(z TI TO:Addr)(f0:Value)(f:Bool):Prop:=
 h.get? z=↑{ cls:=.type "zip",dict:=none,data:=.fields #[f0,.bool f,.bool false,.ref TI,.ref TO],slots:=#[] }
section
variable {prog:Program}{w:World}{A:Around}{E:Value->Shared->Prop}{s:Shared}
def zj4{z TI TO a:Addr}{f:Bool}{oa:Obj}(hz:GZ s.heap z TI TO (rawInt a) f)(ha:s.heap.get? a=↑oa) :
  wpAny (model prog w) A (Builtin.SmallTypes.ownedTupleIsFree<|.ref z) (λb s'=>b=false/\∃h',s'={ s with heap:=h' }/\GZ h' z TI TO (rawInt a) true/\Heap.SameBut z s.heap h') E s:=by
 refine À<|ù hz rfl (x:=rawInt a) rfl ?_;refine À<|W.kdx_alive ha ?_;refine À<|ù hz rfl (x:=.bool f) rfl ?_;cases f with
 |true=>exact Å {rfl,_,rfl,hz,Heap.SameBut.refl _ _}|false=>exact À<|wpAny_setField_rec hz (by simp) λh3 e3 s3=>Å {rfl,_,rfl,e3,s3}
def U6{z TI TO i1 i2 a:Addr}{f:Bool}{oa:Obj}{Q:Fin->Shared->Prop}(hz:GZ s.heap z TI TO (rawInt a) f)(ha:s.heap.get? a=↑oa)(hTI:IsPair s.heap TI (.ref i1)<|.ref i2)
  (h:∀h',GZ h' z TI TO (rawInt a) true->Heap.SameBut z s.heap h'->wpAny (model prog w) A (Builtin.SmallTypes.nextOf<|.ref i1) (λx s1=>wpAny (model prog w) A (Builtin.SmallTypes.nextOf<|.ref i2) (λy s2=>wpAny (model prog w) A (newTuple [x,y]) (λr s3=>Q (.done<|.ret r) s3) E s2) E s1) E { s with heap:=h' }) :
  wpAny (model prog w) A (Builtin.«zip.__next__» {[.ref z],[]}) Q E s:=by
 show wpAny _ _ (field (.ref z) 2 >>= _) _ _ _;refine À<|ù hz rfl (x:=.bool false) rfl ?_;show wpAny _ _ (field (.ref z) 3 >>= _) _ _ _;refine À<|ù hz rfl (x:=.ref TI) rfl ?_;refine À<|wpAny_seqItems hTI rfl ?_;refine À<|ï (zj4 hz ha) (λb s' ⟨eb,h₁,es,hz₁,hs₁⟩=>?_) λ_ _ z=>z
 subst eb es;erw[Ā,Ã];refine À ?_;simp only[<- Array.forIn_toList,List.forIn_cons,List.forIn_nil];refine À<|À<|ð ?_;show wpAny _ _ (Builtin.SmallTypes.nextOf (.ref i1) >>= _) _ _ _;refine À<|AX (h h₁ hz₁ hs₁) λx s1 q=>Å<|Å ?_
 refine À<|À<|ð ?_;show wpAny _ _ (Builtin.SmallTypes.nextOf (.ref i2) >>= _) _ _ _;refine À<|AX q λy s2 q2=>Å<|Å<|Å ?_
 exact À<|AX q2 λr s3 q3=>Å q3
def zj3{z TI TO i1 i2 l1 l2 a:Addr}{f:Bool}{oa:Obj}{k1 k2:Nat}{xs ys:Array Value}{x y:Value}{Q:Value->Shared->Prop}(D:ZipApart z TI TO i1 i2 l1 l2)
  (hz:GZ s.heap z TI TO (rawInt a) f) (ha:s.heap.get? a=↑oa) (hTI:IsPair s.heap TI (.ref i1)<|.ref i2)
  (h1:s.heap.IsListIter i1 l1 k1) (h2:s.heap.IsListIter i2 l2 k2) (hl1:s.heap.IsList l1 xs) (hl2:s.heap.IsList l2 ys) (hx:xs[k1]?=↑x) (hy:ys[k2]?=↑y)
  (hQ : ∀ h', GZ h' z TI TO (rawInt a) true -> h'.IsListIter i1 l1 (k1 + 1) -> h'.IsListIter i2 l2 (k2 + 1) -> IsPair h' s.heap.objs.size x y ->
   (∀c o,c∉[z,i1,i2]->s.heap.get? c=↑o->h'.get? c=↑o)->Q (.ref s.heap.objs.size) { s with heap:=h' }) :
  wpAny (model prog w) A (Builtin.«zip.__next__» {[.ref z],[]}) (λAw s'=>∃v,Aw=.done (.ret v)/\Q v s') E s:=by
 refine U6 hz ha hTI λh₁ hz₁ hs₁=>?_
 refine Ο (h1.extBut hs₁.extBut D.i1z) (hl1.extBut hs₁.extBut D.l1z) hx λh₂ h1₂ hs₂=>?_
 refine Ο ((h2.extBut hs₁.extBut D.i2z).extBut hs₂.extBut D.i12.symm) ((hl2.extBut hs₁.extBut D.l2z).extBut hs₂.extBut D.l2i1) hy λh₄ h2₄ hs₄=>?_
 refine wpAny_newTuple {_,rfl,?_};have hsz:h₄.objs.size=s.heap.objs.size:=by rw[hs₄.1,hs₂.1,hs₁.1]
 show Q (.ref h₄.objs.size) _;have g5:(h₄.push { cls:=.type "tuple",data:=.seq #[x,y] }).get? h₄.objs.size=↑{ cls:=.type "tuple",data:=.seq #[x,y] }:=â _ rfl;rw[hsz]at g5 ⊢;refine hQ _ (Ð _<|hs₄.extBut _ _ D.i2z.symm<|hs₂.extBut _ _ D.i1z.symm hz₁) ((h1₂.extBut hs₄.extBut D.i12).at λo e=>Ð _ e) (h2₄.at λo e=>Ð _ e) g5 λc o hc e=>?_
 erw[Ê,ê,ñ,not_or]at hc;exact Ð _<|hs₄.extBut _ _ hc.2.2<|hs₂.extBut _ _ hc.2.1<|hs₁.extBut _ _ hc.1 e
def zm7{z TI TO i1 i2 l1 l2 a:Addr}{f:Bool}{oa:Obj}{k1 k2:Nat}{xs ys:Array Value}{Q:Fin->Shared->Prop}(hh:A.handled=none)(D:ZipApart z TI TO i1 i2 l1 l2)
  (hz:GZ s.heap z TI TO (rawInt a) f) (ha:s.heap.get? a=↑oa) (hTI:IsPair s.heap TI (.ref i1)<|.ref i2)
  (h1:s.heap.IsListIter i1 l1 k1) (h2:s.heap.IsListIter i2 l2 k2) (hl1:s.heap.IsList l1 xs) (hl2:s.heap.IsList l2 ys) (hend:xs[k1]?=none\/ys[k2]?=none)
  (hE:∀h' e,(∀c o,c∉[z,TO,i1,i2]->s.heap.get? c=↑o->h'.get? c=↑o)->(∃o,h'.get? e=↑o/\o.cls=.type "StopIteration")->E (.ref e) { s with heap:=h' }) :
  wpAny (model prog w) A (Builtin.«zip.__next__» {[.ref z],[]}) Q E s:=by
 refine U6 hz ha hTI λh₁ hz₁ hs₁=>?_
 cases hx:xs[k1]? with
 |none=>
  refine Λ hh (h1.extBut hs₁.extBut D.i1z) (hl1.extBut hs₁.extBut D.l1z) hx λh₂ e hs₂ he=>hE h₂ e (λc o hc x=>?_) he
  erw[Ê,ê,ñ,not_or]at hc;exact hs₂ _ _ hc.2.2.1<|hs₁.extBut _ _ hc.1 x
 |some x=>
  have hy:ys[k2]?=none:=by grind
  refine Ο (h1.extBut hs₁.extBut D.i1z) (hl1.extBut hs₁.extBut D.l1z) hx λh₂ h1₂ hs₂=>?_
  refine Λ hh ((h2.extBut hs₁.extBut D.i2z).extBut hs₂.extBut D.i12.symm) ((hl2.extBut hs₁.extBut D.l2z).extBut hs₂.extBut D.l2i1) hy λh₄ e hs₄ he=>hE h₄ e (λc o hc x=>?_) he
  erw[Ê,ê,ñ,not_or]at hc;exact hs₄ _ _ hc.2.2.2<|hs₂.extBut _ _ hc.2.2.1<|hs₁.extBut _ _ hc.1 x
def ZS(h:Heap)(z TI TO i1 i2 l1 l2 i:Nat)(p:Option Addr):Prop:=(match p with
 |none=>GZ h z TI TO .none false|some a=>∃f oa,GZ h z TI TO (rawInt a) f/\h.get? a=↑oa)/\IsPair h TI (.ref i1) (.ref i2)/\(∃a b,IsPair h TO a b)/\h.IsListIter i1 l1 i/\h.IsListIter i2 l2 i
def zj1{z TI TO i1 i2 l1 l2 i:Nat}{p:Option Addr}{xs ys:Array Value}{x y:Value}{Q:Option Value->Shared->Prop}(D:ZipApart z TI TO i1 i2 l1 l2)(hst:ZS s.heap z TI TO i1 i2 l1 l2 i p)(hp:∀a∈p,a∉[z,TO,i1,i2])
  (hl1:s.heap.IsList l1 xs) (hl2:s.heap.IsList l2 ys) (hx:xs[i]?=↑x) (hy:ys[i]?=↑y)
  (hQ : ∀ h', ZS h' z TI TO i1 i2 l1 l2 (i + 1) (↑(p.getD s.heap.objs.size)) -> IsPair h' s.heap.objs.size x y ->
   (∀c o,c∉[z,TO,i1,i2]->s.heap.get? c=↑o->h'.get? c=↑o)->Q (↑(.ref s.heap.objs.size)) { s with heap:=h' }) :
  wpAny (model prog w) A (pyNext<|.ref z) Q E s:=by
 let(h0,hTI,(a,b,hTO),h1,h2):=hst;have nTI:TI∉[z,TO,i1,i2]:=by simp[D.TIz,D.TITO,D.TIi1,D.TIi2]
 cases p with
 |none=>
  refine wpAny_pyNext_zip_item D h0 hTI hTO h1 h2 hl1 hl2 hx hy λh' a1 a2 a3 a4 a5 a6 hk=>?_
  refine hQ h' {{_,_,a1,a5},hk _ _ D.TIz D.TITO D.TIi1 D.TIi2 hTI,{_,_,a2},a3,a4} a5 λc o hc e=>?_
  erw[Ê,ê,ñ,not_or]at hc;exact hk c o hc.1 hc.2.1 hc.2.2.1 hc.2.2.2 e
 |some v=>
  let(f,oa,hz,ha):=h0;have hT:s.TypeIs (.ref z) "zip":={_,hz,rfl};unfold pyNext
  refine À (wpAny_attempt (wpAny_callSpecial?_slot (name:=Str.ofString "__next__") hT ŏ (wpAny_call_entry ŏ hT F.entry_zip_next
   (zj3 D hz ha hTI h1 h2 hl1 hl2 hx hy λh' a1 a2 a3 a4 hk=>Å ?_) (F.args_zip_next_1 _))))
  have hk2:∀c o,c∉[z,TO,i1,i2]->s.heap.get? c=↑o->h'.get? c=↑o:=λc o hc e=>hk c o (λm=>hc<|by grind) e
  exact hQ h' {{_,_,a1,hk2 _ _ (hp v rfl) ha},hk2 _ _ nTI hTI,{_,_,hk _ _ (by simp[D.TOz,D.TOi1,D.TOi2]) hTO},a2,a3} a4 hk2
def zj2{z TI TO i1 i2 l1 l2 i:Nat}{p:Option Addr}{xs ys:Array Value}{Q:Option Value->Shared->Prop}(hh:A.handled=none)(D:ZipApart z TI TO i1 i2 l1 l2)(hst:ZS s.heap z TI TO i1 i2 l1 l2 i p)
  (hl1:s.heap.IsList l1 xs) (hl2:s.heap.IsList l2 ys) (hend:xs[i]?=none\/ys[i]?=none)
  (hQ:∀h',(∀c o,c∉[z,TO,i1,i2]->s.heap.get? c=↑o->h'.get? c=↑o)->Q none { s with heap:=h' }) :
  wpAny (model prog w) A (pyNext<|.ref z) Q E s:=by
 let(h0,hTI,(a,b,hTO),h1,h2):=hst;cases p with
 |none=>
  refine wpAny_pyNext_zip_end hh D h0 hTI hTO h1 h2 hl1 hl2 hend λh' hk=>hQ h' λc o hc e=>?_
  grind
 |some v=>
  let(f,oa,hz,ha):=h0;have hT:s.TypeIs (.ref z) "zip":={_,hz,rfl};unfold pyNext
  refine À (wpAny_attempt (wpAny_callSpecial?_slot (name:=Str.ofString "__next__") hT ŏ (wpAny_call_entry ŏ hT F.entry_zip_next
   (zm7 hh D hz ha hTI h1 h2 hl1 hl2 hend λh' e hk he=>?_) (F.args_zip_next_1 _))))
  let(o,ho,hc):=he;exact À<|ś (T:="StopIteration") (b:=true) {(o),ho,hc} isSubtype_stop<|Å<|hQ _ hk
end
structure Zg(xs ys:kK)(H Hh:Hp)(ps:List Addr):Prop where
 same:A4 H Hh
 new:∀p∈ps,H p=none
 at':∀(j:Nat) (p:Addr),ps[j]?=↑p->∃x y,xs[j]?=↑x/\ys[j]?=↑y/\Hh p=↑(.tup [x,y])
def Fg{K}{H H':Hp}{a:Addr}{xs:kK}(h:AZ K H a xs)(s:A4 H H'):AZ K H' a xs:=by
 rcases h with (h|⟨o,h⟩)|h
 .exact .inl<|.inl<|s _ _ h
 .exact .inl<|.inr {o,s _ _ h}
 .exact .inr h
section
variable {X:Cx}{A:Around}{pq:List<|Addr×Obj}{O:L2.St}{R:Result->Shared->Prop}
def zj5{z TI TO i1 i2 l1 l2 S:Nat}{H:Hp}{xs ys:kK}{res:Value}(hh:A.handled=none)(D:ZipApart z TI TO i1 i2 l1 l2)(hS:S∉[z,TI,TO,i1,i2])(q1:AZ X.K H l1 xs)(q2:AZ X.K H l2 ys)
  (hR:∀s' Hh ps,Inv X pq O (upd Hh S<|.lst<|ps.map V.ref) s'->Hh S=none->Zg xs ys H Hh ps->ps.length=min xs.length ys.length->R (.ok<|.ret res) s') :
  ∀(k i:Nat) (s:Shared) (Hh:Hp) (ps:List Addr),min xs.length ys.length - i=k->ps.length=i->i<=min xs.length ys.length->Inv X pq O (upd Hh S<|.lst<|ps.map V.ref) s->Hh S=none->Zg xs ys H Hh ps ->
   ZS s.heap z TI TO i1 i2 l1 l2 i ps[0]?->(∀b∈[z,TI,TO,i1,i2],CV X pq Hh b)->codeAny (model X.prog X.w) A (.builtin "list.extend.loop" {[.ref S,.ref z,res],[]}) R s:=by
 have hSb:∀b∈[z,TI,TO,i1,i2],b≠S:=λb hb e=>hS<|e▸hb
 have hSl:S∉[z,TO,i1,i2]:=λm=>hS<|by grind
 intro k
 induction k with
 |zero=>
  intro i s Hh ps hk hl hi I hn G st hf;have q1':=Fg (Fg q1 G.same)<|Fh hn<|.lst<|ps.map V.ref;have q2':=Fg (Fg q2 G.same)<|Fh hn<|.lst<|ps.map V.ref;let(its,rv,p,hz):=I.list q1';let(its2,rv2,p2,hz2):=I.list q2';refine Ī PySem.F.entry_extend_loop ?_;rw[ŉ Ń _];show wpAny _ A.in1 (pyNext (.ref z) >>= _) _ _ _;refine À<|zj2 (A:=A.in1) hh D st p.isList p2.isList ?_ λh' hk'=>Å ?_
  .have h1:=rv.length;have h2:=rv2.length
   rcases Nat.le_total xs.length ys.length with h|h
   .exact .inl (by simp;lia)
   .exact .inr (by simp;lia)
  .exact hR _ Hh ps (G7 (t':=s.toks) I hk' λb hb=>KU (hf b<|by grind)<|hSb b<|by grind) hn G<|by lia
 |succ k ih=>
  intro i s Hh ps hk hl hi I hn G st hf;have q1':=Fg (Fg q1 G.same)<|Fh hn<|.lst<|ps.map V.ref;have q2':=Fg (Fg q2 G.same)<|Fh hn<|.lst<|ps.map V.ref;let(its,rv,p,hz):=I.list q1';let(its2,rv2,p2,hz2):=I.list q2';have hix:i<xs.length:=by lia
  have hiy:i<ys.length:=by lia
  let(u,hu,ru):=rv.get<|Â hix;let(u2,hu2,ru2):=rv2.get<|Â hiy;have hfu:∀b∈[z,TI,TO,i1,i2],CV X pq (upd Hh S<|.lst<|ps.map V.ref) b:=λb hb=>KU (hf b hb)<|hSb b hb
  have pz:∀a∈ps,a∉[z,TO,i1,i2]:=λa ha m=>by
   let(j,hj):=List.mem_iff_getElem?.mp ha;let(x,y,_,_,e):=G.at' j a hj;rw[(hf a<|by grind).1]at e
   cases e
  refine Ī PySem.F.entry_extend_loop ?_;rw[ŉ Ń _];show wpAny _ A.in1 (pyNext (.ref z) >>= _) _ _ _;refine À<|zj1 D st (λa ha=>pz a<|ç ha) p.isList p2.isList (by simpa using hu) (by simpa using hu2) λh' st' pr hk'=>?_
  have hnew:=I.hok.fresh<|Ç s.heap.objs.size;have hSn:S≠s.heap.objs.size:=λe=>by rw[<- e,CJ]at hnew;cases hnew
  have hHn:Hh s.heap.objs.size=none:=by rwa[An<|Î hSn]at hnew
  have I1:Inv X pq O (upd (upd Hh S<|.lst<|ps.map V.ref) s.heap.objs.size<|.tup [xs[i],ys[i]]) { s with heap:=h',toks:=s.toks }:=by
   refine ON I hk' (λb hb=>hfu b<|by grind) (Ç _) ?_
   exact{by erw[Ø,Ċ];rw[đ];decide,[u,u2],.cons ru<|.cons ru2 .nil,_,pr,rfl,0,rfl}
  let(hzl,js,c,rj,ej):=I1.hok S _ (by rw[An hSn];exact CJ)
  have lj:js.length=i:=by rw[<- rj.length,Á,hl]
  show wpAny _ A.in1 (updateSeq S (·.push (Value.ref s.heap.objs.size)) >>= _) _ _ _;refine À<|Ŝ ej rfl ?_ (by simp[lj];lia) (by simp[lj];lia)
  refine Å {plainId_quiet Ń _,?_};have up:∀b o,b≠S->h'.get? b=↑o->(h'.update S (Obj.mapSeq (·.push (Value.ref s.heap.objs.size)))).get? b=↑o:=λb o hb e=>(õ _ _<|Î hb).trans e
  have eS:=ć (Obj.mapSeq (·.push (Value.ref s.heap.objs.size))) ej rfl
  have I2:=I1.write (x:=S) (e:=S) (t':=s.toks) (o:=.lst<|(ps++[s.heap.objs.size]).map V.ref) (h':=h'.update S (Obj.mapSeq (·.push (Value.ref s.heap.objs.size)))) (by rw[An hSn,CJ];trivial) (.inl rfl) (λb o hb e=>up b o hb e) {_,eS}
   {by simp[hl];lia,js++[.ref s.heap.objs.size],_,by rw[è];exact rj.append<|.cons rfl .nil,by simpa[Obj.mapSeq] using eS}
  have eH:upd (upd (upd Hh S<|.lst<|ps.map V.ref) s.heap.objs.size<|.tup [xs[i],ys[i]]) S (.lst<|(ps++[s.heap.objs.size]).map V.ref)=upd (upd Hh s.heap.objs.size<|.tup [xs[i],ys[i]]) S (.lst<|(ps++[s.heap.objs.size]).map V.ref):=by
   funext b
   unfold upd
   grind
  rw[eH]at I2;refine ih (i+1) _ _ (ps++[s.heap.objs.size]) (by lia) (by simp[hl]) (by lia) I2 (by rw[An hSn];exact hn) {G.same.trans<|Fh hHn _,?_,?_} ?_ ?_
  .intro a ha
   rcases ä.mp ha with ha|ha
   .exact G.new a ha
   .rw[Ô.mp ha];exact GJ G.same hHn
  .intro j a hj
   by_cases h1:j<ps.length
   .rw[ú h1]at hj;let(x,y,e1,e2,e3):=G.at' j a hj;exact{x,y,e1,e2,Fh hHn _ _ _ e3}
   .have h2:j=ps.length:=by
     have:=(Ñ.mp hj).1;simp at this
     lia
    subst h2;have:s.heap.objs.size=a:=by simpa using hj
    subst this;exact{_,_,by rw[hl];exact Â hix,by rw[hl];exact Â hiy,CJ}
  .let(s0,s1,(a,b,s2),s3,s4):=st';have n5:∀b∈[z,TI,TO,i1,i2],∀o,h'.get? b=↑o->(h'.update S (Obj.mapSeq (·.push (Value.ref s.heap.objs.size)))).get? b=↑o:=λb hb o e=>up b o (hSb b hb) e
   have e0:(ps++[s.heap.objs.size])[0]?=↑(ps[0]?.getD s.heap.objs.size):=by cases ps<;>rfl
   rw[e0];let(f,oa,y1,y2):=s0;refine{{f,oa,n5 _ (by simp) _ y1,up _ _ ?_ y2},n5 _ (by simp) _ s1,{a,b,n5 _ (by simp) _ s2},s3.at λo e=>n5 _ (by simp) o e,s4.at λo e=>n5 _ (by simp) o e}
   cases ps with
   |nil=>exact Î hSn|cons a r=>intro e;let(x,y,_,_,e3):=G.at' 0 a rfl;have e':a=S:=e;rw[e',hn]at e3;cases e3
  .intro b hb;refine KU (hf b hb) λe=>?_
   have:=(hfu b hb).1
   rcases st with ⟨s0,s1,⟨a,c,s2⟩,⟨o3,s3,_⟩,⟨o4,s4,_⟩⟩
   have hz0:∃o,s.heap.get? z=↑o:=by
    cases hp:ps[0]? with
    |none=>rw[hp]at s0;exact{_,s0}|some v=>rw[hp]at s0;let(f,oa,y,_):=s0;exact{_,y}
   let(o0,hz0):=hz0
   have:b<s.heap.objs.size:=by
    erw[Ê,ê,ñ]at hb
    rcases hb with rfl|rfl|rfl|rfl|rfl
    .exact Ä hz0
    .exact Ä s1
    .exact Ä s2
    .exact Ä s3
    .exact Ä s4
   exact absurd (e▸this)<|Þ _
def zds:typeLookup (.type "zip") "__len__"=pure none:=by ext
def zd0:typeLookup (.type "zip") "__length_hint__"=pure none:=by ext
def zj6{E:Value->Shared->Prop}{s:Shared}{z TI TO i1 i2 l1 l2:Nat}{H:Hp}{xs ys:kK}{Q:Value->Shared->Prop}(hh:A.handled=none)(D:ZipApart z TI TO i1 i2 l1 l2)(q1:AZ X.K H l1 xs)(q2:AZ X.K H l2 ys)(I:Inv X pq O H s)
  (st:ZS s.heap z TI TO i1 i2 l1 l2 0 none) (hf:∀b∈[z,TI,TO,i1,i2],CV X pq H b)
  (hQ:∀s' Hh ps S,Inv X pq O (upd Hh S<|.lst<|ps.map V.ref) s'->Hh S=none->Zg xs ys H Hh ps->ps.length=min xs.length ys.length->Q (.ref S) s') :
  wpAny (model X.prog X.w) A (call (.type "list") [.ref z]) Q E s:=by
 let(hz,hTI,(ta,tb,hTO),h1,h2):=id st
 have hlt:∀b∈[z,TI,TO,i1,i2],b<s.heap.objs.size:=λb hb=>by
  erw[Ê,ê,ñ]at hb;let(o3,s3,_):=h1;let(o4,s4,_):=h2
  rcases hb with rfl|rfl|rfl|rfl|rfl
  .exact Ä hz
  .exact Ä hTI
  .exact Ä hTO
  .exact Ä s3
  .exact Ä s4
 have hS:s.heap.objs.size∉[z,TI,TO,i1,i2]:=λm=>Þ _<|hlt _ m
 refine callType_codes (Q₁:=λobj s₁=>obj=.ref s.heap.objs.size/\s₁={ s with heap:=s.heap.push { cls:=.type "list",data:=.seq #[] } }) F.called_list (F.typeCall_list_1 _) F.entry_list_init (code_list_new _ {(rfl),rfl}) λobj s₁ e₁=>?_
 let(rfl,rfl):=e₁;have gS:(s.heap.push { cls:=.type "list",data:=.seq #[] }).get? s.heap.objs.size=↑{ cls:=.type "list",data:=.seq #[] }:=â _ rfl;refine{{_,gS,rfl},F.args_list_init_2 _ _,?_};show wpAny _ _ (Builtin.List.listItems (.ref s.heap.objs.size) >>= _) _ _ _;refine À ?_;unfold Builtin.List.listItems;refine À<|wpAny_seqItems gS rfl<|Å ?_;show wpAny _ _ (updateSeq s.heap.objs.size (λ_=>#[]) >>= _) _ _ _
 refine À<|Ŝ gS rfl ?_;have gS₂:=ć (Obj.mapSeq<|λ_=>(#[]:Array Value)) gS rfl
 refine À<|wpAny_letGo ?_;have hne:s.heap.objs.size≠z:=λe=>hS<|by simp[e]
 have k2:∀b o,s.heap.get? b=↑o->((s.heap.push { cls:=.type "list",data:=.seq #[] }).update s.heap.objs.size (Obj.mapSeq<|λ_=>(#[]:Array Value))).get? b=↑o:=λb o e=>
  (õ _ _<|Ģ<|Ä e).trans (Ð _ e)
 have hT:∀h':Heap,(∀b o,s.heap.get? b=↑o->h'.get? b=↑o)->Shared.TypeIs { s with heap:=h' } (.ref z) "zip":=λh' k=>{_,k _ _ hz,rfl}
 unfold Builtin.List.listExtendWith;refine À<|wpAny_typeOf (hT _ k2) ?_;have t1:Builtin.List.listSameRef (.ref s.heap.objs.size) (.ref z)=false:=by simp[Builtin.List.listSameRef,hne]
 have t2:(Value.type "zip" == Value.type "list")=false:=by decide
 have t3:(Value.type "zip" == Value.type "tuple")=false:=by decide
 erw[t1,t2,t3,ż,Ā,Ã];refine À<|Ν (k2 _ _ hz) ?_;refine À<|ð ?_;unfold Builtin.List.listLengthHint;refine À<|ŝ (hT _ k2) zds ?_;show wpAny _ _ (specialOf (.ref z) (Str.ofString "__length_hint__") >>= _) _ _ _;refine À<|ŝ (hT _ k2) zd0 ?_;refine Å ?_;show wpAny _ _ (rule "list.extend.makes-room" >>= λ_=>Builtin.List.listTouch (.ref s.heap.objs.size) >>= λ_=>again<|.builtin "list.extend.loop" {[.ref s.heap.objs.size,.ref z,.none],[]}) _ _ _
 refine À<|wpAny_rule ?_;refine À ?_;show wpAny _ _ (updateSeq s.heap.objs.size (·.push .none) >>= λ_=>updateSeq s.heap.objs.size (·.pop)) _ _ _
 refine À<|Ŝ gS₂ rfl ?_;have gS₃:=ć (Obj.mapSeq (·.push Value.none)) gS₂ rfl;refine Ŝ (hz:=by seq_fits) gS₃ rfl ?_
 have gS₄:=ć (Obj.mapSeq (·.pop)) gS₃ rfl
 have k4:∀b o,s.heap.get? b=↑o->((((s.heap.push { cls:=.type "list",data:=.seq #[] }).update s.heap.objs.size (Obj.mapSeq<|λ_=>(#[]:Array Value))).update s.heap.objs.size (Obj.mapSeq (·.push Value.none))).update s.heap.objs.size (Obj.mapSeq (·.pop))).get? b=↑o:=λb o e=>
  (õ _ _<|Ģ<|Ä e).trans ((õ _ _<|Ģ<|Ä e).trans (k2 b o e))
 have hn:=I.hok.fresh<|Ç s.heap.objs.size;refine Å {plainId_quiet Ń _,zj5 (A:=A.in1) (i1:=i1) (i2:=i2) (l1:=l1) (l2:=l2) (H:=H) hh D hS q1 q2 (λs' Hh ps I' n' G e=>{rfl,hQ s' Hh ps _ I' n' G e}) _ 0 _ H [] rfl rfl (ô _) ?_ hn {.refl _,λp hp=>(ê hp).elim,λj p hj=>by simp at hj} ?_ hf}
 .refine I.laid k4 (Ç _) {ô _,[],_,.nil,gS₄}
 .exact{k4 _ _ hz,k4 _ _ hTI,{_,_,k4 _ _ hTO},h1.at λo e=>k4 _ o e,h2.at λo e=>k4 _ o e}
def U7(K:k6)(Q:VK)(vs:kK)(H:Hp):Prop:=∃a b xs ys,vs=[.ref a,.ref b]/\AZ K H a xs/\AZ K H b ys /\
 ∀Hh ps S,Hh S=none->Zg xs ys H Hh ps->ps.length=min xs.length ys.length->Q (.ref S) (upd Hh S<|.lst<|ps.map V.ref)
def tLz(K:k6)(ta tb:TE):TE:=λO H Q=>ta O H λx H1=>tb O H1 λy H2=>U7 K Q [x,y] H2
def pe_lz{ta tb:TE}{a b:Expr}{p p2 pos pos2:Pos}(hc:X.calm=true)(hg:Gl X "list")(hm:X.mg "list"=none)(hg2:Gl X "zip")(hm2:X.mg "zip"=none)(ha:PE X a ta)(hb:PE X b tb)(hs:starEach [a,b] X.env=(false,eval a X.env)::starEach [b] X.env)(hs2:starEach [b] X.env=[(false,eval b X.env)]) :
  PE X (.Call (.Name "list" p) [.Call (.Name "zip" p2) [a,b] [] pos2] [] pos) (tLz X.K ta tb):=by
 intro pq s O H Q I h;refine ę<|Fo I hg hm Į ?_ (by decide)<|by decide
 refine Ĕ ?_ rfl rfl;show wpAny _ _ (spliced<|(false,eval (.Call (.Name "zip" p2) [a,b] [] pos2) X.env)::backTo pos (starEach [] X.env)) _ _ s;refine Ŷ<|ę<|Fo I hg2 hm2 boot_zip ?_ (by decide)<|by decide
 refine Ĕ (AX (EB ha (EB hb FQ hs2) hs pos2 pq s O H (U7 X.K Q) I h) λus s1 zz=>?_) hs (by rw[hs2];rfl)
 let(vs,H1,I1,r1,q1):=zz;let(l1,l2,xs,ys,rfl,hq,hq2,q):=q1;let(u,u2,rfl,ru,ru2):=G6 r1;cases ru;cases ru2;let(its,rv,pl,hz):=I1.list hq;let(its2,rv2,pl2,hz2):=I1.list hq2;have llt:l1<s1.heap.objs.size:=by let(o,n,e,_):=pl;exact Ä e
 have llt2:l2<s1.heap.objs.size:=by let(o,n,e,_):=pl2;exact Ä e
 refine call_zip_2 pl.isList pl2.isList λh' a1 a2 a3 a4 a5 a6 hk=>Α ?_
 have I2:Inv X pq O H1 { s1 with heap:=h',toks:=s1.toks }:=I1.kept hk
 have n1:∀k,l1≠s1.heap.objs.size+k:=λk z=>Þ _<|Û llt<|z▸č _ _
 have n2:∀k,l2≠s1.heap.objs.size+k:=λk z=>Þ _<|Û llt2<|z▸č _ _
 have D:ZipApart (s1.heap.objs.size+4) (s1.heap.objs.size+2) (s1.heap.objs.size+3) s1.heap.objs.size (s1.heap.objs.size+1) l1 l2:=by
  refine{?_,?_,?_,?_,?_,?_,?_,?_,?_,?_,n1 4,n1 3,n1 0,n1 1,n2 4,n2 3,n2 0,n2 1}<;>intro z<;>simp at z
 refine zj6 (I2.ok.hd hc) D hq hq2 I2 {a1,a2,{_,_,a3},a4,a5} (λb hb=>?_) λs' Hh ps S I' hn G e=>{.ref S,_,I',rfl,q Hh ps S hn G e}
 have hb':s1.heap.objs.size<=b:=by grind
 exact I1.fpOk hb'<|I1.hok.fresh hb'
def IG:T->Option (kL)
 |.nd o k l=>if GS (.nd o k l) && A6 l then ↑l else none
 |_=>none
def Ju(m n:AH):AH:=λY=>match m Y with
 |some (.v t _)=>(match n Y with
  |some (.v u _)=>(match IG t with
   |some l=>(match IG u with
    |some r=>↑(.v (.own<|DI l r) false)|none=>none)
   |none=>none)
  |r=>r)
 |r=>r
def aA{K}{F H:Hp}{R:Nat->Rg}{t:T}{b:Bool}{x:V}{B:Rg}{l:kL}(s:A4 F H)(g:Dh K F H R t b x B)(h:IG t=↑l):∃p xs,x=.ref p/\AZ K H p xs/\Ah K F l xs:=by
 have g':∃B',Rp K F H t x B':=by
  cases b with
  |true=>exact g.2.elim λA z=>{(A),z.2}|false=>exact{_,g}
 let(B',g'):=g';cases t with
 |nd o k l'=>
  change (if (GS (.nd o k l') && A6 l')=true then ↑l' else none)=↑l at h
  by_cases h1:(GS (.nd o k l') && A6 l')=true
  .rw[if_pos h1]at h;cases h;rw[È]at h1;cases g' with
   |shr n e c=>
    refine{_,_,rfl,?_,e,λi t x h2 h3=>(c i t x h2 h3).any}
    cases k with
    |lst=>exact AZ.of (s _ _ n)|rl=>exact Fg n.l s|pin q=>exact AZ.of (s _ _ n)|tup=>cases h1.1|rt=>cases h1.1
   |own hk R' f n e c d dp o=>
    refine{_,_,rfl,?_,e,λi t x h2 h3=>?_}
    .cases k with
     |lst=>exact AZ.of n|pin q=>exact AZ.of n|rl=>exact hk.elim|tup=>cases h1.1|rt=>cases h1.1
    .have r:=c i t x h2 h3;have e0:=r.r0<|zjg h1.2 h2;rw[e0]at r;exact r.any
  grind
 |_=>cases h
def r_lz{E:L2.St->XK}{ca:Str->Value}{m n:AH}{a b:Expr}{p p2 pos pos2:Pos}(hc:X.calm=true)(hg:Gl X "list")(hm:X.mg "list"=none)(hg2:Gl X "zip")(hm2:X.mg "zip"=none)(ha:PE X a<|tM X.K E ca m)(hb:PE X b<|tM X.K E ca n)(hs:starEach [a,b] X.env=(false,eval a X.env)::starEach [b] X.env)(hs2:starEach [b] X.env=[(false,eval b X.env)]) :
  PE X (.Call (.Name "list" p) [.Call (.Name "zip" p2) [a,b] [] pos2] [] pos) (tM X.K E ca<|Ju m n):=by
 refine PE.weak (pe_lz hc hg hm hg2 hm2 ha hb hs hs2) λO H Q h=>?_
 let(F,Y,R,S,q):=h;refine{F,Y,R,S,?_};unfold Ju at q;cases h1:m Y with
 |none=>rw[h1]at q;symm|some r=>
  rw[h1]at q;cases r with
  |x c=>exact q|v t b1=>
   intro F1 H1 x B e1 g1;have e1':Ext F H F1 H1 R0:=e1.mono λ_ z=>z.elim
   refine{F1,Y,R,S.ext e1',?_};cases h2:n Y with
   |none=>erw[h2]at q<;>symm|some r=>
    erw[h2]at q;cases r with
    |x c=>exact λF2 H2 e2=>q F2 H2 (e1'.trans0 e2)|v u b2=>
     simp only at q;cases h3:IG t with
     |none=>erw[h3]at q<;>symm|some l=>
      cases h4:IG u with
      |none=>erw[h3,h4]at q<;>symm|some r=>
       erw[h3,h4]at q;intro F2 H2 y B2 e2 g2;have e2':Ext F1 H1 F2 H2 R0:=e2.mono λ_ z=>z.elim
       let(a1,xs,rfl,s1,k1):=aA e1.fh g1 h3;let(a2,ys,rfl,s2,k2):=aA e2.fh g2 h4;refine{a1,a2,xs,ys,rfl,Fg s1 e2.hh,s2,λHh ps S' hS G el=>?_}
       have k1':=k1.same e2.ff;have nF:∀a,a∈ps->F2 a=none:=λa ha=>GJ e2.fh<|G.new a ha
       have s3:A4 F2 Hh:=e2.fh.trans G.same
       have e3:Ext F2 H2 (frz F2 Hh (·∈ps)) Hh R0:={G.same,Ed nF,Hk s3,λ_ z=>z.elim,λb u e=>by
        by_cases hb:b∈ps
        .exact .inr<|G.new b hb
        .rw[Ec (A:=(·∈ps)) hb]at e;exact .inl e}
       have hro:RpO X.K (frz F2 Hh (·∈ps)) Hh (DI l r) (ps.map V.ref)<|λ_=>R0:=by
        refine{by simp[DI,el,k1'.1,k2.1],λj t x g1 g2=>?_,λ_ _ _ _ z=>z.elim,λ_ _ z=>z.elim}
        rw[Ë]at g2;let(pj,g3,rfl):=Ö.mp g2;let(x,y,y1,y2,y3):=G.at' j pj g3;unfold DI at g1;rw[ň]at g1;cases gl:l[j]? with
        |none=>rw[gl]at g1;cases g1|some lt=>
         cases gr:r[j]? with
         |none=>rw[gl,gr]at g1;cases g1|some rt=>rw[gl,gr]at g1;cases g1;refine Ah.of_node (k:=.tup) (xs:=[x,y]) ?_<|.cons (H:=Hh) ((k1'.same e3.ff).2 j lt x gl y1).any<|.cons (H:=Hh) ((k2.same e3.ff).2 j rt y gr y2).any .nil;show frz F2 Hh (·∈ps) pj=_;rw[EI (A:=(·∈ps))<|ç g3];exact y3
       let(w1,w2):=hro.list e3.fh hS;refine q _ _ (.ref S') _ ((((e1'.trans0 e2').trans0 e3).trans0 w2).mono ?_) w1;rintro x (z|⟨_,z⟩)
       .exact z
       .exact z.elim
end
def B8(b:T->AM->Option AM)(mt me:AH):kL->AM->Option (kL)
 |[],_=>↑[]|t::ts,Y=>(match b t Y with
  |some τ1=>(match mt τ1 with
   |some (.v (.bl true) _)=>(match me τ1 with
    |some (.v v false)=>(match B8 b mt me ts τ1 with
     |some l=>↑(v::l)|none=>none)
    |_=>none)
   |some (.v (.bl false) _)=>B8 b mt me ts τ1|_=>none)
  |none=>none)
def GQ(b:T->AM->Option AM)(mt me:AH):kL->AM->Option Str
 |[],_=>none|t::ts,Y=>(match b t Y with
  |some τ1=>(match mt τ1 with
   |some (.v (.bl true) _)=>(match me τ1 with
    |some (.v _ false)=>GQ b mt me ts τ1|some (.x c)=>↑c|_=>none)
   |some (.v (.bl false) _)=>GQ b mt me ts τ1|some (.x c)=>↑c|_=>none)
  |none=>none)
def Mq(Y:AM)(j:Nat):kH:=match Y[j]? with
 |some ↑t=>if t.sh then ↑t else none
 |_=>none
def blk(n:Nat)(caps:kG)(Y:AM):AM:=List.replicate n none++caps.map (Mq Y)
def T9(O:L2.St)(j:Nat):Option V:=match O[j]? with
 |some ↑v=>↑v|_=>none
def HF(n:Nat)(caps:kG)(O:L2.St):L2.St:=List.replicate n none++caps.map (T9 O)
def BF(n:Nat)(caps:kG)(mi:As)(b:T->AM->Option AM)(mt me:AH):AH:=λY=>match mi Y with
 |some (.v ts _)=>if ts.length<=BS then (match B8 b mt me ts (blk n caps Y) with
  |some l=>↑(.v (.own l) false)|none=>(match GQ b mt me ts (blk n caps Y) with
   |some c=>↑(.x c)|none=>none)) else none
 |some (.x c)=>↑(.x c)|none=>none
def zq3{K}(S:StR K F H O Y R)(n:Nat)(caps):StR K F H (HF n caps O) (blk n caps Y)<|λ_=>R0:=by
 refine{S.fh,by simp[HF,blk],λi t e=>?_,λ_ _ z=>z.elim,λ_ _ _ _ z=>z.elim}
 unfold blk at e;unfold HF
 by_cases hi:i<n
 .rw[ú (by simpa using hi),Ť,if_pos hi]at e
  cases e
 .rw[Ĝ (by simp;lia),Ë]at e ⊢
  erw[ū]at e ⊢;cases hc:caps[i - n]? with
  |none=>rw[hc]at e;cases e|some j=>
   rw[hc]at e;erw[ċ]at e ⊢;have e':Mq Y j=↑t:=Ý e;unfold Mq at e';split at e'
   .rename_i t' ht;split at e'
    .cases e';rename_i hs;let(x,ex,r):=S.rep j _ ht;refine{x,?_,r.move hs<|.refl _};unfold T9;rw[ex]
    .cases e'
   .cases e'
def Vq{l:kL}(h:tot (λj=>if j=l.length then B else Rr j) a):tot Rr a\/B a:=by
 let(j,z):=h
 by_cases hj:j=l.length
 .grind
 .erw[hj]at z;exact .inl {(j),z}
section
variable {X:Cx}{E:L2.St->XK}{ca:Str->Value}{O:L2.St}{H:Hp}{K:k6}{n:Nat}{caps:kG}{mi:As}{b:T->AM->Option AM}{mt me:AH}
def zf9(h:B8 b mt me (t::us) τ1=↑l2):∃τ2,b t τ1=↑τ2/\((∃bt,mt τ2=↑(.v (.bl false) bt)/\B8 b mt me us τ2=↑l2)\/∃bt w l3,mt τ2=↑(.v (.bl true) bt)/\me τ2=↑(.v w false)/\B8 b mt me us τ2=↑l3/\l2=w::l3):=by
 unfold B8 at h;split at h
 .rename_i τ2 hb;refine{τ2,hb,?_};split at h
  .rename_i bt ht;split at h
   .rename_i w hw;split at h
    .rename_i l3 h3;cases h;exact .inr {(bt),w,l3,ht,hw,h3,rfl}
    .cases h
   .cases h
  .rename_i bt ht;exact .inl {(bt),ht,h}
  .cases h
 .cases h
def zho(h:GQ b mt me (t::us) τ1=↑c):∃τ2,b t τ1=↑τ2/\((∃bt,mt τ2=↑(.v (.bl false) bt)/\GQ b mt me us τ2=↑c)\/(∃bt,mt τ2=↑(.v (.bl true) bt)/\((∃w,me τ2=↑(.v w false)/\GQ b mt me us τ2=↑c)\/me τ2=↑(.x c)))\/mt τ2=↑(.x c)):=by
 unfold GQ at h;split at h
 .rename_i τ2 hb;refine{τ2,hb,?_};split at h
  .rename_i bt ht;split at h
   .rename_i w hw;exact .inr<|.inl {bt,ht,.inl {(w),hw,h}}
   .rename_i c' hw;cases h;exact .inr<|.inl {bt,ht,.inr hw}
   .cases h
  .rename_i bt ht;exact .inl {(bt),ht,h}
  .rename_i c' ht;cases h;exact .inr<|.inr ht
  .cases h
 .cases h
def VX(h:tM K E ca (BF n caps mi b mt me) O H Q):L0 (HF n caps) (tI K E ca mi) (E7 K b) (BM K (λ_=>E O) ca mt) (tM K (λ_=>E O) ca me) O H Q:=by
 let(F,Y,R,S,q):=h;refine{F,Y,R,S,?_};unfold BF at q;cases hi:mi Y with
 |none=>erw[hi]at q<;>symm|some r=>
  erw[hi]at q;cases r with
  |x c=>exact q|v ts bb=>
   intro F1 H1 Γ e1 its
   by_cases hz':¬ ts.length<=BS
   .erw[hz',Ã]at q<;>symm
   have hz :=Decidable.not_not.mp hz';erw[hz,Æ]at q
   obtain⟨G,g1,g0,gs⟩:∃G:kL->AM->kL->Prop,(∀t us τ1 l,G (t::us) τ1 l->∃τ2,b t τ1=↑τ2/\((∃bt,mt τ2=↑(.v (.bl false) bt)/\G us τ2 l)\/(∃bt,mt τ2=↑(.v (.bl true) bt)/\((∃w,me τ2=↑(.v w false)/\G us τ2 (l++[w]))\/∃c,me τ2=↑(.x c)/\∀F' H',Ext F H F' H' R0->XE (E O) ca c F' H'))\/∃c,mt τ2=↑(.x c)/\∀F' H',Ext F H F' H' R0->XE (E O) ca c F' H')) /\
     (∀τ1 l,G [] τ1 l->∀F' H' x B,Ext F H F' H' B->Rp K F' H' (.own l) x B->Q x H')/\G ts (blk n caps Y) []:=by
    cases hg:B8 b mt me ts (blk n caps Y) with
    |some res=>
     erw[hg]at q;refine{λus τ1 l=>∃l2,B8 b mt me us τ1=↑l2/\l++l2=res,λt us τ1 l z=>?_,λτ1 l z=>?_,res,hg,rfl}
     .let(l2,z,e):=z;obtain⟨τ2,y,w|⟨bt,w,l3,y1,y2,y3,rfl⟩⟩:=zf9 z
      .let(bt,w1,w2):=w;exact{τ2,y,.inl {(bt),w1,l2,w2,e}}
      .exact{τ2,y,.inr<|.inl {bt,y1,.inl {w,y2,l3,y3,by simpa using e}}}
     .let(l2,z,e):=z;cases z;rw[ā]at e;subst e;exact q
    |none=>
     erw[hg]at q;cases hx:GQ b mt me ts (blk n caps Y) with
     |none=>erw[hx]at q<;>symm|some c=>
      erw[hx]at q;refine{λus τ1 l=>GQ b mt me us τ1=↑c,λt us τ1 l z=>?_,λτ1 l z=>(by cases z),hx}
      obtain⟨τ2,y,w|⟨bt,y1,⟨w,y2,y3⟩|y2⟩|w⟩:=zho z
      .exact{τ2,y,.inl w}
      .exact{τ2,y,.inr<|.inl {bt,y1,.inl {(w),y2,y3}}}
      .exact{τ2,y,.inr<|.inl {bt,y1,.inr {(c),y2,q}}}
      .exact{τ2,y,.inr<|.inr {(c),w,q}}
   have S1:=S.ext e1;refine{λi ys st H'=>∃(F':Hp) (Y':AM) (l:kL) (Rr:Nat->Rg),Ext F1 H1 F' H' (tot Rr)/\RpO K F' H' l ys Rr/\StR K F' H' st Y' (λ_=>R0)/\i<=ts.length/\G (ts.drop i) Y' l/\l.length<=i,ts.length,by rw[<- GO];exact hz,?_,?_}
   .exact{F1,blk n caps Y,[],λ_=>R0,(Ext.refl S1.fh).mono λa ⟨_,z⟩=>z.elim,.nil,zq3 S1 n caps,ô _,gs,Ç _}
   .rintro i ys st H' ⟨F',Y',l,Rr,e2,ro,S2,hle,hgo,hll⟩;have hly:=ro.len;refine{by lia,hle,?_}
    let(i1,i2):=its i F' H' e2.ff e2.fh
    by_cases hlt:i<ts.length
    .refine .inr {hlt,?_};let(go,yld):=i1 _<|Â hlt;refine{go,λx H'' y=>?_}
     let(F'',e3,rx):=yld x H'' y;have S3:=S2.ext e3;rw[Ć hlt]at hgo;let(τ1,hb,hgo):=g1 _ _ _ _ hgo;refine{F'',Y',_,ts[i],τ1,S3,rx,hb,λst1 R1 S4 hR1=>?_}
     have R1e :=funext λj=>funext λa=>propext {λz=>hR1 j a z,λz=>z.elim}
     subst R1e;refine{F'',τ1,_,S4,?_};have eX:∀{c },(∀F' H',Ext F H F' H' R0->XE (E O) ca c F' H')->∀F' H',Ext F'' H'' F' H' R0->XE (E O) ca c F' H':=λz F' H' e=>z F' H'<|((e1.trans0 e2).trans (e3.trans0 e)).mono λ_ z=>z.elim
     rcases hgo with ⟨bt,ht,hgo⟩|⟨bt,ht,hgo⟩|⟨c,ht,hX⟩
     .rw[ht];intro F4 H4 e4;exact KI {F4,τ1,l,Rr,(e2.trans<|(e3.trans0 e4).mono λ_ z=>z).mono λa z=>.inl z,(ro.ext e3).ext e4,S4.ext e4,hlt,hgo,by lia}
     .rw[ht];intro F4 H4 e4;have S5:=S4.ext e4;have e24:=e2.trans<|(e3.trans0 e4).mono λ_ z=>z
      refine KH {F4,τ1,_,S5,?_}
      rcases hgo with ⟨ve,he,hgo⟩|⟨c,he,hX⟩
      .rw[he];intro F5 H5 y B e5 ry;have ry' :=ry;have ro4:=(ro.ext e3).ext e4;have ro5:=ro4.ext e5;refine{F5,τ1,l++[ve],_,(e24.trans e5).mono ?_,ro5.snoc ry'<|λj a z1 z2=>ro4.apart e5 z2 j z1,S5.ext e5,hlt,hgo,by simp;lia}
       intro a z
       rcases Vq z with z|z
       .exact .inl<|.inl z
       .exact .inr z
      .rw[he];exact λF' H' e=>eX hX F' H'<|e4.trans0 e
     .rw[ht];exact eX hX
    .have hi':i=ts.length:=by lia
     subst hi';refine .inl {i2 rfl,λp hp=>?_}
     rw[List.drop_length]at hgo;let(rl,e3):=ro.list e2.fh hp;refine g0 _ _ hgo F' _ _ _ (((e1.trans0 e2).trans e3).mono ?_) rl;rintro a (z|⟨j,z⟩)
     .exact .inr z
     .exact .inl {(j),z}
structure BlkOk(X:Cx)(scope:Scope)(N':kE)(n:Nat)(caps:kG):Prop where
 kind:scope.kind=.function
 names:∀y∈scope.names,y.2=.local->scope.names.lookup y.1=↑.local
 len:N'.length=n+caps.length
 cap:∀(k j:Nat),caps[k]?=↑j->∃y,X.N[j]?=↑y/\N'[n+k]?=↑y/\scope.names.lookup y=↑.free/\(y,NameKind.cell)∉scope.names
 free:∀y∈scope.names,y.2=.free->scope.names.lookup y.1=↑.free/\(X.env.scope.names.lookup y.1=↑.cell\/X.env.scope.names.lookup y.1=↑.free)
theorem SE{env:Env}(y:Str):∀(names:List<|Str×NameKind),(names.map λ(n,k)=>if (k == NameKind.free && env.scope.kind == .function && env.kindOf n == ↑.cell) then (n,NameKind.cell) else (n,k)).lookup y =
  (names.lookup y).map λk=>if (k == NameKind.free && env.scope.kind == .function && env.kindOf y == ↑.cell) then .cell else k
 |[]=>rfl|(n,k)::r=>by
  rw[Ï];cases hy:y == n with
  |true=>
   have e:y=n:=eq_of_beq hy;subst e
   by_cases hc:(k == NameKind.free && env.scope.kind == .function && env.kindOf y == ↑.cell)=true
   .erw[hc,Æ,å,ì,ċ]
   .erw[hc,å,ì,ċ];simp
  |false=>
   by_cases hc:(k == .free && env.scope.kind == .function && env.kindOf n == ↑.cell)=true
   .erw[hc,Æ,å,hy];exact SE y r
   .erw[hc,å,hy];erw[Ā,Ã,å,hy];exact SE y r
theorem QU(scope)(env)(y):(relabel scope env).names.lookup y=(scope.names.lookup y).map λk=>if (k == NameKind.free && env.scope.kind == .function && env.kindOf y == ↑.cell) then .cell else k:=SE y scope.names
def SF:∀{names:List<|Str×NameKind},names.lookup y=↑k->(y,k)∈names:=λh=>ĕ h
def eP(B:BlkOk X scope N' n caps)   (I:Inv X pq O H s) :
  ∃cl,BlkC X scope N' (HF n caps) cl:=by
 let(cl,h1,h2,h3):=zdg scope X.env λy hy hf=>I.ok.has y.1 (B.free y hy hf).2
 have Ft:∀(O ) (i:Nat) (y ) (v ),N'[i]?=↑y->(HF n caps O)[i]?=↑↑v->∃j:Nat,X.N[j]?=↑y/\O[j]?=↑↑v/\scope.names.lookup y=↑.free/\(y,NameKind.cell)∉scope.names:=by
  intro O i y v e1 e2;unfold HF at e2
  by_cases hi:i<n
  .rw[ú (by simpa using hi),Ť,if_pos hi]at e2
   cases e2
  .rw[Ĝ (by simp;lia),Ë]at e2
   erw[ū]at e2;cases hc:caps[i - n]? with
   |none=>rw[hc]at e2;cases e2|some j=>
    rw[hc]at e2;erw[ċ]at e2;have e' :=Ý e2;let(y',g1,g2,g3,g4):=B.cap (i - n) j hc;have en:n+(i - n)=i:=by lia
    rw[en,e1]at g2;cases g2
    have sv :=by
     unfold T9 at e';split at e'
     .rename_i v' hv;cases e';exact hv
     .cases e'
    exact{(j),g1,sv,g3,g4}
 refine{cl,h1,B.kind,B.names,h2,λy hy=>?_,λO i y v e1 e2=>?_,λO hσ=>by simp[HF,B.len],λO i y v e1 e2=>?_}
 .cases hk:scope.names.lookup y with
  |none=>
   rw[QU,hk]at hy
   rcases hy with hy|hy<;>cases hy
  |some k=>
   by_cases hf:k=.free
   .subst hf;exact .inr<|h3 _ (SF hk) rfl
   .rw[QU,hk]at hy;erw[ċ]at hy;have hf' :=beq_eq_false_iff_ne.mpr hf;erw[hf',Ŵ,Ā,Ã]at hy
    rcases hy with hy|hy
    .cases hy;exact .inl<|SF hk
    .cases hy;exact absurd rfl hf
 .exact(Ft O i y v e1 e2).choose_spec.2.2.2
 .let(j,g1,sv,g3,g4):=Ft O i y v e1 e2;have fr:=B.free _ (SF g3) rfl;refine{?_,j,g1,sv,?_,?_}
  .rw[QU,g3];erw[ċ]
   by_cases hc2:(NameKind.free == NameKind.free && X.env.scope.kind == .function && X.env.kindOf y == ↑.cell)=true
   .exact .inl<|by rw[if_pos hc2]
   .exact .inr<|by rw[if_neg hc2]
  .rcases fr.2 with z|z
   .exact .inr<|.inl z
   .exact .inr<|.inr z
  .intro z;have z':X.env.scope.names.lookup y=↑.local:=z
   rcases fr.2 with w|w
   .rw[z']at w;cases w
   .rw[z']at w;cases w
def r_lcV(B:BlkOk X scope N' n caps)(hc:∀pq O H s cl C ex xb,Inv X pq O H s->cq (Dg X scope cl N' C s H ex xb))(hi:PJ cq X tg iter<|tI X.K E ca mi)
  (hps:Cy X E) (hst:Hv X) (hg:∀E',AC X scope N' E' λτ=>PG τ tg (E7 X.K b)/\HI τ ifs (BM X.K E' ca mt)/\PE τ elt (tM X.K E' ca me))
  (hs:∀x,foldedSetIterable iter X.env x=pure x):PE X (.ListComp elt [{tg,iter,ifs,0}] scope pos)<|tM X.K E ca<|BF n caps mi b mt me:=by
 intro pq s O H Q I h;let(cl,L):=eP B I;exact zp3 L hc hi hps hst (hg _) hs I<|VX h
def r_lcS(B:BlkOk X scope N' n caps)(hc:X.calm=true)(hi:PI X tg iter<|tI X.K E ca mi)
  (hps:Cy X E) (hst:Hv X) (hg:∀E',AC X scope N' E' λτ=>PG τ tg (E7 X.K b)/\HI τ ifs (BM X.K E' ca mt)/\PE τ elt (tM X.K E' ca me))
  (hs:∀x,foldedSetIterable iter X.env x=pure x)  {x:Str} (hN:X.N.Nodup) (hix:X.N[i]?=↑x) (hx:X.env.scope.names.lookup x=↑.local)
  (hsw:swapsWith (.ListComp elt [{tg,iter,ifs,0}] scope pos) (↑(.Name x pos')) pos2.line X.env=pure true):PS X (.Assign [.Name x pos'] (.ListComp elt [{tg,iter,ifs,0}] scope pos) pos2)<|λD O H=>tM X.K E ca (BF n caps mi b mt me) O H λv H1=>D.nx (O.set i ↑v) H1:=by
 intro pq s O H D I h;let(cl,L):=eP B I;exact zp4 L hc hi hps hst (hg _) hs hN hix hx hsw I<|VX h
variable {m mk mv:AH}{o k v:Expr}{pos p p2 ap cp:Pos}{elts:kC}{kk:Nat}{tpos:Pos}
end
set_option genInjectivity true in
inductive Out where
 |nx (Y:AM)|rt (t:T)|bk (Y:AM)|ct (Y:AM)|xc (c:Str) (Y:AM)
abbrev AG:=AM->Option Out
structure Stp(F H:Hp)(σ:Rg)(F' H':Hp)(σ':Rg):Prop where
 ff:A4 F F'
 fh:A4 F' H'
 kp:∀b u,¬ σ b->H b=↑u->H' b=↑u
 nw:∀b,σ' b->σ b\/H b=none
 nf:∀b u,F' b=↑u->F b=↑u\/σ b\/H b=none
section
variable {F H F1 H1 F2 H2:Hp}{σ σ1 σ2 B:Rg}{R:Nat->Rg}
theorem Stp.refl(s:A4 F H):Stp F H σ F H σ:={.refl _,s,λ_ _ _ e=>e,λ_ z=>.inl z,λ_ _ e=>.inl e}
theorem Stp.trans(a:Stp F H σ F1 H1 σ1)(b:Stp F1 H1 σ1 F2 H2 σ2):Stp F H σ F2 H2 σ2 where
 ff:=a.ff.trans b.ff
 fh:=b.fh
 kp:=λx u n e=>b.kp x u (λz=>(a.nw x z).elim n λw=>by grind) (a.kp x u n e)
 nw:=λx z=>(b.nw x z).elim (a.nw x) λw=>by
  by_cases hO:σ x
  .exact .inl hO
  .cases e:H x with
   |none=>simp|some u=>rw[a.kp x u hO e]at w;cases w
 nf:=λx u e=>(b.nf x u e).elim (a.nf x u) λz=>.inr (z.elim (a.nw x) λw=>by
  by_cases hO:σ x
  .exact .inl hO
  .cases e':H x with
   |none=>simp|some u'=>rw[a.kp x u' hO e']at w;cases w)
theorem Stp.mono(a:Stp F H σ F1 H1 σ1)(h:∀x,σ2 x->σ1 x):Stp F H σ F1 H1 σ2:={a.ff,a.fh,a.kp,λx z=>a.nw x<|h x z,a.nf}
theorem Ext.stp(e:Ext F H F1 H1 B):Stp F H σ F1 H1<|λx=>σ x\/B x:={e.ff,e.fh,λb u _ q=>e.hh b u q,λb z=>z.elim .inl λz=>.inr<|e.nb b z,λb u q=>(e.nf b u q).elim .inl λz=>.inr<|.inr z}
theorem Ext.stp0(e:Ext F H F1 H1 B):Stp F H σ F1 H1 σ:=e.stp.mono λ_ z=>.inl z
end
section
def Wr(K:k6)(mu:Bool)(F H:Hp)(t:T)(x:V)(B:Rg):Prop:=match mu with
 |false=>Rp K F H t x B|true=>∃v q l,t=.own [v,.nd true (.pin q) l]/\v.flat=true/\Rp K F H v x R0/\Rp K F H (.nd true (.pin q) l) (.ref q) B
def pS(K:k6)(E:L2.St->XK)(ca:Str->Value)(mu:Bool)(D:Ends)(F H:Hp)(R:Nat->Rg):Option Out->Prop
 |some (.nx Y')=>∀F' H' O' R',Stp F H (tot R) F' H' (tot R')->StR K F' H' O' Y' R'->D.nx O' H'|some (.bk Y')=>∀F' H' O' R',Stp F H (tot R) F' H' (tot R')->StR K F' H' O' Y' R'->D.bk O' H'|some (.ct Y')=>∀F' H' O' R',Stp F H (tot R) F' H' (tot R')->StR K F' H' O' Y' R'->D.ct O' H'|some (.rt t)=>∀F' H' x B,Stp F H (tot R) F' H' B->Wr K mu F' H' t x B->D.rt x H'|some (.xc c Y')=>∀F' H' O' R',Stp F H (tot R) F' H' (tot R')->StR K F' H' O' Y' R'->XE (E O') ca c F' H'|none=>False
def tS(K:k6)(E:L2.St->XK)(ca:Str->Value)(mu:Bool)(m:AG):TS:=λD O H=>∃F Y R,StR K F H O Y R/\pS K E ca mu D F H R (m Y)
end
def AF(m n:AG):AG:=λY=>match m Y with
 |some (.nx Y')=>n Y'|r=>r
def A8:AG:=λY=>↑(.nx Y)
def Lk:AG:=λ_=>none
def Ll:AG:=λY=>↑(.bk Y)
def WH:AG:=λY=>↑(.ct Y)
def HS(m:AH):AG:=λY=>match m Y with
 |some (.v _ _)=>↑(.nx Y)|some (.x c)=>↑(.xc c Y)|none=>none
def AQ(m:AH):AG:=λY=>match m Y with
 |some (.v t _)=>↑(.rt t)|some (.x c)=>↑(.xc c Y)|none=>none
def QC:AG:=λ_=>↑(.rt .non)
def AO(m:AH)(b:T->AM->Option AM):AG:=λY=>match m Y with
 |some (.v t false)=>(match b t.share Y with
  |some Y'=>↑(.nx Y')|none=>none)
 |some (.v _ true)=>none|some (.x c)=>↑(.xc c Y)|none=>none
def C0(i:Nat)(m:AH):AG:=λY=>match m Y with
 |some (.v t false)=>if i<Y.length then ↑(.nx<|Y.set i ↑t) else none
 |some (.v _ true)=>none|some (.x c)=>↑(.xc c Y)|none=>none
def E9(i:Nat):AG:=λY=>match Y[i]? with
 |some ↑t=>↑(.nx<|Y.set i ↑t.share)|_=>↑(.nx Y)
def Ab(c:AH)(a b:AG):AG:=λY=>match c Y with
 |some (.v (.bl true) _)=>a Y|some (.v (.bl false) _)=>b Y|some (.x c)=>↑(.xc c Y)|_=>none
def Aj(b:T->AM->Option AM)(body:AG):kL->AG
 |[],Y=>↑(.nx Y)|t::ts,Y=>(match b t Y with
  |some τ1=>(match body τ1 with
   |some (.nx τ2)=>Aj b body ts τ2|some (.ct τ2)=>Aj b body ts τ2|some (.bk τ2)=>↑(.nx τ2)|r=>r)
  |none=>none)
def B7(mi:As)(b:T->AM->Option AM)(body:AG):AG:=λY=>match mi Y with
 |some (.v ts _)=>Aj b body ts Y|some (.x c)=>↑(.xc c Y)|none=>none
def DJ(c:AH)(body:AG):Nat->AG
 |0,_=>none|n+1,Y=>(match c Y with
  |some (.v (.bl true) _)=>(match body Y with
   |some (.nx τ2)=>DJ c body n τ2|some (.ct τ2)=>DJ c body n τ2|some (.bk τ2)=>↑(.nx τ2)|r=>r)
  |some (.v (.bl false) _)=>↑(.nx Y)|some (.x c)=>↑(.xc c Y)|_=>none)
open Classical in
def Fi(c:AH)(body:AG):AG:=λY=>if h:∃n,(DJ c body n Y).isSome=true then DJ c body h.choose Y else none
def zgw(h:Fi c body Y=↑o):∃n,DJ c body n Y=↑o:=by
 unfold Fi at h;split at h
 .grind
 .cases h
def Nr:∀{n} {Y} {o},DJ c body n Y=↑o->DJ c body (n+1) Y=↑o
 |0,Y,o,h=>by cases h|n+1,Y,o,h=>by
  unfold DJ at h ⊢;split at h
  .split at h
   .exact Nr h
   .exact Nr h
   .exact h
   .exact h
  .exact h
  .exact h
  .cases h
def Ul(h:DJ c body n Y=↑o)(hm:n<=m):DJ c body m Y=↑o:=by
 induction hm with
 |refl=>exact h|step _ ih=>exact Nr ih
def zn6(h:DJ c body n Y=↑o):Fi c body Y=↑o:=by
 unfold Fi;have hx:∃n,(DJ c body n Y).isSome=true:={n,by rw[h];rfl}
 let(o',e):=Ņ.mp hx.choose_spec;have e1:=Ul e<|Nat.le_max_left hx.choose n;have e2:=Ul h<|Nat.le_max_right hx.choose n
 grind
section
variable {mu:Bool}{X:Cx}{E:L2.St->XK}{ca:Str->Value}{O:L2.St}{H:Hp}{K:k6}{m mk mc:AH}{ms mi:As}{b:T->AM->Option AM}{u w:AG}{D:Ends}{e c tg iter:Expr}{st:Stmt}{rest body sa sb:kD}{pos pos':Pos}
theorem PS.weak(h:PS X st t)(w:∀D O H,t' D O H->t D O H):PS X st t':=λpq s O H D I q=>h pq s O H D I<|w D O H q
theorem B5.weak(h:B5 X rest t)(w:∀D O H,t' D O H->t D O H):B5 X rest t':=λpq s O H D I q=>h pq s O H D I<|w D O H q
def zmj(h:tS K E ca mu (AF u w) D O H):VN (tS K E ca mu u) (tS K E ca mu w) D O H:=by
 let(F,Y,R,S,q):=h;refine{F,Y,R,S,?_};unfold AF at q;cases hm:u Y with
 |none=>erw[hm]at q<;>symm|some o=>
  erw[hm]at q;cases o with
  |nx Y'=>
   intro F1 H1 O1 R1 s1 S1;refine{F1,Y',R1,S1,?_};cases hw:w Y' with
   |none=>erw[hw]at q<;>symm|some o=>
    erw[hw]at q;cases o with
    |nx _=>exact λF' H' O' R' s S=>q F' H' O' R' (s1.trans s) S|bk _=>exact λF' H' O' R' s S=>q F' H' O' R' (s1.trans s) S|ct _=>exact λF' H' O' R' s S=>q F' H' O' R' (s1.trans s) S|rt _=>exact λF' H' x B s r=>q F' H' x B (s1.trans s) r|xc _ _=>exact λF' H' O' R' s S=>q F' H' O' R' (s1.trans s) S
  |rt _=>exact q|bk _=>exact q|ct _=>exact q|xc _ _=>exact q
theorem s_nil:B5 X []<|tS X.K E ca mu A8:=B5.weak zk7 λD O H h=>by
 let(F,Y,R,S,q):=h;exact q F H O R (Stp.refl S.fh) S
theorem WC(h1:PS X st<|tS X.K E ca mu u)(h2:B5 X rest<|tS X.K E ca mu w):B5 X (st::rest)<|tS X.K E ca mu<|AF u w:=B5.weak (zh7 h1 h2) λD O H h=>zmj h
theorem Vy(h1:PS X st<|tS X.K E ca mu u):B5 X [st]<|tS X.K E ca mu u:=zk6 h1
theorem Vz:PS X st<|tS X.K E ca mu Lk:=λpq s O H D I h=>by
 let(_,_,_,_,q):=h;symm
theorem zn1:PS X (.Pass pos)<|tS X.K E ca mu A8:=PS.weak zk8 λD O H h=>by
 let(F,Y,R,S,q):=h;exact q F H O R (Stp.refl S.fh) S
theorem zjn:PS X (.Break pos)<|tS X.K E ca mu Ll:=PS.weak zha λD O H h=>by
 let(F,Y,R,S,q):=h;exact q F H O R (Stp.refl S.fh) S
theorem zdy:PS X (.Continue pos)<|tS X.K E ca mu WH:=PS.weak zd1 λD O H h=>by
 let(F,Y,R,S,q):=h;exact q F H O R (Stp.refl S.fh) S
def zmk(h:tS K E ca mu (AF (E9 i) w) D O H):tS K E ca mu w D O H:=by
 let(F,Y,R,S,q):=h;unfold AF E9 at q;cases ht:Y[i]? with
 |none=>rw[ht]at q;exact{(F),Y,R,S,q}|some ot=>
  rw[ht]at q;cases ot with
  |none=>exact{(F),Y,R,S,q}|some t=>
   simp only at q;let(x,ex,r):=S.rep i t ht;have hi :=(Ñ.mp ht).1;have n:∀a,R i a->F a=none:=λa z=>(r.dom z).1
   have S0:StR K (frz F H<|R i) H O (Y.set i ↑t.share) (λj=>if j=i then R0 else R j):=by
    refine{Hk S.fh,by simpa using S.len,λj t' e=>?_,λj a z=>?_,λj k a hjk z1 z2=>?_}
    .by_cases hj:j=i
     .subst hj;rw[é hi]at e;cases e;exact{x,ex,by simpa using r.share (Ed n) λa u z q=>by rw[EI z];exact q}
     .rw[æ<|Î hj]at e;let(y,e1,r1):=S.rep j t' e;refine{y,e1,?_};erw[hj,Ã]
      exact r1.frame (Ed n) λa z=>{rfl,by
       rw[Ec<|λz'=>S.dis j i a hj z z']
       exact(r1.dom z).1}
    .by_cases hj:j=i
     .erw[hj,Æ]at z;exact z.elim
     .erw[hj,Ã]at z;let(t',e):=S.out j a z;exact{t',by rw[æ<|Î hj];exact e}
    .by_cases hj:j=i
     .erw[hj,Æ]at z1;exact z1.elim
     .by_cases hk:k=i
      .erw[hk,Æ]at z2;exact z2.elim
      .erw[hj,Ã]at z1;erw[hk,Ã]at z2;exact S.dis j k a hjk z1 z2
   have st0:Stp F H (tot R) (frz F H<|R i) H (tot λj=>if j=i then R0 else R j):=by
    refine{Ed n,Hk S.fh,λ_ _ _ e=>e,λb ⟨j,z⟩=>?_,λb u e=>?_}
    .by_cases hj:j=i
     .erw[hj,Æ]at z;exact z.elim
     .erw[hj,Ã]at z;exact .inl {(j),z}
    .by_cases hb:R i b
     .exact .inr<|.inl {(i),hb}
     .rw[Ec hb]at e;exact .inl e
   refine{_,_,_,S0,?_};cases hw:w (Y.set i ↑t.share) with
   |none=>erw[hw]at q<;>symm|some o=>
    erw[hw]at q;cases o with
    |nx _=>exact λF' H' O' R' s S=>q F' H' O' R' (st0.trans s) S|bk _=>exact λF' H' O' R' s S=>q F' H' O' R' (st0.trans s) S|ct _=>exact λF' H' O' R' s S=>q F' H' O' R' (st0.trans s) S|rt _=>exact λF' H' x B s r=>q F' H' x B (st0.trans s) r|xc _ _=>exact λF' H' O' R' s S=>q F' H' O' R' (st0.trans s) S
theorem s_frz(h:B5 X rest<|tS X.K E ca mu w):B5 X rest<|tS X.K E ca mu<|AF (E9 i) w:=B5.weak h λD O H h=>zmk h
def s_exp(he:PE X e<|tM X.K E ca m)(hs:swapsWith e none pos.line X.env=pure false):PS X (.Expr e pos)<|tS X.K E ca mu<|HS m:=by
 refine PS.weak (Q8 he hs) λD O H h=>?_
 let(F,Y,R,S,q):=h;refine{F,Y,R,S,?_};unfold HS at q;cases hm:m Y with
 |none=>erw[hm]at q<;>symm|some r=>
  erw[hm]at q;cases r with
  |x c=>exact λF' H' e=>q F' H' O R e.stp0 (S.ext e)|v t bb=>exact λF' H' x B e g=>q F' H' O R e.stp0<|S.ext e
def s_ret(he:PE X e<|tM X.K E ca m):PS X (.Return ↑e pos)<|tS X.K E ca false<|AQ m:=by
 refine PS.weak (Wp he) λD O H h=>?_
 let(F,Y,R,S,q):=h;refine{F,Y,R,S,?_};unfold AQ at q;cases hm:m Y with
 |none=>erw[hm]at q<;>symm|some r=>
  erw[hm]at q;cases r with
  |x c=>exact λF' H' e=>q F' H' O R e.stp0 (S.ext e)|v t bb=>
   intro F' H' x B e g;cases bb with
   |false=>exact q F' H' x B (e.stp.mono λ_ z=>.inr z) g|true=>let(_,A,hA,r):=g;exact q F' H' x A (e.stp.mono λa z=>.inl<|hA a z) r
theorem zmz:PS X (.Return none pos)<|tS X.K E ca false QC:=PS.weak Wo λD O H h=>by
 let(F,Y,R,S,q):=h;exact q F H .non R0 ((Stp.refl S.fh).mono λ_ z=>z.elim) .non
def s_if(hc:PT X c<|BM X.K E ca mc)(ha:B5 X sa<|tS X.K E ca mu u)(hb:B5 X sb<|tS X.K E ca mu w):PS X (.If c sa sb pos)<|tS X.K E ca mu<|Ab mc u w:=by
 refine PS.weak (Q7 hc ha hb) λD O H h=>?_
 let(F,Y,R,S,q):=h;refine{F,Y,R,S,?_};unfold Ab at q;cases hm:mc Y with
 |none=>erw[hm]at q<;>symm|some r=>
  erw[hm]at q;cases r with
  |x c=>exact λF' H' e=>q F' H' O R e.stp0 (S.ext e)|v t bb=>
   cases t with
   |bl k=>
    intro F1 H1 e1;have S1:=S.ext e1
    have key:∀{mm },(match mm Y with
      |some (.nx Y')=>∀F' H' O' R',Stp F H (tot R) F' H' (tot R')->StR X.K F' H' O' Y' R'->D.nx O' H'|some (.bk Y')=>∀F' H' O' R',Stp F H (tot R) F' H' (tot R')->StR X.K F' H' O' Y' R'->D.bk O' H'|some (.ct Y')=>∀F' H' O' R',Stp F H (tot R) F' H' (tot R')->StR X.K F' H' O' Y' R'->D.ct O' H'|some (.rt t)=>∀F' H' x B,Stp F H (tot R) F' H' B->Wr X.K mu F' H' t x B->D.rt x H'|some (.xc c Y')=>∀F' H' O' R',Stp F H (tot R) F' H' (tot R')->StR X.K F' H' O' Y' R'->XE (E O') ca c F' H'|none=>False)->tS X.K E ca mu mm D O H1:=λ{mm} q=>by
     refine{F1,Y,R,S1,?_};cases hr:mm Y with
     |none=>erw[hr]at q<;>symm|some o=>
      erw[hr]at q;cases o with
      |nx _=>exact λF' H' O' R' s S=>q F' H' O' R' (e1.stp0.trans s) S|bk _=>exact λF' H' O' R' s S=>q F' H' O' R' (e1.stp0.trans s) S|ct _=>exact λF' H' O' R' s S=>q F' H' O' R' (e1.stp0.trans s) S|rt _=>exact λF' H' x B s r=>q F' H' x B (e1.stp0.trans s) r|xc _ _=>exact λF' H' O' R' s S=>q F' H' O' R' (e1.stp0.trans s) S
    cases k with
    |true=>exact KH (key q)|false=>exact KI<|key q
   |_=>symm
def OP(hg:∀v O H Q,E7 K b v O H Q->g v O H Q)(h:tS K E ca mu (AO m b) D O H):G8 (tM K E ca m) g D O H:=by
 let(F,Y,R,S,q):=h;refine{F,Y,R,S,?_};unfold AO at q;cases hm:m Y with
 |none=>erw[hm]at q<;>symm|some r=>
  erw[hm]at q;cases r with
  |x c=>exact λF' H' e=>q F' H' O R e.stp0 (S.ext e)|v t bb=>
   cases bb with
   |true=>symm|false=>
    intro F1 H1 x B e1 g1;let(F2,e2,_,r2):=Dh.frz S e1 g1;cases hb:b t.share Y with
    |none=>erw[hb]at q<;>symm|some Y'=>
     erw[hb]at q;refine hg _ _ _ _ {F2,Y,R,t.share,Y',S.ext e2,(r2).any,hb,λO' R' S' hR=>?_}
     exact q F2 H1 O' R' (e2.stp0.mono λa ⟨i,z⟩=>{i,hR i a z}) S'
def aG(h:E7 K (AD i) v O H Q):GU i v O H Q:=by
 let(F,Y,R,t,Y',S,r,e,q):=h;unfold AD at e;split at e
 .cases e;rename_i hl;refine q _ _ (S.set r (λ_ _ _ _ z=>z.elim) hl) λj a z=>?_
  by_cases hj:j=i
  .erw[hj]at z;exact z.elim
  grind
 .cases e
theorem zmx(hN:X.N.Nodup)(hi:X.N[i]?=↑x)(hx:HJ X.env.scope x)(he:PE X e<|tM X.K E ca m)(hs:swapsWith e (↑(.Name x pos')) pos.line X.env=pure false)(hf:X.fn x=true\/X.env.scope.names.lookup x=↑.local) :
  PS X (.Assign [.Name x pos'] e pos) (tS X.K E ca mu<|AO m<|AD i):=PS.weak (Wn hN hi hx he hs hf) λD O H h=>OP (λ_ _ _ _ z=>aG z) h
theorem zmy(he:PE X e<|tM X.K E ca m)(hg:PG X tg<|E7 X.K b)(hs:swapsWithSole [tg] e pos.line X.env=pure false)(hw:swappedStores [tg] e X.env=pure none)(h1:(assignEach [tg] X.env).map (·.2)=[assign tg X.env]) :
  PS X (.Assign [tg] e pos) (tS X.K E ca mu<|AO m b):=PS.weak (Lx he hg hs hw h1) λD O H h=>OP (λ_ _ _ _ z=>z) h
def VO(h:tS K E ca mu (C0 i m) D O H):G8 (tM K E ca m) (GU i) D O H:=by
 let(F,Y,R,S,q):=h;refine{F,Y,R,S,?_};unfold C0 at q;cases hm:m Y with
 |none=>erw[hm]at q<;>symm|some r=>
  erw[hm]at q;cases r with
  |x c=>exact λF' H' e=>q F' H' O R e.stp0 (S.ext e)|v t bb=>
   cases bb with
   |true=>symm|false=>
    intro F1 H1 x B e1 g1;have g1' :=g1;have S1:=S.ext e1
    by_cases hl:i<Y.length
    .erw[hl]at q;refine q F1 H1 _ _ (e1.stp.mono ?_)<|S1.set g1' (λj a _ z1 z2=>S.apart e1 z2 j z1) hl
     rintro a ⟨j,z⟩
     by_cases hj:j=i
     .grind
     .erw[hj]at z;exact .inl {(j),z}
    .erw[hl]at q<;>symm
theorem zn2(hN:X.N.Nodup)(hi:X.N[i]?=↑x)(hx:HJ X.env.scope x)(he:PE X e<|tM X.K E ca m)(hs:swapsWith e (↑(.Name x pos')) pos.line X.env=pure false)(hf:X.fn x=true\/X.env.scope.names.lookup x=↑.local) :
  PS X (.Assign [.Name x pos'] e pos) (tS X.K E ca mu<|C0 i m):=PS.weak (Wn hN hi hx he hs hf) λD O H h=>VO h
def s_for(hp:PassesOwn (model X.prog X.w) X.A X.env X.xe)(hc:X.calm=true)(hi:PI X tg iter<|tI X.K E ca mi)(hg:PG X tg<|E7 X.K b)(hb:B5 X body<|tS X.K E ca mu u)(hs:∀x,foldedSetIterable iter X.env x=pure x) :
  PS X (.For tg iter body [] pos) (tS X.K E ca mu<|B7 mi b u):=by
 refine PS.weak (znt hp hc hi hg hb hs) λD O H h=>?_
 let(F,Y,R,S,q):=h;refine{F,Y,R,S,?_};unfold B7 at q;cases hm:mi Y with
 |none=>erw[hm]at q<;>symm|some r=>
  erw[hm]at q;cases r with
  |x c=>exact λF' H' e=>q F' H' O R e.stp0 (S.ext e)|v ts bb=>
   intro F1 H1 Γ e1 its;simp only at q;have S1:=S.ext e1;cases hg:Aj b u ts Y with
   |none=>erw[hg]at q<;>symm|some out=>
    erw[hg]at q;refine{λi mm O' H'=>mm=ts.length - i/\i<=ts.length/\∃F' Y' R',Stp F H (tot R) F' H' (tot R')/\A4 F1 F'/\StR X.K F' H' O' Y' R'/\Aj b u (ts.drop i) Y'=↑out,{ts.length,by simp,ô _,F1,Y,R,e1.stp0,.refl _,S1,by simpa using hg},?_}
    rintro i mm O' H' ⟨rfl,hle,F',Y',R',st,sf,S',hgo⟩;let(i1,i2):=its i F' H' sf S'.fh
    by_cases hlt:i<ts.length
    .refine .inr {(i1 _<|Â hlt).1,λO2 H2=>i+1<=ts.length/\∃F2 τ2 R2,Stp F H (tot R) F2 H2 (tot R2)/\A4 F1 F2/\StR X.K F2 H2 O2 τ2 R2/\Aj b u (ts.drop<|i+1) τ2=↑out,λO2 H2 n2=>{ts.length - (i+1),by lia,rfl,n2},λx H'' y=>?_}
     let(F'',e3,rx):=(i1 _<|Â hlt).2 x H'' y;have S3:=S'.ext e3;rw[Ć hlt]at hgo;unfold Aj at hgo;cases hb2:b ts[i] Y' with
     |none=>erw[hb2]at hgo;cases hgo|some τ1=>
      erw[hb2]at hgo;refine{F'',Y',R',ts[i],τ1,S3,rx,hb2,λσ3 R3 S4 hR3=>?_}
      have st3:Stp F H (tot R) F'' H''<|tot R3:=(st.trans e3.stp0).mono λa ⟨j,z⟩=>{j,hR3 j a z}
      refine{F'',τ1,R3,S4,?_};cases hu:u τ1 with
      |none=>erw[hu]at hgo;cases hgo|some o=>
       erw[hu]at hgo;cases o with
       |nx τ2=>exact λF4 H4 σ4 R4 s4 S5=>{hlt,F4,τ2,R4,st3.trans s4,(sf.trans e3.ff).trans s4.ff,S5,hgo}|ct τ2=>exact λF4 H4 σ4 R4 s4 S5=>{hlt,F4,τ2,R4,st3.trans s4,(sf.trans e3.ff).trans s4.ff,S5,hgo}|bk τ2=>cases hgo;exact λF4 H4 σ4 R4 s4 S5=>q F4 H4 σ4 R4 (st3.trans s4) S5|rt v=>cases hgo;exact λF4 H4 x B s4 r=>q F4 H4 x B (st3.trans s4) r|xc cc τ2=>cases hgo;exact λF4 H4 σ4 R4 s4 S5=>q F4 H4 σ4 R4 (st3.trans s4) S5
    .have hi':i=ts.length:=by lia
     subst hi';refine .inl {i2 rfl,?_};rw[List.drop_length]at hgo;unfold Aj at hgo;cases hgo;exact q F' H' O' R' st S'
def s_wh(hp:PassesOwn (model X.prog X.w) X.A X.env X.xe)(hc:PT X c<|BM X.K E ca mc)(hb:B5 X body<|tS X.K E ca mu u):PS X (.While c body [] pos)<|tS X.K E ca mu<|Fi mc u:=by
 refine PS.weak (zh8 hp hc hb) λD O H h=>?_
 let(F,Y,R,S,q):=h;cases hw:Fi mc u Y with
 |none=>erw[hw]at q<;>symm|some out=>
  erw[hw]at q;let(n,hn):=zgw hw;refine{λmm O' H'=>∃F' Y' R',Stp F H (tot R) F' H' (tot R')/\StR X.K F' H' O' Y' R'/\DJ mc u mm Y'=↑out,{n,F,Y,R,Stp.refl S.fh,S,hn},?_}
  rintro mm O' H' ⟨F',Y',R',st,S',hgo⟩;cases mm with
  |zero=>cases hgo|succ mm=>
   refine{F',Y',R',S',?_};unfold DJ at hgo;cases hm:mc Y' with
   |none=>erw[hm]at hgo;cases hgo|some r=>
    erw[hm]at hgo;cases r with
    |x cc=>cases hgo;exact λF2 H2 e2=>q F2 H2 O' R' (st.trans e2.stp0) (S'.ext e2)|v t bb=>
     cases t with
     |bl k=>
      intro F2 H2 e2;have S2:=S'.ext e2;have st2 :=st.trans e2.stp0;cases k with
      |false=>cases hgo;exact KI (q F2 H2 O' R' st2 S2)|true=>
       simp only at hgo;refine KH {λO2 H2=>∃F2 τ2 R2,Stp F H (tot R) F2 H2 (tot R2)/\StR X.K F2 H2 O2 τ2 R2/\DJ mc u mm τ2=↑out,λσ3 H3 n3=>{mm,Ė _,n3},F2,Y',R',S2,?_}
       cases hu:u Y' with
       |none=>erw[hu]at hgo;cases hgo|some o=>
        erw[hu]at hgo;cases o with
        |nx τ2=>exact λF4 H4 σ4 R4 s4 S5=>{F4,τ2,R4,st2.trans s4,S5,hgo}|ct τ2=>exact λF4 H4 σ4 R4 s4 S5=>{F4,τ2,R4,st2.trans s4,S5,hgo}|bk τ2=>cases hgo;exact λF4 H4 σ4 R4 s4 S5=>q F4 H4 σ4 R4 (st2.trans s4) S5|rt v=>cases hgo;exact λF4 H4 x B s4 r=>q F4 H4 x B (st2.trans s4) r|xc cc τ2=>cases hgo;exact λF4 H4 σ4 R4 s4 S5=>q F4 H4 σ4 R4 (st2.trans s4) S5
     |_=>cases hgo
end
section
variable {K:k6}{F H:Hp}{l:kL}{xs:kK}{Rr:Nat->Rg}{p:Addr}{o:HO}
def Rp.own_inv(h:Rp K F H (.nd true k l) x A)(n:k.isT=false):∃p xs Rr,x=.ref p/\A=(λa=>a=p\/∃j,Rr j a)/\F p=none/\H p=↑(.lst xs)/\RpO K F H l xs Rr/\(∀j,¬ Rr j p)/\JT k p:=by
 cases h with
 |own hk R f h e c d dp o=>exact{_,_,R,rfl,rfl,f,Zz n▸h,{(e),c,d,o},dp,hk}
theorem IP(hk:JT k p)(r:RpO K F H l xs Rr)(f:F p=none)(h:H p=↑(.lst xs))(dp:∀j,¬ Rr j p)(n:k.isT=false):Rp K F H (.nd true k l) (.ref p) (λa=>a=p\/∃j,Rr j a):=.own hk Rr f (Zz n▸h) r.len r.rep r.dis dp r.out
theorem RpO.upd(r:RpO K F H l xs Rr)(dp:∀j,¬ Rr j p):RpO K F (L2.upd H p o) l xs Rr:={r.len,λi t x h1 h2=>(r.rep i t x h1 h2).frame (.refl _) λa z=>{An<|λe=>dp i<|e▸z,(r.dom z).1},r.dis,r.out}
theorem Rp.upd(r:Rp K F H t x A)(dp:¬ A p):Rp K F (L2.upd H p o) t x A:=r.frame (.refl _) λa z=>{An<|λe=>dp<|e▸z,(r.dom z).1}
def RpO.set(r:RpO K F H l xs Rr)(hj:j0<l.length)(rt:Rp K F H t y B)(d:∀j a,j≠j0->Rr j a->¬ B a):RpO K F H (l.set j0 t) (xs.set j0 y) (λj=>if j=j0 then B else Rr j):=by
 have hl:=r.len;refine{by simp[hl],λi t' x' h1 h2=>?_,λi k a hik z1 z2=>?_,λi a z=>?_}
 .by_cases hi:i=j0
  .subst hi;rw[é hj]at h1;rw[é<|by lia]at h2
   cases h1;cases h2
   simpa using rt
  .rw[æ<|Î hi]at h1 h2
   simpa[hi] using r.rep i t' x' h1 h2
 .by_cases hi:i=j0
  .erw[hi,Æ]at z1;have hk:¬ k=j0:=λz=>hik<|hi.trans z.symm
   erw[hk,Ã]at z2;exact d k a hk z2 z1
  .erw[hi,Ã]at z1
   by_cases hk:k=j0
   .erw[hk,Æ]at z2;exact d i a hi z1 z2
   .erw[hk,Ã]at z2;exact r.dis i k a hik z1 z2
 .by_cases hi:i=j0
  .simp[hi];lia
  .erw[hi,Ã]at z
   simpa using r.out i a z
variable {O:L2.St}{Y:AM}{R:Nat->Rg}
def StR.upd(S:StR K F H O Y R){A' B:Rg}(ht:Y[i]?=↑↑t)(hx:O[i]?=↑↑x)(hp:R i p)(r':Rp K F (L2.upd H p o) t' x A')(hA:∀a,A' a->R i a\/B a)(hB:∀j a,R j a->¬ B a) :
  StR K F (L2.upd H p o) O (Y.set i ↑t') (λj=>if j=i then A' else R j)/\Stp F H (λa=>Pu.tot R a\/B a) F (L2.upd H p o) (Pu.tot λj=>if j=i then A' else R j):=by
 have fp :=(S.dom hp).1;have hi :=(Ñ.mp ht).1
 have fh':A4 F<|L2.upd H p o:=λb u e=>by
  rw[An (λz=>by rw[z,fp]at e;cases e)]
  exact S.fh b u e
 refine{{fh',by simpa using S.len,λj t1 e=>?_,λj a z=>?_,λj k a hjk z1 z2=>?_},{.refl _,fh',λb u n e=>?_,λb ⟨j,z⟩=>?_,λb u e=>.inl e}}
 .by_cases hj:j=i
  .subst hj;rw[é hi]at e;cases e;exact{x,hx,by simpa using r'}
  .rw[æ<|Î hj]at e;let(y,e1,r1):=S.rep j t1 e;exact{y,e1,by simpa[hj] using r1.upd (λz=>S.dis j i p hj z hp)}
 .by_cases hj:j=i
  .subst hj;exact{t',é hi}
  .erw[hj,Ã]at z;let(t1,e):=S.out j a z;exact{t1,by rw[æ<|Î hj];exact e}
 .by_cases hj:j=i
  .erw[hj,Æ]at z1;have hk:¬ k=i:=λz=>hjk<|hj.trans z.symm
   erw[hk,Ã]at z2
   rcases hA a z1 with w|w
   .exact S.dis i k a (Î hk) w z2
   .exact hB k a z2 w
  .erw[hj,Ã]at z1
   by_cases hk:k=i
   .erw[hk,Æ]at z2
    rcases hA a z2 with w|w
    .exact S.dis i j a (Î hj) w z1
    .exact hB j a z1 w
   .erw[hk,Ã]at z2;exact S.dis j k a hjk z1 z2
 .rw[An<|λz=>n<|.inl (by rw[z];exact{(i),hp})]
  exact e
 .by_cases hj:j=i
  .erw[hj,Æ]at z
   rcases hA b z with w|w
   .exact .inl<|.inl {(i),w}
   .exact .inl<|.inr w
  .erw[hj,Ã]at z;exact .inl<|.inl {(j),z}
end
def EC(Y:AM)(i:Nat):Option<|Kd×kL:=match Y[i]? with
 |some (↑(.nd true k l))=>(match k with
  |.tup=>none|k=>↑(k,l))
 |_=>none
def Ji(h:EC Y i=↑(k,l)):Y[i]?=↑(↑(.nd true k l)):=by
 unfold EC at h
 grind
def FR(h:EC Y i=↑(k,l)):k.isT=false:=by
 unfold EC at h;cases k<;>first|rfl|(exfalso;grind)
def Co(i:Nat)(m:AH):AG:=λY=>match EC Y i with
 |some (kd,l)=>(match m Y with
  |some (.v t false)=>if l.length<BS then ↑(.nx<|Y.set i<|↑(.nd true kd<|l++[t])) else none
  |some (.v _ true)=>none|some (.x c)=>↑(.xc c Y)|none=>none)
 |none=>none
def GB(i:Nat)(m:AH):AG:=λY=>match EC Y i with
 |some (kd,l)=>(match m Y with
  |some (.v (.nd _ .lst r) false)=>if l.length+r.length<=BS then ↑(.nx<|Y.set i<|↑(.nd true kd<|l++BN r)) else none
  |some (.v _ _)=>none|some (.x c)=>↑(.xc c Y)|none=>none)
 |none=>none
def Gd(i:Nat)(mk m:AH):AG:=λY=>match m Y with
 |some (.v t false)=>(match EC Y i with
  |some (kd,l)=>(match mk Y with
   |some (.v (.int k) _)=>(match Bw l.length k with
    |some j=>↑(.nx<|Y.set i<|↑(.nd true kd<|l.set j t))|none=>none)
   |some (.v _ _)=>none|some (.x c)=>↑(.xc c Y)|none=>none)
  |none=>none)
 |some (.v _ true)=>none|some (.x c)=>↑(.xc c Y)|none=>none
def MC:kH->Option (kL)
 |some (.nd true .lst l)=>↑l|_=>none
def J8(i:Nat)(mk mn m:AH):AG:=λY=>match m Y with
 |some (.v t false)=>(match EC Y i with
  |some (kd,l)=>(match mk Y with
   |some (.v (.int k) _)=>(match Bw l.length k with
    |some j=>(match MC l[j]? with
     |some r=>(match mn Y with
      |some (.v (.int n) _)=>(match Bw r.length n with
       |some j2=>↑(.nx<|Y.set i<|↑(.nd true kd<|l.set j<|.own<|r.set j2 t))|none=>none)
      |some (.v _ _)=>none|some (.x c)=>↑(.xc c Y)|none=>none)
     |none=>none)
    |none=>none)
   |some (.v _ _)=>none|some (.x c)=>↑(.xc c Y)|none=>none)
  |none=>none)
 |some (.v _ true)=>none|some (.x c)=>↑(.xc c Y)|none=>none
section
variable {mu:Bool}{X:Cx}{E:L2.St->XK}{ca:Str->Value}{O:L2.St}{H:Hp}{K:k6}{m mk mn:AH}{D:Ends}{e k n:Expr}{pos apos cpos p1 pos2 pos3:Pos}{i:Nat}{x:Str}
def Se(g:Dh K F H R (.int j) b y B):y=.int j:=by
 cases b with
 |true=>let(_,A,_,r):=g;exact r.int_inv
 |false=>exact(g).int_inv
def Vp{l:kL}{Rr:Nat->Rg}(h:∃j,(λj=>if j=l.length then B else Rr j) j a):(∃j,Rr j a)\/B a:=Vq h
def Lg{Rr:Nat->Rg}(h:∃j,(λj=>if j=j0 then B else Rr j) j a):(∃j,Rr j a)\/B a:=by
 grind
def s_app(hN:X.N[i]?=↑x)(hv:Ef X.env.scope x)(hd:(x == "__debug__")=false)(hcd:(x == "__classdict__")=false)(he:PE X e<|tM X.K E ca m)(hs:starEach [e] X.env=[(false,eval e X.env)])(hline:(apos.endLine == cpos.line)=true) :
  PS X (.Expr (.Call (.Attribute (.Name x p1) "append" apos) [e] [] cpos) pos) (tS X.K E ca mu<|Co i m):=by
 refine PS.weak (Q8 (Lz ť PySem.F.slot_list_append PySem.F.type_list_append zf3 (Gk hN hv hd hcd) (EB he FQ hs) rfl (by rw[hs];rfl) hline hs rfl) rfl) λD O H h=>?_
 let(F,Y,R,S,q):=h;unfold Co at q;cases ho:EC Y i with
 |none=>erw[ho]at q<;>symm|some kl=>
  let(kd,l):=kl;erw[ho]at q;have ht:=Ji ho;let(y,ey,ry):=S.rep i _ ht;let(p,xs,Rr,rfl,hA,fp,hp,ro,dp,hOw):=ry.own_inv<|FR ho;refine{_,ey,.inl {rfl,xs,AZ.of hp},F,Y,R,S,?_};cases hm:m Y with
  |none=>erw[hm]at q<;>symm|some r=>
   erw[hm]at q;cases r with
   |x c=>exact λF' H' e=>q F' H' O R e.stp0 (S.ext e)|v t bb=>
    cases bb with
    |true=>symm|false=>
     intro F1 H1 y B e1 g1;have g1' :=g1
     by_cases hz:l.length<BS
     .erw[hz,Æ]at q;have S1:=S.ext e1;have ro1:=ro.ext e1;have hp1:=e1.hh _ _ hp;have pB:¬ B p:=λz=>by rw[e1.nb p z]at hp;cases hp
      have fp1 :=(ry.ext e1 |>.dom (by rw[hA];exact .inl rfl)).1
      refine{p,xs,y,rfl,rfl,hp1,by rw[<- ro.len,<- GO];exact hz,?_}
      have ro2:RpO X.K F1 (upd H1 p<|.lst<|xs++[y]) (l++[t]) (xs++[y]) _:=(ro1.upd dp).snoc (g1'.upd pB) λj a z1 z2=>ro.apart e1 z2 j z1
      have dp2:∀j,¬ (if j=l.length then B else Rr j) p:=λj z=>by
       by_cases hj:j=l.length
       .erw[hj,Æ]at z;exact pB z
       .erw[hj,Ã]at z;exact dp j z
      have r2:=IP hOw ro2 fp1 CJ dp2<|FR ho
      let(S3,st3):=S1.upd ht ey (by rw[hA];exact .inl rfl) r2 (λa z=>by
       rw[hA]
       rcases z with z|z
       .exact .inl<|.inl z
       .rcases Vp z with w|w
        .exact .inl<|.inr w
        .exact .inr w)<|λj a z1 z2=>S.apart e1 z2 j z1
      exact q F1 _ O _ (e1.stp.trans st3) S3
     .erw[hz,Ã]at q<;>symm
def s_ext(hN:X.N[i]?=↑x)(hv:Ef X.env.scope x)(hd:(x == "__debug__")=false)(hcd:(x == "__classdict__")=false)(he:PE X e<|tM X.K E ca m)(hs:starEach [e] X.env=[(false,eval e X.env)])(hline:(apos.endLine == cpos.line)=true) :
  PS X (.Expr (.Call (.Attribute (.Name x p1) "extend" apos) [e] [] cpos) pos) (tS X.K E ca mu<|GB i m):=by
 refine PS.weak (Q8 (Lz ť PySem.F.slot_list_extend PySem.F.type_list_extend zf2 (Gk hN hv hd hcd) (EB he FQ hs) rfl (by rw[hs];rfl) hline hs rfl) rfl) λD O H h=>?_
 let(F,Y,R,S,q):=h;unfold GB at q;cases ho:EC Y i with
 |none=>erw[ho]at q<;>symm|some kl=>
  let(kd,l):=kl;erw[ho]at q;have ht:=Ji ho;let(y,ey,ry):=S.rep i _ ht;let(p,xs,Rr,rfl,hA,fp,hp,ro,dp,hOw):=ry.own_inv<|FR ho;refine{_,ey,.inl {rfl,xs,AZ.of hp},F,Y,R,S,?_};cases hm:m Y with
  |none=>erw[hm]at q<;>symm|some r=>
   erw[hm]at q;cases r with
   |x c=>exact λF' H' e=>q F' H' O R e.stp0 (S.ext e)|v t bb=>
    cases t with
    |nd o kd2 r=>
     cases kd2 with
     |lst=>
      cases bb with
      |true=>symm|false=>
       intro F1 H1 y B e1 g1;let(F2,e2,_,r2):=Dh.frz S e1 g1;have r2' :=r2;rw[T.share]at r2';let(p2,ys,rfl,_,nn,kid):=Ds r2'
       by_cases hz:l.length+r.length<=BS
       .erw[hz,Æ]at q;have S1:=S.ext e2;have ro1:=ro.ext e2;have hp1:=e2.hh _ _ hp;have fp1 :=(ry.ext e2 |>.dom (by rw[hA];exact .inl rfl)).1
        have hn2 :=nn;have lr :=by have:=kid.1;rw[FL,Á]at this;exact this
        refine{p,p2,xs,ys,rfl,rfl,hp1,e2.fh _ _ hn2,by rw[<- ro.len,<- lr,<- GO];exact hz,?_}
        have app:∀(l2 ) (ys2 ),Ah X.K F2 l2 ys2->∀(l ) (xs ) (H0 ),RpO X.K F2 H0 l xs Rr->RpO X.K F2 H0 (l++l2) (xs++ys2) Rr:=by
         intro l2
         induction l2 with
         |nil=>intro ys2 hk l xs H0 hro;rw[hk.inv0,ā,ā];exact hro|cons t l2 ih=>
          intro ys2 hk l xs H0 hro;let(y,ys',rfl,r1,rs1):=hk.inv;have h2:=hro.snoc (r1.any)<|λ_ _ _ z=>z
          have e3:(λj=>if j=l.length then R0 else Rr j)=Rr:=funext λj=>by
           by_cases hj:j=l.length
           .erw[hj,Æ];exact funext λa=>propext {λz=>z.elim,λz=>absurd (hro.out _ a z)<|Þ _}
           .erw[hj,Ã]
          rw[e3]at h2;have h3:=ih ys' rs1 (l++[t]) (xs++[y]) H0 h2
          simpa using h3
        have ro2:=app _ _ kid l xs _<|ro1.upd (o:=.lst<|xs++ys) dp;have r3:=IP hOw ro2 fp1 CJ dp<|FR ho;let(S3,st3):=S1.upd ht ey (by rw[hA];exact .inl rfl) r3 (λa z=>.inl (by rw[hA];exact z))<|λj a z1 z2=>z2
        exact q F2 _ O _ ((e2.stp).trans st3) S3
       .erw[hz,Ã]at q<;>symm
     |_=>symm
    |_=>symm
def s_sto(hN:X.N[i]?=↑x)(hv:Ef X.env.scope x)(hd:(x == "__debug__")=false)(hcd:(x == "__classdict__")=false)(he:PE X e<|tM X.K E ca m)(hk:PE X k<|tM X.K E ca mk)(hs:swapsWithSole [.Subscript (.Name x p1) k pos2] e pos.line X.env=pure false)(hw:swappedStores [.Subscript (.Name x p1) k pos2] e X.env=pure none)
  (ha : ∀ v, assign (.Subscript (.Name x p1) k pos2) X.env v = (do
   let ov <- holding [v]<|eval (.Name x p1) X.env;let iv <- holding [v,ov] (eval k X.env)
   standAt pos2
   holding [v,ov,iv] (setItem ov iv v)
   release [v,ov,iv] [])) :
  PS X (.Assign [.Subscript (.Name x p1) k pos2] e pos) (tS X.K E ca mu<|Gd i mk m):=by
 refine PS.weak (Lx he (Qc (Gk hN hv hd hcd) hk Vw ha) hs hw rfl) λD O H h=>?_
 let(F,Y,R,S,q):=h;refine{F,Y,R,S,?_};unfold Gd at q;cases hm:m Y with
 |none=>erw[hm]at q<;>symm|some r=>
  erw[hm]at q;cases r with
  |x c=>exact λF' H' e=>q F' H' O R e.stp0 (S.ext e)|v t bb=>
   cases bb with
   |true=>symm|false=>
    intro F1 H1 y B e1 g1;have g1' :=g1;simp only at q;cases ho:EC Y i with
    |none=>erw[ho]at q<;>symm|some kl=>
     let(kd,l):=kl;erw[ho]at q;have S1:=S.ext e1;have ht:=Ji ho;let(y2,ey,ry):=S1.rep i _ ht;refine{y2,ey,F1,Y,R,S1,?_};cases hkk:mk Y with
     |none=>erw[hkk]at q<;>symm|some r=>
      erw[hkk]at q;cases r with
      |x c=>exact λF' H' e=>q F' H' O R ((e1.stp0).trans e.stp0) (S1.ext e)|v tk bk=>
       cases tk with
       |int kk=>
        simp only at q;cases hj:Bw l.length kk with
        |none=>erw[hj]at q<;>symm|some j=>
         erw[hj]at q;intro F2 H2 z C e2 g2;have hz:=Se g2;subst hz;have S2:=S1.ext e2;have ry2:=ry.ext e2;let(p,xs,Rr,rfl,hA,fp,hp,ro,dp,hOw):=ry2.own_inv<|FR ho;have hjl:=(KG hj).2.1;have g2':=g1'.ext e2
         have pB :=λz=>by
          have:R i p:=by rw[hA];exact .inl rfl
          exact S.apart e1 z i this
         refine{p,xs,kk,j,rfl,rfl,hp,by rw[<- ro.len];exact hj,?_}
         have ro2:RpO X.K F2 (upd H2 p<|.lst<|xs.set j y) (l.set j t) (xs.set j y) _:=(ro.upd dp).set hjl (g2'.upd pB) λj' a _ z1 z2=>S.apart e1 z2 i (by rw[hA];exact .inr {(j'),z1})
         have dp2:∀j',¬ (if j'=j then B else Rr j') p:=λj' z=>by
          by_cases hj':j'=j
          .erw[hj',Æ]at z;exact pB z
          .erw[hj',Ã]at z;exact dp j' z
         have r3:=IP hOw ro2 fp CJ dp2<|FR ho
         let(S3,st3):=S2.upd ht ey (by rw[hA];exact .inl rfl) r3 (λa z=>by
          rw[hA]
          rcases z with z|z
          .exact .inl<|.inl z
          .rcases Lg z with w|w
           .exact .inl<|.inr w
           .exact .inr w)<|λj a z1 z2=>S.apart e1 z2 j z1
         exact q F2 _ O _ ((e1.stp.trans e2.stp0).trans st3) S3
       |_=>symm
def zmw(hN:X.N[i]?=↑x)(hv:Ef X.env.scope x)(hd:(x == ("__debug__":Str))=false)(hcd:(x == ("__classdict__":Str))=false)(he:PE X e<|tM X.K E ca m)(hk:PE X k<|tM X.K E ca mk)(hn:PE X n<|tM X.K E ca mn)(hpl:Kx k)(hs:swapsWithSole [.Subscript (.Subscript (.Name x p1) k pos2) n pos3] e pos.line X.env=pure false)(hw:swappedStores [.Subscript (.Subscript (.Name x p1) k pos2) n pos3] e X.env=pure none)
  (ha : ∀ v, assign (.Subscript (.Subscript (.Name x p1) k pos2) n pos3) X.env v = (do
   let ov <- holding [v]<|eval (.Subscript (.Name x p1) k pos2) X.env;let iv <- holding [v,ov] (eval n X.env)
   standAt pos3
   holding [v,ov,iv] (setItem ov iv v)
   release [v,ov,iv] [])) :
  PS X (.Assign [.Subscript (.Subscript (.Name x p1) k pos2) n pos3] e pos) (tS X.K E ca mu<|J8 i mk mn m):=by
 refine PS.weak (Lx he (Qc (Qd Ze (Gk hN hv hd hcd) hk hpl) hn Vw ha) hs hw rfl) λD O H h=>?_
 let(F,Y,R,S,q):=h;refine{F,Y,R,S,?_};unfold J8 at q;cases hm:m Y with
 |none=>erw[hm]at q<;>symm|some r=>
  erw[hm]at q;cases r with
  |x c=>exact λF' H' e=>q F' H' O R e.stp0 (S.ext e)|v t bb=>
   cases bb with
   |true=>symm|false=>
    intro F1 H1 y B e1 g1;have g1' :=g1;simp only at q;cases ho:EC Y i with
    |none=>erw[ho]at q<;>symm|some kl=>
     let(kd,l):=kl;erw[ho]at q;have S1:=S.ext e1;have ht:=Ji ho;let(y2,ey,ry):=S1.rep i _ ht;refine{y2,ey,F1,Y,R,S1,?_};cases hkk:mk Y with
     |none=>erw[hkk]at q<;>symm|some r=>
      erw[hkk]at q;cases r with
      |x c=>exact λF' H' e=>q F' H' O R ((e1.stp0).trans e.stp0) (S1.ext e)|v tk bk=>
       cases tk with
       |int kk=>
        simp only at q;cases hj:Bw l.length kk with
        |none=>erw[hj]at q<;>symm|some j=>
         erw[hj]at q;cases hr:MC l[j]? with
         |none=>erw[hr]at q<;>symm|some r=>
          erw[hr]at q;intro F2 H2 z C e2 g2;have hz:=Se g2;subst hz;have S2:=S1.ext e2;have ry2:=ry.ext e2;let(p,xs,Rr,rfl,hA,fp,hp,ro,dp,hOw):=ry2.own_inv<|FR ho;have hjl:=(KG hj).2.1;have hjx:j<xs.length:=by have:=ro.len;lia
          have hlj :=by
           unfold MC at hr;split at hr
           .rename_i e;cases hr;exact e
           .cases hr
          have rk:=ro.rep j _ _ hlj<|Â hjx
          have Ft:AU xs kk=↑xs[j]:=by
           unfold AU;rw[<- ro.len,hj];exact Â hjx
          refine{p,xs,kk,xs[j],rfl,rfl,AZ.of hp,Ft,F2,Y,R,S2,?_};cases hnn:mn Y with
          |none=>erw[hnn]at q<;>symm|some r'=>
           erw[hnn]at q;cases r' with
           |x c=>exact λF' H' e=>q F' H' O R ((e1.stp0.trans e2.stp0).trans e.stp0) (S2.ext e)|v tn bn=>
            cases tn with
            |int nn=>
             simp only at q;cases hj2:Bw r.length nn with
             |none=>erw[hj2]at q<;>symm|some j2=>
              erw[hj2]at q;intro F3 H3 z C e3 g3;have hz:=Se g3;subst hz;have S3:=S2.ext e3;have ro3:=ro.ext e3;have hp3:=e3.hh _ _ hp;have Me :=(ry2.ext e3 |>.dom (by rw[hA];exact .inl rfl)).1
              have rk3:=rk.ext e3;let(p2,ys,Rq,ep,hA2,fp2,hp2,rq,dq,_):=rk3.own_inv rfl;have g3':=(g1'.ext e2).ext e3;have inR:∀a,Rr j a->R i a:=λa z=>by rw[hA];exact .inr {(j),z}
              have p2j:Rr j p2:=by rw[hA2];exact .inl rfl
              have p2B :=λz=>S.apart e1 z i<|inR _ p2j
              have pp2:p≠p2:=λz=>dp j<|z▸p2j
              have hj2l:=(KG hj2).2.1;rw[ep];refine{p2,ys,nn,j2,rfl,rfl,hp2,by rw[<- rq.len];exact hj2,?_}
              have rq2:RpO X.K F3 (upd H3 p2<|.lst<|ys.set j2 y) (r.set j2 t) (ys.set j2 y) _:=(rq.upd dq).set hj2l (g3'.upd p2B) λj' a _ z1 z2=>S.apart e1 z2 i<|inR _ (by rw[hA2];exact .inr {(j'),z1})
              have dq2:∀j',¬ (if j'=j2 then B else Rq j') p2:=λj' z=>by
               by_cases hj':j'=j2
               .erw[hj',Æ]at z;exact p2B z
               .erw[hj',Ã]at z;exact dq j' z
              have rrow:=IP (k:=.lst) trivial rq2 fp2 CJ dq2 rfl;have others :=λj' hne z=>ro.dis j' j p2 hne z p2j
              have xsj:xs.set j (.ref p2)=xs:=by
               have :=ep;rw[<- this];exact List.set_getElem_self hjx
              have ro4:RpO X.K F3 (upd H3 p2<|.lst<|ys.set j2 y) (l.set j<|.own<|r.set j2 t) xs (λj'=>if j'=j then (λa=>a=p2\/∃j',(if j'=j2 then B else Rq j') a) else Rr j'):=by
               refine{by simpa using ro3.len,λi' t' x' h1 h2=>?_,λi' k' a hik z1 z2=>?_,λi' a z=>?_}
               .by_cases hi:i'=j
                .subst hi;rw[é hjl]at h1;cases h1;rw[Â hjx]at h2;cases h2;rw[ep]
                 simpa using rrow
                .rw[æ<|Î hi]at h1;have:=(ro3.rep i' t' x' h1 h2).upd (o:=.lst<|ys.set j2 y) (others i' hi)
                 simpa[hi] using this
               .have sub:∀a,(a=p2\/∃j',(if j'=j2 then B else Rq j') a)->Rr j a\/B a:=λa z=>by
                 rcases z with z|z
                 .exact .inl (by rw[z];exact p2j)
                 .rcases Lg z with w|w
                  .exact .inl (by rw[hA2];exact .inr w)
                  .exact .inr w
                by_cases hi:i'=j
                .erw[hi,Æ]at z1;have hk':¬ k'=j:=λz=>hik<|hi.trans z.symm
                 erw[hk',Ã]at z2
                 rcases sub a z1 with w|w
                 .exact ro3.dis j k' a (Î hk') w z2
                 .exact S.apart e1 w i (by rw[hA];exact .inr {(k'),z2})
                .erw[hi,Ã]at z1
                 by_cases hk':k'=j
                 .erw[hk',Æ]at z2
                  rcases sub a z2 with w|w
                  .exact ro3.dis i' j a hi z1 w
                  .exact S.apart e1 w i (by rw[hA];exact .inr {(i'),z1})
                 .erw[hk',Ã]at z2;exact ro3.dis i' k' a hik z1 z2
               .by_cases hi:i'=j
                .simpa[hi] using hjl
                .erw[hi,Ã]at z
                 simpa using ro3.out i' a z
              have dp3:∀j',¬ (if j'=j then (λa=>a=p2\/∃j',(if j'=j2 then B else Rq j') a) else Rr j') p:=λj' z=>by
               by_cases hj':j'=j
               .erw[hj',Æ]at z
                rcases z with z|z
                .exact pp2 z
                .rcases Lg z with w|w
                 .exact dp j (by rw[hA2];exact .inr w)
                 .exact S.apart e1 w i (by rw[hA];exact .inl rfl)
               .erw[hj',Ã]at z;exact dp j' z
              have rall:=IP hOw ro4 Me (by rw[An pp2];exact hp3) dp3<|FR ho
              let(S4,st4):=S3.upd ht ey (inR _ p2j) rall (λa z=>by
               rw[hA]
               rcases z with z|⟨j',z⟩
               .exact .inl<|.inl z
               .by_cases hj':j'=j
                .erw[hj',Æ]at z
                 rcases z with z|z
                 .exact .inl<|.inr {j,by rw[z];exact p2j}
                 .rcases Lg z with w|w
                  .exact .inl<|.inr {j,by rw[hA2];exact .inr w}
                  .exact .inr w
                .erw[hj',Ã]at z;exact .inl<|.inr {(j'),z})<|λj a z1 z2=>S.apart e1 z2 j z1
              exact q F3 _ O _ (((e1.stp.trans e2.stp0).trans e3.stp0).trans st4) S4
            |_=>symm
       |_=>symm
def Ja(i j:Nat)(ms:As):AG:=λY=>match ms Y with
 |some (.v ts false)=>(match ts with
  |[t,u]=>if i<Y.length/\j<Y.length then ↑(.nx<|(Y.set i ↑t).set j ↑u) else none
  |_=>none)
 |some (.v _ true)=>none|some (.x c)=>↑(.xc c Y)|none=>none
def s_par{px py pt}(hc:X.calm=true)(hN:X.N.Nodup)(hi:X.N[i]?=↑x)(hj:X.N[j]?=↑y)(hij:i≠j)
  (hx:X.env.scope.names.lookup x=↑.local) (hy:X.env.scope.names.lookup y=↑.local) (ha:PA X [a,b]<|CK X.K E ca ms)
  (hw:swappedStores [.Tuple [.Name x px,.Name y py] kt pt] (.Tuple [a,b] k2 pt2) X.env=pure (↑[x,y]))
  (hs:swapsWithSole [.Tuple [.Name x px,.Name y py] kt pt] (.Tuple [a,b] k2 pt2) pos.line X.env=pure false) :
  PS X (.Assign [.Tuple [.Name x px,.Name y py] kt pt] (.Tuple [a,b] k2 pt2) pos) (tS X.K E ca mu<|Ja i j ms):=by
 refine PS.weak (zns hc hN hi hj hij hx hy ha hw hs) λD O H h=>?_
 let(F,Y,R,S,q):=h;refine{F,Y,R,S,?_};unfold Ja at q;cases hm:ms Y with
 |none=>erw[hm]at q<;>symm|some r=>
  erw[hm]at q;cases r with
  |x c=>exact λF' H' e=>q F' H' O R e.stp0 (S.ext e)|v ts bb=>
   cases bb with
   |true=>symm|false=>
    intro F1 H1 xs e1 rs;simp only at q
    match ts,q,rs with
    |[t,u],q,rs=>
     simp only at q
     by_cases hl:i<Y.length/\j<Y.length
     .erw[hl,Æ]at q;let(x1,xs1,rfl,r1,rs1):=rs.inv;let(x2,xs2,rfl,r2,rs2):=rs1.inv;cases rs2.inv0;have S1:=S.ext e1;have S2:=S1.set ((r1).any) (λ_ _ _ _ z=>z.elim) hl.1
      have S3:=S2.set ((r2).any) (λ_ _ _ _ z=>z.elim)<|by simpa using hl.2
      refine{x1,x2,rfl,q F1 H1 _ _ (e1.stp0.mono ?_) S3};rintro a ⟨k,z⟩
      by_cases hk:k=j
      .erw[hk,Æ]at z;exact z.elim
      .erw[hk,Ã]at z
       by_cases hk2:k=i
       .erw[hk2,Æ]at z;exact z.elim
       .erw[hk2,Ã]at z;exact{(k),z}
     .erw[hl,Ã]at q<;>symm
    |[],q,rs=>symm|[_],q,rs=>symm|_::_::_::_,q,rs=>symm
end
section
variable {X:Cx}{E:L2.St->XK}{ca:Str->Value}{O:L2.St}{H F:Hp}{K:k6}{m mk:AH}{ms:As}{D:Ends}{e:Expr}{es:kC}{pos apos cpos p1 p2:Pos}{i j:Nat}{x y:Str}{Y:AM}{R:Nat->Rg}{mu:Bool}
def Rp.kind(h:Rp K F H (.nd true k l) (.ref p) A)(o:JT k' p)(n:k.isT=false)(n':k'.isT=false):Rp K F H (.nd true k' l) (.ref p) A:=by
 let(p',xs,Rr,e,rfl,fp,hp,ro,dp,_):=h.own_inv n;cases e;exact IP o ro fp hp dp n'
def Rp.pin_at{x}(h:Rp K F H (.nd true (.pin q) l) x A):x=.ref q:=by
 let(p',xs,Rr,rfl,rfl,fp,hp,ro,dp,o):=h.own_inv rfl;have o' :=o;rw[o']
def GC(t:T)(Y:AM):Option Out:=match Y[(0:Nat)]? with
 |some (↑(.nd true (.pin q) l))=>↑(.rt<|.own [t,.nd true (.pin q) l])|_=>none
def QS(h:GC t Y=↑o):∃q l,Y[0]?=↑(↑(.nd true (.pin q) l))/\o=.rt (.own [t,.nd true (.pin q) l]):=by
 unfold GC at h
 grind
def QP{x}(S:StR K F' H' O Y R)(h:Y[0]?=↑(↑(.nd true (.pin q) l)))(hf:t.flat=true)(r:Rp K F' H' t x R0):Wr K true F' H' (.own [t,.nd true (.pin q) l]) x<|R 0:=by
 let(y,_,ry):=S.rep 0 _ h;have hy:=ry.pin_at;subst hy;exact{(t),q,l,rfl,hf,r,ry}
def J9(m:AH):AG:=λY=>match m Y with
 |some (.v t _)=>if t.flat then GC t Y else none
 |some (.x c)=>↑(.xc c Y)|none=>none
def QD:AG:=λY=>GC .non Y
def zhz{x}(g:Dh K F H R t b x B)(hf:t.flat=true):Rp K F H t x R0:=by
 cases b with
 |true=>let(_,A,_,r):=g;exact r.flat_any hf
 |false=>exact(g).flat_any hf
def zn0(he:PE X e<|tM X.K E ca m):PS X (.Return ↑e pos)<|tS X.K E ca true<|J9 m:=by
 refine PS.weak (Wp he) λD O H h=>?_
 let(F,Y,R,S,q):=h;refine{F,Y,R,S,?_};unfold J9 at q;cases hm:m Y with
 |none=>erw[hm]at q<;>symm|some r=>
  erw[hm]at q;cases r with
  |x c=>exact λF' H' e=>q F' H' O R e.stp0 (S.ext e)|v t bb=>
   intro F' H' x B e g;simp only at q;cases hf:t.flat with
   |false=>rw[hf]at q;cases q|true=>
    rw[hf]at q;cases ho:GC t Y with
    |none=>rw[ho]at q;symm|some o=>rw[ho]at q;let(p,l,h0,rfl):=QS ho;exact q F' H' x (R 0) (e.stp0.mono λa z=>{0,z})<|QP (S.ext e) h0 hf<|zhz g hf
theorem zjl:PS X (.Return none pos)<|tS X.K E ca true QD:=PS.weak Wo λD O H h=>by
 let(F,Y,R,S,q):=h;unfold QD at q;cases ho:GC .non Y with
 |none=>erw[ho]at q<;>symm|some o=>erw[ho]at q;let(p,l,h0,rfl):=QS ho;exact q F H .non (R 0) ((Stp.refl S.fh).mono λa z=>{0,z})<|QP S h0 rfl .non
set_option genInjectivity true in
inductive Mo where
 |ok (v:T) (Y:AM)|exc (c:Str) (Y:AM)
def pMM(K:k6)(E:L2.St->XK)(ca:Str->Value)(O:L2.St)(Q:VK)(F H:Hp)(R:Nat->Rg):Option Mo->Prop
 |some (.ok v Y')=>∀F' H' x R',Stp F H (tot R) F' H' (tot R')->StR K F' H' O Y' R'->Rp K F' H' v x R0->Q x H'|some (.exc c Y')=>∀F' H' R',Stp F H (tot R) F' H' (tot R')->StR K F' H' O Y' R'->XE (E O) ca c F' H'|none=>False
def J3(K:k6)(E:L2.St->XK)(ca:Str->Value)(m:AM->Option Mo):TE:=λO H Q=>∃F Y R,StR K F H O Y R/\pMM K E ca O Q F H R (m Y)
def Sh(g:kL->Option Ru)(l ts:kL)(r:T×kL):Prop:=∀p,g (.nd true (.pin p) l::ts)=↑(.ok<|.own [r.1,.nd true (.pin p) r.2])
open Classical in
def Iv(g:kL->Option Ru)(l ts:kL):Option<|T×kL:=if h:∃r,Sh g l ts r then ↑h.choose else none
def zlp(h:Iv g l ts=↑r):Sh g l ts r:=by
 unfold Iv at h;split at h
 .grind
 .cases h
def aH(h:∀p,g (.nd true (.pin p) l::ts)=↑(.ok<|.own [v,.nd true (.pin p) l'])):Iv g l ts=↑(v,l'):=by
 have hx:∃r,Sh g l ts r:={(v,l'),h};unfold Iv;have e:=(hx.choose_spec 0).symm.trans (h 0)
 grind
def Jt(i:Nat)(g:kL->Option Ru)(ms:As):AM->Option Mo:=λY=>match EC Y i with
 |some (kd,l)=>(match ms Y with
  |some (.v ts false)=>(match Iv g l ts with
   |some (v,l')=>if v.flat then ↑(.ok v<|Y.set i<|↑(.nd true kd l')) else none
   |none=>none)
  |some (.v _ true)=>none|some (.x c)=>↑(.exc c Y)|none=>none)
 |none=>none
def DU(K:k6)(ca:Str->Value)(g:kL->Option Ru):Sp:=λvs H Q E=>∃F p l ts A vs',A4 F H/\vs=.ref p::vs'/\Rp K F H (.nd true (.pin p) l) (.ref p) A/\Ah K F ts vs'/\match g (.nd true (.pin p) l::ts) with
 |some (.ok t)=>∀F' H' x B,Stp F H A F' H' B->Wr K true F' H' t x B->Q x H'|some (.exc c)=>∀F' H',Stp F H A F' H' R0->XE E ca c F' H'|none=>False
def StR.mut{F1 H1 F2 H2:Hp}{B:Rg}{t':T}{x0:V}(S:StR K F1 H1 O Y R)(hi:i<Y.length)(ex:O[i]?=↑↑x0)(s:Stp F1 H1 (R i) F2 H2 B)(r:Rp K F2 H2 t' x0 B) :
  StR K F2 H2 O (Y.set i ↑t') (λj=>if j=i then B else R j)/\Stp F1 H1 (Pu.tot R) F2 H2 (Pu.tot λj=>if j=i then B else R j):=by
 refine{{s.fh,by simpa using S.len,λj t e=>?_,λj a z=>?_,λj k a hjk z1 z2=>?_},{s.ff,s.fh,λb u n e=>s.kp b u (λz=>n {(i),z}) e,λb ⟨j,z⟩=>?_,λb u e=>?_}}
 .by_cases hj:j=i
  .subst hj;rw[é hi]at e;cases e;exact{x0,ex,by simpa using r}
  .rw[æ<|Î hj]at e;let(y,e1,r1):=S.rep j t e;refine{y,e1,?_};erw[hj,Ã];refine r1.frame s.ff λa z=>?_
   let(f,u,hu):=r1.dom z;have na :=λz'=>S.dis j i a hj z z'
   refine{(s.kp a u na hu).trans hu.symm,?_};cases q:F2 a with
   |none=>rfl|some u'=>
    rcases s.nf a u' q with w|w|w
    .rw[f]at w;cases w
    .exact absurd w na
    .rw[hu]at w;cases w
 .by_cases hj:j=i
  .subst hj;exact{t',é hi}
  .erw[hj,Ã]at z;let(t1,e):=S.out j a z;exact{t1,by rw[æ<|Î hj];exact e}
 .have key:∀k,k≠i->R k a->¬ B a:=λk hk w z=>by
   rcases s.nw a z with w'|w'
   .exact S.dis k i a hk w w'
   .let(_,u,hu):=S.dom w;rw[hu]at w';cases w'
  by_cases hj:j=i
  .have hk:¬ k=i:=λz=>hjk<|hj.trans z.symm
   erw[hj,Æ]at z1;erw[hk,Ã]at z2;exact key k hk z2 z1
  .erw[hj,Ã]at z1
   by_cases hk:k=i
   .erw[hk,Æ]at z2;exact key j hj z1 z2
   .erw[hk,Ã]at z2;exact S.dis j k a hjk z1 z2
 .by_cases hj:j=i
  .erw[hj,Æ]at z
   rcases s.nw b z with w|w
   .exact .inl {(i),w}
   .exact .inr w
  .erw[hj,Ã]at z;exact .inl {(j),z}
 .rcases s.nf b u e with w|w|w
  .exact .inl w
  .exact .inr<|.inl {(i),w}
  .exact .inr<|.inr w
def zjz(D:DefX X.prog X.w X.K X.mg X.base k f ps<|DU X.K ca g)(hr:Room j X.A)(hx:Cy X E)(hN:X.N[i]?=↑x)(hv:Ef X.env.scope x)(hd:(x == "__debug__")=false)(hcd:(x == "__classdict__")=false)
  (ha:PA X es<|CK X.K E ca ms) (hk:k<=j) (hg:Gl X f) (hdb:(f == "__debug__")=false)
  (he:starEach (.Name x p1::es) X.env=(false,eval (.Name x p1) X.env)::starEach es X.env) (hpl:(backTo pos<|starEach es X.env).any (·.1)=false):PE X (.Call (.Name f p2) (.Name x p1::es) [] pos)<|J3 X.K E ca<|Jt i g ms:=by
 refine PE.weak (px D hr hx (EB (Gk hN hv hd hcd) ha he) hk hg hdb he hpl) λO H Q h=>?_
 let(F,Y,R,S,q):=h;unfold Jt at q;cases ho:EC Y i with
 |none=>erw[ho]at q<;>symm|some kl=>
  let(kd,l):=kl;erw[ho]at q;have ht:=Ji ho;let(y,ey,ry):=S.rep i _ ht;let(p,xs0,Rr,rfl,hA,fp,hp,ro,dp,hOw):=ry.own_inv<|FR ho;refine{_,ey,F,Y,R,S,?_};cases hm:ms Y with
  |none=>erw[hm]at q<;>symm|some r=>
   erw[hm]at q;cases r with
   |x c=>exact λF' H' e=>q F' H' R e.stp0 (S.ext e)|v ts bb=>
    cases bb with
    |true=>symm|false=>
     intro F1 H1 xs e1 rs;simp only at q;cases hgm:Iv g l ts with
     |none=>erw[hgm]at q<;>symm|some r=>
      let(v,l'):=r;erw[hgm]at q;cases hf:v.flat with
      |false=>rw[hf]at q;cases q|true=>rw[hf,if_pos rfl]at q;have S1:=S.ext e1;have ry1:Rp X.K F1 H1 (.nd true (.pin p) l) (.ref p)<|R i:=(ry.ext e1).kind rfl (FR ho) rfl;rw[ā];refine{F1,p,l,ts,R i,xs,S1.fh,rfl,ry1,rs,?_};rw[zlp hgm p];intro F2 H2 z B s2 w2;let(v2,q2,l2,et,hf2,rv,ro2):=w2;erw[T.nd.injEq,List.cons.injEq,and_true,true_and,Kd.pin.injEq]at et;let(rfl,rfl,rfl):=et;have hi :=(Ñ.mp ht).1;let(S2,st2):=S1.mut hi ey s2<|ro2.kind hOw rfl<|FR ho;exact q F2 H2 z _ (e1.stp0.trans st2) S2 rv
def Ge(neg:Bool)(m:AM->Option Mo)(a b:AG):AG:=λY=>match m Y with
 |some (.ok (.bl c) Y')=>if (neg ^^ c)=true then a Y' else b Y'
 |some (.ok _ _)=>none|some (.exc c Y')=>↑(.xc c Y')|none=>none
variable {mm:AM->Option Mo}
def V4{sa sb:kD}(h:tS K E ca mu (Ge neg mm u w) D O H):J3 K E ca mm O H λx H1=>∃c,x=.bl c/\if (neg ^^ c)=true then tS K E ca mu u D O H1 else tS K E ca mu w D O H1:=by
 let(F,Y,R,S,q):=h;refine{F,Y,R,S,?_};unfold Ge at q;cases hm:mm Y with
 |none=>erw[hm]at q<;>symm|some r=>
  erw[hm]at q;cases r with
  |exc c Y'=>exact λF' H' R' s S'=>q F' H' O R' s S'|ok v Y'=>
   cases v with
   |bl c=>
    intro F1 H1 x R1 s1 S1 rx;refine{c,rx.bl_inv,?_}
    have key:∀{nn },(match nn Y' with
      |some (.nx Y')=>∀F' H' O' R',Stp F H (tot R) F' H' (tot R')->StR K F' H' O' Y' R'->D.nx O' H'|some (.bk Y')=>∀F' H' O' R',Stp F H (tot R) F' H' (tot R')->StR K F' H' O' Y' R'->D.bk O' H'|some (.ct Y')=>∀F' H' O' R',Stp F H (tot R) F' H' (tot R')->StR K F' H' O' Y' R'->D.ct O' H'|some (.rt t)=>∀F' H' x B,Stp F H (tot R) F' H' B->Wr K mu F' H' t x B->D.rt x H'|some (.xc c Y')=>∀F' H' O' R',Stp F H (tot R) F' H' (tot R')->StR K F' H' O' Y' R'->XE (E O') ca c F' H'|none=>False)->tS K E ca mu nn D O H1:=λ{nn} q=>by
     refine{F1,Y',R1,S1,?_};cases hr:nn Y' with
     |none=>erw[hr]at q<;>symm|some o=>
      erw[hr]at q;cases o with
      |nx _=>exact λF' H' O' R' s S=>q F' H' O' R' (s1.trans s) S|bk _=>exact λF' H' O' R' s S=>q F' H' O' R' (s1.trans s) S|ct _=>exact λF' H' O' R' s S=>q F' H' O' R' (s1.trans s) S|rt _=>exact λF' H' x B s r=>q F' H' x B (s1.trans s) r|xc _ _=>exact λF' H' O' R' s S=>q F' H' O' R' (s1.trans s) S
    by_cases hc:(neg ^^ c)=true
    .rw[if_pos hc];erw[hc,Æ]at q;exact key q
    .rw[if_neg hc];erw[hc,Ã]at q;exact key q
   |_=>symm
def zn3(he:PE X e<|J3 X.K E ca mm)(ht:∀whole,isTrue e X.env whole=(do let v <- whole;standAt e.pos;holding [v] (truthy v)))(ha:B5 X sa<|tS X.K E ca mu u)(hb:B5 X sb<|tS X.K E ca mu w):PS X (.If e sa sb pos)<|tS X.K E ca mu<|Ge false mm u w:=by
 refine PS.weak (Q7 (Q6 he ht) ha hb) λD O H h=>?_
 have z:=V4 (sa:=sa) (sb:=sb) h;erw[Bool.false_xor]at z;exact z
def zjm(he:PE X e<|J3 X.K E ca mm)(ht:∀whole,isTrue e X.env whole=(do let v <- whole;standAt e.pos;holding [v] (truthy v)))(ha:B5 X sa<|tS X.K E ca mu u)(hb:B5 X sb<|tS X.K E ca mu w):PS X (.If (.UnaryOp .Not e p1) sa sb pos)<|tS X.K E ca mu<|Ge true mm u w:=by
 refine PS.weak (Q7 (Wm<|Q6 he ht) ha hb) λD O H h=>?_
 have z:=V4 (sa:=sa) (sb:=sb) h;erw[Bool.true_xor]at z;exact z
end
abbrev offA(A:Around):Around:={ A with handled:=none }
structure FnS(P:Program)(w:World)(K:k6)(mg:Str->Option Value)(base:Heap)(k:Nat)(f:Addr)(fd:FuncData)(p:Str)(sp:Sp):Prop where
 run:∀(A:Around) (outer:List Env) (s:Shared) (H:Hp) (args:Args) (a:Addr) (Q:VK),A.handled=↑(.ref a)->(∃C,IsX H a C)->Room k (offA A)->Env0 P w K mg base A outer s H->BindsTo s fd args [(p,.ref a)]->sp [.ref a] H Q E0 ->
  codeAny (model P w) A (.call (.ref f) args) (CR LC outer P w H s Q E0) s
structure DefS(P:Program)(w:World)(K:k6)(mg:Str->Option Value)(base:Heap)(k:Nat)(x p:Str)(sp:Sp) where
 f:Addr
 fd:FuncData
 ok:FnS P w K mg base k f fd p sp
 m:mg x=↑(.ref f)
 kp:W.keepIn K (.ref f)=true
 b:C6 K fd [p] []
section
variable {X:Cx}{pq:List<|Addr×Obj}{O:L2.St}{H:Hp}{s:Shared}{a:Addr}{kvs:List<|Key×V}
end
section
variable {X:Cx}
def tDicO:TE:=λ_ H Q=>∀p,H p=none->Q (.ref p) (upd H p<|.dK [])
theorem zkf:PE X (.Dict [] [] pos) tDicO:=λpq s O H Q I h=>by
 refine wpAny_Dict_empty {.ref s.heap.objs.size,_,I.laid (λ_ _ q=>Ð _ q) (Ç _)<|zie s.heap I.big,rfl,h _<|I.hok.fresh<|Ç _}
variable {E:L2.St->XK}{ca:Str->Value}{m mk mv:AH}{e k:Expr}{pos p1 pos2:Pos}{mu:Bool}
end
section
variable {X:Cx}{E:L2.St->XK}{ca:Str->Value}{m mk:AH}{e k:Expr}{pos p1 pos2:Pos}{mu:Bool}{i:Nat}{x:Str}
end
def zoj(hu:X.A.units+64<cLine):Ae X (compareOp .NotEq)<|Be X.K CD:=by
 intro pq s O H x y v u Q I rx ry h;let(F,t1,t2,r,fh,r1,r2,e,q):=h;unfold CD at e;split at e
 .cases e;rename_i hc;unfold HB E2 at hc;rw[È,È,È,È,ë]at hc;let(a1,q1):=Gh I fh (r1.any) hc.1.1.1 rx;let(a2,q2):=Gh I fh (r2.any) hc.1.2.1 ry;exact SeqAt.compareNe_reads q1 q2 hc.1.1.2 hc.1.2.2 (dH hu hc.2) {.bl _,H,I,rfl,q.bl fh}
 .cases e
def StR.frz{K }       (S:StR K F H O Y R)(ht:Y[i]?=↑↑t):StR K (Pu.frz F H<|R i) H O (Y.set i ↑t.share) (λj=>if j=i then R0 else R j):=by
 let(x,ex,r):=S.rep i t ht;have hi:i<Y.length:=(Ñ.mp ht).1;have n:∀a,R i a->F a=none:=λa z=>(r.dom z).1
 refine{Hk S.fh,by simpa using S.len,λj t' e=>?_,λj a z=>?_,λj k a hjk z1 z2=>?_}
 .by_cases hj:j=i
  .subst hj;rw[é hi]at e;cases e;exact{x,ex,by simpa using r.share (Ed n) λa u z q=>by rw[EI z];exact q}
  .rw[æ<|Î hj]at e;let(y,e1,r1):=S.rep j t' e;refine{y,e1,?_};erw[hj,Ã]
   exact r1.frame (Ed n) λa z=>{rfl,by
    rw[Ec<|λz'=>S.dis j i a hj z z']
    exact(r1.dom z).1}
 .by_cases hj:j=i
  .erw[hj,Æ]at z;exact z.elim
  .erw[hj,Ã]at z;let(t',e):=S.out j a z;exact{t',by rw[æ<|Î hj];exact e}
 .by_cases hj:j=i
  .erw[hj,Æ]at z1;exact z1.elim
  .by_cases hk:k=i
   .erw[hk,Æ]at z2;exact z2.elim
   .erw[hj,Ã]at z1;erw[hk,Ã]at z2;exact S.dis j k a hjk z1 z2
open Classical in
def FK(A:Rg)(F:Hp):Hp:=λa=>if A a then none else F a
section
variable {X:Cx}{E:L2.St->XK}{ca:Str->Value}{O:L2.St}{H:Hp}{K:k6}{u w:AG}{D:Ends}
end
def ZM{fs:kE}{xs}{f}:∀{j} {x:V},fs.findIdx? (· == f)=↑j->xs[j]?=↑x->(fs.zip xs).lookup f=↑x:=by
 induction fs generalizing xs with
 |nil=>intro j x h;simp at h|cons g r ih=>
  intro j x h hx;rw[Ż]at h;cases xs with
  |nil=>simp at hx|cons y ys=>
   rw[Ĵ,å]
   by_cases hg:g=f
   .subst hg;erw[ì,Æ,ŧ]at h;subst h;simp at hx;rw[ì,hx]
   .have h1:(g == f)=false:=beq_eq_false_iff_ne.mpr hg;have h2:(f == g)=false:=beq_eq_false_iff_ne.mpr<|Î hg;rw[h1]at h;erw[Ā,Ã,Ö]at h;let(j',h3,rfl):=h;rw[h2];exact ih h3<|by simpa using hx
def zap{fs:kE}{xs:kK}(h:fs.contains f=false):(fs.zip xs).lookup f=none:=by
 induction fs generalizing xs with
 |nil=>rfl|cons g r ih=>
  cases xs with
  |nil=>rfl|cons y ys=>rw[List.contains_cons,Ĉ]at h;rw[Ĵ,å,h.1];exact ih h.2
def Rp.obj_inv{K}(h:Rp K F H (.obj k l) x A):∃p xs,x=.ref p/\A=R0/\Ky F k p xs/\l.length=xs.length/\∀(i:Nat) (t) (x),l[i]?=↑t->xs[i]?=↑x->Rp K F H t x R0:=by
 cases h with
 |obj h e c=>exact{_,_,rfl,rfl,h,e,c}
def DP(C:Addr)(fs:kE):T->Option (kL)
 |.obj (.ins C' fs') l=>if C'=C/\fs'=fs then ↑l else none
 |_=>none
def Zt(h:DP C fs t=↑l):t=.obj (.ins C fs) l:=by
 unfold DP at h
 grind
def CF(C:Addr)(fs:kE)(j:Nat)(m:AH):AH:=λY=>match m Y with
 |some (.v t b)=>(match DP C fs t with
  |some l=>(match l[j]? with
   |some u=>↑(.v u<|b && !u.sh)|none=>none)
  |none=>none)
 |some (.x c)=>↑(.x c)|none=>none
def Dw(C:Addr)(fs:kE)(g:kL->Option Ru)(m:AH)(ms:As):AH:=λY=>match m Y with
 |some (.v t _)=>(match DP C fs t with
  |some _=>(match ms Y with
   |some (.v ts b)=>(match g (t.share::ts) with
    |some (.ok v)=>Aw b v|some (.exc c)=>K2 true c|none=>none)
   |some (.x c)=>↑(.x c)|none=>none)
  |none=>none)
 |some (.x c)=>↑(.x c)|none=>none
def DO(m n:AH):AH:=λY=>match m Y with
 |some r=>↑r|none=>n Y
section
variable {X:Cx}{E:L2.St->XK}{ca:Str->Value}{m n:AH}{ms:As}{e o:Expr}{es:kC}{pos p apos:Pos}{C:Addr}{fs:kE}{f:Str}{j:Nat}
theorem Q4(h1:PE X e<|tM X.K E ca m)(h2:PE X e<|tM X.K E ca n):PE X e<|tM X.K E ca<|DO m n:=λpq s O H Q I h=>by
 let(F,Y,R,S,q):=h;unfold DO at q;cases hm:m Y with
 |none=>rw[hm]at q;exact h2 pq s O H Q I {(F),Y,R,S,q}|some r=>rw[hm]at q;exact h1 pq s O H Q I {F,Y,R,S,by rw[hm];exact q}
def M7{K}(g:Dh K F H R (.obj k l) b x B):Rp K F H (.obj k l) x R0/\B=R0:=by
 cases b with
 |true=>let(hB,A,_,r):=g;let(p,xs,rfl,hA,_):=r.obj_inv;exact{hA▸r,hB}
 |false=>have r:Rp K F H (.obj k l) x B:=g;let(p,xs,rfl,hA,_):=r.obj_inv;exact{hA▸r,hA}
def r_fld(c:Cls X.K C)(hn:C4 X.K C f)(hj:fs.findIdx? (· == f)=↑j)(ho:PE X o<|tM X.K E ca m)(hb:attributeBase o f X.env (eval o X.env)=eval o X.env):PE X (.Attribute o f pos)<|tM X.K E ca<|CF C fs j m:=by
 refine PE.weak (Wv ho hb) λO H Q h=>?_
 let(F,Y,R,S,q):=h;refine{F,Y,R,S,?_};unfold CF at q;cases hm:m Y with
 |none=>erw[hm]at q<;>symm|some r=>
  erw[hm]at q;cases r with
  |x c=>exact q|v t b=>
   intro F1 H1 x B e1 g1;cases hi:DP C fs t with
   |none=>erw[hi]at q<;>symm|some l=>
    erw[hi]at q;have ht:=Zt hi;subst ht;cases hu:l[j]? with
    |none=>erw[hu]at q<;>symm|some u=>
     erw[hu]at q;let(r1,hB):=M7 g1;subst hB;let(a,xs,rfl,_,(dx,hF),el,cc):=r1.obj_inv;have hjl:=(Ñ.mp hu).1;have hx:xs[j]?=↑xs[j]:=Â<|by lia
     have hc:=cc j u _ hu hx;refine{a,_,dx,_,xs[j],rfl,e1.fh _ _ hF,c,hn,ZM hj hx,?_};refine q F1 H1 _ R0 e1 ?_;cases b with
     |false=>exact hc|true=>
      cases hs:u.sh with
      |true=>exact hc|false=>exact{rfl,R0,λ_ z=>z.elim,hc}
structure MetX(P:Program)(w:World)(K:k6)(mg:Str->Option Value)(base:Heap)(C:Addr)(m:Str)(k:Nat)(ps:kE)(sp:Sp) where
 f:Addr
 fd:FuncData
 c:Cls K C
 me:Meth K C m f
 ok:FnOk P w K mg base (DA P w) k f fd ps sp
 b:C6 K fd ps []
def OQ(C:Addr)(m:Str)(sp:Sp)(E:L2.St->XK)(ta:TE)(t:TA):TE:=λO H Q=>ta O H λx H1=>∃a dx fs,x=.ref a/\H1 a=↑(.ins C dx fs)/\fs.lookup m=none /\
 t O H1 λvs H2=>sp (x::vs) H2 Q<|E O
def pmx(D:MetX X.prog X.w X.K X.mg X.base C f k ps sp)(hr:Room j X.A)(hx:Cy X E)(he:PE X o ta)(ha:PA X (e::es) t)(hk:k<=j)
  (hst:starEach (e::es) X.env=(false,eval e X.env)::starEach es X.env) (hpl:(backTo pos<|starEach es X.env).any (·.1)=false)
  (ht : eval (.Call (.Attribute o f apos) (e :: es) [] pos) X.env = (do
   let ov <- eval o X.env
   standAt apos.atName
   let (f,first) <- holding [ov] (getMethod ov f pl)
   callWith pos f first (backTo pos<|starEach (e::es) X.env) (backToKw pos<|keywordEach [] X.env))):PE X (.Call (.Attribute o f apos) (e::es) [] pos)<|OQ C f sp E ta t:=by
 intro pq s O H Q I h;refine W.methodCall_KW (pl:=pl) (AX (he pq s O H _ I h) λu s1 zz=>?_) ht
 let(x,H1,I1,rx,a,dx,fs,ex,ea,l,q):=zz;subst ex;obtain rfl:u=Value.ref a:=rx;refine aC I1 ea D.c D.me l ?_;refine Ź (first:=[.ref a]) (h₀:=X.base) I.ok.mod.kin D.me.kp (AX (ha pos pq s1 O H1 _ I1 q) λus s2 ⟨vs,H2,I2,r,q2⟩=>{I2.kIn,?_}) hst hpl
 exact QK (us:=.ref a::us) (vs:=.ref a::vs) (dvs:=[]) D.ok (hr.mono hk) D.b .nil hx I2 (.cons rfl r) (by rw[ā];exact q2)
def pmx0(D:MetX X.prog X.w X.K X.mg X.base C f k ps sp)(hr:Room j X.A)(hx:Cy X E)(he:PE X o ta)(hk:k<=j)
  (ht : eval (.Call (.Attribute o f apos) [] [] pos) X.env = (do
   let ov <- eval o X.env
   standAt apos.atName
   let (f,first) <- holding [ov] (getMethod ov f pl)
   callWith pos f first (backTo pos<|starEach [] X.env) (backToKw pos<|keywordEach [] X.env))):PE X (.Call (.Attribute o f apos) [] [] pos)<|OQ C f sp E ta VR:=by
 intro pq s O H Q I h;refine W.methodCall_KW (AX (he pq s O H _ I h) λu s1 zz=>?_) ht
 let(x,H1,I1,rx,a,dx,fs,ex,ea,l,q):=zz;subst ex;obtain rfl:u=Value.ref a:=rx;refine aC I1 ea D.c D.me l ?_;exact W.callWith_K0 I1.kIn D.me.kp<|QK (vs:=[.ref a]) D.ok (hr.mono hk) D.b .nil hx I1 (.cons rfl .nil) q
def VV(hf:fs.contains f=false)(h:tM X.K E ca (Dw C fs g m ms) O H Q):OQ C f (Bb X.K ca g) E (tM X.K E ca m) (CK X.K E ca ms) O H Q:=by
 let(F,Y,R,S,q):=h;refine{F,Y,R,S,?_};unfold Dw at q;cases hm:m Y with
 |none=>erw[hm]at q<;>symm|some r=>
  erw[hm]at q;cases r with
  |x c=>exact q|v t b=>
   intro F1 H1 x B e1 g1;cases hi:DP C fs t with
   |none=>erw[hi]at q<;>symm|some l=>
    erw[hi]at q;have ht:=Zt hi;subst ht;let(r1,hB):=M7 g1;subst hB;have S1:=S.ext e1;let(a,xs,rfl,_,(dx,hF),el,cc):=r1.obj_inv;refine{a,dx,_,rfl,e1.fh _ _ hF,zap hf,F1,Y,R,S1,?_};cases hs:ms Y with
    |none=>erw[hs]at q<;>symm|some r=>
     erw[hs]at q;cases r with
     |x c=>exact λF' H' e=>q F' H' (e1.trans0 e)|v ts b'=>
      intro F2 H2 vs e2 rs;have S2:=S1.ext e2;simp only at q;have r2:Rp X.K (Gz b' F2 H2 R) H2 (T.obj (.ins C fs) l).share (.ref a) R0:=(r1.ext e2).share (M6 S2) λ_ _ z=>z.elim
      refine{Gz b' F2 H2 R,_,Sa S2,.cons r2 rs,?_};have e12:=e1.trans0 e2;cases hg:g ((T.obj (.ins C fs) l).share::ts) with
      |none=>erw[hg]at q<;>symm|some r=>
       erw[hg]at q;cases r with
       |exc c=>
        erw[K2]at q;cases hp:GF c with
        |none=>rw[hp]at q;exact λF' H' e3=>(q F2 H'<|e12.grow e3.hh).any hp|some n=>rw[hp]at q;symm
       |ok v=>
        intro F3 H3 z C3 e3 r3;simp only at q;unfold Aw at q;cases b' with
        |false=>exact q F3 H3 z C3 (e12.trans0 e3) r3|true=>
         cases hf:v.flat with
         |false=>rw[hf]at q;cases q|true=>rw[hf]at q;exact q F2 H3 z R0 (e12.grow e3.hh)<|r3.flat_any hf
theorem zni(D:MetX X.prog X.w X.K X.mg X.base C f k ps<|Bb X.K ca g)(hf:fs.contains f=false)(hr:Room j X.A)(hx:Cy X E)(he:PE X o<|tM X.K E ca m)(ha:PA X (e::es)<|CK X.K E ca ms)(hk:k<=j)
  (hst:starEach (e::es) X.env=(false,eval e X.env)::starEach es X.env) (hpl:(backTo pos<|starEach es X.env).any (·.1)=false)
  (ht : eval (.Call (.Attribute o f apos) (e :: es) [] pos) X.env = (do
   let ov <- eval o X.env
   standAt apos.atName
   let (f,first) <- holding [ov] (getMethod ov f pl)
   callWith pos f first (backTo pos<|starEach (e::es) X.env) (backToKw pos<|keywordEach [] X.env))):PE X (.Call (.Attribute o f apos) (e::es) [] pos)<|tM X.K E ca<|Dw C fs g m ms:=
 PE.weak (pmx D hr hx he ha hk hst hpl ht) λO H Q h=>VV hf h
structure NewX(P:Program)(w:World)(K:k6)(mg:Str->Option Value)(base:Heap)(x:Str)(C:Addr)(k:Nat)(ps:kE)(sp:Sp) where
 f:Addr
 fd:FuncData
 m:mg x=↑(.ref C)
 ma:Mk K C f
 ok:FnOk P w K mg base (DA P w) k f fd ps sp
def zmm(C:Addr)(sp:Sp)(dvs:kK)(E:L2.St->XK)(t:TA):TE:=λO H Q=>t O H λvs H1=>∀x dx,H1 x=none->H1 dx=none->dx≠x ->
 sp (.ref x::(vs++dvs)) (upd (upd H1 dx<|.own x) x<|.ins C dx []) (λv H2=>v=.non/\Q (.ref x) H2) (E O)
def pnx{x:Str}{t:TA}(D:NewX X.prog X.w X.K X.mg X.base x C k ps sp)(hb:C6 X.K D.fd ps ds)(hd:Ac dvs ds)(hr:Room j X.A)(hx:Cy X E)(ha:PA X (e::es) t)(hk:k+1<=j)(hg:Gl X x)(hdb:(x == ("__debug__":Str))=false)
  (he:starEach (e::es) X.env=(false,eval e X.env)::starEach es X.env) (hpl:(backTo pos<|starEach es X.env).any (·.1)=false):PE X (.Call (.Name x p) (e::es) [] pos)<|zmm C sp dvs E t:=by
 intro pq s O H Q I h;refine ę<|MW I hg D.m ?_ hdb;refine Ź I.ok.mod.kin D.ma.kp (AX (ha pos pq s O H _ I h) λus s1 ⟨vs,H1,I1,r,q⟩=>{I1.kIn,?_}) he hpl
 have hq:=q (s1.heap.objs.size+1) s1.heap.objs.size (I1.hok.fresh<|Đ _) (I1.hok.fresh<|Ç _)<|Õ<|Ė _;have I2:=Inv.made (C:=C) I1;have r2:Ac (V.ref (s1.heap.objs.size+1)::(vs++dvs))<|Value.ref (s1.heap.objs.size+1)::(us++ds):=.cons rfl<|r.append hd
 have hl :=by
  have e:=r2.length;rw[D.ok.len _ _ _ _ hq]at e;exact e.symm
 refine ĩ (zhn I1.kIn D.ma.makes D.ma.init (beq_iff_eq.mp D.ma.fn) (ą (D.ok.run _ X.stack _ _ {Value.ref (s1.heap.objs.size+1)::us,[]} (Value.ref (s1.heap.objs.size+1)::(us++ds)) _ _ (E O) ((hr.mono hk).make C us [])
  (I2.env0.make C us []) (hb _ (Value.ref (s1.heap.objs.size+1)::us) I2.kIn hl) r2 hq) λr s' hq'=>?_))
 cases r with
 |error v=>exact hx pq O _ _ v s' I2 hq'|ok fl=>
  cases fl with
  |ret u=>let(v,H',I3,rv,ev,q3):=I2.after hq';subst ev;exact{rv,{V.ref<|s1.heap.objs.size+1,H',I3,rfl,q3}}
  |next=>exact False.elim hq'|brk=>exact False.elim hq'|cont=>exact False.elim hq'
def J6(K:k6)(ca:Str->Value)(C:Addr)(g:kL->Option Ru):Sp:=λvs H Q E=>∃F p dx ts vs',A4 F H/\vs=.ref p::vs'/\F p=none/\H p=↑(.ins C dx [])/\Ah K F ts vs'/\match g ts with
 |some (.ok t)=>∀F' H',Stp F H (λa=>a=p) F' H' R0->Rp K F' H' t (.ref p) R0->Q .non H'|some (.exc c)=>∀F' H',Stp F H (λa=>a=p) F' H' R0->XE E ca c F' H'|none=>False
def Ic(g:kL->Option Ru)(ds:kL)(ms:As):AH:=λY=>match ms Y with
 |some (.v ts false)=>(match g (ts++ds) with
  |some (.ok t)=>↑(.v t false)|some (.exc c)=>↑(.x c)|none=>none)
 |some (.v _ true)=>none|some (.x c)=>↑(.x c)|none=>none
def r_new{k j:Nat}{x:Str}(D:NewX X.prog X.w X.K X.mg X.base x C k ps<|J6 X.K ca C g)(hb:C6 X.K D.fd ps ds)(hd:Ac dvs ds)(hdt:∀F:Hp,Ah X.K F dts dvs)(hr:Room j X.A)(hx:Cy X E)(ha:PA X (e::es)<|CK X.K E ca ms)(hk:k+1<=j)(hg:Gl X x)(hdb:(x == ("__debug__":Str))=false)
  (he:starEach (e::es) X.env=(false,eval e X.env)::starEach es X.env) (hpl:(backTo pos<|starEach es X.env).any (·.1)=false):PE X (.Call (.Name x p) (e::es) [] pos)<|tM X.K E ca<|Ic g dts ms:=by
 refine PE.weak (pnx D hb hd hr hx ha hk hg hdb he hpl) λO H Q h=>?_
 let(F,Y,R,S,q):=h;refine{F,Y,R,S,?_};unfold Ic at q;cases hs:ms Y with
 |none=>erw[hs]at q<;>symm|some r=>
  erw[hs]at q;cases r with
  |x c=>exact q|v ts b=>
   cases b with
   |true=>exact λF1 H1 xs e1 rs=>q.elim|false=>
    intro F1 H1 xs e1 rs a dx ha hdx hne;simp only at q;have rs' :=rs
    have key:∀F' H',Stp F1 (upd (upd H1 dx<|.own a) a<|.ins C dx []) (λb=>b=a) F' H' R0->Ext F H F' H' R0:=λF' H' st=>by
     refine e1.trans0 {λb u z=>?_,st.ff,st.fh,λ_ z=>z.elim,λb u z=>?_}
     .have h1 :=Cr z ha;have h2 :=Cr z hdx;exact st.kp b u h1 (by rw[An h1,An h2];exact z)
     .rcases st.nf b u z with w|w|w
      .exact .inl w
      .rw[w];exact .inr ha
      .by_cases h1:b=a
       .rw[h1];exact .inr ha
       .by_cases h2:b=dx
        .rw[h2];exact .inr hdx
        .rw[An h1,An h2]at w;exact .inr w
    have fh2:A4 F1<|upd (upd H1 dx<|.own a) a<|.ins C dx []:=λb u z=>by
     have z':=e1.fh b u z;rw[An<|Cr z' ha,An<|Cr z' hdx];exact z'
    refine{F1,a,dx,ts++dts,xs++dvs,fh2,rfl,GJ e1.fh ha,CJ,Lp rs'<|hdt F1,?_};cases hg:g (ts++dts) with
    |none=>erw[hg]at q<;>symm|some r=>
     erw[hg]at q;cases r with
     |exc c=>exact λF' H' st=>q F' H' (key F' H' st)|ok t=>exact λF' H' st r=>{rfl,q F' H' _ R0 (key F' H' st) r}
end
def GG(Y:AM)(i:Nat)(C:Addr)(fs:kE):Option<|Addr×kL:=match Y[i]? with
 |some (↑(.oob p C' fs' l))=>if C'=C/\fs'=fs then ↑(p,l) else none
 |_=>none
def Qg(h:GG Y i C fs=↑(p,l)):Y[i]?=↑(↑(.oob p C fs l)):=by
 unfold GG at h;split at h
 .rename_i q;split at h
  .rename_i hc;cases h;rw[q,hc.1,hc.2]
  .cases h
 .cases h
def ES(C:Addr)(fs:kE)(j i:Nat)(m:AH):AG:=λY=>match m Y with
 |some (.v t false)=>(match GG Y i C fs with
  |some (p,l)=>if l.length=j then ↑(.nx<|Y.set i<|↑(.oob p C fs<|l++[t])) else none
  |none=>none)
 |some (.v _ true)=>none|some (.x c)=>↑(.xc c Y)|none=>none
def Jj:kH->Option (kE×kL)
 |some (.osd ks l)=>↑(ks,l)|_=>none
def zdz(h:Jj o=↑(ks,l)):o=↑(.osd ks l):=by
 unfold Jj at h
 grind
open Classical in
def Jb(C:Addr)(fs:kE)(j i:Nat)(mk m:AH):AG:=λY=>match m Y with
 |some (.v t false)=>(match GG Y i C fs with
  |some (p,l)=>(match Jj l[j]? with
   |some (ks,lv)=>(match mk Y with
    |some (.v (.str k) _)=>if k∉ks/\ks.length<100000 then ↑(.nx<|Y.set i<|↑(.oob p C fs<|l.set j<|.osd (ks++[k])<|lv++[t.share])) else none
    |some (.v _ _)=>none|some (.x c)=>↑(.xc c Y)|none=>none)
   |none=>none)
  |none=>none)
 |some (.v _ true)=>none|some (.x c)=>↑(.xc c Y)|none=>none
def MS:AH:=λ_=>↑(.v (.osd [] []) false)
def Wl{y:V}:∀{fs:kE} {xs:kK},fs[xs.length]?=↑f->(fs.take xs.length).contains f=false->DX f y (fs.zip xs)=fs.zip (xs++[y])
 |[],xs,h,_=>by simp at h|g::r,[],h,_=>by
  simp at h;subst h;simp[DX]
 |g::r,x::xs,h,hn=>by
  rw[Ø,List.take_succ_cons,List.contains_cons,Ĉ]at hn
  have hg:¬ g=f:=λz=>by
   grind
  have ih:=Wl (y:=y) (by simpa using h) hn.2
  rw[Ĵ,Ū,Ĵ];show(if g=f then _ else _)=_
  grind
section
variable {K:k6}{F H:Hp}{C:Addr}{fs:kE}{l:kL}
def Rp.oob_inv(h:Rp K F H (.oob p C fs l) x A):∃dx xs Rr,x=.ref p/\A=(λa=>a=p\/∃j,Rr j a)/\F p=none/\H p=↑(.ins C dx<|fs.zip xs)/\RpO K F H l xs Rr/\∀j,¬ Rr j p:=by
 cases h with
 |oob R f h e c d dp o=>exact{_,_,R,rfl,rfl,f,h,{(e),c,d,o},dp}
theorem XB(r:RpO K F H l xs Rr)(f:F p=none)(h:H p=↑(.ins C dx<|fs.zip xs))(dp:∀j,¬ Rr j p):Rp K F H (.oob p C fs l) (.ref p) (λa=>a=p\/∃j,Rr j a):=.oob Rr f h r.len r.rep r.dis dp r.out
def Rp.osd_inv(h:Rp K F H (.osd ks l) x A):∃p xs Rs,x=.ref p/\A=(λa=>a=p\/∃j,Rs j a)/\F p=none/\H p=↑(.dK<|Cf ks xs)/\RpO K F H l xs Rs/\ks.length=xs.length/\∀j,¬ Rs j p:=by
 cases h with
 |osd R f h e ek c d dp o=>exact{_,_,R,rfl,rfl,f,h,{(e),c,d,o},ek,dp}
theorem zoa(r:RpO K F H l xs Rr)(ek:ks.length=xs.length)(f:F p=none)(h:H p=↑(.dK<|Cf ks xs))(dp:∀j,¬ Rr j p):Rp K F H (.osd ks l) (.ref p) (λa=>a=p\/∃j,Rr j a):=.osd Rr f h r.len ek r.rep r.dis dp r.out
theorem zhg(r:RpO K F H l xs Rr)(ek:ks.length=xs.length)(f:F p=none)(dp:∀j,¬ Rr j p)(rt:Rp K F H t y B)(dB:∀j a,Rr j a->¬ B a)(pB:¬ B p):Rp K F (upd H p<|.dK<|Cf (ks++[k])<|xs++[y]) (.osd (ks++[k])<|l++[t]) (.ref p) (λa=>a=p\/∃j,(if j=l.length then B else Rr j) a):=
 zoa ((r.upd dp).snoc (rt.upd pB) dB) (by simp[ek]) f CJ λj z=>by
  by_cases hj:j=l.length
  .erw[hj,Æ]at z;exact pB z
  .erw[hj,Ã]at z;exact dp j z
end
def zlf(h:ks.length=xs.length):(Cf ks xs).length=xs.length:=by
 unfold Cf;rw[List.length_zipWith,h,Nat.min_self]
def zlg(h:kv∈Cf ks xs):∃k∈ks,kv.1=Sum.inr k:=by
 induction ks generalizing xs with
 |nil=>cases xs<;>cases h|cons a r ih=>
  cases xs with
  |nil=>cases h|cons b s=>
   unfold Cf at h;rw[List.zipWith_cons_cons]at h
   rcases Ê.mp h with e|e
   .exact{a,Í ..,by rw[e]}
   .let(k,hk,e):=ih (xs:=s) e;exact{k,É _ hk,e}
def zh5(h:ks.length=xs.length)(hk:k∉ks):EU (Cf ks xs) (Sum.inr k) y=Cf (ks++[k]) (xs++[y]):=by
 unfold EU;rw[if_neg]
 .unfold Cf;rw[List.zipWith_append h]
  rfl
 .intro c;let(kv,h1,h2):=Δ.mp c;let(k',h3,h4):=zlg h1
  grind
section
variable {X:Cx}{E:L2.St->XK}{ca:Str->Value}{m mk:AH}{e k:Expr}{pos p1 pos2 pos3:Pos}{mu:Bool}{i j:Nat}{x f:Str}{C:Addr}{fs:kE}
theorem znm:PE X (.Dict [] [] pos)<|tM X.K E ca MS:=PE.weak zkf λO H Q h p hp=>by
 let(F,Y,R,S,q):=h;exact q F (upd H p<|.dK []) (.ref p) _ (Ext.newO S.fh hp) (Rp.osd0 (xs:=[]) (GJ S.fh hp) CJ rfl rfl λi t x h=>by simp at h)
def zn5(c:Cls X.K C)(hn:C4 X.K C f)(hj:fs[j]?=↑f)(hnf:(fs.take j).contains f=false)(hjl:j<900)(hN:X.N[i]?=↑x)(hv:Ef X.env.scope x)(hd:(x == "__debug__")=false)(hcd:(x == "__classdict__")=false)(he:PE X e<|tM X.K E ca m)
  (hs:swapsWith e (↑(.Attribute (.Name x p1) f pos2)) pos.line X.env=pure false):PS X (.Assign [.Attribute (.Name x p1) f pos2] e pos)<|tS X.K E ca mu<|ES C fs j i m:=by
 refine PS.weak (znu (Gk hN hv hd hcd) he hs) λD O H h=>?_
 let(F,Y,R,S,q):=h;refine{F,Y,R,S,?_};unfold ES at q;cases hm:m Y with
 |none=>erw[hm]at q<;>symm|some r=>
  erw[hm]at q;cases r with
  |x c=>exact λF' H' e=>q F' H' O R e.stp0 (S.ext e)|v t bb=>
   cases bb with
   |true=>exact λF1 H1 y B e1 g1=>q.elim|false=>
    intro F1 H1 y B e1 g1;have g1':Rp X.K F1 H1 t y B:=g1;simp only at q;cases ho:GG Y i C fs with
    |none=>erw[ho]at q<;>symm|some pl=>
     let(p,l):=pl;erw[ho]at q
     by_cases hl:l.length=j
     .rw[if_pos hl]at q;have S1:=S.ext e1;have ht:=Qg ho;let(y2,ey,ry):=S.rep i _ ht;let(dx,xs,Rr,rfl,hA,fp,hp,ro,dp):=ry.oob_inv;have hxs:xs.length=j:=by rw[<- ro.len];exact hl
      have hp1:=e1.hh _ _ hp;have pB:¬ B p:=λz=>by rw[e1.nb p z]at hp;cases hp
      have fp1:F1 p=none:=(ry.ext e1 |>.dom (by rw[hA];exact .inl rfl)).1
      refine{_,ey,p,C,dx,fs.zip xs,rfl,hp1,c,hn,?_,?_}
      .rw[List.length_zip]
       lia
      .rw[Wl (by rw[hxs];exact hj) (by rw[hxs];exact hnf)]
       have ro1:=ro.ext e1;have ro2:RpO X.K F1 (upd H1 p<|.ins C dx<|fs.zip<|xs++[y]) (l++[t]) (xs++[y]) _:=(ro1.upd dp).snoc (g1'.upd pB) λj a z1 z2=>ro.apart e1 z2 j z1
       have dp2:∀j,¬ (if j=l.length then B else Rr j) p:=λj z=>by
        by_cases hj:j=l.length
        .erw[hj,Æ]at z;exact pB z
        .erw[hj,Ã]at z;exact dp j z
       have r2:=XB (C:=C) (fs:=fs) ro2 fp1 CJ dp2
       let(S3,st3):=S1.upd ht ey (by rw[hA];exact .inl rfl) r2 (B:=B) (λa z=>by
        rw[hA]
        rcases z with z|z
        .exact .inl<|.inl z
        .rcases Vp z with w|w
         .exact .inl<|.inr w
         .exact .inr w)<|λj a z1 z2=>S.apart e1 z2 j z1
       exact q F1 _ O _ (e1.stp.trans st3) S3
     .rw[if_neg hl]at q;symm
def rSetS:UJ:=λo i v H Q=>∃p kvs k,o=.ref p/\i=.str k/\H p=↑(.dK kvs)/\kvs.length<sizeLine/\Q (upd H p<|.dK<|EU kvs (Sum.inr k) v)
def zgv(hu:X.A.units+1<cLine):UU X rSetS:=by
 intro pq s O H o i v ov iv u Q I ro ri rv h;let(p,kvs,k,rfl,rfl,hp,hl,q):=h;cases ro;exact zfu hu I (Nl.k (k:=Sum.inr k) hp hl) (ri) rv λs' I'=>{_,I',q}
def Ir{K}(g:Dh K F H R (.str z) b y B):y=.str z:=by
 cases b with
 |true=>let(_,A,_,r):=g;exact r.str_inv
 |false=>exact(g).str_inv
def s_dpf(hu:X.A.units+1<cLine)(c:Cls X.K C)(hn:C4 X.K C f)(hj:fs.findIdx? (· == f)=↑j)(hN:X.N[i]?=↑x)(hv:Ef X.env.scope x)(hd:(x == ("__debug__":Str))=false)(hcd:(x == "__classdict__")=false)(he:PE X e<|tM X.K E ca m)(hk:PE X k<|tM X.K E ca mk)
  (hs:swapsWithSole [.Subscript (.Attribute (.Name x p1) f pos3) k pos2] e pos.line X.env=pure false) (hw:swappedStores [.Subscript (.Attribute (.Name x p1) f pos3) k pos2] e X.env=pure none)
  (ha : ∀ v, assign (.Subscript (.Attribute (.Name x p1) f pos3) k pos2) X.env v = (do
   let ov <- holding [v]<|eval (.Attribute (.Name x p1) f pos3) X.env;let iv <- holding [v,ov] (eval k X.env)
   standAt pos2
   holding [v,ov,iv] (setItem ov iv v)
   release [v,ov,iv] [])) :
  PS X (.Assign [.Subscript (.Attribute (.Name x p1) f pos3) k pos2] e pos) (tS X.K E ca mu<|Jb C fs j i mk m):=by
 refine PS.weak (Lx he (Qc (Wv (Gk hN hv hd hcd) rfl) hk (zgv hu) ha) hs hw rfl) λD O H h=>?_
 let(F,Y,R,S,q):=h;refine{F,Y,R,S,?_};unfold Jb at q;cases hm:m Y with
 |none=>erw[hm]at q<;>symm|some r=>
  erw[hm]at q;cases r with
  |x c=>exact λF' H' e=>q F' H' O R e.stp0 (S.ext e)|v t bb=>
   cases bb with
   |true=>exact λF1 H1 y B e1 g1=>q.elim|false=>
    intro F0 H1 y B e0 g0;simp only at q;let(F1,e1,_,g1):=Dh.frz S e0 g0;have g1':Rp X.K F1 H1 t.share y R0:=(g1).any;cases ho:GG Y i C fs with
    |none=>erw[ho]at q<;>symm|some pl=>
     let(p,l):=pl;erw[ho]at q;cases hos:Jj l[j]? with
     |none=>erw[hos]at q<;>symm|some kl=>
      let(ks,lv):=kl;erw[hos]at q;have hlj:=zdz hos;have S1:=S.ext e1;have ht:=Qg ho;let(y2,ey,ry):=S1.rep i _ ht;let(dx,xs,Rr,rfl,hA,fp,hp,ro,dp):=ry.oob_inv;have hjl:=(Ñ.mp hlj).1;have hjx:j<xs.length:=by rw[<- ro.len];exact hjl
      have hx :=Â hjx;refine{_,ey,p,C,dx,_,xs[j],rfl,hp,c,hn,ZM hj hx,F1,Y,R,S1,?_};cases hkk:mk Y with
      |none=>erw[hkk]at q<;>symm|some r=>
       erw[hkk]at q;cases r with
       |x c=>exact λF' H' e=>q F' H' O R ((e1.stp0).trans e.stp0) (S1.ext e)|v tk bk=>
        cases tk with
        |str kk=>
         simp only at q
         by_cases hc:kk∉ks/\ks.length<100000
         .rw[if_pos hc]at q;intro F2 H2 z CC e2 g2;have hz:=Ir g2;subst hz;have e2':Ext F1 H1 F2 H2 R0:=e2.mono λ_ z=>z.elim
          have S2:=S1.ext e2;have ry2:=ry.ext e2;have ro2:=ro.ext e2;have fp2 :=(ry2.dom (by rw[hA];exact .inl rfl)).1
          have hp2:=e2.hh _ _ hp;have rk:=ro2.rep j _ _ hlj hx;let(pd,ys,Rs,exj,hAd,fpd,hpd,rs,ek,ds):=rk.osd_inv;have g2' :=g1'.ext e2;have pdj:Rr j pd:=by rw[hAd];exact .inl rfl
          have pne:pd≠p:=λz=>dp j<|z▸pdj
          refine{pd,Cf ks ys,kk,exj,rfl,hpd,?_,?_}
          .rw[zlf ek,<- ek,đ];exact ļ hc.2<|by decide
          .rw[zh5 ek hc.1];have r3:=zhg (k:=kk) rs ek fpd ds (g2'.any (H':=H2)) (λ_ _ _ z=>z.elim)<|λz=>z.elim
           have hE:(λa=>a=pd\/∃j,(if j=lv.length then R0 else Rs j) a)=Rr j:=by
            rw[hAd]
            funext a
            apply propext;constructor
            .rintro(z|⟨j,z⟩)
             .exact .inl z
             .split at z
              .exact z.elim
              .exact .inr {(j),z}
            .rintro(z|⟨j,z⟩)
             .exact .inl z
             .exact .inr {j,by rw[if_neg<|Õ<|rs.out j a z];exact z}
           rw[hE]at r3;have oth :=λk hk z=>ro2.dis k j pd hk z pdj
           have ro3:RpO X.K F2 (upd H2 pd<|.dK<|Cf (ks++[kk])<|ys++[y]) (l.set j<|.osd (ks++[kk])<|lv++[t.share]) xs Rr:=by
            refine{by rw[Ů];exact ro2.len,λk t' x' h1 h2=>?_,ro2.dis,λk a z=>by rw[Ů];exact ro2.out k a z}
            by_cases hk:k=j
            .subst hk;rw[é hjl]at h1;rw[hx]at h2;cases h1;cases h2;rw[exj];exact r3
            .rw[æ<|Î hk]at h1;exact(ro2.rep k t' x' h1 h2).upd (oth k hk)
           have r4:=XB ro3 fp2 (by rw[An<|Î pne];exact hp2) dp
           let(S3,st3):=S2.upd ht ey (by rw[hA];exact .inr {(j),pdj}) r4 (λa z=>.inl (by rw[hA];exact z))<|λj a z1 z2=>z2
           exact q F2 _ O _ ((e1.stp.trans e2.stp0).trans st3) S3
         .rw[if_neg hc]at q;symm
        |_=>exact λF' H' z CC e2 g2=>q.elim
end
section
variable {X:Cx}{E:L2.St->XK}{ca:Str->Value}{ma mb mc:AH}{a b c:Expr}{pos:Pos}{x:Str}{t:T}
theorem r_con(hg:Gl X x)(hm:X.mg x=↑u)(rv:A7 v u)(hd:(x == "__debug__")=false)(r:∀F ,Rp X.K F F t v R0):PE X (.Name x pos)<|tM X.K E ca<|mC t:=
 PE.weak (Wu hg hm rv hd) λO H Q h=>by
  let(F,Y,R,S,q):=h;exact q F H v R0 (Ext.refl S.fh) (r F).any
def FW(g g':T->T->kH)(ma mb mc:AH):AH:=λY=>match ma Y,mb Y with
 |some (.v t _),↑(.v u _)=>if t.flat && u.flat then (match g t u with
  |some (.bl true)=>(match mc Y with
   |some (.v w _)=>if w.flat then (match g' u w with
    |some (.bl k)=>↑(.v (.bl k) false)|_=>none) else none
   |_=>none)
  |some (.bl false)=>↑(.v (.bl false) false)|_=>none) else none
 |_,_=>none
def Iu{K}{b}{x}(g:Dh K F H R v b x B)(h:v.flat=true):Rp K F' H' v x R0:=by
 cases b with
 |true=>let(_,A,_,r):=g;exact r.flat_any h
 |false=>exact(g).flat_any h
def V1(h:tM X.K E ca (FW g g' ma mb mc) O H Q):OV (Be X.K g) (Be X.K g') (tM X.K E ca ma) (tM X.K E ca mb) (tM X.K E ca mc) O H Q:=by
 let(F,Y,R,S,q):=h;refine{F,Y,R,S,?_};unfold FW at q;cases h1:ma Y with
 |none=>erw[h1]at q<;>symm|some r1=>
  cases r1 with
  |x c=>erw[h1]at q<;>symm|v t b1=>
   cases h2:mb Y with
   |none=>erw[h1,h2]at q<;>symm|some r2=>
    cases r2 with
    |x c=>erw[h1,h2]at q<;>symm|v u b2=>
     erw[h1,h2]at q
     by_cases hf:(t.flat && u.flat)=true
     .rw[if_pos hf]at q;rw[È]at hf;intro F1 H1 x B1 e1 g1;have S1:=S.ext e1;refine{F1,Y,R,S1,?_};rw[h2];intro F2 H2 y B2 e2 g2;have S2:=S1.ext e2;have e12:Ext F H F2 H2 R0:=(e1.trans e2).mono λ_ z=>z.elim
      cases hg:g t u with
      |none=>erw[hg]at q<;>symm|some k=>
       cases k with
       |bl k=>
        cases k with
        |false=>
         erw[hg]at q;refine{F2,t,u,_,S2.fh,Iu g1 hf.1,Iu g2 hf.2,hg,λF3 H3 z C3 e3 r3=>{false,r3.bl_inv,?_}}
         rw[if_neg ü];exact q F3 H3 _ R0 (e12.trans0<|e3.mono λ_ z=>z.elim)<|.bl false
        |true=>
         erw[hg]at q;refine{F2,t,u,_,S2.fh,Iu g1 hf.1,Iu g2 hf.2,hg,λF3 H3 z C3 e3 r3=>{true,r3.bl_inv,?_}}
         rw[if_pos rfl];have S3:=S2.ext e3;refine{F3,Y,R,S3,?_};cases h3:mc Y with
         |none=>erw[h3]at q<;>symm|some r3=>
          cases r3 with
          |x c=>erw[h3]at q<;>symm|v w b3=>
           erw[h3]at q
           by_cases hw:w.flat=true
           .rw[if_pos hw]at q;intro F4 H4 z4 B4 e4 g4;have S4:=S3.ext e4;cases hg':g' u w with
            |none=>erw[hg']at q<;>symm|some k=>
             cases k with
             |bl k=>
              erw[hg']at q;refine{F4,u,w,_,S4.fh,Iu g2 hf.2,Iu g4 hw,hg',λF5 H5 z5 C5 e5 r5=>?_}
              rw[r5.bl_inv];exact q F5 H5 _ R0 (e12.trans0<|((e3.trans e4).trans e5).mono λ_ z=>z.elim)<|.bl k
             |_=>erw[hg']at q<;>symm
           .rw[if_neg hw]at q;symm
       |_=>erw[hg]at q<;>symm
     .rw[if_neg hf]at q;symm
theorem r_chn(ho:Ae X (compareOp op)<|Be X.K g)(ho':Ae X (compareOp op')<|Be X.K g')(ha:PE X a<|tM X.K E ca ma)(hb:PE X b<|tM X.K E ca mb)(hc:PE X c<|tM X.K E ca mc)(hm:lastMarks [op,op'] [b,c]=false) :
  PE X (.Compare a [op,op'] [b,c] pos) (tM X.K E ca<|FW g g' ma mb mc):=PE.weak (zhe ho ho' ha hb hc hm) λO H Q h=>V1 h
theorem zng(ho:Ae X (compareOp op)<|Be X.K g)(ho':Ae X (compareOp op')<|Be X.K g')(ha:PE X a<|tM X.K E ca ma)(hb:PE X b<|tM X.K E ca mb)(hc:PE X c<|tM X.K E ca mc)(hm:lastMarks [op,op'] [b,c]=false) :
  PT X (.Compare a [op,op'] [b,c] pos) (BM X.K E ca<|FW g g' ma mb mc):=PT.weak (zh6 ho ho' ha hb hc hm) λO H Q h=>V1<|LZ h
end
def Ni(x:Str):It:={λi _=>i<x.cps.size,λi H y H'=>H'=H/\∃c,x.cps[i]?=↑c/\y=.str {#[c]},λi _=>x.cps.size<=i}
def zgq{K}(x)(t)(it):Turn P w K tg (Ni x) [it] it (λi h=>h.IsStrIter it (strIterType x) x t i) where
 mem:=by simp
 obj:=λi h st b hb=>by
  have e :=by simpa using hb
  subst e;let(o,e,c,d):=st;exact{o,e,λv z=>by rw[d]at z;cases z}
 keep:=λi h h' st k=>by
  let(o,e,c,d):=st;exact{o,k it (by simp) o e,c,d}
 item:=by
  intro X hP hw hK hc i pq s O H E I hf st hg;subst hP hw hK;have hi :=hg;let(f0,f1,f2,f3,f4,f5):=hf it<|by simp
  have Aw:∀(h' ),h'.IsStrIter it (strIterType x) x t (i+1)->Heap.SameBut it s.heap h'->∃u,↑(Value.str {#[x.cps[i]]} s.toks)=↑u /\
   wpAny (model X.prog X.w) X.A (letOwnedTupleGo tg (.ref it) u) (λ_ s2=>∃y H',Inv X pq O H' s2/\A7 y u/\(Ni x).yld i H y H'/\s2.heap.IsStrIter it (strIterType x) x t (i+1)/\∀b∈[it],H' b=none) E { s with heap:=h',toks:=s.toks+1 }:=λh' st' sb=>by
   have I1 :=I.turned (t':=s.toks+1) (λb o hb e=>(sb.2 b hb).trans e) f0 f1 f3 f4 f5
   let(o,e,c,d):=id st';refine{_,rfl,M8 e c d ?_ {.str {#[x.cps[i]]},H,I1,{_,rfl},{rfl,_,ń hi,rfl},st',λb hb=>(hf b hb).1}}
   unfold strIterType;split<;>decide
  cases ha:(x.cps.all λx=>decide (x<128)) with
  |true=>
   have e:strIterType x="str_ascii_iterator":=by unfold strIterType;rw[ha];rfl
   rw[e]at st Aw ⊢;exact wpAny_pyNext_ascii_item st (ń hi) Aw
  |false=>
   have e:strIterType x="str_iterator":=by unfold strIterType;rw[ha];rfl
   rw[e]at st Aw ⊢;exact wpAny_pyNext_wide_item st (ń hi) Aw
 done:=by
  intro X hP hw hK hc i pq s O H E I hf st hg;subst hP hw hK;have hi :=hg;let(f0,f1,f2,f3,f4,f5):=hf it<|by simp
  have n :=Array.getElem?_eq_none hi;cases ha:(x.cps.all λx=>decide (x<128)) with
  |true=>
   have e:strIterType x="str_ascii_iterator":=by unfold strIterType;rw[ha];rfl
   rw[e]at st;exact wpAny_pyNext_ascii_end (I.ok.hd hc) st n λh' eb=>{rfl,I.turned (λb o hb e=>eb b o hb e) f0 f1 f3 f4 f5}
  |false=>
   have e:strIterType x="str_iterator":=by unfold strIterType;rw[ha];rfl
   rw[e]at st;exact wpAny_pyNext_wide_end (I.ok.hd hc) st n λh' eb=>{rfl,I.turned (λb o hb e=>eb b o hb e) f0 f1 f3 f4 f5}
 self:=λ_ i s Q E st h=>by
  cases ha:(x.cps.all λx=>decide (x<128)) with
  |true=>
   have e:strIterType x="str_ascii_iterator":=by unfold strIterType;rw[ha];rfl
   rw[e]at st;exact wpAny_pyIter_striter_ascii st h
  |false=>
   have e:strIterType x="str_iterator":=by unfold strIterType;rw[ha];rfl
   rw[e]at st;exact wpAny_pyIter_striter_wide st h
def iStrT(tl:TE):TI:=λO H P=>tl O H λx H1=>∃y,x=.str y/\P (Ni y) H1
section
variable {X:Cx}{tg l e:Expr}{tl:TE}{E:L2.St->XK}{ca:Str->Value}{m:AH}
def zny(hl:PE X l tl):PI X tg l<|iStrT tl:=by
 intro pq s O H R I h;refine AX (hl pq s O H _ I h) λv s1 zz=>?_
 let(x,H1,I1,r1,q1):=zz;let(y,rfl,q):=q1;let(t,rfl):=(r1);refine wpAny_pyIter_strU ?_;refine{s1.heap.objs.size,[s1.heap.objs.size],_,_,H1,rfl,I1.kept λb o e=>Ð _ e,zgq y t _,{_,â _ rfl,rfl,rfl},λb hb=>?_,q}
 have e :=by simpa using hb
 subst e;exact I1.fpOk (Ç _)<|I1.hok.fresh<|Ç _
def Gb(x:Str):kL:=x.cps.toList.map λc=>.str {#[c]}
def zli{K}:G5 K (Ni x) F<|Gb x:=by
 intro i F' H' s1 s2;refine{λt ht=>?_,λe=>?_}
 .unfold Gb at ht;rw[Ë]at ht;let(c,e1,rfl):=Ö.mp ht;have hi:i<x.cps.size:=by simpa using (Ñ.mp e1).1
  refine{hi,λy H'' z=>?_}
  let(rfl,c',hc,rfl):=z;rw[Array.getElem?_toList,hc]at e1;cases e1;exact{F',Ext.refl s2,.str _}
 .show x.cps.size<=i;rw[e];simp[Gb]
def Av(m:AH):As:=λY=>match m Y with
 |some (.v (.str x) _)=>↑(.v (Gb x) false)|_=>Ip m Y
def znl(ha:PE X e<|tM X.K E ca m):PI X tg e<|tI X.K E ca<|Av m:=by
 refine PI.weak (PI.or (Wc ha)<|zny ha) λO H P h=>?_
 let(F,Y,R,S,q):=h
 by_cases hs:∃x b,m Y=↑(.v (.str x) b)
 .let(x,b,hm):=hs;have e:Av m Y=↑(.v (Gb x) false):=by unfold Av;rw[hm]
  rw[e]at q;refine .inr {F,Y,R,S,?_};rw[hm];intro F1 H1 y B e1 g1;exact{x,Ir g1,q F1 H1 _ (e1.mono λ_ z=>z.elim) zli}
 .have e:Av m Y=Ip m Y:=by
   unfold Av
   grind
  rw[e]at q;exact .inl {(F),Y,R,S,q}
end
open Classical in
def met(val:Nat->Key):Nat->List Key
 |0=>[]|i+1=>if val i∈met val i then met val i else met val i++[val i]
open Classical in
def Yx(val:Nat->Key):∀i,(met val i).length<=i
 |0=>Ç 0|i+1=>by
  have:=Yx val i;unfold met;split
  .lia
  .rw[à,į]
   lia
section
variable {prog:Program}{w:World}{A:Around}{E:Value->Shared->Prop}
open Classical in
def ZL{knd:PySem.KeyKind prog w Key}{R:Result->Shared->Prop}{I:Addr}{fp wr:List Addr}{G:Array GenState->Array GenState->Prop}{n:Nat}{P:Nat->Value->Prop}{St:Nat->Shared->Prop}(W:WalksS prog w A.in1 I fp wr G n P St)(S:Addr)(hS:S∉fp)(val:Nat->Key)
  (hP:∀i v,P i v->knd.is (val i) v=true/\v.scannable=true) (hn:n+1<scanBound):∀(k i:Nat) (s:Shared),n - i=k->i<=n->St i s->Heap.SetOf knd s.heap S (λk'=>decide (k'∈met val i)) (met val i).length ->
   (∀s':Shared,Moved (S::wr) G s s'->Heap.SetOf knd s'.heap S (λk'=>decide (k'∈met val n)) (met val n).length->R (Except.ok<|Flow.ret Value.none) s') ->
   codeAny (model prog w) A (Code.builtin "set.update.loop" { pos:=[Value.ref S,Value.ref I] }) R s
 |0,i,s,hk,hi,st,hset,h=>by
  have e:i=n:=by lia
  subst e;refine Ī F.entry_set_update_loop ?_;rw[ŉ Ŧ];unfold Builtin.«set.update.loop»;refine À<|W.done s _ _ st λs' mv=>?_
  refine Å ?_;refine h s' (mv.mono λb hb=>É _ hb) ?_
  let(o,es,ep,t,h1,h2):=hset;exact{o,es,ep,t,mv.heap S o (λz=>hS<|W.sub S z) h1,h2}
 |k+1,i,s,hk,hi,st,hset,h=>by
  have hi':i<n:=by lia
  refine Ī F.entry_set_update_loop ?_;rw[ŉ Ŧ];unfold Builtin.«set.update.loop»;refine À<|W.item i s _ _ hi' st λv s' pv st' mv=>?_
  let(hk1,hk2):=hP i v pv
  have hset':Heap.SetOf knd s'.heap S (λk'=>decide (k'∈met val i)) (met val i).length:=by
   let(o,es,ep,t,h1,h2):=hset;exact{o,es,ep,t,mv.heap S o (λz=>hS<|W.sub S z) h1,h2}
  refine À<|ð ?_;unfold setAdd;refine ð<|À<|knd.pyHash hk1 ?_;have hl:=Yx val i;refine wpAny_setAddHashed_of (s:={ s' with toks:=s'.toks+1 }) hk1 hk2 hset' (by lia) λh' sb hset2=>?_
  refine Å {plainId_quiet Ŧ _,?_};have st2:=W.frame (i+1) s' h' (s'.toks+1) st' (Đ _) λb hb o e=>(sb.2 b<|λz=>hS<|z▸hb).trans e
  have mv2:Moved (S::wr) G s { s' with heap:=h',toks:=s'.toks+1 }:=(mv.mono λb hb=>É _ hb).then_heap (Đ _) λb o hb e=>(sb.2 b<|λz=>hb (by rw[z];exact Í ..)).trans e
  refine ZL W S hS val hP hn k (i+1) _ (by lia) (by lia) st2 ?_ λs'' mv3 hs3=>h s'' (mv2.trans W.gtrans mv3) hs3
  have hS:(λk'=>(decide (k'∈met val i) || decide (k'=val i)))=λk'=>decide (k'∈met val (i+1)):=funext λk'=>by
   conv=>rhs;unfold met
   by_cases hm:val i∈met val i
   .rw[if_pos hm]
    by_cases e:k'=val i
    .rw[e,Ì hm];rfl
    .rw[Ù e,ż]
   .rw[if_neg hm,Bool.eq_iff_iff];erw[Ď,ë,ä,Ô]
  have hN:(if decide (val i∈met val i)=true then (met val i).length else (met val i).length+1)=(met val<|i+1).length:=by
   conv=>rhs;unfold met
   by_cases hm:val i∈met val i
   .rw[if_pos hm,if_pos<|Ì hm]
   .rw[if_neg hm,if_neg<|λz=>hm<|ò z,à,į]
  let(o,es,ep,t,h1,h2,h3,h4,h5,h6,h7,h8):=hset2;refine{o,es,ep,t,h1,h2,h3,h4,λk'=>?_,h6,h7,h8.trans hN}
  rw[<- h5 k'];have e:=congrFun hS k';show decide (k'∈met val (i+1))=true ↔ _;rw[<- e]
end
open Classical in
def zby{prog:Program}{w:World}{A:Around}{E:Value->Shared->Prop}{s:Shared}{l:Addr}{items:Array Value}{knd:PySem.KeyKind prog w Key}{val:Nat->Key}{Q:Value->Shared->Prop}(hh:A.handled=none)(hl:s.heap.IsList l items)
  (hP:∀(i:Nat) (v:Value),items[i]?=↑v->knd.is (val i) v=true/\v.scannable=true) (hb:items.size+1<scanBound)
  (h:∀(h':Heap) (tk:Nat),Heap.SetOf knd h' s.heap.objs.size (λk'=>decide (k'∈met val items.size)) (met val items.size).length->(∀(b:Nat) (o:Obj),b<s.heap.objs.size->s.heap.get? b=↑o->h'.get? b=↑o)->Q (.ref s.heap.objs.size) { s with heap:=h',toks:=tk }) :
  wpAny (model prog w) A (call (Value.type "set") [Value.ref l]) Q E s:=by
 let(c,tl,hmro):=Ĥ.mro;have hmade:=Ĥ.made;have hsub:=Ĥ.sub;refine ĩ<|codeAny_of_tree ?_;refine Å {Code.quiet_builtin _ (by decide +kernel),Ī F.entry_type_call ?_}
 have hu:=Around.under_plain (A:=A) (weight_type_call_type "set" [Value.ref l] []) rfl;have h1:=Ĥ.notType;have h2:=Ĥ.canCreate;have hct:=F.typeCall_set_1<|Value.ref l;show wpAny (model prog w) (A.under<|Code.builtin "type.__call__" { pos:=[Value.type "set",Value.ref l] }) _ _ _ s;rw[hu];unfold Builtin.«type.__call__»;refine þ (by rw[h1];rfl)<|þ (by rw[h2];rfl) ?_
 refine À<|Ě hct<|À<|Ě hmro<|þ rfl<|À<|Ě hmade<|À<|Å<|À<|ð<|ĩ<|ą (code_set_new_1 (E:=λ_ _=>False) (Value.ref l) (Q₁:=λv s'=>∃led:Bool,v=.ref s.heap.objs.size/\s'={ s with heap:=s.heap.push { cls:=.type "set",data:=.set #[] 0 (SetTable.fresh 0 0 led) } }) λled=>{(led),rfl,rfl}) λr s₁ hr=>?_
 cases r with
 |error e=>exact False.elim hr|ok fl=>
  cases fl with
  |next=>exact False.elim hr|brk=>exact False.elim hr|cont=>exact False.elim hr|ret v=>
   let(led,rfl,rfl):=(show ∃led:Bool,v=.ref s.heap.objs.size/\s₁={ s with heap:=s.heap.push { cls:=.type "set",data:=.set #[] 0 (SetTable.fresh 0 0 led) } } from hr)
   have ho:(s.heap.push { cls:=.type "set",data:=.set #[] 0 (SetTable.fresh 0 0 led) }).get? s.heap.objs.size=↑{ cls:=.type "set",data:=.set #[] 0 (SetTable.fresh 0 0 led) }:=â _ rfl;have hT:Shared.TypeIs { s with heap:=s.heap.push { cls:=.type "set",data:=.set #[] 0 (SetTable.fresh 0 0 led) } } (.ref s.heap.objs.size) "set":={_,ho,rfl}
   have hin:=Ĥ.init;refine À<|ś hT hsub<|þ rfl<|À<|ð ?_;unfold callSpecial?;refine À<|ŝ hT hin.lookup<|ð<|À<|Ě (hin.bind _)<|À<|ĩ<|ą (R:=wants (λv s'=>v=.none/\∃tk h',s'={ s with heap:=h',toks:=tk }/\Heap.SetOf knd h' s.heap.objs.size (λk'=>decide (k'∈met val items.size)) (met val items.size).length/\∀(b:Nat) (o:Obj),b<s.heap.objs.size->s.heap.get? b=↑o->h'.get? b=↑o) λ_ _=>False) (Ξ hin.plain F.entry_set_init<|check_set_init_1 hT ?_) λr s₂ hr₂=>?_
   .unfold Builtin.«set.__init__» noKeywords;refine À<|wpAny_ite_true rfl<|Å ?_;unfold typeNameOfCut shownTypeOf;refine À<|À<|À<|wpAny_typeOf hT<|þ (by decide +kernel)<|Å ?_
    refine Ě (rfl:typeNameCut 200 (Value.type "set")=pure _) ?_;refine À<|Ě (rfl:checkCount _ 0 1 1=pure ()) ?_;refine À<|Å ?_;unfold setUsed setState;refine À<|À<|À<|wpAny_load ho<|þ rfl<|Å<|Å<|þ rfl ?_;let(ol,hol,hcl,nl,hdl):=id hl;have hol2:(s.heap.push { cls:=.type "set",data:=.set #[] 0 (SetTable.fresh 0 0 led) }).get? l=↑ol:=Ð _ hol;have hTl:Shared.TypeIs { s with heap:=s.heap.push { cls:=.type "set",data:=.set #[] 0 (SetTable.fresh 0 0 led) } } (.ref l) "list":={_,hol2,hcl}
    unfold Builtin.Frozenset.updateFrom Builtin.Frozenset.isAnySet;refine À<|À<|À<|ś hTl F.sub_list_set ?_;have hl2:(s.heap.push { cls:=.type "set",data:=.set #[] 0 (SetTable.fresh 0 0 led) }).IsList l items:={(ol),hol2,hcl,nl,hdl};refine ś hTl F.sub_list_frozenset<|þ rfl<|À<|wpAny_typeOf hTl<|þ (by decide +kernel)<|À<|ħ hl2 ?_
    have lt:l<s.heap.objs.size:=Ä hol;have hsz:(s.heap.push { cls:=.type "set",data:=.set #[] 0 (SetTable.fresh 0 0 led) }).objs.size=s.heap.objs.size+1:=Ă _ _;generalize hhp:s.heap.push { cls:=.type "set",data:=.set #[] 0 (SetTable.fresh 0 0 led) }=hp at *
    have hS:s.heap.objs.size∉[hp.objs.size,l]:=by
     rw[hsz];intro z
     rcases Ê.mp z with e|e
     .exact absurd e<|Õ<|Ė _
     .exact absurd (Ô.mp e)<|Ģ lt
    refine À<|wpAny_runValue ?_;refine ZL (knd:=knd) (A:=A.in1.in1) (Walks.list (A:=A.in1.in1.in1) hh hp.objs.size l (by rw[hsz];exact Õ<|Ğ lt) items).toS s.heap.objs.size hS val (λi v e=>hP i v e) hb items.size 0 _ (by lia) (ô _) {?_,?_} ?_ λs' mv hs'=>?_
    .exact{_,â _ rfl,rfl,rfl}
    .exact{ol,Ð _ hol2,hcl,nl,hdl}
    .letI:BEq Key:={λa b=>decide (a=b)}
     haveI:LawfulBEq Key:={ eq_of_beq:=λh=>ò h,rfl:=Ì rfl }
     have e0:=(setObjOf_fresh (prog:=prog) (w:=w) (knd:=knd) led).setOf (h:=hp.push { cls:=.type "list_iterator",data:=.fields #[.ref l,.int 0 0] }) (a:=s.heap.objs.size) (Ð _ ho) (by decide)
     let(o,es,ep,t,g1,g2,g3,g4,g5,g6,g7,g8):=e0;refine{o,es,ep,t,g1,g2,g3,g4,λk'=>?_,g6,g7,g8}
     rw[<- g5 k'];simp[met]
    .refine Å<|Å ?_
     have b2:∀(b:Nat) (o:Obj),b<s.heap.objs.size->s.heap.get? b=↑o->s'.heap.get? b=↑o:=λb o hb e=>by
      refine mv.heap b o (λz=>?_)<|Ð _ (by rw[<- hhp];exact Ð _ e)
      rcases Ê.mp z with e|e
      .exact absurd e<|Õ hb
      .have e:=Ô.mp e;rw[hsz]at e;exact absurd e<|Õ<|Ğ hb
     have m1:=mv.gens;have m2:=mv.drawn;have m3:=mv.os;let(hh',g',d',t',os'):=s';refine{rfl,t',hh',?_,hs',b2};simp only at m1 m2 m3;rw[m1,m2,m3]
   .cases r with
    |error e=>exact False.elim hr₂|ok fl=>
     cases fl with
     |next=>exact False.elim hr₂|brk=>exact False.elim hr₂|cont=>exact False.elim hr₂|ret v=>
      let(rfl,tk,h',rfl,hs,hk):=(show v=.none/\∃tk h',s₂={ s with heap:=h',toks:=tk }/\Heap.SetOf knd h' s.heap.objs.size (λk'=>decide (k'∈met val items.size)) (met val items.size).length/\∀(b:Nat) (o:Obj),b<s.heap.objs.size->s.heap.get? b=↑o->h'.get? b=↑o from hr₂)
      refine Å<|þ rfl<|Å ?_;exact h h' tk hs hk
def UN(P:Program)(w:World)(a:Addr)(ks:List Key):HO:=.ext λh=>Heap.SetOf (DY P w) h a (λk=>@decide (k∈ks) (Classical.propDecidable _)) ks.length
section
variable {X:Cx}
def zg6(hc:X.calm=true):Bp X (.type "set") (λxs H Q=>∃(p:Addr) (ys:kE),xs=[.ref p]/\AZ X.K H p (ys.map V.str)/\ys.length<1000/\∀a,H a=none->Q (.ref a) (upd H a<|UN X.prog X.w a<|met (λi=>Sum.inr<|ys.getD i Str.empty) ys.length)):=by
 intro pq s O H xs us Q I r h;let(p,ys,rfl,hq,hz,q):=h;let(u,rfl,rx):=Ei r;cases rx;let(its,r',pl,_):=I.list hq;have hlen:=r'.length;rw[Á]at hlen;have hsz:its.toArray.size=ys.length:=by rw[ø];exact hlen.symm
 refine zby (knd:=DY X.prog X.w) (val:=λi=>Sum.inr<|ys.getD i Str.empty) (I.ok.hd hc) pl.isList (λi v e=>?_) (by rw[hsz];exact Û (Nat.succ_lt_succ hz)<|by decide) λh' tk hs kp=>?_
 .have e' :=by simpa using e
  have hi:i<ys.length:=by rw[hlen];exact(Ñ.mp e').1
  have hx:(ys.map V.str)[i]?=↑(.str ys[i]):=by rw[Ë,Â hi];rfl
  let(u,e2,ru):=r'.get hx;rw[e']at e2;cases e2;let(t,rfl):=(ru);refine{?_,rfl};show Gu (Sum.inr<|ys.getD i Str.empty) (Value.str ys[i] t)=true;rw[Ú,Â hi];show(ys[i] == ys[i])=true;exact ì _
 .rw[hsz]at hs;refine{.ref s.heap.objs.size,_,I.laid (o:=UN X.prog X.w s.heap.objs.size<|met (λi=>Sum.inr<|ys.getD i Str.empty) ys.length) (λb o e=>kp b o (Ä e) e) (Ç _) {?_,?_,?_},rfl,q _<|I.hok.fresh<|Ç _}
  .exact hs
  .let(o,es,ep,t,g1,_):=hs;exact{(o),g1}
  .intro h1 h2 p1 k;let(o,es,ep,t,g1,g2):=p1;exact{o,es,ep,t,k o g1,g2}
def zg9:Bp X (.builtin "len") (λxs H Q=>∃a ks,xs=[.ref a]/\H a=↑(UN X.prog X.w a ks)/\Q (.int ks.length) H):=by
 intro pq s O H xs us Q I r h;let(a,ks,rfl,ha,q):=h;let(u,rfl,rx):=Ei r;cases rx;let((o,es,ep,t,g1,g2,g3,g4,g5,g6,g7,g8),_):=(show _/\_ from I.hok a _ ha)
 have hb:((es.size:Nat):Int)<2 ^ 63:=by
  have:scanBound<=2 ^ 40:=by decide
  have g6':es.size<scanBound:=g6
  lia
 refine call_len_set g1 g2 g3 g7 hb {.int (es.size:Int),H,I.tok _,{_,rfl},?_};rw[show es.size=ks.length from g8];exact q
end
def Dz:kL->Option (kE)
 |[]=>↑[]|.str x::r=>(match Dz r with
  |some l=>↑(x::l)|none=>none)
 |_::_=>none
def L8{K}{F}:∀{l} {ys} {xs},Dz l=↑ys->Ah K F l xs->xs=ys.map V.str
 |[],ys,xs,h,r=>by
  cases h;exact r.inv0
 |t::l,ys,xs,h,r=>by
  let(x,xs',rfl,r1,r2):=r.inv;unfold Dz at h;split at h
  .grind
  .rename_i y r e;cases e;split at h
   .rename_i l' hl;cases h;rw[r1.str_inv,L8 hl r2]
    rfl
   .cases h
  .cases h
def OK(ys:kE):Nat:=(met (λi=>Sum.inr<|ys.getD i Str.empty) ys.length).length
def JZ:T->kH
 |.nd _ .lst l=>(match Dz l with
  |some ys=>if ys.length<1000 then ↑(.int<|OK ys) else none
  |none=>none)
 |.nd _ .rl l=>(match Dz l with
  |some ys=>if ys.length<1000 then ↑(.int<|OK ys) else none
  |none=>none)
 |_=>none
section
variable {X:Cx}{E:L2.St->XK}{ca:Str->Value}{m:AH}{e:Expr}{pos p p2 p3:Pos}
def r_unq(hc:X.calm=true)(hg:Gl X "len")(hm:X.mg "len"=none)(hg2:Gl X "set")(hm2:X.mg "set"=none)(ha:PE X e<|tM X.K E ca m)(he:starEach [e] X.env=[(false,eval e X.env)]) :
  PE X (.Call (.Name "len" p) [.Call (.Name "set" p2) [e] [] p3] [] pos) (tM X.K E ca<|BQ (g1 JZ)<|AB m AE):=by
 have hset:=Ww (pos:=p3) (p:=p2) (zg6 hc) hg2 hm2 (rfl) (EB ha FQ he) (by decide) (by decide) he rfl
 refine PE.weak (Ly (zg9) hg hm PySem.boot_len (EB hset FQ rfl) (by decide) (by decide) rfl rfl) λO H Q h=>?_
 refine(HP<|HQ h).mono λx H1 h1=>?_
 let(F,ts,v,fh,rs,e,q):=HN h1;unfold g1 at e;split at e
 .let(x1,xs1,e1,r1,rs1):=rs.inv;cases e1;unfold JZ at e;split at e
  .split at e
   .rename_i o l ys hy;split at e
    .rename_i hz;cases e;let(pp,zs,rfl,_,n,kd):=Ds r1;have hF :=n;refine{pp,ys,rfl,AZ.of (by rw[<- L8 hy kd];exact fh _ _ hF),hz,λa ha=>{a,_,rfl,CJ,?_}}
     exact q F _ _ R0 ((Ext.newO fh ha).mono λ_ z=>z.elim)<|Rp.int _
    .cases e
   .cases e
  .split at e
   .rename_i o l ys hy;split at e
    .rename_i hz;cases e;let(pp,zs,rfl,_,n,kd):=Ds r1;refine{pp,ys,rfl,by rw[<- L8 hy kd];exact fh.seq<|G0.l n,hz,λa ha=>{a,_,rfl,CJ,?_}}
     exact q F _ _ R0 ((Ext.newO fh ha).mono λ_ z=>z.elim)<|Rp.int _
    .cases e
   .cases e
  .cases e
 .cases e
end
def FA:T->T->kH
 |.int i,.int j=>↑(.bl<|decide (i<=j))|.str x,.str y=>↑(.bl<|!(@decide (y.cps.toList<x.cps.toList) (Classical.propDecidable _)))|_,_=>none
section
variable {X:Cx}{E:L2.St->XK}{ca:Str->Value}{m mk:AH}{o k:Expr}{pos apos cpos:Pos}
def zkr:Ae X (compareOp .LtE)<|Be X.K FA:=by
 intro pq s O H x y v u Q I rx ry h;let(F,t1,t2,r,fh,r1,r2,e,q):=h;unfold FA at e;split at e
 .cases e;rw[r1.int_inv]at rx;rw[r2.int_inv]at ry;exact Wz pq s O H _ _ v u Q I rx ry {_,_,rfl,rfl,q.bl fh}
 .rename_i a b;cases e;rw[r1.str_inv]at rx;rw[r2.str_inv]at ry;let(t,rfl):=(rx);let(t',rfl):=(ry);refine PySem.P.le_str {.bl _,H,I,rfl,?_};have q1:=q.bl fh
  grind
 .cases e
end
def CQ(ys:kE)(y:Str):Option Nat:=ys.findIdx? λx=>@decide (x=y) (Classical.propDecidable _)
def zfe{ys:kE}{y:Str}{j:Nat}(h:CQ ys y=↑j):∃hj:j<ys.length,ys[j]=y/\∀(m:Nat) (hm:m<ys.length),m<j->ys[m]≠y:=by
 unfold CQ at h;let(h1,h2,h3):=ě.mp h;refine{h1,@of_decide_eq_true _ (Classical.propDecidable _) h2,λm hm hmj e=>?_}
 exact h3 m hmj<|@decide_eq_true _ (Classical.propDecidable _) e
def dR{x y:Str}:(x.cps.toList == y.cps.toList)=true ↔ x=y:=by
 constructor
 .cases x
  simp_all
 grind
def znp(K:k6):V->kK->Hp->VK->Prop:=λx vs H Q=>∃(l:Addr) (ys:kE) (y:Str) (j:Nat),x=.ref l/\vs=[.str y]/\AZ K H l (ys.map V.str)/\CQ ys y=↑j/\ys.length<1000000/\Q (.int j) H
section
variable {X:Cx}{E:L2.St->XK}{ca:Str->Value}{m mk:AH}{o k:Expr}{pos apos cpos:Pos}
def zhm:Nd X "list.index"<|znp X.K:=by
 intro pq s O H x vs v us Q I rx rv h;let(l,ys,y,j,rfl,rfl,hH,hj,hz,q):=h;cases rx;let(u,rfl,ru):=rv.one;let(its,r,(ob,n,e,c1,c2,c3),hz0):=I.list hH;have hl:=r.length;let(cc,dd,da,sl):=ob;simp only at c1 c2 c3;subst c1 c2 c3;let(t,rfl):=(ru);let(hj1,hj2,hj3):=zfe hj;rw[Á]at hl
 have at_:∀(i ) (hi ),∃(t':Tok) (hi':i<ys.length),its.toArray[i]=Value.str ys[i] t':=λi hi=>by
  have hi0 :=by simpa using hi
  have hi':i<ys.length:=by lia
  have hx:(ys.map V.str)[i]?=↑(.str ys[i]):=by rw[Ë,Â hi'];rfl
  let(u,e2,ru):=r.get hx;let(t',rfl):=(ru);rw[Â hi0]at e2;refine{t',hi',?_}
  simpa using e2
 let ev:Value->Bool:=λv=>match v with
  |.str x _=>x.cps.toList == y.cps.toList|_=>false
 have evs:∀(x ) (t' ),ev (.str x t')=(x.cps.toList == y.cps.toList):=λ_ _=>rfl
 have hjs:j<its.toArray.size:=by rw[ø];lia
 refine Ŀ F.slot_list_index {_,e,rfl} F.entry_list_index (F.args_list_index_2 _ _) (SeqAt.list_indexAt l its.toArray n none sl (.str y t) ev j hjs (by lia) ?_ λm hm hmj=>?_) {e,λy' hy'=>?_,.int j,H,I.tok _,{_,rfl},q}
 rotate_left 2
 .let(i,hi,rfl):=Array.mem_iff_getElem.mp hy';let(t',hi',e1):=at_ i hi;rw[e1,evs _ t'];exact(SeqRoads2.EqGives.str _ _ _ _).at _ _
 .let(t',hi',e1):=at_ j hjs;rw[e1,evs _ t'];exact dR.mpr hj2
 .let(t',hi',e1):=at_ m hm;rw[e1,evs _ t',Bool.eq_false_iff];exact λz=>hj3 m hi' hmj<|dR.mp z
def Jx:T->Option (kL)
 |.nd false .lst l=>↑l|.nd false .rl l=>↑l|_=>none
def zl7{t:T}{l:kL}(h:Jx t=↑l):∃k,t=.nd false k l/\GS t=true:=by
 unfold Jx at h;split at h
 .cases h;exact{_,rfl,rfl}
 .cases h;exact{_,rfl,rfl}
 .cases h
def H9(m mk:AH):AH:=λY=>match m Y with
  |some (.v t false)=>(match Jx t with
   |some l=>(match Dz l with
    |some ys=>(match mk Y with
      |some (.v (.str y) _)=>(match CQ ys y with
        |some j=>if ys.length<1000000 then ↑(.v (.int j) false) else none
        |none=>none)
      |_=>none)
    |none=>none)
   |none=>none)
  |_=>none
def zjx(ho:PE X o<|tM X.K E ca m)(hk:PE X k<|tM X.K E ca mk)(hbase:attributeBase o "index" X.env (eval o X.env)=eval o X.env)(hs:starEach [k] X.env=[(false,eval k X.env)])(hline:(apos.endLine == cpos.line)=true) :
    PE X (.Call (.Attribute o "index" apos) [k] [] cpos) (tM X.K E ca<|H9 m mk):=by
  refine PE.weak (Lz ť PySem.F.slot_list_index PySem.F.type_list_index zhm ho (EB hk FQ hs) hbase (by rw[hs];rfl) hline hs rfl) λO H Q h=>?_
  let(F,Y,R,S,q):=h;refine{F,Y,R,S,?_};unfold H9 at q;cases hm:m Y with
  |none=>erw[hm]at q<;>symm|some r=>
    cases r with
    |x c=>erw[hm]at q<;>symm|v t b=>
      cases b with
      |true=>erw[hm]at q<;>symm|false=>
       erw[hm]at q;cases hls:Jx t with
       |none=>erw[hls]at q<;>symm|some l=>
        erw[hls]at q;let(kk,rfl,hL):=zl7 hls;intro F1 H1 x B e1 g1;have g0:Rp X.K F1 H1 (.nd false kk l) x B:=g1;let(p,rfl):=g0.ref_inv;let(xs0,hN,hr0):=Ah.node g0;let(p1,xs,e0,sqq,hr):=KJ hL<|Ah.of_node (H:=F1) hN hr0;injection e0 with e0
        subst e0;cases hy:Dz l with
        |none=>erw[hy]at q<;>symm|some ys=>
          erw[hy]at q;have hxs:=L8 hy hr;refine{.inl {rfl,xs,sqq F1 H1 (A4.refl _) e1.fh},F1,Y,R,S.ext e1,?_};cases hk2:mk Y with
          |none=>erw[hk2]at q<;>symm|some r=>
            cases r with
            |x c=>erw[hk2]at q<;>symm|v t2 b2=>
              cases t2 with
              |str y=>
                erw[hk2]at q;intro F2 H2 z B2 e2 g2;have hz:=Ir g2;subst hz;cases hj:CQ ys y with
                |none=>erw[hj]at q<;>symm|some j=>
                  erw[hj]at q
                  by_cases hl:ys.length<1000000
                  . rw[if_pos hl]at q
                    refine{p,ys,y,j,rfl,rfl,by rw[<- hxs];exact sqq F2 H2 e2.ff e2.fh,hj,hl,?_}
                    exact q F2 H2 _ R0 ((e1.trans e2).mono λ_ z=>z.elim)<|.int _
                  . rw[if_neg hl]at q
                    symm
              |_=>erw[hk2]at q<;>symm
variable {mu:Bool}{i:Nat}{x n:Str}{np hpos:Pos}{body suite:kD}{b₀:Stmt}{u h:AG}{cs:List<|Str×Addr}
end
section
variable {X:Cx}{E:L2.St->XK}{ca:Str->Value}{m:AH}{e:Expr}{pos p p2:Pos}{c:Str}{v:V}{tb:List<|Addr×Bool}
end
section
variable {X:Cx}{E:L2.St->XK}{ca:Str->Value}{mu:Bool}{i j:Nat}{tg it c:Expr}{ret:kD}{mc:AH}{k:T}{ip pos:Pos}
variable {e:Expr}{m:AH}{t:T}{p1 apos cpos bpos:Pos}{x:Str}
end
section
variable {X:Cx}{E:L2.St->XK}{ca:Str->Value}{m mk ma:AH}{o k e a:Expr}{pos apos cpos p p2:Pos}
def rSlS:V->kA->kA->Hp->VK->Prop:=λx lo hi H Q=>∃z:Str,x=.str z/\z.length<=BS/\Q (.str<|Txt.slice z lo hi) H
def zms:UK X rSlS:=by
 intro pq s O H x v vl vu lo hi sl Q I rx hs pl pu q;let(z,rfl,hz,q):=q;let(t,rfl):=(rx);let(ob,ho,hc,hd):=hs;rw[GO]at hz;cases pl with
 |none=>
  cases pu with
  |none=>exact{"str",_,ņ.lookup,Ĩ _ _ _,Ş (l:=none) (u:=none) (st:=none) {(ob),ho,hc,hd} rfl<|ş {Ü (ŕ z _ _) hz,λt' k=>{.str _,H,I.tok _,{_,rfl},q}}}|int j uj=>exact{"str",_,ņ.lookup,Ĩ _ _ _,Ş (l:=none) (u:=↑(j,uj)) (st:=none) {(ob),ho,hc,hd} rfl<|ş {Ü (ŕ z _ _) hz,λt' k=>{.str _,H,I.tok _,{_,rfl},q}}}
 |int i ui=>
  cases pu with
  |none=>exact{"str",_,ņ.lookup,Ĩ _ _ _,Ş (l:=↑(i,ui)) (u:=none) (st:=none) {(ob),ho,hc,hd} rfl<|ş {Ü (ŕ z _ _) hz,λt' k=>{.str _,H,I.tok _,{_,rfl},q}}}|int j uj=>exact{"str",_,ņ.lookup,Ĩ _ _ _,Ş (l:=↑(i,ui)) (u:=↑(j,uj)) (st:=none) {(ob),ho,hc,hd} rfl<|ş {Ü (ŕ z _ _) hz,λt' k=>{.str _,H,I.tok _,{_,rfl},q}}}
def FU(ma:AH)(ml mh:Option<|AH):AH:=λY=>match ma Y with
 |some (.v (.str z) _)=>(match FV ml Y,FV mh Y with
  |some lo,↑hi=>if z.length<=BS then ↑(.v (.str<|Txt.slice z lo hi) false) else none
  |_,_=>none)
 |_=>none
def zh3{lo hi}(ha:PE X a<|tM X.K E ca ma)(hl:PO X lo<|HM X.K ml)(hh:PO X hi<|HM X.K mh):PE X (.Subscript a (.Slice lo hi none p2) pos)<|tM X.K E ca<|FU ma ml mh:=by
 refine PE.weak (Wt zms ha hl hh) λO H Q h=>?_
 let(F,Y,R,S,q):=h;refine{F,Y,R,S,?_};unfold FU at q;cases hm:ma Y with
 |none=>rw[hm]at q;symm|some r=>
  rw[hm]at q;cases r with
  |x c=>symm|v t bb=>
   cases t with
   |str z=>
    intro F1 H1 x B e1 g1;have hx:=Ir g1;subst hx;have e1':Ext F H F1 H1 R0:=e1.mono λ_ z=>z.elim
    have S1:=S.ext e1';cases h1:FV ml Y with
    |none=>erw[h1]at q<;>symm|some lo'=>
     refine{F1,Y,R,lo',S1,h1,λF2 H2 e2=>?_}
     have S2:=S1.ext e2;cases h2:FV mh Y with
     |none=>erw[h1,h2]at q<;>symm|some hi'=>
      erw[h1,h2]at q;refine{F2,Y,R,hi',S2,h2,λF3 H3 e3=>?_}
      by_cases hz:z.length<=BS
      .rw[if_pos hz]at q;exact{z,rfl,hz,q F3 H3 _ R0 (e1'.trans0<|e2.trans0 e3)<|.str _}
      .rw[if_neg hz]at q;symm
   |_=>symm
def rJoin:V->kK->Hp->VK->Prop:=λx vs H Q=>∃(sep:Str) (l:Addr) (ys:kE),x=.str sep/\vs=[.ref l]/\H l=↑(.lst<|ys.map V.str)/\(ys.map (·.length)).sum+ys.length * sep.length<=BS/\Q (.str<|Txt.join sep ys) H
def Vd:∀{ys} {its},Ac (ys.map V.str) its->StrsAre its ys
 |[],its,r=>by
  cases r;exact .nil
 |y::ys,its,r=>by
  cases r with
  |cons h t=>let(tk,rfl):=h;exact .cons _ _<|Vd t
def zl2:Nd X "str.join" rJoin:=by
 intro pq s O H x vs v us Q I rx rv h;let(sep,l,ys,rfl,rfl,hH,hz,q):=h;let(t,rfl):=(rx);let(u,rfl,ru):=rv.one;cases ru;let(its,r,pl,_):=I.list<|AZ.of hH;refine join_list pl.isList (Vd r) (by exact hz) λt' k=>{.str _,H,I.tok _,{_,rfl},q}
def Jv(m mk:AH):AH:=λY=>match m Y with
 |some (.v (.str sep) _)=>(match mk Y with
  |some (.v (.nd _ .lst l) _)=>(match Dz l with
   |some ys=>if (ys.map (·.length)).sum+ys.length * sep.length<=BS then ↑(.v (.str<|Txt.join sep ys) false) else none
   |none=>none)
  |_=>none)
 |_=>none
def zoy{K}{o}(s:A4 F H)(h:Rp K F H (.nd o .lst l) x A):∃p xs,x=.ref p/\H p=↑(.lst xs)/\l.length=xs.length/\∀(i:Nat) (t) (x),l[i]?=↑t->xs[i]?=↑x->∃B,Rp K F H t x B:=by
 cases h with
 |shr h e c=>exact{_,_,rfl,s _ _ h,e,λi t x h1 h2=>{_,c i t x h1 h2}}|own hk R f h e c d dp o=>exact{_,_,rfl,h,e,λi t x h1 h2=>{_,c i t x h1 h2}}
def Vc{K}{F H}:∀{l} {ys} {xs},Dz l=↑ys->l.length=xs.length->(∀(i:Nat) (t) (x),l[i]?=↑t->xs[i]?=↑x->∃B,Rp K F H t x B)->xs=ys.map V.str
 |[],ys,xs,h,e,_=>by
  cases h;cases xs with
  |nil=>rfl|cons _ _=>simp at e
 |t::l,ys,[],h,e,_=>by simp at e|t::l,ys,x::xs,h,e,f=>by
  unfold Dz at h;split at h
  .cases ‹_::_=[]›
  .rename_i z r hh;cases hh;split at h
   .rename_i l' hl;cases h;let(B,r0):=f 0 _ x rfl rfl;have ih:xs=l'.map V.str:=Vc hl (by simpa using e) λi t x h1 h2=>f (i+1) t x (by simpa using h1)<|by simpa using h2
    rw[r0.str_inv,ih]
    rfl
   .cases h
  .cases h
def znk(ho:PE X o<|tM X.K E ca m)(hk:PE X k<|tM X.K E ca mk)(hbase:attributeBase o "join" X.env (eval o X.env)=eval o X.env)(hs:starEach [k] X.env=[(false,eval k X.env)])(hline:(apos.endLine == cpos.line)=true) :
  PE X (.Call (.Attribute o "join" apos) [k] [] cpos) (tM X.K E ca<|Jv m mk):=by
 refine PE.weak (Lz PySem.F.plainAttrs_str PySem.F.slot_str_join PySem.F.type_str_join zl2 ho (EB hk FQ hs) hbase (by rw[hs];rfl) hline hs rfl) λO H Q h=>?_
 let(F,Y,R,S,q):=h;refine{F,Y,R,S,?_};unfold Jv at q;cases hm:m Y with
 |none=>rw[hm]at q;symm|some r=>
  rw[hm]at q;cases r with
  |x c=>symm|v t b=>
   cases t with
   |str sep=>
    simp only at q;intro F1 H1 x B e1 g1;have hx:=Ir g1;subst hx;have e1':Ext F H F1 H1 R0:=e1.mono λ_ z=>z.elim
    refine{rfl,F1,Y,R,S.ext e1',?_};cases hk2:mk Y with
    |none=>rw[hk2]at q;symm|some r2=>
     rw[hk2]at q;cases r2 with
     |x c=>symm|v t2 b2=>
      cases t2 with
      |nd o2 k2 l=>
       cases k2 with
       |lst=>
        simp only at q;intro F2 H2 z B2 e2 g2
        have hr:∃A,Rp X.K F2 H2 (.nd o2 .lst l) z A:=by
         cases b2 with
         |true=>let(_,A,_,r):=g2;exact{(A),r}
         |false=>exact{_,g2}
        let(A,r):=hr;let(p,xs,rfl,hH,el,kd):=zoy e2.fh r;cases hy:Dz l with
        |none=>erw[hy]at q<;>symm|some ys=>
         erw[hy]at q;have hxs:=Vc hy el kd
         by_cases hz:(ys.map (·.length)).sum+ys.length * sep.length<=BS
         .rw[if_pos hz]at q;exact{sep,p,ys,rfl,rfl,by rw[<- hxs];exact hH,hz,q F2 H2 _ R0 ((e1'.trans e2).mono λ_ z=>z.elim)<|.str _}
         .rw[if_neg hz]at q;symm
       |_=>symm
      |_=>symm
   |_=>symm
def rIxD:R2:=λx y H Q=>∃a kvs k v,x=.ref a/\y=.str k/\H a=↑(.dK kvs)/\EN kvs (Sum.inr k)=↑v/\Q v H
def zpi(hu:X.A.units+1<cLine):Fw X rIxD:=by
 intro value slice pq s O H x y v u Q I rx ry h hs;let(a,kvs,k,w,rfl,rfl,hH,hv,q):=h;cases rx;have g :=hv▸Nm.k hH
 have hT:s.TypeIs (.ref a) "dict":=by
  let(_,_,vs,_,dd):=dE I.hok hH;exact dd.typeIs
 refine À ?_;refine À<|ŝ hT PySem.F.slot_dict_getitem.lookup ?_
 have Aw:wpAny (model X.prog X.w) X.A (subscripted slice false (.ref a) u) (λr s₃=>wpAny (model X.prog X.w) X.A (letTemporaryGo value (.ref a) r >>= λ_=>pure r) (EP X pq O Q) X.xe s₃) X.xe s:=by
  rw[hs];exact wpAny_operating<|ï (zfv hu I g (ry) λw' s3 I3 rw'=>{(w),H,I3,rw',q}) (λr s₃ h₃=>À<|wpAny_letTemporaryGo<|Å h₃) λ_ _ x=>x
 first|exact Å (À Aw)|rfl|rfl
def Jw(m mk:AH):AH:=λY=>match m Y with
 |some (.v (.obj (.sdc ks) l) _)=>(match mk Y with
  |some (.v (.str y) _)=>(match CQ ks y with
   |some j=>(match l[j]? with
    |some u=>if u.sh then ↑(.v u false) else none
    |none=>none)
   |none=>none)
  |_=>none)
 |_=>none
def Ut:∀{ks} {xs} {y} {j} {v},CQ ks y=↑j->xs[j]?=↑v->EN (Cf ks xs) (Sum.inr y)=↑v
 |[],xs,y,j,v,h,_=>by simp[CQ]at h|k::ks,[],y,j,v,_,h=>by simp at h|k::ks,x::xs,y,j,v,h,hx=>by
  show EN ((Sum.inr k,x)::Cf ks xs) (Sum.inr y)=↑v;unfold CQ at h;rw[Ż]at h
  by_cases e:k=y
  .rw[@decide_eq_true _ (Classical.propDecidable _) e]at h;erw[Æ,ŧ]at h;subst h;rw[LS (p:=(Sum.inr k,x))<|by rw[e]]
   simpa using hx
  .rw[@decide_eq_false _ (Classical.propDecidable _) e]at h;erw[Ā,Ã,Ö]at h;let(j',h1,rfl):=h;rw[LU (p:=(Sum.inr k,x))<|λz=>e<|Sum.inr.inj z]
   exact Ut (show CQ ks y=↑j' from h1)<|by simpa using hx
def r_gt(hu:X.A.units+1<cLine)(ho:PE X o<|tM X.K E ca m)(hk:PE X k<|tM X.K E ca mk)(hs:Kx k):PE X (.Subscript o k pos)<|tM X.K E ca<|Jw m mk:=by
 refine PE.weak (Qd (zpi hu) ho hk hs) λO H Q h=>?_
 let(F,Y,R,S,q):=h;refine{F,Y,R,S,?_};unfold Jw at q;cases hm:m Y with
 |none=>rw[hm]at q;symm|some r=>
  rw[hm]at q;cases r with
  |x c=>symm|v t b=>
   cases t with
   |obj kd l=>
    cases kd with
    |sdc ks=>
     simp only at q;intro F1 H1 x B e1 g1;let(r1,hB):=M7 g1;subst hB;let(a,xs,rfl,_,(hl1,hF),el,cc):=r1.obj_inv;refine{F1,Y,R,S.ext e1,?_};cases hk2:mk Y with
     |none=>rw[hk2]at q;symm|some r2=>
      rw[hk2]at q;cases r2 with
      |x c=>symm|v t2 b2=>
       cases t2 with
       |str y=>
        simp only at q;intro F2 H2 z B2 e2 g2;have hz:=Ir g2;subst hz;have e2':Ext F1 H1 F2 H2 R0:=e2.mono λ_ z=>z.elim
        cases hj:CQ ks y with
        |none=>erw[hj]at q<;>symm|some j=>
         erw[hj]at q;cases hu2:l[j]? with
         |none=>erw[hu2]at q<;>symm|some u=>
          erw[hu2]at q
          by_cases hsh:u.sh=true
          .rw[if_pos hsh]at q;have hjl:=(Ñ.mp hu2).1;have hx:xs[j]?=↑xs[j]:=Â<|by lia
           have hc:=(cc j u _ hu2 hx).move (H':=H2) hsh e2'.ff;exact{a,_,y,_,rfl,rfl,e2'.hh _ _<|e1.fh _ _ hF,Ut hj hx,q F2 H2 _ R0 (e1.trans0 e2') hc}
          .rw[if_neg hsh]at q;symm
       |_=>symm
    |_=>symm
   |_=>symm
def tKys(to:TE):TE:=λO H Q=>to O H λx H1=>∃a ks xs,x=.ref a/\ks.length=xs.length/\H1 a=↑(.dK<|Cf ks xs)/\∀p,H1 p=none->Q (.ref p) (upd H1 p<|.lst<|ks.map V.str)
def Z6:∀{ks} {xs},ks.length=xs.length->(Cf ks xs).length=ks.length
 |[],[],_=>rfl|[],_::_,h=>by simp at h|_::_,[],h=>by simp at h|k::ks,x::xs,h=>by
  show(Cf ks xs).length+1=ks.length+1;rw[Z6<|by simpa using h]
def Z7:∀{ks} {xs} {vs},ks.length=xs.length->KV (Cf ks xs) vs->vs.map (·.1)=ks.map Sum.inr
 |[],[],vs,_,r=>by
  have r' :=(r);cases r'
  rfl
 |[],_::_,_,h,_=>by simp at h|_::_,[],_,h,_=>by simp at h|k::ks,x::xs,vs,h,r=>by
  have r' :=r;cases r' with
  |@cons _ q _ qs hd tl=>rw[Ï,Ï,<- hd.1,Z7 (by simpa using h) tl]
def zo7(hc:X.calm=true)(hg:Gl X "list")(hm:X.mg "list"=none)(ho:PE X o to)(hs:starEach [o] X.env=[(false,eval o X.env)]) :
  PE X (.Call (.Name "list" p) [o] [] p2) (tKys to):=by
 intro pq s O H Q I h;refine ę<|Fo I hg hm Į ?_ (by decide)<|by decide
 refine Ĕ ?_ (by rw[hs];rfl) rfl
 rw[hs];show wpAny _ _ (spliced<|(false,eval o X.env)::backTo p2 (starEach [] X.env)) _ _ s;refine Ŷ<|AX (ho pq s O H _ I h) λv s1 zz=>?_
 let(x,H1,I1,r1,q1):=zz;let(a,ks,xs,rfl,el,hd,q):=q1;cases r1;let(z,hsm,vs,rel,o',es,ep,ho',r):=(I1.hok a _ hd);have hat:s1.heap.DictAt (DY X.prog X.w) a vs ep:={(o'),es,ho',r};refine Α ?_;refine W.kdl_call (W.kdl_dict hsm) (I1.ok.hd hc) hat (by rw[<- zp8 rel];exact z) λh' tk acc' c' hk hD hacc=>?_
 have hkeys:=Z7 el rel;refine{.ref _,_,I1.laid hk (Ç _) ?_,rfl,q _<|I1.hok.fresh<|Ç _};refine{by rw[Á,<- Z6 el];exact z,acc'.toList,c',?_,by rw[hD]}
 have hlen:acc'.toList.length=ks.length:=by
  rw[Array.length_toList,hacc.1,<- Á,hkeys,Á]
 have key:∀(n ) (k ) (v ),ks[n]?=↑k->acc'.toList[n]?=↑v->∃t,v=Value.str k t:=λn k v h1 h2=>by
  let(k',x',e1,e2):=hacc.2 n v (by rw[<- Array.getElem?_toList];exact h2)
  have e3:(vs.map (·.1))[n]?=↑k':=by rw[Ë,e1];rfl
  rw[hkeys,Ë,h1]at e3;have e4 :=(Ý e3).symm;subst e4
  rcases F7 (show Gu (Sum.inr k) v=true from e2) with ⟨i,t,e5,_⟩|⟨x,t,e5,e6⟩
  .cases e5
  .cases e5;exact{(t),e6}
 clear hD hk hacc
 generalize acc'.toList=as at hlen key
 clear hd q hkeys
 have go:∀(ks:kE) (as ),as.length=ks.length->(∀(n:Nat) (k ) (v ),ks[n]?=↑k->as[n]?=↑v->∃t,v=Value.str k t)->Ac (ks.map V.str) as:=by
  intro ks
  induction ks with
  |nil=>
   intro as hl _;cases as with
   |nil=>exact .nil|cons _ _=>simp at hl
  |cons k ks ih=>
   intro as hl key;cases as with
   |nil=>simp at hl|cons v as=>exact .cons (key 0 k v rfl rfl)<|ih as (by simpa using hl) λn k v h1 h2=>key (n+1) k v (by simpa using h1)<|by simpa using h2
 exact go ks as hlen key
def Gr(m:AH):AH:=λY=>match m Y with
 |some (.v (.obj (.sdc ks) _) _)=>↑(.v (.own<|ks.map T.str) false)|_=>none
theorem zgx{K}(ks:kE):Ah K F (ks.map T.str)<|ks.map V.str:={by simp,λi t x h1 h2=>by
 rw[Ë]at h1 h2;cases h:ks[i]? with
 |none=>grind|some k=>rw[h]at h1 h2;cases h1;cases h2;exact .str k}
def r_kys(hc:X.calm=true)(hg:Gl X "list")(hm:X.mg "list"=none)(ho:PE X o<|tM X.K E ca m)(hs:starEach [o] X.env=[(false,eval o X.env)]):PE X (.Call (.Name "list" p) [o] [] p2)<|tM X.K E ca<|Gr m:=by
 refine PE.weak (zo7 hc hg hm ho hs) λO H Q h=>?_
 let(F,Y,R,S,q):=h;refine{F,Y,R,S,?_};unfold Gr at q;cases hm2:m Y with
 |none=>rw[hm2]at q;symm|some r=>
  rw[hm2]at q;cases r with
  |x c=>symm|v t b=>
   cases t with
   |obj kd l=>
    cases kd with
    |sdc ks=>
     intro F1 H1 x B e1 g1;let(r1,hB):=M7 g1;subst hB;let(a,xs,rfl,_,(hl1,hF),el,cc):=r1.obj_inv;refine{a,ks,xs,rfl,hl1,e1.fh _ _ hF,λp hp=>?_}
     have gg:Di X.K F1 H1 (.own<|ks.map T.str) Q:=λF' H' z C e g=>q F' H' z C (e1.trans0 e) g
     exact gg.list e1.fh (zgx ks) hp
    |_=>symm
   |_=>symm
structure ICls(K:k6)(C:Addr):Prop where
 c:Cls K C
 a:W.findIn K (.ref C) "__class__"=↑(↑(.builtin "object.__class__"))
 n:W.specialIn K (.builtin "object.__class__") "__get__"=↑(↑(.builtin "getset_descriptor.__get__"))
 k:W.takesIn K (.builtin "object.__class__")=↑true
 m:W.mroIn K C (.type "object")=↑true
def SY(tb:List<|Addr×Bool):Ob->kH
 |.ins C _=>(tb.lookup C).map .bl|_=>none
def LW:List String:=["NoneType","bool","int","str","list","tuple","dict"]
def KL(tb:List<|Addr×Bool):T->kH
 |.obj o _=>SY tb o|t=>(LX t).map λ_=>.bl false
def zis(hC:ICls X.K C)(hk:W.kitOne X.K (.ref C) (.ref D)=↑b):Bp X (.builtin "isinstance") (λxs H Q=>∃a dx fs,xs=[.ref a,.ref D]/\H a=↑(.ins C dx fs)/\Q (.bl b) H):=by
 intro pq s O H xs us Q I r h;let(a,dx,fs,rfl,e,q):=h;let(u,w',rfl,rx,ry):=G6 r;cases ry;exact SW I rx (.ins e hC.c hC.a hC.n hC.k hC.m) hk λtk=>{.bl b,H,I.tok _,rfl,q}
def r_isC(hC:(∀C b,tb.lookup C=↑b->ICls X.K C/\W.kitOne X.K (.ref C) (.ref D)=↑b)/\(LW.all λa=>W.kitOne X.K (.type a) (.ref D) == ↑false)=true)(hg:Gl X "isinstance")(hm:X.mg "isinstance"=none)(hgc:Gl X c)(hmc:X.mg c=↑(.ref D))(hd:(c == "__debug__")=false)(ha:PE X e<|tM X.K E ca m)(he:starEach [e,.Name c p2] X.env=(false,eval e X.env)::starEach [.Name c p2] X.env) :
  PE X (.Call (.Name "isinstance" p) [e,.Name c p2] [] pos) (tM X.K E ca<|BQ (g1<|KL tb)<|AB m AE):=by
 have hR:Bp X (.builtin "isinstance") (λxs H Q=>(∃C b a dx fs,tb.lookup C=↑b/\xs=[.ref a,.ref D]/\H a=↑(.ins C dx fs)/\Q (.bl b) H)\/∃x a,xs=[x,.ref D]/\a∈LW/\(TyOf X.K H x (.type a)\/UI X.K H x a)/\Q (.bl false) H):=λpq s O H xs us Q I r h=>by
  rcases h with ⟨C,b,a,dx,fs,hl,h⟩|⟨x,a,rfl,hm,ty,q⟩
  .exact zis (hC.1 C b hl).1 (hC.1 C b hl).2 pq s O H xs us Q I r {(a),dx,fs,h}
  .have hk :=eq_of_beq<|ã.mp hC.2 a hm;let(u,w',rfl,rx,ry):=G6 r;cases ry
   rcases ty with ty|hp
   .exact SW I rx ty hk λtk=>{.bl false,H,I.tok _,rfl,q}
   .exact Zj I rx hp hk λtk=>{.bl false,H,I.tok _,rfl,q}
 refine PE.weak (Ly hR hg hm PyProof.Rows.boot_isinstance (EB ha (EB (Wu (v:=.ref D) hgc hmc rfl hd) FQ) he) (by decide) (by decide) he rfl) λO H Q h=>?_
 refine(HP<|HQ h).mono λx H1 h1=>?_
 let(F,ts,w,fh,rs,e,q):=HN h1;unfold g1 at e;split at e
 .let(x1,xs1,e1,r1,rs1):=rs.inv;cases e1;unfold KL at e;split at e
  .unfold SY at e;split at e
   .let(b,hb,rfl):=Ö.mp e;let(a,xs,rfl,_,(dx,hF),_,_):=r1.obj_inv;exact .inl {_,b,a,dx,_,hb,rfl,fh _ _ hF,q.bl fh}
   .cases e
  .let(a,ha,rfl):=Ö.mp e;let(ty,hm):=Ux fh r1 ha;exact .inr {_,a,rfl,hm,ty,q.bl fh}
 .cases e
variable {p1 pos2 pos3:Pos}{mu:Bool}{i j:Nat}{x f:Str}
end
end Pu
namespace Zx
open PySem PySem.Spec PyProof.Rows L2 Zw
section
variable {A:Around}{E:Value->Shared->Prop}{M:Model}
end
section
variable {X:Cx}{i1 i2:Nat}{x1 x2 n1 n2:Str}{np1 np2 pos hpos1 hpos2:Pos}{body suite1 suite2:kD}{b1 b2:Stmt}{tb th1 th2:TS}{E:L2.St->XK}
end
end Zx
namespace Pu
open PySem PySem.Spec PyProof.Rows L2 Zw Zx
section
variable {X:Cx}{E:L2.St->XK}{ca:Str->Value}{mu:Bool}{i1 i2:Nat}{x1 x2 n1 n2:Str}{np1 np2 pos hpos1 hpos2:Pos}{body suite1 suite2:kD}{b1 b2:Stmt}{u h1 h2:AG}{cs1 cs2:List<|Str×Addr}
variable {m:AH}{e:Expr}{p p2 p3 p4:Pos}{c1 c2:Str}{t1 t2:List<|Addr×Bool}{kt:Nat}
end
section
variable {X:Cx}{E:L2.St->XK}{ca:Str->Value}{m mk ma:AH}{o k e a:Expr}{pos apos cpos p p2:Pos}
variable {pos':Pos}
end
abbrev Zy(ms:As):As:=E1 ms
theorem r_enX{X:Cx}{E:L2.St->XK}{ca:Str->Value}{ms:As}{a:Expr}{elts:kC}{kk:Nat}{p pos tpos:Pos}(hg:Gl X "enumerate")(hm:X.mg "enumerate"=none)(ha:PA X [a]<|CK X.K E ca ms)(hs:starEach [a] X.env=[(false,eval a X.env)]):PI X (.Tuple elts kk tpos) (.Call (.Name "enumerate" p) [a] [] pos)<|tI X.K E ca<|Zy ms:=Wd hg hm ha hs
def clsO(C N:Addr)(o:Obj):Prop:=∃nm q bs hdct sn sub ab col dd k0 k1 k2 k3 k5 newId,o=excClassObj nm q C N bs [.type "object"] hdct sn sub ab col dd k0 k1 k2 k3 k5 newId
def keyO(e:DictEntry):Bool:=match e.key with
 |.str n _=>!(n == ("__eq__":Str)) && !(n == ("__ne__":Str))|_=>false
def nsO(o:Obj):Bool:=match o.data with
 |.dict es _=>es.toList.all keyO|_=>false
structure TiOk(K:k6)(C:Addr):Prop where
 i:ICls K C
 k:(IA.all λc=>W.kitOne K (.ref C) (.type c) == ↑false)=true
 o:∃(oC oN:Obj) (N:Addr),K.lookup C=↑oC/\clsO C N oC/\K.lookup N=↑oN/\nsO oN=true
mutual
noncomputable def T.lend:T->T
 |.nd o k l=>match o,k with
  |true,.lst=>.nd false .rl (GP l)|true,.tup=>.nd false .tup (GP l)|_,_=>.nd o k l
 |.dic ks l=>.dic ks l|.pdc ks l=>.pdc ks l|.odc ks l=>.odc ks l|.obj k l=>.obj k l|.oob p C fs l=>.oob p C fs l|.osd ks l=>.osd ks l|.non=>.non|.bl b=>.bl b|.int i=>.int i|.str x=>.str x
noncomputable def GP:List T->List T
 |[]=>[]|t::r=>t.lend::GP r
end
def SX:T->Bool
 |.nd o k _=>match o,k with
  |true,.lst=>true|_,_=>false
 |_=>false
def zlj(h:SX t=true):∃l,t=.nd true .lst l:=by
 cases t with
 |nd o k l=>
  cases o with
  |false=>cases h|true=>cases k<;>first|exact⟨l,rfl⟩|cases h
 |_=>cases h
mutual
noncomputable def T.lnd:T->Bool
 |.nd o k l=>match o,k with
  |true,.lst=>FY l|true,.tup=>l.any SX && FY l|true,_=>false|false,_=>A6 l
 |.dic _ l=>A6 l|.pdc _ l=>A6 l|.odc _ _=>false|.obj _ l=>A6 l|.oob _ _ _ _=>false|.osd _ _=>false|.non=>true|.bl _=>true|.int _=>true|.str _=>true
noncomputable def FY:List T->Bool
 |[]=>true|t::r=>t.lnd && FY r
end
def MV:∀l,GP l=l.map T.lend
 |[]=>rfl|t::r=>by rw[GP,MV r];rfl
def SG:∀{l},FY l=true->∀{i:Nat} {t},l[i]?=↑t->t.lnd=true
 |[],_,i,t,e=>by simp at e|a::r,h,i,t,e=>by
  rw[FY,È]at h;cases i with
  |zero=>cases e;exact h.1|succ j=>exact SG h.2<|by simpa using e
def ZQ(n:T.lnd (.nd true .tup l)=true):l.any SX=true/\FY l=true:=by
 rw[T.lnd,È]at n;exact n
def Rp.lend{K}(r:Rp K F H t x A)(n:t.lnd=true)(s:A4 F F')(k:∀a xs,A a->H a=↑(.lst xs)->∃o,F' a=↑(.frz o<|.lst xs))(k2:∀a xs,A a->H a=↑(.tup xs)->F' a=↑(.tup xs)):Rp K F' H' t.lend x R0:=by
 induction r with
 |non=>exact .non|bl b=>exact .bl b|int i=>exact .int i|str y=>exact .str y|@shr k0 p xs l h e c ih=>
  have hs:T.sh (.nd false k0 l)=true:=by rw[T.sh];rw[T.lnd]at n;exact n
  have hl:(T.nd false k0 l).lend=.nd false k0 l:=by cases k0<;>rfl
  rw[hl];exact(Rp.shr (H:=H) h e c).move hs s
 |dic h e ek c ih=>exact(Rp.dic (H:=H) h e ek c).move (by rw[T.sh];exact n) s|pdc h e ek c ih=>exact(Rp.pdc (H:=H) h e ek c).move (by rw[T.sh];exact n) s|odc f h e ek c ih=>cases n|obj h e c ih=>exact(Rp.obj (H:=H) h e c).move (by rw[T.sh];exact n) s|oob R f h e c d dp o ih=>cases n|osd R f h e ek c d dp o ih=>cases n|@own k0 p xs l hk R f h e c d dp o ih=>
  have kids:FY l=true->∀i t x,(GP l)[i]?=↑t->xs[i]?=↑x->Rp K F' H' t x R0:=λnl i t x h1 h2=>by
   rw[MV,Ë]at h1;let(t0,e0,rfl):=Ö.mp h1;exact ih i t0 x e0 h2 (SG nl e0) (λa xs z=>k a xs<|.inr {(i),z}) λa xs z=>k2 a xs<|.inr {(i),z}
  cases k0 with
  |lst=>rw[T.lend];exact .shr (.inl<|k p xs (.inl rfl) h) (by rw[MV,Á];exact e) (kids n)|tup=>rw[T.lend];exact .shr (k:=.tup) (k2 p xs (.inl rfl) h) (by rw[MV,Á];exact e) (kids (ZQ n).2)|_=>cases n
def Rp.lnd{K}(r:Rp K F H t x A)(n:t.lnd=true):∀a,A a->(∃xs,H a=↑(.lst xs))\/∃xs,H a=↑(.tup xs)/\∃(j:Nat) (c:Addr) (ys:kK),xs[j]?=↑(.ref c)/\A c/\H c=↑(.lst ys):=by
 induction r with
 |@own k0 p xs l hk R f h e c d dp o ih=>
  have kids:FY l=true->∀a i,R i a->(∃xs,H a=↑(.lst xs))\/∃xs,H a=↑(.tup xs)/\∃(j:Nat) (c:Addr) (ys:kK),xs[j]?=↑(.ref c)/\(c=p\/∃i,R i c)/\H c=↑(.lst ys):=λnl a i z=>by
   have hi:=o i a z;have hx:i<xs.length:=by lia
   rcases ih i _ _ (Â hi) (Â hx) (SG nl<|Â hi) a z with w|⟨zs,h1,j,c,ys,h2,h3,h4⟩
   .exact .inl w
   .exact .inr {zs,h1,j,c,ys,h2,.inr {(i),h3},h4}
  cases k0 with
  |lst=>
   rintro a (rfl|⟨i,z⟩)
   .exact .inl {(xs),h}
   .exact kids n a i z
  |tup=>
   let(n1,n2):=ZQ n;rintro a (rfl|⟨i,z⟩)
   .let(t,ht,hl):=Δ.mp n1;let(m,rfl):=zlj hl;let(j,hj,ej):=Ű.mp ht;have hx:j<xs.length:=by lia
    have rj:=c j _ _ (Â hj)<|Â hx;rw[ej]at rj;generalize hB:R j=B at rj;generalize hy:xs[j]=y at rj;cases rj with
    |@own k1 q ys m' hk1 Rq fq hq eq cq dq dpq oq=>exact .inr {xs,h,j,q,ys,by rw[Â hx,hy],.inr {j,by rw[hB];exact .inl rfl},hq}
   .exact kids n2 a i z
  |_=>cases n
 |odc f h e ek c ih=>cases n|oob R f h e c d dp o ih=>cases n|osd R f h e ek c d dp o ih=>cases n|_=>exact λa z=>z.elim
open Classical in
def fz(A:Rg)(h:Heap)(H:Hp):Hp:=λb=>if A b then (match H b,h.get? b with
 |some (.lst xs),↑o=>↑(.frz o<|.lst xs)|u,_=>u) else H b
open Classical in
def th(A:Rg)(H H':Hp):Hp:=λb=>if A b then H b else H' b
def fz_in{A:Rg}{h:Heap}{H:Hp}(z:A b)(e:H b=↑(.lst xs))(q:h.get? b=↑o):fz A h H b=↑(.frz o<|.lst xs):=by unfold fz;rw[if_pos z,e,q]
def aI{A:Rg}{h:Heap}{H:Hp}(z:¬ A b):fz A h H b=H b:=by unfold fz;rw[if_neg z]
def KS{A:Rg}{h:Heap}{H:Hp}(e:∀xs,H b≠↑(.lst xs)):fz A h H b=H b:=by
 unfold fz;split
 .split
  .rename_i xs _ q _;exact absurd q<|e xs
  .rfl
 .rfl
def IB{A:Rg}{H H':Hp}(z:A b):th A H H' b=H b:=by unfold th;rw[if_pos z]
def Fe{A:Rg}{H H':Hp}(z:¬ A b):th A H H' b=H' b:=by unfold th;rw[if_neg z]
section
variable {X:Cx}{pq:List<|Addr×Obj}{O O':L2.St}{H H':Hp}{s s':Shared}{A:Rg}
def Hj(I:Inv X pq O H s)(z:A b)(e:H b=↑(.lst xs)):∃o,s.heap.get? b=↑o/\fz A s.heap H b=↑(.frz o<|.lst xs):=by
 let(_,its,n,_,q):=I.hok b _ e;exact{_,q,fz_in z e q}
def zht(I:Inv X pq O H s):Inv X pq O (fz A s.heap H) s:=by
 have nf:∀{b},H b=none->fz A s.heap H b=none:=λ{b} e=>by
  rw[KS (λxs q=>by rw[e]at q;cases q)];exact e
 have nl:∀{b} {u},H b=↑u->(∀xs,u≠.lst xs)->fz A s.heap H b=↑u:=λ{b u} e n=>by
  rw[KS (λxs q=>by rw[e]at q;exact n xs<|Ý q)];exact e
 refine { I with base:={I.base.keep,I.base.slot,λb o e n hx=>nf<|I.base.free b o e n hx,I.base.there,λb xs e=>nl (I.base.tups b xs e) (λ_ z=>by cases z),λb o u e=>nl (I.base.frzs b o u e) (λ_ z=>by cases z),λb ps e=>?_},free:=nf I.free,freeC:=λx c e=>nf<|I.freeC x c e,pin:=λp hp=>?_,hok:=λa o e=>?_ }
 .let(more,q):=I.base.tbls b ps e;exact{more,nl q<|λ_ z=>by cases z}
 .let(h1,h2,h3):=I.pin p hp;exact{h1,nf h2,h3}
 .have st:=λ{u} q=>(I.hok a u q).stay (H':=fz A s.heap H) (λ_ _ _ e=>e) (λb e=>nl e<|λ_ z=>by cases z) λb xs e=>nl e<|λ_ z=>by cases z
  by_cases z:A a/\∃xs,H a=↑(.lst xs)
  .let(z,xs,q):=z;let(ob,ho,w):=Hj I z q;rw[w]at e;cases e;exact{ho,st q}
  .by_cases zA:A a
   .rw[KS<|λxs q=>z {(zA),xs,q}]at e
    exact st e
   .rw[aI zA]at e;exact st e
def zhs(I:Inv X pq O H s)(hA:∀a,A a->(∃xs,H a=↑(.lst xs))\/∃xs,H a=↑(.tup xs))(Γ:Inv X pq O' H' s')(hk:∀b,A b->H' b=fz A s.heap H b):Inv X pq O' (th A H H') s':=by
 have nf:∀{b},(A b->H b=none)->H' b=none->th A H H' b=none:=λ{b} e1 e2=>by
  by_cases z:A b
  .rw[IB z];exact e1 z
  .rw[Fe z];exact e2
 have tp:∀{b xs},A b->H b=↑(.tup xs)->H' b=↑(.tup xs):=λ{b xs} z e=>by
  rw[hk b z,KS (λys q=>by rw[e]at q;cases q)];exact e
 have nl:∀{b} {u},H' b=↑u->(∀o xs,u≠.frz o (.lst xs))->th A H H' b=↑u:=λ{b u} e n=>by
  by_cases z:A b
  .rcases hA b z with ⟨xs,q⟩|⟨xs,q⟩
   .let(o,_,w):=Hj I z q;rw[hk b z,w]at e;exact absurd (Ý e).symm<|n o xs
   .rw[IB z,q,<- tp z q];exact e
  .rw[Fe z];exact e
 refine { Γ with base:={Γ.base.keep,Γ.base.slot,λb o e n hx=>nf (λ_=>I.base.free b o e n hx)<|Γ.base.free b o e n hx,Γ.base.there,λb xs e=>nl (Γ.base.tups b xs e) (λ_ _ z=>by cases z),λb o u e=>?_,λb ps e=>?_},free:=nf (λ_=>I.free) Γ.free,freeC:=λx c e=>nf (λ_=>I.freeC x c e)<|Γ.freeC x c e,pin:=λp hp=>?_,hok:=λa o e=>?_ }
 .by_cases z:A b
  .rw[IB z];exact I.base.frzs b o u e
  .rw[Fe z];exact Γ.base.frzs b o u e
 .let(more,q):=Γ.base.tbls b ps e;exact{more,nl q<|λ_ _ z=>by cases z}
 .let(h1,h2,h3):=Γ.pin p hp;exact{h1,nf (λ_=>(I.pin p hp).2.1) h2,h3}
 .have st:=λ{u} (q:Cz X.prog X.w H' s'.heap a u)=>q.stay (H':=th A H H') (λ_ _ _ e=>e) (λb e=>nl e<|λ_ _ z=>by cases z) λb xs e=>nl e<|λ_ _ z=>by cases z
  by_cases z:A a
  .rcases hA a z with ⟨xs,q⟩|⟨xs,q⟩
   .let(ob,ho,w):=Hj I z q;rw[IB z,q]at e;cases e;have:=Γ.hok a _<|(hk a z).trans w;exact st this.2
   .rw[IB z,q]at e;cases e;exact st<|Γ.hok a _<|tp z q
  .rw[Fe z]at e;exact st<|Γ.hok a o e
end
def M4:Kd->Bool
 |.rl=>false|.rt=>false|_=>true
def oYng:Ob->Bool
 |.lab _=>false|_=>true
mutual
noncomputable def T.noR:T->Bool
 |.nd _ k l=>M4 k && Es l|.dic _ l=>Es l|.pdc _ l=>Es l|.odc _ l=>Es l|.obj k l=>oYng k && Es l|.oob _ _ _ l=>Es l|.osd _ l=>Es l|.non=>true|.bl _=>true|.int _=>true|.str _=>true
noncomputable def Es:List T->Bool
 |[]=>true|t::r=>t.noR && Es r
end
def Fl:∀{l},Es l=true->∀{i:Nat} {t},l[i]?=↑t->t.noR=true
 |[],_,i,t,e=>by simp at e|a::r,h,i,t,e=>by
  rw[Es,È]at h;cases i with
  |zero=>cases e;exact h.1|succ j=>exact Fl h.2<|by simpa using e
def zoq{K}(r:Rp K F H t (.ref c) A)(n:t.noR=true)(hf:F c=↑(.frz o<|.lst ys)):False:=by
 cases r with
 |@shr k0 p xs l hn e kk=>
  rw[T.noR,È]at n;cases k0 with
  |lst=>have h:F c=↑(.lst xs):=hn;rw[hf]at h;cases h|pin q=>have h:F c=↑(.lst xs):=hn;rw[hf]at h;cases h|tup=>have h:F c=↑(.tup xs):=hn;rw[hf]at h;cases h|rl=>cases n.1|rt=>cases n.1
 |dic hn e ek c=>rw[hf]at hn;cases hn|pdc hn e ek c=>rw[hf]at hn;cases hn|odc f hn e ek c=>rw[hf]at f;cases f|@obj k0 p xs l hn e c=>
  rw[T.noR,È]at n;cases k0 with
  |ins C fs=>let(dx,q):=hn;rw[hf]at q;cases q
  |exn C=>let(dx,(ob,q,_),_):=hn;rw[hf]at q;cases q
  |sdc ks=>have q:=hn.2;rw[hf]at q;cases q|lab q=>cases n.1
 |oob R f hn e c d dp o=>rw[hf]at f;cases f|osd R f hn e ek c d dp o=>rw[hf]at f;cases f|own hk R f hn e c d dp o=>rw[hf]at f;cases f
def Rp.noR{K}{H0:Hp}{A:Rg}(r:Rp K F H t x B)(n:t.noR=true)(hf:∀b,A b->(∃o xs,F b=↑(.frz o<|.lst xs))\/∃xs,F b=↑(.tup xs)/\∃(j:Nat) (c:Addr) (o:Obj) (ys:kK),xs[j]?=↑(.ref c)/\F c=↑(.frz o<|.lst ys))(hB:∀b,B b->¬ A b):Rp K (FK A F) (th A H0 H) t x B:=by
 have nl:∀{b} {u},F b=↑u->(∀o xs,u≠.frz o (.lst xs))->(∀xs,u≠.tup xs)->FK A F b=↑u:=λ{b u} e m m2=>by
  unfold FK;rw[if_neg<|λz=>?_]
  .exact e
  .rcases hf b z with ⟨o,xs,q⟩|⟨xs,q,_⟩
   .rw[e]at q;exact m o xs<|Ý q
   .rw[e]at q;exact m2 xs<|Ý q
 have nn:∀{b},F b=none->FK A F b=none:=λ{b} e=>by unfold FK;split;rfl;exact e
 induction r with
 |non=>exact .non|bl b=>exact .bl b|int i=>exact .int i|str y=>exact .str y|@shr k0 p xs l hn e c ih=>
  rw[T.noR,È]at n;refine .shr ?_ e λi t x h1 h2=>ih i t x h1 h2 (Fl n.2 h1) λb z=>z.elim
  cases k0 with
  |lst=>exact nl hn (λ_ _ z=>by cases z) (λ_ z=>by cases z)|pin q=>exact nl hn (λ_ _ z=>by cases z) (λ_ z=>by cases z)|tup=>
   have hF:F p=↑(.tup xs):=hn;show FK A F p=↑(.tup xs);unfold FK;rw[if_neg<|λz=>?_]
   .exact hF
   .rcases hf p z with ⟨o,ys,q⟩|⟨zs,q,j,c',o,ys,h1,h2⟩
    .rw[hF]at q;cases q
    .rw[hF]at q;cases q;have hj:j<l.length:=by rw[e];exact(Ñ.mp h1).1
     exact zoq (c j _ _ (Â hj) h1) (Fl n.2<|Â hj) h2
  |rl=>cases n.1|rt=>cases n.1
 |dic hn e ek c ih=>exact .dic (nl hn (λ_ _ z=>by cases z)<|λ_ z=>by cases z) e ek λi t x h1 h2=>ih i t x h1 h2 (Fl n h1) λb z=>z.elim|pdc hn e ek c ih=>exact .pdc (nl hn (λ_ _ z=>by cases z)<|λ_ z=>by cases z) e ek λi t x h1 h2=>ih i t x h1 h2 (Fl n h1) λb z=>z.elim|odc f hn e ek c ih=>exact .odc (nn f) ((Fe<|hB _ rfl).trans hn) e ek λi t x h1 h2=>ih i t x h1 h2 (Fl n h1) λb z=>z.elim|@obj k0 p xs l hn e c ih=>
  rw[T.noR,È]at n;refine .obj ?_ e λi t x h1 h2=>ih i t x h1 h2 (Fl n.2 h1) λb z=>z.elim
  cases k0 with
  |ins C fs=>exact hn.elim λdx q=>{dx,nl q (λ_ _ z=>by cases z)<|λ_ z=>by cases z}|exn C=>let(dx,(ob,q,r),s):=hn;exact{dx,{ob,nl q (λ_ _ z=>by cases z) (λ_ z=>by cases z),r},λv hv=>let ⟨d,od,u,e,h1,r⟩:=s v hv;{d,od,u,e,nl h1 (λ_ _ z=>by cases z) (λ_ z=>by cases z),r}}
  |sdc ks=>exact{hn.1,nl hn.2 (λ_ _ z=>by cases z)<|λ_ z=>by cases z}|lab q=>exact hn
 |oob R f hn e c d dp o ih=>exact .oob R (nn f) ((Fe<|hB _<|.inl rfl).trans hn) e (λi t x h1 h2=>ih i t x h1 h2 (Fl n h1) λb z=>hB b<|.inr {(i),z}) d dp o|osd R f hn e ek c d dp o ih=>exact .osd R (nn f) ((Fe<|hB _<|.inl rfl).trans hn) e ek (λi t x h1 h2=>ih i t x h1 h2 (Fl n h1) λb z=>hB b<|.inr {(i),z}) d dp o|own hk R f hn e c d dp o ih=>rw[T.noR,È]at n;exact .own hk R (nn f) ((Fe<|hB _<|.inl rfl).trans hn) e (λi t x h1 h2=>ih i t x h1 h2 (Fl n.2 h1) λb z=>hB b<|.inr {(i),z}) d dp o
def EY(i:Nat)(m:AH):AH:=λY=>match Y[i]? with
 |some ↑t=>if t.lnd then (match m (Y.set i ↑t.lend) with
  |some (.v v false)=>if v.noR then ↑(.v v false) else none
  |_=>none) else none
 |_=>none
def zf6(h:EY i m Y=↑r):∃t v,Y[i]?=↑↑t/\t.lnd=true/\m (Y.set i ↑t.lend)=↑(.v v false)/\v.noR=true/\r=.v v false:=by
 unfold EY at h
 grind
def ZX{X:Cx}{E:L2.St->XK}{ca:Str->Value}{m:AH}{i:Nat}{pq:List<|Addr×Obj}{s:Shared}{O:L2.St}{H:Hp}{Q:VK}(I:Inv X pq O H s)(h:tM X.K E ca (EY i m) O H Q) :
  ∃A:Rg,Inv X pq O (fz A s.heap H) s/\tM X.K E ca m O (fz A s.heap H) (λv H'=>(∀b,A b->H' b=fz A s.heap H b)/\Q v (th A H H'))/\∀{O':L2.St} {H':Hp} {s':Shared},Inv X pq O' H' s'->(∀b,A b->H' b=fz A s.heap H b)->Inv X pq O' (th A H H') s':=by
 let(F,Y,R,S,q):=h;cases hm:EY i m Y with
 |none=>rw[hm]at q;symm|some r=>
  let(t,v,ht,hl,hv,hn,rfl):=zf6 hm;rw[hm]at q;let(x,ex,r):=S.rep i t ht;have hi:i<Y.length:=(Ñ.mp ht).1;have hA:=r.lnd hl;have hA':∀a,R i a->(∃xs,H a=↑(.lst xs))\/∃xs,H a=↑(.tup xs):=λa z=>(hA a z).imp_right λ⟨xs,e,_⟩=>{(xs),e}
  have fA:∀a,R i a->F a=none:=λa z=>(r.dom z).1
  have nG:∀{b},¬ R i b->fz (R i) s.heap H b=H b:=λz=>aI z
  have tG:∀{b xs},H b=↑(.tup xs)->fz (R i) s.heap H b=↑(.tup xs):=λ{b xs} e=>by rw[KS (λys z=>by rw[e]at z;cases z)];exact e
  have sF:A4 F<|frz F (fz (R i) s.heap H)<|R i:=Ed fA
  have fh:A4 (frz F (fz (R i) s.heap H)<|R i)<|fz (R i) s.heap H:=λb u e=>by
   by_cases z:R i b
   .rw[EI z]at e;exact e
   .rw[Ec z]at e;rw[nG z];exact S.fh b u e
  have S':StR X.K (frz F (fz (R i) s.heap H)<|R i) (fz (R i) s.heap H) O (Y.set i ↑t.lend) (λj=>if j=i then R0 else R j):=by
   refine{fh,by simpa using S.len,λj t' e=>?_,λj a z=>?_,λj k a hjk z1 z2=>?_}
   .by_cases hj:j=i
    .subst hj;rw[é hi]at e;cases e;refine{x,ex,?_};erw[Æ];refine r.lend hl sF (λa xs z e1=>?_) λa xs z e1=>?_
     .let(o,_,w):=Hj (A:=R j) I z e1;exact{o,by rw[EI z];exact w}
     .rw[EI z];exact tG e1
    .rw[æ<|Î hj]at e;let(y,e1,r1):=S.rep j t' e;refine{y,e1,?_};erw[hj,Ã];exact r1.frame sF λa z=>{nG λw=>S.dis j i a hj z w,by rw[Ec<|λw=>S.dis j i a hj z w];exact(r1.dom z).1}
   .by_cases hj:j=i
    .erw[hj,Æ]at z;exact z.elim
    .erw[hj,Ã]at z;let(t',e):=S.out j a z;exact{t',by rw[æ<|Î hj];exact e}
   .by_cases hj:j=i
    .erw[hj,Æ]at z1;exact z1.elim
    .by_cases hk:k=i
     .erw[hk,Æ]at z2;exact z2.elim
     .erw[hj,Ã]at z1;erw[hk,Ã]at z2;exact S.dis j k a hjk z1 z2
  have gin:∀b,R i b->∃u,fz (R i) s.heap H b=↑u:=λb z=>by
   rcases hA' b z with ⟨xs,e⟩|⟨xs,e⟩
   .let(o,_,w):=Hj (A:=R i) I z e;exact{_,w}
   .exact{_,tG e}
  refine{R i,zht I,{_,_,_,S',?_},λΓ hk=>zhs I hA' Γ hk}
  rw[hv];intro F' H' y B e g;have g':Rp X.K F' H' v y B:=g
  have nB:∀b,B b->¬ R i b:=λb z w=>by
   let(u,q1):=gin b w;rw[e.nb b z]at q1;cases q1
  refine{λb z=>?_,q (FK (R i) F') (th (R i) H H') y B {λb u w=>?_,λb u w=>?_,λb u w=>?_,λb z=>?_,λb u w=>?_} ?_}
  .let(u,q1):=gin b z;rw[q1];exact e.hh b _ q1
  .by_cases z:R i b
   .rw[IB z];exact w
   .rw[Fe z];exact e.hh b u (by rw[nG z];exact w)
  .have z:¬ R i b:=λz=>by rw[fA b z]at w;cases w
   unfold FK;rw[if_neg z];exact e.ff b u<|sF b u w
  .unfold FK at w
   by_cases z:R i b
   .rw[if_pos z]at w;cases w
   .rw[if_neg z]at w;rw[Fe z];exact e.fh b u w
  .rw[<- nG<|nB b z];exact e.nb b z
  .unfold FK at w
   by_cases z:R i b
   .rw[if_pos z]at w;cases w
   .rw[if_neg z]at w
    rcases e.nf b u w with w|w
    .rw[Ec z]at w;exact .inl w
    .rw[nG z]at w;exact .inr w
  .refine g'.noR hn (λb z=>?_) nB
   rcases hA b z with ⟨xs,e1⟩|⟨xs,e1,j,c,ys,h1,h2,h3⟩
   .let(o,_,w):=Hj (A:=R i) I z e1;exact .inl {o,xs,e.ff b _ (by rw[EI z];exact w)}
   .let(o,_,w):=Hj (A:=R i) I h2 h3;exact .inr {xs,e.ff b _ (by rw[EI z];exact tG e1),j,c,o,ys,h1,e.ff c _ (by rw[EI h2];exact w)}
def znj{X:Cx}{E:L2.St->XK}{ca:Str->Value}{m:AH}{e:Expr}{i:Nat}(he:PE X e<|tM X.K E ca m):PE X e<|tM X.K E ca<|EY i m:=by
 intro pq s O H Q I h;let(A,I',h',back):=ZX I h;refine ï (he pq s O _ _ I' h') (λu s' hx=>?_) λ_ _ z=>z
 let(v',H',Γ,rv,hk,hq):=hx;exact{v',_,back Γ hk,rv,hq}
def zn4{X:Cx}{E:L2.St->XK}{ca:Str->Value}{m:AH}{st:Stmt}{i j:Nat}(hs:PS X st<|G8 (tM X.K E ca m)<|GU j):PS X st<|G8 (tM X.K E ca<|EY i m)<|GU j:=by
 intro pq s O H D I h;let(A,I',h',back):=ZX I h;refine ï (hs pq s O _ { nx:=λO' H'=>(∀b,A b->H' b=fz A s.heap H b)/\D.nx O' (th A H H'),rt:=λ_ _=>False,bk:=λ_ _=>False,ct:=λ_ _=>False } I' h') (λf s' hx=>?_) λ_ _ z=>z
 cases f with
 |next=>let(O',H',Γ,hk,hq):=hx;exact{O',_,back Γ hk,hq}
 |brk=>let(_,_,_,z):=hx;exact z.elim
 |cont=>let(_,_,_,z):=hx;exact z.elim
 |ret u=>let(_,_,_,_,_,z):=hx;exact z.elim
end Pu
namespace Zx
open PySem PySem.Spec PyProof.Rows L2 Zw
section
variable {M:Model}{prog:Program}{w:World}{A:Around}{E:Value->Shared->Prop}{env:Env}{nm q:Str}{C N:Addr}{bs bm:k9}{hdct:Bool}{sn:kE}{sub:k9}{ab:Bool}{col:Option Bool}{dd:Option Addr}{k0 k1 k2 k3 k5:Option Value}{newId:String}
variable {K:k6}{s:Shared}{e:Addr}{vs:Array Value}{sl:Array<|Option Value}{name:Str}{v:Value}
end
section
variable {K:k6}{prog:Program}{w:World}{A:Around}{E:Value->Shared->Prop}{s:Shared}{a C:Addr}{name:Str}{u:Value}
variable {X:Cx}{pq:List<|Addr×Obj}{O:L2.St}{H:Hp}{t:Addr}
end
section
variable {X:Cx}{E:L2.St->XK}{C:Addr}{x:Str}{p pos:Pos}{e:Expr}{t:TA}{k j:Nat}
end
section
variable {X:Cx}{pq:List<|Addr×Obj}{O:L2.St}{H:Hp}{s:Shared}{a C t:Addr}{dx:Option Addr}
variable {E:L2.St->XK}{e:Expr}{pos:Pos}{te:TE}
end
end Zx
namespace Pu
open PySem PySem.Spec PyProof.Rows L2 Zw Zx
def F8(t u:T):kH:=match t,u with
 |.nd _ .lst (_::_),.nd _ .lst []=>↑(.bl false)|_,_=>BD t u
def zks(hu:X.A.units+64<cLine):Ae X (compareOp .Eq)<|Be X.K F8:=by
 intro pq s O H x y v u Q I rx ry h;let(F,t1,t2,r,fh,r1,r2,e,q):=h;unfold F8 at e;split at e
 .cases e;let(p,xs,rfl,rfl,n1,k1):=Ds r1;let(p',ys,rfl,rfl,n2,k2):=Ds r2;cases rx;cases ry;let(its,rv,pl,_):=I.list<|AZ.of<|fh _ _ n1;let(its',rv',pl',_):=I.list<|AZ.of<|fh _ _ n2;refine SeqAt.RcAt.lists_lengths pl.isList pl'.isList ?_ (by lia) _ _ _ _ {.bl false,H,I,rfl,q.bl fh}
  have l1:=k1.1;have l2:=k2.1;have l3:=rv.length;have l4:=rv'.length
  grind
 .exact XA hu pq s O H x y v u Q I rx ry {F,t1,t2,_,fh,r1,r2,e,q}
end Pu
noncomputable section
namespace Pu
open PySem PySem.Spec PyProof.Rows L2 Zw Zx
structure Fn where
 lv:Nat
 ps:kE
 g:kL->Option Ru
structure Gx where
 co:List (Str×T)
 cl:List (Str×Addr×kE)
 mt:List (Str×Addr×kE×Fn)
 nw:List (Str×Fn×List (Nat×kL))
 nr:Bool
 tx:Bool
 df:Bool
 sf:Option (Addr×kE)
 xs:List (Str×List (Str×Addr))
 sb:List (Str×List (Addr×Bool))
 sv:List (Str×List (Addr×Bool))
 no:Bool
 fo:kE
 ci:List (Str×List (Addr×Bool))
 x2:List (Str×Str×List (Str×Addr))
 gt:kE
 wd:List (Str×Fn)
 pn:kE
 ti:List Addr
 dn:List (Str×Fn×kL)
 rn:Option<|Addr×Nat
abbrev Cv:Gx:={[],[],[],[],false,true,true,none,[],[],[],true,[],[],[],[],[],[],[],[],none}
structure Gm where
 N:kE
 nm:List (Str×NameKind)
 ce:kE
 lv:Nat
 fns:List (Str×Fn)
 bl:kE
 ex:kE
 ow:kE
 pk:kE
 mu:Bool
 mus:List (Str×Fn)
 mv:kE
 dc:kE
 ox:Gx
def Cq(x:Str):Bool:=!(x == ("__debug__":Str)) && !(x == ("__classdict__":Str)) && !(x == ("__name__":Str))
def OJ(nm:List<|Str×NameKind)(x:Str):Bool:=nm.lookup x == ↑.local || nm.lookup x == ↑.cell || nm.lookup x == ↑.free
def CO(nm:List<|Str×NameKind)(x:Str):Bool:=nm.lookup x == ↑.globalImplicit
def EG(N:kE)(x:Str):Option Nat:=N.findIdx? (· == x)
def Gm.var(J:Gm)(x:Str):Option Nat:=if Cq x && OJ J.nm x then EG J.N x else none
def Gm.loc(J:Gm)(x:Str):Bool:=Cq x && (J.nm.lookup x == ↑.local || J.ce.contains x)
def Dq:Expr->Bool
 |.Starred ..=>false|_=>true
def GH:Expr->Bool
 |.IfExp ..=>false|.NamedExpr ..=>false|_=>true
def nmOf:Expr->Option (Str×Pos)
 |.Name x p=>↑(x,p)|_=>none
def OO:kC->kE
 |[]=>[]|e::es=>(match nmOf e with
  |some (x,_)=>x::OO es|none=>OO es)
def E6:Expr->kE
 |.Name x _=>[x]|.Tuple es _ _=>OO es|_=>[]
def zpj:Expr->Bool
 |.Tuple ..=>true|_=>false
def He:Expr->Bool
 |.Slice ..=>true|_=>false
def Ee(nm:List<|Str×NameKind):kE:=nm.filterMap λ(y,k)=>if k == .free then ↑y else none
def T8(nm:List<|Str×NameKind):kE:=nm.filterMap λ(y,k)=>if k == .cell then ↑y else none
def Jf(inner outer:List<|Str×NameKind):List<|Str×NameKind:=inner.map λ(n,k)=>if (k == .free && outer.lookup n == ↑.cell) then (n,.cell) else (n,k)
def K8(N:kE):kE->Option (kG)
 |[]=>↑[]|y::r=>(match EG N y with
  |some i=>(match K8 N r with
   |some l=>↑(i::l)|none=>none)
  |none=>none)
def Ke(J:Gm)(scope:Scope)(N':kE):Bool:=
 (scope.kind == .function) && scope.names.all (λx=>!(x.2 == .local) || scope.names.lookup x.1 == ↑.local) &&
 scope.names.all (λx=>!(x.2 == .free) || (scope.names.lookup x.1 == ↑.free && (J.nm.lookup x.1 == ↑.cell || J.nm.lookup x.1 == ↑.free) && !(scope.names.contains (x.1,NameKind.cell)))) &&
 decide N'.Nodup && (T8 scope.names).all (λy=>(Jf scope.names J.nm).lookup y == ↑.cell)
def Gm.blk(J:Gm)(scope:Scope)(N':kE):Gm:={ J with N:=N',nm:=Jf scope.names J.nm,ce:=(T8 scope.names).filter λy=>scope.names.lookup y == ↑.cell,ow:=[],ox:={ J.ox with df:=false,nr:=true } }
def Qi:Expr->Bool
 |.Set ..=>false|_=>true
def Gv:Expr->Bool
 |.ListComp ..=>true|.SetComp ..=>true|.DictComp ..=>true|_=>false
def Zo:Expr->Bool
 |.Attribute ..=>true|_=>false
def gtN(J:Gm):Expr->Bool
 |.Name x _=>J.ox.gt.contains x|_=>false
def Gj:Expr->Bool
 |.Call _ es _ _=>!es.isEmpty|_=>true
def Mx(h:Gj o=true):attributeBase o f env (eval o env)=eval o env:=by
 cases o with
 |Call g es ks c=>
  cases es with
  |nil=>cases h|cons e es=>cases g<;>rfl
 |_=>rfl
def zf4(h:Gj o=true)(hf:((backTo pos<|starEach es env).all λx=>!x.1)=true)(hn:es.length<30)(hl:(ap.endLine == pos.line)=true):∃pl ,eval (.Call (.Attribute o f ap) es [] pos) env=(do
   let ov <- eval o env
   standAt ap.atName
   let (f,first) <- holding [ov] (getMethod ov f pl)
   callWith pos f first (backTo pos<|starEach es env) (backToKw pos<|keywordEach [] env)):=by
 refine{do let b <- importBound o env;pure (b.getD true),?_}
 have e:methodCallForm (es.length+([]:List Keyword).length) (backTo pos<|starEach es env) (backToKw pos<|keywordEach [] env)=true:=by
  unfold methodCallForm;rw[hf];show(true && true && decide (es.length+0+0<30))=true;rw[Ì<|by lia];rfl
 rw[arm_eval_Call,Mx h];unfold methodCall calleeOf methodCallPos;rw[e,hl]
 rfl
structure GxOk(G:Gx)(lv:Nat)(P:Program)(w:World)(K:k6)(mg:Str->Option Value)(base:Heap)(ca:Str->Value):Prop where
 co:∀x t,G.co.lookup x=↑t->∃u v,mg x=↑u/\A7 v u/\∀F:Hp,Rp K F F t v R0
 cl:∀c∈G.cl,Cls K c.2.1/\∀f∈c.2.2,C4 K c.2.1 f
 mt:∀c∈G.mt,c.2.2.2.lv<=lv/\Nonempty (MetX P w K mg base c.2.1 c.1 c.2.2.2.lv c.2.2.2.ps<|Bb K ca c.2.2.2.g)
 nw:∀x F ds,G.nw.lookup x=↑(F,ds)->F.lv+1<=lv/\∃(C:Addr) (D:NewX P w K mg base x C F.lv F.ps<|J6 K ca C F.g),∀k dts,ds.lookup k=↑dts->∃dvs us,C6 K D.fd F.ps us/\Ac dvs us/\∀H:Hp,Ah K H dts dvs
 sf:∀C fs,G.sf=↑(C,fs)->Cls K C/\∀f∈fs,C4 K C f
 xs:∀W cs,G.xs.lookup W=↑cs->∃T:ECls K mg W,∀c C,cs.lookup c=↑C->ca c=.ref C/\PySem.W.subIn K (.ref C) (.ref T.C)=↑true
 sb:∀D tb,G.sb.lookup D=↑tb->∃A:Addr,mg D=↑(.ref A)/\∀C b,tb.lookup C=↑b->ExcK K C/\PySem.W.kitOne K (.ref C) (.ref A)=↑b
 sv:∀D tb,G.sv.lookup D=↑tb->mg D=none/\∃t,bootBuiltins D=↑(.type t)/\∀C b,tb.lookup C=↑b->ExcK K C/\PySem.W.kitOne K (.ref C) (.type t)=↑b
 ci:∀x tb,G.ci.lookup x=↑tb->∃D:Addr,mg x=↑(.ref D)/\(∀C b,tb.lookup C=↑b->ICls K C/\PySem.W.kitOne K (.ref C) (.ref D)=↑b)/\(LW.all λa=>PySem.W.kitOne K (.type a) (.ref D) == ↑false)=true
 x2:∀W1 W2 cs,(W1,W2,cs)∈G.x2->∃(T1:ECls K mg W1) (T2:ECls K mg W2),∀c C,cs.lookup c=↑C->ca c=.ref C/\PySem.W.subIn K (.ref C) (.ref T1.C)=↑false/\PySem.W.subIn K (.ref C) (.ref T2.C)=↑true
 wd:∀x F,G.wd.lookup x=↑F->F.lv<=lv/\∃p,F.ps=[p]/\Nonempty (DefS P w K mg base F.lv x p<|Bb K ca F.g)
 ti:∀C∈G.ti,TiOk K C
 dn:∀x y,G.dn.lookup x=↑y->y.1.lv<=lv/\∃(D:DefX P w K mg base y.1.lv x y.1.ps<|Bb K ca y.1.g) (dvs:kK),DefsX K D.fd y.1.ps dvs/\∀H:Hp,Ah K H y.2 dvs
 rn:True
structure CxOk(J:Gm)(X:Cx)(E:L2.St->XK)(ca:Str->Value):Prop where
 N:X.N=J.N
 nd:J.N.Nodup
 nm:X.env.scope.names=J.nm
 kd:X.env.scope.kind=.function
 calm:X.calm=true
 room:Room J.lv X.A
 ce:∀x∈J.ce,X.fn x=true/\J.nm.lookup x=↑.cell
 bl:∀b∈J.bl,X.mg b=none
 ps:Cy X E
 po:J.ox.nr=false->PassesOwn (model X.prog X.w) X.A X.env X.xe
 md:J.ox.nr=false->UW X E
 mn:True
 fs:∀f F,J.fns.lookup f=↑F->F.lv<=J.lv/\Nonempty (DefX X.prog X.w X.K X.mg X.base F.lv f F.ps<|Bb X.K ca F.g)
 ex:∀c∈J.ex,∃T:ECls X.K X.mg c,ca c=.ref T.C/\DQ X.K T.C=↑none
 ms:∀f F,J.mus.lookup f=↑F->F.lv<=J.lv/\Nonempty (DefX X.prog X.w X.K X.mg X.base F.lv f F.ps<|DU X.K ca F.g)
 gx:GxOk J.ox J.lv X.prog X.w X.K X.mg X.base ca
 tr:J.ox.df=true->X.stack=X.env::X.outer/\X.env.frame=↑X.env.locals
 fr:Hv X
def Il(h:EG N x=↑i):N[i]?=↑x:=by
 unfold EG at h;let(h1,h2,_):=ě.mp h;rw[Â h1];exact congrArg some<|eq_of_beq h2
def EA(h:Cq x=true):(x == "__debug__")=false/\(x == "__classdict__")=false/\x≠"__name__":=by
 unfold Cq at h
 grind
def zgo(h:OJ sc.names x=true):Ef sc x:=by
 unfold OJ at h;erw[Ď,Ē]at h
 rcases h with (h|h)|h
 .exact .inl h
 .exact .inr<|.inl h
 .exact .inr<|.inr h
def Cn(h:Dq e=true):starEach (e::es) env=(false,eval e env)::starEach es env:=by
 cases e<;>first|rfl|cases h
def Fz:∀{es} {env} {pos},(∀e∈es,Dq e=true)->(backTo pos<|starEach es env).any (·.1)=false
 |[],env,pos,_=>rfl|e::es,env,pos,h=>by
  rw[Cn<|h e (Í ..)];have ih:=Fz (env:=env) (pos:=pos) λx hx=>h x<|É _ hx
  show(false || (backTo pos<|starEach es env).any (·.1))=false
  grind
section
variable {J:Gm}{X:Cx}{E:L2.St->XK}{ca:Str->Value}
def CxOk.var(C:CxOk J X E ca){pos:Pos}(h:J.var x=↑i):X.N[i]?=↑x/\Ef X.env.scope x/\(x == "__debug__")=false/\(x == "__classdict__")=false:=by
 unfold Gm.var at h;split at h
 .rename_i hp;rw[È]at hp;let(p1,p2,p3):=EA hp.1;exact{by rw[C.N];exact Il h,zgo (by rw[C.nm];exact hp.2),p1,p2}
 .cases h
def CxOk.gl(C:CxOk J X E ca)(h:CO J.nm x=true):Gl X x:=by
 show X.env.scope.names.lookup x=↑.globalImplicit;rw[C.nm];exact eq_of_beq h
def CxOk.loc(C:CxOk J X E ca)(h:J.loc x=true)(hi:EG J.N x=↑i):X.N[i]?=↑x/\HJ X.env.scope x/\(X.fn x=true\/X.env.scope.names.lookup x=↑.local):=by
 unfold Gm.loc at h;erw[È,Ď,Ē]at h;refine{by rw[C.N];exact Il hi,?_}
 rcases h.2 with h|h
 .exact{.inl (by rw[C.nm];exact h),.inr (by rw[C.nm];exact h)}
 .let(c1,c2):=C.ce x<|í.mp h;exact{.inr (by rw[C.nm];exact c2),.inl c1}
def CxOk.nodup(C:CxOk J X E ca):X.N.Nodup:=by rw[C.N];exact C.nd
def ZO(C:CxOk J X E ca)(h1:J.loc x=true)(h2:EG J.N x=↑i):PG X (.Name x pos)<|E7 X.K<|AD i:=by
 let(g1,g2,g3):=C.loc h1 h2;exact g_nm C.nodup g1 g2 g3
def d9:∀{ys} {caps},K8 N ys=↑caps->ys.length=caps.length/\∀(k j:Nat),caps[k]?=↑j->∃y,ys[k]?=↑y/\N[j]?=↑y
 |[],caps,h=>by cases h;exact{rfl,λk j e=>by simp at e}|y::r,caps,h=>by
  unfold K8 at h;split at h
  .rename_i i hi;split at h
   .rename_i l hl;cases h;let(h1,h2):=d9 hl;refine{by simp[h1],λk j e=>?_}
    cases k with
    |zero=>simp at e;subst e;exact{y,rfl,Il hi}|succ k=>exact h2 k j<|by simpa using e
   .cases h
  .cases h
def zfr(h:y∈Ee nm):(y,NameKind.free)∈nm:=by
 unfold Ee at h
 grind
def eO(C:CxOk J X E ca)(h:Ke J scope (E6 tg++Ee scope.names)=true)(hc:K8 J.N (Ee scope.names)=↑caps):BlkOk X scope (E6 tg++Ee scope.names) (E6 tg).length caps:=by
 unfold Ke at h;erw[È]at h;let((((h1,h2),h3),h4),h5):=h;let(l1,l2):=d9 hc
 have free:∀y∈scope.names,y.2=.free->scope.names.lookup y.1=↑.free/\(J.nm.lookup y.1=↑.cell\/J.nm.lookup y.1=↑.free)/\(y.1,NameKind.cell)∉scope.names:=λy hy hf=>by
  have q:=ã.mp h3 y hy;erw[hf,ì,Bool.not_true,Bool.false_or,È,Ē,Ď,Ŏ]at q;refine{q.1.1,q.1.2,λz=>?_}
  have:=í.mpr z;rw[this]at q;exact Bool.noConfusion q.2
 refine{eq_of_beq h1,λy hy hl=>?_,by simp[l1],λk j e=>?_,λy hy hf=>?_}
 .have q:=ã.mp h2 y hy;erw[hl,ì,Bool.not_true,Bool.false_or,Ē]at q;exact q
 .let(y,e1,e2):=l2 k j e;have fm:=zfr<|ç e1;let(f1,_,f3):=free _ fm rfl;refine{y,by rw[C.N];exact e2,?_,f1,f3}
  rw[Ĝ<|by lia]
  simpa using e1
 .let(f1,f2,_):=free y hy hf;refine{f1,?_};rw[C.nm];exact f2
def zgz(hk:env.scope.kind=.function):(relabel scope env).names=Jf scope.names env.scope.names:=by
 unfold relabel Jf;have e:(env.scope.kind == ScopeKind.function)=true:=by rw[hk];rfl
 erw[e,Ž]
 rfl
theorem mn0:True:=trivial
def eQ(C:CxOk J X E ca){scope:Scope}{N':kE}(h:Ke J scope N'=true)(cl)(A:Addr)(s₀:Shared)(H₀:Hp)(ex:List Addr)(xb)(hp:Cy (Dg X scope cl N' A s₀ H₀ ex xb) E'):CxOk (J.blk scope N') (Dg X scope cl N' A s₀ H₀ ex xb) E' ca:=by
 unfold Ke at h;erw[È]at h;let((((h1,h2),h3),h4),h5):=h;refine{rfl,ò h4,?_,?_,C.calm,C.room,λx hx=>?_,C.bl,hp,λz=>(by cases z),λz=>(by cases z),mn0,C.fs,C.ex,C.ms,{(C.gx.co),C.gx.cl,C.gx.mt,C.gx.nw,C.gx.sf,C.gx.xs,C.gx.sb,C.gx.sv,C.gx.ci,C.gx.x2,C.gx.wd,C.gx.ti,C.gx.dn,C.gx.rn},λz=>(by cases z),C.fr}
 .show(relabel scope X.env).names=Jf scope.names J.nm;rw[zgz C.kd,C.nm]
 .exact eq_of_beq h1
 .have hx':x∈(T8 scope.names).filter λy=>scope.names.lookup y == ↑.cell:=hx
  rw[Ĺ]at hx';refine{Ì<|eq_of_beq hx'.2,?_};exact eq_of_beq<|ã.mp h5 x hx'.1
end
def Sj(h:Qi e=true)(x):foldedSetIterable e env x=pure x:=by
 cases e<;>first|rfl|cases h
theorem Qa(h:He k=false):Kx k:=λo i=>by
 cases k<;>first|rfl|cases h
def Dp{b:Bool}(h:(!b)=true):b=false:=by cases b<;>first|rfl|cases h
def gd{α:Type}:(b:Bool)->(b=true->Option α)->Option α
 |true,k=>k rfl|false,_=>none
def oe{α β:Type}:(o:Option α)->((a:α)->o=↑a->β)->β->β
 |some a,k,_=>k a rfl|none,_,d=>d
abbrev ob{α β:Type}(o:Option α)(k:(a:α)->o=↑a->Option β):Option β:=oe o k none
structure ER(J:Gm)(e:Expr) where
 m:AH
 ok:∀{X:Cx} {E:L2.St->XK} {ca:Str->Value},CxOk J X E ca->PE X e (tM X.K E ca m)/\(GH e=true->PT X e (BM X.K E ca m))
structure AR(J:Gm)(es:kC) where
 m:As
 ok:∀{X:Cx} {E:L2.St->XK} {ca:Str->Value},CxOk J X E ca->PA X es (CK X.K E ca m)
 st:∀e∈es,Dq e=true
 nl:es=[]->m=AE
structure OR(J:Gm)(es:kC) where
 m:As
 ok:∀{X:Cx} {E:L2.St->XK} {ca:Str->Value},CxOk J X E ca->PA X es (J2 X.K E ca m)
structure BR(J:Gm)(op:BoolOp)(es:kC) where
 m:AH
 ok:∀{X:Cx} {E:L2.St->XK} {ca:Str->Value} {pos:Pos},CxOk J X E ca->PE X (.BoolOp op es pos) (tM X.K E ca m)/\PW X (.BoolOp op es pos) (BM X.K E ca m)
structure PR(J:Gm)(o:Option Expr) where
 m:Option (AH)
 ok:∀{X:Cx} {E:L2.St->XK} {ca:Str->Value},CxOk J X E ca->PO X o (HM X.K m)
structure LR(J:Gm)(elt tg iter:Expr)(ifs:kC)(scope:Scope) where
 m:AH
 ok:∀{X:Cx} {E:L2.St->XK} {ca:Str->Value},CxOk J X E ca->∃caps mi b mt me,m=BF (E6 tg).length caps mi b mt me/\BlkOk X scope (E6 tg++Ee scope.names) (E6 tg).length caps/\PI X tg iter (tI X.K E ca mi) /\
   (∀E',AC X scope (E6 tg++Ee scope.names) E' λτ=>PG τ tg (E7 X.K b)/\HI τ ifs (BM X.K E' ca mt)/\PE τ elt (tM X.K E' ca me))/\∀x,foldedSetIterable iter X.env x=pure x
structure IR(J:Gm)(tg e:Expr) where
 m:As
 ok:∀{X:Cx} {E:L2.St->XK} {ca:Str->Value},CxOk J X E ca->PI X tg e (tI X.K E ca m)
 ns:Qi e=true
structure GR(J:Gm)(tg:Expr) where
 m:T->AM->Option AM
 ok:∀{X:Cx} {E:L2.St->XK} {ca:Str->Value},CxOk J X E ca->PG X tg (E7 X.K m)
structure GsR(J:Gm)(es:kC) where
 m:kL->AM->Option AM
 ok:∀{X:Cx} {E:L2.St->XK} {ca:Str->Value},CxOk J X E ca->EL X es (HR X.K m)/\(assignEach es X.env).length=es.length/\(assignEach es X.env).findIdx? (·.1)=none
structure SR(J:Gm)(s:Stmt) where
 m:AG
 ok:∀{X:Cx} {E:L2.St->XK} {ca:Str->Value},CxOk J X E ca->PS X s (tS X.K E ca J.mu m)
structure QR(J:Gm)(ss:kD) where
 m:AG
 ok:∀{X:Cx} {E:L2.St->XK} {ca:Str->Value},CxOk J X E ca->B5 X ss (tS X.K E ca J.mu m)
structure Dc where
 e:(J:Gm)->(e:Expr)->Option (ER J e)
 a:(J:Gm)->(es:kC)->Option (AR J es)
 o:(J:Gm)->(es:kC)->Option (OR J es)
 b:(J:Gm)->(op:BoolOp)->(es:kC)->Option (BR J op es)
 s:(J:Gm)->(s:Stmt)->Option (SR J s)
 q:(J:Gm)->(ss:kD)->Option (QR J ss)
theorem ER.t(r:ER J e)(h:GH e=true)(C:CxOk J X E ca):PT X e<|BM X.K E ca r.m:=(r.ok C).2 h
def OM:Expr->Prop
 |.UnaryOp ..=>False|.BoolOp ..=>False|.IfExp ..=>False|.Compare ..=>False|_=>True
def zj9(h:OM e)(whole):isTrue e env whole=(do let v <- whole;standAt e.pos;holding [v] (truthy v)):=by
 cases e<;>first|rfl|exact False.elim h
def vl{J:Gm}{e:Expr}(m:AH)(h:∀{X:Cx} {E:L2.St->XK} {ca:Str->Value},CxOk J X E ca->PE X e (tM X.K E ca m))(t:OM e:=by trivial):Option<|ER J e:=↑{m,λC=>{h C,λ_=>W9 (h C)<|zj9 t}}
structure OG(op:Operator) where
 g:T->T->kH
 ok:∀{X:Cx},Ae X (binaryOp op)<|Be X.K g
def opF:(op:Operator)->Option (OG op)
 |.Add=>↑{(Al),zku}|.Sub=>↑{(E8),zkn}|.Mult=>↑{(Bm),zkp}|.Mod=>↑{(BB),zkq}|.FloorDiv=>↑{(Bd),zhi}|.Pow=>↑{(Ea),zko}|.BitOr=>↑{(Kc),zkt}|.BitAnd=>↑{(Kf),zhj}|_=>none
structure CG(op:CmpOp) where
 g:T->T->kH
 ok:∀{J:Gm} {X:Cx} {E:L2.St->XK} {ca:Str->Value},CxOk J X E ca->Ae X (compareOp op) (Be X.K g)
def dW:(op:CmpOp)->Option (CG op)
 |.Eq=>↑{BD,λC=>XA C.room.units}|.NotEq=>↑{CD,λC=>zoj C.room.units}|.Lt=>↑{BX λi j=>decide (i<j),λ_=>MD op_lt}|.LtE=>↑{BX λi j=>decide (i<=j),λ_=>MD Wz}|.Gt=>↑{BX λi j=>decide (j<i),λ_=>MD op_gt}|.GtE=>↑{BX λi j=>decide (j<=i),λ_=>MD op_ge}|.Is=>↑{Cg false,λ_=>zok}|.IsNot=>↑{Cg true,λ_=>zf0}|.In=>↑{EH,λC=>zol C.room.units}|.NotIn=>↑{HW,λC=>zez C.room.units}
def dY:(op:CmpOp)->Option (CG op)
 |.LtE=>↑{FA,λ_=>zkr}|op=>dW op
def eCst(J:Gm)(c:Const)(k:Nat)(pos:Pos):Option<|ER J<|.Constant c k pos:=match c with
 |.int i=>vl (mC<|.int i) λ_=>Lu zo8 λ_ _=>.int i|.bool b=>vl (mC<|.bl b) λ_=>Lu pe_bl λ_ _=>.bl b|.none=>vl (mC .non) λ_=>Lu zo5 λ_ _=>.non|.str x=>vl (mC<|.str x) λ_=>Lu zo2 λ_ _=>.str x|_=>none
theorem CxOk.v(C:CxOk J X E ca)(h:J.var x=↑i):PE X (.Name x pos)<|tM X.K E ca<|AA i:=
 let ⟨h1,h2,h3,h4⟩:=C.var (pos:=pos) h
 r_var h1 h2 h3 h4
def eNam(J:Gm)(x:Str)(pos:Pos):Option<|ER J<|.Name x pos:=oe (J.var x) (λi hi=>vl (AA i) λC=>C.v hi) (gd (Cq x && CO J.nm x) λhp=>ob (J.ox.co.lookup x) λt ht=>vl (mC t) λC=>by
 rw[È]at hp;obtain⟨u,v,k1,k2,k3⟩:=C.gx.co x t ht;exact r_con (C.gl hp.2) k1 k2 (EA hp.1).1 k3)
def c8{J:Gm}{e:Expr}(t:OM e)(a:Option<|ER J e)(b:Option<|ER J e):Option<|ER J e:=a.bind λa=>match b with
 |some b=>vl (DO a.m b.m) (λC=>Q4 (a.ok C).1 (b.ok C).1) t|none=>↑a
def TX{J:Gm}{o:Expr}{f:Str}{pos:Pos}(r:ER J o)(hp:Gj o=true):(L:List<|Str×Addr×kE)->(∀c∈L,c∈J.ox.cl)->Option (ER J<|.Attribute o f pos)
 |[],_=>none|c::L,hL=>oe (c.2.2.findIdx? (· == f)) (λj hj=>c8 trivial (vl (CF c.2.1 c.2.2 j r.m) λC=>by
   obtain⟨h1,h2⟩:=C.gx.cl _<|hL _ (Í ..)
   have hf:f∈c.2.2:=by
    obtain⟨q1,q2,_⟩:=ě.mp hj;rw[<- eq_of_beq q2];exact Ò q1
   exact r_fld h1 (h2 f hf) hj (r.ok C).1 (Mx hp)) (TX r hp L λc h=>hL c<|É _ h))<|TX r hp L λc h=>hL c<|É _ h
def zl5(r:ER J o)(a:AR J es)(hpo:Gj o=true)(hln:(ap.endLine == pos.line)=true)(hlen:es.length<30)(hm:(f,g)∈J.ox.mt)(hnf:g.2.1.contains f=false){X:Cx}   (C:CxOk J X E ca) :
  PE X (.Call (.Attribute o f ap) es [] pos) (tM X.K E ca<|Dw g.1 g.2.1 g.2.2.g r.m a.m):=by
 obtain⟨hlv,⟨D⟩⟩:=C.gx.mt _ hm;have ho:=(r.ok C).1;have ha:=a.ok C;have hst:=a.st;have hnil:=a.nl;generalize a.m=ms at ha hnil
 clear a
 let(pl,ht):=zf4 (f:=f) (ap:=ap) (pos:=pos) (es:=es) (env:=X.env) hpo (by
  have:=Fz (env:=X.env) (pos:=pos) hst;rw[ã];intro z hz;rw[List.any_eq_false]at this
  simpa using this z hz) hlen hln
 cases es with
 |cons e es=>exact zni D hnf C.room C.ps ho ha hlv (Cn<|hst e (Í ..)) (Fz λx hx=>hst x<|É e hx) ht|nil=>
  refine PE.weak (pmx0 D C.room C.ps ho hlv ht) λO H Q h=>?_
  let(F,Y,R,S,q):=VV hnf h;refine{F,Y,R,S,?_};cases hm:r.m Y with
  |none=>rw[hm]at q;exact q|some r=>
   rw[hm]at q;cases r with
   |x c=>exact q|v t b=>intro F1 H1 x B e1 g1;let(a,dx,fs',h1,h2,h3,h4):=q F1 H1 x B e1 g1;refine{a,dx,fs',h1,h2,h3,?_};rw[hnil rfl]at h4;exact HN h4
def TV{J:Gm}{o:Expr}{f:Str}{ap pos:Pos}{es:kC}(r:ER J o)(a:AR J es)(hpo:Gj o=true)(hln:(ap.endLine == pos.line)=true)(hlen:es.length<30):(L:List<|Str×Addr×kE×Fn)->(∀c∈L,c∈J.ox.mt)->Option (ER J<|.Call (.Attribute o f ap) es [] pos)
 |[],_=>none|c::L,hL=>if h:c.1=f/\c.2.2.1.contains f=false then c8 trivial (vl (Dw c.2.1 c.2.2.1 c.2.2.2.g r.m a.m) λC=>zl5 r a hpo hln hlen (g:=c.2) (h.1▸hL c (Í ..)) h.2 C) (TV r a hpo hln hlen L λc h=>hL c<|É _ h) else TV r a hpo hln hlen L λc h=>hL c<|É _ h
def eAtt(D:Dc)(J:Gm)(o:Expr)(f:Str)(ap:Pos)(es:kC)(ks:List Keyword)(c:Pos):Option<|ER J<|.Call (.Attribute o f ap) es ks c:=match ks with
 |[]=>gd (Gj o && (ap.endLine == c.line) && decide (es.length<30)) λhc=>(D.e J o).bind λr=>(D.a J es).bind λa=>
  have hc:(Gj o=true/\(ap.endLine == c.line)=true)/\es.length<30:=by
   rw[È,È,ë]at hc;exact hc
  if hf:f="index" then (match es,a with
   |[k],a=>(D.e J k).bind λmk=>vl (H9 r.m mk.m) λC=>by
    subst hf;exact zjx (r.ok C).1 (mk.ok C).1 (Mx hc.1.1) (Cn (es:=[])<|a.st k (Í ..)) hc.1.2
   |_,_=>none) else
  if hf:f="join" then (match es,a with
   |[k],a=>(D.e J k).bind λmk=>vl (Jv r.m mk.m) λC=>by
    subst hf;exact znk (r.ok C).1 (mk.ok C).1 (Mx hc.1.1) (Cn (es:=[])<|a.st k (Í ..)) hc.1.2
   |_,_=>none) else
  TV r a hc.1.1 hc.1.2 hc.2 J.ox.mt λ_ h=>h
 |_=>none
def cmpB(op:CmpOp)(b:Expr):Option<|CG op:=
 match op,b with
 |.Eq,.List [] _=>↑{F8,λC=>zks C.room.units}|op,_=>
 dW op
def eCmp(D:Dc)(J:Gm)(a:Expr)(ops:List CmpOp)(bs:kC)(pos:Pos):Option<|ER J<|.Compare a ops bs pos:=match ops,bs with
 |[op],[b]=>gd (!(behindInMarks op b)) λhm=>(cmpB op b).bind λg=>(D.e J a).bind λra=>(D.e J b).bind λrb=>↑{BQ (g2 g.g)<|AB ra.m<|AB rb.m AE,λC=>
  have hm:=Dp hm
  {r_cmp (g.ok C) (ra.ok C).1 (rb.ok C).1 hm,λ_=>znf (g.ok C) (ra.ok C).1 (rb.ok C).1 hm}}
 |[op,op'],[b,c]=>gd (!(lastMarks [op,op'] [b,c])) λhm=>(dY op).bind λg=>(dY op').bind λg'=>(D.e J a).bind λra=>(D.e J b).bind λrb=>(D.e J c).bind λrc=>↑{FW g.g g'.g ra.m rb.m rc.m,λC=>
  have hm:=Dp hm
  {r_chn (g.ok C) (g'.ok C) (ra.ok C).1 (rb.ok C).1 (rc.ok C).1 hm,λ_=>zng (g.ok C) (g'.ok C) (ra.ok C).1 (rb.ok C).1 (rc.ok C).1 hm}}
 |_,_=>none
def eUn(D:Dc)(J:Gm)(op:UnaryOp)(a:Expr)(pos:Pos):Option<|ER J<|.UnaryOp op a pos:=match op with
 |.USub=>(D.e J a).bind λr=>↑{BQ (g1 Et)<|AB r.m AE,λC=>
  have hp:=r_un (pos:=pos) zj8 (r.ok C).1
  {hp,λ_=>W9 hp λ_=>rfl}}
 |.Not=>gd (GH a) λh=>(D.e J a).bind λr=>↑{Au r.m,λC=>{r_not (r.ok C).1,λ_=>zne<|r.t h C}}|_=>none
def dP(D:Dc)(J:Gm):(o:Option Expr)->Option (PR J o)
 |none=>↑{none,λ_=>r_po0}|some e=>(D.e J e).bind λr=>↑{↑r.m,λC=>r_po1 (r.ok C).1}
def eIx(D:Dc)(J:Gm)(a k:Expr)(pos:Pos):Option<|ER J<|.Subscript a k pos:=gd (!(He k)) λhs=>(D.e J a).bind λr=>(D.e J k).bind λrk=>
 if Zo a || gtN J a then vl (Jw r.m rk.m) λC=>r_gt (by have:=C.room.units;lia) (r.ok C).1 (rk.ok C).1 (Qa<|Dp hs) else
 vl (AK r.m rk.m) λC=>r_ix (r.ok C).1 (rk.ok C).1 (Qa<|Dp hs)
def eSub(D:Dc)(J:Gm)(a k:Expr)(pos:Pos):Option<|ER J<|.Subscript a k pos:=match k with
 |.Slice lo hi st p=>(match st with
  |none=>(D.e J a).bind λr=>(dP D J lo).bind λrl=>(dP D J hi).bind λrh=>if J.ox.tx then vl (DO (Ew r.m rl.m rh.m)<|FU r.m rl.m rh.m) λC=>Q4 (Wa (r.ok C).1 (rl.ok C) (rh.ok C)) (zh3 (r.ok C).1 (rl.ok C) (rh.ok C)) else vl (Ew r.m rl.m rh.m) λC=>Wa (r.ok C).1 (rl.ok C) (rh.ok C)
  |_=>none
  )
 |k=>eIx D J a k pos
def II(h:Dq e=true):starEach [e] env=[(false,eval e env)]:=Cn h
section
variable {J:Gm}{f:Str}{p:Pos}{e:Expr}{es:kC}{pos:Pos}{X:Cx}{E:L2.St->XK}{ca:Str->Value}
theorem bF(a:AR J<|e::es)(hp:Cq f=true)(hg:CO J.nm f=true)(hb:J.bl.contains f=true)(C:CxOk J X E ca){id}(hc:Bp X (.builtin id)<|DM X.K g)(hv:bootBuiltins f=↑(.builtin id)):PE X (.Call (.Name f p) (e::es) [] pos)<|tM X.K E ca<|BQ g a.m:=
 zno hc (C.gl hg) (C.bl f<|í.mp hb) hv (a.ok C) (EA hp).2.2 (EA hp).1 (Cn<|a.st e (Í ..)) (Fz λx hx=>a.st x<|É e hx)
theorem e7(a:AR J<|e::es)(hp:Cq f=true)(hg:CO J.nm f=true)(hb:J.bl.contains f=true)(C:CxOk J X E ca){id}(hc:Bp X (.type id)<|DM X.K g)(hv:bootBuiltins f=↑(.type id)):PE X (.Call (.Name f p) (e::es) [] pos)<|tM X.K E ca<|BQ g a.m:=
 Wf hc (C.gl hg) (C.bl f<|í.mp hb) hv (a.ok C) (EA hp).2.2 (EA hp).1 (Cn<|a.st e (Í ..)) (Fz λx hx=>a.st x<|É e hx)
def Mm(a:AR J<|e::es)(hp:Cq f=true)(hg:CO J.nm f=true)(hb:J.bl.contains f=true):Option<|ER J<|.Call (.Name f p) (e::es) [] pos:=
 if hf:f="len" then vl (BQ (g1 BA) a.m) λC=>by subst hf;exact bF a hp hg hb C zgc PySem.boot_len else
 if hf:f="list" then vl (BQ (g1 Cc) a.m) λC=>by subst hf;exact e7 a hp hg hb C eE Į else
 if hf:f="abs" then vl (BQ (g1 JB) a.m) λC=>by subst hf;exact bF a hp hg hb C zgh PyProof.Rows.boot_abs else
 if hf:f="int" then vl (BQ (g1 KO) a.m) λC=>by subst hf;exact e7 a hp hg hb C zge PyProof.Rows.boot_int else
 if hf:f="min" then vl (BQ (g2 Jq) a.m) λC=>by subst hf;exact bF a hp hg hb C (zga C.calm) PyProof.Rows.boot_min else
 if hf:f="max" then vl (BQ Hi a.m) λC=>by subst hf;exact bF a hp hg hb C (ziv C.calm) PyProof.Rows.boot_max else
 if hf:f="all" then vl (BQ (g1 Fu) a.m) λC=>by subst hf;exact bF a hp hg hb C (zgg C.calm) PyProof.Rows.boot_all else
 if hf:f="any" then vl (BQ (g1 Kg) a.m) λC=>by subst hf;exact bF a hp hg hb C (zgf C.calm) PyProof.Rows.boot_any else
 none
end
structure TyR(c:Str) where
 t:String
 ok:bootBuiltins c=↑(.type t)
def tyF(c:Str):Option<|TyR c:=
 if h:c="int" then ↑{"int",by subst h;exact PyProof.Rows.boot_int} else if h:c="bool" then ↑{"bool",by subst h;exact PyProof.Rows.boot_bool} else if h:c="str" then ↑{"str",by subst h;exact PyProof.Rows.boot_str} else
 if h:c="list" then ↑{"list",by subst h;exact Į} else if h:c="tuple" then ↑{"tuple",by subst h;exact PyProof.Rows.boot_tuple} else none
def eIs(D:Dc)(J:Gm)(p:Pos)(e:Expr)(es:kC)(pos:Pos)(hg:CO J.nm "isinstance"=true)(hb:J.bl.contains "isinstance"=true):Option<|ER J<|.Call (.Name "isinstance" p) (e::es) [] pos:=match es with
 |[.Name c p2]=>gd (CO J.nm c && Cq c && Dq e) λhc=>(D.e J e).bind λr=>
  have hc:(CO J.nm c=true/\Cq c=true)/\Dq e=true:=by
   rw[È,È]at hc;exact hc
  if hm:J.bl.contains c=true then (tyF c).bind λt=>vl (BQ (g1<|CH t.t)<|AB r.m AE) λC=>
   r_isT t.ok (C.gl hg) (C.bl _<|í.mp hb) (C.gl hc.1.1) (C.bl _<|í.mp hm) (EA hc.1.2).2.2 (EA hc.1.2).1 (r.ok C).1 (Cn hc.2)
  else ob (J.ox.ci.lookup c) λtb ht=>vl (BQ (g1<|KL tb)<|AB r.m AE) λC=>by
   obtain⟨_,k1,k2⟩:=C.gx.ci c tb ht;exact r_isC k2 (C.gl hg) (C.bl _<|í.mp hb) (C.gl hc.1.1) k1 (EA hc.1.2).1 (r.ok C).1 (Cn hc.2)
 |_=>none
def eSet(D:Dc)(J:Gm)(p:Pos)(e:Expr)(pos:Pos)(hg:CO J.nm "len"=true)(hb:J.bl.contains "len"=true):Option<|ER J<|.Call (.Name "len" p) [e] [] pos:=match e with
 |.Call (.Name x p2) [a] [] p3=>if h:x="set" then gd (CO J.nm "set" && J.bl.contains "set" && Dq a) λhc=>(D.e J a).bind λr=>vl (BQ (g1 JZ)<|AB r.m AE) λC=>by
   rw[È,È]at hc;subst h;exact r_unq C.calm (C.gl hg) (C.bl _<|í.mp hb) (C.gl hc.1.1) (C.bl _<|í.mp hc.1.2) (r.ok C).1 (II hc.2)
  else none
 |_=>none
def eKys(D:Dc)(J:Gm)(p:Pos)(e:Expr)(pos:Pos)(hp:Cq "list"=true)(hg:CO J.nm "list"=true)(hb:J.bl.contains "list"=true):Option<|ER J<|.Call (.Name "list" p) [e] [] pos:=if h:Zo e=true then (D.e J e).bind λr=>vl (DO (BQ (g1 Cc)<|AB r.m AE)<|Gr r.m) λC=>by
  have hns:Dq e=true:=by cases e<;>first|rfl|cases h
  have hst:=λenv=>II (env:=env) hns
  have b:=í.mp hb;exact Q4 (Wf eE (C.gl hg) (C.bl _ b) Į (We (r.ok C).1 Wb (hst _)) (EA hp).2.2 (EA hp).1 (hst _) rfl)<|r_kys C.calm (C.gl hg) (C.bl _ b) (r.ok C).1 (hst _)
 else none
def eLz(D:Dc)(J:Gm)(p:Pos)(e:Expr)(pos:Pos)(hg:CO J.nm "list"=true)(hb:J.bl.contains "list"=true):Option<|ER J<|.Call (.Name "list" p) [e] [] pos:=match e with
 |.Call (.Name f p2) [a,b] [] pos2=>if hf:f="zip" then gd (CO J.nm "zip" && J.bl.contains "zip") λh=>gd (Dq a && Dq b) λhs=>(D.e J a).bind λr=>(D.e J b).bind λr2=>vl (Ju r.m r2.m) λC=>by
   subst hf;rw[È]at h hs;exact r_lz C.calm (C.gl hg) (C.bl _<|í.mp hb) (C.gl h.1) (C.bl _<|í.mp h.2) (r.ok C).1 (r2.ok C).1 (Cn hs.1) (II hs.2) else none
 |_=>none
def eFn1(J:Gm)(f:Str)(p:Pos)(e:Expr)(es:kC)(pos:Pos)(a:AR J<|e::es)(hp:Cq f=true)(hg:CO J.nm f=true):Option<|ER J<|.Call (.Name f p) (e::es) [] pos:=
 ob (J.fns.lookup f) λF hF=>vl (AN F.g a.m) λC=>by
  obtain⟨hl,⟨D⟩⟩:=C.fs f F hF;exact znn D C.room C.ps (a.ok C) hl (C.gl hg) (EA hp).1 (Cn<|a.st e (Í ..)) (Fz λx hx=>a.st x<|É e hx)
def eFn(J:Gm)(f:Str)(p:Pos)(e:Expr)(es:kC)(pos:Pos)(a:AR J<|e::es)(hp:Cq f=true)(hg:CO J.nm f=true):Option<|ER J<|.Call (.Name f p) (e::es) [] pos:=
 oe (J.ox.nw.lookup f) (λF hF=>ob (F.2.lookup (e::es).length) λdts hd=>vl (Ic F.1.g dts a.m) λC=>by
   obtain⟨hl,CC,D,hD⟩:=C.gx.nw f F.1 F.2 hF;obtain⟨dvs,us,k1,k2,k3⟩:=hD _ _ hd;exact r_new D k1 k2 k3 C.room C.ps (a.ok C) hl (C.gl hg) (EA hp).1 (Cn<|a.st e (Í ..)) (Fz λx hx=>a.st x<|É e hx)) <|
 eFn1 J f p e es pos a hp hg
def eCal(D:Dc)(J:Gm)(f:Str)(p:Pos)(es:kC)(ks:List Keyword)(pos:Pos):Option<|ER J<|.Call (.Name f p) es ks pos:=match es,ks with
 |e::es,[]=>gd (Cq f && CO J.nm f) λhc=>
  have hc:Cq f=true/\CO J.nm f=true:=by
   rw[È]at hc;exact hc
  if hb:J.bl.contains f=true then
   (if hf : f = "isinstance" then (match f, hf, hc, hb with
    |_,rfl,hc,hb=>eIs D J p e es pos hc.2 hb) else
   match es with
   |[]=>
    (if hf : f = "len" then (match f, hf, hc, hb with
     |_,rfl,hc,hb=>(eSet D J p e pos hc.2 hb).orElse λ_=>(D.a J [e]).bind λa=>Mm a hc.1 hc.2 hb) else
    if hf:f="list" then (match f,hf,hc,hb with
     |_,rfl,hc,hb=>
      (eLz D J p e pos hc.2 hb).orElse λ_=>
      (eKys D J p e pos hc.1 hc.2 hb).orElse λ_=>(D.a J [e]).bind λa=>Mm a hc.1 hc.2 hb) else
    (D.a J [e]).bind λa=>Mm a hc.1 hc.2 hb)
   |_=>(D.a J _).bind λa=>Mm a hc.1 hc.2 hb)
  else (D.a J<|e::es).bind λa=>eFn J f p e es pos a hc.1 hc.2
 |_,_=>none
def dQ(J:Gm):(es:kC)->Option (GsR J es)
 |[]=>↑{Am,λ_=>{(g_nil),rfl,rfl}}|e::es=>(match e with
  |.Name x p=>gd (J.loc x) λhl=>ob (EG J.N x) λi hi=>(dQ J es).bind λr=>↑{AI (AD i) r.m,λ{X} {E} {ca} C=>by
   obtain⟨q1,q2,q3⟩:=r.ok C;refine{zpn (ZO C hl hi) q1 rfl,?_,?_}
   .show(assignEach es X.env).length+1=es.length+1;rw[q2]
   .show List.findIdx? (·.1) ((false,assign (.Name x p) X.env)::assignEach es X.env)=none
    rw[Ż,q3]
    rfl}
  |_=>none)
def dG(J:Gm):(tg:Expr)->Option (GR J tg)
 |.Name x _=>gd (J.loc x) λhl=>ob (EG J.N x) λi hi=>↑{AD i,λC=>ZO C hl hi}|.Tuple es _ _=>(dQ J es).bind λr=>↑{Ak es.length r.m,λC=>g_tup C.calm (r.ok C).1 (r.ok C).2.1 (r.ok C).2.2}|_=>none
def iV(D:Dc)(J:Gm)(tg e:Expr):Option<|IR J tg e:=gd (Qi e) λh=>(D.e J e).bind λr=>if J.ox.tx then ↑{Av r.m,λC=>znl (r.ok C).1,h} else ↑{Ip r.m,λC=>Wc (r.ok C).1,h}
def Fp(C:CxOk J X E ca)(h:(CO J.nm f && J.bl.contains f)=true):Gl X f/\X.mg f=none:=by
 rw[È]at h;exact{C.gl h.1,C.bl f<|í.mp h.2}
def iRg(D:Dc)(J:Gm)(tg a:Expr)(p c:Pos):Option<|IR J tg<|.Call (.Name "range" p) [a] [] c:=gd (CO J.nm "range" && J.bl.contains "range") λh=>(D.a J [a]).bind λr=>↑{CI r.m,λC=>zh4 (Fp C h).1 (Fp C h).2 (r.ok C) (Cn<|r.st a (Í ..)),rfl}
def iEn(D:Dc)(J:Gm)(tg a:Expr)(p c:Pos):Option<|IR J tg<|.Call (.Name "enumerate" p) [a] [] c:=match tg with
 |.Tuple ..=>gd (CO J.nm "enumerate" && J.bl.contains "enumerate") λh=>(D.a J [a]).bind λr=>if J.ox.tx then ↑{Zy r.m,λC=>r_enX (Fp C h).1 (Fp C h).2 (r.ok C) (Cn<|r.st a (Í ..)),rfl} else
  ↑{E1 r.m,λC=>Wd (Fp C h).1 (Fp C h).2 (r.ok C) (Cn<|r.st a (Í ..)),rfl}
 |_=>none
def iZp(D:Dc)(J:Gm)(tg a b:Expr)(p c:Pos):Option<|IR J tg<|.Call (.Name "zip" p) [a,b] [] c:=match tg with
 |.Tuple ..=>gd (CO J.nm "zip" && J.bl.contains "zip") λh=>(D.a J [a,b]).bind λr=>↑{Gw r.m,λC=>
   have s2:=λenv=>II (env:=env) (r.st b<|É _ (Í ..))
   r_zip (Fp C h).1 (Fp C h).2 (r.ok C) (by rw[Cn<|r.st a (Í ..),s2]) (s2 _),rfl}
 |_=>none
def iE1(D:Dc)(J:Gm)(tg a:Expr)(p c:Pos)(k:Keyword):Option<|IR J tg<|.Call (.Name "enumerate" p) [a] [k] c:=match tg,k with
 |.Tuple ..,{↑y,.Constant (.int i) ko vp,kp}=>if hy:y="start"/\i=1 then gd (CO J.nm "enumerate" && J.bl.contains "enumerate") λh=>(D.a J [a]).bind λr=>↑{Gy r.m,λC=>by
   obtain⟨rfl,rfl⟩:=hy;exact r_en1 (Fp C h).1 (Fp C h).2 (r.ok C) (Cn<|r.st a (Í ..)),rfl} else none
 |_,_=>none
def dI(D:Dc)(J:Gm)(tg e:Expr):Option<|IR J tg e:=match e with
 |.Call (.Name f p) es ks c=>(match es,ks with
  |[a],[]=>if h:f="range" then (match f,h with|_,rfl=>iRg D J tg a p c) else
   if h:f="enumerate" then (match f,h with|_,rfl=>iEn D J tg a p c) else
   iV D J tg _
  |[a,b],[]=>
   if h:f="zip" then (match f,h with|_,rfl=>iZp D J tg a b p c) else
   iV D J tg _
  |[a],[k]=>if h:f="enumerate" then (match f,h with|_,rfl=>iE1 D J tg a p c k) else none
  |_,_=>iV D J tg _)
 |e=>iV D J tg e
def dC(D:Dc)(J:Gm)(elt tg iter:Expr)(ifs:kC)(scope:Scope):Option<|LR J elt tg iter ifs scope:=
 gd (Ke J scope<|E6 tg++Ee scope.names) λhb=>ob (K8 J.N<|Ee scope.names) λcaps hc=>(dI D J tg iter).bind λri=>(dG (J.blk scope<|E6 tg++Ee scope.names) tg).bind λrg=>(D.e (J.blk scope<|E6 tg++Ee scope.names) elt).bind λre=>match ifs with
  |[]=>↑{BF (E6 tg).length caps ri.m rg.m (mC<|.bl true) re.m,λ{X} {E} {ca} C=>{caps,ri.m,rg.m,_,re.m,rfl,eO C hb hc,ri.ok C,λE' cl A s₀ H₀ ex xb hp=>
    have C':=eQ C hb cl A s₀ H₀ ex xb (E':=E') hp
    {rg.ok C',λpq s O H Q I q=>zk4 pq s O H Q I<|OU (K:=X.K) (E:=E') (ca:=ca) q,(re.ok C').1},Sj ri.ns}}
  |[c]=>gd (GH c) λhk=>(D.e (J.blk scope<|E6 tg++Ee scope.names) c).bind λrt=>↑{BF (E6 tg).length caps ri.m rg.m rt.m re.m,λ{X} {E} {ca} C=>{caps,ri.m,rg.m,rt.m,re.m,rfl,eO C hb hc,ri.ok C,λE' cl A s₀ H₀ ex xb hp=>
    have C':=eQ C hb cl A s₀ H₀ ex xb (E':=E') hp
    {rg.ok C',zk3<|rt.t hk C',(re.ok C').1},Sj ri.ns}}
  |_=>none
def eLC(D:Dc)(J:Gm)(elt:Expr)(gens:List Comprehension)(scope:Scope)(pos:Pos):Option<|ER J<|.ListComp elt gens scope pos:=match gens with
 |[{tg,iter,ifs,0}]=>(dC D J elt tg iter ifs scope).bind λr=>vl r.m λC=>by
  obtain⟨caps,mi,b,mt,me,h,B,hi,hg,hs⟩:=r.ok C;rw[h];exact r_lcV B (cq:=λX=>X.calm=true) (λ_ _ _ _ _ _ _ _ _=>C.calm) (Ws hi) C.ps C.fr hg hs
 |_=>none
def eIf(D:Dc)(J:Gm)(c a b:Expr)(pos:Pos):Option<|ER J<|.IfExp c a b pos:=gd (GH c) λh=>(D.e J c).bind λrc=>(D.e J a).bind λra=>(D.e J b).bind λrb=>↑{EF rc.m ra.m rb.m,λC=>{r_ife (rc.t h C) (ra.ok C).1 (rb.ok C).1,λz=>by cases z}}
def dEs(D:Dc)(J:Gm):(e:Expr)->Option (ER J e)
 |.Constant c k pos=>eCst J c k pos|.Name x pos=>eNam J x pos|.Attribute o f pos=>gd (Gj o) λh=>(D.e J o).bind λr=>TX r h J.ox.cl λ_ h=>h|.Call f es ks c=>(match f with
  |.Attribute o f ap=>eAtt D J o f ap es ks c|.Name f p=>eCal D J f p es ks c|_=>none)
 |.Compare a ops bs pos=>eCmp D J a ops bs pos|.BinOp a op b pos=>(opF op).bind λg=>(D.e J a).bind λra=>(D.e J b).bind λrb=>vl (BQ (g2 g.g)<|AB ra.m<|AB rb.m AE) λC=>r_bin g.ok (ra.ok C).1 (rb.ok C).1|.UnaryOp op a pos=>eUn D J op a pos|.BoolOp op vs pos=>(D.b J op vs).bind λr=>↑{r.m,λC=>{(r.ok C).1,λ_=>(r.ok C).2.pt}}|.IfExp c a b pos=>eIf D J c a b pos|.List es pos=>(D.o J es).bind λr=>vl (BH r.m) λC=>r_lst (r.ok C)|.Tuple es k pos=>(D.a J es).bind λr=>vl (BZ r.m) λC=>r_tup (r.ok C)|.Subscript a k pos=>eSub D J a k pos|.ListComp elt gens scope pos=>eLC D J elt gens scope pos|_=>none
def dAs(D:Dc)(J:Gm):(es:kC)->Option (AR J es)
 |[]=>↑{AE,λ_=>Wb,λ_ h=>(by cases h),λ_=>rfl}|e::es=>gd (Dq e) λh=>(D.e J e).bind λr=>(D.a J es).bind λa=>↑{AB r.m a.m,λC=>We (r.ok C).1 (a.ok C) (Cn h),λx hx=>(Ê.mp hx).elim (λz=>z▸h) (a.st x),λz=>by cases z}
def dOs(D:Dc)(J:Gm):(es:kC)->Option (OR J es)
 |[]=>↑{AE,λ_=>znh}|e::es=>gd (Dq e) λh=>(D.e J e).bind λr=>(D.o J es).bind λa=>↑{Ai r.m a.m,λC=>zjy (r.ok C).1 (a.ok C) (Cn h)}
def dBs(D:Dc)(J:Gm)(op:BoolOp):(es:kC)->Option (BR J op es)
 |[]=>none|[a]=>gd (GH a) λh=>(D.e J a).bind λr=>↑{r.m,λC=>{r_one (r.ok C).1,by
   cases op with
   |And=>exact zjw (r.t h C)|Or=>exact zjv<|r.t h C}}
 |a::b::es=>gd (GH a) λh=>(D.e J a).bind λr=>(D.b J op<|b::es).bind λrb=>match op,rb with
  |.And,rb=>↑{CP r.m rb.m,λC=>{r_and (r.ok C).1 (rb.ok C).1,znd (r.t h C) (rb.ok C).2}}|.Or,rb=>↑{BK r.m rb.m,λC=>{r_or (r.ok C).1 (rb.ok C).1,r_wor (r.t h C) (rb.ok C).2}}
def pkB:kE:=["len","isinstance","all","any","abs","min","max","int"]
def isLC:Expr->Bool
 |.ListComp ..=>true|_=>false
def Bh:Nat->kE->Expr->kE
 |0,_,_=>[]|n+1,pk,e=>
  let peek:=λ(x:Expr)=>match x with
   |.Name _ _=>[]|x=>Bh n pk x
  match e with
  |.Name x _=>[x]|.BinOp a _ b _=>Bh n pk a++Bh n pk b|.UnaryOp _ a _=>Bh n pk a|.BoolOp _ vs _=>vs.flatMap (Bh n pk)|.Compare a _ bs _=>peek a++bs.flatMap peek|.IfExp c a b _=>Bh n pk c++Bh n pk a++Bh n pk b|.Call (.Name f _) args [] _=>if pkB.contains f || pk.contains f then args.flatMap peek else args.flatMap (Bh n pk)
  |.Call (.Attribute _ _ _) args [] _=>args.flatMap λa=>if isLC a then Bh n pk a else []
  |.Subscript a k _=>(match k with
   |.Slice lo hi _ _=>Bh n pk a++(match lo with|some e=>Bh n pk e|none=>[])++(match hi with|some e=>Bh n pk e|none=>[])
   |_=>peek a++Bh n pk k)
  |.List es _=>es.flatMap (Bh n pk)|.Tuple es _ _=>es.flatMap (Bh n pk)|.ListComp _ [{_,iter,_,_}] scope _=>Bh n pk iter++Ee scope.names|_=>[]
def Uv(pk:kE):Stmt->kE
 |.Expr (.Call (.Attribute (.Name _ _) _ _) [e] [] _) _=>Bh 40 pk e|.Expr e _=>Bh 40 pk e|.Return (↑(.Name _ _)) _=>[]|.Return ↑e _=>Bh 40 pk e|.Assign [.Subscript (.Subscript _ k _) j _] e _=>Bh 40 pk k++Bh 40 pk j++Bh 40 pk e|.Assign [.Subscript _ k _] e _=>Bh 40 pk k++Bh 40 pk e|.Assign [_] e _=>Bh 40 pk e|.If c _ _ _=>Bh 40 pk c|.For _ it _ _ _=>Bh 40 pk it|.While c _ _ _=>Bh 40 pk c|_=>[]
def Zk:Stmt->Bool
 |.If ..=>true|_=>false
def isAsg:Stmt->Bool
 |.Assign [.Name ..] ..=>true|.Expr (.Call (.Attribute (.Name ..) f _) [_] [] _) _=>f == "extend"|_=>false
def mvN:Stmt->Option Str
 |.Assign [.Name ..] (.List [_,_,.Name y _] _) _=>↑y|_=>none
def frzs(J:Gm)(s:Stmt):kG:=((if Zk s then J.ox.gt++Uv J.pk s else Uv J.pk s).filter λx=>J.ow.contains x && !((isAsg s || Zk s) && (J.mv.contains x || (J.ox.fo.contains x && mvN s == ↑x)))).eraseDups.filterMap (EG J.N)
def subN:Expr->kE
 |.Call _ es _ _=>es.filterMap fun
  |.Subscript (.Name x _) _ _=>↑x|_=>none
 |_=>[]
def KC(J:Gm)(e:Expr):kG:=((Bh 40 J.pk e++subN e).filter λx=>J.ow.contains x && J.mv.contains x).eraseDups.filterMap (EG J.N)
def Ie(l:kG)(m:AH):AH:=l.foldr EY m
def Ls{X:Cx}{E:L2.St->XK}{ca:Str->Value}{m:AH}{e:Expr}(he:PE X e<|tM X.K E ca m):∀l,PE X e<|tM X.K E ca<|Ie l m
 |[]=>he|i::r=>znj<|Ls he r
def WA{X:Cx}{E:L2.St->XK}{ca:Str->Value}{m:AH}{st:Stmt}{j:Nat}(hs:PS X st<|G8 (tM X.K E ca m)<|GU j):∀l,PS X st<|G8 (tM X.K E ca<|Ie l m)<|GU j
 |[]=>hs|i::r=>zn4<|WA hs r
def Si(l:kG)(m:AG):AG:=l.foldr (λi m=>AF (E9 i) m) m
def L4(J:Gm)(x:Str)(px:Pos):Expr->Bool
 |.ListComp _ _ scope p=>J.nm.lookup x == ↑.local && px.line == p.line && !(scope.names.any λ(n,k)=>n == x && (k == .local || k == .cell))|_=>false
def V9(J:Gm)(x:Str):Bool:=J.nm.lookup x == ↑.cell
def IJ(J:Gm)(x:Str)(i:Nat)(m:AH):AG:=if J.ow.contains x then C0 i m else AO m (AD i)
def C8(c:Str)(ms:As):AG:=λY=>match ms Y with
 |some (.v ts _)=>if ts.length<=BS then ↑(.xc c Y) else none
 |some (.x c)=>↑(.xc c Y)|none=>none
def MA(J:Gm)(x y:Str)(px py:Pos)(a b:Expr):Bool:=
 J.nm.lookup x == ↑.local && J.nm.lookup y == ↑.local && px.line == py.line && !(x == y) && Dq a && Dq b && !(foldedForSure 8 a && foldedForSure 8 b) && !(constantsAlone 8 a && constantsAlone 8 b) && Cq x && Cq y
section
variable {X:Cx}{E:L2.St->XK}{ca:Str->Value}{J:Gm}{mu:Bool}
def PN{rest}(h:B5 X rest<|tS X.K E ca mu w):∀l ,B5 X rest<|tS X.K E ca mu<|Si l w
 |[]=>h|i::r=>s_frz<|PN h r
def OX(h:Gv e=false):swapsWith e t l env=pure false:=by
 cases e<;>first|rfl|cases h
def eM{env:Env}(h:env.scope.kind=.function):env.blockKind=.function:=by
 unfold Env.blockKind;rw[h]
 rfl
def zgr(C:CxOk J X E ca){p px:Pos}{x:Str}{l:Nat}(h:L4 J x px (.ListComp elt gens scope p)=true):swapsWith (.ListComp elt gens scope p) (↑(.Name x px)) l X.env=pure true:=by
 have e:swapsWith (.ListComp elt gens scope p) (↑(.Name x px)) l X.env=pure (X.env.blockKind == .function && X.env.kindOf x == ↑.local && px.line == p.line && !(scope.names.any λ(n,k)=>n == x && (k == .local || k == .cell))):=rfl
 rw[e];unfold L4 at h
 erw[È]at h;have k:X.env.kindOf x=↑.local:=by
  show X.env.scope.names.lookup x=↑.local;rw[C.nm];exact eq_of_beq h.1.1
 rw[eM C.kd,k,h.1.2,h.2]
 rfl
def zjd(C:CxOk J X E ca){px}(h:V9 J x=true):swapsWith e (↑(.Name x px)) l X.env=pure false:=by
 have k:X.env.kindOf x=↑.cell:=by
  show X.env.scope.names.lookup x=↑.cell;rw[C.nm];exact eq_of_beq h
 have c:(↑NameKind.cell == ↑NameKind.local)=false:=rfl;cases e<;>first|rfl|(unfold swapsWith;erw[k,c,Bool.and_false,Ŵ])
def zdw(C:CxOk J X E ca){px py pt p2}(h:MA J x y px py a b=true):swappedStores [.Tuple [.Name x px,.Name y py] kt pt] (.Tuple [a,b] k2 p2) X.env=pure (↑[x,y]):=by
 unfold MA at h;erw[È,Ŏ,Ē]at h;let(((((((((h1,h2),h3),h4),h5),h6),h7),h8),_),_):=h
 have kx:X.env.kindOf x=↑.local:=by
  show X.env.scope.names.lookup x=↑.local;rw[C.nm];exact h1
 have ky:X.env.kindOf y=↑.local:=by
  show X.env.scope.names.lookup y=↑.local;rw[C.nm];exact h2
 have ed:[x,y].eraseDups=[x,y]:=by
  have:(y == x)=false:=by
   rw[ī]at h4 ⊢;exact Î h4
  simp[List.eraseDups_cons,this,h4]
 have f1:(if (X.env.kindOf x == ↑NameKind.local && px.line == px.line)=true then ↑x else none)=↑x:=by rw[kx,ì,ì];rfl
 have f2:(if (X.env.kindOf y == ↑NameKind.local && py.line == px.line)=true then ↑y else none)=↑y:=by rw[ky,ì,<- h3,ì];rfl
 unfold swappedStores;dsimp only[List.length,List.any,List.all,List.filterMap,List.head?,Option.map,Option.getD,Expr.pos];erw[f1,f2,ed];refine(if_neg ?_).trans ((if_neg ?_).trans ((if_neg ?_).trans ((if_neg ?_).trans (if_neg ?_))))
 .rw[eM C.kd]
  decide
 .intro z;rw[ż,Ď]at z
  rcases z with z|z
  .cases a<;>first|(cases h5;done)|(cases z;done)
  .cases b<;>first|(cases h6;done)|(cases z;done)
 .show ¬ ((2 != 2 || 2 != 2)=true)
  decide
 .rw[Ž,h7];exact ü
 .rw[Ž,h8];exact ü
def Ld(h:Gv e=false):swapsWithSole [t] e l env=pure false:=OX h
def OY(h:He k=false)(v):assign (.Subscript o k pos) env v=(do
   let ov <- holding [v]<|eval o env;let iv <- holding [v,ov] (eval k env)
   standAt pos
   holding [v,ov,iv] (setItem ov iv v)
   release [v,ov,iv] []):=by
 cases k<;>first|rfl|cases h
def s_rse(C:CxOk J X E ca)(hnr:J.ox.nr=false)(hpn:GF c=none)(hc:c∈J.ex)(hg:CO J.nm c=true)(hp:Cq c=true)(ha:PA X (e::es)<|CK X.K E ca ms)(hs:∀x∈e::es,Dq x=true) :
  PS X (.Raise (↑(.Call (.Name c p) (e::es) [] cpos)) none pos) (tS X.K E ca mu<|C8 c ms):=by
 let(T,hT,hni):=C.ex c hc;let(p1,p2,p3):=EA hp;refine PS.weak (zh9 T hni C.calm (C.md hnr) ha (C.gl hg) p1 (Cn<|hs e (Í ..))<|Fz hs) λD O H h=>?_
 let(F,Y,R,S,q):=h;refine{F,Y,R,S,?_};unfold C8 at q;cases hm:ms Y with
 |none=>erw[hm]at q<;>symm|some r=>
  erw[hm]at q;cases r with
  |x c=>exact λF' H' e=>q F' H' O R e.stp0 (S.ext e)|v ts b=>
   intro F' H' xs e1 rs
   by_cases hz:ts.length<=BS
   .erw[hz,Æ]at q;refine{by rw[<- rs.1,<- GO];exact hz,?_}
    have:=(q F' H' O R e1.stp0<|S.ext e1).plain hpn;rw[hT]at this;exact this
   .erw[hz,Ã]at q<;>symm
end
def fF{px pos}(hl:J.loc x=true)(hi:EG J.N x=↑i)(C:CxOk J X E ca)(he:PE X e<|tM X.K E ca m)(sw:∀l,swapsWith e (↑(.Name x px)) l X.env=pure false) :
  PS X (.Assign [.Name x px] e pos) (tS X.K E ca mu<|IJ J x i m):=by
 let(g1,g2,g3):=C.loc hl hi;unfold IJ;split
 .exact zn2 C.nodup g1 g2 he (sw _) g3
 .exact zmx C.nodup g1 g2 he (sw _) g3
def aLC(D:Dc)(J:Gm)(x:Str)(i:Nat)(px pos:Pos)(hi:EG J.N x=↑i):(e:Expr)->Option (SR J<|.Assign [.Name x px] e pos)
 |.ListComp elt gens scope p=>gd (L4 J x px<|.ListComp elt gens scope p) λhw=>(match gens,hw with
  |[{tg,iter,ifs,0}],hw=>(dC D J elt tg iter ifs scope).bind λr=>↑{
   IJ J x i (Ie (KC J<|.ListComp elt [{tg,iter,ifs,0}] scope p) r.m)
   ,λ{X} {E} {ca} C=>by
   have lx:X.env.scope.names.lookup x=↑.local:=by
    unfold L4 at hw;erw[È]at hw;rw[C.nm];exact eq_of_beq hw.1.1
   have hN:X.N[i]?=↑x:=by rw[C.N];exact Il hi
   obtain⟨caps,mi,b,mt,me,h,B,hi',hg,hs⟩:=r.ok C;rw[h];have main:=r_lcS (pos2:=pos) B C.calm hi' C.ps C.fr hg hs C.nodup hN lx<|zgr C hw;have main:=WA main<|KC J<|.ListComp elt [{tg,iter,ifs,0}] scope p;unfold IJ;split
   .exact PS.weak main λD O H h=>VO h
   .exact PS.weak main λD O H h=>OP (g:=GU i) (λ_ _ _ _ z=>aG z) h}
  |_,_=>none)
 |_=>none
def aNm(D:Dc)(J:Gm)(x:Str)(px:Pos)(e:Expr)(pos:Pos):Option<|SR J<|.Assign [.Name x px] e pos:=gd (J.loc x) λhl=>ob (EG J.N x) λi hi=>
 if hc:Gv e=false then (D.e J e).bind λr=>↑{IJ J x i<|Ie (KC J e) r.m,λC=>fF hl hi C (Ls (r.ok C).1 _) λ_=>OX hc}
 else if hn:V9 J x=true then (D.e J e).bind λr=>↑{IJ J x i<|Ie (KC J e) r.m,λC=>fF hl hi C (Ls (r.ok C).1 _) λ_=>zjd C hn}
 else aLC D J x i px pos hi e
def aPar(D:Dc)(J:Gm)(x y:Str)(px py:Pos)(kt:Nat)(pt:Pos)(a b:Expr)(k2:Nat)(p2 pos:Pos):Option<|SR J<|.Assign [.Tuple [.Name x px,.Name y py] kt pt] (.Tuple [a,b] k2 p2) pos:=gd (MA J x y px py a b) λhp=>ob (EG J.N x) λi h1=>ob (EG J.N y) λj h2=>(D.a J [a,b]).bind λr=>↑{Ja i j r.m,λ{X} {E} {ca} C=>by
 have hp':=hp;unfold MA at hp';erw[È,Ŏ,Ē]at hp';obtain⟨⟨⟨⟨⟨⟨⟨⟨⟨g1,g2⟩,g3⟩,g4⟩,_⟩,_⟩,_⟩,_⟩,_⟩,_⟩:=hp';have e1:X.N[i]?=↑x:=by rw[C.N];exact Il h1
 have e2:X.N[j]?=↑y:=by rw[C.N];exact Il h2
 have hij:i≠j:=λz=>by
  subst z;rw[e1]at e2;cases e2;simp at g4
 exact s_par C.calm C.nodup e1 e2 hij (by rw[C.nm];exact g1) (by rw[C.nm];exact g2) (r.ok C) (zdw C hp) rfl}
def aTup(D:Dc)(J:Gm)(ts:kC)(kt:Nat)(pt:Pos)(e:Expr)(pos:Pos):Option<|SR J<|.Assign [.Tuple ts kt pt] e pos:=gd (!(zpj e || Gv e)) λhc=>(dG J<|.Tuple ts kt pt).bind λrg=>(D.e J e).bind λr=>↑{AO r.m rg.m,λC=>by
 have hc':=Dp hc;rw[Ĉ]at hc';refine zmy (r.ok C).1 (rg.ok C) (Ld hc'.2) ?_ rfl;have ht:=hc'.1;cases e<;>first|rfl|cases ht}
def aTp(D:Dc)(J:Gm)(ts:kC)(kt:Nat)(pt:Pos)(e:Expr)(pos:Pos):Option<|SR J<|.Assign [.Tuple ts kt pt] e pos:=
 match ts,e with
 |[.Name x px,.Name y py],.Tuple [a,b] k2 p2=>aPar D J x y px py kt pt a b k2 p2 pos|ts,e=>
 aTup D J ts kt pt e pos
def aSto(D:Dc)(J:Gm)(x:Str)(p1:Pos)(j:Expr)(p3:Pos)(e:Expr)(pos:Pos):Option<|SR J<|.Assign [.Subscript (.Name x p1) j p3] e pos:=gd (!(He j || Gv e)) λhc=>ob (J.var x) λi hi=>(D.e J j).bind λrk=>(D.e J e).bind λr=>↑{Gd i rk.m r.m,λC=>by
 have hc':=Dp hc;rw[Ĉ]at hc';obtain⟨v1,v2,v3,v4⟩:=C.var (pos:=p1) hi;refine s_sto v1 v2 v3 v4 (r.ok C).1 (rk.ok C).1 (Ld hc'.2) ?_ (OY hc'.1);cases e<;>rfl}
def aSt2(D:Dc)(J:Gm)(x:Str)(p1:Pos)(j0:Expr)(p2:Pos)(j:Expr)(p3:Pos)(e:Expr)(pos:Pos):Option<|SR J<|.Assign [.Subscript (.Subscript (.Name x p1) j0 p2) j p3] e pos:=gd (!(He j0 || He j || Gv e)) λhc=>ob (J.var x) λi hi=>(D.e J j0).bind λr0=>(D.e J j).bind λrk=>(D.e J e).bind λr=>↑{J8 i r0.m rk.m r.m,λC=>by
 have hc':=Dp hc;rw[Ĉ,Ĉ]at hc';obtain⟨v1,v2,v3,v4⟩:=C.var (pos:=p1) hi;refine zmw v1 v2 v3 v4 (r.ok C).1 (r0.ok C).1 (rk.ok C).1 (Qa hc'.1.1) (Ld hc'.2) ?_ (OY hc'.1.2);cases e<;>rfl}
def SS{fs:kE}(h:fs.findIdx? (· == f)=↑j):f∈fs/\fs[j]?=↑f:=by
 let(q1,q2,_):=ě.mp h;have e:fs[j]?=↑f:=by rw[Â q1];exact congrArg some<|eq_of_beq q2
 exact{ç e,e}
def aDpf(D:Dc)(J:Gm)(x f:Str)(p1 p2:Pos)(j:Expr)(p3:Pos)(e:Expr)(pos:Pos):Option<|SR J<|.Assign [.Subscript (.Attribute (.Name x p1) f p2) j p3] e pos:=gd (!(He j || Gv e)) λhc=>ob J.ox.sf λc hs=>ob (J.var x) λi hi=>ob (c.2.findIdx? (· == f)) λjj hj=>(D.e J j).bind λrk=>(D.e J e).bind λr=>↑{Jb c.1 c.2 jj i rk.m r.m,λC=>by
 have hc':=Dp hc;rw[Ĉ]at hc';obtain⟨v1,v2,v3,v4⟩:=C.var (pos:=p1) hi;obtain⟨k1,k2⟩:=C.gx.sf c.1 c.2 hs;refine s_dpf (by have:=C.room.units;lia) k1 (k2 f (SS hj).1) hj v1 v2 v3 v4 (r.ok C).1 (rk.ok C).1 (Ld hc'.2) ?_ (OY hc'.1)
 cases e<;>rfl}
def cI(hs:J.ox.sf=↑c)(hi:J.var x=↑i)(hj:c.2.findIdx? (· == f)=↑jj)(hc:(!((c.2.take jj).contains f || !(decide (jj<900))))=true)(C:CxOk J X E ca)(he:PE X e<|tM X.K E ca m) :
  PS X (.Assign [.Attribute (.Name x p1) f p2] e pos) (tS X.K E ca J.mu<|ES c.1 c.2 jj i m):=by
 have hc':=Dp hc;rw[Ĉ,Bool.not_eq_false',ë]at hc';let(c1,c2):=hc';let(v1,v2,v3,v4):=C.var (pos:=p1) hi;let(k1,k2):=C.gx.sf c.1 c.2 hs;exact zn5 k1 (k2 f (SS hj).1) (SS hj).2 c1 c2 v1 v2 v3 v4 he (by cases e<;>rfl)
def aFl(D:Dc)(J:Gm)(x f:Str)(p1 p2:Pos)(e:Expr)(pos:Pos):Option<|SR J<|.Assign [.Attribute (.Name x p1) f p2] e pos:=ob J.ox.sf λc hs=>ob (J.var x) λi hi=>ob (c.2.findIdx? (· == f)) λjj hj=>gd (!((c.2.take jj).contains f || !(decide (jj<900)))) λhc=>match e,hc with
 |.Dict [] [] p,hc=>↑{ES c.1 c.2 jj i MS,λC=>cI hs hi hj hc C znm}|e,hc=>(D.e J e).bind λr=>↑{ES c.1 c.2 jj i r.m,λC=>cI hs hi hj hc C (r.ok C).1}
def aSub(D:Dc)(J:Gm)(a j:Expr)(p3:Pos)(e:Expr)(pos:Pos):Option<|SR J<|.Assign [.Subscript a j p3] e pos:=match a with
 |.Name x p1=>aSto D J x p1 j p3 e pos|.Subscript (.Name x p1) j0 p2=>aSt2 D J x p1 j0 p2 j p3 e pos|.Attribute (.Name x p1) f p2=>aDpf D J x f p1 p2 j p3 e pos|_=>none
def dAsg(D:Dc)(J:Gm)(ts:kC)(e:Expr)(pos:Pos):Option<|SR J<|.Assign ts e pos:=match ts with
 |[t]=>(match t with
  |.Name x px=>aNm D J x px e pos|.Tuple ts kt pt=>aTp D J ts kt pt e pos|.Subscript a j p3=>aSub D J a j p3 e pos|.Attribute o f p2=>(match o with
   |.Name x p1=>aFl D J x f p1 p2 e pos|_=>none)
  |_=>none)
 |_=>none
def Uc(D:Dc)(J:Gm)(e:Expr)(pos:Pos):Option<|SR J<|.Expr e pos:=gd (!(Gv e)) λhc=>(D.e J e).bind λr=>↑{HS r.m,λC=>s_exp (r.ok C).1 (OX<|Dp hc)}
def xApp(D:Dc)(J:Gm)(x:Str)(p:Pos)(f:Str)(apos:Pos)(a:Expr)(cpos pos:Pos):Option<|SR J<|.Expr (.Call (.Attribute (.Name x p) f apos) [a] [] cpos) pos:=gd (Dq a) λh1=>gd (apos.endLine == cpos.line) λh2=>ob (J.var x) λi hi=>(D.e J a).bind λr=>
 if hf:f="append" then ↑{Co i r.m,λC=>by
  subst hf;obtain⟨v1,v2,v3,v4⟩:=C.var (pos:=p) hi;exact s_app v1 v2 v3 v4 (r.ok C).1 (II h1) h2} else
 if hf:f="extend" then ↑{GB i<|Ie (KC J a) r.m,λC=>by
  subst hf;obtain⟨v1,v2,v3,v4⟩:=C.var (pos:=p) hi;exact s_ext v1 v2 v3 v4 (Ls (r.ok C).1 _) (II h1) h2} else
 Uc D J _ pos
def dX(D:Dc)(J:Gm)(e:Expr)(pos:Pos):Option<|SR J<|.Expr e pos:=
 match e with
 |.Call (.Attribute (.Name x p) f apos) [a] [] cpos=>xApp D J x p f apos a cpos pos|e=>Uc D J e pos
def xRet(D:Dc)(J:Gm)(o:Option Expr)(pos:Pos):Option<|SR J<|.Return o pos:=
 if hM:J.mu=true then (match o with
 |none=>↑{QD,λC=>by rw[hM];exact zjl}|some e=>(D.e J e).bind λr=>↑{J9 r.m,λC=>by rw[hM];exact zn0 (r.ok C).1}) else
 gd (!J.mu) λhmu=>match o with
 |none=>↑{QC,λC=>by rw[Dp hmu];exact zmz}|some e=>(D.e J e).bind λr=>↑{AQ r.m,λC=>by rw[Dp hmu];exact s_ret (r.ok C).1}
def xRse(D:Dc)(J:Gm)(a b:Option Expr)(pos:Pos):Option<|SR J<|.Raise a b pos:=match a,b with
 |some (.Call (.Name c p) (e::es) [] cp),none=>gd (!(J.ox.nr)) λh1=>gd ((GF c).isNone) λh0=>gd (J.ex.contains c) λh2=>gd (CO J.nm c) λh3=>gd (Cq c) λh4=>(D.a J<|e::es).bind λr=>↑{C8 c r.m,λC=>s_rse C (Dp h1) (Option.isNone_iff_eq_none.mp h0) (í.mp h2) h3 h4 (r.ok C) r.st}|_,_=>none
def xFor(D:Dc)(J:Gm)(tg it:Expr)(body els:kD)(pos:Pos):Option<|SR J<|.For tg it body els pos:=
 match els with
 |[]=>gd (!(J.ox.nr)) λh=>(dI D J tg it).bind λri=>(dG J tg).bind λrg=>(D.q J body).bind λr=>↑{B7 ri.m rg.m r.m,λC=>s_for (C.po<|Dp h) C.calm (ri.ok C) (rg.ok C) (r.ok C)<|Sj ri.ns}|_=>none
def xWh(D:Dc)(J:Gm)(c:Expr)(body els:kD)(pos:Pos):Option<|SR J<|.While c body els pos:=match els with
 |[]=>gd (!(J.ox.nr)) λh=>gd (GH c) λhk=>(D.e J c).bind λrc=>(D.q J body).bind λr=>↑{Fi rc.m r.m,λC=>s_wh (C.po<|Dp h) (rc.t hk C)<|r.ok C}|_=>none
structure UR(J:Gm)(e:Expr) where
 m:AM->Option Mo
 ok:∀{X:Cx} {E:L2.St->XK} {ca:Str->Value},CxOk J X E ca->PE X e (J3 X.K E ca m)/\∀whole,isTrue e X.env whole=(do let v <- whole;standAt e.pos;holding [v] (truthy v))
def c7(D:Dc)(J:Gm):(e:Expr)->Option (UR J e)
 |.Call (.Name f p) (.Name x q::es) [] c=>gd (Cq f) λh1=>gd (CO J.nm f) λh2=>ob (J.mus.lookup f) λF hF=>ob (J.var x) λi hi=>(D.a J es).bind λr=>↑{Jt i F.g r.m,λ{X} {E} {ca} C=>{by
   obtain⟨hl,⟨DD⟩⟩:=C.ms _ _ hF;obtain⟨v1,v2,v3,v4⟩:=C.var (pos:=q) hi;exact zjz DD C.room C.ps v1 v2 v3 v4 (r.ok C) hl (C.gl h2) (EA h1).1 rfl (Fz r.st),λ_=>rfl}}
 |_=>none
def xIfM(D:Dc)(J:Gm)(c:Expr)(a b:kD)(pos:Pos):Option<|SR J<|.If c a b pos:=match c with
 |.UnaryOp .Not e p=>(c7 D J e).bind λrm=>(D.q J a).bind λra=>(D.q J b).bind λrb=>↑{Ge true rm.m ra.m rb.m,λC=>zjm (rm.ok C).1 (rm.ok C).2 (ra.ok C) (rb.ok C)}|e=>(c7 D J e).bind λrm=>(D.q J a).bind λra=>(D.q J b).bind λrb=>↑{Ge false rm.m ra.m rb.m,λC=>zn3 (rm.ok C).1 (rm.ok C).2 (ra.ok C) (rb.ok C)}
def xIf(D:Dc)(J:Gm)(c:Expr)(a b:kD)(pos:Pos):Option<|SR J<|.If c a b pos:=
 match xIfM D J c a b pos with
 |some r=>↑r|none=>
 gd (GH c) λh=>(D.e J c).bind λrc=>(D.q J a).bind λra=>(D.q J b).bind λrb=>↑{Ab rc.m ra.m rb.m,λC=>s_if (rc.t h C) (ra.ok C)<|rb.ok C}
def xTry(D:Dc)(J:Gm)(body:kD)(hs:List ExceptHandler)(els Aw:kD)(pos:Pos):Option<|SR J<|.Try body hs els Aw pos:=match hs,els,Aw with
 |_,_,_=>none
def dSt(D:Dc)(J:Gm):(s:Stmt)->Option (SR J s)
 |.Pass _=>↑{A8,λ_=>zn1}|.Break _=>↑{Ll,λ_=>zjn}|.Continue _=>↑{WH,λ_=>zdy}|.Return o pos=>xRet D J o pos|.Expr e pos=>dX D J e pos|.Assign ts e pos=>dAsg D J ts e pos|.If c a b pos=>xIf D J c a b pos|.For tg it body els pos=>xFor D J tg it body els pos|.While c body els pos=>xWh D J c body els pos|.Raise a b pos=>xRse D J a b pos|.Try body hs els Aw pos=>xTry D J body hs els Aw pos|_=>none
def dSq(D:Dc)(J:Gm):(ss:kD)->Option (QR J ss)
 |[]=>↑{A8,λ_=>s_nil}|[s]=>(match D.s J s with
  |some r=>↑{Si (frzs J s) r.m,λC=>PN (Vy<|r.ok C) _}|none=>if J.ox.no then ↑{Lk,λ_=>Vy Vz} else none)
 |s::s2::r=>(D.q J<|s2::r).bind λrs=>match D.s J s with
  |some q=>↑{Si (frzs J s)<|AF q.m rs.m,λC=>PN (WC (q.ok C)<|rs.ok C) _}|none=>if J.ox.no then ↑{AF Lk rs.m,λC=>WC Vz<|rs.ok C} else none
def HE:Nat->Dc
 |0=>{λ_ _=>none,λ_ _=>none,λ_ _=>none,λ_ _ _=>none,λ_ _=>none,λ_ _=>none}|n+1=>{dEs<|HE n,dAs<|HE n,dOs<|HE n,dBs<|HE n,dSt<|HE n,dSq<|HE n}
def K5(n:Nat)(J:Gm)(ss:kD):Option<|AG:=((HE n).q J ss).map QR.m
structure GoodS(ca:Str->Value)(n:Nat):Prop where
 ss:∀{J:Gm} {X:Cx} {E:L2.St->XK} {st:kD} {m:AG},CxOk J X E ca->K5 n J st=↑m->B5 X st (tS X.K E ca J.mu m)
theorem Sf(ca)(n):GoodS ca n:={λC h=>by
 let(r,_,rfl):=Ö.mp h;exact r.ok C}
end Pu
end
namespace Pu
open PySem PySem.Spec PyProof.Rows L2 Zw Zx
theorem Qn:True:=trivial
def Lm(n:Nat)(u:AG)(ts:kL):Option Ru:=match u (ts.map some++List.replicate (n - ts.length) none) with
 |some (.rt t)=>↑(.ok t)|some (.nx _)=>↑(.ok .non)|some (.xc c _)=>↑(.exc c)|_=>none
def A3(k n:Nat)(u:AG)(ts:kL):Option Ru:=if ts.length=k then Lm n u ts else none
theorem OZ(hR:∀i a,¬ R i a)(s:Stp F H (tot R) F' H' σ'):Ext F H F' H' σ' where
 hh:=λb u e=>s.kp b u (λ⟨i,z⟩=>hR i b z) e
 ff:=s.ff
 fh:=s.fh
 nb:=λb z=>(s.nw b z).elim (λ⟨i,w⟩=>absurd w<|hR i b) id
 nf:=λb u e=>(s.nf b u e).elim .inl λz=>z.elim (λ⟨i,w⟩=>absurd w<|hR i b) .inr
def zgs{K}(fh:A4 F H)(r:Ah K F ts vs):StR K F H (start N vs) (ts.map some++List.replicate (N.length - ts.length) none)<|λ_=>R0:=by
 have hl:=r.1;refine{fh,by simp[L2.start,hl],λi t e=>?_,λ_ _ z=>z.elim,λ_ _ _ _ z=>z.elim}
 unfold L2.start
 by_cases hi:i<ts.length
 .rw[ú (by simpa using hi),Ë]at e
  let(t',e1,e2):=Ö.mp e;cases e2;have hv:i<vs.length:=by lia
  refine{vs[i],?_,(r.2 i t vs[i] e1<|Â hv).any};rw[ú (by simpa using hv),Ë,Â hv]
  rfl
 .rw[Ĝ (by simp;lia)]at e
  let(h1,h2):=Ñ.mp e;simp at h2
def zn8{K}{N ps:kE}(h:Bb K ca (A3 ps.length N.length u) vs H Q E):tS K (λ_=>E) ca false u { nx:=λ_ H'=>Q .non H',rt:=Q} (start N vs) H:=by
 let(F',ts,fh,r,q):=h;refine{F',_,_,zgs fh r,?_};unfold A3 at q
 by_cases hl:ts.length=ps.length
 .erw[hl,Æ]at q;unfold Lm at q;cases ho:u (ts.map some++List.replicate (N.length - ts.length) none) with
  |none=>erw[ho]at q<;>symm|some o=>
   erw[ho]at q;cases o with
   |nx Y=>exact λF1 H1 O1 R1 s1 S1=>q F1 H1 .non R0 ((OZ (λ_ _ z=>z) s1).mono λ_ z=>z.elim) .non|rt t=>exact λF1 H1 x B s1 r1=>q F1 H1 x B (OZ (λ_ _ z=>z) s1) r1|bk Y=>symm|ct Y=>symm|xc c Y=>exact λF1 H1 O1 R1 s1 S1=>q F1 H1<|(OZ (λ_ _ z=>z) s1).mono λ_ z=>z.elim
 .erw[hl,Ã]at q<;>symm
def aX{K}{st:Stmt}{f:Addr}{J:Gm}(F:FunD K x qual st f fd)(S:FnScope N ps<|Cj st)
  (hΓ:J.N=N) (hnm:J.nm=(Cj st).names) (hce:∀x∈J.ce,J.nm.lookup x=↑.cell) (hlv:J.lv=k) (hbl:∀b∈J.bl,mg b=none)
  (hfs:∀f F,J.fns.lookup f=↑F->F.lv<=k/\Nonempty (DefX P w K mg base F.lv f F.ps<|Bb K ca F.g)) (hex:∀c∈J.ex,∃T:ECls K mg c,ca c=.ref T.C/\DQ K T.C=↑none)
  (hms:∀f F,J.mus.lookup f=↑F->F.lv<=k/\Nonempty (DefX P w K mg base F.lv f F.ps<|DU K ca F.g)) (hmu:J.mu=false) (hgx:GxOk J.ox k P w K mg base ca) (hu:K5 n J (GW st)=↑u):FnOk P w K mg base (DA P w) (k+1) f fd ps<|Bb K ca<|A3 ps.length N.length u:=by
 refine Qh F S (λvs H Q E h=>?_) λcdv A outer s H vs Q E hr h=>?_
 .let(F',ts,_,r,q):=h;unfold A3 at q
  by_cases hl:ts.length=ps.length
  .rw[<- r.1,hl]
  grind
 .have C:CxOk J (F9 (DA P w) P w K mg base N qual (Cj st) f cdv A outer s H E) (λ_=>E) ca:=by
   refine{hΓ.symm,by rw[hΓ];exact S.nd,hnm.symm,S.kind,rfl,by rw[hlv];exact hr,λy hy=>{rfl,hce y hy},hbl,Qf,λ_=>Β,λ_=>Qo,Qn,λf F e=>by rw[hlv];exact hfs f F e,hex,λf F e=>by rw[hlv];exact hms f F e,by rw[hlv];exact hgx,λ_=>{(rfl),rfl},{_,_,rfl,rfl}}
  have G:=(Sf ca n).ss C hu;rw[hmu]at G;refine{_,G,?_};exact zn8 h
def Gf(k n:Nat)(u:AG)(ts:kL):Option Ru:=if ts.length=k then (match u (ts.map some++List.replicate (n - ts.length) none) with
 |some (.rt t)=>↑(.ok t)|some (.nx Y)=>(match GC .non Y with
  |some (.rt t)=>↑(.ok t)|_=>none)
 |some (.xc c _)=>↑(.exc c)|_=>none) else none
def Vg{K}(fh:A4 F H)(r0:Rp K F H t0 x0 A)(r:Ah K F ts vs):StR K F H (start N<|x0::vs) ((t0::ts).map some++List.replicate (N.length - (t0::ts).length) none) (λi=>if i=0 then A else R0):=by
 have hl:=r.1;refine{fh,by simp[L2.start,hl],λi t e=>?_,λi a z=>?_,λi j a hij z1 z2=>?_}
 .unfold L2.start
  by_cases hi:i<(t0::ts).length
  .rw[ú (by simpa using hi),Ë]at e
   let(t',e1,e2):=Ö.mp e;cases e2;cases i with
   |zero=>cases e1;exact{x0,by simp,r0}|succ i=>
    have hi':i<ts.length:=by simpa using hi
    have hv:i<vs.length:=by lia
    refine{vs[i],?_,(r.2 i t vs[i] (by simpa using e1)<|Â hv).any}
    rw[ú (by simpa using hv),Ë,ł,Â hv]
    rfl
  .rw[Ĝ (by simp at hi ⊢;lia)]at e
   let(h1,h2):=Ñ.mp e;simp at h2
 .by_cases hi:i=0
  .subst hi;exact{(t0),rfl}
  .erw[hi,Ã]at z;exact z.elim
 .by_cases hi:i=0
  .have hj:¬ j=0:=λz=>hij<|hi.trans z.symm
   erw[hj,Ã]at z2;exact z2
  .erw[hi,Ã]at z1;exact z1
def VC:tot (λi=>if i=0 then A else R0)=A:=funext λa=>propext {λ⟨i,z⟩=>by
 by_cases hi:i=0
 .grind
 .erw[hi]at z;exact z.elim,λz=>{0,by simpa using z}}
def zpo{K}{st:Stmt}{f:Addr}{J:Gm}(F:FunD K x qual st f fd)(S:FnScope N ps<|Cj st)
  (hΓ:J.N=N) (hnm:J.nm=(Cj st).names) (hce:∀x∈J.ce,J.nm.lookup x=↑.cell) (hlv:J.lv=k) (hbl:∀b∈J.bl,mg b=none)
  (hfs:∀f F,J.fns.lookup f=↑F->F.lv<=k/\Nonempty (DefX P w K mg base F.lv f F.ps<|Bb K ca F.g)) (hex:∀c∈J.ex,∃T:ECls K mg c,ca c=.ref T.C/\DQ K T.C=↑none)
  (hms:∀f F,J.mus.lookup f=↑F->F.lv<=k/\Nonempty (DefX P w K mg base F.lv f F.ps<|DU K ca F.g)) (hmu:J.mu=true) (hgx:GxOk J.ox k P w K mg base ca) (hu:K5 n J (GW st)=↑u):FnOk P w K mg base (DA P w) (k+1) f fd ps<|DU K ca<|Gf ps.length N.length u:=by
 refine Qh F S (λvs H Q E h=>?_) λcdv A outer s H vs Q E hr h=>?_
 .let(F',p,l,ts,B,vs',_,rfl,r0,r,q):=h;unfold Gf at q
  by_cases hl:(T.nd true (.pin p) l::ts).length=ps.length
  .rw[<- hl,Ø,Ø,r.1]
  .erw[hl,Ã]at q<;>symm
 .have C:CxOk J (F9 (DA P w) P w K mg base N qual (Cj st) f cdv A outer s H E) (λ_=>E) ca:=by
   refine{hΓ.symm,by rw[hΓ];exact S.nd,hnm.symm,S.kind,rfl,by rw[hlv];exact hr,λy hy=>{rfl,hce y hy},hbl,Qf,λ_=>Β,λ_=>Qo,Qn,λf F e=>by rw[hlv];exact hfs f F e,hex,λf F e=>by rw[hlv];exact hms f F e,by rw[hlv];exact hgx,λ_=>{(rfl),rfl},{_,_,rfl,rfl}}
  have G:=(Sf ca n).ss C hu;rw[hmu]at G;refine{_,G,?_};let(F',p,l,ts,B,vs',fh,rfl,r0,r,q):=h;refine{F',_,_,Vg fh r0 r,?_};unfold pS;rw[VC];unfold Gf at q
  by_cases hl:(T.nd true (.pin p) l::ts).length=ps.length
  .erw[hl,Æ]at q;rw[hl];cases ho:u ((T.nd true (.pin p) l::ts).map some++List.replicate (N.length - ps.length) none) with
   |none=>erw[ho]at q<;>symm|some o=>
    erw[ho]at q;cases o with
    |nx Y=>
     intro F1 H1 O1 R1 s1 S1;simp only at q;cases hr0:GC .non Y with
     |none=>erw[hr0]at q<;>symm|some o=>let(p1,l1,h0,rfl):=QS hr0;erw[hr0]at q;exact q F1 H1 .non (R1 0) (s1.mono λa z=>{0,z})<|QP S1 h0 rfl .non
    |rt t=>exact λF1 H1 x B1 s1 r1=>q F1 H1 x B1 s1 r1|bk Y=>symm|ct Y=>symm|xc c Y=>exact λF1 H1 O1 R1 s1 S1=>q F1 H1<|s1.mono λ_ z=>z.elim
  .erw[hl,Ã]at q<;>symm
def Ba{α:Type}{P:α->Prop}:∀x∈([]:List α),P x:=λ_ h=>by cases h
def BU{α:Type}{P:α->Prop}{a:α}{l:List α}(h:P a)(r:∀x∈l,P x):∀x∈a::l,P x:=λx hx=>by
 obtain rfl|hx:=Ê.mp hx
 .exact h
 .exact r x hx
def JY{P:k9->Prop}(h:P []):∀us:k9,us.length=0->P us:=λus e=>by
 cases us with
 |nil=>exact h|cons a r=>cases e
def Dl{P:k9->Prop}{k:Nat}(h:∀a us,us.length=k->P (a::us)):∀us:k9,us.length=k+1->P us:=λus e=>by
 cases us with
 |nil=>cases e|cons a r=>exact h a r<|Nat.succ.inj e
def By{P:k9->Prop}(h:∀a,P [a]):∀us:k9,us.length=1->P us:=Dl λa=>JY<|h a
def Bx{P:k9->Prop}(h:∀a b,P [a,b]):∀us:k9,us.length=2->P us:=Dl λa=>Dl λb=>JY<|h a b
def FJ{P:k9->Prop}(h:∀a b c,P [a,b,c]):∀us:k9,us.length=3->P us:=Dl λa=>Dl λb=>Dl λc=>JY<|h a b c
def Fd{P:k9->Prop}(h:∀a b c d,P [a,b,c,d]):∀us:k9,us.length=4->P us:=Dl λa=>Dl λb=>Dl λc=>Dl λd=>JY<|h a b c d
def us6{P:k9->Prop}(h:∀a b c d e f,P [a,b,c,d,e,f]):∀us:k9,us.length=6->P us:=Dl λa=>Dl λb=>Dl λc=>Dl λd=>Dl λe=>Dl λf=>JY<|h a b c d e f
section
variable {P:Program}{w:World}{K:k6}{mg:Str->Option Value}{base:Heap}{ca:Str->Value}{k:Nat}
def Aa:∀f F,([]:List<|Str×Fn).lookup f=↑F->F.lv<=k/\Nonempty (DefX P w K mg base F.lv f F.ps<|Bb K ca F.g):=λ_ _ h=>by cases h
def zid{x:Str}{F0:Fn}{l:List<|Str×Fn}(hk:F0.lv<=k)(D:DefX P w K mg base F0.lv x F0.ps<|Bb K ca F0.g)(r:∀f F,l.lookup f=↑F->F.lv<=k/\Nonempty (DefX P w K mg base F.lv f F.ps<|Bb K ca F.g)) :
  ∀f F,((x,F0)::l).lookup f=↑F->F.lv<=k/\Nonempty (DefX P w K mg base F.lv f F.ps<|Bb K ca F.g):=λf F h=>by
 rw[å]at h;cases hf:f == x with
 |true=>rw[hf]at h;cases h;rw[eq_of_beq hf];exact{hk,{(D)}}|false=>rw[hf]at h;exact r f F h
def Jp:∀f F,([]:List<|Str×Fn).lookup f=↑F->F.lv<=k/\Nonempty (DefX P w K mg base F.lv f F.ps<|DU K ca F.g):=λ_ _ h=>by cases h
def zhl{x:Str}{F0:Fn}{l:List<|Str×Fn}(hk:F0.lv<=k)(D:DefX P w K mg base F0.lv x F0.ps<|DU K ca F0.g)(r:∀f F,l.lookup f=↑F->F.lv<=k/\Nonempty (DefX P w K mg base F.lv f F.ps<|DU K ca F.g)) :
  ∀f F,((x,F0)::l).lookup f=↑F->F.lv<=k/\Nonempty (DefX P w K mg base F.lv f F.ps<|DU K ca F.g):=λf F h=>by
 rw[å]at h;cases hf:f == x with
 |true=>rw[hf]at h;cases h;rw[eq_of_beq hf];exact{hk,{(D)}}|false=>rw[hf]at h;exact r f F h
def Lc(K:k6):Sp:=λvs H Q _=>∃(a:Addr) (ns:kF),vs=[.ref a]/\G0 K H a (ns.map V.int)/\ns.length<=63/\∀H',Q (.bl true) H'
def G0.of{K:k6}{H:Hp}{a:Addr}{xs:kK}(hO:Nc H)(h:AZ K H a xs):G0 K H a xs:=by
 rcases h with (h|h)|h
 .rcases hO a with z|⟨o,ys,z⟩<;>rw[h]at z<;>cases z
 .exact .inl h
 .exact .inr h
def CZ(ns:kF):T:=.nd false .rl<|ns.map T.int
def WR{F:Hp}:∀ns:kF,Ah K F (ns.map T.int)<|ns.map V.int
 |[]=>.nil|n::r=>.cons (H:=F) (.int n)<|WR r
def zp7{R:kL->Option Ru}{f:Addr}{fd:FuncData}(F:FnOk P w K mg base (DA P w) k f fd ["_law_script"]<|Bb K ca R)(h:∀ns:kF,ns.length<=63->R [CZ ns]=↑(.ok<|.bl true)):FnOk P w K mg base LC k f fd ["_law_script"]<|Lc K:=by
 refine{λvs H Q E hs=>?_,λA outer s H args us vs Q E hr e0 hb hv hs=>?_}
 .let(a,ns,rfl,_):=hs
  rfl
 .let(a,ns,rfl,hq,h63,q):=hs;refine ą (F.run A outer s H args us _ Q E0 hr e0 hb hv {H,[CZ ns],.refl _,.cons (H:=H) (Ah.of_node (k:=.rl) hq<|WR ns) .nil,?_}) λr s' hx=>?_
  .rw[h ns h63];intro F' H' z C e r;rw[r.bl_inv];exact q H'
  .cases r with
   |error v=>let(_,_,_,_,_,_,_,_,_,_,_,_,z):=hx;exact z.elim
   |ok fl=>cases fl<;>exact hx
end
def Gg(C:Addr)(fs:kE)(k n:Nat)(u:AG)(p:Addr)(ts:kL):Option Ru:=if ts.length+1=k then (match u ((T.oob p C fs []::ts).map some++List.replicate (n - (ts.length+1)) none) with
 |some (.nx Y)=>(match GG Y 0 C fs with
  |some (q,l)=>if q=p then ↑(.ok<|.obj (.ins C fs)<|BN l) else none
  |none=>none)
 |some (.xc c _)=>↑(.exc c)|_=>none) else none
open Classical in
def Ek(C:Addr)(fs:kE)(k n:Nat)(u:AG)(ts:kL):Option Ru:=if h:∃r,∀p,Gg C fs k n u p ts=↑r then ↑h.choose else none
def WM{C:Addr}{fs:kE}{k n:Nat}{u:AG}{ts:kL}{r:Ru}(h:∀p,Gg C fs k n u p ts=↑r):Ek C fs k n u ts=↑r:=by
 have hx:∃r,∀p,Gg C fs k n u p ts=↑r:={(r),h};unfold Ek;rw[dif_pos hx];have e:=(hx.choose_spec 0).symm.trans (h 0);exact e
def WN{C:Addr}{fs:kE}{k n:Nat}{u:AG}{ts:kL}{r:Ru}(h:Ek C fs k n u ts=↑r)(p:Addr):Gg C fs k n u p ts=↑r:=by
 unfold Ek at h;split at h
 .rename_i hx;cases h;exact hx.choose_spec p
 .cases h
def zpp{P:Program}{w:World}{K:k6}{mg:Str->Option Value}{base:Heap}{ca:Str->Value}{x qual:Str}{st:Stmt}{f:Addr}{fd:FuncData}{N ps:kE}{k n:Nat}{J:Gm}{u:AG}{C:Addr}{fs:kE}(F:FunD K x qual st f fd)(S:FnScope N ps<|Cj st)
  (hΓ:J.N=N) (hnm:J.nm=(Cj st).names) (hce:∀x∈J.ce,J.nm.lookup x=↑.cell) (hlv:J.lv=k) (hbl:∀b∈J.bl,mg b=none)
  (hfs:∀f F,J.fns.lookup f=↑F->F.lv<=k/\Nonempty (DefX P w K mg base F.lv f F.ps<|Bb K ca F.g)) (hex:∀c∈J.ex,∃T:ECls K mg c,ca c=.ref T.C/\DQ K T.C=↑none)
  (hms:∀f F,J.mus.lookup f=↑F->F.lv<=k/\Nonempty (DefX P w K mg base F.lv f F.ps<|DU K ca F.g)) (hmu:J.mu=false) (hgx:GxOk J.ox k P w K mg base ca) (hu:K5 n J (GW st)=↑u):FnOk P w K mg base (DA P w) (k+1) f fd ps<|J6 K ca C<|Ek C fs ps.length N.length u:=by
 refine Qh F S (λvs H Q E h=>?_) λcdv A outer s H vs Q E hr h=>?_
 .let(F',p,dx,ts,vs',_,rfl,_,_,r,q):=h;cases hg:Ek C fs ps.length N.length u ts with
  |none=>rw[hg]at q;symm|some rr=>
   have h0:=WN hg 0;unfold Gg at h0
   by_cases hl:ts.length+1=ps.length
   .rw[Ø,<- r.1,hl]
   .rw[if_neg hl]at h0;cases h0
 .have CC:CxOk J (F9 (DA P w) P w K mg base N qual (Cj st) f cdv A outer s H E) (λ_=>E) ca:=by
   refine{hΓ.symm,by rw[hΓ];exact S.nd,hnm.symm,S.kind,rfl,by rw[hlv];exact hr,λy hy=>{rfl,hce y hy},hbl,Qf,λ_=>Β,λ_=>Qo,Qn,λf F e=>by rw[hlv];exact hfs f F e,hex,λf F e=>by rw[hlv];exact hms f F e,by rw[hlv];exact hgx,λ_=>{(rfl),rfl},{_,_,rfl,rfl}}
  have G:=(Sf ca n).ss CC hu;rw[hmu]at G;refine{_,G,?_};let(F',p,dx,ts,vs',fh,rfl,fp,hp,r,q):=h;have r0:Rp K F' H (.oob p C fs []) (.ref p) (λa=>a=p\/∃j:Nat,R0 a):=.oob (xs:=[]) (λ_=>R0) fp (by rw[List.zip_nil_right];exact hp) rfl (λi t x h=>by simp at h) (λ_ _ _ _ z=>z.elim) (λ_ z=>z)<|λ_ _ z=>z.elim
  have hA:(λa=>a=p\/∃j:Nat,R0 a)=λa=>a=p:=funext λa=>propext {λz=>z.elim id λ⟨_,w⟩=>w.elim,λz=>.inl z}
  refine{F',_,_,Vg fh r0 r,?_};unfold pS;rw[VC,hA];cases hg:Ek C fs ps.length N.length u ts with
  |none=>rw[hg]at q;symm|some rr=>
   rw[hg]at q;have h0:=WN hg p;unfold Gg at h0
   by_cases hl:ts.length+1=ps.length
   .rw[if_pos hl]at h0;have el:(T.oob p C fs []::ts).length=ts.length+1:=rfl;rw[el];cases ho:u ((T.oob p C fs []::ts).map some++List.replicate (N.length - (ts.length+1)) none) with
    |none=>rw[ho]at h0;cases h0|some o=>
     rw[ho]at h0;cases o with
     |nx Y=>
      simp only at h0;intro F1 H1 O1 R1 s1 S1;cases hoo:GG Y 0 C fs with
      |none=>rw[hoo]at h0;cases h0|some ql=>
       let(q0,l):=ql;rw[hoo]at h0;simp only at h0
       by_cases hq:q0=p
       .rw[if_pos hq]at h0;subst hq;cases h0;have h00:=Qg hoo;have S2:=S1.frz h00;let(y,ey,ry):=S1.rep 0 _ h00;let(dx2,xs2,Rr,rfl,hA2,fp2,hp2,ro,dp):=ry.oob_inv;have n1:∀a,R1 0 a->F1 a=none:=λa z=>(S1.dom z).1
        have r2:=ry.share (H':=H1) (Ed (H:=H1) n1) λa u z q=>by rw[EI z];exact q
        simp only at q;refine q (frz F1 H1<|R1 0) H1 {s1.ff.trans<|Ed n1,Hk S1.fh,s1.kp,λb z=>z.elim,λb u e=>?_} r2
        by_cases hb:R1 0 b
        .exact(s1.nw b {0,hb}).elim (λz=>.inr<|.inl z) λz=>.inr<|.inr z
        .rw[Ec hb]at e;exact s1.nf b u e
       .rw[if_neg hq]at h0;cases h0
     |rt t=>cases h0|bk Y=>cases h0|ct Y=>cases h0|xc c Y=>cases h0;simp only at q;exact λF1 H1 O1 R1 s1 S1=>q F1 H1<|s1.mono λ_ z=>z.elim
   .rw[if_neg hl]at h0;cases h0
def DZ{κ α:Type} [BEq κ]{P:κ->α->Prop}:∀y b,([]:List<|κ×α).lookup y=↑b->P y b:=λ_ _ h=>by cases h
def Ey{κ α:Type} [BEq κ] [LawfulBEq κ]{P:κ->α->Prop}{x:κ}{a:α}{l:List<|κ×α}(h:P x a)(r:∀y b,l.lookup y=↑b->P y b):∀y b,((x,a)::l).lookup y=↑b->P y b:=λy b e=>by
 rw[å]at e;cases hf:y == x with
 |true=>rw[hf]at e;cases e;rw[eq_of_beq hf];exact h|false=>rw[hf]at e;exact r y b e
def QN{K:k6}{F:Hp}:∀ys:kE,Ah K F (ys.map T.str)<|ys.map V.str
 |[]=>.nil|y::r=>.cons (H:=F) (.str y)<|QN r
def Y5{P:Str->Fn->List (Nat×kL)->Prop}:∀x F ds,([]:List<|Str×Fn×List (Nat×kL)).lookup x=↑(F,ds)->P x F ds:=λ_ _ _ h=>by cases h
def Y6{P:Str->Fn->List (Nat×kL)->Prop}{l:List<|Str×Fn×List (Nat×kL)}{x0:Str}{F0:Fn}{d0:List<|Nat×kL}(h:P x0 F0 d0)(r:∀x F ds,l.lookup x=↑(F,ds)->P x F ds):∀x F ds,((x0,F0,d0)::l).lookup x=↑(F,ds)->P x F ds:=λx F ds e=>by
 rw[å]at e;cases hf:x == x0 with
 |true=>rw[hf]at e;cases e;rw[eq_of_beq hf];exact h|false=>rw[hf]at e;exact r x F ds e
def c6(K:k6)(C:Addr):=(Ml K C,W.subIn K (.ref C)<|.ref C,(W.clsIn K C).isSome,W.typeIn K<|.ref C,W.findIn K (.ref C) "__getattribute__",W.findIn K (.ref C) "__getattr__",W.findIn K (.ref C) "__class__",W.mroIn K C<|.type "object",W.mroIn K C<|.type "BaseException")
def HD{K:k6}{mg:Str->Option Value}{x:Str}(g:W.specialIn K (.builtin "object.__class__") "__get__"=↑(↑(.builtin "getset_descriptor.__get__"))/\W.takesIn K (.builtin "object.__class__")=↑true)(C:Addr)(m:mg x=↑(.ref C))(h:c6 K C=(true,↑true,true,↑(.type "type"),↑(↑(.builtin "BaseException.__getattribute__")),↑none,↑(↑(.builtin "object.__class__")),↑true,↑true)):ECls K mg x:={C,m,by
 unfold c6 at h;erw[Prod.mk.injEq,Ņ]at h;obtain⟨h1,h2,h3,h4,h5,h6,h7,h8,h9⟩:=h;exact{(h1),h2,h3,h4,h5,h6,h7,h8,h9,g.1,g.2}}
theorem A9{G:Gx}{lv:Nat}{P:Program}{w:World}{K:k6}{mg:Str->Option Value}{base:Heap}{ca:Str->Value}
  (co:∀x t,G.co.lookup x=↑t->∃u v,mg x=↑u/\A7 v u/\∀F:Hp,Rp K F F t v R0:=by exact DZ)
  (cl:∀c∈G.cl,Cls K c.2.1/\∀f∈c.2.2,C4 K c.2.1 f:=by exact Ba)
  (mt:∀c∈G.mt,c.2.2.2.lv<=lv/\Nonempty (MetX P w K mg base c.2.1 c.1 c.2.2.2.lv c.2.2.2.ps<|Bb K ca c.2.2.2.g):=by exact Ba)
  (nw:∀x F ds,G.nw.lookup x=↑(F,ds)->F.lv+1<=lv/\∃(C:Addr) (D:NewX P w K mg base x C F.lv F.ps<|J6 K ca C F.g),∀k dts,ds.lookup k=↑dts->∃dvs us,C6 K D.fd F.ps us/\Ac dvs us/\∀H:Hp,Ah K H dts dvs:=by exact Y5)
  (sf:∀C fs,G.sf=↑(C,fs)->Cls K C/\∀f∈fs,C4 K C f:=by exact(λ_ _ h=>by cases h))
  (xs:∀W cs,G.xs.lookup W=↑cs->∃T:ECls K mg W,∀c C,cs.lookup c=↑C->ca c=.ref C/\PySem.W.subIn K (.ref C) (.ref T.C)=↑true:=by exact DZ)
  (sb:∀D tb,G.sb.lookup D=↑tb->∃A:Addr,mg D=↑(.ref A)/\∀C b,tb.lookup C=↑b->ExcK K C/\PySem.W.kitOne K (.ref C) (.ref A)=↑b:=by exact DZ)
  (sv:∀D tb,G.sv.lookup D=↑tb->mg D=none/\∃t,bootBuiltins D=↑(.type t)/\∀C b,tb.lookup C=↑b->ExcK K C/\PySem.W.kitOne K (.ref C) (.type t)=↑b:=by exact DZ)
  (ci:∀x tb,G.ci.lookup x=↑tb->∃D:Addr,mg x=↑(.ref D)/\(∀C b,tb.lookup C=↑b->ICls K C/\PySem.W.kitOne K (.ref C) (.ref D)=↑b)/\(LW.all λa=>PySem.W.kitOne K (.type a) (.ref D) == ↑false)=true:=by exact DZ)
  (x2:∀W1 W2 cs,(W1,W2,cs)∈G.x2->∃(T1:ECls K mg W1) (T2:ECls K mg W2),∀c C,cs.lookup c=↑C->ca c=.ref C/\PySem.W.subIn K (.ref C) (.ref T1.C)=↑false/\PySem.W.subIn K (.ref C) (.ref T2.C)=↑true:=by exact(λ_ _ _ h=>by cases h))
  (wd:∀x F,G.wd.lookup x=↑F->F.lv<=lv/\∃p,F.ps=[p]/\Nonempty (DefS P w K mg base F.lv x p<|Bb K ca F.g):=by exact DZ)
  (ti:∀C∈G.ti,TiOk K C:=by exact Ba)
  (dn:∀x y,G.dn.lookup x=↑y->y.1.lv<=lv/\∃(D:DefX P w K mg base y.1.lv x y.1.ps<|Bb K ca y.1.g) (dvs:kK),DefsX K D.fd y.1.ps dvs/\∀H:Hp,Ah K H y.2 dvs:=by exact DZ)
  (rn:True:=trivial)
  : GxOk G lv P w K mg base ca:={(co),cl,mt,nw,sf,xs,sb,sv,ci,x2,wd,ti,dn,rn}
theorem scM{N ps:kE}{sc:Scope}(h:(sc.kind=.function/\sc.isCoroutine=false/\sc.isGenerator=false)/\N.Nodup/\N.take ps.length=ps/\(∀x∈ps,sc.names.lookup x=↑.local\/sc.names.lookup x=↑.cell)/\∀y∈sc.names,y.2≠.free):FnScope N ps sc:={(h.1.1),h.1.2.1,h.1.2.2,h.2.1,h.2.2.1,h.2.2.2.1,h.2.2.2.2}
class Qx (P:outParam Program) (w:outParam World) (K:outParam k6) (mg:outParam<|Str->Option Value) (base:outParam Heap) (ca:outParam<|Str->Value):Prop where
  c:∀(x:Str) (u:Value),W.nsIn K mainGlobals x=↑↑u->mg x=↑u
  n:∀x:Str,W.nsIn K mainGlobals x=↑none->mg x=none
structure Ck(J:Gm)(f:Fn)(st:Stmt)(u:AG):Prop where
 s:FnScope J.N f.ps<|Cj st:=by exact scM (by decide +kernel)
 k:K5 200 J (GW st)=↑u:=by ext
 n:J.nm=(Cj st).names:=by rfl
def AW{P:Program}{w:World}{K:k6}{mg:Str->Option Value}{base:Heap}{ca:Str->Value}{k:Nat}{x:Str}{F0:Fn}{l:List<|Str×Fn}(D:DefX P w K mg base F0.lv x F0.ps<|Bb K ca F0.g)(r:∀f F,l.lookup f=↑F->F.lv<=k/\Nonempty (DefX P w K mg base F.lv f F.ps<|Bb K ca F.g))(hk:F0.lv<=k:=by decide) :
  ∀f F,((x,F0)::l).lookup f=↑F->F.lv<=k/\Nonempty (DefX P w K mg base F.lv f F.ps<|Bb K ca F.g):=zid hk D r
abbrev gF(x qual:Str)(s:Stmt)(d:Value)(m:Str)(t c:Nat)(y:Value):FuncData:=W.fnOf x qual (Mn s) (GW s) (Cj s) d .none .none (.str m t) none (.ref c) y
def fO(a b:Str)(s:Stmt)(d:Value)(m:Str)(t c:Nat)(y:Value):Obj:={(.type "function"),none,(.func<|gF a b s d m t c y),Array.mk []}
def gO(a:Str)(s:Stmt)(m:Str)(t c:Nat):Obj:=fO a a s .none m t c .none
def Ye(K:k6)(b:Str):Bool:=match W.nsIn K mainGlobals b with
 |some none=>true|_=>false
def FO(K:k6)(x:Str)(a:Addr):Bool:=match W.nsIn K mainGlobals x with
 |some (↑(.ref b))=>b == a|_=>false
def Hm(K:k6)(qual:Str)(a c:Nat)(J:Gm)(f:Fn):Bool:=W.codeIn K (.ref c) qual && W.keepIn K (.ref a) && J.bl.all (Ye K) && J.ce.all (λx=>J.nm.lookup x == ↑.cell) && !J.mu && (J.lv+1 == f.lv)
structure Chk(K:k6)(mg:Str->Option Value)(qual:Str)(a c:Nat)(J:Gm)(f:Fn):Prop where
 c:W.codeIn K (.ref c) qual=true
 k:W.keepIn K (.ref a)=true
 b:∀b∈J.bl,mg b=none
 e:∀x∈J.ce,J.nm.lookup x=↑.cell
 m:J.mu=false
 l:J.lv+1=f.lv
def zq0{P:Program}{w:World}{K:k6}{mg:Str->Option Value}{base:Heap}{ca:Str->Value} [q:Qx P w K mg base ca]{qual:Str}{a c:Nat}{J:Gm}{f:Fn}(h:Hm K qual a c J f=true):Chk K mg qual a c J f:=by
 unfold Hm at h;erw[È,ã]at h;let(((((h1,h2),h3),h4),h5),h6):=h;refine{h1,h2,λb hb=>q.n b ?_,λx hx=>eq_of_beq<|h4 x hx,Dp h5,eq_of_beq h6}
 have:=h3 b hb;unfold Ye at this;split at this
 .assumption
 .cases this
def QV{P:Program}{w:World}{K:k6}{mg:Str->Option Value}{base:Heap}{ca:Str->Value} [q:Qx P w K mg base ca]{x:Str}{a:Addr}(h:FO K x a=true):mg x=↑(.ref a):=by
 unfold FO at h;split at h
 .rename_i b e;rw[<- eq_of_beq h];exact q.c _ _ e
 .cases h
structure AY(P:Program)(w:World)(K:k6)(mg:Str->Option Value)(base:Heap)(ca:Str->Value)(x qual:Str)(st:Stmt)(d:Value)(mo:Str)(t c:Nat)(y:Value)(J:Gm)(f:Fn)(V:Params->Obj)(a:Addr):Prop where
 fs:∀g F,J.fns.lookup g=↑F->F.lv<=J.lv/\Nonempty (DefX P w K mg base F.lv g F.ps<|Bb K ca F.g)
 gx:GxOk J.ox J.lv P w K mg base ca
 ex:∀c∈J.ex,∃T:ECls K mg c,ca c=.ref T.C/\DQ K T.C=↑none
 ms:∀g F,J.mus.lookup g=↑F->F.lv<=J.lv/\Nonempty (DefX P w K mg base F.lv g F.ps<|DU K ca F.g)
 h:Chk K mg qual a c J f
 F:FunD K x qual st a<|gF x qual st d mo t c y
section
variable {P:Program}{w:World}{K:k6}{mg:Str->Option Value}{base:Heap}{ca:Str->Value} [q:Qx P w K mg base ca]{x mo qual:Str}{st:Stmt}{t c:Nat}{d y:Value}{J:Gm}{f:Fn}{u:AG}{V:Params->Obj}{a C:Addr}{fs:kE}
theorem My(hfs:∀g F,J.fns.lookup g=↑F->F.lv<=J.lv/\Nonempty (DefX P w K mg base F.lv g F.ps<|Bb K ca F.g))(hgx:GxOk J.ox J.lv P w K mg base ca)(hex:∀c∈J.ex,∃T:ECls K mg c,ca c=.ref T.C/\DQ K T.C=↑none)(hms:∀g F,J.mus.lookup g=↑F->F.lv<=J.lv/\Nonempty (DefX P w K mg base F.lv g F.ps<|DU K ca F.g))
  (ho:V w.params=fO x qual st d mo t c y) (l:K.lookup a=↑(V w.params)) (h:Hm K qual a c J f=true):AY P w K mg base ca x qual st d mo t c y J f V a:=
 have h:=zq0 h
 {hfs,hgx,hex,hms,h,zlq (l.trans<|congrArg some ho) h.c h.k}
def Ag(hfs:∀g F,J.fns.lookup g=↑F->F.lv<=J.lv/\Nonempty (DefX P w K mg base F.lv g F.ps<|Bb K ca F.g))(hgx:GxOk J.ox J.lv P w K mg base ca)(hex:∀c∈J.ex,∃T:ECls K mg c,ca c=.ref T.C/\DQ K T.C=↑none:=by exact Ba)(hms:∀g F,J.mus.lookup g=↑F->F.lv<=J.lv/\Nonempty (DefX P w K mg base F.lv g F.ps<|DU K ca F.g):=by exact Jp)
  (ho:V w.params=fO x x st d mo t c y:=by exact rfl) (l:K.lookup a=↑(V w.params):=by ext) (h:Hm K x a c J f=true:=by ext) (m:FO K x a=true:=by ext) (hg:f.g=A3 f.ps.length J.N.length u:=by rfl)
  (b:C6 K (gF x x st d mo t c y) f.ps []):AY P w K mg base ca x x st d mo t c y J f V a/\FO K x a=true/\f.g=A3 f.ps.length J.N.length u/\C6 K (gF x x st d mo t c y) f.ps []:={My hfs hgx hex hms ho l h,m,hg,b}
def Hn(hfs:∀g F,J.fns.lookup g=↑F->F.lv<=J.lv/\Nonempty (DefX P w K mg base F.lv g F.ps<|Bb K ca F.g))(hgx:GxOk J.ox J.lv P w K mg base ca)(hex:∀c∈J.ex,∃T:ECls K mg c,ca c=.ref T.C/\DQ K T.C=↑none:=by exact Ba)(hms:∀g F,J.mus.lookup g=↑F->F.lv<=J.lv/\Nonempty (DefX P w K mg base F.lv g F.ps<|DU K ca F.g):=by exact Jp)
  (ho:V w.params=fO x qual st d mo t c y:=by exact rfl) (l:K.lookup a=↑(V w.params):=by ext) (h:Hm K qual a c J f=true:=by ext) (me:Meth K C x a:=by exact{by ext,by ext,by ext}) (hg:f.g=A3 f.ps.length J.N.length u:=by rfl)
  (b:C6 K (gF x qual st d mo t c y) f.ps []):AY P w K mg base ca x qual st d mo t c y J f V a/\Meth K C x a/\f.g=A3 f.ps.length J.N.length u/\C6 K (gF x qual st d mo t c y) f.ps []:={My hfs hgx hex hms ho l h,me,hg,b}
def fD{z:Str}(hfs:∀g F,J.fns.lookup g=↑F->F.lv<=J.lv/\Nonempty (DefX P w K mg base F.lv g F.ps<|Bb K ca F.g))(hgx:GxOk J.ox J.lv P w K mg base ca)(hex:∀c∈J.ex,∃T:ECls K mg c,ca c=.ref T.C/\DQ K T.C=↑none:=by exact Ba)(hms:∀g F,J.mus.lookup g=↑F->F.lv<=J.lv/\Nonempty (DefX P w K mg base F.lv g F.ps<|DU K ca F.g):=by exact Jp)
  (ho:V w.params=fO x qual st d mo t c y:=by exact rfl) (l:K.lookup a=↑(V w.params):=by ext) (h:Hm K qual a c J f=true:=by ext) (m:FO K z C=true:=by ext) (ma:Mk K C a:=by exact{by ext,by ext,by ext,by ext}) (hg:f.g=Ek C fs f.ps.length J.N.length u:=by rfl):AY P w K mg base ca x qual st d mo t c y J f V a/\FO K z C=true/\Mk K C a/\f.g=Ek C fs f.ps.length J.N.length u:={My hfs hgx hex hms ho l h,m,ma,hg}
def ayU(hfs:∀g F,J.fns.lookup g=↑F->F.lv<=J.lv/\Nonempty (DefX P w K mg base F.lv g F.ps<|Bb K ca F.g))(hgx:GxOk J.ox J.lv P w K mg base ca)(hex:∀c∈J.ex,∃T:ECls K mg c,ca c=.ref T.C/\DQ K T.C=↑none:=by exact Ba)(hms:∀g F,J.mus.lookup g=↑F->F.lv<=J.lv/\Nonempty (DefX P w K mg base F.lv g F.ps<|DU K ca F.g):=by exact Jp)
  (ho:V w.params=fO x x st d mo t c y:=by exact rfl) (l:K.lookup a=↑(V w.params):=by ext) (h:Hm K x a c { J with mu:=false } f=true:=by ext) (m:FO K x a=true:=by ext) (hg:f.g=Gf f.ps.length J.N.length u:=by rfl) (hu:J.mu=true:=by rfl)
  (b:C6 K (gF x x st d mo t c y) f.ps []):AY P w K mg base ca x x st d mo t c y { J with mu:=false } f V a/\FO K x a=true/\f.g=Gf f.ps.length J.N.length u/\C6 K (gF x x st d mo t c y) f.ps []/\J.mu=true:={My (J:={ J with mu:=false }) hfs hgx hex hms ho l h,m,hg,b,hu}
def dfC(V:Params->Obj)(a:Addr)(S:Ck J f st u)(A:AY P w K mg base ca x x st d mo t c y { J with mu:=false } f V a/\FO K x a=true/\f.g=Gf f.ps.length J.N.length u/\C6 K (gF x x st d mo t c y) f.ps []/\J.mu=true):DefX P w K mg base f.lv x f.ps<|DU K ca f.g:=
 {a,_,by rw[A.2.2.1,<- A.1.h.l];exact zpo A.1.F S.s rfl S.n A.1.h.e rfl A.1.h.b A.1.fs A.1.ex A.1.ms A.2.2.2.2 A.1.gx S.k,QV A.2.1,A.1.h.k,A.2.2.2.1}
def Af(V:Params->Obj)(a:Addr)(S:Ck J f st u)(A:AY P w K mg base ca x x st d mo t c y J f V a/\FO K x a=true/\f.g=A3 f.ps.length J.N.length u/\C6 K (gF x x st d mo t c y) f.ps []):DefX P w K mg base f.lv x f.ps<|Bb K ca f.g:=
 {a,_,by rw[A.2.2.1,<- A.1.h.l];exact aX A.1.F S.s rfl S.n A.1.h.e rfl A.1.h.b A.1.fs A.1.ex A.1.ms A.1.h.m A.1.gx S.k,QV A.2.1,A.1.h.k,A.2.2.2}
def Hl(V:Params->Obj)(a:Addr)(S:Ck J f st u)(cl:Cls K C)(A:AY P w K mg base ca x qual st d mo t c y J f V a/\Meth K C x a/\f.g=A3 f.ps.length J.N.length u/\C6 K (gF x qual st d mo t c y) f.ps []):MetX P w K mg base C x f.lv f.ps<|Bb K ca f.g:=
 {a,_,cl,A.2.1,by rw[A.2.2.1,<- A.1.h.l];exact aX A.1.F S.s rfl S.n A.1.h.e rfl A.1.h.b A.1.fs A.1.ex A.1.ms A.1.h.m A.1.gx S.k,A.2.2.2}
def dF(z:Str)(C:Addr)(fs:kE)(V:Params->Obj)(a:Addr)(S:Ck J f st u)(A:AY P w K mg base ca x qual st d mo t c y J f V a/\FO K z C=true/\Mk K C a/\f.g=Ek C fs f.ps.length J.N.length u):NewX P w K mg base z C f.lv f.ps<|J6 K ca C f.g:=
 {a,gF x qual st d mo t c y,QV A.2.1,A.2.2.1,by rw[A.2.2.2,<- A.1.h.l];exact zpp A.1.F S.s rfl S.n A.1.h.e rfl A.1.h.b A.1.fs A.1.ex A.1.ms A.1.h.m A.1.gx S.k}
end
def GY:AU (x::l) 0=↑x:=by
 have:AU (x::l) 0=↑x:=CU rfl;exact this
def Ft:AU (x::y::l) 1=↑y:=by
 have:AU (x::y::l) 1=↑y:=CU rfl;exact this
def NA:AU (x::y::z::l) 2=↑z:=by
 have:AU (x::y::z::l) 2=↑z:=CU rfl;exact this
abbrev fr(a b:Int):T:=.tup [.int a,.int b]
section
variable {b:T->AM->Option AM}{body:AG}{mc:AH}
def FD(I:Nat->AM->Prop)(h0:I 0 Y)(hs:∀i t Y,ts[i]?=↑t->I i Y->∃τ1,b t Y=↑τ1/\∃τ2,body τ1=↑(.nx τ2)/\I (i+1) τ2):∃Y',Aj b body ts Y=↑(.nx Y')/\I ts.length Y':=by
 have key:∀(l:kL) (k:Nat) (Y:AM),ts.drop k=l->k<=ts.length->I k Y->∃Y',Aj b body l Y=↑(.nx Y')/\I ts.length Y':=by
  intro l
  induction l with
  |nil=>
   intro k Y hd hk hI
   have:k=ts.length:=by
    have:=congrArg List.length hd;simp at this
    lia
   subst this;exact{(Y),rfl,hI}
  |cons t l ih=>
   intro k Y hd hk hI
   have hlt:k<ts.length:=by
    have:=congrArg List.length hd;simp at this
    lia
   rw[Ć hlt]at hd;injection hd with h1 h2
   let(τ1,e1,τ2,e2,hI2):=hs k t Y (by rw[Â hlt,h1]) hI
   let(Y',e3,h3):=ih (k+1) τ2 h2 hlt hI2;exact{Y',by unfold Aj;erw[e1,e2];exact e3,h3}
 exact key ts 0 Y rfl (ô _) h0
def zfs(I:Nat->AM->Prop)(Qr:T->Prop)(h0:I 0 Y)(hs:∀i t Y,ts[i]?=↑t->I i Y->∃τ1,b t Y=↑τ1/\((∃τ2,(body τ1=↑(.nx τ2)\/body τ1=↑(.ct τ2))/\I (i+1) τ2)\/∃v,body τ1=↑(.rt v)/\Qr v)) :
  (∃Y',Aj b body ts Y=↑(.nx Y')/\I ts.length Y')\/∃v,Aj b body ts Y=↑(.rt v)/\Qr v:=by
 have key:∀(l:kL) (k:Nat) (Y:AM),ts.drop k=l->k<=ts.length->I k Y->(∃Y',Aj b body l Y=↑(.nx Y')/\I ts.length Y')\/∃v,Aj b body l Y=↑(.rt v)/\Qr v:=by
  intro l
  induction l with
  |nil=>
   intro k Y hd hk hI
   have:k=ts.length:=by
    have:=congrArg List.length hd;simp at this
    lia
   subst this;exact .inl {(Y),rfl,hI}
  |cons t l ih=>
   intro k Y hd hk hI
   have hlt:k<ts.length:=by
    have:=congrArg List.length hd;simp at this
    lia
   rw[Ć hlt]at hd;injection hd with h1 h2
   let(τ1,e1,hb):=hs k t Y (by rw[Â hlt,h1]) hI
   rcases hb with ⟨τ2,e2,hI2⟩|⟨v,e2,hv⟩
   .rcases ih (k+1) τ2 h2 hlt hI2 with ⟨Y',e3,h3⟩|⟨v,e3,h3⟩
    .refine .inl {Y',?_,h3};unfold Aj
     rcases e2 with e2|e2<;>erw[e1,e2]<;>exact e3
    .refine .inr {v,?_,h3};unfold Aj
     rcases e2 with e2|e2<;>erw[e1,e2]<;>exact e3
   .exact .inr {v,by unfold Aj;erw[e1,e2],hv}
 exact key ts 0 Y rfl (ô _) h0
def WG(I:AM->Prop)(μ:AM->Nat)(h0:I Y)(hs:∀Y,I Y->(∃bb,mc Y=↑(.v (.bl true) bb)/\∃τ2,body Y=↑(.nx τ2)/\I τ2/\μ τ2<μ Y)\/∃bb,mc Y=↑(.v (.bl false) bb)) :
  ∃Y',Fi mc body Y=↑(.nx Y')/\I Y'/\∃bb,mc Y'=↑(.v (.bl false) bb):=by
 have key:∀(n:Nat) (Y:AM),μ Y<n->I Y->∃Y',DJ mc body n Y=↑(.nx Y')/\I Y'/\∃bb,mc Y'=↑(.v (.bl false) bb):=by
  intro n
  induction n with
  |zero=>intro Y h;exact absurd h (Nat.not_lt_zero _)|succ n ih=>
   intro Y hn hI
   rcases hs Y hI with ⟨bb,e1,τ2,e2,hI2,hm⟩|⟨bb,e1⟩
   .let(Y',e3,h3):=ih τ2 (by lia) hI2
    exact{Y',by unfold DJ;erw[e1,e2];exact e3,h3}
   .exact{Y,by unfold DJ;erw[e1],hI,bb,e1}
 let(Y',e,h):=key (μ Y+1) Y (Ė _) h0;exact{Y',zn6 e,h}
def Ig(I:Nat->AM->Prop)(f )(h0:I 0 Y)(hs:∀i t Y,ts[i]?=↑t->I i Y->∃τ1,b t Y=↑τ1/\me τ1=↑(.v (f i) false)/\I (i+1) τ1) :
  B8 b (mC<|.bl true) me ts Y=↑((List.range ts.length).map f):=by
 have key:∀(l ) (k ) (Y ),ts.drop k=l->k<=ts.length->I k Y->B8 b (mC<|.bl true) me l Y=↑((List.range' k l.length).map f):=by
  intro l
  induction l with
  |nil=>intro k Y _ _ _;rfl|cons t l ih=>
   intro k Y hd hk hI
   have hlt:k<ts.length:=by
    grind
   rw[Ć hlt]at hd;injection hd with h1 h2
   let(τ1,e1,e2,hI2):=hs k t Y (by grind) hI
   have e3:=ih (k+1) τ1 h2 hlt hI2;unfold B8;erw[e1,mC,e2,e3]
   rfl
 have:=key ts 0 Y rfl (ô _) h0;rw[this,<- List.range_eq_range']
end
def Eu{i j:Int}(h:DW j=true):Bs i j=true:=by unfold Bs;grind
def HY{i j:Int}(h:DW i=true):Bs i j=true:=by unfold Bs;grind
def zl1(h1:Bk i=true)(h2:Bk j=true):Bs i j=true:=by unfold Bs;grind
def DE(h1:-(2 ^ 64)<i)(h2:i<2 ^ 64):DW i=true:=@decide_eq_true _ (Classical.propDecidable _) {(h1),h2}
def CN(h1:-(10 ^ 70)<i)(h2:i<10 ^ 70):Bk i=true:=@decide_eq_true _ (Classical.propDecidable _) {(h1),h2}
def fm{i j:Int}(h:0<j):i.fmod j=i % j:=Int.fmod_eq_emod_of_nonneg i<|by lia
def fd{i j:Int}(h:0<j):i.fdiv j=i / j:=š i<|by lia
def Dd{i j:Int}:BD (.int i) (.int j)=↑(.bl<|i == j):=by
 rfl
def Eb{i j:Int}:CD (.int i) (.int j)=↑(.bl<|!(i == j)):=by
 rfl
mutual
noncomputable def Dt:PyData->Bool
 |.bool _=>false|.dict _=>false|.list xs=>Gp xs|.tuple xs=>Gp xs|_=>true
noncomputable def Gp:List PyData->Bool
 |[]=>true|x::xs=>Dt x && Gp xs
end
mutual
theorem cT:∀d d':PyData,Dt d=true->Dt d'=true->(PyData.eqv d d'=true ↔ d=d')
 |.none,d',_,h'=>by cases d'<;>simp[PyData.eqv,Dt]at h' ⊢|.int i,d',_,h'=>by cases d'<;>simp[PyData.eqv,Dt]at h' ⊢|.str x,d',_,h'=>by cases d'<;>simp[PyData.eqv,Dt]at h' ⊢|.bool _,_,h,_=>by simp[Dt]at h|.dict _,_,h,_=>by simp[Dt]at h|.list xs,d',h,h'=>by
  cases d' with
  |list ys=>
   have:=TN xs ys (by simpa[Dt] using h)<|by simpa[Dt] using h'
   erw[PyData.eqv];rw[this];simp
  |_=>simp[PyData.eqv,Dt]at h' ⊢
 |.tuple xs,d',h,h'=>by
  cases d' with
  |tuple ys=>
   have:=TN xs ys (by simpa[Dt] using h)<|by simpa[Dt] using h'
   erw[PyData.eqv];rw[this];simp
  |_=>simp[PyData.eqv,Dt]at h' ⊢
theorem TN:∀xs ys:List PyData,Gp xs=true->Gp ys=true->(PyData.eqvAll xs ys=true ↔ xs=ys)
 |[],[],_,_=>by simp[PyData.eqvAll]|[],_::_,_,_=>by simp[PyData.eqvAll]|_::_,[],_,_=>by simp[PyData.eqvAll]|x::xs,y::ys,hx,hy=>by
  erw[Gp,È]at hx hy;have h1:=cT x y hx.1 hy.1;have h2:=TN xs ys hx.2 hy.2;erw[PyData.eqvAll,È,h1,h2,List.cons.injEq]
end
structure Fit(t:T)(n:Nat):Prop where
 fit:E2 t=true
 nb:Dt t.data=true
 dep:t.data.depth<=n
theorem Fit.int(i)(n):Fit (.int i) n:={rfl,rfl,by simp[T.data,PyData.depth]}
theorem Fit.non(n:Nat):Fit .non n:={rfl,rfl,by simp[T.data,PyData.depth]}
def cJ:∀{l} {n},(∀t∈l,Fit t n)->(Er l=true/\PyData.canLayAll0 (Bg l)=true)/\Gp (Bg l)=true/\PyData.depthAll (Bg l)<=n
 |[],n,_=>{{(rfl),rfl},rfl,ô _}|t::r,n,h=>by
  let(h1,h2,h3):=h t (Í ..);let((g0,g1),g2,g3):=cJ λx hx=>h x<|É _ hx
  unfold E2 at h1;rw[È]at h1;refine{{by rw[Er,h1.1,g0];rfl,by rw[Bg,PyData.canLayAll0,h1.2,g1];rfl},by rw[Bg,Gp,h2,g2];rfl,?_}
  rw[Bg,PyData.depthAll]
  lia
def Fit.nd(h:∀t∈l,Fit t n):Fit (.nd o k l)<|n+1:=by
 let(g1,g2,g3):=cJ h;cases k<;>exact{by simpa[E2,T.data,T.pln,PyData.canLay0] using g1,by simpa[T.data,Dt] using g2,by simpa[T.data,PyData.depth] using g3}
theorem Fit.tup{l:kL}{n:Nat}(h:∀t∈l,Fit t n):Fit (.tup l)<|n+1:=Fit.nd h
open Classical in
def cV{t u:T}{n m:Nat}(h:Fit t n)(h':Fit u m)(hn:n<=60):BD t u=↑(.bl<|decide (t.data=u.data))/\CD t u=↑(.bl<|!decide (t.data=u.data)):=by
 have ok:HB t u=true:=by
  unfold HB;rw[h.fit,h'.fit,Ì (by have:=h.dep;lia)]
  rfl
 have e:Iy t u=decide (t.data=u.data):=by
  unfold Iy;rw[Bool.eq_iff_iff,cT _ _ h.nb h'.nb];simp
 unfold BD CD;rw[if_pos ok,if_pos ok,e];exact{(rfl),rfl}
def cU(h:Fit t n)(hn:n<=60)(e:t.data=u.data)(h':Fit u n):BD t u=↑(.bl true)/\CD t u=↑(.bl false):=by
 have:=cV h h' hn
 grind
def IF:∀ns:kF,BN (ns.map T.int)=ns.map T.int
 |[]=>rfl|n::r=>by rw[Ï,BN,IF r];rfl
def J7:∀ns:kF,A6 (ns.map T.int)=true
 |[]=>rfl|n::r=>by rw[Ï,A6,J7 r];rfl
def Vs(ns):(CZ ns).share=CZ ns:=by unfold CZ;rw[T.share,IF]
def Vt(ns):(CZ ns).sh=true:=by unfold CZ;rw[T.sh,J7];rfl
def Ho{x:α}(h0:0<=k)(h:l[k.toNat]?=↑x):AU l k=↑x:=by
 have:AU l ((k.toNat:Nat):Int)=↑x:=CU h
 rwa[Ŋ h0]at this
def T3(f:α->β)(l)(lo hi):BW (l.map f) lo hi=(BW l lo hi).map f:=by
 unfold BW;simp
def zlx(l:List α)(lo hi):(BW l lo hi).length<=l.length:=by
 unfold BW;rw[Č,List.length_drop];exact Ü (Nat.min_le_right ..) (Nat.sub_le ..)
def zhf(l:kF):BN (l.map T.int)=l.map T.int:=IF l
end Pu
namespace Zm
end Zm
namespace Db
open PySem
def Ql(a b):((a &&& b) % 2=1) ↔ (a % 2=1/\b % 2=1):=Nat.and_mod_two_eq_one
def Jm(a:Nat):(a:Int) % 2=1 ↔ a % 2=1:=by lia
def Jl(a:Nat):(Int.negSucc a) % 2=1 ↔ ¬ a % 2=1:=by lia
def XG(a c:Nat):((a:Int) - c) % 2=1 ↔ ¬ (a % 2=1 ↔ c % 2=1):=by lia
def ziy(x y):Builtin.bitAnd x y % 2=1 ↔ (x % 2=1/\y % 2=1):=by
 have ng:∀a:Nat,Builtin.bitNot (Int.negSucc a)=(a:Int):=λa=>by
  unfold Builtin.bitNot
  lia
 cases x with
 |ofNat a=>
  cases y with
  |ofNat b=>show((a &&& b:Nat):Int) % 2=1 ↔ ((a:Int) % 2=1/\(b:Int) % 2=1);rw[Jm,Jm,Jm,Ql]|negSucc b=>show((a:Int) - ((a &&& (Builtin.bitNot<|Int.negSucc b).toNat:Nat):Int)) % 2=1 ↔ ((a:Int) % 2=1/\(Int.negSucc b) % 2=1);rw[ng,î,XG,Jm,Jl,Ql];exact{λh=>{ĭ λz=>h {λq=>absurd q z,λq=>q.1},λz=>h {λq=>{(q),z},λq=>q.1}},λh z=>h.2 (z.mp h.1).2}
 |negSucc a=>
  cases y with
  |ofNat b=>show((b:Int) - ((b &&& (Builtin.bitNot<|Int.negSucc a).toNat:Nat):Int)) % 2=1 ↔ ((Int.negSucc a) % 2=1/\(b:Int) % 2=1);rw[ng,î,XG,Jm,Jl,Ql];exact{λh=>{λz=>h {λq=>{(q),z},λq=>q.1},ĭ λz=>h {λq=>absurd q z,λq=>q.1}},λh z=>h.1 (z.mp h.2).2}|negSucc b=>
   show(Builtin.bitNot (((Builtin.bitNot<|Int.negSucc a).toNat ||| (Builtin.bitNot<|Int.negSucc b).toNat:Nat):Int)) % 2=1 ↔ _
   have nb:∀c:Nat,Builtin.bitNot (c:Int)=Int.negSucc c:=λc=>by
    unfold Builtin.bitNot
    lia
   rw[ng,ng,î,î,nb,Jl,Jl,Jl,Nat.or_mod_two_eq_one];exact not_or
def zix(x):Builtin.bitAnd x 1=x % 2:=by
 cases x with
 |ofNat a=>
  show((a &&& 1:Nat):Int)=(a:Int) % 2;rw[Nat.and_one_is_mod]
  rfl
 |negSucc a=>
  show((1:Nat):Int) - (((1:Nat) &&& (Builtin.bitNot<|Int.negSucc a).toNat:Nat):Int)=_;rw[show Builtin.bitNot (Int.negSucc a)=a by unfold Builtin.bitNot;lia,î,Nat.and_comm,Nat.and_one_is_mod]
  lia
def bor_one(x y):Builtin.bitAnd (Builtin.bitOr x y) 1=max (x % 2) (y % 2):=by
 rw[zix];have h:=ziy (Builtin.bitNot x)<|Builtin.bitNot y;unfold Builtin.bitOr;change Builtin.bitAnd (Builtin.bitNot x) (Builtin.bitNot y)=c
 have nb:∀z:Int,Builtin.bitNot z % 2=1 - z % 2:=λz=>by
  unfold Builtin.bitNot
  lia
 rw[nb,nb]at h;rw[nb]
 rcases Ļ x with e|e<;>rcases Ļ y with f|f<;>rw[e,f]at h ⊢<;>rcases Ļ c with g|g<;>rw[g]at h ⊢<;>revert h<;>decide
def bs(a b:Int):Int:=2 * (a / 2+b / 2)+min (a % 2) (b % 2)
def bs_eq(a b:Int):a+b - max (a % 2) (b % 2)=bs a b:=by unfold bs;lia
def zq1(a:Int):bs a 1=a:=by unfold bs;lia
def zom(a:Int):bs 1 a=a:=by unfold bs;lia
def zm3(a b:Int):bs a b=bs b a:=by unfold bs;lia
def Yv(a b:Int):min (a % 2) (b % 2)=0\/min (a % 2) (b % 2)=1:=by
 rcases Ļ a with e|e<;>rcases Ļ b with f|f<;>rw[e,f]<;>decide
def eJ(a b:Int):bs a b / 2=a / 2+b / 2:=by
 have h:=Yv a b;unfold bs;change a / 2+b / 2=k;change min (a % 2) (b % 2)=m
 lia
def eI(a b:Int):bs a b % 2=min (a % 2) (b % 2):=by
 have h:=Yv a b;unfold bs;change a / 2+b / 2=k;change min (a % 2) (b % 2)=m
 lia
def ziw(a b c):bs (bs a b) c=bs a (bs b c):=by
 show 2 * (bs a b / 2+c / 2)+min (bs a b % 2) (c % 2)=2 * (a / 2+bs b c / 2)+min (a % 2) (bs b c % 2);rw[eJ,eJ,eI,eI,Int.add_assoc,Int.min_assoc]
def zm2(h:a<=a')(h':b<=b'):bs a b<=bs a' b':=by unfold bs;lia
abbrev B:=kA
def le:B->B->Prop
 |_,none=>True|none,↑_=>False|some a,↑b=>a<=b
def add:B->B->B
 |some a,↑b=>↑(bs a b)|_,_=>none
def mn:B->B->B
 |none,b=>b|some a,none=>↑a|some a,↑b=>↑(min a b)
def le_refl(a:B):le a a:=by cases a<;>simp[le]
def le_trans(h:le a b)(h':le b c):le a c:=by
 cases a<;>cases b<;>cases c<;>simp_all [le]
 lia
def SJ(h:le a b)(h':le b a):a=b:=by
 cases a<;>cases b<;>simp_all [le]
 lia
def NF(h:le a b)(h':le c d):le (add a c)<|add b d:=by
 cases a<;>cases b<;>cases c<;>cases d<;>simp_all [le,add]
 exact zm2 h h'
def add_comm(a b:B):add a b=add b a:=by
 cases a<;>cases b<;>simp[add,zm3]
def add_assoc(a b c):add (add a b) c=add a (add b c):=by
 cases a<;>cases b<;>cases c<;>simp[add,ziw]
def zm6(a:B):add a ↑1=a:=by cases a<;>simp[add,zq1]
def XC(a:B):add ↑1 a=a:=by cases a<;>simp[add,zom]
def mn_le(a b:B):le (mn a b) a:=by
 cases a<;>cases b<;>simp[le,mn]
 lia
def mn_le'(a b:B):le (mn a b) b:=by
 cases a<;>cases b<;>simp[le,mn]
 lia
def ZZ(h:le a b)(h':le a c):le a<|mn b c:=by
 cases a<;>cases b<;>cases c<;>simp_all [le,mn]
 lia
def Yu{a b:B}(h:le a b):mn a b=a:=SJ (mn_le a b)<|ZZ (le_refl a) h
def Qm(a b):mn a b=a\/mn a b=b:=by
 cases a<;>cases b<;>simp[mn]
 lia
abbrev Z:=Nat->Nat->B
def free(i j:Nat):B:=if i=0\/i=j then ↑1 else none
def z0(f:Z):Z:=λi j=>mn (f i j)<|free i j
def stp(f:Z)(k:Nat):Z:=λi j=>mn (f i j)<|add (f i k)<|f k j
def fw(f:Z):Nat->Z
 |0=>z0 f|k+1=>stp (fw f k) k
def Brk(n:Nat)(f:Z):Prop:=∃i,i<n/\¬ le ↑1 (f i i)
def Sound(n:Nat)(f:Z):Prop:=∀k,k<n->¬ Brk n (fw f k)
def diag_le(f)(i):∀k,le (fw f k i i) ↑1
 |0=>by
  have h:=mn_le' (f i i)<|free i i;have e:free i i=↑1:=if_pos<|.inr rfl;rw[e]at h;show le (mn (f i i)<|free i i) _
  grind
 |k+1=>le_trans (mn_le _ _)<|diag_le f i k
def fw_le(f)(i j):∀k,le (fw f k i j)<|f i j
 |0=>mn_le _ _|k+1=>le_trans (mn_le _ _)<|fw_le f i j k
def aJ(f)(i j):∀k,le (fw f k i j)<|z0 f i j
 |0=>le_refl _|k+1=>le_trans (mn_le _ _)<|aJ f i j k
def TY(h:¬ Brk n (fw f k))(hi:i<n):fw f k i i=↑1:=by
 refine SJ (diag_le f i k) ?_;cases Classical.em (le ↑1<|fw f k i i) with
 |inl h1=>exact h1|inr h1=>exact(h {(i),hi,h1}).elim
def tri(h:Sound n f):∀k,k<=n->∀i j l,l<k->i<n->j<n->le (fw f k i j) (add (fw f k i l)<|fw f k l j)
 |0,_,_,_,l,hl,_,_=>by lia|k+1,hk,i,j,l,hl,hi,hj=>by
  have kk:=TY (h k<|by lia)<|show k<n by lia
  have inv:=tri h k<|by lia
  show le (stp (fw f k) k i j)<|add (stp (fw f k) k i l)<|stp (fw f k) k l j;generalize hg:fw f k=g at *
  by_cases e:l=k
  .subst e;have e1:stp g l i l=g i l:=by unfold stp;rw[kk,zm6];exact Yu<|le_refl _
   have e2:stp g l l j=g l j:=by unfold stp;rw[kk,XC];exact Yu<|le_refl _
   rw[e1,e2];exact mn_le' _ _
  .have lk:l<k:=by lia
   have a1:le (stp g k i j)<|g i j:=mn_le _ _;have a2:le (stp g k i j)<|add (g i k)<|g k j:=mn_le' _ _
   rcases Qm (g i l) (add (g i k)<|g k l) with e1|e1<;>rcases Qm (g l j) (add (g l k)<|g k j) with e2|e2
   .have:stp g k i l=g i l:=e1;have e2':stp g k l j=g l j:=e2;rw[this,e2'];exact le_trans a1<|inv i j l lk hi hj
   .have e1':stp g k i l=g i l:=e1;have e2':stp g k l j=add (g l k) (g k j):=e2;rw[e1',e2',<- add_assoc];exact le_trans a2<|NF (inv i k l lk hi<|by lia)<|le_refl _
   .have e1':stp g k i l=add (g i k) (g k l):=e1;have e2':stp g k l j=g l j:=e2;rw[e1',e2',add_assoc];exact le_trans a2<|NF (le_refl _)<|inv k j l lk (by lia) hj
   .have e1':stp g k i l=add (g i k) (g k l):=e1;have e2':stp g k l j=add (g l k) (g k j):=e2;rw[e1',e2',add_assoc,<- add_assoc<|g k l];refine le_trans a2<|NF (le_refl _) ?_;have:=NF (inv k k l lk (by lia)<|by lia)<|le_refl<|g k j
    rw[kk,XC]at this;exact this
structure Nar(n:Nat)(f:Z):Prop where
 diag:∀i,i<n->f i i=↑1
 row:∀j,j<n->le (f 0 j) ↑1
 tri:∀i j l,i<n->j<n->l<n->le (f i j) (add (f i l)<|f l j)
def nar(h:Sound n f):Nar n<|fw f n:=by
 have t:=tri h n<|Ç n;refine{λi hi=>?_,λj hj=>?_,λi j l hi hj hl=>t i j l hl hi hj}
 .refine SJ (diag_le f i n) ?_;cases n with
  |zero=>lia|succ m=>
   have kk:=TY (h m<|by lia)<|show m<m+1 by lia
   have ii:=TY (h m<|by lia) hi
   refine ZZ (by rw[ii];exact le_refl _) ?_
   by_cases e:i=m
   .subst e;rw[kk];exact le_refl _
   .have:=Db.tri h m (by lia) m m i (by lia) (by lia)<|by lia
    rw[kk,add_comm]at this;exact this
 .refine le_trans (aJ f 0 j n) ?_;have:=mn_le' (f 0 j)<|free 0 j;exact this
def sat(D:Int):B->Int->Prop
 |none,_=>True|some c,d=>d<=c / 2 * D - 1+c % 2
def zjj(h:sat D a d)(h':sat D b e):sat D (add a b)<|d+e:=by
 cases a<;>cases b<;>erw[sat,add]at *
 rename_i a b;have e1:bs a b / 2=a / 2+b / 2:=by unfold bs;lia
 have e2:bs a b % 2=min (a % 2) (b % 2):=by unfold bs;lia
 rw[e1,e2,Int.add_mul]
 lia
def sat_le(hD:0<D)(h:sat D a d)(hl:le a b):sat D b d:=by
 cases a<;>cases b<;>erw[sat,le]at *
 rename_i a b
 rcases ģ (a / 2) (b / 2) with q|q
 .have:(a / 2+1) * D<=b / 2 * D:=Š (by lia)<|by lia
  grind
 grind
def sat_mn(h:sat D a d)(h':sat D b d):sat D (mn a b) d:=by
 rcases Qm a b with e|e<;>rw[e]<;>assumption
def Lie(n:Nat)(D:Int)(X:Nat->Int)(f:Z):Prop:=∀i j,i<n->j<n->sat D (f i j) (X i - X j)
def ZU(h0:X 0=0)(hX:∀i,i<n->0<=X i)(h:Lie n D X f):∀k,k<=n->Lie n D X (fw f k)
 |0,_,i,j,hi,hj=>by
  refine sat_mn (h i j hi hj) ?_;unfold free;split
  .erw[sat]
   grind
  .trivial
 |k+1,hk,i,j,hi,hj=>by
  have ih:=ZU h0 hX h k<|by lia
  refine sat_mn (ih i j hi hj) ?_;have:=zjj (ih i k hi<|by lia)<|ih k j (by lia) hj
  grind
def lie_sound(hD:0<D)(h0:X 0=0)(hX:∀i,i<n->0<=X i)(h:Lie n D X f):Sound n f:=by
 intro k hk ⟨i,hi,hb⟩;have q:=ZU h0 hX h k (by lia) i i hi hi
 refine hb ?_;cases e:fw f k i i with
 |none=>trivial|some c=>
  rw[e]at q;erw[sat,le]at *
  rcases ģ (c / 2) 0 with q2|q2
  .have:c / 2 * D<=-1 * D:=Š (by lia)<|by lia
   lia
  .rcases ģ 0 (c / 2) with q3|q3
   .lia
   grind
theorem lie_mono(hD:0<D)(h:Lie n D X f)(hl:∀i j,i<n->j<n->le (f i j) (g i j)):Lie n D X g:=λi j hi hj=>sat_le hD (h i j hi hj)<|hl i j hi hj
end Db
namespace Db
end Db
namespace Dv
open Db
def Pr(f:Z)(p:Nat->Int)(i j:Nat):Prop:=∃c,f i j=↑c/\c % 2=0/\p i - p j=c / 2
open Classical in
def Fk(n:Nat)(f:Z)(p:Nat->Int)(j:Nat):Nat:=(List.range n).countP λi=>decide (Pr f p i j)
def LB(n:Nat)(f:Z)(p:Nat->Int):Prop:=∀i j c,i<n->j<n->f i j=↑c->p i - p j<=c / 2
def VI{n:Nat}{f:Z}(h:Nar n f){p:Nat->Int}(hp:LB n f p){i k j:Nat}(hi:i<n)(hk:k<n)(hj:j<n){c d:Int}(e1:f i k=↑c)(e2:f k j=↑d)(t1:p i - p k=c / 2)(t2:p k - p j=d / 2) :
  ∃g,f i j=↑g/\p i - p j=g / 2/\g % 2<=c % 2/\g % 2<=d % 2:=by
 have t:=h.tri i j k hi hj hk;rw[e1,e2]at t;cases eg:f i j with
 |none=>rw[eg]at t;exact t.elim|some g=>rw[eg]at t;have q:=hp i j g hi hj eg;have t':g<=bs c d:=t;unfold bs at t';exact{g,rfl,by lia,by lia,by lia}
def dS{α:Type}{l:List α}{p q:α->Bool}(h:∀x∈l,p x=true->q x=true):l.countP p<=l.countP q:=List.countP_mono_left h
def K7{α:Type}:∀{l:List α} {p q:α->Bool} {a:α},a∈l->(∀x∈l,p x=true->q x=true)->p a=false->q a=true->l.countP p<l.countP q
 |[],_,_,_,h,_,_,_=>by cases h|x::l,p,q,a,h,hs,ha,hb=>by
  rw[List.countP_cons,List.countP_cons];have hl:=dS (l:=l) (p:=p) (q:=q) λy hy=>hs y<|É _ hy;rcases Ê.mp h with rfl|h'
  .erw[ha,hb];simp
   lia
  .have:=K7 h' (λy hy=>hs y<|É _ hy) ha hb
   cases hp:p x with
   |false=>cases q x<;>simp<;>lia|true=>rw[hs x (Í ..) hp];simp;lia
def Q2{n:Nat}{f:Z}(h:Nar n f){p:Nat->Int}{j:Nat}(hj:j<n):Fk n f p j<n:=by
 have:=K7 (l:=List.range n) (a:=j) (p:=λi=>@decide (Pr f p i j) (Classical.propDecidable _)) (q:=λ_=>true) (á.mpr hj) (λ_ _ _=>rfl) ?_ rfl
 .rw[List.countP_eq_length.mpr<|λ_ _=>rfl,ĵ]at this
  exact this
 .refine @decide_eq_false _ (Classical.propDecidable _) ?_;rintro⟨c,e,h2,h3⟩;rw[h.diag j hj]at e;cases e
  lia
def zju{n:Nat}{f:Z}(h:Nar n f){p:Nat->Int}(hp:LB n f p){i j:Nat}(hi:i<n)(hj:j<n){c:Int}(e:f i j=↑c)(t:p i - p j=c / 2):Fk n f p i<=Fk n f p j:=by
 refine dS λk hk hd=>?_
 have hd':=@of_decide_eq_true _ (Classical.propDecidable _) hd;refine @decide_eq_true _ (Classical.propDecidable _) ?_;let(d,e1,h2,h3):=hd';let(g,eg,tg,g1,g2):=VI h hp (á.mp hk) hi hj e1 e h3 t;exact{g,eg,by lia,tg}
def zh0{n:Nat}{f:Z}(h:Nar n f){p:Nat->Int}(hp:LB n f p){i j:Nat}(hi:i<n)(hj:j<n){c:Int}(e:f i j=↑c)(o:c % 2=0)(t:p i - p j=c / 2):Fk n f p i<Fk n f p j:=by
 refine K7 (a:=i) (á.mpr hi) (λk hk hd=>?_) ?_ ?_
 .have hd':=@of_decide_eq_true _ (Classical.propDecidable _) hd;refine @decide_eq_true _ (Classical.propDecidable _) ?_;let(d,e1,h2,h3):=hd';let(g,eg,tg,g1,g2):=VI h hp (á.mp hk) hi hj e1 e h3 t;exact{g,eg,by lia,tg}
 .refine @decide_eq_false _ (Classical.propDecidable _) ?_;rintro⟨d,e1,h2,h3⟩;rw[h.diag i hi]at e1;cases e1
  lia
 .exact @decide_eq_true _ (Classical.propDecidable _) {(c),e,o,t}
def vals_of{n:Nat}{f:Z}(h:Nar n f){p:Nat->Int}(hp:LB n f p){u:Int}(hu:(n:Int)<=u):∃q:Nat->Int,(∀i,i<n->0<=q i/\q i<n)/\Lie n u (λi=>p i * u+q i) f:=by
 refine{λi=>(Fk n f p i:Nat),λi hi=>{Ÿ _,ė.mpr<|Q2 h (p:=p) hi},λi j hi hj=>?_}
 cases e:f i j with
 |none=>trivial|some c=>
  erw[sat];have q1:=Q2 h (p:=p) hi;have q2:=Q2 h (p:=p) hj;have q:=hp i j c hi hj e
  have e3:p i * u+(Fk n f p i:Int) - (p j * u+(Fk n f p j:Int))=(p i - p j) * u+((Fk n f p i:Int) - Fk n f p j):=by
   rw[Int.sub_mul];lia
  rw[e3]
  by_cases t:p i - p j=c / 2
  .rw[t];have r1:=zju h hp hi hj e t
   by_cases o:c % 2=0
   .have r2:=zh0 h hp hi hj e o t
    lia
   .lia
  .have:(p i - p j+1) * u<=c / 2 * u:=Š (by lia)<|by lia
   rw[Int.add_mul,Int.one_mul]at this
   lia
def low(f:Z)(j:Nat):Int:=match f 0 j with
 |some c=>-(c / 2)|none=>0
def low_feas{n:Nat}{f:Z}(h:Nar n f)(hn:0<n):LB n f (low f)/\low f 0=0:=by
 refine{λi j c hi hj e=>?_,?_}
 .have t:=h.tri 0 j i hn hj hi;have r1:=h.row i hi;have r2:=h.row j hj;unfold low;cases e1:f 0 i with
  |none=>rw[e1]at r1;exact r1.elim|some a=>
   cases e2:f 0 j with
   |none=>rw[e2]at r2;exact r2.elim|some b=>
    rw[e1,e2,e]at t;have t':b<=bs a c:=t;unfold bs at t';simp only
    lia
 .unfold low;rw[h.diag 0 hn]
  rfl
abbrev Lim:=Nat×Nat×Int
def Ok(L:List Lim)(w:Nat->Int):Prop:=∀x∈L,w x.1 - w x.2.1<=x.2.2
def pt(v:Nat->Int)(j:Nat)(a:Int):Nat->Int:=λk=>if k=j then a else v k
def rz:List Lim->(Nat->Int)->Bool->(Nat->Int)×Bool
 |[],v,b=>(v,b)|(i,j,m)::L,v,b=>if v j<v i - m then rz L (pt v j<|v i - m) true else rz L v b
def Jc:∀(L:List Lim) (v:Nat->Int) (b:Bool) (k:Nat),v k<=(rz L v b).1 k
 |[],_,_,_=>ă _|(i,j,m)::L,v,b,k=>by
  unfold rz;split
  .refine ġ ?_<|Jc L _ _ k;unfold pt;split
   .rename_i h1 h2;rw[h2]
    lia
   .exact ă _
  .exact Jc L v b k
def QH{w:Nat->Int}:∀(L:List Lim) (v:Nat->Int) (b:Bool),Ok L w->(∀k,v k<=w k)->∀k,(rz L v b).1 k<=w k
 |[],_,_,_,h,k=>h k|(i,j,m)::L,v,b,ho,h,k=>by
  have o1:=ho (i,j,m) (Í ..);have o2:Ok L w:=λx hx=>ho x<|É _ hx
  unfold rz;split
  .refine QH L _ _ o2 (λk=>?_) k
   unfold pt;split
   .rename_i h2;rw[h2];have:=h i;simp only at o1
    lia
   .exact h k
  .exact QH L v b o2 h k
def QG:∀(L:List Lim) (v:Nat->Int),(rz L v true).2=true
 |[],_=>rfl|(i,j,m)::L,v=>by
  unfold rz;split
  .exact QG L _
  .exact QG L v
def rz_false:∀(L:List Lim) (v:Nat->Int),(rz L v false).2=false->(rz L v false).1=v/\Ok L v
 |[],v,_=>{rfl,λx hx=>by cases hx}|(i,j,m)::L,v,h=>by
  unfold rz at h ⊢;split at h
  .rw[QG]at h;cases h
  .rename_i hc;rw[if_neg hc];let(e,o):=rz_false L v h;refine{e,λx hx=>?_};rcases Ê.mp hx with rfl|hx
   .simp only
    lia
   .exact o x hx
def rz_ok:∀(L:List Lim) (v:Nat->Int),Ok L v->rz L v false=(v,false)
 |[],_,_=>rfl|(i,j,m)::L,v,h=>by
  have o1:=h (i,j,m) (Í ..);unfold rz;rw[if_neg (by simp only at o1;lia)]
  exact rz_ok L v λx hx=>h x<|É _ hx
def QI{w:Nat->Int}:∀(L:List Lim) (v:Nat->Int) (b:Bool),Ok L w->(∀k,v k<=w k)->∀i j m,(i,j,m)∈L->v i=w i->w i - m<=(rz L v b).1 j
 |[],_,_,_,_,_,_,_,hx,_=>by cases hx|(i',j',m')::L,v,b,ho,h,i,j,m,hx,e=>by
  have o1:=ho (i',j',m') (Í ..);have o2:Ok L w:=λx hx=>ho x<|É _ hx
  unfold rz;split
  .rename_i hc
   have hle:∀k,pt v j' (v i' - m') k<=w k:=λk=>by
    unfold pt;split
    .rename_i h2;rw[h2];have:=h i';simp only at o1
     lia
    .exact h k
   rcases Ê.mp hx with q|q
   .cases q;refine ġ ?_<|Jc L _ _ _;unfold pt;rw[if_pos rfl]
    lia
   .refine QI L _ _ o2 hle i j m q ?_;have h1:=hle i;unfold pt at h1 ⊢;split
    .rename_i h2;rw[if_pos h2]at h1;rw[h2]at e ⊢;rw[h2]at h1
     lia
    .exact e
  .rename_i hc
   rcases Ê.mp hx with q|q
   .cases q;refine ġ ?_<|Jc L _ _ _
    lia
   .exact QI L v b o2 h i j m q e
def tn(L:List Lim):Nat->(Nat->Int)->Option (Nat->Int)
 |0,_=>none|t+1,v=>if (rz L v false).2 then tn L t (rz L v false).1 else ↑(rz L v false).1
def sm(n:Nat)(w:Nat->Int):Int:=((List.range n).map w).sum
def In(n:Nat)(L:List Lim):Prop:=∀x∈L,x.1<n/\x.2.1<n
def Vb:∀(l:kG) (v w:Nat->Int),(∀k∈l,v k<=w k)->(l.map v).sum<=(l.map w).sum
 |[],_,_,_=>ă _|k::l,v,w,h=>by
  erw[Ï,œ];have h1:=h k (Í ..);have h2:=Vb l v w λx hx=>h x<|É _ hx
  lia
def L5:∀(l:kG) (v w:Nat->Int) (a:Nat),a∈l->(∀k∈l,v k<=w k)->v a<w a->(l.map v).sum<(l.map w).sum
 |[],_,_,_,h,_,_=>by cases h|k::l,v,w,a,ha,h,hl=>by
  erw[Ï,œ];have h1:=h k (Í ..);have h2:=Vb l v w λx hx=>h x<|É _ hx;rcases Ê.mp ha with rfl|ha
  .lia
  .have h3:=L5 l v w a ha (λx hx=>h x<|É _ hx) hl
   lia
def Va:∀(l:kG) (w:Nat->Int),(∀k∈l,0<=w k)->0<=(l.map w).sum
 |[],_,_=>ă _|k::l,w,h=>by
  erw[Ï,œ];have h1:=h k (Í ..);have h2:=Va l w λx hx=>h x<|É _ hx
  lia
def ZY{n:Nat}{L:List Lim}:∀(s:Nat) (w:Nat->Int),Ok L w->(∀k,0<=w k)->sm n w<=s->∃w',Ok L w'/\(∀k,0<=w' k)/\∀w'',Ok L w''->(∀k,0<=w'' k)->sm n w'<=sm n w''
 |s,w,ho,hn,hs=>by
  by_cases q:∃w'',Ok L w''/\(∀k,0<=w'' k)/\sm n w''<sm n w
  .let(w2,o2,n2,l2):=q;cases s with
   |zero=>
    have:=Va (List.range n) w2 λk _=>n2 k
    unfold sm at *
    lia
   |succ s=>exact ZY s w2 o2 n2<|by lia
  .refine{w,ho,hn,λw2 o2 n2=>?_}
   rcases ģ (sm n w2) (sm n w) with h|h
   .exact(q {(w2),o2,n2,h}).elim
   .exact h
def LV(n:Nat)(v w:Nat->Int):Nat:=(List.range n).countP λk=>decide (v k≠w k)
section
variable {n:Nat}{L:List Lim}{w:Nat->Int}(hi:In n L)(ho:Ok L w)(hn:∀k,0<=w k)(hm:∀w',Ok L w'->(∀k,0<=w' k)->sm n w<=sm n w')
include hi ho hn hm
open Classical in
def hang{v:Nat->Int}(hv0:∀k,0<=v k)(hv:∀k,v k<=w k){k:Nat}(hk:k<n)(hd:v k≠w k):∃i j m,(i,j,m)∈L/\v i=w i/\v j≠w j/\w j=w i - m:=by
 by_cases q:∃i j m,(i,j,m)∈L/\v i=w i/\v j≠w j/\w j=w i - m
 .exact q
 exfalso
 have lt:∀j,v j≠w j->0<w j:=λj hj=>by
  have h1:=hv0 j;have h2:=hv j
  lia
 have o2:Ok L (λj=>if v j≠w j then w j - 1 else w j):=by
  rintro⟨i,j,m⟩ hx;have h1:=ho _ hx;simp only at h1 ⊢
  by_cases hj:v j≠w j
  .rw[if_pos hj]
   by_cases hi:v i≠w i
   .rw[if_pos hi];lia
   .rw[if_neg hi];have hne:w j≠w i - m:=λe=>q {i,j,m,hx,by simpa using hi,hj,e}
    lia
  .rw[if_neg hj];split<;>lia
 have n2:∀j,0<=(λj=>if v j≠w j then w j - 1 else w j) j:=λj=>by
  show 0<=(if v j≠w j then w j - 1 else w j)
  split
  .rename_i h;have:=lt j h;lia
  .exact hn j
 have h3:=hm _ o2 n2
 have h4:=L5 (List.range n) (λj=>if v j≠w j then w j - 1 else w j) w k (á.mpr hk) (λj _=>by
  show(if v j≠w j then w j - 1 else w j)<=w j
  split<;>lia) (by
  show(if v k≠w k then w k - 1 else w k)<w k
  rw[if_pos hd]
  lia)
 unfold sm at h3
 lia
def VD:∀(t:Nat) (v:Nat->Int),(∀k,0<=v k)->(∀k,v k<=w k)->(∀k,n<=k->v k=w k)->LV n v w<=t->∃v',tn L (t+1) v=↑v'/\Ok L v'/\∀k,v' k=w k
 |t,v,h0,hv,hr,hu=>by
  have up:=Jc L v false;have le:=QH L v false ho hv;unfold tn;cases hb:(rz L v false).2 with
  |false=>
   let(e,o):=rz_false L v hb;refine{v,by simp[e],o,λk=>?_}
   have h3:sm n w<=sm n v:=hm v o h0
   by_cases hk:k<n
   .rcases ģ (v k) (w k) with q|q
    .have:=L5 (List.range n) v w k (á.mpr hk) (λj _=>hv j) q
     unfold sm at h3
     lia
    .have:=hv k;lia
   .exact hr k<|by lia
  |true=>
   rw[if_pos rfl]
   have ex:∃k,k<n/\v k≠w k:=by
    refine ĭ λq=>?_
    have e:v=w:=funext λk=>by
     by_cases hk:k<n
     .exact ĭ λz=>q {(k),hk,z}
     .exact hr k<|by lia
    rw[e,rz_ok L w ho]at hb;cases hb
   let(k,hk,hd):=ex;let(i,j,m,hx,e1,e2,e3):=hang hi ho hn hm h0 hv hk hd;have hj:=(hi _ hx).2
   have ej:(rz L v false).1 j=w j:=by
    have h1:=QI L v false ho hv i j m hx e1;have h2:=le j
    lia
   have HE:LV n (rz L v false).1 w<LV n v w:=by
    unfold LV;refine K7 (a:=j) (á.mpr hj) (λx _ hx=>?_) ?_ ?_
    .have hx':=ò hx;refine Ì λe=>hx' ?_
     have h1:=up x;have h2:=le x
     lia
    .exact Ù λz=>z ej
    .exact Ì e2
   cases t with
   |zero=>lia|succ t=>
    have hr':∀k,n<=k->(rz L v false).1 k=w k:=λk hk=>by
     have h1:=up k;have h2:=le k;rw[hr k hk]at h1
     lia
    exact VD t _ (λk=>ġ (h0 k)<|up k) le hr'<|by lia
end
def tn_ok{n:Nat}{L:List Lim}{w:Nat->Int}(h1:0<n)(hi:In n L)(ho:Ok L w)(hn:∀k,k<n->0<=w k):∃v,tn L n (λ_=>0)=↑v/\Ok L v/\(∀k,0<=v k)/\∃k,k<n/\v k=0:=by
 have ho1:Ok L (λk=>if k<n then w k else 0):=λx hx=>by
  let(q1,q2):=hi x hx;erw[q1,q2,Æ];exact ho x hx
 have hn1:∀k,0<=(λk=>if k<n then w k else 0) k:=λk=>by
  show 0<=(if k<n then w k else 0)
  split
  .exact hn k<|by assumption
  .exact ă _
 let(w2,o2,n2,m2):=ZY (n:=n) (L:=L) (sm n λk=>if k<n then w k else 0).toNat _ ho1 hn1<|by lia
 have o3:Ok L (λk=>if k<n then w2 k else 0):=λx hx=>by
  let(q1,q2):=hi x hx;erw[q1,q2,Æ];exact o2 x hx
 have n3:∀k,0<=(λk=>if k<n then w2 k else 0) k:=λk=>by
  show 0<=(if k<n then w2 k else 0)
  split
  .exact n2 k
  .exact ă _
 have e3:sm n (λk=>if k<n then w2 k else 0)=sm n w2:=by
  unfold sm;rw[İ λk hk=>?_]
  rw[if_pos<|á.mp hk]
 generalize hw:(λk=>if k<n then w2 k else 0)=w3 at *
 have m3:∀w',Ok L w'->(∀k,0<=w' k)->sm n w3<=sm n w':=λw' a b=>by rw[e3];exact m2 w' a b
 have r3:∀k,n<=k->w3 k=0:=λk hk=>by rw[<- hw];exact if_neg<|by lia
 have z3:∃k,k<n/\w3 k=0:=by
  refine ĭ λq=>?_
  have pos:∀k,k<n->0<w3 k:=λk hk=>by
   have h1:=n3 k;have h2:w3 k≠0:=λe=>q {(k),hk,e}
   lia
  have o4:Ok L (λk=>if k<n then w3 k - 1 else 0):=λx hx=>by
   let(q1,q2):=hi x hx;have:=o3 x hx;erw[q1,q2,Æ]
   lia
  have h4:=m3 _ o4 λk=>by
   show 0<=(if k<n then w3 k - 1 else 0)
   split
   .rename_i hk;have:=pos k hk;lia
   .exact ă _
  have h5:=L5 (List.range n) (λk=>if k<n then w3 k - 1 else 0) w3 0 (á.mpr h1) (λk hk=>by
   show(if k<n then w3 k - 1 else 0)<=w3 k
   rw[if_pos<|á.mp hk]
   lia) (by
   show(if 0<n then w3 0 - 1 else 0)<w3 0
   rw[if_pos h1]
   lia)
  unfold sm at h4
  lia
 let(k0,hk0,e0):=z3;let(m,rfl):∃m,n=m+1:={n - 1,by lia}
 let(v,e,o,ev):=VD hi o3 n3 m3 m (λ_=>0) (λ_=>ă _) n3 (λk hk=>(r3 k hk).symm) (by
  have h6:=K7 (l:=List.range<|m+1) (a:=k0) (p:=λk=>decide ((0:Int)≠w3 k)) (q:=λ_=>true) (á.mpr hk0) (λ_ _ _=>rfl) (Ù λz=>z e0.symm) rfl
  rw[List.countP_eq_length.mpr<|λ_ _=>rfl,ĵ]at h6
  show(List.range<|m+1).countP (λk=>decide ((0:Int)≠w3 k))<=m
  lia)
 exact{v,e,o,λk=>by rw[ev];exact n3 k,k0,hk0,by rw[ev];exact e0}
end Dv
namespace Dm
open Db
end Dm
namespace Df
open Db Dv
structure St(n:Nat)(f:Z)(u l:Nat->B):Prop where
 nar:Nar n f
 c1:∀i,0<i->i<n->le ↑1 (add (f 0 i)<|u i)
 c2:∀i,0<i->i<n->le ↑1 (add (l i)<|f i 0)
 c3:∀i j,0<i->0<j->i<n->j<n->le ↑1 (add (l i)<|add (f i j)<|u j)
def Sm(D:Int)(m:B)(x:Int):Prop:=match m with
 |none=>True|some m=>x<=m * D
end Df
namespace Dk
open Db Dv
end Dk
namespace Pu
open PySem PySem.Spec PyProof.Rows L2 Zw Zx
def mT(n:Nat)(g:Nat->T):kL:=(List.range n).map g
def nl0:((0:Nat):Int)=0:=rfl
def nl1:((1:Nat):Int)=1:=rfl
def nl2:((2:Nat):Int)=2:=rfl
def nl3:((3:Nat):Int)=3:=rfl
def nl4:((4:Nat):Int)=4:=rfl
def nl5:((5:Nat):Int)=5:=rfl
def nl6:((6:Nat):Int)=6:=rfl
def nl7:((7:Nat):Int)=7:=rfl
def nl8:((8:Nat):Int)=8:=rfl
def nl9:((9:Nat):Int)=9:=rfl
def zp1{k:Nat}(h:k<=100000):(k<=BS)=True:=eq_true (by unfold BS;lia)
def zp0{k:Nat}(h:k<100000):(k<BS)=True:=eq_true (by unfold BS;lia)
section
variable {n:Nat}{g h:Nat->T}
def BO:(mT n g).length=n:=by simp[mT]
def ED{i:Nat}(hi:i<n):(mT n g)[i]?=↑(g i):=by simp[mT,hi]
def Gq(e:(mT n g)[i]?=↑t):i<n/\t=g i:=by
 have hi:i<n:=by
  rcases Nat.lt_or_ge i n with q|q
  .exact q
  .rw[ÿ (by rw[BO];exact q)]at e
   cases e
 rw[ED hi]at e;exact{hi,by injection e with e;exact e.symm}
def Du(hl:l.length=n)(h:∀i,i<n->l[i]?=↑(g i)):l=mT n g:=by
 refine List.ext_getElem? λi=>?_
 rcases Nat.lt_or_ge i n with q|q
 .rw[h i q,ED q]
 .rw[ÿ (by lia),ÿ (by rw[BO];exact q)]
def EX(e:∀i,i<n->g i=h i):mT n g=mT n h:=Du BO λi hi=>by rw[ED hi,e i hi]
def Cb{k:Nat}(h1:k<n):AU (mT n g) (k:Int)=↑(g k):=CU<|ED h1
def zow(ht:t∈mT n g):∃i,i<n/\t=g i:=by
 let(i,hi,e):=Ó.mp ht;exact{i,á.mp hi,e.symm}
def Lf:BN (mT n g)=mT n λi=>(g i).share:=by
 rw[FL];unfold mT;rw[ý]
 rfl
def IH(e:∀i,(g i).sh=true):A6 (mT n g)=true:=by
 rw[DV,ã];intro t ht;obtain⟨i,-,rfl⟩:=zow ht;exact e i
def Ga(xs:Nat->Int):A6 (mT n λi=>.int<|xs i)=true:=IH λ_=>rfl
def Ib:mT n g++[g n]=mT (n+1) g:=by
 unfold mT;rw[List.range_succ,è]
 rfl
def ZC{α:Type}(t:α->T)(xs:Nat->α)(r):mT n (λj=>t<|xs j)++[t r]=mT (n+1) λj=>t (if j=n then r else xs j):=by
 rw[<- Ib,if_pos rfl,EX (g:=λj=>t (if j=n then r else xs j)) (h:=λj=>t<|xs j) λj hj=>by rw[if_neg<|by lia]]
def cX:∀(l) (k i:Nat) (t),l[i]?=↑t->(E3 k l)[i]?=↑(.tup [.int (k+i:Nat),t])
 |[],_,_,_,e=>by simp at e|x::r,k,0,t,e=>by
  simp at e;subst e
  rfl
 |x::r,k,i+1,t,e=>by
  rw[E3,ł];have:=cX r (k+1) i t<|by simpa using e
  rw[this,show k+1+i=k+(i+1) by lia]
def cW:∀(l) (k),(E3 k l).length=l.length
 |[],_=>rfl|x::r,k=>by rw[E3,Ø,Ø,cW r]
def TQ:E3 0 (mT n g)=mT n λi=>.tup [.int i,g i]:=by
 refine Du (by rw[cW,BO]) λi hi=>?_
 rw[cX _ _ _ _<|ED hi,Nat.zero_add]
def zm8:DI (mT n g) (mT n h)=mT n λi=>.tup [g i,h i]:=by
 refine Du (by simp[DI,BO]) λi hi=>?_
 unfold DI;rw[ň,ED hi,ED hi]
theorem zh1(lo:Int):Bl lo n=mT n λi=>.int<|lo+(i:Int):=rfl
def C9:Bl 0 n=mT n λi=>.int (i:Int):=by
 rw[zh1];simp
def consT(x:T)(g:Nat->T):Nat->T
 |0=>x|i+1=>g i
def zlz(x):x::mT n g=mT (n+1) (consT x g):=by
 refine Du (by rw[Ø,BO]) λi hi=>?_
 cases i with
 |zero=>rfl|succ i=>rw[ł,ED<|by lia];rfl
theorem mT_of(l)(d):l=mT l.length λi=>l.getD i d:=Du rfl λi hi=>by
 rw[Ú,Â hi];rfl
theorem Ia:(mT n g).set i v=mT n λj=>if j=i then v else g j:=Du (by simp[BO]) λj hj=>by
 rw[List.getElem?_set,BO]
 by_cases e:i=j
 .subst e;simp[hj]
 .erw[e,Ã];rw[ED hj,if_neg<|λq=>e q.symm]
variable {b:T->AM->Option AM}{body:AG}{me:AH}{Y:AM}
def KW(I:Nat->AM->Prop)(h0:I 0 Y)(hs:∀i Y,i<n->I i Y->∃τ1,b (g i) Y=↑τ1/\∃τ2,body τ1=↑(.nx τ2)/\I (i+1) τ2):∃Y',Aj b body (mT n g) Y=↑(.nx Y')/\I n Y':=by
 have:=FD I h0 λi t Y e hI=>by
  let(hi,rfl):=Gq e;exact hs i Y hi hI
 rwa[BO]at this
def zlr(p:Nat->Prop)(v )(I:Nat->AM->Prop)(h0:I 0 Y)
  (hs:∀i Y,i<n->(∀j,j<i->p j)->I i Y->∃τ1,b (g i) Y=↑τ1/\((p i/\∃τ2,(body τ1=↑(.nx τ2)\/body τ1=↑(.ct τ2))/\I (i+1) τ2)\/(¬ p i/\body τ1=↑(.rt v)))) :
  ((∀i,i<n->p i)/\∃Y',Aj b body (mT n g) Y=↑(.nx Y')/\I n Y')\/((∃i,i<n/\¬ p i)/\Aj b body (mT n g) Y=↑(.rt v)):=by
 have:=zfs (b:=b) (body:=body) (ts:=mT n g) (Y:=Y) (λi Y=>(∀j,j<i->p j)/\I i Y) (λw=>w=v/\∃i,i<n/\¬ p i) {λj hj=>by lia,h0} λi t Y e hI=>by
  let(hi,rfl):=Gq e;let(τ1,e1,q):=hs i Y hi hI.1 hI.2;refine{τ1,e1,?_}
  rcases q with ⟨pi,τ2,e2,I2⟩|⟨pi,e2⟩
  .refine .inl {τ2,e2,λj hj=>?_,I2}
   rcases Nat.lt_succ_iff_lt_or_eq.mp hj with q|rfl
   .exact hI.1 j q
   .exact pi
  .exact .inr {(v),e2,rfl,i,hi,pi}
 rw[BO]at this
 rcases this with ⟨Y',e,h1,h2⟩|⟨w,e,rfl,h2⟩
 .exact .inl {(h1),Y',e,h2}
 .exact .inr {(h2),e}
def Dy{cs:AM}(hs:∀i,i<n->me (↑(g i)::cs)=↑(.v (f i) false)):B8 (AD 0) (mC<|.bl true) me (mT n g) (x::cs)=↑(mT n f):=by
 have:=Ig (b:=AD 0) (ts:=mT n g) (λ_ Y=>∃y,Y=y::cs) f {(x),rfl} λi t Y e hI=>by
  let(hi,rfl):=Gq e;let(y,rfl):=hI;exact{↑(g i)::cs,by simp[AD],hs i hi,_,rfl}
 rw[this,BO]
 rfl
def F6{u w f:Nat->T}  {cs:AM}(hs:∀i,i<n->me (↑(u i)::↑(w i)::cs)=↑(.v (f i) false)):B8 (Ak 2<|AI (AD 0)<|AI (AD 1) Am) (mC<|.bl true) me (mT n λi=>.tup [u i,w i]) (x::y::cs)=↑(mT n f):=by
 have:=Ig (b:=Ak 2<|AI (AD 0)<|AI (AD 1) Am) (ts:=mT n λi=>.tup [u i,w i]) (λ_ Y=>∃x y,Y=x::y::cs) f {(x),y,rfl} λi t Y e hI=>by
  let(hi,rfl):=Gq e;let(x,y,rfl):=hI;exact{↑(u i)::↑(w i)::cs,by rfl,hs i hi,_,_,rfl}
 rw[this,BO]
 rfl
end
def bT:Db.B->T
 |none=>.non|some i=>.int i
def fB:bT none=.non:=rfl
def e8(i:Int):bT ↑i=.int i:=rfl
abbrev rT(n:Nat)(f:Nat->Db.B):T:=.lst<|mT n λj=>bT<|f j
abbrev zT(n:Nat)(f:Db.Z):T:=.lst<|mT n λi=>rT n<|f i
def UG(b:Db.B):(bT b).sh=true:=by cases b<;>rfl
def e9(b:Db.B):(bT b).share=bT b:=by cases b<;>rfl
def Iz(p):GX (mT n λi=>.bl<|p i)=↑((List.range n).map p):=by
 unfold mT;generalize List.range n=l
 induction l with
 |nil=>rfl|cons x r ih=>erw[Ï,GX,ih]
def Lv(n)(f):(rT n f).share=rT n f:=by
 unfold T.share;rw[Lf];erw[e9]
def Q5(n)(f):(rT n f).sh=true:=by
 unfold T.sh;rw[IH λi=>UG _]
 rfl
def zgm(n)(f):(zT n f).share=zT n f:=by
 unfold T.share;rw[Lf];erw[Lv]
def U8(n)(f):(zT n f).sh=true:=by
 unfold T.sh;rw[IH λi=>Q5 n _]
 rfl
def EV{n:Nat}(h:n<=100000):CB n=true:=@decide_eq_true _ (Classical.propDecidable _) {by lia,by lia}
def Zb{n:Nat}(h:n<=100000):KE n=true:=@decide_eq_true _ (Classical.propDecidable _) {by lia,by lia}
def WU(n)(t):(List.replicate n [t]).flatten=mT n λ_=>t:=by
 induction n with
 |zero=>rfl|succ n ih=>
  rw[List.replicate_succ,List.flatten_cons,ih,List.singleton_append,zlz];refine EX λi _=>?_
  cases i<;>rfl
def IE:∀ys ,Dz (ys.map T.str)=↑ys
 |[]=>rfl|y::r=>by
  show(match Dz (r.map T.str) with|some l=>↑(y::l)|none=>none)=_
  rw[IE r]
def AV:∀ys:kE,BN (ys.map T.str)=ys.map T.str
 |[]=>rfl|y::r=>by
  show T.str y::BN (r.map T.str)=_;rw[AV r]
  rfl
def AS:∀ys:kE,A6 (ys.map T.str)=true
 |[]=>rfl|y::r=>by
  show(true && A6 (r.map T.str))=true;rw[AS r]
  rfl
def Bn(ys:kE):Prop:=∀y∈ys,PyData.strOk y=true
def Wq:∀ys:kE,Er (ys.map T.str)=true
 |[]=>rfl|y::r=>by
  show(true && Er (r.map T.str))=true;rw[Wq r]
  rfl
def Z4:∀{ys},Bn ys->PyData.canLayAll0 (Bg<|ys.map T.str)=true/\PyData.depthAll (Bg<|ys.map T.str)=0
 |[],_=>{(rfl),rfl}|y::r,h=>by
  let(h1,h2):=Z4 λx hx=>h x<|É _ hx
  have h3:=h y (Í ..);rw[Ï,Bg,PyData.canLayAll0,PyData.depthAll,h1,h2,T.data,PyData.canLay0,h3,PyData.depth];simp
def K3(hx:PyData.strOk x=true)(hy:PyData.strOk y=true):BD (.str x) (.str y)=↑(.bl<|decide (x=y)):=by
 have e:(x == y)=decide (x=y):=by rfl
 unfold BD HB E2 Iy;erw[T.data,T.pln,PyData.canLay0,PyData.depth,PyData.eqv,hx,hy,e];simp
theorem Fit.str(h:PyData.strOk x=true)(n):Fit (.str x) n:={by unfold E2;rw[T.data,PyData.canLay0,h];rfl,rfl,by simp[T.data,PyData.depth]}
def fG(x):∀ys:kE,((Bg<|ys.map T.str).any λy=>PyData.eqv y<|.str x)=decide (x∈ys)
 |[]=>by rfl|y::r=>by
  have e:(y == x)=decide (x=y):=by grind
  rw[Ï,Bg,List.any_cons,fG x r,T.data,PyData.eqv,e,Bool.eq_iff_iff,Ď,ë,ë,ë,Ê]
def Im(h:Bn ys)(hx:PyData.strOk x=true):EH (.str x) (.nd o k<|ys.map T.str)=↑(.bl<|decide (x∈ys)):=by
 have ok:Io (.str x) (ys.map T.str)=true:=by
  let(h1,h2):=Z4 h;unfold Io E2;rw[Wq,h1,h2,T.data,PyData.canLay0,hx]
  rfl
 unfold EH;simp only;rw[if_pos ok];unfold S9;rw[T.data,fG]
end Pu
namespace Tx
open PySem PySem.NumText
abbrev cs(x:Str):kG:=x.cps.toList
def dg(n:Nat):Str:=Str.ofString<|toString ((n:Nat):Int)
section
variable {x y:Str}{c:Nat}(hA:∀k,(cs x)[k]?=↑c->StrLaws.At x y x.length k)
include hA
end
end Tx
namespace Hd
open PySem PySem.W PySem.Calls PyProof.Rows
def KQ(st:SharedT->Thread->Option (SharedT×Thread))(ok:Thread->Bool):Nat->SharedT->Thread->Option SharedT
 |0=>λ_ _=>none|n+1=>λs t=>bif through t then ↑s else bif ok t then (st s t).elim none λx=>KQ st ok n x.1 x.2 else none
def zlm(n):∀(s) (t) (r),
  KQ (stepT (denote tb) p w) (stepOk m ann) n s t=↑r->topRun tb p w m ann n s.abs t=↑r.abs:=by
 induction n with
 |zero=>intro s t r h;exact nomatch h
 |succ n ih=>
  intro s t r h;rw[KQ]at h;dsimp only at h;rw[topRun];cases a:through t with
  |true=>rw[a]at h;cases h;rfl|false=>
   rw[a]at h;cases b:stepOk m ann t with
   |false=>rw[b]at h;exact nomatch h
   |true=>
    rw[b]at h;cases c:stepT (denote tb) p w s t with
    |none=>rw[c]at h;exact nomatch h
    |some x=>rw[c]at h;rw[stepT_spec (s':=x.1) (t':=x.2) c];exact ih _ _ _ h
def Lh(p q:Program)(loose:kE)(Xt:Shared->Bool){α:Type}(Yf:Shared->α)(h:Heap)(s:Shared):=
 ((staticsOk (importedModules p.main.body) h s.heap && namesBound p s.heap && gensDone s && laidKept h s.heap),openSeen q loose (importedModules p.main.body) Xt true s,Yf s)
theorem zlb{Ya:World->α}{N M m:Nat}{bt:Params->BT}{lf:Params->Life}{st:World->SharedT->Thread->Option (SharedT×Thread)}(hst:∀w,stepT (denote treeTable) p w=st w)(hok:stepOk m ann=ok)
  (e:opening p=plainProg p.main.scope.names) (hN:Nat.ble 600 N=true) (f:∀s,fenceModules? p s=↑s) (hM:Nat.ble M N=true)
  (hb:∀P,absHeap (bt P) m (lf P)=boot_heap P) (hs:∀P,(boot_heap P).isNs mainGlobals=true) (hz:∀P,(boot_heap P).objs.size=m) (ha:∀P,(boot_heap P).nsMap mainGlobals "__annotations__"=ann)
  (h:∀(w ) (os ),(KQ (st w) ok M {bt w.params,m,lf w.params,Array.mk [],boot_drawn,boot_toks,os}<|topStub p).map (λs=>Lh p q loose Xt Yf (boot_heap w.params) s.abs)=↑(true,openGood q loose,Ya w)) :
  LeftO p q loose Xt Yf Ya N true:=λw=>by
 let((h0,g0,d0,k0,os),hs0,hv):=Ö.mp<|boot_open e hN f w;erw[Prod.mk.injEq]at hv;let(rfl,rfl,rfl,rfl):=hv;let(T,hT,hx):=Ö.mp<|h w os;rw[<- hst,<- hok]at hT;have r:=topRun_mono (N - M) _ _ _ _<|zlm _ _ _ _ hT;rw[Nat.add_sub_cancel'<|Nat.le_of_ble_eq_true hM]at r;have hx1:=congrArg Prod.fst hx;have hx2:=congrArg Prod.snd hx;erw[Lh]at hx1 hx2;erw[SharedT.abs,hb]at r hx1 hx2
 have k:topFrom treeTable p w N {boot_heap w.params,Array.mk [],boot_drawn,boot_toks,os}=↑T.abs:=by
  erw[topFrom,hs,hz,ha,r];erw[ĸ];rw[hx1]
  rfl
 show((fencedOpening treeTable p w N).bind (topFrom treeTable p w N)).map _=_;rw[hs0];show(topFrom treeTable p w N _).map _=_;rw[k];exact congrArg some hx2
def en(P:Params)(x:String)(k:Nat)(v:Value):DictEntry:={PyData.keyHash P<|Str.ofString x,.str (Str.ofString x) k,v}
def bt(P:Params):BT:=((boot_heap P).objs.toList.foldl (λ(x:BT×Nat) o=>(x.1.ins x.2 o,x.2+1)) (BT.nil,0)).1
def bt_ok(P:Params):absHeap (bt P) 11 (boot_heap P).life=boot_heap P:=by ext
def zq4(P):(boot_heap P).nsMap mainGlobals "__annotations__"=↑(.ref 6):=by ext
def ns_ok(P:Params):(boot_heap P).isNs mainGlobals=true:=by ext
def sz_ok(P:Params):(boot_heap P).objs.size=11:=by ext
abbrev go(p:Program)(M:Nat)(w:World)(os:OsState):Option SharedT:=
 KQ (Fast.tw10156331382660048174 (Fast.tw11892475500146522536 Fast.tw14364793385576792824) p w) (Fast.tw6613529449190102663 11<|↑(.ref 6)) M {bt w.params,11,(boot_heap w.params).life,Array.mk [],boot_drawn,boot_toks,os} (topStub p)
abbrev xt(r:RowW)(q:Program)(s:Shared):Bool:=xlAt q [] s && recOk r.records s
theorem zlc{Ya:World->α}(N M:Nat)
  (e:opening p=plainProg p.main.scope.names) (hN:Nat.ble 600 N=true) (f:∀s,fenceModules? p s=↑s) (hM:Nat.ble M N=true)
  (h:∀(w ) (os ),(go p M w os).map (λs=>Lh p q loose (xt r q) Yf (boot_heap w.params) s.abs)=↑(true,openGood q loose,Ya w)):LeftO p q loose (xt r q) Yf Ya N true:=
 zlb
  (λw=>by rw[Fast.te10156331382660048174,Fast.te11892475500146522536,Fast.te14364793385576792824]) (by rw[Fast.te6613529449190102663]) e hN f hM bt_ok ns_ok sz_ok zq4 h
end Hd
set_option maxHeartbeats 4200000
namespace Zl
open PySem L2 Zw Zx Pu
noncomputable section
local macro_rules
  |`(tactic| simp![$as,*])=>do let y<-"mI mJ A3 Lm K2 F8 AF AO C0 E9 Ab AQ QC J9 GC Gf Ge Jt HS A8 Ll B7 Co GB Gd J8 Ja C8 EC MC AA mC AE AB Ai BQ m1 m2 AN EF Au CP BK AK Ew FV BH BZ BF Aw g1 g2 AD Am AI Ak blk Mq Ip CI E1 Gy Gw Ju IG NC Hq NB GS Al E8 Bm BB Bd Ea Kc Kf BX Et Cg T.isN T.isB BA Cc JB Jq MH Hi Hf ċ KO Fu Kg CH LX Uy IA L6 T.share BN T.sh A6 T.flat GY Ft NA Ï Ő Ø Ċ List.replicate ā ů Ū List.getElem?_cons_zero ł List.getElem?_nil List.set_cons_zero List.set_cons_succ Ů nl0 nl1 nl2 nl3 nl4 nl5 nl6 nl7 nl8 nl9 Int.reduceBEq Nat.reduceBEq Nat.reduceAdd Nat.reduceSub Nat.reduceLT Nat.reduceLeDiff if_true if_false ite_true ite_false reduceIte Bool.not_true Bool.not_false Ž Bool.true_and Bool.and_false Ŵ Bool.or_true Bool.true_or ż Bool.false_or Bool.false_xor Bool.true_xor Ā ŧ decide_true decide_false Ê ê or_false or_true true_or and_true true_and and_self String.reduceEq String.reduceBEq beq_self_eq_true ne_eq not_false_eq_true not_true_eq_false zp1 zp0 UG e9 BO Lf Int.reduceLT Int.reduceAdd î Ga IH implies_true forall_const fB e8 Int.reduceEq Int.reduceNe SY DP CF Dw DO Ic ES GG Jb Jj MS FW FA Av H9 Jx Lk".splitOn.mapM (λx=>do`(Lean.Parser.Tactic.simpLemma|$(Lean.mkCIdent (<-Lean.Macro.resolveGlobalName x.toName).head!.1):ident));`(tactic| simp only[$(⟨(Lean.Syntax.SepArray.ofElems (sep:=",") (y.toArray.map (·.raw)++as.elemsAndSeps.getSepElems)).elemsAndSeps⟩),*])
abbrev mI(i:Int):=mC<|.int i
abbrev mJ(i:Nat):=AB<|AA i
def AL(i:Nat):Stmt:=PySem.Challenge.pw_zonewalk_k53_whole_runs_of_roads.main.body.getD i<|.Pass {0,0,0,0}
def zpy(s:Stmt)(j:Nat):Stmt:=match s with
 |.ClassDef _ _ _ body _ _ _ _ _ _ _=>body.getD j (.Pass {0,0,0,0})|_=>.Pass {0,0,0,0}
def DN(i j:Nat):Stmt:=zpy (AL i) j
abbrev BP:Addr:=268
def B0:kE:=["start","end","guard","noughts","sign"]
abbrev Ar:Addr:=322
def Ax:kE:=["watch_names","stays","door_list"]
def Ij:T:=(.nd false .rt [(.str "<"),(.str "<="),(.str ">"),(.str ">="),(.str "=")])
def MZ:T:=(.nd false .rt [(.str "<"),(.str "<=")])
def M0:T:=(.int 7)
def M1:T:=(.int 64)
def M3:T:=(.int 200)
def Ik:T:=(.int 200)
def TZ:List<|Addr×Bool:=[(268,true),(322,false)]
abbrev Pz:Stmt:=AL 67
def Rx:AG:=
 (AF (Ab (m2 (BX λi j=>decide (i<j)) (AA 1)<|m1 BA<|AA 0) (AQ<|AK (AA 0)<|AA 1) A8)
 (AQ<|mI 0))
def Fc:kL->Option Ru:=A3 2 2 Rx
abbrev Ym(s:Stmt):kE:=((Cj s).names.filter λx=>x.2 == .local || x.2 == .cell).map (·.1)
abbrev fA(k n:Nat)(s:Stmt)(R:kL->Option Ru):Fn:={k,(Ym s).take n,R}
abbrev TJ:=fA 1 2 Pz Fc
abbrev gA(s:Stmt)(k:Nat)(fs:List<|Str×Fn)(bl:kE)(ow:kE:=[])(ex:kE:=[])(ox:Gx:=Cv)(mu:=false)(mc:List<|Str×Fn:=[])(mv:kE:=[])(dc:kE:=[])(N:=Ym s):Gm:={N,(Cj s).names,N.filter λx=>(Cj s).names.lookup x == ↑.cell,k,fs,bl,ex,ow,["_law_holds","raise_all"],mu,mc,mv,dc,ox}
abbrev zde:Gm:=gA Pz 0 [] ["len"]
theorem zdp:Ck zde TJ Pz Rx:={}
def Mp(ns:kF){k:Int}(h0:0<=k):Fc [CZ ns,.int k]=↑(.ok<|.int<|ns.getD k.toNat 0):=by
 unfold Fc Rx
 by_cases h:k<ns.length
 .have ea:AU (ns.map T.int) k=↑(.int<|ns.getD k.toNat 0):=Ho h0<|by simp_all
  have el:decide (k<(ns.map T.int).length)=true:=by simpa using h
  simp![CZ,IF,J7,el,ea]
 .have el:decide (k<(ns.map T.int).length)=false:=by simpa using h
  have e:ns.getD k.toNat 0=0:=by
   simp_all
  simp![CZ,IF,J7,el,e]
abbrev P0:Stmt:=AL 42
def R8:AG:=
 (AQ<|m2 BD (m1 JZ<|AA 0)<|m1 BA<|AA 0)
def JL:kL->Option Ru:=A3 1 1 R8
abbrev Mh:=fA 1 1 P0 JL
abbrev zbr:Gm:=gA P0 0 [] ["len","set"]
theorem zbx:Ck zbr Mh P0 R8:={}
def Yw{val:Nat->L2.Key}{n:Nat}(h:∀i j,i<n->j<n->val i=val j->i=j):∀k,k<=n->(met val k).length=k/\∀x∈met val k,∃i,i<k/\x=val i
 |0,_=>{rfl,λx hx=>by cases hx}|k+1,hk=>by
  let(h1,h2):=Yw h k<|by lia
  have hn:val k∉met val k:=λz=>by
   let(i,hi,e):=h2 _ z;have:=h k i (by lia) (by lia) e
   lia
  have e:met val (k+1)=met val k++[val k]:=by
   conv=>lhs;unfold met
   lia
  rw[e];refine{by simp_all,λx hx=>?_}
  rcases ä.mp hx with q|q
  .let(i,hi,e):=h2 x q;exact{i,by lia,e}
  .exact{k,by lia,Ô.mp q}
def zme{ys:kE}(h:ys.Nodup):OK ys=ys.length:=by
 refine(Yw (λi j hi hj e=>?_) ys.length<|Ç _).1
 have e':=Sum.inr.inj e;rw[Ú,Ú,Â hi,Â hj]at e';exact(ğ h).mp e'
def OL{ys:kE}(h:ys.Nodup)(hl:ys.length<1000):JL [.lst<|ys.map T.str]=↑(.ok<|.bl true):=by
 have e:(ys.length == ys.length)=true:=ì _;unfold JL R8
 simp![JZ,AV,IE,hl,zme h,Dd,e,Á]
abbrev Oy:Stmt:=AL 33
def RN:AG:=
 (AQ<|FW FA FA (mC<|.str "a") (AA 0)<|mC<|.str "z")
def Ko:kL->Option Ru:=A3 1 1 RN
abbrev Ss:=fA 1 1 Oy Ko
abbrev za6:Gm:=gA Oy 0 [] []
theorem za9:Ck za6 Ss Oy RN:={}
def Vr{c:Nat}(h1:97<=c)(h2:c<=122):Ko [.str {#[c]}]=↑(.ok<|.bl true):=by
 have a1:((Str.ofString "a").cps.toList)=[97]:=by rfl
 have a2:((Str.ofString "z").cps.toList)=[122]:=by rfl
 have b1:@decide (#[c].toList<(Str.ofString "a").cps.toList) (Classical.propDecidable _)=false:=@decide_eq_false _ (Classical.propDecidable _) (by
  rw[a1];rw[List.cons_lt_cons_iff]
  simp_all)
 have b2:@decide ((Str.ofString "z").cps.toList < #[c].toList) (Classical.propDecidable _)=false:=@decide_eq_false _ (Classical.propDecidable _) (by
  rw[a2];rw[List.cons_lt_cons_iff]
  simp_all)
 unfold Ko RN
 simp![b1,b2]
abbrev PF:Stmt:=AL 34
def Tn:AH:=
 (AN Ko<|mJ 0 AE)
def RQ:AG:=
 (AQ<|CP (FW FA FA (mI 1) (m1 BA<|AA 0)<|mI 8)<|m1 Fu<|BF 1 [] (Av<|AA 0) (AD 0) (mC<|.bl true) Tn)
def Kp:kL->Option Ru:=A3 1 1 RQ
abbrev Su:=fA 2 1 PF Kp
abbrev ze8:Gm:=gA PF 1 [("is_small_letter",Ss)] ["len","all"]
theorem zej:Ck ze8 Su PF RQ:={}
def FG(x:Str):Prop:=∀i,i<x.cps.size->97<=x.cps.getD i 0/\x.cps.getD i 0<=122
def Vu(x:Str):Gb x=mT x.cps.size λi=>.str {#[x.cps.getD i 0]}:=by
 refine Du (by simp[Gb]) λi hi=>?_
 unfold Gb
 simp_all
def Yk{x:Str}(h:FG x)(h1:1<=x.cps.size)(h8:x.cps.size<=8):Kp [.str x]=↑(.ok<|.bl true):=by
 have l1:x.cps.size<=100000:=by lia
 have lc:=Dy (n:=x.cps.size) (me:=Tn) (x:=none) (cs:=[]) (g:=λi=>.str {#[x.cps.getD i 0]}) (f:=λ_=>.bl true) λi hi=>by
  unfold Tn
  simp![Vr (h i hi).1 (h i hi).2]
 have e1:decide (1<=(x.length:Int))=true:=Ì (by show 1<=(x.cps.size:Int);lia)
 have e2:decide ((x.length:Int)<=8)=true:=Ì (by show(x.cps.size:Int)<=8;lia)
 have ll:x.length<=BS:=by
  lia
 have ba:((List.range x.cps.size).map λ_=>true).all id=true:=by simp
 unfold Kp RQ
 simp![Vu,lc,l1,e1,e2,ll,Iz,ba]
abbrev Ox:Stmt:=AL 35
def RM:AG:=
 (AQ<|CP (m1 (CH "str")<|AA 0)<|BK (m2 BD (AA 0)<|mC<|.str "/")<|AN Kp<|mJ 0 AE)
def Kn:kL->Option Ru:=A3 1 1 RM
abbrev Sr:=fA 3 1 Ox Kn
abbrev zag:Gm:=gA Ox 2 [("is_name",Su)] ["isinstance","str"]
theorem zal:Ck zag Sr Ox RM:={}
def Le{x:Str}(h:FG x):PyData.strOk x=true:=by
 unfold PyData.strOk;rw[Array.all_eq_true];intro i hi;have:=(h i hi).2;rw[Array.getD_eq_getD_getElem?,ń hi]at this;rw[ë]
 lia
def JC(x:Str):Prop:=x=Str.ofString "/"\/(FG x/\1<=x.cps.size/\x.cps.size<=8)
def O0:PyData.strOk (Str.ofString "/")=true:=by decide +kernel
def LD{x:Str}(h:JC x):PyData.strOk x=true:=by
 rcases h with rfl|h
 .exact O0
 .exact Le h.1
def Ug{x:Str}(h:JC x):Kn [.str x]=↑(.ok<|.bl true):=by
 have e:=K3 (LD h) O0;unfold Kn RM
 by_cases q:x=Str.ofString "/"
 .rw[Ì q]at e
  simp![e]
 .rw[Ù q]at e;have en:=Yk (h.resolve_left q).1 (h.resolve_left q).2.1 (h.resolve_left q).2.2
  simp![e,en]
abbrev PU:Stmt:=AL 41
def Tr:AH:=
 (AN Kn<|mJ 0 AE)
def RY:AG:=
 (AF (Ab (BK (Au<|m1 (CH "list")<|AA 0)<|m2 (BX λi j=>decide (j<i)) (m1 BA<|AA 0)<|mC M0) (C8 "BadMachine"<|AB (mC<|.str "a machine's watches are a list of at most seven") AE) A8)
 (Ab (BK (Au<|m1 Fu<|BF 1 [] (Av<|AA 0) (AD 0) (mC<|.bl true) Tr)<|Au<|AN JL<|mJ 0 AE) (C8 "BadMachine"<|AB (mC<|.str "a machine's watches are unlike names") AE) A8))
def NZ:kL->Option Ru:=A3 1 1 RY
abbrev bR:=fA 4 1 PU NZ
abbrev zac:Gx:={ Cv with co:=[("MOST_WATCHES",M0)] }
abbrev zah:Gm:=gA PU 3 [("is_watch_name",Sr),("are_unlike",Mh)] ["isinstance","list","len","all"] (ex:=["BadMachine"]) (ox:=zac)
theorem zam:Ck zah bR PU RY:={}
theorem L7(ws:kE):ws.map T.str=mT ws.length λi=>.str<|ws.getD i Str.empty:=Du (by simp_all) λi hi=>by
 simp_all
def cw_ok{ws:kE}(h:∀x∈ws,JC x)(hd:ws.Nodup)(hl:ws.length<=7):NZ [.lst<|ws.map T.str]=↑(.ok .non):=by
 have lc:=Dy (n:=ws.length) (me:=Tr) (x:=none) (cs:=[]) (g:=λi=>.str<|ws.getD i Str.empty) (f:=λ_=>.bl true) λi hi=>by
  have hm:ws.getD i Str.empty∈ws:=by
   simp_all
  unfold Tr
  simp![Ug<|h _ hm]
 rw[<- L7]at lc;have l1:ws.length<=100000:=by lia
 have e1:decide (7<(ws.length:Int))=false:=Ù<|by lia
 have ba:((List.range ws.length).map λ_=>true).all id=true:=by simp
 have un:=OL hd<|by lia
 unfold NZ RY M0
 simp![AV,AS,Á,lc,l1,e1,Iz,ba,un]
abbrev PB:Stmt:=AL 36
def Tj:AH:=
 (BK (m2 BD (AA 0)<|mC<|.str "/")<|AN Ko<|mJ 0 AE)
def RO:AG:=
 (AF (Ab (BK (Au<|m1 (CH "str")<|AA 0)<|Au<|FW FA FA (mI 1) (m1 BA<|AA 0)<|mI 60) (AQ<|mC<|.bl false) A8)
 (AQ<|m1 Fu<|BF 1 [] (Av<|AA 0) (AD 0) (mC<|.bl true) Tj))
def NR:kL->Option Ru:=A3 1 1 RO
abbrev bJ:=fA 2 1 PB NR
abbrev zau:Gm:=gA PB 1 [("is_small_letter",Ss)] ["isinstance","str","len","all"]
theorem zaz:Ck zau bJ PB RO:={}
def rn_ok{x:Str}(h:FG x)(h1:1<=x.cps.size)(h8:x.cps.size<=60):NR [.str x]=↑(.ok<|.bl true):=by
 have l1:x.cps.size<=100000:=by lia
 have lc:=Dy (n:=x.cps.size) (me:=Tj) (x:=none) (cs:=[]) (g:=λi=>.str {#[x.cps.getD i 0]}) (f:=λ_=>.bl true) λi hi=>by
  have o1:PyData.strOk (Str.mk #[x.cps.getD i 0])=true:=Le λj hj=>by
   have hj':j<1:=hj;have e:j=0:=by lia
   subst e;exact h i hi
  have e:=K3 o1 O0
  have n:¬ (Str.mk #[x.cps.getD i 0]=Str.ofString "/"):=λq=>by
   have e1:(Str.ofString "/").cps=#[47]:=by decide +kernel
   have q1:#[x.cps.getD i 0]=(Str.ofString "/").cps:=congrArg Str.cps q;rw[e1]at q1;have:=(h i hi).1;have q2:x.cps.getD i 0=47:=by simpa using q1
   lia
  rw[Ù n]at e;unfold Tj
  simp![e,Vr (h i hi).1 (h i hi).2]
 have e1:decide ((1:Int)<=(x.length:Int))=true:=Ì (by show(1:Int)<=((x.cps.size:Nat):Int);lia)
 have e2:decide ((x.length:Int)<=60)=true:=Ì (by show((x.cps.size:Nat):Int)<=60;lia)
 have ll:x.length<=100000:=l1;have ba:((List.range x.cps.size).map λ_=>true).all id=true:=by simp
 unfold NR RO
 simp![Vu,lc,l1,e1,e2,ll,Iz,ba]
abbrev Ow:Stmt:=AL 8
def Yy:AG:=
 (AQ<|CP (m1 (CH "int")<|AA 0)<|Au<|m1 (CH "bool")<|AA 0)
def JI:kL->Option Ru:=A3 1 1 Yy
abbrev Mf:=fA 1 1 Ow JI
abbrev zd9:Gm:=gA Ow 0 [] ["isinstance","int","bool"]
theorem zdk:Ck zd9 Mf Ow Yy:={}
def Uk(i:Int):JI [.int i]=↑(.ok<|.bl true):=by rfl
abbrev PD:Stmt:=AL 26
def Yz:AG:=
 (AQ<|CP (AN JI<|mJ 0 AE)<|m2 (BX λi j=>decide (j<=i)) (AA 0)<|mI 0)
def UO:kL->Option Ru:=A3 1 1 Yz
abbrev bL:=fA 2 1 PD UO
abbrev zcg:Gm:=gA PD 1 [("is_whole",Mf)] []
theorem zcu:Ck zcg bL PD Yz:={}
def zkx(i:Int):UO [.int i]=↑(.ok<|.bl<|decide (0<=i)):=by
 rfl
abbrev PH:Stmt:=AL 25
def RR:AG:=
 (AF (Ab (BK (Au<|m1 (CH "tuple")<|AA 0)<|m2 CD (m1 BA<|AA 0)<|mI 3) (AQ<|mC<|.bl false) A8)
 (AQ<|CP (m2 EH (AK (AA 0)<|mI 0)<|AA 1)<|CP (m2 EH (AK (AA 0)<|mI 1)<|AA 2)<|AN UO<|AB (AK (AA 0)<|mI 2) AE))
def NU:kL->Option Ru:=A3 3 3 RR
abbrev bM:=fA 3 3 PH NU
abbrev ze9:Gm:=gA PH 2 [("is_number",bL)] ["isinstance","tuple","len"]
theorem zek:Ck ze9 bM PH RR:={}
def BY:kE:=["<","<=",">",">=","="]
def Nt:Bn BY:=by unfold Bn;decide +kernel
abbrev PK:Stmt:=AL 27
def To:AH:=
 (AN NU<|mJ 0<|mJ 1<|mJ 2 AE)
def RS:AG:=
 (AQ<|CP (m1 (CH "list")<|AA 0)<|m1 Fu<|BF 1 [1,2] (Av<|AA 0) (AD 0) (mC<|.bl true) To)
def JK:kL->Option Ru:=A3 3 3 RS
abbrev Mg:=fA 4 3 PK JK
abbrev zda:Gm:=gA PK 3 [("is_look",bM)] ["isinstance","list","all"]
theorem zdl:Ck zda Mg PK RS:={}
abbrev PV:Stmt:=AL 43
def OA:AG:=
 (AF (Ab (BK (Au<|m1 (CH "tuple")<|AA 2)<|m2 CD (m1 BA<|AA 2)<|mI 2) (C8 "BadMachine"<|AB (mC<|.str "a room is a tuple of a name and a stay") AE) A8)
 (Ab (BK (Au<|AN NR<|AB (AK (AA 2)<|mI 0) AE)<|Au<|AN JK<|AB (AK (AA 2)<|mI 1)<|mJ 1<|AB (mC MZ) AE) (C8 "BadMachine"<|AB (mC<|.str "a room has a name, and a stay of the machine's watches") AE) A8))
def Ts:AH:=
 (AK (AA 0)<|mI 0)
def RZ:AG:=
 (AF (Ab (BK (Au<|m1 (CH "list")<|AA 0)<|m2 BD (m1 BA<|AA 0)<|mI 0) (C8 "BadMachine"<|AB (mC<|.str "a machine's rooms are a list of one or more") AE) A8)
 (AF (B7 (Av<|AA 0) (AD 2) OA)
 (Ab (Au<|AN JL<|AB (BF 1 [] (Av<|AA 0) (AD 0) (mC<|.bl true) Ts) AE) (C8 "BadMachine"<|AB (mC<|.str "no two rooms have one name") AE) A8)))
def N0:kL->Option Ru:=A3 2 3 RZ
abbrev bS:=fA 5 2 PV N0
abbrev zb4:Gx:={ Cv with co:=[("STAY_WORDS",MZ)] }
abbrev zba:Gm:=gA PV 4 [("is_room_name",bJ),("is_guard",Mg),("are_unlike",Mh)] ["isinstance","list","len","tuple"] (ex:=["BadMachine"]) (ox:=zb4)
theorem zbi:Ck zba bS PV RZ:={}
def BE(ws wd:kE)(l:kL):Prop:=∀t∈l,∃x y n,t=.tup [.str x,.str y,.int n]/\x∈ws/\y∈wd/\0<=n
def BE.sh{ws wd:kE}{l:kL}(h:BE ws wd l):A6 l=true:=by
 rw[DV,ã];intro t ht;let(x,y,n,rfl,_):=h t ht
 rfl
abbrev KD(wd:kE):T:=.nd false .rt<|wd.map T.str
def zl8{ws wd:kE}(h:Bn ws)(hd:Bn wd){t:T}(ht:∃x y n,t=.tup [.str x,.str y,.int n]/\x∈ws/\y∈wd/\0<=n):NU [t,.lst<|ws.map T.str,KD wd]=↑(.ok<|.bl true):=by
 let(x,y,n,rfl,h1,h2,h3):=ht;have e1:=Im (o:=false) (k:=.lst) h<|h x h1;have e2:=Im (o:=false) (k:=.rt) hd<|hd y h2;have e3:=zkx n;rw[Ì h1]at e1;rw[Ì h2]at e2;rw[Ì h3]at e3;unfold NU RR
 simp![Eb,AV,AS,e1,e2,e3]
def Sb{ws wd:kE}(h:Bn ws)(hd:Bn wd){l:kL}(hl:l.length<=1000)(hk:BE ws wd l):JK [.lst l,.lst<|ws.map T.str,KD wd]=↑(.ok<|.bl true):=by
 have hs:=hk.sh;have es:=AJ l hs;have em:=mT_of l .non
 have sg:∀i,(l.getD i .non).sh=true:=λi=>by
  by_cases hi:i<l.length
  .rw[Ú,Â hi];rw[DV,ã]at hs;exact hs _<|Ò hi
  .rw[Ú,ÿ<|by lia]
   rfl
 have lc:=Dy (n:=l.length) (me:=To) (x:=none) (cs:=[↑(.lst<|ws.map T.str),↑(KD wd)]) (g:=λi=>l.getD i .non) (f:=λ_=>.bl true) λi hi=>by
  have hm:l.getD i .non∈l:=by
   rw[Ú,Â hi];exact Ò hi
  have e:=zl8 h hd<|hk _ hm;unfold To
  simp![AV,AS,e,CY _<|sg i,sg i]
 rw[<- em]at lc;have l1:l.length<=100000:=by lia
 have ba:((List.range l.length).map λ_=>true).all id=true:=by simp
 unfold JK RS
 simp![AV,AS,hs,es,l1,lc,Iz,ba]
def DR:kE:=["<","<="]
def zpe:MZ=KD DR:=rfl
def Za:Ij=KD BY:=rfl
def st_tx:Bn DR:=by unfold Bn;decide +kernel
structure RsOk(ws:kE)(rs:List<|Str×kL):Prop where
 l1:1<=rs.length
 l64:rs.length<=64
 nm:∀r∈rs,FG r.1/\1<=r.1.cps.size/\r.1.cps.size<=60
 nd:(rs.map (·.1)).Nodup
 lk:∀r∈rs,BE ws DR r.2/\r.2.length<=1000
abbrev BV(r:Str×kL):T:=.tup [.str r.1,.lst r.2]
abbrev C1(rs:List<|Str×kL):T:=.lst<|rs.map BV
def El{ws:kE}{rs:List<|Str×kL}(h:RsOk ws rs):A6 (rs.map BV)=true:=by
 rw[DV,ã];intro t ht;let(r,hr,rfl):=Ó.mp ht;have:=(h.lk r hr).1.sh;show((!false) && (true && (((!false) && A6 r.2) && true)))=true
 lia
def zly{ws:kE}(hw:Bn ws){rs:List<|Str×kL}(h:RsOk ws rs):N0 [C1 rs,.lst<|ws.map T.str]=↑(.ok .non):=by
 have sr:=El h;have er:=AJ _ sr;have hl1:=h.l1;have hl2:=h.l64;have en:(((rs.map BV).length:Int) == 0)=false:=by rw[ī,Á];lia
 let(Y,e,y,rfl):=FD (b:=AD 2) (body:=OA) (ts:=rs.map BV) (Y:=[↑(C1 rs),↑(.lst<|ws.map T.str),none]) (λi Y=>∃y,Y=[↑(C1 rs),↑(.lst<|ws.map T.str),y]) {_,rfl} λi t Y h1 h2=>by
  let(y,rfl):=h2;let(r,hr,rfl):=Ó.mp<|ç h1;let(n1,n2,n3):=h.nm r hr;let(k1,k2):=h.lk r hr;have e1:=rn_ok n1 n2 n3;have e2:=Sb hw st_tx k2 k1;have e3:=k1.sh;refine{[↑(C1 rs),↑(.lst<|ws.map T.str),↑(BV r)],by simp![],[↑(C1 rs),↑(.lst<|ws.map T.str),↑(BV r)],?_,_,rfl}
  unfold OA
  simp![zpe,Eb,AV,AS,e1,e2,e3,AJ _ e3]
 have lc:=Ig (b:=AD 0) (me:=Ts) (ts:=rs.map BV) (Y:=[none]) (λ_ Y=>∃y,Y=[y]) (λi=>.str ((rs.map (·.1)).getD i Str.empty)) {(none),rfl} λi t Y h1 h2=>by
  let(y,rfl):=h2;have hi:i<rs.length:=by simpa using (Ñ.mp h1).1
  rw[Ë,Â hi]at h1;have et:t=BV rs[i]:=(Ý h1).symm;subst et;have k1:=(h.lk rs[i]<|Ò hi).1.sh;have eg:(rs.map (·.1)).getD i Str.empty=rs[i].1:=by simp[hi]
  refine{[↑(BV rs[i])],by simp![],?_,_,rfl}
  rw[eg];unfold Ts
  simp![k1]
 have em:(List.range (rs.map BV).length).map (λi=>T.str ((rs.map (·.1)).getD i Str.empty))=(rs.map (·.1)).map T.str:=by
  rw[L7 (rs.map (·.1)),Á,Á]
  rfl
 rw[em]at lc;have un:=OL h.nd (by rw[Á];lia)
 have ll:(rs.map BV).length<=100000:=by rw[Á];lia
 unfold N0 RZ
 simp![Dd,AV,AS,sr,er,en,e,lc,un,ll]
abbrev P1:Stmt:=AL 45
def Tu:AH:=
 (AN Kn<|mJ 0 AE)
def Tt:AH:=
 (m2 EH (AA 0)<|AA 1)
def R9:AG:=
 (AF (Ab (BK (Au<|m1 (CH "list")<|AA 0)<|Au<|m1 Fu<|BF 1 [] (Av<|AA 0) (AD 0) (mC<|.bl true) Tu) (AQ<|mC<|.bl false) A8)
 (AQ<|CP (AN JL<|mJ 0 AE)<|m1 Fu<|BF 1 [1] (Av<|AA 0) (AD 0) (mC<|.bl true) Tt))
def N3:kL->Option Ru:=A3 2 2 R9
abbrev bW:=fA 4 2 P1 N3
abbrev zbc:Gm:=gA P1 3 [("is_watch_name",Sr),("are_unlike",Mh)] ["isinstance","list","all"]
theorem zbk:Ck zbc bW P1 R9:={}
def zop{ws ns:kE}(hw:∀x∈ws,JC x)(hn:∀x∈ns,x∈ws)(hd:ns.Nodup)(hl:ns.length<=100):N3 [.lst<|ns.map T.str,.lst<|ws.map T.str]=↑(.ok<|.bl true):=by
 have tw :=λx hx=>LD<|hw x hx
 have mem:∀i,i<ns.length->ns.getD i Str.empty∈ns:=λi hi=>by
  simp_all
 have lc:=Dy (n:=ns.length) (me:=Tu) (x:=none) (cs:=[]) (g:=λi=>.str<|ns.getD i Str.empty) (f:=λ_=>.bl true) λi hi=>by
  unfold Tu
  simp![Ug<|hw _<|hn _<|mem i hi]
 have F6:=Dy (me:=Tt) (x:=none) (cs:=[↑(.lst<|ws.map T.str)]) (g:=λi=>.str<|ns.getD i Str.empty) (f:=λ_=>.bl true) λi hi=>by
  have e:=Im (o:=false) (k:=.lst) tw<|tw _<|hn _<|mem i hi;rw[Ì<|hn _<|mem i hi]at e;unfold Tt
  simp![AV,AS,e]
 rw[<- L7]at lc F6;have l1:ns.length<=100000:=by lia
 have ba:((List.range ns.length).map λ_=>true).all id=true:=by simp
 have un:=OL hd<|by lia
 unfold N3 R9
 simp![AV,AS,Á,lc,F6,l1,Iz,ba,un]
abbrev Oz:Stmt:=AL 37
def ML:AG:=
 (AF (Ab (Au<|m1 (CH "str")<|AA 0) (AQ<|mC<|.bl false) A8)
 (AQ<|BK (m2 BD (AA 0)<|mC<|.str "")<|CP (m2 EH (AK (AA 0)<|m1 Et<|mI 1)<|BZ<|AB (mC<|.str "!")<|AB (mC<|.str "?") AE)<|AN Kp<|AB (DO (Ew (AA 0) none<|↑(m1 Et<|mI 1))<|FU (AA 0) none<|↑(m1 Et<|mI 1)) AE))
def JJ:kL->Option Ru:=A3 1 1 ML
abbrev bI:=fA 3 1 Oz JJ
abbrev ze6:Gm:=gA Oz 2 [("is_name",Su)] ["isinstance","str"]
theorem zeh:Ck ze6 bI Oz ML:={}
def UL(z:Str):Prop:=z=Str.ofString ""\/z=Str.ofString "go!"\/z=Str.ofString "cut!"
def zmt{z:Str}(h:UL z):PyData.strOk z=true:=by
 rcases h with rfl|rfl|rfl<;>decide +kernel
def zmu{z:Str}(h:UL z):JJ [.str z]=↑(.ok<|.bl true):=by
 have o0:PyData.strOk (Str.ofString "")=true:=by decide +kernel
 have sm:∀x:Str,(x.cps.all λc=>decide (97<=c) && decide (c<=122))=true->FG x:=λx hx i hi=>by
  simp_all
 have tl:EH (.str<|Str.mk #[33]) (.tup [.str<|Str.ofString "!",.str<|Str.ofString "?"])=↑(.bl true):=by ext
 have key:∀z y:Str,PyData.strOk z=true->z≠Str.ofString ""->z.length<=100000->AU z.cps.toList (-1)=↑33->Txt.slice z none (↑(-1))=y->FG y->1<=y.cps.size->y.cps.size<=8->JJ [.str z]=↑(.ok<|.bl true):=by
  intro z y hz hne hl ha hs h1 h2 h3;have e:=K3 hz o0;rw[Ù hne]at e;have en:=Yk h1 h2 h3;unfold JJ ML
  simp![e,hl,ha,tl,FU,hs,en,show(-(1:Int))=-1 from rfl]
 rcases h with rfl|rfl|rfl
 .have e:=K3 o0 o0;rw[Ì rfl]at e;unfold JJ ML
  simp![e]
 .exact key _ (Str.ofString "go") (by decide +kernel) (by decide +kernel) (by decide +kernel) (by decide +kernel) (by decide +kernel) (sm _<|by decide +kernel) (by decide +kernel)<|by decide +kernel
 .exact key _ (Str.ofString "cut") (by decide +kernel) (by decide +kernel) (by decide +kernel) (by decide +kernel) (by decide +kernel) (sm _<|by decide +kernel) (by decide +kernel)<|by decide +kernel
abbrev PX:Stmt:=AL 44
def OB:AG:=
 (AF (Ab (Au<|m1 (KL TZ)<|AA 3) (C8 "BadMachine"<|AB (mC<|.str "a machine's doors are doors") AE) A8)
 (AF (Ab (BK (m2 HW (CF BP B0 0<|AA 3)<|AA 1)<|m2 HW (CF BP B0 1<|AA 3)<|AA 1) (C8 "BadMachine"<|AB (mC<|.str "a door leads from one room of the machine to another") AE) A8)
 (AF (Ab (Au<|AN JK<|AB (CF BP B0 2<|AA 3)<|mJ 2<|AB (mC Ij) AE) (C8 "BadMachine"<|AB (mC<|.str "a door's guard is one of the machine's watches") AE) A8)
 (Ab (BK (Au<|AN N3<|AB (CF BP B0 3<|AA 3)<|mJ 2 AE)<|Au<|AN JJ<|AB (CF BP B0 4<|AA 3) AE) (C8 "BadMachine"<|AB (mC<|.str "a door sets watches of the machine, each once, and has at most one sign") AE) A8))))
def R5:AG:=
 (AF (Ab (Au<|m1 (CH "list")<|AA 0) (C8 "BadMachine"<|AB (mC<|.str "a machine's doors are a list") AE) A8)
 (B7 (Av<|AA 0) (AD 3) OB))
def N1:kL->Option Ru:=A3 3 4 R5
abbrev bU:=fA 5 3 PX N1
abbrev zb5:Gx:={ Cv with co:=[("WORDS",Ij)],cl:=[("Door",BP,B0)],ci:=[("Door",TZ)] }
abbrev zbb:Gm:=gA PX 4 [("is_guard",Mg),("are_noughts",bW),("is_sign",bI)] ["isinstance","list"] (ex:=["BadMachine"]) (ox:=zb5)
theorem zbj:Ck zbb bU PX R5:={}
structure Dr where
 s:Str
 e:Str
 g:kL
 n:kE
 z:Str
abbrev kI:=List Dr
abbrev Ad(d:Dr):T:=.obj (.ins BP B0) [.str d.s,.str d.e,.lst d.g,.lst<|d.n.map T.str,.str d.z]
structure DrOk(ws ns:kE)(d:Dr):Prop where
 s:d.s∈ns
 e:d.e∈ns
 g:BE ws BY d.g
 gl:d.g.length<=1000
 n:∀x∈d.n,x∈ws
 nd:d.n.Nodup
 nl:d.n.length<=100
 z:UL d.z
def K4{ws ns:kE}{d:Dr}(h:DrOk ws ns d):(Ad d).sh=true:=by
 have:=h.g.sh
 simp![this,AS]
def Yb{ys:kE}{x:Str}{o:Bool}{k:Kd}(h:Bn ys)(hx:PyData.strOk x=true):HW (.str x) (.nd o k<|ys.map T.str)=↑(.bl<|!decide (x∈ys)):=by
 have e:=Im (o:=o) (k:=k) h hx;unfold EH at e;unfold HW
 lia
def zm0{ws ns:kE}(hw:∀x∈ws,JC x)(hn:Bn ns){ds:kI}(h:∀d∈ds,DrOk ws ns d):N1 [.lst<|ds.map Ad,.lst<|ns.map T.str,.lst<|ws.map T.str]=↑(.ok .non):=by
 have tw:Bn ws:=λx hx=>LD<|hw x hx
 have sd:A6 (ds.map Ad)=true:=by
  rw[DV,ã];intro t ht;let(d,hd,rfl):=Ó.mp ht;exact K4<|h d hd
 have ed:=AJ _ sd
 let(Y,e,y,rfl):=FD (b:=AD 3) (body:=OB) (ts:=ds.map Ad) (Y:=[↑(.lst<|ds.map Ad),↑(.lst<|ns.map T.str),↑(.lst<|ws.map T.str),none]) (λi Y=>∃y,Y=[↑(.lst<|ds.map Ad),↑(.lst<|ns.map T.str),↑(.lst<|ws.map T.str),y]) {_,rfl} λi t Y h1 h2=>by
  let(y,rfl):=h2;let(d,hd,rfl):=Ó.mp<|ç h1;have k:=h d hd;have e1:=Yb (o:=false) (k:=.lst) hn<|hn _ k.s;have e2:=Yb (o:=false) (k:=.lst) hn<|hn _ k.e;rw[Ì k.s]at e1;rw[Ì k.e]at e2;have e3:=Sb tw Nt k.gl k.g;have e4:=zop hw k.n k.nd k.nl;have e5:=zmu k.z;have e6:=k.g.sh;refine{[↑(.lst<|ds.map Ad),↑(.lst<|ns.map T.str),↑(.lst<|ws.map T.str),↑(Ad d)],by simp![],[↑(.lst<|ds.map Ad),↑(.lst<|ns.map T.str),↑(.lst<|ws.map T.str),↑(Ad d)],?_,_,rfl}
  have ld:List.lookup BP TZ=↑true:=by decide +kernel
  unfold OB
  simp![Za,KL,ld,ċ,AV,AS,e1,e2,e3,e4,e5,e6,AJ _ e6]
 unfold N1 R5
 simp![AV,AS,sd,ed,e]
abbrev WD:Stmt:=DN 40 0
def Tv:AH:=
 (AA 0)
def OC:AG:=
 (Jb Ar Ax 1 0 (AA 4)<|m1 Cc<|AA 5)
def Rf:AG:=
 (AF (HS<|AN NZ<|mJ 1 AE)
 (AF (HS<|AN N0<|mJ 2<|mJ 1 AE)
 (AF (HS<|AN N1<|mJ 3<|AB (BF 2 [] (Av<|AA 2) (Ak 2<|AI (AD 0)<|AI (AD 1) Am) (mC<|.bl true) Tv)<|mJ 1 AE)
 (AF (Ab (BK (m2 (BX λi j=>decide (j<i)) (m1 BA<|AA 2)<|mC M1)<|m2 (BX λi j=>decide (j<i)) (m1 BA<|AA 3)<|mC M3) (C8 "TooMany"<|AB (mC<|.str "a machine has at most 64 rooms and at most 200 doors") AE) A8)
 (AF (ES Ar Ax 0 0<|m1 Cc<|AA 1)
 (AF (ES Ar Ax 1 0 MS)
 (AF (B7 (Av<|AA 2) (Ak 2<|AI (AD 4)<|AI (AD 5) Am) OC)
 (ES Ar Ax 2 0<|m1 Cc<|AA 3))))))))
def UP:kL->Option Ru:=Ek Ar Ax 4 6 Rf
abbrev Sy:Fn:={6,["self","watches","rooms","doors"],UP}
abbrev zas:Gx:={ Cv with co:=[("MOST_ROOMS",M1),("MOST_DOORS",M3)],sf:=↑(Ar,Ax) }
abbrev zaw:Gm:=gA WD 5 [("check_watches",bR),("check_rooms",bS),("check_doors",bU)] ["len","list"] (ex:=["TooMany"]) (ox:=zas)
theorem zb1:Ck zaw Sy WD Rf:={}
structure Mc where
 ws:kE
 rs:List (Str×kL)
 ds:kI
abbrev kJ:=List Mc
abbrev EW(M:Mc):T:=.obj (.ins Ar Ax) [.lst<|M.ws.map T.str,.obj (.sdc (M.rs.map (·.1)))<|M.rs.map λr=>.lst r.2,.lst<|M.ds.map Ad]
structure McOk(M:Mc):Prop where
 w:∀x∈M.ws,JC x
 wd:M.ws.Nodup
 wl:M.ws.length<=7
 r:RsOk M.ws M.rs
 d:∀d∈M.ds,DrOk M.ws (M.rs.map (·.1)) d
 dl:M.ds.length<=200
theorem McOk.tw{M:Mc}(h:McOk M):Bn M.ws:=λx hx=>LD<|h.w x hx
theorem McOk.tn{M:Mc}(h:McOk M):Bn (M.rs.map (·.1)):=λx hx=>by
 let(r,hr,rfl):=Ó.mp hx;exact Le (h.r.nm r hr).1
def McOk.sd{M:Mc}(h:McOk M):A6 (M.ds.map Ad)=true:=by
 rw[DV,ã];intro t ht;let(d,hd,rfl):=Ó.mp ht;exact K4<|h.d d hd
def McOk.ss{M:Mc}(h:McOk M):A6 (M.rs.map λr=>T.lst r.2)=true:=by
 rw[DV,ã];intro t ht;let(r,hr,rfl):=Ó.mp ht;show((!false) && A6 r.2)=true;rw[(h.r.lk r hr).1.sh]
 rfl
def McOk.sh{M:Mc}(h:McOk M):(EW M).sh=true:=by
 simp![AS,h.ss,h.sd]
def zl4{M:Mc}(h:McOk M):UP [.lst<|M.ws.map T.str,C1 M.rs,.lst<|M.ds.map Ad]=↑(.ok<|EW M):=by
 have cw:=cw_ok h.w h.wd h.wl;have cr:=zly h.tw h.r;have cd:=zm0 h.w h.tn h.d;have sr:=El h.r;have er:=AJ _ sr;have sd:=h.sd;have ed:=AJ _ sd;have h1:=h.r.l1;have h64:=h.r.l64;have h200:=h.dl
 have lc:=Ig (b:=Ak 2<|AI (AD 0)<|AI (AD 1) Am) (me:=Tv) (ts:=M.rs.map BV) (Y:=[none,none]) (λ_ Y=>∃x y,Y=[x,y]) (λi=>.str ((M.rs.map (·.1)).getD i Str.empty)) {(none),none,rfl} λi t Y h1 h2=>by
  let(x,y,rfl):=h2;have hi:i<M.rs.length:=by simpa using (Ñ.mp h1).1
  rw[Ë,Â hi]at h1;have et:t=BV M.rs[i]:=(Ý h1).symm;subst et;have eg:(M.rs.map (·.1)).getD i Str.empty=M.rs[i].1:=by simp[hi]
  refine{[↑(.str M.rs[i].1),↑(.lst M.rs[i].2)],by simp![],?_,_,_,rfl}
  rw[eg];unfold Tv
  simp![]
 have em:(List.range (M.rs.map BV).length).map (λi=>T.str ((M.rs.map (·.1)).getD i Str.empty))=(M.rs.map (·.1)).map T.str:=by
  rw[L7 (M.rs.map (·.1)),Á,Á]
  rfl
 rw[em]at lc;have ll:(M.rs.map BV).length<=100000:=by rw[Á];lia
 have g1:decide ((64:Int)<((M.rs.map BV).length:Int))=false:=Ù (by rw[Á];lia)
 have g2:decide ((200:Int)<((M.ds.map Ad).length:Int))=false:=Ù (by rw[Á];lia)
 refine WM λp=>?_
 let(Y,e,x,y,rfl):=FD (b:=Ak 2<|AI (AD 4)<|AI (AD 5) Am) (body:=OC) (ts:=M.rs.map BV) (Y:=[↑(.oob p Ar Ax [.own<|M.ws.map T.str,.osd [] []]),↑(.lst<|M.ws.map T.str),↑(C1 M.rs),↑(.lst<|M.ds.map Ad),none,none])
  (λi Y=>∃x y,Y=[↑(.oob p Ar Ax [.own<|M.ws.map T.str,.osd ((M.rs.take i).map (·.1))<|(M.rs.take i).map λr=>.lst r.2]),↑(.lst<|M.ws.map T.str),↑(C1 M.rs),↑(.lst<|M.ds.map Ad),x,y]) {none,none,by rw[List.take_zero];rfl} λi t Y h1 h2=>by
  let(x,y,rfl):=h2;have hi:i<M.rs.length:=by simpa using (Ñ.mp h1).1
  rw[Ë,Â hi]at h1;have et:t=BV M.rs[i]:=(Ý h1).symm;subst et;have k1:=(h.r.lk _<|Ò hi).1.sh
  have hno:M.rs[i].1∉(M.rs.take i).map (·.1):=λhm=>by
   rw[List.map_take]at hm;let(j,hj,ej):=Ű.mp hm;rw[Č,Á]at hj;have hnd:=h.r.nd;rw[List.getElem_take]at ej;have e2:(M.rs.map (·.1))[j]'(by rw[Á];lia)=(M.rs.map (·.1))[i]'(by rw[Á];exact hi):=by rw[ej,Ε]
   have:=(ğ hnd).mp e2
   lia
  have hlen:((M.rs.take i).map (·.1)).length<100000:=by
   rw[Á,Č]
   lia
  have et2:M.rs.take (i+1)=M.rs.take i++[M.rs[i]]:=by rw[ţ]
  refine{[↑(.oob p Ar Ax [.own<|M.ws.map T.str,.osd ((M.rs.take i).map (·.1))<|(M.rs.take i).map λr=>.lst r.2]),↑(.lst<|M.ws.map T.str),↑(C1 M.rs),↑(.lst<|M.ds.map Ad),↑(.str M.rs[i].1),↑(.lst M.rs[i].2)],by simp![],[↑(.oob p Ar Ax [.own<|M.ws.map T.str,.osd ((M.rs.take<|i+1).map (·.1))<|(M.rs.take<|i+1).map λr=>.lst r.2]),↑(.lst<|M.ws.map T.str),↑(C1 M.rs),↑(.lst<|M.ds.map Ad),↑(.str M.rs[i].1),↑(.lst M.rs[i].2)],?_,_,_,rfl}
  rw[et2,è,è];unfold OC
  simp![k1,AJ _ k1,hno,hlen]
 rw[Á,Ζ]at e;have es:=AJ _ h.ss;unfold Gg Rf M1 M3
 simp![AV,AS,cw,cr,cd,sr,er,sd,ed,lc,ll,g1,g2,e,es]
def aL{α A:Type}{b:T->AM->Option AM}{body:AG}(f:α->T)(S:List A->AM->Prop)(g:α->List A)(N:Nat):∀(L:List α) (a:List A) (Y:AM),S a Y->a.length+(L.flatMap g).length<=N->(∀x∈L,∀a Y,S a Y->a.length+(g x).length<=N->∃τ1,b (f x) Y=↑τ1/\∃τ2,body τ1=↑(.nx τ2)/\S (a++g x) τ2)->∃Y',Aj b body (L.map f) Y=↑(.nx Y')/\S (a++L.flatMap g) Y'
 |[],a,Y,h,_,_=>{Y,rfl,by simp_all}|x::L,a,Y,h,hN,hs=>by
  rw[List.flatMap_cons,à]at hN;let(τ1,e1,τ2,e2,h2):=hs x (Í ..) a Y h<|by lia
  let(Y',e,h'):=aL f S g N L (a++g x) τ2 h2 (by rw[à];lia) λy hy=>hs y<|É _ hy
  refine{Y',?_,by simp_all}
  rw[Ï];unfold Aj
  lia
def EO{α:Type}{f:α->T}{L:List α}(h:∀x∈L,(f x).sh=true):A6 (L.map f)=true:=by
 rw[DV,ã];intro t ht;let(x,hx,rfl):=Ó.mp ht;exact h x hx
def sq{f g:AG}{Y Y':AM}{r:Option Out}(h:f Y=↑(.nx Y'))(h2:g Y'=r):AF f g Y=r:=by
 unfold AF
 lia
def Z1{α:Type}{b:T->AM->Option AM}{mt me:AH}(f g:α->T)(p:α->Bool)(I:AM->Prop):∀(L:List α) (Y:AM),I Y->(∀x∈L,∀Y,I Y->∃τ1 bb,b (f x) Y=↑τ1/\mt τ1=↑(.v (.bl<|p x) bb)/\(p x=true->me τ1=↑(.v (g x) false))/\I τ1)->B8 b mt me (L.map f) Y=↑((L.filter p).map g)
 |[],_,_,_=>rfl|x::L,Y,h,hs=>by
  let(τ1,bb,e1,e2,e3,h1):=hs x (Í ..) Y h;have k:=Z1 f g p I L τ1 h1 λu hu=>hs u<|É _ hu
  rw[Ï,List.filter_cons];unfold B8;cases hp:p x with
  |true=>simp_all|false=>lia
def zou{α:Type}(l:List α)(hl:l≠[])(i:Int):∃x∈l,AU l (i.fmod (l.length:Int))=↑x:=by
 have hp:0<l.length:=List.length_pos_iff.mpr hl;have h0:=û i<|show(0:Int)<(l.length:Int) by lia
 have h1:=ĉ i<|show(0:Int)<(l.length:Int) by lia
 have h2:(i.fmod (l.length:Int)).toNat<l.length:=by lia
 exact{l[(i.fmod (l.length:Int)).toNat],Ò h2,Ho h0<|Â h2}
def Mz{α:Type}(f:α->T){l:List α}{i:Int}{x:α}(h:AU l i=↑x):AU (l.map f) i=↑(f x):=by
 unfold AU at h ⊢;cases hi:Bw l.length i with
 |none=>simp_all|some j=>simp_all
def zp2{α:Type}{l:List α}(h:l≠[]):((l.length:Nat):Int)≠0:=λz=>h<|List.length_eq_zero_iff.mp<|Int.ofNat.inj z
def TU:PyData.strOk (Str.ofString "")=true:=by decide +kernel
def Ap(M:Mc):T:=EW M
def FT{M:Mc}(h:McOk M):(Ap M).sh=true:=h.sh
def G9{f g:AG}{Y:AM}{r:Option Out}(h:f Y=↑(.nx Y))(h2:g Y=r):AF f g Y=r:=sq h h2
def sr{f g:AG}{Y:AM}{t:T}(h:f Y=↑(.rt t)):AF f g Y=↑(.rt t):=by
 unfold AF;rw[h]
def Jr(M:Mc):DP Ar Ax (Ap M)=↑[.lst<|M.ws.map T.str,.obj (.sdc (M.rs.map (·.1)))<|M.rs.map λr=>.lst r.2,.lst<|M.ds.map Ad]:=(show DP Ar Ax (EW M)=(if Ar=Ar/\Ax=Ax then ↑[.lst<|M.ws.map T.str,.obj (.sdc (M.rs.map (·.1)))<|M.rs.map λr=>.lst r.2,.lst<|M.ds.map Ad] else none) from rfl).trans (if_pos {(rfl),rfl})
abbrev Og:Stmt:=AL 38
def RC:AG:=
 (AQ<|EF (m1 (CH "list")<|AA 0) (m1 Cc<|AA 0)<|AA 0)
def Km:kL->Option Ru:=A3 1 1 RC
abbrev aV:=fA 1 1 Og Km
abbrev zd7:Gm:=gA Og 0 [] ["isinstance","list"]
theorem zdi:Ck zd7 aV Og RC:={}
def XH(l:kL)(h:A6 l=true):Km [.lst l]=↑(.ok<|.own l):=by
 unfold Km RC
 simp![h,AJ _ h]
abbrev WE:Stmt:=DN 39 0
def Rz:AG:=
 (AF (ES BP B0 0 0<|AA 1)
 (AF (ES BP B0 1 0<|AA 2)
 (AF (ES BP B0 2 0<|AN Km<|mJ 3 AE)
 (AF (ES BP B0 3 0<|AN Km<|mJ 4 AE)
 (ES BP B0 4 0<|AA 5)))))
def UQ:kL->Option Ru:=Ek BP B0 6 6 Rz
abbrev TK:Fn:={2,["self","start","end","guard","noughts","sign"],UQ}
abbrev zc6:Gx:={ Cv with sf:=↑(BP,B0) }
abbrev zcj:Gm:=gA WE 1 [("own_copy",aV)] [] (ox:=zc6)
theorem zcx:Ck zcj TK WE Rz:={}
def di_ok{ws ns:kE}{d:Dr}(h:DrOk ws ns d):UQ [.str d.s,.str d.e,.lst d.g,.lst<|d.n.map T.str,.str d.z]=↑(.ok<|Ad d):=by
 have hg:=h.g.sh;have e1:=XH d.g hg;have e2:=XH (d.n.map T.str)<|AS _;refine WM λp=>?_
 unfold Gg Rz
 simp![e1,e2,hg,AJ _ hg,AV,AS]
abbrev Po:Stmt:=AL 75
def OF:AG:=
 (Co 1<|Ic UQ []<|AB (AK (AK (AA 3)<|AA 5)<|mI 0)<|AB (AK (AK (AA 3)<|AA 6)<|mI 0)<|AB (m1 Cc<|AA 7)<|AB (m1 Cc<|AA 8)<|mJ 9 AE)
def UA:AH:=
 (BZ<|mJ 0<|AB (m1 Cc<|AA 1) AE)
def Ro:AG:=
 (AF (AO (AA 0)<|Ak 3<|AI (AD 2)<|AI (AD 3)<|AI (AD 4) Am)
 (AF (C0 1<|BH AE)
 (AF (B7 (Av<|AA 4) (Ak 5<|AI (AD 5)<|AI (AD 6)<|AI (AD 7)<|AI (AD 8)<|AI (AD 9) Am) OF)
 (AF (E9 1)<|AQ<|Ic UP []<|AB (m1 Cc<|AA 2)<|AB (BF 2 [] (Av<|AA 3) (Ak 2<|AI (AD 0)<|AI (AD 1) Am) (mC<|.bl true) UA)<|mJ 1 AE))))
def Kw:kL->Option Ru:=A3 1 10 Ro
abbrev cA:=fA 8 1 Po Kw
abbrev zhy:Gx:={ Cv with nw:=[("Door",TK,[(5,[])]),("Machine",Sy,[(3,[])])] }
abbrev zi8:Gm:=gA Po 7 [] ["list"] ["_law_built"] (ox:=zhy) (N:=["_law_spec","_law_built","_law_watches","_law_rooms","_law_doors","_law_begin","_law_end","_law_guard_here","_law_noughts","_law_sign"])
theorem zin:Ck zi8 cA Po Ro:={}
structure Sd where
 b:Nat
 e:Nat
 g:kL
 n:kE
 z:Str
abbrev BJ(d:Sd):T:=.tup [.int (d.b:Int),.int (d.e:Int),.lst d.g,.lst<|d.n.map T.str,.str d.z]
abbrev Ay(ws:kE)(rs:List<|Str×kL)(dd:List Sd):T:=.tup [.lst<|ws.map T.str,C1 rs,.lst<|dd.map BJ]
def De(rs:List<|Str×kL)(d:Sd):Dr:={(rs.getD d.b (Str.empty,[])).1,(rs.getD d.e (Str.empty,[])).1,d.g,d.n,d.z}
structure SpOk(ws:kE)(rs:List<|Str×kL)(dd:List Sd):Prop where
 r:RsOk ws rs
 b:∀d∈dd,d.b<rs.length/\d.e<rs.length
 d:∀d∈dd,DrOk ws (rs.map (·.1)) (De rs d)
 l:dd.length<=100
def SpOk.sd{ws:kE}{rs:List<|Str×kL}{dd:List Sd}(h:SpOk ws rs dd):A6 (dd.map BJ)=true:=by
 rw[DV,ã];intro t ht;let(d,hd,rfl):=Ó.mp ht;have hg:A6 d.g=true:=(h.d d hd).g.sh
 simp![hg,AS]
def Je{rs:List<|Str×kL}{i:Nat}(h:i<rs.length):AU (rs.map BV) (i:Int)=↑(.tup [.str (rs.getD i (Str.empty,[])).1,.lst (rs.getD i (Str.empty,[])).2]):=CU (by
 rw[Ë,Ú,Â h]
 rfl)
def made_ok{ws:kE}{rs:List<|Str×kL}{dd:List Sd}(h:SpOk ws rs dd)(hm:McOk {ws,rs,dd.map<|De rs}):Kw [Ay ws rs dd]=↑(.ok<|EW {ws,rs,dd.map<|De rs}):=by
 have sr:=El h.r;have er:=AJ _ sr;have sd:=h.sd;have ed:=AJ _ sd;have hl:=h.l
 let(Y,e,x5,x6,x7,x8,x9,rfl):=FD (b:=Ak 5<|AI (AD 5)<|AI (AD 6)<|AI (AD 7)<|AI (AD 8)<|AI (AD 9) Am) (body:=OF) (ts:=dd.map BJ) (Y:=[↑(Ay ws rs dd),↑(.own []),↑(.lst<|ws.map T.str),↑(C1 rs),↑(.lst<|dd.map BJ),none,none,none,none,none])
  (λi Y=>∃x5 x6 x7 x8 x9,Y=[↑(Ay ws rs dd),↑(.own<|((dd.take i).map (De rs)).map Ad),↑(.lst<|ws.map T.str),↑(C1 rs),↑(.lst<|dd.map BJ),x5,x6,x7,x8,x9]) {none,none,none,none,none,by rw[List.take_zero];rfl} λi t Y h1 h2=>by
  let(x5,x6,x7,x8,x9,rfl):=h2;have hi:i<dd.length:=by simpa using (Ñ.mp h1).1
  rw[Ë,Â hi]at h1;have et:t=BJ dd[i]:=(Ý h1).symm;subst et;have hb:=h.b _<|Ò hi;have hd:=h.d _<|Ò hi;have k1:=Je hb.1;have k2:=Je hb.2;have k3:=di_ok hd;have hg:A6 dd[i].g=true:=hd.g.sh
  have hr:∀j,A6 (rs.getD j (Str.empty,[])).2=true:=λj=>by
   by_cases hj:j<rs.length
   .rw[Ú,Â hj];exact(h.r.lk _<|Ò hj).1.sh
   .rw[Ú,ÿ<|by lia]
    rfl
  have ll:(((dd.take i).map (De rs)).map Ad).length<100000:=by
   rw[Á,Á,Č]
   lia
  have et2:dd.take (i+1)=dd.take i++[dd[i]]:=by rw[ţ]
  refine{[↑(Ay ws rs dd),↑(.own<|((dd.take i).map (De rs)).map Ad),↑(.lst<|ws.map T.str),↑(C1 rs),↑(.lst<|dd.map BJ),↑(.int (dd[i].b:Int)),↑(.int (dd[i].e:Int)),↑(.lst dd[i].g),↑(.lst<|dd[i].n.map T.str),↑(.str dd[i].z)],by simp![],[↑(Ay ws rs dd),↑(.own<|((dd.take<|i+1).map (De rs)).map Ad),↑(.lst<|ws.map T.str),↑(C1 rs),↑(.lst<|dd.map BJ),↑(.int (dd[i].b:Int)),↑(.int (dd[i].e:Int)),↑(.lst dd[i].g),↑(.lst<|dd[i].n.map T.str),↑(.str dd[i].z)],?_,_,_,_,_,_,rfl}
  rw[et2,è,è];unfold De at k3;unfold OF
  simp![sr,k1,k2,hr,hg,AJ _ hg,AV,AS,k3,ll]
  rfl
 rw[Á,Ζ]at e
 have lc:=Ig (b:=Ak 2<|AI (AD 0)<|AI (AD 1) Am) (me:=UA) (ts:=rs.map BV) (Y:=[none,none]) (λ_ Y=>∃x y,Y=[x,y]) (λi=>BV<|rs.getD i (Str.empty,[])) {(none),none,rfl} λi t Y h1 h2=>by
  let(x,y,rfl):=h2;have hi:i<rs.length:=by simpa using (Ñ.mp h1).1
  rw[Ë,Â hi]at h1;have et:t=BV rs[i]:=(Ý h1).symm;subst et;have k1:=(h.r.lk _<|Ò hi).1.sh;have eg:rs.getD i (Str.empty,[])=rs[i]:=by simp[hi]
  refine{[↑(.str rs[i].1),↑(.lst rs[i].2)],by simp![],?_,_,_,rfl}
  rw[eg];unfold UA
  simp![k1,AJ _ k1]
 have em:(List.range (rs.map BV).length).map (λi=>BV<|rs.getD i (Str.empty,[]))=rs.map BV:=by
  rw[Á];refine(Du (n:=rs.length) (g:=λi=>BV<|rs.getD i (Str.empty,[])) (by rw[Á]) λi hi=>?_).symm
  rw[Ë,Ú,Â hi]
  rfl
 rw[em]at lc
 have ll:(rs.map BV).length<=100000:=by
  have:=h.r.l64;rw[Á]
  lia
 have mi:=zl4 hm;have s2:=hm.sd;have e2:=AJ _ s2;unfold Kw Ro
 simp![AV,AS,sr,er,sd,ed,e,s2,e2,lc,ll,mi]
abbrev Pn:Stmt:=AL 69
def Tz:AH:=
 (AK (AA 2)<|m2 BB (m2 Bd (AA 1)<|m2 Al (mI 6720)<|m2 Bm (mI 31)<|AA 0)<|mI 26)
def LP:AG:=
 (AF (C0 7<|BF 1 [0,2] (CI<|mJ 3 AE) (AD 0) (mC<|.bl true) Tz)
 (AF (Gd 7 (AA 4)<|AK (AA 2)<|m2 BB (m2 Al (m2 Bd (AA 0)<|mI 6720)<|AA 6)<|mI 26)
 (Co 5<|Jv (mC<|.str "")<|AA 7)))
def Rn:AG:=
 (AF (AO (mC<|.str "abcdefghijklmnopqrstuvwxyz")<|AD 2)
 (AF (AO (m2 Al (mI 1)<|m2 BB (AA 0)<|mI 8)<|AD 3)
 (AF (AO (m2 BB (m2 BB (m2 Bd (AA 0)<|mI 8)<|mI 840)<|AA 3)<|AD 4)
 (AF (C0 5<|BH AE)
 (AF (B7 (CI<|mJ 1 AE) (AD 6) LP)
 (AQ<|AA 5))))))
def Kv:kL->Option Ru:=A3 2 8 Rn
abbrev b9:=fA 1 2 Pn Kv
abbrev zfo:Gm:=gA Pn 0 [] ["range"] ["_law_word","_law_names_here"]
theorem zg3:Ck zfo b9 Pn Rn:={}
def Ce(c:Int):Nat:=(1+c.fmod 8).toNat
def Gn(c:Int):Nat:=(((c.fdiv 8).fmod 840).fmod (1+c.fmod 8)).toNat
def Jo(c:Int):1<=Ce c/\Ce c<=8/\(1+c.fmod 8)=(Ce c:Int)/\((c.fdiv 8).fmod 840).fmod (1+c.fmod 8)=(Gn c:Int)/\Gn c<Ce c:=by
 have h1:=û c<|show(0:Int)<8 by decide
 have h3:=ĉ c<|show(0:Int)<8 by decide
 have h4:0<1+c.fmod 8:=by lia
 have h2:=û ((c.fdiv 8).fmod 840) h4;have h5:=ĉ ((c.fdiv 8).fmod 840) h4;unfold Ce Gn;change ((c.fdiv 8).fmod 840).fmod (1+c.fmod 8)=b;change c.fmod 8=a;refine{?_,?_,?_,?_,?_}<;>lia
def Hb(c:Int)(j:Nat):Int:=(c.fdiv<|6720+31 * (j:Int)).fmod 26
def GK(c:Int)(k:Nat):Int:=(c.fdiv 6720+(k:Int)).fmod 26
def FX(c:Int)(k j:Nat):Nat:=if j=Gn c then 97+(GK c k).toNat else 97+(Hb c j).toNat
def Ca(c:Int)(k:Nat):Str:={((List.range<|Ce c).map (FX c k)).toArray}
def Ha(c:Int)(k j:Nat):(0<=Hb c j/\Hb c j<26)/\0<=GK c k/\GK c k<26:={{û _ (by decide),ĉ _<|by decide},û _ (by decide),ĉ _<|by decide}
def abc:(Str.ofString "abcdefghijklmnopqrstuvwxyz").cps.toList=(List.range 26).map (97 + ·):=by rfl
def fJ{i:Int}(h0:0<=i)(h1:i<26):AU (Str.ofString "abcdefghijklmnopqrstuvwxyz").cps.toList i=↑(97+i.toNat):=by
 rw[abc];refine Ho h0 ?_;rw[Ë,ų<|by lia]
 rfl
def fI:(Str.ofString "abcdefghijklmnopqrstuvwxyz").length<=100000:=by decide +kernel
def Zd:∀cs:kG,Str.join (Str.ofString "") (cs.map λc=>{#[c]})={(cs.toArray)}
 |[]=>rfl|[c]=>rfl|c::d::r=>by
  have ih:=Zd<|d::r;rw[Ï]at ih;show Str.mk #[c]++Str.ofString ""++Str.join (Str.ofString "") ({#[d]}::r.map λc=>{#[c]})=_
  rw[ih];have e0:(Str.ofString "").cps=#[]:=by rfl
  show Str.mk ((#[c]++(Str.ofString "").cps)++(d::r).toArray)=Str.mk _;rw[e0];simp
def zhr(cs:kG):Txt.join (Str.ofString "") (cs.map λc=>{#[c]})={(cs.toArray)}:=(eq_of_beq<|PyProof.Rows.join_plain_closes _ _).trans (Zd cs)
def Qj(c:Int)(k:Nat):(Ca c k).cps.size=Ce c:=by
 unfold Ca;simp
def Yl{c:Int}{k i:Nat}(h:i<Ce c):(Ca c k).cps.getD i 0=FX c k i:=by
 unfold Ca
 simp_all
theorem Yj(c:Int)(k:Nat):FG<|Ca c k:=λi hi=>by
 rw[Qj]at hi;rw[Yl hi];let(h1,h2):=Ha c k i;unfold FX
 lia
def zos{c:Int}{j k:Nat}(hj:j<20)(hk:k<20)(h:Ca c j=Ca c k):j=k:=by
 let(n1,n8,ne,na,nl):=Jo c;have e:=congrArg (λs:Str=>s.cps.getD (Gn c) 0) h
 erw[Yl nl]at e;unfold FX at e;have s1:=(Ha c j 0).2;have s2:=(Ha c k 0).2;have e2:GK c j=GK c k:=by lia
 unfold GK at e2
 lia
def w5_ok{c:Int}{k m:Nat}(hk:k<20){l:kL}(hl:l.length<1000){x7:kH}:∃y7,LP [↑(.int c),↑(.int m),↑(.str "abcdefghijklmnopqrstuvwxyz"),↑(.int<|1+c.fmod 8),↑(.int<|((c.fdiv 8).fmod 840).fmod (1+c.fmod 8)),↑(.own l),↑(.int k),x7]
  = ↑(.nx [↑(.int c),↑(.int m),↑(.str "abcdefghijklmnopqrstuvwxyz"),↑(.int<|1+c.fmod 8),↑(.int<|((c.fdiv 8).fmod 840).fmod (1+c.fmod 8)),↑(.own<|l++[.str<|Ca c k]),↑(.int k),y7]):=by
 let(n1,n8,ne,na,nl):=Jo c
 have lc:=Dy (n:=Ce c) (me:=Tz) (x:=none) (cs:=[↑(.int c),↑(.str "abcdefghijklmnopqrstuvwxyz")]) (g:=λi=>.int (i:Int)) (f:=λj=>.str {#[97+(Hb c j).toNat]}) λj hj=>by
  have m1:Bs 31 (j:Int)=true:=HY<|DE (by decide)<|by decide
  have n0:(6720+31 * (j:Int)=0)=False:=ē<|by lia
  have s0:Bk (6720+31 * (j:Int))=true:=CN (by lia)<|by lia
  have ea:AU (Str.ofString "abcdefghijklmnopqrstuvwxyz").cps.toList ((c.fdiv<|6720+31 * (j:Int)).fmod 26)=↑(97+(Hb c j).toNat):=fJ (Ha c 0 j).1.1 (Ha c 0 j).1.2;unfold Tz
  simp![m1,n0,s0,ea,fI]
 have ok:CB (1+c.fmod 8)=true:=@decide_eq_true _ (Classical.propDecidable _) {by lia,by lia}
 have er:Bl 0 (1+c.fmod 8).toNat=mT (Ce c) λi=>.int (i:Int):=C9
 have eb:AU (Str.ofString "abcdefghijklmnopqrstuvwxyz").cps.toList ((c.fdiv 6720+(k:Int)).fmod 26)=↑(97+(GK c k).toNat):=fJ (Ha c k 0).2.1 (Ha c k 0).2.2;have s1:Bk 6720=true:=CN (by decide)<|by decide
 have l8:Ce c<=100000:=by lia
 have ex:Bw (Ce c) (((c.fdiv 8).fmod 840).fmod (1+c.fmod 8))=↑(Gn c):=by
  rw[na];unfold Bw;rw[if_pos (by lia),if_pos (by lia),î]
 have es:Dz (mT (Ce c) λj=>if j=Gn c then T.str {#[97+(GK c k).toNat]} else .str {#[97+(Hb c j).toNat]})=↑(((List.range<|Ce c).map (FX c k)).map λc=>{#[c]}):=by
  rw[<- IE,ý,ý];refine congrArg Dz ?_;unfold mT;refine İ λj hj=>?_
  show _=T.str {#[FX c k j]};unfold FX;split<;>rfl
 have ej:=zhr<|(List.range<|Ce c).map (FX c k)
 have esum:(((((List.range<|Ce c).map (FX c k)).map λc=>Str.mk #[c])).map (·.length)).sum+((((List.range<|Ce c).map (FX c k)).map λc=>Str.mk #[c])).length * (Str.ofString "").length<=100000:=by
  have e0:(Str.ofString "").length=0:=by decide +kernel
  rw[e0,Nat.mul_zero,Nat.add_zero,ý]
  have:∀l:kG,(l.map ((·.length) ∘ λc=>Str.mk #[c])).sum=l.length:=by
   intro l
   induction l with
   |nil=>rfl|cons a r ih=>rw[Ï,œ,ih,Ø];show 1+r.length=r.length+1;lia
  rw[this];simp
  lia
 have ll:l.length<100000:=by lia
 have exq:Str.mk ((List.range<|Ce c).map (FX c k)).toArray=Ca c k:=rfl;unfold LP;refine{↑(.own (mT (Ce c) λj=>if j=Gn c then T.str {#[97+(GK c k).toNat]} else .str {#[97+(Hb c j).toNat]})),?_}
 simp![ok,er,lc,l8,eb,s1,fI,ex,Ia,Jv,es,esum,ej,ll,exq]
def Yo(c:Int){m:Nat}(hm:m<20):Kv [.int c,.int m]=↑(.ok<|.own<|mT m λk=>.str<|Ca c k):=by
 let(Y,e,z6,z7,rfl):=FD (b:=AD 6) (body:=LP) (ts:=mT m λi=>.int (i:Int)) (Y:=[↑(.int c),↑(.int m),↑(.str "abcdefghijklmnopqrstuvwxyz"),↑(.int<|1+c.fmod 8),↑(.int<|((c.fdiv 8).fmod 840).fmod (1+c.fmod 8)),↑(.own []),none,none])
  (λi Y=>∃x6 x7,Y=[↑(.int c),↑(.int m),↑(.str "abcdefghijklmnopqrstuvwxyz"),↑(.int<|1+c.fmod 8),↑(.int<|((c.fdiv 8).fmod 840).fmod (1+c.fmod 8)),↑(.own<|mT i λk=>.str<|Ca c k),x6,x7]) {none,none,by rfl} λi t Y h1 h2=>by
   let(hi,rfl):=Gq h1;let(x6,x7,rfl):=h2;let(y7,ew):=w5_ok (c:=c) (k:=i) (m:=m) (by lia) (l:=mT i λk=>.str<|Ca c k) (by rw[BO];lia) (x7:=x7)
   rw[Ib (g:=λk=>.str<|Ca c k)]at ew
   exact{_,by simp![],_,ew,_,_,rfl}
 rw[BO]at e;have ok:CB (m:Int)=true:=@decide_eq_true _ (Classical.propDecidable _) {by lia,by lia}
 have er:Bl 0 m=mT m λi=>.int (i:Int):=C9
 have h0:(1+c.fmod 8=0)=False:=ē<|by lia
 have s1:Bk 8=true:=CN (by decide)<|by decide
 unfold Kv Rn
 simp![ok,er,e,h0,s1]
abbrev Pc:Stmt:=AL 68
def OE:AG:=
 (AF (Co 2<|m2 BB (AA 5)<|m2 Ea (mI 10)<|mI 45)
 (AO (m2 Bd (AA 5)<|m2 Ea (mI 10)<|mI 45)<|AD 5))
def OD:AG:=
 (AF (AO (m2 BB (m2 Al (m2 Al (m2 Bm (AA 3)<|AA 3)<|m2 Bm (mI 48271)<|AA 3)<|AA 4)<|m2 Al (m2 Ea (mI 10)<|mI 18)<|mI 9)<|AD 3)
 (Co 2<|AA 3))
def MN:AG:=
 (AF (C0 2<|BH AE)
 (AF (Ab (m2 (BX λi j=>decide (j<=i)) (AA 0)<|m2 Ea (mI 10)<|mI 30) (AF (AO (m2 E8 (AA 0)<|m2 Ea (mI 10)<|mI 30)<|AD 5)
 (AF (B7 (CI<|mJ 1 AE) (AD 4) OE)
 (AQ<|AA 2))) A8)
 (AF (AO (m2 Al (m2 BB (AA 0)<|m2 Al (m2 Ea (mI 10)<|mI 18)<|mI 9)<|mI 48271)<|AD 3)
 (AF (B7 (CI<|AB (m2 Al (AA 1)<|mI 2) AE) (AD 4) OD)
 (AF (E9 2)<|AQ<|DO (Ew (AA 2) (↑(mI 2)) none)<|FU (AA 2) (↑(mI 2)) none)))))
def FH:kL->Option Ru:=A3 2 6 MN
abbrev KZ:=fA 1 2 Pc FH
abbrev zeb:Gm:=gA Pc 0 [] ["range"] ["_law_found"] (N:=["_law_cell","_law_many","_law_found","_law_number_here","_law_k","_law_rest"])
theorem zem:Ck zeb KZ Pc MN:={}
def Lb(c:Int){m:Nat}(hm:m<=1000):∃xs:Nat->Int,FH [.int c,.int m]=↑(.ok<|.own<|mT m λi=>.int<|xs i):=by
 have p30:(0:Int)<=30/\(30:Int)<=1000000/\DW 10=true:={by decide,by decide,DE (by decide)<|by decide}
 have p45:(0:Int)<=45/\(45:Int)<=1000000/\DW 10=true:={by decide,by decide,DE (by decide)<|by decide}
 have p18:(0:Int)<=18/\(18:Int)<=1000000/\DW 10=true:={by decide,by decide,DE (by decide)<|by decide}
 have s45:Bk (10 ^ 45)=true:=CN (by decide)<|by decide
 have z45:((10:Int) ^ 45≠0)=True:=by simp
 have z18:((10:Int) ^ 18+9≠0)=True:=by simp
 have r45:(45:Int).toNat=45:=rfl;have r30:(30:Int).toNat=30:=rfl;have r18:(18:Int).toNat=18:=rfl
 by_cases h:(10:Int) ^ 30<=c
 .have loop:=KW (b:=AD 4) (body:=OE) (n:=m) (g:=λi=>.int (i:Int)) (Y:=[↑(.int c),↑(.int m),↑(.own []),none,none,↑(.int<|c - 10 ^ 30)])
   (λi Y=>∃(xs:Nat->Int) (x:kH) (r:Int),Y=[↑(.int c),↑(.int m),↑(.own<|mT i λi=>.int<|xs i),none,x,↑(.int r)])
   {λ_=>0,none,_,rfl} (by
    rintro i Y hi ⟨xs,x,r,rfl⟩;refine{_,by simp![];rfl,?_}
    have l1:i<100000:=by lia
    refine{_,by unfold OE;simp![p45,s45,z45,r45,l1];rfl,λj=>if j=i then r.fmod (10 ^ 45) else xs j,↑(.int (i:Int)),r.fdiv<|10 ^ 45,?_}
    rw[ZC T.int])
  let(Y',e1,xs,x,r,rfl):=loop;refine{xs,?_};have o1:CB (m:Int)=true:=EV<|by lia
  unfold FH MN
  simp![p30,r30,h,o1,C9,e1]
 .have loop:=KW (b:=AD 4) (body:=OD) (n:=m+2) (g:=λi=>.int (i:Int)) (Y:=[↑(.int c),↑(.int m),↑(.own []),↑(.int<|c.fmod (10 ^ 18+9)+48271),none,none])
   (λi Y=>∃(xs:Nat->Int) (x:kH) (r:Int),0<=r/\r<2 * 10 ^ 18/\Y=[↑(.int c),↑(.int m),↑(.own<|mT i λi=>.int<|xs i),↑(.int r),x,none])
   {λ_=>0,none,_,by rw[fm<|by decide];lia,by rw[fm<|by decide];lia,rfl} (by
    rintro i Y hi ⟨xs,x,r,r0,r1,rfl⟩;refine{_,by simp![];rfl,?_}
    have l1:i<100000:=by lia
    have m1:Bs r r=true:=zl1 (CN (by lia)<|by lia)<|CN (by lia)<|by lia
    have m2:Bs 48271 r=true:=HY<|DE (by decide)<|by decide
    refine{_,by unfold OD;simp![p18,z18,r18,l1,m1,m2];rfl,λj=>if j=i then (r * r+48271 * r+i).fmod (10 ^ 18+9) else xs j,↑(.int (i:Int)),(r * r+48271 * r+i).fmod (10 ^ 18+9),by rw[fm<|by decide];lia,by rw[fm<|by decide];lia,?_}
    rw[ZC T.int])
  obtain⟨Y',e1,xs,x,r,-,-,rfl⟩:=loop;refine{λi=>xs<|i+2,?_}
  have o1:CB ((m:Int)+2)=true:=EV (n:=m+2)<|by lia
  have o2:((m:Int)+2).toNat=m+2:=by lia
  have ct:BW (mT (m+2) λi=>.int<|xs i) ↑2 none=mT m λi=>.int<|xs<|i+2:=by
   unfold BW;have e2:HT.sIx (mT (m+2) λi=>T.int<|xs i).length 0 ↑2=2:=by rw[BO];simp[HT.sIx]
   have e3:HT.sIx (mT (m+2) λi=>T.int<|xs i).length (mT (m+2) λi=>T.int<|xs i).length none=m+2:=by rw[BO];rfl
   rw[e2,e3];refine Du (by simp[BO]) λi hi=>?_
   rw[Ţ (by lia),ĳ,ED (by lia),Ŗ]
  unfold FH MN
  simp![p30,r30,h,p18,r18,z18,o1,o2,C9,e1,ct]
abbrev Pl:Stmt:=AL 70
def IY:AG:=
 (AQ<|m2 Al (m2 Bm (AA 1)<|m2 BB (AA 0)<|mI 7)<|AK (BH<|Ai (mI 0)<|Ai (mI 0)<|Ai (mI 0)<|Ai (m2 Al (mI 1)<|m2 BB (m2 Bd (AA 0)<|mI 28)<|mI 3) AE)<|m2 BB (m2 Bd (AA 0)<|mI 7)<|mI 4)
def HG:kL->Option Ru:=A3 2 2 IY
abbrev TF:=fA 1 2 Pl HG
abbrev zec:Gm:=gA Pl 0 [] []
theorem zen:Ck zec TF Pl IY:={}
def Y7(x u:Int)(hu:0<=u):∃n,0<=n/\HG [.int x,.int u]=↑(.ok<|.int n):=by
 have h7:0<=x.fmod 7/\x.fmod 7<7:=by
  rw[fm<|by decide]
  lia
 have h3:0<=(x.fdiv 28).fmod 3:=by
  rw[fm (j:=3)<|by decide]
  lia
 have m1:Bs u (x.fmod 7)=true:=Eu<|DE (by lia)<|by lia
 have s28:Bk 28=true:=CN (by decide)<|by decide
 have s7:Bk 7=true:=CN (by decide)<|by decide
 have p0:0<=u * x.fmod 7:=ő hu h7.1
 have a3:∀{x y z v:T} {l:kL},AU (x::y::z::v::l) (3:Int)=↑v:=by
  intro x y z v l;have:AU (x::y::z::v::l) ((3:Nat):Int)=↑v:=CU rfl;exact this
 have h4:(x.fdiv 7).fmod 4=0\/(x.fdiv 7).fmod 4=1\/(x.fdiv 7).fmod 4=2\/(x.fdiv 7).fmod 4=3:=by
  rw[fm (j:=4)<|by decide]
  lia
 rcases h4 with q|q|q|q
 .exact{u * x.fmod 7+0,by lia,by unfold HG IY;simp![m1,s28,s7,q]}
 .exact{u * x.fmod 7+0,by lia,by unfold HG IY;simp![m1,s28,s7,q]}
 .exact{u * x.fmod 7+0,by lia,by unfold HG IY;simp![m1,s28,s7,q]}
 .exact{u * x.fmod 7+(1+(x.fdiv 28).fmod 3),by lia,by unfold HG IY;simp![m1,s28,s7,q,a3]}
abbrev Pt:Stmt:=AL 71
def Hz:AG:=
 (Ab (m2 CD (AA 2)<|BH AE) (AF (AO (AK (BH<|Ai (mC<|.str "<")<|Ai (mC<|.str "<=")<|Ai (mC<|.str ">")<|Ai (mC<|.str ">=")<|Ai (mC<|.str ">=")<|Ai (mC<|.str "=") AE)<|m2 BB (m2 Bd (AK (AA 0)<|m2 Al (mI 1)<|m2 Bm (mI 2)<|AA 4)<|mI 8)<|mI 6)<|AD 5)
 (Co 3<|BZ<|AB (AK (AA 2)<|m2 BB (AK (AA 0)<|m2 Al (mI 1)<|m2 Bm (mI 2)<|AA 4)<|m1 BA<|AA 2)<|mJ 5<|AB (AN HG<|AB (AK (AA 0)<|m2 Al (mI 2)<|m2 Bm (mI 2)<|AA 4)<|mJ 1 AE) AE)) A8)
def IZ:AG:=
 (AF (C0 3<|BH AE)
 (AF (B7 (CI<|AB (AK (BH<|Ai (mI 0)<|Ai (mI 1)<|Ai (mI 1)<|Ai (mI 2) AE)<|m2 BB (AK (AA 0)<|mI 0)<|mI 4) AE) (AD 4) Hz)
 (AQ<|AA 3)))
def HH:kL->Option Ru:=A3 3 6 IZ
abbrev TH:=fA 2 3 Pt HH
abbrev zfq:Gm:=gA Pt 1 [("_law_number",TF)] ["range","len"] ["_law_guard_here"]
theorem zg5:Ck zfq TH Pt IZ:={}
def Yn{ws:kE}(h:Bn ws):CD (.lst<|ws.map T.str) (.lst [])=↑(.bl<|!ws.isEmpty):=by
 have f1:Fit (.lst<|ws.map T.str) 1:=Fit.nd λt ht=>by
  let(x,hx,rfl):=Ó.mp ht;exact Fit.str (h x hx) _
 have f2:Fit (.lst []) 1:=Fit.nd λt ht=>by cases ht
 have e:=(cV f1 f2<|by decide).2
 rw[e];cases ws with
 |nil=>simp_all|cons a r=>simp[T.data,Bg]
def JV:kE:=["<","<=",">",">=",">=","="]
def zmc:∀y∈JV,y∈BY:=by decide +kernel
def J4{ys:kE}{i:Int}(h0:0<=i)(h1:i<ys.length):AU (ys.map T.str) i=↑(.str<|ys.getD i.toNat Str.empty)/\ys.getD i.toNat Str.empty∈ys:=by
 have hi:i.toNat<ys.length:=by lia
 rw[Ú,Â hi];exact{Ho h0 (by rw[Ë,Â hi];rfl),Ò hi}
def IV(x:Int){n:Nat}(h:1<=n):0<=x.fmod n/\x.fmod n<(n:Int):=by
 rw[fm<|by lia]
 exact{Int.emod_nonneg _ (by lia),Int.emod_lt_of_pos _<|by lia}
def zlo{xs:Nat->Int}{u:Int}(hu:0<=u){ws:kE}(hw:Bn ws){l:kL}(hl:BE ws BY l){k:Nat}(hk:k<2)(hn:l.length<=k){x5:kH}:∃l' y5,Hz [↑(.lst<|mT 5 λi=>.int<|xs i),↑(.int u),↑(.lst<|ws.map T.str),↑(.own l),↑(.int k),x5]
  = ↑(.nx [↑(.lst<|mT 5 λi=>.int<|xs i),↑(.int u),↑(.lst<|ws.map T.str),↑(.own l'),↑(.int k),y5])/\BE ws BY l'/\l'.length<=k+1:=by
 have en:=Yn hw;cases hws:ws.isEmpty with
 |true=>
  rw[hws]at en;refine{l,x5,?_,hl,by lia}
  unfold Hz
  simp![AV,AS,en]
 |false=>
  rw[hws]at en
  have h1:1<=ws.length:=by
   cases ws with
   |nil=>cases hws|cons a r=>simp
  have m2:Bs 2 (k:Int)=true:=HY<|DE (by decide)<|by decide
  have a1:AU (mT 5 λi=>T.int<|xs i) (1+2 * (k:Int))=↑(.int<|xs<|1+2 * k):=by
   have:=Cb (n:=5) (g:=λi=>T.int<|xs i) (k:=1+2 * k)<|by lia
   simpa using this
  have a2:AU (mT 5 λi=>T.int<|xs i) (2+2 * (k:Int))=↑(.int<|xs<|2+2 * k):=by
   have:=Cb (n:=5) (g:=λi=>T.int<|xs i) (k:=2+2 * k)<|by lia
   simpa using this
  have h6:=IV ((xs<|1+2 * k).fdiv 8) (n:=6)<|by decide
  let(b1,b2):=J4 (ys:=JV) h6.1 h6.2;have b1':AU [T.str<|Str.ofString "<",.str<|Str.ofString "<=",.str<|Str.ofString ">",.str<|Str.ofString ">=",.str<|Str.ofString ">=",.str<|Str.ofString "="] (((xs<|1+2 * k).fdiv 8).fmod 6)=↑(.str<|JV.getD (((xs<|1+2 * k).fdiv 8).fmod 6).toNat Str.empty):=b1;have hm:=IV (xs<|1+2 * k) h1;let(c1,c2):=J4 (ys:=ws) hm.1 hm.2;let(n,n0,e):=Y7 (xs<|2+2 * k) u hu;have s8:Bk 8=true:=CN (by decide)<|by decide
  have nw:((ws.length:Int)=0)=False:=ē<|by lia
  have ll:l.length<100000:=by lia
  refine{l++[.tup [.str<|ws.getD ((xs<|1+2 * k).fmod ws.length).toNat Str.empty,.str<|JV.getD (((xs<|1+2 * k).fdiv 8).fmod 6).toNat Str.empty,.int n]],↑(.str<|JV.getD (((xs<|1+2 * k).fdiv 8).fmod 6).toNat Str.empty),?_,λt ht=>?_,by rw[à,Ø,Ċ];lia}
  .unfold Hz
   simp![AV,AS,Á,en,m2,a1,a2,b1',c1,e,s8,nw,ll]
  .rcases ä.mp ht with ht|ht
   .exact hl t ht
   .rw[Ô.mp ht];exact{_,_,_,rfl,c2,zmc _ b2,n0}
def aE{xs:Nat->Int}{u:Int}(hu:0<=u){ws:kE}(hw:Bn ws):∃l,HH [.lst<|mT 5 λi=>.int<|xs i,.int u,.lst<|ws.map T.str]=↑(.ok<|.own l)/\BE ws BY l/\l.length<=2:=by
 have go:∀n:Nat,n<=2->∃l y4 y5,Aj (AD 4) Hz (mT n λi=>.int (i:Int)) [↑(.lst<|mT 5 λi=>.int<|xs i),↑(.int u),↑(.lst<|ws.map T.str),↑(.own []),none,none]=↑(.nx [↑(.lst<|mT 5 λi=>.int<|xs i),↑(.int u),↑(.lst<|ws.map T.str),↑(.own l),y4,y5])/\BE ws BY l/\l.length<=n:=λn hn=>by
  let(Y,e,l,y4,y5,rfl,h1,h2):=FD (b:=AD 4) (body:=Hz) (ts:=mT n λi=>.int (i:Int)) (Y:=[↑(.lst<|mT 5 λi=>.int<|xs i),↑(.int u),↑(.lst<|ws.map T.str),↑(.own []),none,none])
   (λi Y=>∃l y4 y5,Y=[↑(.lst<|mT 5 λi=>.int<|xs i),↑(.int u),↑(.lst<|ws.map T.str),↑(.own l),y4,y5]/\BE ws BY l/\l.length<=i) {[],none,none,rfl,λt ht=>(by cases ht),ô _} λi t Y h1 h2=>by
    let(hi,rfl):=Gq h1;let(l,y4,y5,rfl,k1,k2):=h2;let(l',y5',ew,k3,k4):=zlo (xs:=xs) hu hw k1 (k:=i) (by lia) k2 (x5:=y5)
    exact{_,by simp![],_,ew,l',_,_,rfl,k3,k4}
  rw[BO]at h2;exact{(l),y4,y5,e,h1,h2}
 have h4:(xs 0).fmod 4=0\/(xs 0).fmod 4=1\/(xs 0).fmod 4=2\/(xs 0).fmod 4=3:=by
  rw[fm (j:=4)<|by decide]
  lia
 have a0:AU (mT 5 λi=>T.int<|xs i) 0=↑(.int<|xs 0):=Cb (n:=5) (g:=λi=>T.int<|xs i) (k:=0)<|by lia
 have a3:∀{x y z v:T} {l:kL},AU (x::y::z::v::l) (3:Int)=↑v:=by
  intro x y z v l;have:AU (x::y::z::v::l) ((3:Nat):Int)=↑v:=CU rfl;exact this
 have o0:CB 0=true:=@decide_eq_true _ (Classical.propDecidable _) {by decide,by decide}
 have o1:CB 1=true:=@decide_eq_true _ (Classical.propDecidable _) {by decide,by decide}
 have o2:CB 2=true:=@decide_eq_true _ (Classical.propDecidable _) {by decide,by decide}
 have r0:Bl 0 (0:Int).toNat=mT 0 λi=>.int (i:Int):=C9
 have r1:Bl 0 (1:Int).toNat=mT 1 λi=>.int (i:Int):=C9
 have r2:Bl 0 (2:Int).toNat=mT 2 λi=>.int (i:Int):=C9
 rcases h4 with q|q|q|q
 .let(l,y4,y5,e,h1,h2):=go 0<|by decide
  exact{l,by unfold HH IZ;simp![AV,AS,a0,q,o0,r0,e],h1,by lia}
 .let(l,y4,y5,e,h1,h2):=go 1<|by decide
  exact{l,by unfold HH IZ;simp![AV,AS,a0,q,o1,r1,e],h1,by lia}
 .let(l,y4,y5,e,h1,h2):=go 1<|by decide
  exact{l,by unfold HH IZ;simp![AV,AS,a0,q,o1,r1,e],h1,by lia}
 .let(l,y4,y5,e,h1,h2):=go 2<|by decide
  exact{l,by unfold HH IZ;simp![AV,AS,a0,q,a3,o2,r2,e],h1,by lia}
abbrev Px:Stmt:=AL 73
def S7:AH:=
 (m2 BD (m2 BB (m2 Bd (m2 Bd (AK (AA 2)<|mI 7)<|m2 Ea (mI 2)<|mI 4)<|m2 Al (AA 0)<|mI 1)<|mI 2)<|mI 1)
def UC:AH:=
 (AK (AA 1)<|AA 0)
def Rv:AG:=
 (AF (AO (AN FH<|mJ 0<|AB (mI 9) AE)<|AD 4)
 (AF (AO (BF 1 [2,4] (CI<|AB (m1 BA<|AA 2) AE) (AD 0) S7 UC)<|AD 5)
 (AF (AO (AK (BH<|Ai (mC<|.str "")<|Ai (mC<|.str "")<|Ai (mC<|.str "")<|Ai (mC<|.str "go!") AE)<|m2 Bm (m2 Bd (m2 BB (AK (AA 4)<|mI 8)<|mI 16)<|mI 12)<|m2 BB (m2 Bd (AK (AA 4)<|mI 8)<|mI 16)<|mI 4)<|AD 6)
 (AQ<|BZ<|AB (m2 BB (AK (AA 4)<|mI 0)<|AA 3)<|AB (m2 BB (AK (AA 4)<|mI 1)<|AA 3)<|AB (AN HH<|AB (DO (Ew (AA 4) (↑(mI 2))<|↑(mI 7))<|FU (AA 4) (↑(mI 2))<|↑(mI 7))<|mJ 1<|mJ 2 AE)<|mJ 5<|mJ 6 AE))))
def JS:kL->Option Ru:=A3 4 7 Rv
abbrev cD:=fA 3 4 Px JS
abbrev zia:Gm:=gA Px 2 [("_law_stream",KZ),("_law_guard",TH)] ["range","len"]
theorem ziq:Ck zia cD Px Rv:={}
def SK{mt me:AH}{cs:AM}{f:Nat->T}{p:Nat->Bool}:∀{l:kG} {x:kH},(∀i∈l,(∃b,mt (↑(.int (i:Int))::cs)=↑(.v (.bl<|p i) b))/\me (↑(.int (i:Int))::cs)=↑(.v (f i) false))->B8 (AD 0) mt me (l.map λi:Nat=>T.int (i:Int)) (x::cs)=↑((l.filter p).map f)
 |[],_,_=>rfl|i::r,x,h=>by
  let((b,h1),h2):=h i (Í ..);have ih:=SK (x:=↑(.int (i:Int))) λj hj=>h j<|É _ hj
  unfold B8;have eb:AD 0 (T.int (i:Int)) (x::cs)=↑(↑(.int (i:Int))::cs):=by simp[AD]
  cases hp:p i with
  |true=>simp_all|false=>simp_all
def pN(y:Int)(i:Nat):Bool:=((y.fdiv 16).fdiv ((i:Int)+1)).fmod 2 == 1
def UM(z:Str):Prop:=z=Str.ofString ""\/z=Str.ofString "go!"
abbrev NH(ws:kE)(n:Nat)(d:Sd):Prop:=d.b<n/\d.e<n/\BE ws BY d.g/\d.g.length<=2/\(∀x∈d.n,x∈ws)/\d.n.Nodup/\d.n.length<=7/\UM d.z
def zlv(c:Int){u:Int}(hu:0<=u){ws:kE}(hw:Bn ws)(hd:ws.Nodup)(h7:ws.length<=7){m:Nat}(hm:1<=m):∃d:Sd,JS [.int c,.int u,.lst<|ws.map T.str,.int m]=↑(.ok<|BJ d)/\NH ws m d:=by
 let(xs,est):=Lb c (m:=9)<|by decide
 let(g,eg,g1,g2):=aE (xs:=λi=>xs<|i+2) hu hw
 have gs:=g1.sh;have x9:∀k:Nat,k<9->AU (mT 9 λi=>T.int<|xs i) (k:Int)=↑(.int<|xs k):=λk hk=>Cb hk
 have x0:=x9 0<|by decide
 have x1:=x9 1<|by decide
 have x7:AU (mT 9 λi=>T.int<|xs i) 7=↑(.int<|xs 7):=x9 7<|by decide
 have x8:=x9 8<|by decide
 have cu:BW (mT 9 λi=>T.int<|xs i) ↑2 ↑7=mT 5 λi=>.int<|xs<|i+2:=by
  have e1:HT.sIx 9 0 ↑2=2:=by decide
  have e2:HT.sIx 9 9 ↑7=7:=by decide
  unfold BW;rw[BO,e1,e2];refine Du (by rw[Č,List.length_drop,BO];rfl) λi hi=>?_
  rw[List.getElem?_take,if_pos (by lia),ĳ,ED (by lia),Ŗ]
 have lc:=SK (mt:=S7) (me:=UC) (cs:=[↑(.lst<|ws.map T.str),↑(.lst<|mT 9 λi=>.int<|xs i)]) (f:=λi=>.str<|ws.getD i Str.empty) (p:=pN<|xs 7) (l:=List.range ws.length) (x:=none) λi hi=>by
  have hi':=á.mp hi;have z16:((2:Int) ^ (4:Int).toNat)=16:=rfl;have t4:(0:Int)<=4/\(4:Int)<=1000000/\DW 2=true:={by decide,by decide,DE (by decide)<|by decide}
  have s16:Bk 16=true:=CN (by decide)<|by decide
  have si:Bk ((i:Int)+1)=true:=CN (Int.lt_of_lt_of_le (b:=0) (by decide +kernel)<|by lia)<|Int.lt_trans (b:=9) (by lia)<|by decide +kernel
  have ni:((i:Int)+1=0)=False:=ē<|by lia
  have ai:AU (ws.map T.str) (i:Int)=↑(.str<|ws.getD i Str.empty):=by
   have:=(J4 (ys:=ws) (i:=(i:Int)) (by lia)<|by lia).1
   rwa[î]at this
  have s9:A6 (mT 9 λi=>T.int<|xs i)=true:=Ga _
  constructor
  .refine{false,?_};unfold S7 pN
   simp![x7,z16,t4,s16,si,ni,Dd]
  .unfold UC
   simp![AS,ai]
 have lm:(List.range ws.length).map (λi:Nat=>T.int (i:Int))=mT ws.length λi=>.int (i:Int):=rfl
 rw[lm]at lc
 have fs:((List.range ws.length).filter (pN<|xs 7)).map (λi=>T.str<|ws.getD i Str.empty)=(((List.range ws.length).filter (pN<|xs 7)).map λi=>ws.getD i Str.empty).map T.str:=by
  rw[ý]
  rfl
 rw[fs]at lc;have hin:∀i∈(List.range ws.length).filter (pN<|xs 7),i<ws.length:=λi hi=>á.mp (Ĺ.mp hi).1
 have n1:∀x∈((List.range ws.length).filter (pN<|xs 7)).map (λi=>ws.getD i Str.empty),x∈ws:=λx hx=>by
  let(i,hi,rfl):=Ó.mp hx;have:=hin i hi;rw[Ú,Â this];exact Ò this
 have n2:(((List.range ws.length).filter (pN<|xs 7)).map λi=>ws.getD i Str.empty).Nodup:=by
  rw[List.nodup_iff_pairwise_ne,List.pairwise_map];refine List.Pairwise.imp_of_mem ?_<|List.Pairwise.filter _<|List.nodup_range (n:=ws.length);intro a b ha hb hab e;have h1:=hin a ha;have h2:=hin b hb;rw[Ú,Â h1,Ú,Â h2]at e;exact hab<|(ğ hd).mp e
 have n3:(((List.range ws.length).filter (pN<|xs 7)).map λi=>ws.getD i Str.empty).length<=7:=by
  rw[Á];have:=List.length_filter_le (pN<|xs 7)<|List.range ws.length;rw[ĵ]at this
  lia
 generalize ((List.range ws.length).filter (pN<|xs 7)).map (λi=>ws.getD i Str.empty)=ns at lc n1 n2 n3
 have m16:0<=(xs 8).fmod 16/\(xs 8).fmod 16<16:=by
  rw[fm<|by decide]
  lia
 have q12:((xs 8).fmod 16).fdiv 12=0\/((xs 8).fmod 16).fdiv 12=1:=by
  rw[fd<|by decide]
  lia
 have q4:((xs 8).fdiv 16).fmod 4=0\/((xs 8).fdiv 16).fmod 4=1\/((xs 8).fdiv 16).fmod 4=2\/((xs 8).fdiv 16).fmod 4=3:=by
  rw[fm (j:=4)<|by decide]
  lia
 have a3:∀{x y z v:T} {l:kL},AU (x::y::z::v::l) (3:Int)=↑v:=by
  intro x y z v l;have:AU (x::y::z::v::l) ((3:Nat):Int)=↑v:=CU rfl;exact this
 have sg:∃z,UM z/\AU [T.str<|Str.ofString "",.str<|Str.ofString "",.str<|Str.ofString "",.str<|Str.ofString "go!"] (((xs 8).fmod 16).fdiv 12 * ((xs 8).fdiv 16).fmod 4)=↑(.str z):=by
  rcases q12 with q|q<;>rcases q4 with p|p|p|p<;>rw[q,p]
  .exact{_,.inl rfl,GY}
  .exact{_,.inl rfl,GY}
  .exact{_,.inl rfl,GY}
  .exact{_,.inl rfl,GY}
  .exact{_,.inl rfl,GY}
  .exact{_,.inl rfl,Ft}
  .exact{_,.inl rfl,NA}
  .exact{_,.inr rfl,a3}
 let(z,z1,z2):=sg;have mz:Bs (((xs 8).fmod 16).fdiv 12) (((xs 8).fdiv 16).fmod 4)=true:=Eu<|DE (by rcases q4 with p|p|p|p<;>lia) (by rcases q4 with p|p|p|p<;>lia)
 have s16:Bk 16=true:=CN (by decide)<|by decide
 have s12:Bk 12=true:=CN (by decide)<|by decide
 have h0:=IV (xs 0) hm;have h1:=IV (xs 1) hm;have nm:((m:Int)=0)=False:=ē<|by lia
 have ok:CB (ws.length:Int)=true:=EV<|by lia
 have er:Bl 0 ws.length=mT ws.length λi=>.int (i:Int):=C9
 have l7:ws.length<=100000:=by lia
 refine{{((xs 0).fmod m).toNat,((xs 1).fmod m).toNat,g,ns,z},?_,by show _<m;lia,by show _<m;lia,g1,g2,n1,n2,n3,z1}
 have t0:(((xs 0).fmod m).toNat:Int)=(xs 0).fmod m:=by lia
 have t1:(((xs 1).fmod m).toNat:Int)=(xs 1).fmod m:=by lia
 have x0':AU (mT 9 λi=>T.int<|xs i) 0=↑(.int<|xs 0):=x0
 have x1':AU (mT 9 λi=>T.int<|xs i) 1=↑(.int<|xs 1):=x1
 have x8':AU (mT 9 λi=>T.int<|xs i) 8=↑(.int<|xs 8):=x8
 have est':FH [.int c,.int 9]=↑(.ok<|.own<|mT 9 λi=>.int<|xs i):=est
 show JS [.int c,.int u,.lst<|ws.map T.str,.int m]=↑(.ok<|.tup [.int (((xs 0).fmod m).toNat:Int),.int (((xs 1).fmod m).toNat:Int),.lst g,.lst<|ns.map T.str,.str z]);unfold JS Rv
 simp![AV,AS,Á,est',ok,er,l7,lc,x0',x1',x8',s16,s12,mz,z2,cu,eg,gs,AJ _ gs,nm,t0,t1]
abbrev Pe:Stmt:=AL 72
def Hy:AG:=
 (Ab (m2 CD (AA 2)<|BH AE) (AF (AO (m2 Al (AN HG<|AB (AK (AA 0)<|m2 Al (mI 2)<|m2 Bm (mI 2)<|AA 4)<|mJ 1 AE)<|m2 Bm (AA 1)<|m2 E8 (mI 1)<|m2 Bd (m2 BB (m2 Bd (AK (AA 0)<|mI 0)<|mI 4)<|mI 16)<|mI 15)<|AD 5)
 (Co 3<|BZ<|AB (AK (AA 2)<|m2 BB (AK (AA 0)<|m2 Al (mI 1)<|m2 Bm (mI 2)<|AA 4)<|m1 BA<|AA 2)<|AB (AK (BH<|Ai (mC<|.str "<")<|Ai (mC<|.str "<=") AE)<|m2 BB (m2 Bd (AK (AA 0)<|m2 Al (mI 1)<|m2 Bm (mI 2)<|AA 4)<|mI 8)<|mI 2)<|mJ 5 AE)) A8)
def IW:AG:=
 (AF (C0 3<|BH AE)
 (AF (B7 (CI<|AB (AK (BH<|Ai (mI 0)<|Ai (mI 0)<|Ai (mI 1)<|Ai (mI 2) AE)<|m2 BB (AK (AA 0)<|mI 0)<|mI 4) AE) (AD 4) Hy)
 (AQ<|AA 3)))
def Hu:kL->Option Ru:=A3 3 6 IW
abbrev b5:=fA 2 3 Pe Hu
abbrev zi4:Gm:=gA Pe 1 [("_law_number",TF)] ["range","len"] ["_law_stay_here"]
theorem zij:Ck zi4 b5 Pe IW:={}
def zjc{xs:Nat->Int}{u:Int}(hu:0<=u){ws:kE}(hw:Bn ws){l:kL}(hl:BE ws DR l){k:Nat}(hk:k<2)(hn:l.length<=k){x5:kH}:∃l' y5,Hy [↑(.lst<|mT 5 λi=>.int<|xs i),↑(.int u),↑(.lst<|ws.map T.str),↑(.own l),↑(.int k),x5]
  = ↑(.nx [↑(.lst<|mT 5 λi=>.int<|xs i),↑(.int u),↑(.lst<|ws.map T.str),↑(.own l'),↑(.int k),y5])/\BE ws DR l'/\l'.length<=k+1:=by
 have en:=Yn hw;cases hws:ws.isEmpty with
 |true=>
  rw[hws]at en;refine{l,x5,?_,hl,by lia}
  unfold Hy
  simp![AV,AS,en]
 |false=>
  rw[hws]at en
  have h1:1<=ws.length:=by
   cases ws with
   |nil=>cases hws|cons a r=>simp
  have m2:Bs 2 (k:Int)=true:=HY<|DE (by decide)<|by decide
  have a0:AU (mT 5 λi=>T.int<|xs i) 0=↑(.int<|xs 0):=Cb (n:=5) (g:=λi=>T.int<|xs i) (k:=0)<|by lia
  have a1:AU (mT 5 λi=>T.int<|xs i) (1+2 * (k:Int))=↑(.int<|xs<|1+2 * k):=by
   have:=Cb (n:=5) (g:=λi=>T.int<|xs i) (k:=1+2 * k)<|by lia
   simpa using this
  have a2:AU (mT 5 λi=>T.int<|xs i) (2+2 * (k:Int))=↑(.int<|xs<|2+2 * k):=by
   have:=Cb (n:=5) (g:=λi=>T.int<|xs i) (k:=2+2 * k)<|by lia
   simpa using this
  have h6:=IV ((xs<|1+2 * k).fdiv 8) (n:=2)<|by decide
  let(b1,b2):=J4 (ys:=DR) h6.1 h6.2;have b1':AU [T.str<|Str.ofString "<",.str<|Str.ofString "<="] (((xs<|1+2 * k).fdiv 8).fmod 2)=↑(.str<|DR.getD (((xs<|1+2 * k).fdiv 8).fmod 2).toNat Str.empty):=b1;have hm:=IV (xs<|1+2 * k) h1;let(c1,c2):=J4 (ys:=ws) hm.1 hm.2;let(n,n0,e):=Y7 (xs<|2+2 * k) u hu;have s8:Bk 8=true:=CN (by decide)<|by decide
  have s4:Bk 4=true:=CN (by decide)<|by decide
  have s15:Bk 15=true:=CN (by decide)<|by decide
  have nw:((ws.length:Int)=0)=False:=ē<|by lia
  have ll:l.length<100000:=by lia
  have h15:0<=1 - (((xs 0).fdiv 4).fmod 16).fdiv 15/\1 - (((xs 0).fdiv 4).fmod 16).fdiv 15<=1:=by
   rw[fm (j:=16) (by decide),fd (j:=15)<|by decide]
   lia
  have mu:Bs u (1 - (((xs 0).fdiv 4).fmod 16).fdiv 15)=true:=Eu<|DE (by lia)<|by lia
  have pu0:0<=u * (1 - (((xs 0).fdiv 4).fmod 16).fdiv 15):=ő hu h15.1;refine{l++[.tup [.str<|ws.getD ((xs<|1+2 * k).fmod ws.length).toNat Str.empty,.str<|DR.getD (((xs<|1+2 * k).fdiv 8).fmod 2).toNat Str.empty,.int<|n+u * (1 - (((xs 0).fdiv 4).fmod 16).fdiv 15)]],↑(.int<|n+u * (1 - (((xs 0).fdiv 4).fmod 16).fdiv 15)),?_,λt ht=>?_,by rw[à,Ø,Ċ];lia}
  .unfold Hy
   simp![AV,AS,Á,en,m2,a0,a1,a2,b1',c1,e,s8,s4,s15,nw,ll,mu]
  .rcases ä.mp ht with ht|ht
   .exact hl t ht
   .rw[Ô.mp ht];exact{_,_,_,rfl,c2,b2,by lia}
def sy_ex{xs:Nat->Int}{u:Int}(hu:0<=u){ws:kE}(hw:Bn ws):∃l,Hu [.lst<|mT 5 λi=>.int<|xs i,.int u,.lst<|ws.map T.str]=↑(.ok<|.own l)/\BE ws DR l/\l.length<=2:=by
 have go:∀n:Nat,n<=2->∃l y4 y5,Aj (AD 4) Hy (mT n λi=>.int (i:Int)) [↑(.lst<|mT 5 λi=>.int<|xs i),↑(.int u),↑(.lst<|ws.map T.str),↑(.own []),none,none]=↑(.nx [↑(.lst<|mT 5 λi=>.int<|xs i),↑(.int u),↑(.lst<|ws.map T.str),↑(.own l),y4,y5])/\BE ws DR l/\l.length<=n:=λn hn=>by
  let(Y,e,l,y4,y5,rfl,h1,h2):=FD (b:=AD 4) (body:=Hy) (ts:=mT n λi=>.int (i:Int)) (Y:=[↑(.lst<|mT 5 λi=>.int<|xs i),↑(.int u),↑(.lst<|ws.map T.str),↑(.own []),none,none])
   (λi Y=>∃l y4 y5,Y=[↑(.lst<|mT 5 λi=>.int<|xs i),↑(.int u),↑(.lst<|ws.map T.str),↑(.own l),y4,y5]/\BE ws DR l/\l.length<=i) {[],none,none,rfl,λt ht=>(by cases ht),ô _} λi t Y h1 h2=>by
    let(hi,rfl):=Gq h1;let(l,y4,y5,rfl,k1,k2):=h2;let(l',y5',ew,k3,k4):=zjc (xs:=xs) hu hw k1 (k:=i) (by lia) k2 (x5:=y5)
    exact{_,by simp![],_,ew,l',_,_,rfl,k3,k4}
  rw[BO]at h2;exact{(l),y4,y5,e,h1,h2}
 have h4:(xs 0).fmod 4=0\/(xs 0).fmod 4=1\/(xs 0).fmod 4=2\/(xs 0).fmod 4=3:=by
  rw[fm (j:=4)<|by decide]
  lia
 have a0:AU (mT 5 λi=>T.int<|xs i) 0=↑(.int<|xs 0):=Cb (n:=5) (g:=λi=>T.int<|xs i) (k:=0)<|by lia
 have a3:∀{x y z v:T} {l:kL},AU (x::y::z::v::l) (3:Int)=↑v:=by
  intro x y z v l;have:AU (x::y::z::v::l) ((3:Nat):Int)=↑v:=CU rfl;exact this
 have o0:CB 0=true:=@decide_eq_true _ (Classical.propDecidable _) {by decide,by decide}
 have o1:CB 1=true:=@decide_eq_true _ (Classical.propDecidable _) {by decide,by decide}
 have o2:CB 2=true:=@decide_eq_true _ (Classical.propDecidable _) {by decide,by decide}
 have r0:Bl 0 (0:Int).toNat=mT 0 λi=>.int (i:Int):=C9
 have r1:Bl 0 (1:Int).toNat=mT 1 λi=>.int (i:Int):=C9
 have r2:Bl 0 (2:Int).toNat=mT 2 λi=>.int (i:Int):=C9
 rcases h4 with q|q|q|q
 .let(l,y4,y5,e,h1,h2):=go 0<|by decide
  exact{l,by unfold Hu IW;simp![AV,AS,a0,q,o0,r0,e],h1,by lia}
 .let(l,y4,y5,e,h1,h2):=go 0<|by decide
  exact{l,by unfold Hu IW;simp![AV,AS,a0,q,o0,r0,e],h1,by lia}
 .let(l,y4,y5,e,h1,h2):=go 1<|by decide
  exact{l,by unfold Hu IW;simp![AV,AS,a0,q,o1,r1,e],h1,by lia}
 .let(l,y4,y5,e,h1,h2):=go 2<|by decide
  exact{l,by unfold Hu IW;simp![AV,AS,a0,q,a3,o2,r2,e],h1,by lia}
abbrev Pp:Stmt:=AL 74
def OH:AG:=
 (AF (AO (AN FH<|AB (m2 Al (AN Fc<|mJ 0<|AB (m2 Al (mI 2)<|AA 7) AE)<|AA 7)<|AB (mI 5) AE)<|AD 9)
 (Co 6<|BZ<|AB (AK (AA 5)<|AA 7)<|AB (AN Hu<|mJ 9<|mJ 3<|mJ 4 AE) AE))
def UB:AH:=
 (AN JS<|mJ 0<|mJ 2<|mJ 3<|AB (m1 BA<|AA 1) AE)
def Rt:AG:=
 (AF (AO (AN Fc<|mJ 0<|AB (mI 0) AE)<|AD 1)
 (AF (AO (AN Fc<|mJ 0<|AB (mI 1) AE)<|AD 2)
 (AF (AO (m2 Al (mI 1)<|m2 BB (m2 Bd (AA 1)<|mI 4)<|AK (BH<|Ai (mI 1)<|Ai (mI 3)<|Ai (m2 Ea (mI 10)<|mI 15)<|Ai (m2 Ea (mI 10)<|mI 40) AE)<|m2 BB (AA 1)<|mI 4)<|AD 3)
 (AF (AO (AN Kv<|AB (m2 Bd (AA 1)<|mI 16)<|AB (AK (BH<|Ai (mI 0)<|Ai (mI 1)<|Ai (mI 1)<|Ai (mI 2)<|Ai (mI 2)<|Ai (mI 2) AE)<|m2 BB (AA 2)<|mI 6) AE)<|AD 4)
 (AF (AO (AN Kv<|AB (m2 Bd (AA 2)<|mI 24)<|AB (m2 Al (mI 1)<|m2 BB (m2 Bd (AA 2)<|mI 6)<|mI 4) AE)<|AD 5)
 (AF (C0 6<|BH AE)
 (AF (B7 (CI<|AB (m1 BA<|AA 5) AE) (AD 7) OH)
 (AF (AO (BF 1 [5,3,4] (Av<|DO (Ew (AA 0) (↑(mI 6))<|↑(mI 12))<|FU (AA 0) (↑(mI 6))<|↑(mI 12)) (AD 0) (mC<|.bl true) UB)<|AD 8)
 (AF (E9 6)<|AQ<|BZ<|mJ 4<|mJ 6<|mJ 8 AE)))))))))
def N8:kL->Option Ru:=A3 1 10 Rt
abbrev cB:=fA 4 1 Pp N8
abbrev zdc:Gm:=gA Pp 3 [("_law_cell_at",TJ),("_law_names",b9),("_law_stream",KZ),("_law_stay",b5),("_law_door",cD)] ["range","len"] ["_law_rooms"] (N:=["_law_script","_law_first","_law_second","_law_unit","_law_watches","_law_names_here","_law_rooms","_law_k","_law_doors","_law_xs"])
theorem zdn:Ck zdc cB Pp Rt:={}
structure DrwOk(ws:kE)(rs:List<|Str×kL)(dd:List Sd)(sz:Nat):Prop where
 w:∀x∈ws,FG x/\1<=x.cps.size/\x.cps.size<=8
 wd:ws.Nodup
 wl:ws.length<=2
 r1:1<=rs.length
 r4:rs.length<=4
 rn:∀r∈rs,FG r.1/\r.1.cps.size=sz
 sz:1<=sz/\sz<=8
 rd:(rs.map (·.1)).Nodup
 rl:∀r∈rs,BE ws DR r.2/\r.2.length<=2
 dl:dd.length<=100
 d:∀d∈dd,NH ws rs.length d
def zor(c:Int)(m:Nat):(mT m λk=>.str<|Ca c k)=((List.range m).map (Ca c)).map T.str:=by
 rw[ý]
 rfl
def Yi(c:Int){m:Nat}(hm:m<20):((List.range m).map (Ca c)).Nodup:=by
 rw[List.nodup_iff_pairwise_ne,List.pairwise_map];refine List.Pairwise.imp_of_mem ?_<|List.nodup_range (n:=m);intro a b ha hb hab e;have h1:=á.mp ha;have h2:=á.mp hb;exact hab<|zos (by lia) (by lia) e
def ze4(ns:kF)(h:ns.length<=63):∃ws rs dd sz,N8 [CZ ns]=↑(.ok<|Ay ws rs dd)/\DrwOk ws rs dd sz:=by
 have c0:Fc [CZ ns,.int 0]=↑(.ok<|.int<|ns.getD 0 0):=Mp ns (k:=0)<|by decide
 have c1:Fc [CZ ns,.int 1]=↑(.ok<|.int<|ns.getD 1 0):=Mp ns (k:=1)<|by decide
 have ck:∀k:Nat,Fc [CZ ns,.int<|2+(k:Int)]=↑(.ok<|.int<|ns.getD (2+(k:Int)).toNat 0):=λk=>Mp ns<|by lia
 generalize ns.getD 0 0=x at c0;generalize ns.getD 1 0=y at c1;have a3 {x y z v:T} {l:kL}:AU (x::y::z::v::l) (3:Int)=↑v:=CU (j:=3) rfl;have a4 {x y z v w:T} {l:kL}:AU (x::y::z::v::w::l) (4:Int)=↑w:=CU (j:=4) rfl;have a5 {x y z v w t:T} {l:kL}:AU (x::y::z::v::w::t::l) (5:Int)=↑t:=CU (j:=5) rfl
 have q4:x.fmod 4=0\/x.fmod 4=1\/x.fmod 4=2\/x.fmod 4=3:=by
  rw[fm (j:=4)<|by decide]
  lia
 have eu:∃q:Int,0<q/\AU [T.int 1,.int 3,.int<|10 ^ 15,.int<|10 ^ 40] (x.fmod 4)=↑(.int q):=by
  rcases q4 with p|p|p|p<;>rw[p]
  .exact{_,by decide,GY}
  .exact{_,by decide,Ft}
  .exact{_,by decide,NA}
  .exact{_,by decide,a3}
 let(q,q0,eq):=eu
 have q6:y.fmod 6=0\/y.fmod 6=1\/y.fmod 6=2\/y.fmod 6=3\/y.fmod 6=4\/y.fmod 6=5:=by
  rw[fm (j:=6)<|by decide]
  lia
 have ew:∃m:Nat,m<=2/\AU [T.int 0,.int 1,.int 1,.int 2,.int 2,.int 2] (y.fmod 6)=↑(.int (m:Int)):=by
  rcases q6 with p|p|p|p|p|p<;>rw[p]
  .exact{0,by decide,GY}
  .exact{1,by decide,Ft}
  .exact{1,by decide,NA}
  .exact{2,by decide,a3}
  .exact{2,by decide,a4}
  .exact{2,by decide,a5}
 let(m,m2,em):=ew
 have en:∃n:Nat,1<=n/\n<=4/\1+(y.fdiv 6).fmod 4=(n:Int):=by
  refine{(1+(y.fdiv 6).fmod 4).toNat,?_};rw[fm (j:=4)<|by decide]
  lia
 let(n,n1,n4,en):=en
 have u0:0<=1+(x.fdiv 4).fmod q:=by
  rw[fm (j:=q) q0];have:=Int.emod_nonneg (x.fdiv 4)<|show q≠0 by lia
  lia
 have nw:=Yo (x.fdiv 16) (m:=m)<|by lia
 have nn:=Yo (y.fdiv 24) (m:=n)<|by lia
 rw[zor]at nw nn
 have hws:∀z∈(List.range m).map (Ca<|x.fdiv 16),FG z/\1<=z.cps.size/\z.cps.size<=8:=λz hz=>by
  let(k,_,rfl):=Ó.mp hz;have:=Jo<|x.fdiv 16;rw[Qj];exact{Yj _ _,this.1,this.2.1}
 have wnd:=Yi (x.fdiv 16) (m:=m)<|by lia
 have wln:((List.range m).map (Ca<|x.fdiv 16)).length=m:=by simp
 generalize (List.range m).map (Ca<|x.fdiv 16)=ws at nw hws wnd wln;have tw:Bn ws:=λz hz=>Le (hws z hz).1
 have rnm:∀z∈(List.range n).map (Ca<|y.fdiv 24),FG z/\z.cps.size=Ce (y.fdiv 24):=λz hz=>by
  let(k,_,rfl):=Ó.mp hz;exact{Yj _ _,Qj _ _}
 have rnd:=Yi (y.fdiv 24) (m:=n)<|by lia
 have rln:((List.range n).map (Ca<|y.fdiv 24)).length=n:=by simp
 generalize (List.range n).map (Ca<|y.fdiv 24)=zs at nn rnm rnd rln;generalize hu:1+(x.fdiv 4).fmod q=u at u0
 let(Y,e,rs,x7,x9,rfl,hr1,hr2):=FD (b:=AD 7) (body:=OH) (ts:=mT n λi=>.int (i:Int)) (Y:=[↑(CZ ns),↑(.int x),↑(.int y),↑(.int u),↑(.lst<|ws.map T.str),↑(.lst<|zs.map T.str),↑(.own []),none,none,none])
  (λi Y=>∃(rs:List<|Str×kL) (x7 x9:kH),Y=[↑(CZ ns),↑(.int x),↑(.int y),↑(.int u),↑(.lst<|ws.map T.str),↑(.lst<|zs.map T.str),↑(.own<|rs.map BV),x7,none,x9]/\rs.map (·.1)=zs.take i/\∀r∈rs,BE ws DR r.2/\r.2.length<=2) {[],none,none,rfl,by simp,λr hr=>by cases hr} λi t Y h1 h2=>by
   let(hi,rfl):=Gq h1;let(rs,x7,x9,rfl,k1,k2):=h2;let(xs,es):=Lb (ns.getD (2+(i:Int)).toNat 0+(i:Int)) (m:=5)<|by decide
   have es':FH [.int<|ns.getD (2+(i:Int)).toNat 0+(i:Int),.int 5]=↑(.ok<|.own<|mT 5 λi=>.int<|xs i):=es
   let(l,el,l1,l2):=sy_ex (xs:=xs) u0 tw;have ls:=l1.sh
   have lr:(rs.map BV).length<100000:=by
    have:=congrArg List.length k1;rw[Á,Č]at this;rw[Á]
    lia
   have hi':i<zs.length:=by lia
   have ai:AU (zs.map T.str) (i:Int)=↑(.str zs[i]):=CU (by rw[Ë,Â hi'];rfl)
   have s5:A6 (mT 5 λi=>T.int<|xs i)=true:=Ga _
   refine{[↑(CZ ns),↑(.int x),↑(.int y),↑(.int u),↑(.lst<|ws.map T.str),↑(.lst<|zs.map T.str),↑(.own<|rs.map BV),↑(.int (i:Int)),none,x9],by simp![],[↑(CZ ns),↑(.int x),↑(.int y),↑(.int u),↑(.lst<|ws.map T.str),↑(.lst<|zs.map T.str),↑(.own<|(rs++[(zs[i],l)]).map BV),↑(.int (i:Int)),none,↑(.lst<|mT 5 λi=>.int<|xs i)],?_,rs++[(zs[i],l)],_,_,rfl,?_,λr hr=>?_}
   .rw[è];unfold OH
    simp![Vs,Vt,ck i,es',AV,AS,ai,el,ls,AJ _ ls,lr]
   .rw[è,k1,<- ţ hi']
    rfl
   .rcases ä.mp hr with hr|hr
    .exact k2 r hr
    .rw[Ô.mp hr];exact{(l1),l2}
 rw[BO,<- rln,Ζ]at hr1;have hz1:1<=zs.length:=by lia
 have hdx:∀c:Int,∃d:Sd,JS [.int c,.int u,.lst<|ws.map T.str,.int zs.length]=↑(.ok<|BJ d)/\NH ws zs.length d:=λc=>zlv c u0 tw wnd (by lia) hz1
 let(f,hf):=Classical.axiomOfChoice hdx;have cl:=zlx ns ↑6 ↑12;have cm:BW (ns.map T.int) ↑6 ↑12=(BW ns ↑6 ↑12).map T.int:=T3 _ _ _ _;generalize BW ns ↑6 ↑12=ks at cl cm
 have lc:=Ig (b:=AD 0) (me:=UB) (ts:=ks.map T.int) (Y:=[none,↑(.lst<|zs.map T.str),↑(.int u),↑(.lst<|ws.map T.str)]) (λ_ Y=>∃x,Y=[x,↑(.lst<|zs.map T.str),↑(.int u),↑(.lst<|ws.map T.str)]) (λi=>BJ<|f<|ks.getD i 0) {(none),rfl} λi t Y h1 h2=>by
  let(x,rfl):=h2;have hi:i<ks.length:=by simpa using (Ñ.mp h1).1
  rw[Ë,Â hi]at h1
  have et:t=.int (ks.getD i 0):=by
   rw[Ú,Â hi];exact(Ý h1).symm
  subst et;have ed:=(hf<|ks.getD i 0).1;refine{[↑(.int<|ks.getD i 0),↑(.lst<|zs.map T.str),↑(.int u),↑(.lst<|ws.map T.str)],by simp![],?_,_,rfl}
  unfold UB
  simp![AV,AS,Á,ed]
 have ee:(List.range (ks.map T.int).length).map (λi=>BJ<|f<|ks.getD i 0)=(ks.map f).map BJ:=by
  rw[Á];refine(Du (n:=ks.length) (g:=λi=>BJ<|f<|ks.getD i 0) (by simp) λi hi=>?_).symm
  rw[Ë,Ë,Ú,Â hi]
  rfl
 rw[ee]at lc
 have hds:∀d∈ks.map f,NH ws zs.length d:=λd hd=>by
  let(c,_,rfl):=Ó.mp hd;exact(hf c).2
 have hdl:(ks.map f).length<=100:=by
  rw[Á]
  lia
 generalize ks.map f=dd at lc hds hdl;have zl:rs.length=zs.length:=by rw[<- hr1,Á]
 have D:DrwOk ws rs dd<|Ce<|y.fdiv 24:=by
  refine{hws,wnd,by lia,by lia,by lia,λr hr=>rnm _<|hr1▸ŋ hr,{(Jo _).1,(Jo _).2.1},by rw[hr1];exact rnd,hr2,hdl,λd hd=>?_}
  rw[zl];exact hds d hd
 refine{ws,rs,dd,_,?_,D}
 have sr:A6 (rs.map BV)=true:=by
  rw[DV,ã];intro t ht;let(r,hr,rfl):=Ó.mp ht;have:=(hr2 r hr).1.sh
  simp![this]
 have er:=AJ _ sr
 have sd:A6 (dd.map BJ)=true:=by
  rw[DV,ã];intro t ht;let(d,hd,rfl):=Ó.mp ht;have:=(hds d hd).2.2.1.sh
  simp![this,AS]
 have ed:=AJ _ sd;have s4:Bk 4=true:=CN (by decide)<|by decide
 have s16:Bk 16=true:=CN (by decide)<|by decide
 have s24:Bk 24=true:=CN (by decide)<|by decide
 have s6:Bk 6=true:=CN (by decide)<|by decide
 have z15:((10:Int) ^ (15:Int).toNat)=10 ^ 15:=rfl;have z40:((10:Int) ^ (40:Int).toNat)=10 ^ 40:=rfl;have t15:(0:Int)<=15/\(15:Int)<=1000000/\DW 10=true:={by decide,by decide,DE (by decide)<|by decide}
 have t40:(0:Int)<=40/\(40:Int)<=1000000/\DW 10=true:={by decide,by decide,DE (by decide)<|by decide}
 have nq:(q=0)=False:=ē<|by lia
 have ok:CB (zs.length:Int)=true:=EV<|by lia
 have rg:Bl 0 zs.length=mT n λi=>.int (i:Int):=by rw[rln];exact C9
 have kl:ks.length<=100000:=by lia
 unfold CZ at *;unfold N8 Rt
 simp![IF,J7,c0,c1,s4,s16,s24,s6,z15,z40,t15,t40,eq,nq,hu,em,nw,en,nn,AV,AS,Á,ok,rg,e,cm,lc,kl,sr,er,sd,ed,zhf]
abbrev P4:Stmt:=DN 40 1
def Ra:AG:=
 (AQ<|DO (m1 Cc<|CF Ar Ax 0<|AA 0)<|Gr<|CF Ar Ax 0<|AA 0)
def JM:kL->Option Ru:=A3 1 1 Ra
abbrev Sv:=fA 1 1 P4 JM
abbrev za5:Gx:={ Cv with cl:=[("Machine",Ar,Ax)] }
abbrev za7:Gm:=gA P4 0 [] ["list"] (ox:=za5)
theorem zaa:Ck za7 Sv P4 Ra:={}
def Yq{M:Mc}(h:McOk M):JM [EW M]=↑(.ok<|.own<|M.ws.map T.str):=by
 unfold JM Ra
 simp![AV,AS,h.ss,h.sd,AJ _ h.ss,AJ _ h.sd]
abbrev P5:Stmt:=DN 40 5
def Rb:AG:=
 (AQ<|m2 Al (H9 (CF Ar Ax 0<|AA 0)<|AA 1)<|mI 1)
def JN:kL->Option Ru:=A3 2 2 Rb
abbrev Sw:=fA 1 2 P5 JN
abbrev za0:Gx:={ Cv with cl:=[("Machine",Ar,Ax)] }
abbrev za1:Gm:=gA P5 0 [] [] (ox:=za0)
theorem za2:Ck za1 Sw P5 Rb:={}
def Yt{M:Mc}(h:McOk M){x:Str}{j:Nat}(e:CQ M.ws x=↑j):JN [EW M,.str x]=↑(.ok<|.int<|(j:Int)+1):=by
 have l1:M.ws.length<1000000:=by have:=h.wl;lia
 unfold JN Rb
 simp![AV,AS,IE,h.ss,h.sd,AJ _ h.ss,AJ _ h.sd,e,l1]
abbrev Of:Stmt:=AL 46
def Te:AH:=
 (BZ<|AB (Dw Ar Ax JN (AA 3)<|mJ 0 AE)<|mJ 1<|mJ 2 AE)
def RB:AG:=
 (AF (AO (Dw Ar Ax JM (AA 0) AE)<|AD 2)
 (AF (Ab (Au<|AN JK<|mJ 1<|mJ 2<|AB (mC Ij) AE) (C8 "NoMark"<|AB (mC<|.str "a guard is a list of looks at the machine's watches") AE) A8)
 (AQ<|BF 3 [0] (Av<|AA 1) (Ak 3<|AI (AD 0)<|AI (AD 1)<|AI (AD 2) Am) (mC<|.bl true) Te)))
def G3:kL->Option Ru:=A3 2 3 RB
abbrev Sn:=fA 5 2 Of G3
abbrev zfh:Gx:={ Cv with co:=[("WORDS",Ij)],mt:=[("watches",Ar,Ax,Sv),("watch_number",Ar,Ax,Sw)] }
abbrev zfk:Gm:=gA Of 4 [("is_guard",Mg)] [] (ex:=["NoMark"]) (ox:=zfh)
theorem zfz:Ck zfk Sn Of RB:={}
def DF:T->Str
 |.nd _ _ (.str x::_)=>x|_=>Str.empty
def Cs:T->Str
 |.nd _ _ (_::.str y::_)=>y|_=>Str.empty
def Bc:T->Int
 |.nd _ _ (_::_::.int n::_)=>n|_=>0
def Gs{ws wd:kE}{t:T}(h:∃x y n,t=.tup [.str x,.str y,.int n]/\x∈ws/\y∈wd/\0<=n):t=.tup [.str<|DF t,.str<|Cs t,.int<|Bc t]/\DF t∈ws/\Cs t∈wd/\0<=Bc t:=by
 let(x,y,n,rfl,h1,h2,h3):=h;exact{(rfl),h1,h2,h3}
def GD(ws:kE)(t:T):T:=.tup [.int<|((CQ ws<|DF t).getD 0:Int)+1,.str<|Cs t,.int<|Bc t]
def Hg{ws:kE}{x:Str}(h:x∈ws):∃j,CQ ws x=↑j/\∃hj:j<ws.length,ws[j]=x:=by
 unfold CQ;cases e:List.findIdx? (λy=>@decide (y=x) (Classical.propDecidable _)) ws with
 |none=>have:=List.findIdx?_eq_none_iff.mp e x h;simp at this|some j=>
  let(h1,h2,_):=ě.mp e
  lia
def Hc{α:Type}{b:T->AM->Option AM}{me:AH}(f g:α->T)(I:AM->Prop):∀(L:List α) (Y:AM),I Y->(∀x∈L,∀Y,I Y->∃τ1,b (f x) Y=↑τ1/\me τ1=↑(.v (g x) false)/\I τ1)->B8 b (mC<|.bl true) me (L.map f) Y=↑(L.map g)
 |[],_,_,_=>rfl|x::L,Y,h,hs=>by
  let(τ1,e1,e2,h1):=hs x (Í ..) Y h;have k:=Hc f g I L τ1 h1 λu hu=>hs u<|É _ hu
  have f1:mC (.bl true) τ1=↑(.v (.bl true) false):=rfl;rw[Ï,Ï];unfold B8
  lia
def Qb{M:Mc}(h:McOk M){l:kL}{wd:kE}(hl:BE M.ws wd l)(hw:∀y∈wd,y∈BY)(hn:l.length<=1000):G3 [EW M,.lst l]=↑(.ok<|.own<|l.map<|GD M.ws):=by
 have hl':BE M.ws BY l:=λt ht=>by
  let(x,y,n,e,h1,h2,h3):=hl t ht;exact{x,y,n,e,h1,hw y h2,h3}
 have hg:=Sb h.tw Nt hn hl';have hs:=hl.sh;have es:=AJ _ hs
 have lc:=Hc (b:=Ak 3<|AI (AD 0)<|AI (AD 1)<|AI (AD 2) Am) (me:=Te) (λt:T=>t) (GD M.ws) (λY=>∃x y z,Y=[x,y,z,↑(EW M)]) l [none,none,none,↑(EW M)] {(none),none,none,rfl} λt ht Y hI=>by
  let(x,y,z,rfl):=hI;let(k1,k2,k3,k4):=Gs<|hl' t ht;let(j,ej,_):=Hg k2;have en:=Yt h ej;refine{[↑(.str<|DF t),↑(.str<|Cs t),↑(.int<|Bc t),↑(EW M)],by rw[k1];simp![DF,Cs,Bc],?_,_,_,_,rfl}
  unfold Te GD;rw[ej]
  simp![AV,AS,h.ss,h.sd,AJ _ h.ss,AJ _ h.sd,en,Η]
 rw[List.map_id']at lc;have mw:=Yq h;have l1:l.length<=100000:=by lia
 unfold G3 RB
 simp![Za,AV,AS,h.ss,h.sd,AJ _ h.ss,AJ _ h.sd,mw,hs,es,hg,l1,lc]
abbrev P7:Stmt:=DN 40 2
def ZA:AG:=
 (AQ<|DO (m1 Cc<|CF Ar Ax 1<|AA 0)<|Gr<|CF Ar Ax 1<|AA 0)
def JO:kL->Option Ru:=A3 1 1 ZA
abbrev Sx:=fA 1 1 P7 JO
abbrev zad:Gx:={ Cv with cl:=[("Machine",Ar,Ax)] }
abbrev zai:Gm:=gA P7 0 [] ["list"] (ox:=zad)
theorem zan:Ck zai Sx P7 ZA:={}
def Yr{M:Mc}(h:McOk M):JO [EW M]=↑(.ok (.own ((M.rs.map (·.1)).map T.str))):=by
 rfl
abbrev P6:Stmt:=DN 40 4
def Rc:AG:=
 (AQ<|m1 Cc<|Jw (CF Ar Ax 1<|AA 0)<|AA 1)
def Kr:kL->Option Ru:=A3 2 2 Rc
abbrev bX:=fA 1 2 P6 Kr
abbrev zar:Gx:={ Cv with cl:=[("Machine",Ar,Ax)] }
abbrev zav:Gm:=gA P6 0 [] ["list"] (ox:=zar)
theorem zb0:Ck zav bX P6 Rc:={}
def Zv{ws:kE}(hd:ws.Nodup){i:Nat}(hi:i<ws.length):CQ ws ws[i]=↑i:=by
 unfold CQ;rw[ě];refine{hi,@decide_eq_true _ (Classical.propDecidable _) rfl,λj hj q=>?_}
 have:=@of_decide_eq_true _ (Classical.propDecidable _) q;have:=(ğ hd).mp this
 lia
def zl3{M:Mc}(h:McOk M){i:Nat}(hi:i<M.rs.length):Kr [EW M,.str M.rs[i].1]=↑(.ok<|.own M.rs[i].2):=by
 have e:=Zv h.r.nd (i:=i)<|by simp_all
 rw[Ε]at e;have e2:(M.rs.map λr=>T.lst r.2)[i]?=↑(.lst M.rs[i].2):=by simp_all
 have k:=(h.r.lk _<|Ò hi).1.sh;unfold Kr Rc
 simp![Jw,AV,AS,h.ss,h.sd,AJ _ h.ss,AJ _ h.sd,e,e2,k,AJ _ k]
abbrev P9:Stmt:=DN 40 3
def Rh:AG:=
 (AQ<|DO (m1 Cc<|CF Ar Ax 2<|AA 0)<|Gr<|CF Ar Ax 2<|AA 0)
def Ks:kL->Option Ru:=A3 1 1 Rh
abbrev bY:=fA 1 1 P9 Ks
abbrev zae:Gx:={ Cv with cl:=[("Machine",Ar,Ax)] }
abbrev zaj:Gm:=gA P9 0 [] ["list"] (ox:=zae)
theorem zao:Ck zaj bY P9 Rh:={}
def zl6{M:Mc}(h:McOk M):Ks [EW M]=↑(.ok<|.own<|M.ds.map Ad):=by
 unfold Ks Rh
 simp![AV,AS,h.ss,h.sd,AJ _ h.ss,AJ _ h.sd]
abbrev QB:Stmt:=DN 39 1
def SA:AG:=
 (AQ<|DO (m1 Cc<|CF BP B0 2<|AA 0)<|Gr<|CF BP B0 2<|AA 0)
def Nb:kL->Option Ru:=A3 1 1 SA
abbrev cG:=fA 1 1 QB Nb
abbrev zc7:Gx:={ Cv with cl:=[("Door",BP,B0)] }
abbrev zck:Gm:=gA QB 0 [] ["list"] (ox:=zc7)
theorem zcy:Ck zck cG QB SA:={}
def zlw{d:Dr}(h:A6 d.g=true):Nb [Ad d]=↑(.ok<|.own d.g):=by
 unfold Nb SA
 simp![AV,AS,h,AJ _ h]
abbrev QA:Stmt:=DN 39 2
def Ry:AG:=
 (AQ<|DO (m1 Cc<|CF BP B0 3<|AA 0)<|Gr<|CF BP B0 3<|AA 0)
def Na:kL->Option Ru:=A3 1 1 Ry
abbrev cF:=fA 1 1 QA Na
abbrev zc5:Gx:={ Cv with cl:=[("Door",BP,B0)] }
abbrev zci:Gm:=gA QA 0 [] ["list"] (ox:=zc5)
theorem zcw:Ck zci cF QA Ry:={}
def zlu{d:Dr}(h:A6 d.g=true):Na [Ad d]=↑(.ok<|.own<|d.n.map T.str):=by
 unfold Na Ry
 simp![AV,AS,h,AJ _ h]
abbrev PZ:Stmt:=AL 12
def R7:AG:=
 (AQ<|m2 Al (m2 Bm (mI 2)<|AA 0)<|mI 1)
def G4:kL->Option Ru:=A3 1 1 R7
abbrev KY:=fA 1 1 PZ G4
abbrev zea:Gm:=gA PZ 0 [] []
theorem zel:Ck zea KY PZ R7:={}
def fH(i:Int):G4 [.int i]=↑(.ok<|.int<|2 * i+1):=by
 have m:Bs 2 i=true:=HY<|DE (by decide)<|by decide
 unfold G4 R7
 simp![m]
def ND:G4 [.int 0]=↑(.ok<|.int 1):=fH 0
abbrev PY:Stmt:=AL 13
def R6:AG:=
 (AQ<|m2 Bm (mI 2)<|AA 0)
def Kq:kL->Option Ru:=A3 1 1 R6
abbrev bV:=fA 1 1 PY Kq
abbrev zi1:Gm:=gA PY 0 [] []
theorem zig:Ck zi1 bV PY R6:={}
def bl_ok(i:Int):Kq [.int i]=↑(.ok<|.int<|2 * i):=by
 have m:Bs 2 i=true:=HY<|DE (by decide)<|by decide
 unfold Kq R6
 simp![m]
abbrev Oh:Stmt:=AL 14
def RD:AG:=
 (AQ<|m2 Bd (AA 0)<|mI 2)
def NM:kL->Option Ru:=A3 1 1 RD
abbrev aY:=fA 1 1 Oh NM
abbrev zcb:Gm:=gA Oh 0 [] []
theorem zcp:Ck zcb aY Oh RD:={}
def Yh(i:Int):NM [.int i]=↑(.ok<|.int<|i / 2):=by
 have m:Bk 2=true:=CN (by decide)<|by decide
 have f:i.fdiv 2=i / 2:=fd<|by decide
 unfold NM RD
 simp![m,f]
abbrev PC:Stmt:=AL 15
def RP:AG:=
 (AQ<|m2 BD (m2 BB (AA 0)<|mI 2)<|mI 0)
def NS:kL->Option Ru:=A3 1 1 RP
abbrev bK:=fA 1 1 PC NS
abbrev ze7:Gm:=gA PC 0 [] []
theorem zei:Ck ze7 bK PC RP:={}
def Zp(i:Int):NS [.int i]=↑(.ok<|.bl<|i % 2 == 0):=by
 have f:i.fmod 2=i % 2:=fm<|by decide
 unfold NS RP
 simp![f,Dd]
abbrev Ol:Stmt:=AL 16
def RG:AG:=
 (AF (Ab (m2 (Cg false) (AA 0)<|mC .non) (AQ<|AA 1) A8)
 (AF (Ab (m2 (Cg false) (AA 1)<|mC .non) (AQ<|AA 0) A8)
 (AQ<|m2 Jq (AA 0)<|AA 1)))
def JG:kL->Option Ru:=A3 2 2 RG
abbrev So:=fA 1 2 Ol JG
abbrev zd8:Gm:=gA Ol 0 [] ["min"]
theorem zdj:Ck zd8 So Ol RG:={}
def Y8(a b:Db.B):JG [bT a,bT b]=↑(.ok<|bT<|Db.mn a b):=by
 unfold JG RG;cases a with
 |none=>rfl|some a=>
  cases b with
  |none=>rfl|some b=>
   simp![Db.mn]
   lia
abbrev PQ:Stmt:=AL 50
def RW:AG:=
 (AF (Ab (BK (m2 BD (AA 0)<|mI 0)<|m2 BD (AA 0)<|AA 1) (AQ<|AN G4<|AB (mI 0) AE) A8)
 (AQ<|mC .non))
def NX:kL->Option Ru:=A3 2 2 RW
abbrev bP:=fA 2 2 PQ NX
abbrev zbq:Gm:=gA PQ 1 [("at_most",KY)] []
theorem zbw:Ck zbq bP PQ RW:={}
def fb_ok(i j:Nat):NX [.int i,.int j]=↑(.ok<|bT<|Db.free i j):=by
 unfold NX RW
 by_cases h0:i=0
 .subst h0
  simp![Dd,ND,Db.free]
 .by_cases h:i=j
  .subst h;have e1:((i:Int) == 0)=false:=by lia
   simp![Dd,e1,ND,Db.free]
  .have e1:((i:Int) == 0)=false:=by lia
   have e2:((i:Int) == (j:Int))=false:=by simp;lia
   simp![Dd,e1,e2,Db.free,h0,h]
abbrev O8:Stmt:=AL 53
def Nv:AG:=
 (Ab (m2 (Cg false) (AA 5)<|mC .non) (Co 3<|AA 4) (AF (AO (m2 E8 (m2 Al (AA 1)<|AA 5)<|m2 Kf (m2 Kc (AA 1)<|AA 5)<|mI 1)<|AD 6)
 (Co 3<|EF (BK (m2 (Cg false) (AA 4)<|mC .non)<|m2 (BX λi j=>decide (i<j)) (AA 6)<|AA 4) (AA 6)<|AA 4)))
def Qu:AG:=
 (AF (C0 3<|BH AE)
 (AF (B7 (Gw<|mJ 0<|mJ 2 AE) (Ak 2<|AI (AD 4)<|AI (AD 5) Am) Nv)
 (AQ<|AA 3)))
def NK:kL->Option Ru:=A3 3 7 Qu
abbrev aR:=fA 1 3 O8 NK
abbrev zd6:Gm:=gA O8 0 [] ["zip"] ["told"]
theorem zdh:Ck zd6 aR O8 Qu:={}
def ro_ok{n:Nat}(hn:n<=100000)(r s:Nat->Db.B)(c:Int):NK [rT n r,.int c,rT n s]=↑(.ok<|.own<|mT n λj=>bT<|Db.mn (r j)<|Db.add ↑c<|s j):=by
 have loop:=KW (b:=Ak 2<|AI (AD 4)<|AI (AD 5) Am) (body:=Nv) (n:=n) (g:=λi=>.tup [bT<|r i,bT<|s i]) (Y:=[↑(rT n r),↑(.int c),↑(rT n s),↑(.own []),none,none,none])
  (λi Y=>∃x y z,Y=[↑(rT n r),↑(.int c),↑(rT n s),↑(.own<|mT i λj=>bT<|Db.mn (r j)<|Db.add ↑c<|s j),x,y,z])
  {(none),none,none,rfl} (by
   rintro i Y hi ⟨x,y,z,rfl⟩;have l1:i<100000:=by lia
   refine{_,by simp![];rfl,?_}
   unfold Nv;cases hs:s i with
   |none=>
    refine{_,by simp![l1];rfl,↑(bT<|r i),↑.non,z,?_}
    rw[<- Ib,hs];cases r i<;>rfl
   |some m=>
    have e1:c+m - Builtin.bitAnd (Builtin.bitOr c m) 1=Db.bs c m:=by rw[Db.bor_one,Db.bs_eq]
    cases hr:r i with
    |none=>
     refine{_,by simp![e1,l1];rfl,↑.non,↑(.int m),↑(.int<|Db.bs c m),?_}
     rw[<- Ib,hs,hr]
     rfl
    |some o=>
     by_cases h:Db.bs c m<o
     .refine{_,by simp![e1,h,l1];rfl,↑(.int o),↑(.int m),↑(.int<|Db.bs c m),?_}
      rw[<- Ib,hs,hr];rw[show Db.mn ↑o (Db.add ↑c ↑m)=↑(Db.bs c m) by show ↑(min _ _)=_;rw[show min o (Db.bs c m)=Db.bs c m by lia]]
      rfl
     .refine{_,by simp![e1,h,l1];rfl,↑(.int o),↑(.int m),↑(.int<|Db.bs c m),?_}
      rw[<- Ib,hs,hr];rw[show Db.mn ↑o (Db.add ↑c ↑m)=↑o by show ↑(min _ _)=_;rw[show min o (Db.bs c m)=o by lia]]
      rfl)
 let(Y',e1,x,y,z,rfl):=loop;unfold NK Qu
 simp![zm8,e1]
abbrev PL:Stmt:=AL 52
def Tq:AH:=
 (m2 (BX λi j=>decide (i<j)) (AK (AA 1)<|AA 0)<|AN G4<|AB (mI 0) AE)
def RU:AG:=
 (AQ<|m1 Kg<|BF 2 [] (E1<|mJ 0 AE) (Ak 2<|AI (AD 0)<|AI (AD 1) Am) (mC<|.bl true) Tq)
def NV:kL->Option Ru:=A3 1 1 RU
abbrev bN:=fA 2 1 PL NV
abbrev zch:Gm:=gA PL 1 [("at_most",KY)] ["any","enumerate"]
theorem zcv:Ck zch bN PL RU:={}
def zq2{n:Nat}{f:Db.Z}(hn:n<=100000){d:Nat->Int}(hd:∀i,i<n->f i i=↑(d i)):NV [zT n f]=↑(.ok<|.bl<|(List.range n).any λi=>decide (d i<1)):=by
 have lc:=F6 (n:=n) (me:=Tq) (x:=none) (y:=none) (cs:=[]) (u:=λi=>.int (i:Int)) (w:=λi=>rT n<|f i) (f:=λi=>.bl<|decide (d i<1)) λi hi=>by
  unfold Tq
  simp![Q5,Lv,Cb hi,hd i hi,ND]
 unfold NV RU;have c:n<=100000:=by lia
 simp![zgm,U8,Lv,Q5,E1,TQ,lc,c,Iz,List.any_map,Function.comp_def,id_eq]
abbrev Oj:Stmt:=AL 51
def Th:AH:=
 (AN JG<|mJ 1<|AB (AN NX<|mJ 2<|mJ 0 AE) AE)
def Mr:AH:=
 (BF 2 [0] (E1<|mJ 1 AE) (Ak 2<|AI (AD 0)<|AI (AD 1) Am) (mC<|.bl true) Th)
def Tg:AH:=
 (EF (m2 (Cg false) (AK (AA 0)<|AA 1)<|mC .non) (AA 0)<|AN NK<|mJ 0<|AB (AK (AA 0)<|AA 1)<|mJ 2 AE)
def JW:AG:=
 (AF (Ab (AN NV<|mJ 1 AE) (AQ<|mC .non) A8)
 (AF (AO (AK (AA 1)<|AA 2)<|AD 3)
 (AO (BF 1 [2,3] (Av<|AA 1) (AD 0) (mC<|.bl true) Tg)<|AD 1)))
def RF:AG:=
 (AF (AO (BF 2 [] (E1<|mJ 0 AE) (Ak 2<|AI (AD 0)<|AI (AD 1) Am) (mC<|.bl true) Mr)<|AD 1)
 (AF (B7 (CI<|AB (m1 BA<|AA 1) AE) (AD 2) JW)
 (AQ<|AA 1)))
def Hr:kL->Option Ru:=A3 1 4 RF
abbrev bA:=fA 3 1 Oj Hr
abbrev zcc:Gm:=gA Oj 2 [("narrower",So),("free_bound",bP),("is_broken",bN),("row_over",aR)] ["enumerate","range","len"]
theorem zcq:Ck zcc bA Oj RF:={}
def WS{n:Nat}{f:Db.Z}{d:Nat->Int}(hd:∀i,i<n->f i i=↑(d i)):((List.range n).any λi=>decide (d i<1))=true ↔ Db.Brk n f:=by
 rw[Δ];constructor
 .rintro⟨i,hi,h⟩;have hi:=á.mp hi;refine{i,hi,?_};rw[hd i hi];erw[Db.le]
  lia
 .rintro⟨i,hi,h⟩;refine{i,á.mpr hi,Ì ?_};rw[hd i hi]at h;erw[Db.le]at h
  lia
def zft(f:Db.Z)(k i:Nat):∃d,Db.fw f k i i=↑d:=by
 have:=Db.diag_le f i k;cases h:Db.fw f k i i with
 |none=>rw[h]at this;exact this.elim|some d=>lia
def zon{n:Nat}(hn:n<=100000)(f:Db.Z):(Db.Sound n f->Hr [zT n f]=↑(.ok<|zT n<|Db.fw f n))/\(¬ Db.Sound n f->Hr [zT n f]=↑(.ok .non)):=by
 have l1:n<=100000:=by lia
 have in1:∀i,i<n->Mr [↑(.int (i:Int)),↑(rT n<|f i)]=↑(.v (.own<|mT n λj=>bT<|Db.z0 f i j) false):=λi hi=>by
  have lc:=F6 (n:=n) (me:=Th) (x:=none) (y:=none) (cs:=[↑(.int (i:Int))]) (u:=λj=>.int (j:Int)) (w:=λj=>bT<|f i j) (f:=λj=>bT<|Db.z0 f i j) λj hj=>by
   unfold Th
   simp![fb_ok,Y8]
   rfl
  unfold Mr
  simp![E1,TQ,lc,l1]
 have lc0:=F6 (n:=n) (me:=Mr) (x:=none) (y:=none) (cs:=[]) (u:=λi=>.int (i:Int)) (w:=λi=>rT n<|f i) (f:=λi=>.own<|mT n λj=>bT<|Db.z0 f i j) in1
 have loop:=zlr (b:=AD 2) (body:=JW) (n:=n) (g:=λi=>.int (i:Int)) (Y:=[↑(zT n f),↑(zT n<|Db.fw f 0),none,none]) (λk=>¬ Db.Brk n (Db.fw f k)) .non
  (λk Y=>∃x y,Y=[↑(zT n f),↑(zT n<|Db.fw f k),x,y]) {(none),none,rfl} (by
   rintro k Y hk - ⟨x,y,rfl⟩;refine{_,by simp![];rfl,?_}
   have hd:∀i,i<n->Db.fw f k i i=↑((Db.fw f k i i).getD 0):=λi _=>by
    let(d,e):=zft f k i;rw[e]
    rfl
   have b1:=zq2 hn hd
   by_cases hb:Db.Brk n<|Db.fw f k
   .right;refine{λq=>q hb,?_}
    rw[(WS hd).mpr hb]at b1;unfold JW
    simp![b1]
   .left;refine{hb,?_}
    have b2:((List.range n).any λi=>decide ((Db.fw f k i i).getD 0<1))=false:=by
     cases q:((List.range n).any λi=>decide ((Db.fw f k i i).getD 0<1)) with
     |false=>rfl|true=>exact absurd ((WS hd).mp q) hb
    rw[b2]at b1;generalize hg:Db.fw f k=g at *
    have lc:=Dy (n:=n) (me:=Tg) (x:=none) (cs:=[↑(.int (k:Int)),↑(rT n<|g k)]) (g:=λi=>rT n<|g i) (f:=λi=>match g i k with|none=>rT n (g i)|some c=>.own<|mT n λj=>bT<|Db.mn (g i j)<|Db.add ↑c<|g k j) λi hi=>by
     unfold Tg;cases e:g i k with
     |none=>simp![Cb hk,e]|some c=>simp![Cb hk,e,ro_ok hn]
    have e2:(mT n λi=>(match g i k with|none=>rT n (g i)|some c=>T.own<|mT n λj=>bT<|Db.mn (g i j)<|Db.add ↑c<|g k j).share)=mT n λi=>rT n<|Db.stp g k i:=EX λi hi=>by
     cases e:g i k with
     |none=>
      erw[Lv];unfold rT;rw[EX λj hj=>?_]
      unfold Db.stp;rw[e];cases g i j<;>rfl
     |some c=>
      simp![]
      rw[EX λj hj=>?_]
      unfold Db.stp;rw[e]
    refine{[↑(zT n f),↑(zT n<|Db.stp g k),↑(.int (k:Int)),↑(rT n<|g k)],.inl ?_,↑(.int (k:Int)),↑(rT n<|g k),?_}
    .unfold JW
     simp![b1,Cb hk,lc,l1]
     rw[e2]
    .rw[show Db.fw f (k+1)=Db.stp g k by rw[<- hg];rfl])
 have hr:CB (n:Int)=true:=EV hn
 have st:∀r,Aj (AD 2) JW (mT n λi=>.int (i:Int)) [↑(zT n f),↑(zT n<|Db.fw f 0),none,none]=r->Hr [zT n f]=(match (match r with|some (.nx Y')=>AQ (AA 1) Y'|r=>r) with
   |some (.rt t)=>↑(Ru.ok t)|some (.nx _)=>↑(.ok .non)|some (.xc c _)=>↑(.exc c)|_=>none):=by
  rintro _ rfl;unfold Hr RF
  simp![E1,TQ,lc0,l1,hr,C9]
  rfl
 rcases loop with ⟨h1,Y',e,x,y,rfl⟩|⟨⟨i,hi,hb⟩,e⟩
 .refine{λ_=>?_,λh=>absurd (λk hk=>h1 k hk) h}
  rw[st _ e]
  simp![]
 .refine{λh=>absurd (h i hi) hb,λ_=>?_}
  rw[st _ e]
abbrev Oo:Stmt:=AL 28
def RI:AG:=
 (AF (C0 4<|BH AE)
 (AF (Ab (m2 BD (AA 2)<|mC<|.str "<") (Co 4<|BZ<|mJ 0<|mJ 1<|AB (AN Kq<|mJ 3 AE) AE) A8)
 (AF (Ab (BK (m2 BD (AA 2)<|mC<|.str "<=")<|m2 BD (AA 2)<|mC<|.str "=") (Co 4<|BZ<|mJ 0<|mJ 1<|AB (AN G4<|mJ 3 AE) AE) A8)
 (AF (Ab (m2 BD (AA 2)<|mC<|.str ">") (Co 4<|BZ<|mJ 1<|mJ 0<|AB (AN Kq<|AB (m1 Et<|AA 3) AE) AE) A8)
 (AF (Ab (BK (m2 BD (AA 2)<|mC<|.str ">=")<|m2 BD (AA 2)<|mC<|.str "=") (Co 4<|BZ<|mJ 1<|mJ 0<|AB (AN G4<|AB (m1 Et<|AA 3) AE) AE) A8)
 (AQ<|AA 4))))))
def NO:kL->Option Ru:=A3 4 5 RI
abbrev bB:=fA 2 4 Oo NO
abbrev zb8:Gm:=gA Oo 1 [("below",bV),("at_most",KY)] [] ["bounds"]
theorem zbg:Ck zb8 bB Oo RI:={}
def Eh:Nat->Str
 |0=>"<"|1=>"<="|2=>">"|3=>">="|_=>"="
def Nu{w:Nat}(h:w<5):BD (.str<|Eh w) (.str "<")=↑(.bl<|w == 0)/\BD (.str<|Eh w) (.str "<=")=↑(.bl<|w == 1)/\BD (.str<|Eh w) (.str ">")=↑(.bl<|w == 2)/\BD (.str<|Eh w) (.str ">=")=↑(.bl<|w == 3)/\BD (.str<|Eh w) (.str "=")=↑(.bl<|w == 4):=by
 have:w=0\/w=1\/w=2\/w=3\/w=4:=by lia
 rcases this with rfl|rfl|rfl|rfl|rfl<;>refine⟨?_,?_,?_,?_,?_⟩<;>ext
abbrev Dx(l:Nat×Nat×Int):T:=.tup [.int (l.1:Nat),.str<|Eh l.2.1,.int l.2.2]
def Look(m:Nat)(l:Nat×Nat×Int):Prop:=0<l.1/\l.1<m+1/\l.2.1<5
abbrev BC(x:Dv.Lim):T:=.tup [.int (x.1:Nat),.int (x.2.1:Nat),.int x.2.2]
def D0(i j:Nat):Nat->Int->List Dv.Lim
 |0,n=>[(i,j,2 * n)]|1,n=>[(i,j,2 * n+1)]|2,n=>[(j,i,2 * -n)]|3,n=>[(j,i,2 * -n+1)]|_,n=>[(i,j,2 * n+1),(j,i,2 * -n+1)]
def zp5{i j w:Nat}{n:Int}(hw:w<5):NO [.int (i:Nat),.int (j:Nat),.str<|Eh w,.int n]=↑(.ok<|.own<|(D0 i j w n).map BC):=by
 let(s0,s1,s2,s3,s4):=Nu hw;have:w=0\/w=1\/w=2\/w=3\/w=4:=by lia
 unfold NO RI
 rcases this with rfl|rfl|rfl|rfl|rfl<;>simp![s0,s1,s2,s3,s4,bl_ok,fH,D0]
def zle(i j w:Nat)(n:Int):(D0 i j w n).length<=2:=by
 unfold D0;split<;>simp
theorem zp6{i j w N:Nat}{n:Int}(hi:i<N)(hj:j<N):Dv.In N<|D0 i j w n:=λx hx=>by
 unfold D0 at hx;split at hx<;>erw[Ê,ê]at hx
 all_goals lia
abbrev Oi:Stmt:=AL 48
def Tf:AH:=
 (Dw Ar Ax JN (AA 1)<|mJ 0 AE)
def RE:AG:=
 (AQ<|BF 1 [0] (Av<|Dw BP B0 Na (AA 1) AE) (AD 0) (mC<|.bl true) Tf)
def NN:kL->Option Ru:=A3 2 2 RE
abbrev aZ:=fA 2 2 Oi NN
abbrev zab:Gx:={ Cv with mt:=[("sets",BP,B0,cF),("watch_number",Ar,Ax,Sw)] }
abbrev zaf:Gm:=gA Oi 1 [] [] (ox:=zab)
theorem zak:Ck zaf aZ Oi RE:={}
def Ao(ws ns:kE):kG:=ns.map λx=>(CQ ws x).getD 0+1
abbrev IS(l:kG):kL:=l.map λp:Nat=>T.int (p:Int)
def zot(l:kG):A6 (IS l)=true:=EO λ_ _=>rfl
def np_ok{M:Mc}(h:McOk M){d:Dr}(hd:d∈M.ds):NN [Ap M,Ad d]=↑(.ok<|.own<|IS<|Ao M.ws d.n):=by
 have D:=h.d d hd;have sg:=D.g.sh;have sm:=FT h;have sets:=zlu sg
 have lc:=Hc (b:=AD 0) (me:=Tf) T.str (λx=>.int ((CQ M.ws x).getD 0+1:Nat)) (λY=>∃x,Y=[x,↑(Ap M)]) d.n [none,↑(Ap M)] {(none),rfl} λx hx Y hI=>by
  let(y,rfl):=hI;let(j,ej,_):=Hg<|D.n x hx;have en:JN [Ap M,.str x]=↑(.ok<|.int<|j+1):=Yt h ej;refine{[↑(.str x),↑(Ap M)],by simp![],?_,_,rfl}
  unfold Tf;rw[ej]
  simp![-DP,Jr,sm,CY _ sm,en,Η,Int.natCast_add]
 have e1:IS (Ao M.ws d.n)=d.n.map λx=>.int ((CQ M.ws x).getD 0+1:Nat):=by
  unfold IS Ao
  simp_all
 have nl:d.n.length<=100000:=by have:=D.nl;lia
 rw[e1];unfold NN RE
 simp![sm,CY _ sm,sets,sg,AJ _ sg,AS,AV,Á,nl,lc]
def oT(n:Nat):Option Db.Z->T
 |none=>.non|some f=>zT n f
def oT_sh(n:Nat)(o:Option Db.Z):(oT n o).sh=true:=by
 cases o with
 |none=>rfl|some f=>exact U8 n f
abbrev Nf(m:Nat)(L:List<|Nat×Nat×Int):Prop:=∀l∈L,Look m l
open Classical in
def GI(n:Nat)(f:Db.Z):Option Db.Z:=if Db.Sound n f then ↑(Db.fw f n) else none
def zoo{n:Nat}(hn:n<=100000)(f:Db.Z):Hr [zT n f]=↑(.ok<|oT n<|GI n f):=by
 let(h1,h2):=zon hn f;unfold GI;split
 .exact h1 ‹_›
 .exact h2 ‹_›
def MU(L:List<|Nat×Nat×Int):A6 (L.map Dx)=true:=EO λ_ _=>rfl
def DB(y:Str):Nat:=if y=Str.ofString "<" then 0 else if y=Str.ofString "<=" then 1 else if y=Str.ofString ">" then 2 else if y=Str.ofString ">=" then 3 else 4
def LG:∀y∈BY,Eh (DB y)=y/\DB y<5:=by decide +kernel
def A2(ws:kE)(t:T):Nat×Nat×Int:=((CQ ws<|DF t).getD 0+1,DB<|Cs t,Bc t)
def Q9{ws:kE}{l:kL}(h:BE ws BY l):l.map (GD ws)=(l.map<|A2 ws).map Dx:=by
 rw[ý];refine İ λt ht=>?_
 let(k1,k2,k3,k4):=Gs<|h t ht;show GD ws t=Dx (A2 ws t);unfold GD A2;rw[show Dx ((CQ ws<|DF t).getD 0+1,DB<|Cs t,Bc t)=.tup [.int (((CQ ws<|DF t).getD 0+1:Nat):Int),.str<|Eh<|DB<|Cs t,.int<|Bc t] from rfl,(LG _ k3).1]
 rfl
theorem Jh{ws:kE}{l:kL}(h:BE ws BY l):Nf ws.length<|l.map<|A2 ws:=λx hx=>by
 let(t,ht,rfl):=Ó.mp hx;let(k1,k2,k3,k4):=Gs<|h t ht;let(j,ej,hj,_):=Hg k2;refine{Nat.succ_pos _,?_,(LG _ k3).2};show(CQ ws<|DF t).getD 0+1<_;rw[ej,Η]
 lia
theorem BE.wd{ws:kE}{l:kL}(h:BE ws DR l):BE ws BY l:=λt ht=>by
 let(x,y,n,e,h1,h2,h3):=h t ht;refine{x,y,n,e,h1,?_,h3}
 revert y
 have:∀y∈DR,y∈BY:=by decide +kernel
 exact λy _ h=>this y h
def cK{α:Type}{x:Str}{v:α}:∀{rs:List<|Str×α},(rs.map (·.1)).Nodup->(x,v)∈rs->rs.find? (λq=>decide (q.1=x))=↑(x,v)
 |[],_,h=>by cases h|a::l,nd,h=>by
  rw[Ï,ĺ]at nd
  rcases Ê.mp h with rfl|h
  .simp_all
  .rw[List.find?_cons_of_neg λz=>nd.1 ?_]
   .exact cK nd.2 h
   simp_all
def DS(ws:kE)(rs:List<|Str×kL)(x:Str):List<|Nat×Nat×Int:=(((rs.find? λq=>decide (q.1=x)).map (·.2)).getD []).map (A2 ws)
def Vl{ws:kE}{rs:List<|Str×kL}(nd:(rs.map (·.1)).Nodup){r:Str×kL}(h:r∈rs):DS ws rs r.1=r.2.map (A2 ws):=by
 unfold DS;rw[cK (v:=r.2) nd h]
 rfl
def Vj{M:Mc}(h:McOk M)(x:Str):Nf M.ws.length<|DS M.ws M.rs x:=by
 unfold DS;cases e:M.rs.find? λq=>decide (q.1=x) with
 |none=>simp_all|some r=>exact Jh (h.r.lk r<|List.mem_of_find?_eq_some e).1.wd
abbrev PM:Stmt:=AL 9
def IC:AH:=
 (m2 CD (AA 3)<|mI 0)
def Nz:AG:=
 (AF (AO (m2 BB (AA 2)<|AA 3)<|AD 4)
 (AF (AO (AA 3)<|AD 2)
 (AO (AA 4)<|AD 3)))
def RV:AG:=
 (AF (AO (m1 JB<|AA 0)<|AD 2)
 (AF (AO (m1 JB<|AA 1)<|AD 3)
 (AF (Fi IC Nz)
 (AQ<|AA 2))))
def NW:kL->Option Ru:=A3 2 5 RV
abbrev bO:=fA 1 2 PM NW
abbrev za3:Gm:=gA PM 0 [] ["abs"]
theorem za4:Ck za3 bO PM RV:={}
def gd_ok(a b:Int):NW [.int a,.int b]=↑(.ok<|.int<|Zm.gd a b):=by
 have loop:=WG (mc:=IC) (body:=Nz)
  (λY=>∃(g l:Int) (r:kH),Y=[↑(.int a),↑(.int b),↑(.int g),↑(.int l),r]/\0<=g/\0<=l/\Zm.gd g l=Zm.gd a b)
  (λY=>match Y with|[_,_,_,↑(.int l),_]=>l.natAbs|_=>0)
  {_,_,none,rfl,by split<;>lia,by split<;>lia,Zm.gd_abs a b} (by
   rintro Y ⟨g,l,r,rfl,hg,hl,e⟩
   by_cases h0:l=0
   .right;exact{false,by unfold IC;simp![Eb,h0]}
   .left;refine{false,by unfold IC;simp![Eb];simp[h0],[↑(.int a),↑(.int b),↑(.int l),↑(.int<|g.fmod l),↑(.int<|g.fmod l)],by unfold Nz;simp![h0],{_,_,_,rfl,hl,?_,?_},?_}
    .exact û g<|by lia
    .exact Zm.gd_turn e
    .exact Zm.fmod_less g h0)
 let(Y',e1,(g,l,r,rfl,hg,hl,e),bb,e2):=loop
 have hl0 :=by
  have e3:IC [↑(.int a),↑(.int b),↑(.int g),↑(.int l),r]=↑(.v (.bl<|!(l == 0)) false):=by unfold IC;simp![Eb]
  rw[e3]at e2;exact(by simpa using e2:l=0/\bb=false).1
 have hgd:g=Zm.gd a b:=by
  rw[<- e,hl0];unfold Zm.gd;rw[Int.gcd_zero_right]
  lia
 unfold NW RV
 simp![e1]
 rw[hgd]
abbrev WB:Stmt:=AL 10
def RX:AG:=
 (AF (Ab (BK (Au<|AN JI<|mJ 0 AE)<|Au<|AN JI<|mJ 1 AE) (C8 "NoNumber"<|AB (mC<|.str "a fraction is made of two whole numbers") AE) A8)
 (AF (Ab (m2 BD (AA 1)<|mI 0) (C8 "NoNumber"<|AB (mC<|.str "the bottom of a fraction is not 0") AE) A8)
 (AF (AO (AN NW<|mJ 0<|mJ 1 AE)<|AD 2)
 (AF (Ab (m2 (BX λi j=>decide (i<j)) (AA 1)<|mI 0) (AO (m1 Et<|AA 2)<|AD 2) A8)
 (AQ<|BZ<|AB (m2 Bd (AA 0)<|AA 2)<|AB (m2 Bd (AA 1)<|AA 2) AE)))))
def NY:kL->Option Ru:=A3 2 3 RX
abbrev bQ:Fn:={2,["top","bottom"],NY}
abbrev zdb:Gm:=gA WB 1 [("is_whole",Mf),("greatest_divisor",bO)] [] (ex:=["NoNumber"])
theorem zdm:Ck zdb bQ WB RX:={}
def fr_ok{t b:Int}(hb:0<b)(hs:b<10 ^ 70):NY [.int t,.int b]=↑(.ok<|fr (Zm.lt t b)<|Zm.lb t b):=by
 have g0:0<Zm.gd t b:=Zm.gd_pos<|by lia
 have g1:Zm.gd t b<=b:=Zm.gd_le hb;have gs :=CN (by lia)<|by lia (config:={})
 have n0:(b == 0)=false:=by lia
 have n1:decide (b<0)=false:=by lia
 have n2:(Zm.gd t b≠0)=True:=by lia
 unfold NY RX
 simp![Uk,gd_ok,Dd,n0,n1,gs,n2]
 rfl
abbrev Oe:Stmt:=AL 21
def LJ:AG:=
 (AF (AO (m2 E8 (AK (AA 0)<|AA 3)<|AA 5)<|AD 6)
 (Ab (m2 (BX λi j=>decide (j<i)) (AA 6)<|AK (AA 0)<|AA 4) (AF (Gd 0 (AA 4)<|AA 6)
 (AO (mC<|.bl true)<|AD 2)) A8))
def RA:AG:=
 (AF (AO (mC<|.bl false)<|AD 2)
 (AF (B7 (Av<|AA 1) (Ak 3<|AI (AD 3)<|AI (AD 4)<|AI (AD 5) Am) LJ)
 (J9<|AA 2)))
def NL:kL->Option Ru:=Gf 2 7 RA
abbrev aU:=fA 1 2 Oe NL
abbrev zca:Gm:=gA Oe 0 [] [] ["values"] (mu:=true)
theorem zco:Ck zca aU Oe RA:={}
abbrev DG(x:Dv.Lim):T:=.tup [.int (x.1:Nat),.int (x.2.1:Nat),.int x.2.2]
abbrev iT(n:Nat)(v:Nat->Int):kL:=mT n λk=>.int<|v k
def FZ:∀L:List Dv.Lim,BN (L.map DG)=L.map DG
 |[]=>rfl|x::L=>by rw[Ï,BN,FZ L];rfl
def Ez:∀L:List Dv.Lim,A6 (L.map DG)=true
 |[]=>rfl|x::L=>by rw[Ï,A6,Ez L];rfl
def Q3{n:Nat}{p:Addr}{A:T}(hA:A.sh=true):∀(L:List Dv.Lim) (v:Nat->Int) (b:Bool) (x3 x4 x5 x6:kH),Dv.In n L ->
  ∃y3 y4 y5 y6,Aj (Ak 3<|AI (AD 3)<|AI (AD 4)<|AI (AD 5) Am) LJ (L.map DG) [↑(.nd true (.pin p)<|iT n v),↑A,↑(.bl b),x3,x4,x5,x6]
   = ↑(.nx [↑(.nd true (.pin p)<|iT n (Dv.rz L v b).1),↑A,↑(.bl (Dv.rz L v b).2),y3,y4,y5,y6])
 |[],v,b,x3,x4,x5,x6,_=>{(x3),x4,x5,x6,rfl}|(i,j,m)::L,v,b,x3,x4,x5,x6,hI=>by
  let(hi,hj):=hI (i,j,m) (Í ..);have hI2:Dv.In n L:=λx hx=>hI x<|É _ hx
  have a1:AU (iT n v) (i:Int)=↑(.int<|v i):=Cb hi;have a2:AU (iT n v) (j:Int)=↑(.int<|v j):=Cb hj
  have i2:Bw n (j:Int)=↑j:=by
   have hj':j<n:=hj;unfold Bw;simp
   lia
  rw[Ï]
  by_cases h:v j<v i - m
  .let(y3,y4,y5,y6,e):=Q3 hA L (Dv.pt v j<|v i - m) true (↑(.int (i:Nat))) (↑(.int (j:Nat))) (↑(.int m)) (↑(.int<|v i - m)) hI2
   have st:(iT n v).set j (.int<|v i - m)=iT n (Dv.pt v j<|v i - m):=by
    unfold iT;rw[Ia];refine EX λk hk=>?_
    unfold Dv.pt
    by_cases e:k=j<;>simp[e]
   have er:Dv.rz ((i,j,m)::L) v b=Dv.rz L (Dv.pt v j<|v i - m) true:=by rw[Dv.rz,if_pos h]
   refine{y3,y4,y5,y6,?_};rw[er,<- e]
   conv=>lhs;unfold Aj
   unfold LJ
   simp![a1,a2,h,i2,st]
  .let(y3,y4,y5,y6,e):=Q3 hA L v b (↑(.int (i:Nat))) (↑(.int (j:Nat))) (↑(.int m)) (↑(.int<|v i - m)) hI2;have er:Dv.rz ((i,j,m)::L) v b=Dv.rz L v b:=by rw[Dv.rz,if_neg h]
   refine{y3,y4,y5,y6,?_};rw[er,<- e]
   conv=>lhs;unfold Aj
   unfold LJ
   simp![a1,a2,h]
def W8{n:Nat}{L:List Dv.Lim}(hI:Dv.In n L)(v:Nat->Int)(p:Addr):NL [.nd true (.pin p)<|iT n v,.lst<|L.map DG]=↑(.ok<|.own [.bl (Dv.rz L v false).2,.nd true (.pin p)<|iT n (Dv.rz L v false).1]):=by
 let(y3,y4,y5,y6,e):=Q3 (p:=p) (A:=.lst<|L.map DG) (by rw[T.sh,Ez];rfl) L v false none none none none hI
 unfold NL RA
 simp![FZ,Ez,e]
abbrev Ot:Stmt:=AL 20
def JX:AG:=
 (Ge true (Jt 2 NL<|mJ 1 AE) (AQ<|AA 2) A8)
def MJ:AG:=
 (AF (C0 2<|m2 Bm (BH<|Ai (mI 0) AE)<|m2 Al (AA 0)<|mI 1)
 (AF (B7 (CI<|AB (m2 Al (AA 0)<|mI 1) AE) (AD 3) JX)
 (AQ<|mC .non)))
def Hs:kL->Option Ru:=A3 2 4 MJ
abbrev bE:=fA 2 2 Ot Hs
abbrev zat:Gm:=gA Ot 1 [] ["range"] ["values"] (mc:=[("raise_all",aU)])
theorem zay:Ck zat bE Ot MJ:={}
def ZF{n:Nat}{L:List Dv.Lim}(hI:Dv.In n L){M:T}:∀(l:kL) (v v':Nat->Int) (x:kH),Dv.tn L l.length v=↑v' ->
  Aj (AD 3) JX l [↑M,↑(.lst<|L.map DG),↑(.own<|iT n v),x]=↑(.rt<|.own<|iT n v')
 |[],v,v',x,h=>by cases h|t::l,v,v',x,h=>by
  rw[Ø,Dv.tn]at h;have g:=aH<|W8 hI v
  conv=>lhs;unfold Aj
  unfold JX;cases hb:(Dv.rz L v false).2 with
  |true=>
   rw[hb]at h;rw[hb]at g;have ih:=ZF hI (M:=M) l _ v' ↑t h
   simp![FZ,Ez,g]
   exact ih
  |false=>
   rw[hb]at h;rw[hb]at g;erw[Ā,Ã,ŧ]at h;subst h
   simp![FZ,Ez,g]
def lv_ok{m:Nat}(hm:m<=1000){L:List Dv.Lim}(hI:Dv.In (m+1) L){v:Nat->Int}(h:Dv.tn L (m+1) (λ_=>0)=↑v):Hs [.int m,.lst<|L.map DG]=↑(.ok<|.own<|iT (m+1) v):=by
 let(k,ek):∃k,k=m+1:={_,rfl};rw[<- ek]at hI h ⊢;have k1:KE ((m:Int)+1)=true/\1 * k<=BS:={Zb (n:=m+1) (by lia),by unfold BS;lia}
 have o2:((m:Int)+1).toNat=k:=by lia
 have o1:CB ((m:Int)+1)=true:=EV (n:=m+1)<|by lia
 have e:=ZF hI (M:=.int m) (mT k λi=>.int (i:Int)) (λ_=>0) v none (by rw[BO];exact h)
 unfold Hs MJ
 simp![k1,o1,o2,WU,C9,FZ,Ez,e]
def ZE{n:Nat}{L:List Dv.Lim}(hI:Dv.In n L){M:T}:∀(l:kL) (v:Nat->Int) (x:kH),Dv.tn L l.length v=none ->
  ∃Y',Aj (AD 3) JX l [↑M,↑(.lst<|L.map DG),↑(.own<|iT n v),x]=↑(.nx Y')
 |[],v,x,h=>{_,rfl}|t::l,v,x,h=>by
  rw[Ø,Dv.tn]at h;have g:=aH<|W8 hI v;cases hb:(Dv.rz L v false).2 with
  |true=>
   rw[hb]at h;rw[hb]at g;let(Y',ih):=ZE hI (M:=M) l _ ↑t h;refine{Y',?_}
   conv=>lhs;unfold Aj
   unfold JX
   simp![FZ,Ez,g]
   exact ih
  |false=>lia
def lv_no{m:Nat}(hm:m<=1000){L:List Dv.Lim}(hI:Dv.In (m+1) L)(h:Dv.tn L (m+1) (λ_=>0)=none):Hs [.int m,.lst<|L.map DG]=↑(.ok .non):=by
 let(k,ek):∃k,k=m+1:={_,rfl};rw[<- ek]at hI h;have k1:KE ((m:Int)+1)=true/\1 * k<=BS:={Zb (n:=m+1) (by lia),by unfold BS;lia}
 have o2:((m:Int)+1).toNat=k:=by lia
 have o1:CB ((m:Int)+1)=true:=EV (n:=m+1)<|by lia
 let(Y',e):=ZE hI (M:=.int m) (mT k λi=>.int (i:Int)) (λ_=>0) none (by rw[BO];exact h)
 unfold Hs MJ
 simp![k1,o1,o2,WU,C9,FZ,Ez,e]
def MT(n:Nat):Option (Nat->Int)->T
 |some v=>.own (iT n v)|none=>.non
def zox{m:Nat}(hm:m<=1000){L:List Dv.Lim}(hI:Dv.In (m+1) L):Hs [.int m,.lst<|L.map DG]=↑(.ok<|MT (m+1)<|Dv.tn L (m+1) λ_=>0):=by
 cases e:Dv.tn L (m+1) λ_=>0 with
 |none=>exact lv_no hm hI e|some v=>exact lv_ok hm hI e
abbrev Oq:Stmt:=AL 19
def Ms:AH:=
 (BZ<|mJ 0<|mJ 1<|AB (m2 E8 (m2 Bm (AN NM<|mJ 2 AE)<|AA 3)<|EF (AN NS<|mJ 2 AE) (mI 1)<|mI 0) AE)
def RJ:AG:=
 (AQ<|BF 3 [1] (Av<|AA 0) (Ak 3<|AI (AD 0)<|AI (AD 1)<|AI (AD 2) Am) (mC<|.bl true) Ms)
def NP:kL->Option Ru:=A3 2 2 RJ
abbrev bD:=fA 2 2 Oq NP
abbrev zce:Gm:=gA Oq 1 [("number_of",aY),("is_open",bK)] []
theorem zcs:Ck zce bD Oq RJ:={}
def EZ(u:Int)(x:Dv.Lim):Dv.Lim:=(x.1,x.2.1,x.2.2 / 2 * u - 1+x.2.2 % 2)
def ZP{u:Int}(hu:DW u=true):∀(L:List Dv.Lim) (x y z:kH),B8 (Ak 3<|AI (AD 0)<|AI (AD 1)<|AI (AD 2) Am) (mC<|.bl true) Ms (L.map DG) [x,y,z,↑(.int u)]=↑((L.map<|EZ u).map DG)
 |[],_,_,_=>rfl|(i,j,c)::L,x,y,z=>by
  have ih:=ZP hu L (↑(.int (i:Nat))) (↑(.int (j:Nat)))<|↑(.int c);have m1:Bs (c / 2) u=true:=Eu hu
  have el:Ms [↑(.int (i:Nat)),↑(.int (j:Nat)),↑(.int c),↑(.int u)]=↑(.v (DG<|EZ u (i,j,c)) false):=by
   unfold Ms EZ;have e0:c % 2=0\/c % 2=1:=by lia
   rcases e0 with e|e
   .have e1:(c % 2 == 0)=true:=by rw[e];rfl
    simp![Yh,Zp,m1,e1,e]
    rw[show c / 2 * u - 1+0=c / 2 * u - 1 by lia]
   .have e1:(c % 2 == 0)=false:=by rw[e];rfl
    simp![Yh,Zp,m1,e1,e]
    rw[show c / 2 * u - 1+1=c / 2 * u - 0 by lia]
  conv=>lhs;unfold B8
  simp![el,ih]
def lo_ok{u:Int}(hu:DW u=true)(L:List Dv.Lim)(hl:L.length<=100000):NP [.lst<|L.map DG,.int u]=↑(.ok<|.own<|(L.map<|EZ u).map DG):=by
 have e:=ZP hu L none none none;unfold NP RJ
 simp![FZ,Ez,e,Á,hl]
abbrev O5:Stmt:=AL 18
def Qq:AG:=
 (AQ<|m2 Bm (AA 1)<|m2 Al (AA 0)<|mI 1)
def NI:kL->Option Ru:=A3 2 2 Qq
abbrev aO:=fA 1 2 O5 NI
abbrev ze5:Gm:=gA O5 0 [] []
theorem zeg:Ck ze5 aO O5 Qq:={}
def uo_ok{m:Nat}{b:Int}(hm:m<=1000):NI [.int m,.int b]=↑(.ok<|.int<|b * ((m:Int)+1)):=by
 have m1:Bs b ((m:Int)+1)=true:=Eu<|DE (by lia)<|by lia
 unfold NI Qq
 simp![m1]
abbrev Oc:Stmt:=AL 56
def LH:AG:=
 (AF (Ab (BK (Au<|AN JI<|mJ 5 AE)<|Au<|FW FA (BX λi j=>decide (i<j)) (mI 0) (AA 5)<|m1 BA<|AA 2) (C8 "NoRoad"<|AB (mC<|.str "a road goes through doors of the machine") AE) A8)
 (AF (AO (AK (AA 2)<|AA 5)<|AD 6)
 (AF (Ab (BK (m2 CD (CF BP B0 4<|AA 6)<|mC<|.str "")<|m2 CD (CF BP B0 0<|AA 6)<|AA 3) (C8 "NoRoad"<|AB (mC<|.str "a road goes on from where it is, and through no door with a sign") AE) A8)
 (AF (AO (CF BP B0 1<|AA 6)<|AD 3)
 (Co 4<|AA 6)))))
def Qy:AG:=
 (AF (Ab (BK (Au<|m1 (CH "list")<|AA 1)<|m2 (BX λi j=>decide (j<i)) (m1 BA<|AA 1)<|mC Ik) (C8 "NoRoad"<|AB (mC<|.str "a road is a list of at most two hundred doors' numbers") AE) A8)
 (AF (AO (Dw Ar Ax Ks (AA 0) AE)<|AD 2)
 (AF (AO (AK (Dw Ar Ax JO (AA 0) AE)<|mI 0)<|AD 3)
 (AF (C0 4<|BH AE)
 (AF (B7 (Av<|AA 1) (AD 5) LH)
 (AQ<|AA 4))))))
def JF:kL->Option Ru:=A3 2 7 Qy
abbrev aT:=fA 2 2 Oc JF
abbrev zbo:Gx:={ Cv with co:=[("MOST_ROAD_DOORS",Ik)],cl:=[("Door",BP,B0)],mt:=[("doors",Ar,Ax,bY),("rooms",Ar,Ax,Sx)] }
abbrev zbp:Gm:=gA Oc 1 [("is_whole",Mf)] ["isinstance","list","len"] ["told"] (ex:=["NoRoad"]) (ox:=zbo)
theorem zbv:Ck zbp aT Oc Qy:={}
def Cp(M:Mc):Str->kF->Option (kI)
 |_,[]=>↑[]|x,k::r=>if 0<=k then (match M.ds[k.toNat]? with
  |some d=>if d.z=Str.empty/\d.s=x then (Cp M d.e r).map (d::·) else none
  |none=>none) else none
def Fj(M:Mc):Str:=((M.rs.map (·.1))[0]?).getD Str.empty
def Dn(M:Mc)(ks:kF):Option<|kI:=if ks.length<=200 then Cp M (Fj M) ks else none
def Lo:Option (kI)->Ru
 |some l=>.ok (.own<|l.map Ad)|none=>.exc "NoRoad"
def QW{M:Mc}:∀{ks:kF} {x:Str} {l:kI},Cp M x ks=↑l->(∀d∈l,d∈M.ds)/\l.length=ks.length
 |[],x,l,h=>by
  cases h
  simp_all
 |k::r,x,l,h=>by
  unfold Cp at h
  by_cases h0:0<=k
  .rw[if_pos h0]at h;cases hd:M.ds[k.toNat]? with
   |none=>lia|some d=>
    rw[hd]at h;simp only at h
    by_cases h1:d.z=Str.empty/\d.s=x
    .rw[if_pos h1]at h;let(l',e,rfl):=Ö.mp h;let(i1,i2):=QW e;refine{λd' hd'=>?_,by simp_all}
     rcases Ê.mp hd' with rfl|hd'
     .exact ç hd
     .exact i1 d' hd'
    lia
  lia
def Qk{x y:Str}(hx:PyData.strOk x=true)(hy:PyData.strOk y=true):CD (.str x) (.str y)=↑(.bl<|!decide (x=y)):=by
 have e:(x == y)=decide (x=y):=by rfl
 unfold CD HB E2 Iy;erw[T.data,PyData.canLay0,hx,hy]
 rfl
def GV{b:T->AM->Option AM}{body:AG}{t:T}{ts:kL}{Y τ1 τ2:AM}(h1:b t Y=↑τ1)(h2:body τ1=↑(.nx τ2)):Aj b body (t::ts) Y=Aj b body ts τ2:=by
 conv=>lhs;unfold Aj
 lia
def fg_xc{b:T->AM->Option AM}{body:AG}{t:T}{ts:kL}{Y τ1 τ2:AM}{c:Str}(h1:b t Y=↑τ1)(h2:body τ1=↑(.xc c τ2)):Aj b body (t::ts) Y=↑(.xc c τ2):=by
 conv=>lhs;unfold Aj
 lia
def Em(M:Mc)(x:Str)(k:Int):Option Dr:=if 0<=k then (match M.ds[k.toNat]? with
 |some d=>if d.z=Str.empty/\d.s=x then ↑d else none
 |none=>none) else none
def zjq{M:Mc}{x:Str}{k:Int}{d:Dr}(h:Em M x k=↑d):d∈M.ds:=by
 unfold Em at h;split at h
 .split at h
  .split at h
   .cases h;exact ç<|by assumption
   .cases h
  .cases h
 .cases h
def Jg(M:Mc)(x:Str)(k:Int)(r:kF):Cp M x (k::r)=(Em M x k).bind λd=>(Cp M d.e r).map (d::·):=by
 conv=>lhs;unfold Cp
 unfold Em
 by_cases h0:0<=k
 .rw[if_pos h0,if_pos h0];cases M.ds[k.toNat]? with
  |none=>rfl|some d=>
   simp only
   by_cases h1:d.z=Str.empty/\d.s=x
   .simp_all
   .rw[if_neg h1,if_neg h1];rfl
 .rw[if_neg h0,if_neg h0];rfl
def zjp{M:Mc}(h:McOk M)(R:T)(x:Str)(hx:PyData.strOk x=true)(A:kL)(hA:A.length<100000)(k:Int)(x6:kH):∃Y',LH [↑(Ap M),↑R,↑(.lst<|M.ds.map Ad),↑(.str x),↑(.own A),↑(.int k),x6]=↑(match Em M x k with
   |some d=>.nx [↑(Ap M),↑R,↑(.lst<|M.ds.map Ad),↑(.str d.e),↑(.own<|A++[Ad d]),↑(.int k),↑(Ad d)]|none=>.xc "NoRoad" Y'):=by
 have sd:=h.sd;have ed:=AJ _ sd;have ew:=Uk k;have al:(M.ds.map Ad).length=M.ds.length:=Á ..;unfold LH Em
 by_cases h0:0<=k
 .rw[if_pos h0];have d1:decide (0<=k)=true:=Ì h0
  by_cases h1:k<(M.ds.length:Int)
  .have hk:k.toNat<M.ds.length:=by lia
   have hd:=Â hk;have D:=h.d _<|Ò hk;have dsh:=K4 D;have esh:=CY _ dsh;have gs:=D.g.sh;have ea:AU (M.ds.map Ad) k=↑(Ad M.ds[k.toNat]):=Mz Ad<|Ho h0 hd;have ez:=Qk (zmt D.z) TU;have es:=Qk (h.tn _ D.s) hx;have d2:decide (k<(M.ds.length:Int))=true:=Ì h1;rw[hd];change M.ds.map Ad=DT;change M.ds[k.toNat]=d
   by_cases h2:d.z=Str.empty
   .by_cases h3:d.s=x
    .refine{[],?_};erw[if_pos<|And.intro h2 h3];have ez':(!decide (d.z=Str.ofString ""))=false:=by rw[Ì (show d.z=Str.ofString "" from h2)];rfl
     have es':(!decide (d.s=x))=false:=by rw[Ì h3];rfl
     rw[ez']at ez;rw[es']at es
     simp![ew,al,sd,ed,d1,d2,ea,ez,es,gs,AJ _ gs,AV,AS,hA]
    .refine{[↑(Ap M),↑R,↑(.lst DT),↑(.str x),↑(.own A),↑(.int k),↑(Ad d)],?_};erw[if_neg (show ¬ (d.z=Str.empty/\d.s=x) from λz=>h3 z.2)]
     have ez':(!decide (d.z=Str.ofString ""))=false:=by rw[Ì (show d.z=Str.ofString "" from h2)];rfl
     have es':(!decide (d.s=x))=true:=by rw[Ù h3];rfl
     rw[ez']at ez;rw[es']at es
     simp![ew,al,sd,ed,d1,d2,ea,ez,es,gs,AJ _ gs,AV,AS,hA]
   .refine{[↑(Ap M),↑R,↑(.lst DT),↑(.str x),↑(.own A),↑(.int k),↑(Ad d)],?_};erw[if_neg (show ¬ (d.z=Str.empty/\d.s=x) from λz=>h2 z.1)]
    have ez':(!decide (d.z=Str.ofString ""))=true:=by rw[Ù (show ¬ d.z=Str.ofString "" from h2)];rfl
    rw[ez']at ez
    simp![ew,al,sd,ed,d1,d2,ea,ez,gs,AJ _ gs,AV,AS,hA]
  .have hd:M.ds[k.toNat]?=none:=ÿ<|by lia
   have d2:decide (k<(M.ds.length:Int))=false:=Ù h1;rw[hd];change M.ds.map Ad=DT;refine{[↑(Ap M),↑R,↑(.lst DT),↑(.str x),↑(.own A),↑(.int k),x6],?_}
   simp![ew,al,sd,ed,d1,d2]
 .rw[if_neg h0];have d1:decide (0<=k)=false:=Ù h0;change M.ds.map Ad=DT;refine{[↑(Ap M),↑R,↑(.lst DT),↑(.str x),↑(.own A),↑(.int k),x6],?_}
  simp![ew,al,sd,ed,d1]
def WW{M:Mc}(h:McOk M)(R:T):∀(ks:kF) (x:Str) (a:kI) (x5 x6:kH),PyData.strOk x=true->a.length+ks.length<=200 ->
  ∃Y',Aj (AD 5) LH (ks.map T.int) [↑(Ap M),↑R,↑(.lst<|M.ds.map Ad),↑(.str x),↑(.own<|a.map Ad),x5,x6]=↑(match Cp M x ks with
   |some _=>.nx Y'|none=>.xc "NoRoad" Y')/\∀l,Cp M x ks=↑l->∃y3 y5 y6,Y'=[↑(Ap M),↑R,↑(.lst<|M.ds.map Ad),y3,↑(.own<|(a++l).map Ad),y5,y6]
 |[],x,a,x5,x6,hx,hl=>{[↑(Ap M),↑R,↑(.lst<|M.ds.map Ad),↑(.str x),↑(.own<|a.map Ad),x5,x6],rfl,λl e=>by
   cases e;exact{_,_,_,by rw[ā]}}
 |k::r,x,a,x5,x6,hx,hl=>by
  rw[Ø]at hl;let(τ0,e0):=zjp h R x hx (a.map Ad) (by rw[Á];lia) k x6
  rw[Jg,Ï];cases e1:Em M x k with
  |none=>rw[e1]at e0;exact{τ0,fg_xc (by simp![]) e0,λl e=>by cases e}|some d=>
   rw[e1]at e0;let(Y',i1,i2):=WW h R r d.e (a++[d]) (↑(.int k)) (↑(Ad d)) (h.tn _ (h.d d<|zjq e1).e) (by rw[à,į];lia)
   rw[è]at i1;refine{Y',(GV (by simp![]) e0).trans (i1.trans ?_),λl e=>?_}
   .erw[ĸ];cases Cp M d.e r<;>rfl
   .erw[ĸ]at e;let(l',e',rfl):=Ö.mp e
    simp_all
def DH:∀ks:kF,BN (ks.map T.int)=ks.map T.int
 |[]=>rfl|k::r=>by rw[Ï,BN,DH r];rfl
def Cu:∀ks:kF,A6 (ks.map T.int)=true
 |[]=>rfl|k::r=>by rw[Ï,A6,Cu r];rfl
def Ys{M:Mc}(h:McOk M):AU ((M.rs.map (·.1)).map T.str) 0=↑(.str<|Fj M):=by
 have h1:=h.r.l1;have e:(M.rs.map (·.1))[0]?=↑(M.rs[0]'(by lia)).1:=by rw[Ë,Â<|by lia];rfl
 refine Ho (by decide) ?_
 show((M.rs.map (·.1)).map T.str)[0]?=_;unfold Fj;rw[Ë,e]
 rfl
def WZ{M:Mc}(h:McOk M):Fj M∈M.rs.map (·.1):=by
 have h1:=h.r.l1;unfold Fj;rw[Â (show 0<(M.rs.map (·.1)).length by rw[Á];lia)]
 exact Ò _
def rd_ok{M:Mc}(h:McOk M)(ks:kF):JF [Ap M,.lst<|ks.map T.int]=↑(Lo<|Dn M ks):=by
 have sm:=FT h;have em:=CY _ sm;have sd:=h.sd;have ed:=AJ _ sd;have md:Ks [Ap M]=↑(.ok<|.own<|M.ds.map Ad):=zl6 h;have mr:JO [Ap M]=↑(.ok (.own ((M.rs.map (·.1)).map T.str))):=Yr h;have ma:=Ys h;have si:=Cu ks;have ei:=DH ks;have hin:=Jr M;unfold JF Qy Dn
 by_cases hl:ks.length<=200
 .rw[if_pos hl];let(Y',e1,e2):=WW h (.lst<|ks.map T.int) ks (Fj M) [] none none (h.tn _<|WZ h)<|by simpa using hl
  have hl':decide ((200:Int)<((ks.map T.int).length:Int))=false:=Ù (by rw[Á];lia)
  rw[Ő]at e1;change ks.map T.int=KT;cases hr:Cp M (Fj M) ks with
  |none=>
   rw[hr]at e1;change M.ds.map Ad=DT
   simp![-DP,hin,Ik,si,ei,sm,em,hl',md,mr,ma,sd,ed,AV,AS,e1,Lo]
  |some l=>
   rw[hr]at e1;let(y3,y5,y6,rfl):=e2 l hr;change M.ds.map Ad=DT
   simp![-DP,hin,Ik,si,ei,sm,em,hl',md,mr,ma,sd,ed,AV,AS,e1,Lo]
 .rw[if_neg hl];have hl':decide ((200:Int)<((ks.map T.int).length:Int))=true:=Ì (by rw[Á];lia)
  change ks.map T.int=KT
  simp![-DP,hin,Ik,si,ei,sm,em,hl',Lo]
abbrev Ov:Stmt:=AL 57
def RL:AG:=
 (AQ<|EF (m2 BD (m1 BA<|AA 1)<|mI 0) (AK (Dw Ar Ax JO (AA 0) AE)<|mI 0)<|CF BP B0 1<|AK (AA 1)<|m1 Et<|mI 1)
def NQ:kL->Option Ru:=A3 2 2 RL
abbrev bH:=fA 2 2 Ov NQ
abbrev zc4:Gx:={ Cv with cl:=[("Door",BP,B0)],mt:=[("rooms",Ar,Ax,Sx)] }
abbrev zcf:Gm:=gA Ov 1 [] ["len"] (ox:=zc4)
theorem zct:Ck zcf bH Ov RL:={}
def Ci(M:Mc)(l:kI):Str:=match l.getLast? with
 |some d=>d.e|none=>Fj M
def dA{M:Mc}(h:McOk M){l:kI}(hl:∀d∈l,d∈M.ds):A6 (l.map Ad)=true:=EO λd hd=>K4<|h.d d<|hl d hd
def zps{M:Mc}(h:McOk M){l:kI}(hl:∀d∈l,d∈M.ds):Ci M l∈M.rs.map (·.1):=by
 unfold Ci;cases e:l.getLast? with
 |none=>exact WZ h|some d=>exact(h.d d<|hl d<|List.mem_of_getLast? e).e
def fE{α:Type}{l:List α}{d:α}(e:l.getLast?=↑d):AU l (-1)=↑d:=by
 have hp:0<l.length:=by
  cases l with
  |nil=>cases e|cons a r=>simp
 unfold AU Bw;rw[if_neg (by decide),if_pos (by lia),ĸ,<- e,List.getLast?_eq_getElem?]
 congr 1
 lia
def lr_ok{M:Mc}(h:McOk M){l:kI}(hl:∀d∈l,d∈M.ds):NQ [Ap M,.lst<|l.map Ad]=↑(.ok<|.str<|Ci M l):=by
 have sm:=FT h;have em:=CY _ sm;have mr:JO [Ap M]=↑(.ok (.own ((M.rs.map (·.1)).map T.str))):=Yr h;have ma:=Ys h;have hin:=Jr M;have sl:=dA h hl;have esl:=AJ _ sl;unfold NQ RL Ci;cases e:l.getLast? with
 |none=>
  have:l=[]:=List.getLast?_eq_none_iff.mp e;subst this
  simp![-DP,hin,Dd,sm,em,mr,ma,AV,AS]
 |some d=>
  have hd:=hl d<|List.mem_of_getLast? e;have gs:=(h.d d hd).g.sh
  have hp:0<l.length:=by
   cases l with
   |nil=>cases e|cons a r=>simp
  have ne:(((l.map Ad).length:Int) == 0)=false:=by rw[ī,Á];lia
  have ea:AU (l.map Ad) (-1)=↑(Ad d):=Mz Ad<|fE e;change l.map Ad=LT
  simp![-DP,hin,Dd,sm,em,ne,ea,sl,esl,gs,AJ _ gs,AV,AS]
abbrev Om:Stmt:=AL 58
def Ny:AG:=
 (GB 3<|AN NO<|mJ 1<|AB (AK (AA 2)<|AA 4)<|mJ 5<|mJ 6 AE)
def RH:AG:=
 (AF (C0 3<|BH AE)
 (AF (B7 (Av<|AA 0) (Ak 3<|AI (AD 4)<|AI (AD 5)<|AI (AD 6) Am) Ny)
 (AQ<|AA 3)))
def JH:kL->Option Ru:=A3 3 7 RH
abbrev Sq:=fA 3 3 Om JH
abbrev zcd:Gm:=gA Om 2 [("look_bounds",bB)] [] ["bounds"]
theorem zcr:Ck zcd Sq Om RH:={}
abbrev Bz(n:Nat)(sa:Nat->Nat):kL:=mT n λp=>.int ((sa p:Nat):Int)
abbrev IL(l:kL):T:=.nd false .rl l
def Bf(L:List<|Nat×Nat×Int)(t:Nat)(sa:Nat->Nat):List Dv.Lim:=L.flatMap λl=>D0 t (sa l.1) l.2.1 l.2.2
def GL:∀(L:List<|Nat×Nat×Int) (t:Nat) (sa:Nat->Nat),(Bf L t sa).length<=2 * L.length
 |[],_,_=>Ç _|l::L,t,sa=>by
  have h1:=zle t (sa l.1) l.2.1 l.2.2;have h2:=GL L t sa;unfold Bf at h2 ⊢;rw[List.flatMap_cons,à,Ø]
  lia
def MX(L:List Dv.Lim):A6 (L.map BC)=true:=Ez L
def Ih(L:List Dv.Lim):BN (L.map BC)=L.map BC:=FZ L
def Li(n:Nat)(sa:Nat->Nat):A6 (Bz n sa)=true:=Ga _
def SH{m:Nat}{L:List<|Nat×Nat×Int}(hL:Nf m L)(hl:L.length<=1000)(t:Nat)(sa:Nat->Nat):JH [.lst<|L.map Dx,.int (t:Int),IL<|Bz (m+1) sa]=↑(.ok<|.own<|(Bf L t sa).map BC):=by
 have sl:=MU L;have esl:=AJ _ sl;have ss:=Li (m+1) sa;have ess:=AJ _ ss;have hn:=GL L t sa
 let(Y,e,x4,x5,x6,rfl):=aL (b:=Ak 3<|AI (AD 4)<|AI (AD 5)<|AI (AD 6) Am) (body:=Ny) Dx (λ(a:List Dv.Lim) Y=>∃x4 x5 x6,Y=[↑(.lst<|L.map Dx),↑(.int (t:Int)),↑(IL<|Bz (m+1) sa),↑(.own<|a.map BC),x4,x5,x6]) (λl=>D0 t (sa l.1) l.2.1 l.2.2) 2000 L []
  [↑(.lst<|L.map Dx),↑(.int (t:Int)),↑(IL<|Bz (m+1) sa),↑(.own []),none,none,none] {(none),none,none,rfl} (by unfold Bf at hn;erw[Ċ];lia) λl hl' a Y hs ha=>by
   let(x4,x5,x6,rfl):=hs;let(h1,h2,h3):=hL l hl';have e1:AU (Bz (m+1) sa) (l.1:Int)=↑(.int (sa l.1:Int)):=Cb h2;have e2:=zp5 (i:=t) (j:=sa l.1) (n:=l.2.2) h3
   have e3:(a.map BC).length+((D0 t (sa l.1) l.2.1 l.2.2).map BC).length<=100000:=by
    rw[Á,Á]
    lia
   have s3:=Ih<|D0 t (sa l.1) l.2.1 l.2.2;refine{[↑(.lst<|L.map Dx),↑(.int (t:Int)),↑(IL<|Bz (m+1) sa),↑(.own<|a.map BC),↑(.int (l.1:Int)),↑(.str<|Eh l.2.1),↑(.int l.2.2)],by simp![],[↑(.lst<|L.map Dx),↑(.int (t:Int)),↑(IL<|Bz (m+1) sa),↑(.own<|(a++D0 t (sa l.1) l.2.1 l.2.2).map BC),↑(.int (l.1:Int)),↑(.str<|Eh l.2.1),↑(.int l.2.2)],?_,_,_,_,rfl}
   rw[è];change L.map Dx=LT;change Bz (m+1) sa=ST;change (D0 t (sa l.1) l.2.1 l.2.2).map BC=BT;change a.map BC=AT;unfold Ny
   simp![ss,ess,e1,e2,e3,s3]
 rw[ů]at e;have eb:(Bf L t sa).map BC=(L.flatMap λl=>D0 t (sa l.1) l.2.1 l.2.2).map BC:=rfl
 have sb:=MX<|L.flatMap λl=>D0 t (sa l.1) l.2.1 l.2.2
 rw[eb];change L.map Dx=LT;change Bz (m+1) sa=ST;change (L.flatMap λl=>D0 t (sa l.1) l.2.1 l.2.2).map BC=BT
 unfold JH RH
 simp![sl,esl,ss,ess,e,sb]
theorem SI{m N:Nat}{L:List<|Nat×Nat×Int}(hL:Nf m L){t:Nat}{sa:Nat->Nat}(ht:t<N)(hs:∀p,p<m+1->sa p<N):Dv.In N<|Bf L t sa:=λx hx=>by
 let(l,hl,hx):=Θ.mp hx;exact zp6 ht (hs _ (hL l hl).2.1) x hx
abbrev O4:Stmt:=AL 59
def Qp:AG:=
 (AF (AO (AN G3<|mJ 0<|AB (Dw Ar Ax Kr (AA 0)<|mJ 1 AE) AE)<|AD 4)
 (AQ<|m2 Al (BH<|Ai (BZ<|AB (m2 E8 (AA 2)<|mI 1)<|mJ 2<|AB (AN G4<|AB (mI 0) AE) AE) AE)<|AN JH<|mJ 4<|mJ 2<|mJ 3 AE))
def Kj:kL->Option Ru:=A3 4 5 Qp
abbrev aN:=fA 6 4 O4 Kj
abbrev zb2:Gx:={ Cv with mt:=[("stay",Ar,Ax,bX)] }
abbrev zb6:Gm:=gA O4 5 [("placed",Sn),("at_most",KY),("looked_at",Sq)] [] (ox:=zb2)
theorem zbe:Ck zb6 aN O4 Qp:={}
def Bi(M:Mc)(x:Str)(t:Nat)(sa:Nat->Nat):List Dv.Lim:=(t - 1,t,1)::Bf (DS M.ws M.rs x) t sa
structure Sh1(M:Mc):Prop where
 r:∀r∈M.rs,r.2.length<=100
 d:∀d∈M.ds,d.g.length<=100
def Vk{M:Mc}(s:Sh1 M)(x:Str):(DS M.ws M.rs x).length<=100:=by
 unfold DS;rw[Á];cases e:M.rs.find? λq=>decide (q.1=x) with
 |none=>simp_all|some r=>exact s.r r<|List.mem_of_find?_eq_some e
def JU{M:Mc}(s:Sh1 M)(x:Str)(t:Nat)(sa:Nat->Nat):(Bi M x t sa).length<=201:=by
 have h1:=GL (DS M.ws M.rs x) t sa;have h2:=Vk s x;unfold Bi;rw[Ø]
 lia
def Ud{M:Mc}(h:McOk M)(s:Sh1 M){x:Str}(hx:x∈M.rs.map (·.1)){t:Nat}(ht:1<=t)(sa:Nat->Nat):Kj [Ap M,.str x,.int (t:Int),IL<|Bz (M.ws.length+1) sa]=↑(.ok<|.own<|(Bi M x t sa).map BC):=by
 have sm:=FT h;have em:=CY _ sm;let(i,hi,ei):=Ű.mp hx;rw[Á]at hi;rw[Ε]at ei;subst ei;have hr:=Ò hi;have hk:=(h.r.lk _ hr);have e1:Kr [Ap M,.str M.rs[i].1]=↑(.ok<|.own M.rs[i].2):=zl3 h hi;have e2:G3 [Ap M,.lst M.rs[i].2]=↑(.ok<|.own<|M.rs[i].2.map (GD M.ws)):=Qb h hk.1.wd (λ_ z=>z) hk.2
 rw[Q9 hk.1.wd,<- Vl h.r.nd hr]at e2;have hL:=Vj h M.rs[i].1;have hz:=Vk s M.rs[i].1;have e3:=SH hL (by lia) t sa
 have sl:=MU<|DS M.ws M.rs M.rs[i].1;have esl:=AJ _ sl;have sk:=hk.1.sh;have esk:=AJ _ sk;have ss:=Li (M.ws.length+1) sa;have ess:=AJ _ ss;have sb:=MX<|Bf (DS M.ws M.rs M.rs[i].1) t sa;have esb:=AJ _ sb;have hin:=Jr M
 have el:((Bf (DS M.ws M.rs M.rs[i].1) t sa).map BC).length<=99999:=by
  have:=GL (DS M.ws M.rs M.rs[i].1) t sa;rw[Á]
  lia
 have et:((t:Int) - 1)=((t - 1:Nat):Int):=by lia
 unfold Bi;rw[Ï,show BC (t - 1,t,1)=.tup [.int ((t - 1:Nat):Int),.int (t:Int),.int 1] from rfl,<- et];change (DS M.ws M.rs M.rs[i].1).map Dx=LT;change (Bf (DS M.ws M.rs M.rs[i].1) t sa).map BC=BT;change Bz (M.ws.length+1) sa=ST;change M.rs[i].2=KT;change M.rs[i].1=x;have el2:1+BT.length<=100000:=by lia
 unfold Kj Qp
 simp![-DP,hin,sm,em,e1,sk,esk,e2,sl,esl,ss,ess,e3,sb,esb,ND,el2]
theorem Ue{M:Mc}(h:McOk M){N t:Nat}{x:Str}{sa:Nat->Nat}(ht:t<N)(hs:∀p,p<M.ws.length+1->sa p<N):Dv.In N<|Bi M x t sa:=λy hy=>by
 rcases Ê.mp hy with rfl|hy
 .lia
 .exact SI (Vj h x) ht hs y hy
abbrev Od:Stmt:=AL 60
def Td:AH:=
 (mI 0)
def Nx:AG:=
 (Gd 5 (AA 10)<|AA 8)
def LI:AG:=
 (AF (GB 6<|EY 5<|AN Kj<|mJ 0<|AB (CF BP B0 0<|AA 9)<|mJ 8<|mJ 5 AE)
 (AF (GB 6<|EY 5<|AN JH<|AB (AN G3<|mJ 0<|AB (Dw BP B0 Nb (AA 9) AE) AE)<|mJ 8<|mJ 5 AE)
 (B7 (Av<|AN NN<|mJ 0<|mJ 9 AE) (AD 10) Nx)))
def Qz:AG:=
 (AF (AO (AN JF<|mJ 0<|mJ 1 AE)<|AD 3)
 (AF (AO (AN G3<|mJ 0<|mJ 2 AE)<|AD 4)
 (AF (C0 5<|BF 1 [] (CI<|AB (m2 Al (m1 BA<|Dw Ar Ax JM (AA 0) AE)<|mI 1) AE) (AD 0) (mC<|.bl true) Td)
 (AF (C0 6<|BH AE)
 (AF (B7 (Gy<|mJ 3 AE) (Ak 2<|AI (AD 8)<|AI (AD 9) Am) LI)
 (AF (AO (m2 Al (m1 BA<|AA 3)<|mI 1)<|AD 7)
 (AF (GB 6<|EY 5<|AN Kj<|mJ 0<|AB (AN NQ<|mJ 0<|mJ 3 AE)<|mJ 7<|mJ 5 AE)
 (AF (GB 6<|EY 5<|AN JH<|mJ 4<|mJ 7<|mJ 5 AE)
 (AQ<|AA 6)))))))))
def G1:kL->Option Ru:=A3 3 11 Qz
abbrev Sl:=fA 7 3 Od G1
abbrev zb3:Gx:={ Cv with cl:=[("Door",BP,B0)],mt:=[("watches",Ar,Ax,Sv),("asks",BP,B0,cG)] }
abbrev zb7:Gm:=gA Od 6 [("road_doors",aT),("placed",Sn),("waited_till",aN),("looked_at",Sq),("nought_places",aZ),("last_room",bH)] ["range","len","enumerate"] ["bounds","set_at"] (ox:=zb3) (mv:=["set_at"]) (N:=["machine","road","guard","doors","looks","set_at","bounds","end","time","door","place"])
theorem zbf:Ck zb7 Sl Od Qz:={}
def Bj(ps:kG)(t:Nat)(sa:Nat->Nat):Nat->Nat:=λp=>if p∈ps then t else sa p
def zgt(p:Nat)(ps:kG)(t:Nat)(sa:Nat->Nat):Bj (p::ps) t sa=Bj ps t (Bj [p] t sa):=by
 funext q
 unfold Bj
 by_cases h1:q∈ps<;>by_cases h2:q=p<;>simp[h1]
def zmv{n p:Nat}(t:Nat)(sa:Nat->Nat):(Bz n sa).set p (.int (t:Int))=Bz n (Bj [p] t sa):=by
 rw[Ia];refine EX λk hk=>?_
 unfold Bj
 by_cases e:k=p<;>simp[e]
def W4{n t:Nat}{a0 a1 a2 a3 a4 a6 a7 a9:kH}:∀(ps:kG) (sa:Nat->Nat) (x:kH),(∀p∈ps,p<n)->∃y,Aj (AD 10) Nx (IS ps) [a0,a1,a2,a3,a4,↑(.own<|Bz n sa),a6,a7,↑(.int (t:Int)),a9,x]=↑(.nx [a0,a1,a2,a3,a4,↑(.own<|Bz n<|Bj ps t sa),a6,a7,↑(.int (t:Int)),a9,y])
 |[],sa,x,_=>{x,by
   rfl}
 |p::ps,sa,x,h=>by
  let(y,e):=W4 ps (Bj [p] t sa) (↑(.int (p:Int))) λq hq=>h q<|É _ hq
  have hp:=h p (Í ..)
  have i1:Bw (Bz n sa).length (p:Int)=↑p:=by
   rw[BO];unfold Bw;simp
   lia
  have st:=zmv (n:=n) (p:=p) t sa;refine{y,?_};rw[zgt];refine(GV (τ1:=[a0,a1,a2,a3,a4,↑(.own<|Bz n sa),a6,a7,↑(.int (t:Int)),a9,↑(.int (p:Int))]) (by rfl) ?_).trans e
  rw[<- st];unfold Nx;change Bz n sa=ST
  simp![i1]
def Bq(M:Mc):kI->Nat->(Nat->Nat)->List Dv.Lim×(Nat->Nat)
 |[],_,sa=>([],sa)|d::r,t,sa=>((Bi M d.s t sa++Bf (d.g.map<|A2 M.ws) t sa)++(Bq M r (t+1)<|Bj (Ao M.ws d.n) t sa).1,(Bq M r (t+1)<|Bj (Ao M.ws d.n) t sa).2)
def np_lt{M:Mc}(h:McOk M){d:Dr}(hd:d∈M.ds):∀p∈Ao M.ws d.n,1<=p/\p<M.ws.length+1:=λp hp=>by
 let(x,hx,rfl):=Ó.mp hp;let(j,ej,hj,_):=Hg<|(h.d d hd).n x hx
 simp_all
def Jn:∀B:List Dv.Lim,Es (B.map BC)=true
 |[]=>rfl|b::B=>by
  rw[Ï,Es,Jn B]
  rfl
def ZR{n:Nat}{sa:Nat->Nat}:FY (Bz n sa)=true/\GP (Bz n sa)=Bz n sa:=by
 have:∀l:kG,FY (l.map λp=>T.int ((sa p:Nat):Int))=true/\GP (l.map λp=>T.int ((sa p:Nat):Int))=l.map λp=>T.int ((sa p:Nat):Int):=λl=>by
  induction l with
  |nil=>exact{(rfl),rfl}|cons a r ih=>exact{by rw[Ï,FY,ih.1];rfl,by rw[Ï,GP,ih.2];rfl}
 exact this<|List.range n
abbrev rS(M:Mc)(R G DT LT:T)(sa:Nat->Nat)(B:List Dv.Lim)(x7 x8 x9 x10:kH):AM:=[↑(Ap M),↑R,↑G,↑DT,↑LT,↑(.own<|Bz (M.ws.length+1) sa),↑(.own<|B.map BC),x7,x8,x9,x10]
def zjr{M:Mc}(h:McOk M)(s:Sh1 M){d:Dr}(hd:d∈M.ds){t:Nat}(ht:1<=t)(sa:Nat->Nat)(R G DT LT:T)(B:List Dv.Lim)(hB:B.length<=90000)(x7 x10:kH) :
  ∃y10,LI (rS M R G DT LT sa B x7 (↑(.int (t:Int))) (↑(Ad d)) x10) =
   ↑(.nx<|rS M R G DT LT (Bj (Ao M.ws d.n) t sa) (B++(Bi M d.s t sa++Bf (d.g.map<|A2 M.ws) t sa)) x7 (↑(.int (t:Int))) (↑(Ad d)) y10):=by
 have D:=h.d d hd;have sm:=FT h;have em:=CY _ sm;have gs:=D.g.sh;have egs:=AJ _ gs;have dsh:=K4 D;have esh:=CY _ dsh;have e1:=Ud h s D.s ht sa;have e2:G3 [Ap M,.lst d.g]=↑(.ok<|.own<|d.g.map<|GD M.ws):=Qb h D.g (λ_ z=>z) D.gl
 rw[Q9 D.g]at e2;have e3:=SH (Jh D.g) (by have:=D.gl;rw[Á];lia) t sa
 have e4:=np_ok h hd;have e5:=zlw (d:=d) gs;let(l1,l2):=ZR (n:=M.ws.length+1) (sa:=sa);have ss:=Li (M.ws.length+1) sa;have ess:=AJ _ ss;have n1:=Jn<|Bi M d.s t sa;have n2:=Jn<|Bf (d.g.map<|A2 M.ws) t sa;have sb1:=Ih<|Bi M d.s t sa;have sb2:=Ih<|Bf (d.g.map<|A2 M.ws) t sa;have z1:=JU s d.s t sa;have z2:=GL (d.g.map<|A2 M.ws) t sa;have z3:=s.d d hd;rw[Á]at z2;have c1:(B.map BC).length+((Bi M d.s t sa).map BC).length<=100000:=by rw[Á,Á];lia
 have c2:(B.map BC++(Bi M d.s t sa).map BC).length+((Bf (d.g.map<|A2 M.ws) t sa).map BC).length<=100000:=by rw[à,Á,Á,Á];lia
 have sk:=MU<|d.g.map<|A2 M.ws;have esk:=AJ _ sk;have sn:=zot<|Ao M.ws d.n;have esn:=AJ _ sn;let(y10,ey):=W4 (n:=M.ws.length+1) (t:=t) (a0:=↑(Ap M)) (a1:=↑R) (a2:=↑G) (a3:=↑DT) (a4:=↑LT) (a6:=↑(.own<|(B++(Bi M d.s t sa++Bf (d.g.map<|A2 M.ws) t sa)).map BC)) (a7:=x7) (a9:=↑(Ad d)) (Ao M.ws d.n) sa x10 λp hp=>(np_lt h hd p hp).2
 refine{y10,?_};unfold rS;rw[<- ey,è,è];unfold LI;change IS (Ao M.ws d.n)=NT;change (d.g.map<|A2 M.ws).map Dx=KT;change (Bi M d.s t sa).map BC=WT;change (Bf (d.g.map<|A2 M.ws) t sa).map BC=QT;change Bz (M.ws.length+1) sa=ST;change B.map BC=BT;exact sq (by simp![EY,M4,T.lnd,T.lend,T.noR,l1,l2,sm,em,gs,egs,AV,AS,ss,ess,e1,n1,sb1,c1];rfl)<|sq (by simp![EY,M4,T.lnd,T.lend,T.noR,l1,l2,sm,em,gs,egs,AV,AS,ss,ess,e5,e2,sk,esk,e3,n2,sb2,c2,Ķ];rfl)<|by simp![sm,em,gs,egs,AV,AS,e4,sn,esn]
def QZ{M:Mc}(s:Sh1 M):∀(ds:kI) (t:Nat) (sa:Nat->Nat),(∀d∈ds,d∈M.ds)->(Bq M ds t sa).1.length<=401 * ds.length
 |[],_,_,_=>Ç _|d::r,t,sa,h=>by
  have i:=QZ s r (t+1) (Bj (Ao M.ws d.n) t sa) λx hx=>h x<|É _ hx
  have z1:=JU s d.s t sa;have z2:=GL (d.g.map<|A2 M.ws) t sa;have z3:=s.d d<|h d (Í ..);rw[Á]at z2;show((Bi M d.s t sa++Bf (d.g.map<|A2 M.ws) t sa)++(Bq M r (t+1)<|Bj (Ao M.ws d.n) t sa).1).length<=_;rw[à,à,Ø]
  lia
def W3{M:Mc}(h:McOk M)(s:Sh1 M){R G DT LT:T}{x7:kH}:∀(ds:kI) (t:Nat) (sa:Nat->Nat) (B:List Dv.Lim) (x8 x9 x10:kH),(∀d∈ds,d∈M.ds)->1<=t->B.length+401 * ds.length<=90000 ->
  ∃y8 y9 y10,Aj (Ak 2<|AI (AD 8)<|AI (AD 9) Am) LI (E3 t<|ds.map Ad) (rS M R G DT LT sa B x7 x8 x9 x10) =
   ↑(.nx<|rS M R G DT LT (Bq M ds t sa).2 (B++(Bq M ds t sa).1) x7 y8 y9 y10)
 |[],t,sa,B,x8,x9,x10,_,_,_=>{x8,x9,x10,by
   rw[show(Bq M [] t sa).1=[] from rfl,ā]
   rfl}
 |d::r,t,sa,B,x8,x9,x10,hd,ht,hB=>by
  rw[Ø]at hB;have hdm:=hd d (Í ..);let(y10,e):=zjr h s hdm ht sa R G DT LT B (by lia) x7 x10
  have z1:=JU s d.s t sa;have z2:=GL (d.g.map<|A2 M.ws) t sa;have z3:=s.d d hdm;rw[Á]at z2;let(z8,z9,z10,e2):=W3 h s r (t+1) (Bj (Ao M.ws d.n) t sa) (B++(Bi M d.s t sa++Bf (d.g.map<|A2 M.ws) t sa)) (↑(.int (t:Int))) (↑(Ad d)) y10 (λx hx=>hd x<|É _ hx) (by lia) (by rw[à,à];lia)
  refine{z8,z9,z10,(GV rfl e).trans (e2.trans ?_)};rw[Ķ B]
  rfl
def Br(M:Mc)(ds:kI)(g:List<|Nat×Nat×Int):List Dv.Lim:=(Bq M ds 1 λ_=>0).1++(Bi M (Ci M ds) (ds.length+1) (Bq M ds 1 λ_=>0).2++Bf g (ds.length+1) (Bq M ds 1 λ_=>0).2)
def zjt{M:Mc}(s:Sh1 M){ds:kI}(hd:∀d∈ds,d∈M.ds)(hl:ds.length<=200){g:List<|Nat×Nat×Int}(hg:g.length<=100):(Br M ds g).length<=90000:=by
 have z0:=QZ s ds 1 (λ_=>0) hd
 have z1:=JU s (Ci M ds) (ds.length+1) (Bq M ds 1 λ_=>0).2
 have z2:=GL g (ds.length+1) (Bq M ds 1 λ_=>0).2
 unfold Br;rw[à,à]
 lia
def QL(M:Mc)(g:kL):Option (kI)->Ru
 |some l=>.ok (.own<|(Br M l<|g.map<|A2 M.ws).map BC)|none=>.exc "NoRoad"
def IM{M:Mc}{ks:kF}{l:kI}(e:Dn M ks=↑l):(∀d∈l,d∈M.ds)/\l.length=ks.length/\ks.length<=200:=by
 unfold Dn at e;split at e
 .exact{(QW e).1,(QW e).2,by assumption}
 .cases e
def W0{M:Mc}(h:McOk M)(s:Sh1 M)(ks:kF){g:kL}(hg:BE M.ws BY g)(gl:g.length<=100):G1 [Ap M,.lst<|ks.map T.int,.lst g]=↑(QL M g<|Dn M ks):=by
 have sm:=FT h;have em:=CY _ sm;have si:=Cu ks;have ei:=DH ks;have sg:=hg.sh;have eg:=AJ _ sg;have hin:=Jr M;have e1:=rd_ok h ks;unfold G1 Qz;cases e:Dn M ks with
 |none=>
  rw[e]at e1;have e1':JF [Ap M,.lst<|ks.map T.int]=↑(.exc "NoRoad"):=e1;change ks.map T.int=KT
  simp![-DP,hin,si,ei,sg,eg,sm,em,e1',QL]
 |some l=>
  rw[e]at e1;let(hl,hn,h2):=IM e;have e1':JF [Ap M,.lst<|ks.map T.int]=↑(.ok<|.own<|l.map Ad):=e1;have sl:=dA h hl;have esl:=AJ _ sl;have e2:G3 [Ap M,.lst g]=↑(.ok<|.own<|g.map<|GD M.ws):=Qb h hg (λ_ z=>z)<|by lia
  rw[Q9 hg]at e2;have mw:JM [Ap M]=↑(.ok<|.own<|M.ws.map T.str):=Yq h;have sk:=MU<|g.map<|A2 M.ws;have esk:=AJ _ sk;have wl:=h.wl;have ok:CB ((M.ws.length:Int)+1)=true:=EV (n:=M.ws.length+1)<|by lia
  have lc:B8 (AD 0) (mC<|.bl true) Td (Bl 0<|M.ws.length+1) [none]=↑(Bz (M.ws.length+1) λ_=>0):=by
   rw[show Bl 0 (M.ws.length+1)=mT (M.ws.length+1) λi=>.int (i:Int) from C9]
   exact Dy (n:=M.ws.length+1) (me:=Td) (x:=none) (cs:=[]) (g:=λi=>.int (i:Int)) (f:=λ_=>.int ((0:Nat):Int)) λi hi=>rfl
  let(y8,y9,y10,ef):=W3 h s (R:=.lst<|ks.map T.int) (G:=.lst g) (DT:=.lst<|l.map Ad) (LT:=.lst<|(g.map<|A2 M.ws).map Dx) (x7:=none) l 1 (λ_=>0) [] none none none hl (Ç _) (by erw[Ċ];lia)
  have e4:=lr_ok h hl;have z0:=QZ s l 1 (λ_=>0) hl
  unfold rS at ef;rw[ů,Ő]at ef;rw[show QL M g ↑l=.ok (.own<|((Bq M l 1 λ_=>0).1++(Bi M (Ci M l) (l.length+1) (Bq M l 1 λ_=>0).2++Bf (g.map<|A2 M.ws) (l.length+1) (Bq M l 1 λ_=>0).2)).map BC) from rfl]
  change (Bq M l 1 λ_=>0).1=BL
  change (Bq M l 1 λ_=>0).2=sa
  have sb:=MX<|BL++(Bi M (Ci M l) (l.length+1) sa++Bf (g.map<|A2 M.ws) (l.length+1) sa);rw[è,è]at sb ⊢;have e5:=Ud h s (zps h hl) (t:=l.length+1) (by lia) sa
  have e6:=SH (Jh hg) (by rw[Á];lia) (l.length+1) sa
  let(l1,l2):=ZR (n:=M.ws.length+1) (sa:=sa);have ss:=Li (M.ws.length+1) sa;have ess:=AJ _ ss;have n1:=Jn<|Bi M (Ci M l) (l.length+1) sa;have n2:=Jn<|Bf (g.map<|A2 M.ws) (l.length+1) sa;have sb1:=Ih<|Bi M (Ci M l) (l.length+1) sa;have sb2:=Ih<|Bf (g.map<|A2 M.ws) (l.length+1) sa;have z1:=JU s (Ci M l) (l.length+1) sa;have z2:=GL (g.map<|A2 M.ws) (l.length+1) sa;rw[Á]at z2;have c1:(BL.map BC).length+((Bi M (Ci M l) (l.length+1) sa).map BC).length<=100000:=by rw[Á,Á];lia
  have c2:(BL.map BC++(Bi M (Ci M l) (l.length+1) sa).map BC).length+((Bf (g.map<|A2 M.ws) (l.length+1) sa).map BC).length<=100000:=by rw[à,Á,Á,Á];lia
  have rl:(Bl 0<|M.ws.length+1).length<=100000:=by unfold Bl;rw[Á,ĵ];lia
  have en:(((l.map Ad).length:Int)+1)=((l.length+1:Nat):Int):=by rw[Á];lia
  have tn:((M.ws.length:Int)+1).toNat=M.ws.length+1:=by lia
  change (g.map<|A2 M.ws).map Dx=LT;change (Bi M (Ci M l) (l.length+1) sa).map BC=WT;change (Bf (g.map<|A2 M.ws) (l.length+1) sa).map BC=QT;change BL.map BC=BT;change Bz (M.ws.length+1) sa=ST;change Bz (M.ws.length+1) (λ_=>0)=S0
  change l.map Ad=DL;change Ci M l=xe;change ks.map T.int=KT
  simp![-DP,hin,EY,M4,T.lnd,T.lend,T.noR,si,ei,sg,eg,sm,em,e1',sl,esl,e2,sk,esk,mw,AV,AS,Á,ok,tn,lc,rl,ef,en,e4,l1,l2,ss,ess,e5,n1,sb1,c1,e6,n2,sb2,c2,Ķ,sb]
def zmq{ps:kG}{t N:Nat}{sa:Nat->Nat}(ht:t<N)(hs:∀p,sa p<N):∀p,Bj ps t sa p<N:=λp=>by
 unfold Bj;split
 .exact ht
 .exact hs p
def W5{M:Mc}(h:McOk M){N:Nat}:∀(ds:kI) (t:Nat) (sa:Nat->Nat),(∀d∈ds,d∈M.ds)->t+ds.length<=N->(∀p,sa p<N)->Dv.In N (Bq M ds t sa).1/\∀p,(Bq M ds t sa).2 p<N
 |[],_,_,_,_,hs=>{λx hx=>(by cases hx),hs}|d::r,t,sa,hd,ht,hs=>by
  rw[Ø]at ht;have i:=W5 h r (t+1) (Bj (Ao M.ws d.n) t sa) (λx hx=>hd x<|É _ hx) (by lia)<|zmq (by lia) hs
  refine{λx hx=>?_,i.2}
  rcases ä.mp hx with hx|hx
  .rcases ä.mp hx with hx|hx
   .exact Ue h (by lia) (λp _=>hs p) x hx
   .exact SI (Jh (h.d d<|hd d (Í ..)).g) (by lia) (λp _=>hs p) x hx
  .exact i.1 x hx
theorem Q0{M:Mc}(h:McOk M){ds:kI}(hd:∀d∈ds,d∈M.ds){g:kL}(hg:BE M.ws BY g):Dv.In (ds.length+2)<|Br M ds<|g.map<|A2 M.ws:=λx hx=>by
 let(h1,h2):=W5 h (N:=ds.length+2) ds 1 (λ_=>0) hd (by lia) λ_=>by lia
 rcases ä.mp hx with hx|hx
 .exact h1 x hx
 .rcases ä.mp hx with hx|hx
  .exact Ue h (by lia) (λp _=>h2 p) x hx
  .exact SI (Jh hg) (by lia) (λp _=>h2 p) x hx
abbrev Oa:Stmt:=AL 62
def Qw:AG:=
 (AQ<|AN NI<|AB (m2 Al (m1 BA<|AA 0)<|mI 1)<|mJ 1 AE)
def Kl:kL->Option Ru:=A3 2 2 Qw
abbrev Sk:=fA 2 2 Oa Kl
abbrev zc9:Gm:=gA Oa 1 [("unit_of",aO)] ["len"]
theorem zcn:Ck zc9 Sk Oa Qw:={}
def WO(ks:kF)(hl:ks.length<=200)(b:Int):Kl [.lst<|ks.map T.int,.int b]=↑(.ok<|.int<|b * ((ks.length:Int)+2)):=by
 have si:=Cu ks;have ei:=DH ks;have e:=uo_ok (m:=ks.length+1) (b:=b)<|by lia
 have e1:(((ks.map T.int).length:Int)+1)=((ks.length+1:Nat):Int):=by simp_all
 have e2:(((ks.length+1:Nat):Int)+1)=(ks.length:Int)+2:=by lia
 rw[e2]at e;unfold Kl Qw
 simp![si,ei,e1,e]
abbrev Ou:Stmt:=AL 63
def RK:AG:=
 (AF (AO (AN G1<|mJ 0<|mJ 1<|mJ 2 AE)<|AD 4)
 (AQ<|AN Hs<|AB (m2 Al (m1 BA<|AA 1)<|mI 1)<|AB (AN NP<|mJ 4<|AB (AN Kl<|mJ 1<|mJ 3 AE) AE) AE))
def Ht:kL->Option Ru:=A3 4 5 RK
abbrev bG:=fA 8 4 Ou Ht
abbrev zb9:Gm:=gA Ou 7 [("road_bounds",Sl),("least_values",bE),("limits_of",bD),("road_unit",Sk)] ["len"]
theorem zbh:Ck zb9 bG Ou RK:={}
def Fm(M:Mc)(l:kI)(g:kL)(b:Int):Option<|Nat->Int:=Dv.tn ((Br M l<|g.map<|A2 M.ws).map (EZ<|b * ((l.length:Int)+2))) (l.length+2) λ_=>0
def IK(M:Mc)(g:kL)(b:Int):Option (kI)->Ru
 |some l=>.ok (MT (l.length+2)<|Fm M l g b)|none=>.exc "NoRoad"
def lt_ok{M:Mc}(h:McOk M)(s:Sh1 M)(ks:kF){g:kL}(hg:BE M.ws BY g)(gl:g.length<=100){b:Int}(hb:0<b)(hb2:b<=10 ^ 12):Ht [Ap M,.lst<|ks.map T.int,.lst g,.int b]=↑(IK M g b<|Dn M ks):=by
 have sm:=FT h;have em:=CY _ sm;have si:=Cu ks;have ei:=DH ks;have sg:=hg.sh;have eg:=AJ _ sg;have e1:=W0 h s ks hg gl;unfold Ht RK;cases e:Dn M ks with
 |none=>
  rw[e]at e1;have e1':G1 [Ap M,.lst<|ks.map T.int,.lst g]=↑(.exc "NoRoad"):=e1;change ks.map T.int=KT
  simp![si,ei,sg,eg,sm,em,e1',IK]
 |some l=>
  rw[e]at e1;let(hl,hn,h2):=IM e;have e1':G1 [Ap M,.lst<|ks.map T.int,.lst g]=↑(.ok<|.own<|(Br M l<|g.map<|A2 M.ws).map DG):=e1;have e2:=WO ks h2 b
  have hu:DW (b * ((ks.length:Int)+2))=true:=by
   have:b * ((ks.length:Int)+2)<=10 ^ 12 * 202:=Int.mul_le_mul hb2 (by lia) (by lia)<|by decide
   have:0<=b * ((ks.length:Int)+2):=ő (by lia)<|by lia
   exact DE (by lia)<|by lia
  have hz:=zjt s hl (by lia) (g:=g.map<|A2 M.ws) (by rw[Á];exact gl)
  have e3:=lo_ok hu (Br M l<|g.map<|A2 M.ws)<|by lia
  have hI:=Q0 h hl hg
  have e4:=zox (m:=ks.length+1) (by lia) (L:=(Br M l<|g.map<|A2 M.ws).map (EZ<|b * ((ks.length:Int)+2))) (λx hx=>by
   let(y,hy,rfl):=Ó.mp hx;have:=hI y hy;rw[hn]at this;exact this)
  have sb:=Ez<|Br M l<|g.map<|A2 M.ws;have esb:=FZ<|Br M l<|g.map<|A2 M.ws;have sc:=Ez<|(Br M l<|g.map<|A2 M.ws).map (EZ<|b * ((ks.length:Int)+2));have esc:=FZ<|(Br M l<|g.map<|A2 M.ws).map (EZ<|b * ((ks.length:Int)+2));have en:(((ks.map T.int).length:Int)+1)=((ks.length+1:Nat):Int):=by rw[Á];lia
  rw[show IK M g b ↑l=.ok (MT (ks.length+2)<|Dv.tn ((Br M l<|g.map<|A2 M.ws).map (EZ<|b * ((ks.length:Int)+2))) (ks.length+2) λ_=>0) by unfold IK Fm;erw[hn]]
  change ((Br M l<|g.map<|A2 M.ws).map (EZ<|b * ((ks.length:Int)+2)))=L2;change Br M l (g.map<|A2 M.ws)=L1;change L2.map DG=LT2;change L1.map DG=LT1;change ks.map T.int=KT;change b * ((ks.length:Int)+2)=u
  simp![si,ei,sg,eg,sm,em,e1',sb,esb,en,e2,e3,sc,esc,e4]
abbrev O7:Stmt:=AL 64
def Ta:AH:=
 (AN NY<|AB (m2 E8 (AA 1)<|AA 0)<|mJ 2 AE)
def Qt:AG:=
 (AF (AO (AN Ht<|mJ 0<|mJ 1<|mJ 2<|mJ 3 AE)<|AD 4)
 (AF (Ab (m2 (Cg false) (AA 4)<|mC .non) (AQ<|mC .non) A8)
 (AF (AO (AN Kl<|mJ 1<|mJ 3 AE)<|AD 5)
 (AF (AO (BF 2 [5] (Gw<|mJ 4<|AB (DO (Ew (AA 4) (↑(mI 1)) none)<|FU (AA 4) (↑(mI 1)) none) AE) (Ak 2<|AI (AD 0)<|AI (AD 1) Am) (mC<|.bl true) Ta)<|AD 6)
 (AQ<|Ju (AA 6)<|m2 Al (AA 1)<|BH<|Ai (mC .non) AE)))))
def JE:kL->Option Ru:=A3 4 7 Qt
abbrev aQ:=fA 9 4 O7 JE
abbrev zfj:Gm:=gA O7 8 [("least_times",bG),("road_unit",Sk),("fraction",bQ)] ["zip","list"]
theorem zfy:Ck zfj aQ O7 Qt:={}
def E5(v:Nat->Int)(u:Int)(i:Nat):T:=fr (Zm.lt (v (i+1) - v i) u)<|Zm.lb (v (i+1) - v i) u
def L9(ks:kF)(v:Nat->Int)(u:Int):kL:=DI (mT (ks.length+1)<|E5 v u)<|ks.map T.int++[.non]
def Gi(ks:kF)(u:Int):Option (Nat->Int)->T
 |some v=>.own (L9 ks v u)|none=>.non
def Ln(M:Mc)(ks:kF)(g:kL)(b:Int):Option (kI)->Ru
 |some l=>.ok (Gi ks (b * ((ks.length:Int)+2))<|Fm M l g b)|none=>.exc "NoRoad"
def zpw{n a:Nat}{g:Nat->T}:BW (mT (n+a) g) (↑(a:Int)) none=mT n λi=>g<|i+a:=by
 unfold BW
 have e2:HT.sIx (mT (n+a) g).length 0 (↑(a:Int))=a:=by
  rw[BO];simp[HT.sIx]
  lia
 have e3:HT.sIx (mT (n+a) g).length (mT (n+a) g).length none=n+a:=by rw[BO];rfl
 rw[e2,e3];refine Du (by simp[BO]) λi hi=>?_
 rw[Ţ (by lia),ĳ,ED (by lia),Ŗ]
def zgl(n:Nat)(v:Nat->Int):DI (iT (n+1) v) (mT n λi=>.int<|v<|i+1)=mT n λi=>.tup [.int<|v i,.int<|v<|i+1]:=by
 refine Du (by simp[DI,BO]) λi hi=>?_
 unfold DI;rw[ň,ED (show i<n+1 by lia),ED hi]
def zna{M:Mc}(h:McOk M)(s:Sh1 M)(ks:kF){g:kL}(hg:BE M.ws BY g)(gl:g.length<=100){b:Int}(hb:0<b)(hb2:b<=10 ^ 12):JE [Ap M,.lst<|ks.map T.int,.lst g,.int b]=↑(Ln M ks g b<|Dn M ks):=by
 have sm:=FT h;have em:=CY _ sm;have si:=Cu ks;have ei:=DH ks;have sg:=hg.sh;have eg:=AJ _ sg;have e1:=lt_ok h s ks hg gl hb hb2;unfold JE Qt;cases e:Dn M ks with
 |none=>
  rw[e]at e1;have e1':Ht [Ap M,.lst<|ks.map T.int,.lst g,.int b]=↑(.exc "NoRoad"):=e1;change ks.map T.int=KT
  simp![si,ei,sg,eg,sm,em,e1',Ln]
 |some l=>
  rw[e]at e1;let(hl,hn,h2):=IM e;have e2:=WO ks h2 b;have u0:0<b * ((ks.length:Int)+2):=ĥ hb<|by lia
  have u1:b * ((ks.length:Int)+2)<=10 ^ 12 * 202:=Int.mul_le_mul hb2 (by lia) (by lia)<|by decide
  rw[show IK M g b ↑l=.ok (MT (ks.length+2)<|Fm M l g b) by unfold IK;erw[hn]]at e1
  rw[show Ln M ks g b ↑l=.ok (Gi ks (b * ((ks.length:Int)+2))<|Fm M l g b) from rfl];cases ev:Fm M l g b with
  |none=>
   rw[ev]at e1;have e1':Ht [Ap M,.lst<|ks.map T.int,.lst g,.int b]=↑(.ok .non):=e1;change ks.map T.int=KT
   simp![si,ei,sg,eg,sm,em,e1',Gi]
  |some v=>
   rw[ev]at e1;have e1':Ht [Ap M,.lst<|ks.map T.int,.lst g,.int b]=↑(.ok<|.own<|iT (ks.length+2) v):=e1;change b * ((ks.length:Int)+2)=u;have cu:BW (iT (ks.length+2) v) ↑1 none=mT (ks.length+1) λi=>.int<|v<|i+1:=zpw (n:=ks.length+1) (a:=1) (g:=λi=>T.int<|v i)
   have zt:=zgl (ks.length+1) v
   have lc:=F6 (n:=ks.length+1) (me:=Ta) (x:=none) (y:=none) (cs:=[↑(.int u)]) (u:=λi=>.int<|v i) (w:=λi=>.int<|v<|i+1) (f:=E5 v u) λi hi=>by
    have ef:=fr_ok (t:=v (i+1) - v i) u0<|by lia
    unfold Ta E5
    simp![ef]
   have sT:A6 (iT (ks.length+2) v)=true:=Ga _;have eT:=AJ _ sT;have sU:A6 (mT (ks.length+1) λi=>T.int<|v<|i+1)=true:=Ga _
   have eU:=AJ _ sU;have sW:A6 (mT (ks.length+1)<|E5 v u)=true:=EO (L:=List.range<|ks.length+1) (f:=E5 v u) λ_ _=>rfl
   have eW:=AJ _ sW;have l1:(mT (ks.length+1) λi=>T.tup [.int<|v i,.int<|v<|i+1]).length<=100000:=by rw[BO];lia
   have l2:(ks.map T.int).length+1<=100000:=by rw[Á];lia
   have sN:A6 (ks.map T.int++[.non])=true:=by
    rw[DV,List.all_append,<- DV,si]
    rfl
   have eN:=AJ _ sN;rw[show Gi ks u ↑v=.own (DI (mT (ks.length+1)<|E5 v u)<|ks.map T.int++[.non]) from rfl];change iT (ks.length+2) v=VT;change (mT (ks.length+1) λi=>T.int<|v<|i+1)=UT
   change (mT (ks.length+1) λi=>T.tup [.int<|v i,.int<|v<|i+1])=PT
   change mT (ks.length+1) (E5 v u)=WT;change ks.map T.int=KT
   simp![si,ei,sg,eg,sm,em,e1',sT,eT,e2,cu,sU,eU,zt,lc,l1,sW,eW,l2,sN,eN]
abbrev O6:Stmt:=AL 65
def Qs:AG:=
 (AQ<|AN JE<|mJ 0<|mJ 1<|mJ 2<|AB (mI 1) AE)
def NJ:kL->Option Ru:=A3 3 3 Qs
abbrev aP:=fA 10 3 O6 NJ
abbrev zfi:Gm:=gA O6 9 [("run_by",aQ)] []
theorem zfx:Ck zfi aP O6 Qs:={}
def zn9{M:Mc}(h:McOk M){ks:kF}{G:T}(sG:G.sh=true):NJ [Ap M,.lst<|ks.map T.int,G]=JE [Ap M,.lst<|ks.map T.int,G,.int 1]:=by
 have sm:=FT h;have em:=CY _ sm;have si:=Cu ks;have ei:=DH ks;unfold NJ Qs;change ks.map T.int=KT;generalize e:JE [Ap M,.lst KT,G,.int 1]=r
 rcases r with _|⟨t⟩|⟨c⟩
 all_goals simp![si,ei,sm,em,e,sG,CY _ sG]
abbrev O9:Stmt:=AL 61
def Tc:AH:=
 (mC .non)
def K9:AH:=
 (BF 1 [] (CI<|mJ 1 AE) (AD 0) (mC<|.bl true) Tc)
def Nw:AG:=
 (J8 5 (AA 6) (AA 7)<|AN JG<|AB (AK (AK (AA 5)<|AA 6)<|AA 7)<|mJ 8 AE)
def Qv:AG:=
 (AF (AO (AN G1<|mJ 0<|mJ 1<|mJ 2 AE)<|AD 3)
 (AF (AO (m2 Al (m1 BA<|AA 1)<|mI 2)<|AD 4)
 (AF (C0 5<|BF 1 [4] (CI<|mJ 4 AE) (AD 0) (mC<|.bl true) K9)
 (AF (B7 (Av<|AA 3) (Ak 3<|AI (AD 6)<|AI (AD 7)<|AI (AD 8) Am) Nw)
 (AF (E9 5)<|AQ<|AN Hr<|mJ 5 AE)))))
def Kk:kL->Option Ru:=A3 3 9 Qv
abbrev aS:=fA 8 3 O9 Kk
abbrev zc8:Gm:=gA O9 7 [("road_bounds",Sl),("narrower",So),("narrowest",bA)] ["len","range"] ["rows"]
theorem zcm:Ck zc8 aS O9 Qv:={}
abbrev oZ(n:Nat)(f:Db.Z):kL:=mT n λi=>.own<|mT n λj=>bT<|f i j
def zkw{n:Nat}{f:Db.Z}{a b:Nat}{c:Db.B}:(oZ n f).set a (.own<|(mT n λj=>bT<|f a j).set b (bT c))=oZ n λi j=>if i=a/\j=b then c else f i j:=by
 rw[Ia,Ia];refine EX λi hi=>?_
 by_cases e:i=a
 .subst e;rw[if_pos rfl,EX λj hj=>?_]
  lia
 simp_all
def FI(f:Db.Z)(x:Dv.Lim):Db.Z:=λi j=>if i=x.1/\j=x.2.1 then Db.mn (f x.1 x.2.1) ↑x.2.2 else f i j
def EM(f:Db.Z)(L:List Dv.Lim):Db.Z:=L.foldl FI f
def SU{n i:Nat}(h:i<n):Bw n (i:Int)=↑i:=by unfold Bw;simp;lia
def WI{n:Nat}{a0 a1 a2 a3 a4:kH}:∀(L:List Dv.Lim) (f:Db.Z) (x6 x7 x8:kH),Dv.In n L ->
  ∃y6 y7 y8,Aj (Ak 3<|AI (AD 6)<|AI (AD 7)<|AI (AD 8) Am) Nw (L.map BC) [a0,a1,a2,a3,a4,↑(.own<|oZ n f),x6,x7,x8]=↑(.nx [a0,a1,a2,a3,a4,↑(.own<|oZ n<|EM f L),y6,y7,y8])
 |[],f,x6,x7,x8,_=>{(x6),x7,x8,rfl}|(i,j,c)::L,f,x6,x7,x8,hI=>by
  let(hi,hj):=hI (i,j,c) (Í ..);let(y6,y7,y8,e):=WI L (FI f (i,j,c)) (↑(.int (i:Nat))) (↑(.int (j:Nat))) (↑(.int c)) λx hx=>hI x<|É _ hx
  refine{y6,y7,y8,(GV (τ1:=[a0,a1,a2,a3,a4,↑(.own<|oZ n f),↑(.int (i:Nat)),↑(.int (j:Nat)),↑(.int c)]) (by simp![]) ?_).trans e}
  have i1:Bw (oZ n f).length (i:Int)=↑i:=by rw[BO];exact SU hi
  have i2:Bw (mT n λj=>bT<|f i j).length (j:Int)=↑j:=by rw[BO];exact SU hj
  have g1:(oZ n f)[i]?=↑(.own<|mT n λj=>bT<|f i j):=ED hi
  have a1:AU (oZ n f) (i:Int)=↑(.own<|mT n λj=>bT<|f i j):=CU g1
  have a2:AU (mT n λj=>bT<|f i j) (j:Int)=↑(bT<|f i j):=Cb hj
  have nr:JG [bT<|f i j,.int c]=↑(.ok<|bT<|Db.mn (f i j) ↑c):=Y8 (f i j) ↑c;have st:=zkw (n:=n) (f:=f) (a:=i) (b:=j) (c:=Db.mn (f i j) ↑c);rw[show oZ n (FI f (i,j,c))=oZ n λi' j'=>if i'=i/\j'=j then Db.mn (f i j) ↑c else f i' j' from rfl,<- st]
  change Db.mn (f i j) ↑c=o;change oZ n f=OT;change (mT n λj=>bT<|f i j)=RT
  change f i j=q;unfold Nw;cases q<;>cases o<;>erw[fB,e8]at nr a2<;>simp![i1,i2,g1,a1,a2,nr,sr]
def ET(M:Mc)(l:kI)(g:kL):Db.Z:=EM (λ_ _=>none)<|Br M l<|g.map<|A2 M.ws
def Jd(M:Mc)(g:kL):Option (kI)->Ru
 |some l=>.ok (oT (l.length+2)<|GI (l.length+2)<|ET M l g)|none=>.exc "NoRoad"
def rz_ok{M:Mc}(h:McOk M)(s:Sh1 M)(ks:kF){g:kL}(hg:BE M.ws BY g)(gl:g.length<=100):Kk [Ap M,.lst<|ks.map T.int,.lst g]=↑(Jd M g<|Dn M ks):=by
 have sm:=FT h;have em:=CY _ sm;have si:=Cu ks;have ei:=DH ks;have sg:=hg.sh;have eg:=AJ _ sg;have e1:=W0 h s ks hg gl;unfold Kk Qv;cases e:Dn M ks with
 |none=>
  rw[e]at e1;have e1':G1 [Ap M,.lst<|ks.map T.int,.lst g]=↑(.exc "NoRoad"):=e1;change ks.map T.int=KT
  simp![si,ei,sg,eg,sm,em,e1',Jd]
 |some l=>
  rw[e]at e1;let(hl,hn,h2):=IM e;have e1':G1 [Ap M,.lst<|ks.map T.int,.lst g]=↑(.ok<|.own<|(Br M l<|g.map<|A2 M.ws).map BC):=e1;have sb:=MX<|Br M l<|g.map<|A2 M.ws;have esb:=Ih<|Br M l<|g.map<|A2 M.ws;have hI:=Q0 h hl hg;rw[hn]at hI;rw[show Jd M g ↑l=.ok (oT (ks.length+2)<|GI (ks.length+2)<|ET M l g) by unfold Jd;erw[hn]]
  have enr:=zoo (n:=ks.length+2) (by lia)<|ET M l g
  have ez:(.lst (BN<|oZ (ks.length+2)<|ET M l g):T)=zT (ks.length+2) (ET M l g):=by
   rw[Lf];refine congrArg T.lst<|EX λi hi=>?_
   show T.lst (BN<|mT (ks.length+2) λj=>bT<|ET M l g i j)=_
   rw[AJ _<|IH λ_=>UG _]
  have en:(((ks.map T.int).length:Int)+2)=((ks.length+2:Nat):Int):=by rw[Á];lia
  have ok:CB ((ks.length+2:Nat):Int)=true:=EV<|by lia
  have tn:(((ks.length+2:Nat):Int)).toNat=ks.length+2:=by lia
  have rg:Bl 0 (ks.length+2)=mT (ks.length+2) λi=>.int (i:Int):=C9
  have ln:(mT (ks.length+2) λi=>T.int (i:Int)).length<=100000:=by rw[BO];lia
  have lcI:B8 (AD 0) (mC<|.bl true) Tc (mT (ks.length+2) λi=>.int (i:Int)) [none]=↑(mT (ks.length+2) λj=>bT none):=Dy (n:=ks.length+2) (me:=Tc) (x:=none) (cs:=[]) (g:=λi=>.int (i:Int)) (f:=λ_=>bT none) λi hi=>rfl
  have inn:∀i:Nat,K9 [↑(.int (i:Int)),↑(.int ((ks.length+2:Nat):Int))]=↑(.v (.own<|mT (ks.length+2) λj=>bT none) false):=λi=>by
   change (mT (ks.length+2) λj=>bT none)=NT
   change (mT (ks.length+2) λi=>T.int (i:Int))=IT
   unfold K9
   simp![ok,tn,rg,lcI,ln]
  have lcO:B8 (AD 0) (mC<|.bl true) K9 (mT (ks.length+2) λi=>.int (i:Int)) [none,↑(.int ((ks.length+2:Nat):Int))]=↑(oZ (ks.length+2) λ_ _=>none):=Dy (n:=ks.length+2) (me:=K9) (x:=none) (cs:=[↑(.int ((ks.length+2:Nat):Int))]) (g:=λi=>.int (i:Int)) (f:=λ_=>.own<|mT (ks.length+2) λj=>bT none) λi hi=>inn i
  let(y6,y7,y8,ef):=WI (n:=ks.length+2) (a0:=↑(Ap M)) (a1:=↑(.lst<|ks.map T.int)) (a2:=↑(.lst g)) (a3:=↑(.lst<|(Br M l<|g.map<|A2 M.ws).map BC)) (a4:=↑(.int ((ks.length+2:Nat):Int))) (Br M l<|g.map<|A2 M.ws) (λ_ _=>none) none none none hI
  rw[show EM (λ_ _=>none) (Br M l<|g.map<|A2 M.ws)=ET M l g from rfl]at ef
  rw[<- ez]at enr;have sq1:=GA<|oZ (ks.length+2)<|ET M l g;have eq1:=AJ _ sq1;have so:=oT_sh (ks.length+2)<|GI (ks.length+2)<|ET M l g;change oT (ks.length+2) (GI (ks.length+2)<|ET M l g)=OT;change oZ (ks.length+2) (ET M l g)=ZT;change (oZ (ks.length+2) λ_ _=>none)=Z0
  change (mT (ks.length+2) λi=>T.int (i:Int))=IT
  change (Br M l<|g.map<|A2 M.ws).map BC=BT;change ks.map T.int=KT
  simp![si,ei,sg,eg,sm,em,e1',sb,esb,en,ok,tn,rg,lcO,ln,ef,sq1,eq1,enr,so]
abbrev Ph:Stmt:=AL 84
def S6:AH:=
 (CP (m2 BD (AK (AK (AA 1)<|AA 0)<|mI 0)<|AA 2)<|m2 BD (AK (AK (AA 1)<|AA 0)<|mI 4)<|mC<|.str "")
def Tw:AH:=
 (AA 0)
def LM:AG:=
 (AF (AO (BF 1 [7,2] (CI<|AB (m1 BA<|AA 7) AE) (AD 0) S6 Tw)<|AD 8)
 (AF (Ab (m2 F8 (AA 8)<|BH AE) Ll A8)
 (AF (Co 3<|AK (AA 8)<|m2 BB (AA 4)<|m1 BA<|AA 8)
 (AO (AK (AK (AA 7)<|AK (AA 3)<|m1 Et<|mI 1)<|mI 1)<|AD 2))))
def Rk:AG:=
 (AF (AO (AA 0)<|Ak 3<|AI (AD 5)<|AI (AD 6)<|AI (AD 7) Am)
 (AF (AO (mI 0)<|AD 2)
 (AF (C0 3<|BH AE)
 (AF (B7 (Av<|AA 1) (AD 4) LM)
 (AF (E9 3)<|AQ<|BZ<|mJ 3<|mJ 2 AE)))))
def N6:kL->Option Ru:=A3 2 9 Rk
abbrev b6:=fA 1 2 Ph N6
abbrev zi5:Gm:=gA Ph 0 [] ["range","len"] ["_law_road_here"] (N:=["_law_spec","_law_cells","_law_room","_law_road_here","_law_cell","_law_watches","_law_rooms","_law_doors","_law_ways"])
theorem zik:Ck zi5 b6 Ph Rk:={}
def Aq(ws:kE)(rs:List<|Str×kL)(dd:List Sd):Mc:={ws,rs,dd.map<|De rs}
structure SpK(ws:kE)(rs:List<|Str×kL)(dd:List Sd):Prop where
 sp:SpOk ws rs dd
 mc:McOk (Aq ws rs dd)
 s1:Sh1 (Aq ws rs dd)
 z:∀d∈dd,UM d.z
 w2:ws.length<=2
 g2:∀d∈dd,d.g.length<=2
 l2:∀r∈rs,r.2.length<=2
def zpt{ws:kE}{rs:List<|Str×kL}{dd:List Sd}{sz:Nat}(D:DrwOk ws rs dd sz):SpK ws rs dd:=by
 have rr:RsOk ws rs:={D.r1,by have:=D.r4;lia,λr hr=>by
  have:=D.rn r hr;have:=D.sz
  lia,D.rd,λr hr=>{(D.rl r hr).1,by have:=(D.rl r hr).2;lia}}
 have drk:∀d∈dd,DrOk ws (rs.map (·.1))<|De rs d:=λd hd=>by
  let(d1,d2,d3,d4,d5,d6,d7,d8):=D.d d hd;refine{?_,?_,d3,by show d.g.length<=1000;lia,d5,d6,by show d.n.length<=100;lia,?_}
  .show(rs.getD d.b (Str.empty,[])).1∈_;rw[Ú,Â d1];exact ŋ<|Ò d1
  .show(rs.getD d.e (Str.empty,[])).1∈_;rw[Ú,Â d2];exact ŋ<|Ò d2
  .rcases d8 with e|e
   .exact .inl e
   .exact .inr<|.inl e
 have wl:=D.wl;have dl:=D.dl;refine{{rr,λd hd=>{(D.d d hd).1,(D.d d hd).2.1},drk,D.dl},{λx hx=>.inr<|D.w x hx,D.wd,by show ws.length<=7;lia,rr,λd hd=>?_,by show(dd.map _).length<=200;rw[Á];lia},{λr hr=>by have:=(D.rl r hr).2;lia,λd hd=>?_},λd hd=>(D.d d hd).2.2.2.2.2.2.2,wl,λd hd=>(D.d d hd).2.2.2.1,λr hr=>(D.rl r hr).2}
 .let(d',hd',rfl):=Ó.mp hd;exact drk d' hd'
 .let(d',hd',rfl):=Ó.mp hd;have:=(D.d d' hd').2.2.2.1
  lia
def Cm(dd:List Sd)(r:Nat)(k:Int):Option Nat:=if 0<=k then (match dd[k.toNat]? with
 |some d=>if d.z=Str.empty/\d.b=r then ↑d.e else none
 |none=>none) else none
def CW(dd:List Sd):Nat->kF->Option Nat
 |r,[]=>↑r|r,k::ks=>(Cm dd r k).bind λe=>CW dd e ks
def Ui{dd:List Sd}:∀(ks:kF) (r:Nat) (js:kF),CW dd r (ks++js)=(CW dd r ks).bind λe=>CW dd e js
 |[],r,js=>rfl|k::ks,r,js=>by
  show(Cm dd r k).bind (λe=>CW dd e<|ks++js)=((Cm dd r k).bind λe=>CW dd e ks).bind _
  cases Cm dd r k with
  |none=>rfl|some e=>exact Ui ks e js
def Az(rs:List<|Str×kL)(r:Nat):Str:=(rs.getD r (Str.empty,[])).1
def zky{rs:List<|Str×kL}(nd:(rs.map (·.1)).Nodup){i j:Nat}(hi:i<rs.length)(hj:j<rs.length)(e:Az rs i=Az rs j):i=j:=by
 unfold Az at e;have e2:(rs.map (·.1))[i]'(by simp_all)=(rs.map (·.1))[j]'(by simp_all):=by simp_all
 exact(ğ nd).mp e2
def Hx{ws:kE}{rs:List<|Str×kL}{dd:List Sd}(h:SpK ws rs dd){r:Nat}{k:Int}{e:Nat}(q:Cm dd r k=↑e):e<rs.length/\0<=k/\k<(dd.length:Int)/\∃d,dd[k.toNat]?=↑d/\d.z=Str.empty/\d.b=r/\d.e=e:=by
 unfold Cm at q;split at q
 .split at q
  .rename_i h0 _ d hd;split at q
   .rename_i h1;cases q;have:=(Ñ.mp hd).1;exact{(h.sp.b d<|ç hd).2,h0,by lia,d,hd,h1.1,h1.2,rfl}
   .cases q
  .cases q
 .cases q
def znc{ws:kE}{rs:List<|Str×kL}{dd:List Sd}(h:SpK ws rs dd){r:Nat}(hr:r<rs.length)(k:Int):(Em (Aq ws rs dd) (Az rs r) k).map (·.e)=(Cm dd r k).map (Az rs):=by
 unfold Em Cm
 by_cases h0:0<=k
 .rw[if_pos h0,if_pos h0];show Option.map _ (match (dd.map<|De rs)[k.toNat]? with|some d=>_|none=>_)=_
  rw[Ë];cases hd:dd[k.toNat]? with
  |none=>rfl|some d=>
   have hb:=h.sp.b d<|ç hd;show Option.map (·.e) (if d.z=Str.empty/\Az rs d.b=Az rs r then ↑(De rs d) else none)=_
   by_cases h1:d.z=Str.empty/\d.b=r
   .rw[if_pos {h1.1,by rw[h1.2]}]
    erw[if_pos h1]
    rfl
   .rw[if_neg λz=>h1 {z.1,zky h.sp.r.nd hb.1 hr z.2}]
    erw[if_neg h1]
    rfl
 .rw[if_neg h0,if_neg h0]
  rfl
def WY{ws:kE}{rs:List<|Str×kL}{dd:List Sd}(h:SpK ws rs dd):∀(ks:kF) {r:Nat},r<rs.length->(Cp (Aq ws rs dd) (Az rs r) ks).map (λl=>(l.getLast?.map (·.e)).getD (Az rs r))=(CW dd r ks).map (Az rs)
 |[],r,_=>rfl|k::ks,r,hr=>by
  rw[Jg];show _=Option.map _ ((Cm dd r k).bind λe=>CW dd e ks)
  have e1:=znc h hr k;cases q:Cm dd r k with
  |none=>simp_all|some e=>
   rw[q]at e1;cases q2:Em (Aq ws rs dd) (Az rs r) k with
   |none=>simp_all|some d=>
    rw[q2]at e1;have ed:d.e=Az rs e:=Ý e1;have i:=WY h ks (Hx h q).1;rw[<- ed]at i;erw[ĸ];rw[<- i,Option.map_map];refine congrFun (congrArg Option.map<|funext λl=>?_) _
    show((d::l).getLast?.map (·.e)).getD (Az rs r)=(l.getLast?.map (·.e)).getD d.e
    rw[List.getLast?_cons];cases l.getLast?<;>rfl
def QY{ws:kE}{rs:List<|Str×kL}{dd:List Sd}(h:SpK ws rs dd):Fj (Aq ws rs dd)=Az rs 0:=by
 have h1:=h.sp.r.l1;unfold Fj Az;show((rs.map (·.1))[0]?).getD _=_;rw[Ë,Ú,Â<|by lia]
 rfl
def LF(dd:List Sd)(ks:kF):Option Nat:=if ks.length<=200 then CW dd 0 ks else none
def znb{ws:kE}{rs:List<|Str×kL}{dd:List Sd}(h:SpK ws rs dd)(ks:kF):(Dn (Aq ws rs dd) ks).map (Ci<|Aq ws rs dd)=(LF dd ks).map (Az rs):=by
 unfold Dn LF
 by_cases hl:ks.length<=200
 .rw[if_pos hl,if_pos hl,QY h,<- WY h ks (by have:=h.sp.r.l1;lia)]
  refine congrFun (congrArg Option.map<|funext λl=>?_) _
  unfold Ci;rw[QY h];cases l.getLast?<;>rfl
 .rw[if_neg hl,if_neg hl]
  rfl
def cS:F8 (.lst []) (.lst [])=↑(.bl true):=by ext
def E4(dd:List Sd)(r:Nat):kG:=(List.range dd.length).filter λk=>(Cm dd r (k:Int)).isSome
def O3{dd:List Sd}{k:Nat}(hk:k<dd.length):AU (dd.map BJ) (k:Int)=↑(BJ dd[k]):=CU<|by simp_all
def Uj{dd:List Sd}{k r:Nat}(hk:k<dd.length):Cm dd r (k:Int)=if dd[k].z=Str.empty/\dd[k].b=r then ↑dd[k].e else none:=by
 unfold Cm
 simp_all
def zj7{ws:kE}{rs:List<|Str×kL}{dd:List Sd}(h:SpK ws rs dd)(r:Nat){x:kH}:B8 (AD 0) S6 Tw (Bl 0 dd.length) [x,↑(.lst<|dd.map BJ),↑(.int (r:Int))]=↑((E4 dd r).map λk:Nat=>T.int (k:Int)):=by
 rw[show Bl 0 dd.length=mT dd.length λi=>.int (i:Int) from C9]
 refine SK (f:=λk:Nat=>T.int (k:Int)) (p:=λk=>(Cm dd r (k:Int)).isSome) λk hk=>?_
 have hk':=á.mp hk;have sd:=h.sp.sd;have ea:=O3 hk';have gs:A6 dd[k].g=true:=(h.sp.d _<|Ò hk').g.sh
 have tz:PyData.strOk dd[k].z=true:=by
  rcases h.z _ (Ò hk') with e|e<;>rw[e]<;>decide +kernel
 have ez:=K3 tz TU
 have a4:∀{x y z v w:T} {l:kL},AU (x::y::z::v::w::l) (4:Int)=↑w:=by
  intro x y z v w l;have:AU (x::y::z::v::w::l) ((4:Nat):Int)=↑w:=CU rfl;exact this
 rw[Uj hk'];change dd[k]=d;change dd.map BJ=DT;unfold S6 Tw;refine{{false,?_},by simp![]}
 by_cases h1:d.b=r
 .have e1:((d.b:Int) == (r:Int))=true:=by rw[h1];simp
  by_cases h2:d.z=Str.empty
  .rw[Ì (show d.z=Str.ofString "" from h2)]at ez;rw[if_pos {(h2),h1}]
   simp![sd,ea,Dd,e1,a4,ez,gs,AS,AV,AJ _ gs,ŷ]
  .rw[Ù (show ¬ d.z=Str.ofString "" from h2)]at ez;rw[if_neg λz=>h2 z.1]
   simp![sd,ea,Dd,e1,a4,ez,gs,AS,AV,AJ _ gs,Option.isSome_none]
 .have e1:((d.b:Int) == (r:Int))=false:=by rw[ī];lia
  rw[if_neg λz=>h1 z.2]
  simp![sd,ea,Dd,e1,a4,gs,AS,AV,AJ _ gs,Option.isSome_none]
def fg_bk{b:T->AM->Option AM}{body:AG}{t:T}{ts:kL}{Y τ1 τ2:AM}(h1:b t Y=↑τ1)(h2:body τ1=↑(.bk τ2)):Aj b body (t::ts) Y=↑(.nx τ2):=by
 conv=>lhs;unfold Aj
 lia
def ZG{ws:kE}{rs:List<|Str×kL}{dd:List Sd}(h:SpK ws rs dd){a0 a1 a5 a6:kH}:∀(cs:kF) (ks:kF) (r:Nat) (x4 x8:kH),CW dd 0 ks=↑r->ks.length+cs.length<=1000 ->
  ∃(ks':kF) (r':Nat) (y4 y8:kH),Aj (AD 4) LM (cs.map T.int) [a0,a1,↑(.int (r:Int)),↑(.own<|ks.map T.int),x4,a5,a6,↑(.lst<|dd.map BJ),x8]=↑(.nx [a0,a1,↑(.int (r':Int)),↑(.own<|ks'.map T.int),y4,a5,a6,↑(.lst<|dd.map BJ),y8])/\CW dd 0 ks'=↑r'/\ks'.length<=ks.length+cs.length
 |[],ks,r,x4,x8,hk,_=>{ks,r,x4,x8,rfl,hk,Ç _}|c::cs,ks,r,x4,x8,hk,hl=>by
  rw[Ø]at hl;have lw:=zj7 h r (x:=none);have sd:=h.sp.sd;have ed:=AJ _ sd;have dl:=h.sp.l;have ok:CB (dd.length:Int)=true:=EV<|by lia
  have ll:(Bl 0 dd.length).length<=100000:=by unfold Bl;rw[Á,ĵ];lia
  have el:(dd.map BJ).length=dd.length:=Á ..;rw[Ï];cases hw:E4 dd r with
  |nil=>
   rw[hw]at lw;refine{ks,r,↑(.int c),↑(.lst []),fg_bk (τ1:=[a0,a1,↑(.int (r:Int)),↑(.own<|ks.map T.int),↑(.int c),a5,a6,↑(.lst<|dd.map BJ),x8]) (by simp![]) ?_,hk,by lia}
   rw[Ő]at lw;have eq:=cS;change dd.map BJ=DT;change ks.map T.int=KT;unfold LM
   simp![-F8,sd,ed,el,ok,î,lw,ll,eq]
  |cons k0 kr=>
   let(k,hk1,hk2):=zou (E4 dd r) (by rw[hw];simp) c
   have hkf:=Ĺ.mp hk1;have hkw:k<dd.length:=á.mp hkf.1;let(e,he):=Ņ.mp hkf.2;have hd:=he.symm.trans<|Uj (r:=r) hkw
   have hee:dd[k].e=e:=by
    split at hd
    .exact(Ý hd).symm
    .cases hd
   let(ks',r',y4,y8,i1,i2,i3):=ZG h cs (ks++[(k:Int)]) e (↑(.int c)) (↑(.lst ((E4 dd r).map λk:Nat=>T.int (k:Int)))) (by
    rw[Ui,hk];show(Cm dd r (k:Int)).bind _=_;rw[he]
    rfl) (by rw[à,į];lia)
   refine{ks',r',y4,y8,(GV (τ1:=[a0,a1,↑(.int (r:Int)),↑(.own<|ks.map T.int),↑(.int c),a5,a6,↑(.lst<|dd.map BJ),x8]) (by simp![]) ?_).trans i1,i2,by rw[à,į]at i3;rw[Ø];lia}
   have a1':AU ((E4 dd r).map λk:Nat=>T.int (k:Int)) (c.fmod ((E4 dd r).length:Int))=↑(.int (k:Int)):=Mz (λk:Nat=>T.int (k:Int)) hk2
   have sw:A6 ((E4 dd r).map λk:Nat=>T.int (k:Int))=true:=EO λ_ _=>rfl
   have esw:=AJ _ sw;have nl:((E4 dd r).length:Int)≠0:=zp2 (by rw[hw];simp)
   have ewl:((E4 dd r).map λk:Nat=>T.int (k:Int)).length=(E4 dd r).length:=Á ..
   have eq:F8 (.lst ((E4 dd r).map λk:Nat=>T.int (k:Int))) (.lst [])=↑(.bl false):=by rw[hw];rfl
   have la:(ks.map T.int).length<100000:=by rw[Á];lia
   have al:AU (ks.map T.int++[.int (k:Int)]) (-1)=↑(.int (k:Int)):=fE<|by simp
   have ea:=O3 hkw;have gs:A6 dd[k].g=true:=(h.sp.d _<|Ò hkw).g.sh;have esn:(.int (dd[k].e:Int):T)=.int (e:Int):=by rw[hee]
   rw[è];have sk:=Cu ks;change dd[k]=d;change ((E4 dd r).map λk:Nat=>T.int (k:Int))=WT
   change dd.map BJ=DT;change ks.map T.int=KT;change (E4 dd r).length=wl;unfold LM
   simp![-F8,sd,ed,el,ok,î,lw,ll,eq,sw,esw,ewl,nl,a1',la,al,ea,gs,AS,esn,sk]
def zoz{ws:kE}{rs:List<|Str×kL}{dd:List Sd}(h:SpK ws rs dd){cs:kF}(hl:cs.length<=100):∃(ks:kF) (r:Nat),N6 [Ay ws rs dd,.lst<|cs.map T.int]=↑(.ok<|.tup [.lst<|ks.map T.int,.int (r:Int)])/\CW dd 0 ks=↑r/\ks.length<=cs.length:=by
 have sr:=El h.sp.r;have er:=AJ _ sr;have sd:=h.sp.sd;have ed:=AJ _ sd;have sc:=Cu cs;have ec:=DH cs;let(ks,r,y4,y8,e,e2,e3):=ZG h (a0:=↑(Ay ws rs dd)) (a1:=↑(.lst<|cs.map T.int)) (a5:=↑(.lst<|ws.map T.str)) (a6:=↑(C1 rs)) cs [] 0 none none rfl (by erw[Ċ];lia)
 refine{ks,r,?_,e2,by simpa using e3}
 have sk:=Cu ks;have ek:=DH ks;rw[Ő,show((0:Nat):Int)=0 from rfl]at e;unfold N6 Rk
 simp![AV,AS,sr,er,sd,ed,sc,ec,e,sk,ek]
abbrev Py:Stmt:=AL 78
def J1:AH:=
 (m2 CD (AA 1)<|mI 0)
def OI:AG:=
 (Ja 0 1<|mJ 1<|AB (m2 BB (AA 0)<|AA 1) AE)
def Rw:AG:=
 (AF (Fi J1 OI)
 (AQ<|AA 0))
def N9:kL->Option Ru:=A3 2 2 Rw
abbrev cE:=fA 1 2 Py N9
abbrev zdd:Gm:=gA Py 0 [] []
theorem zdo:Ck zdd cE Py Rw:={}
def zld(a:Int){b:Int}(hb:0<b):N9 [.int a,.int b]=↑(.ok<|.int<|Zm.gd a b):=by
 have loop:=WG (mc:=J1) (body:=OI)
  (λY=>∃(g l:Int),Y=[↑(.int g),↑(.int l)]/\Zm.gd g l=Zm.gd a b/\0<=l/\(l=0->0<g))
  (λY=>match Y with|[_,↑(.int l)]=>l.natAbs|_=>0)
  {_,_,rfl,rfl,by lia,λz=>by lia} (by
   rintro Y ⟨g,l,rfl,e,hl,hg⟩
   by_cases h0:l=0
   .right;exact{false,by unfold J1;simp![Eb,h0]}
   .left;exact{false,by unfold J1;simp![Eb];simp[h0],[↑(.int l),↑(.int<|g.fmod l)],by unfold OI;simp![h0],{_,_,rfl,Zm.gd_turn e,û g (by lia),λ_=>by lia},Zm.fmod_less g h0})
 let(Y',e1,(g,l,rfl,e,hl,hg),bb,e2):=loop
 have hl0:l=0:=by
  have e3:J1 [↑(.int g),↑(.int l)]=↑(.v (.bl<|!(l == 0)) false):=by rfl
  lia
 unfold N9 Rw;have ge:=Zm.gd_end e hl0;have:=hg hl0;rw[if_neg<|by lia]at ge
 rw[<- ge]
 simp![e1]
abbrev Pk:Stmt:=AL 79
def Rl:AG:=
 (AF (AO (m2 Al (m2 Bm (AK (AA 0)<|mI 0)<|AK (AA 1)<|mI 1)<|m2 Bm (AK (AA 1)<|mI 0)<|AK (AA 0)<|mI 1)<|AD 2)
 (AF (AO (m2 Bm (AK (AA 0)<|mI 1)<|AK (AA 1)<|mI 1)<|AD 3)
 (AF (AO (AN N9<|mJ 2<|mJ 3 AE)<|AD 4)
 (AQ<|BZ<|AB (m2 Bd (AA 2)<|AA 4)<|AB (m2 Bd (AA 3)<|AA 4) AE))))
def Fb:kL->Option Ru:=A3 2 5 Rl
abbrev Mi:=fA 2 2 Pk Fb
abbrev zi6:Gm:=gA Pk 1 [("_law_divisor",cE)] []
theorem zil:Ck zi6 Mi Pk Rl:={}
def SD{t b u c:Int}(hb:0<b)(hc:0<c)(h:t * c=u * b):Zm.lt t b=Zm.lt u c/\Zm.lb t b=Zm.lb u c:=by
 have b0:b≠0:=by lia
 have c0:c≠0:=by lia
 have g1:=Zm.gd_low (t:=t) b0;have g2:=Zm.gd_low (t:=u) c0;have p1:=Zm.lb_pos (t:=t) hb;have p2:=Zm.lb_pos (t:=u) hc;have k1:=Zm.gd_pos (a:=t) b0;have k2:=Zm.gd_pos (a:=u) c0;have e1:=Zm.lt_mul (t:=t) b0;have e2:=Zm.lb_mul (t:=t) b0;have e3:=Zm.lt_mul (t:=u) c0;have e4:=Zm.lb_mul (t:=u) c0;change Zm.lt t b=x;change Zm.lb t b=y;change Zm.lt u c=z;change Zm.lb u c=w;change Zm.gd t b=g;change Zm.gd u c=k
 have e :=by
  have q :=by
   rw[<- e1,<- e2,<- e3,<- e4]at h
   calc (x * w) * (g * k)=x * g * (w * k):=by erw[Ġ,ķ,ď]
    _=z * k * (y * g):=h
    _=(z * y) * (g * k):=by erw[Ġ,ķ,ď]
  exact Int.eq_of_mul_eq_mul_right (Int.ne_of_gt<|ĥ k1 k2) q
 unfold Zm.gd at g1 g2;have g1:Int.gcd x y=1:=by lia
 have g2:Int.gcd z w=1:=by lia
 have d1 :=by
  have:y ∣ x * w:={z,by rw[e,ď]}
  have:=Int.dvd_gcd_mul_iff_dvd_mul.mpr this;rw[Int.gcd_comm,g1]at this
  simpa using this
 have d2 :=by
  have:w ∣ z * y:={x,by rw[<- e,ď]}
  have:=Int.dvd_gcd_mul_iff_dvd_mul.mpr this;rw[Int.gcd_comm,g2]at this
  simpa using this
 have yw:y=w:=by
  have:=Int.le_of_dvd p2 d1;have:=Int.le_of_dvd p1 d2
  lia
 subst yw;exact{Int.eq_of_mul_eq_mul_right (by lia) e,rfl}
abbrev EJ(P v:Int):T:=fr (Zm.lt v P)<|Zm.lb v P
structure Bo(P:Int):Prop where
 p:0<P
 l:P<2 ^ 63
def Bo.s(h:Bo P):DW P=true:=DE (by have:=h.p;lia) (by have:=h.l;lia)
theorem Bo.lb(h:Bo P)(v:Int):Bo<|Zm.lb v P:={Zm.lb_pos h.p,by have:=Zm.lb_le (t:=v) h.p;have:=h.l;lia}
def Md{P:Int}(h:0<P):EJ P 0=fr 0 1:=by
 let(a,b):=SD (t:=0) (b:=P) (u:=0) (c:=1) h (by decide)<|by simp
 unfold EJ;rw[b]
 rfl
def ZJ{a b c d:Int}(hb:Bo b)(hd:Bo d):Fb [fr a b,fr c d]=↑(.ok<|fr (Zm.lt (a * d+c * b)<|b * d)<|Zm.lb (a * d+c * b)<|b * d):=by
 have p0:0<b * d:=ĥ hb.p hd.p;have p1:b * d<10 ^ 70:=ŵ (Int.mul_le_mul (Ľ hb.l) (Ľ hd.l) (Ľ hd.p)<|by lia)<|by lia
 have g0:0<Zm.gd (a * d+c * b) (b * d):=Zm.gd_pos<|by lia
 have g1:Zm.gd (a * d+c * b) (b * d)<=b * d:=Zm.gd_le p0;have gs:Bk (Zm.gd (a * d+c * b)<|b * d)=true:=CN (Int.lt_trans (by lia:(-(10 ^ 70):Int)<0) g0)<|ŵ g1 p1
 have n2:(Zm.gd (a * d+c * b) (b * d)≠0)=True:=eq_true<|by lia
 have m1:Bs a d=true:=Eu hd.s;have m2:Bs c b=true:=Eu hb.s;have m3:Bs b d=true:=Eu hd.s;have ld:=zld (a * d+c * b) p0;unfold Fb Rl
 simp![m1,m2,m3,ld,gs,n2]
 rfl
def ZH{P v w a b:Int}(h:Bo P)(hb:Bo b)(e:a * P=w * b):Fb [EJ P v,fr a b]=↑(.ok<|EJ P<|v+w):=by
 have h1:=ZJ (a:=Zm.lt v P) (c:=a) (h.lb v) hb;have p0:P≠0:=by have:=h.p;lia
 have e1:=Zm.lt_mul (t:=v) p0;have e2:=Zm.lb_mul (t:=v) p0
 have e3:Zm.lt v P * P=v * Zm.lb v P:=by
  calc Zm.lt v P * P=Zm.lt v P * (Zm.lb v P * Zm.gd v P):=by rw[e2]
   _=(Zm.lt v P * Zm.gd v P) * Zm.lb v P:=by erw[Ġ,ķ,ď]
   _=v * Zm.lb v P:=by rw[e1]
 have k:=SD (t:=Zm.lt v P * b+a * Zm.lb v P) (b:=Zm.lb v P * b) (u:=v+w) (c:=P) (ĥ (h.lb v).p hb.p) h.p (by
  change Zm.lt v P=x;change Zm.lb v P=y
  calc (x * b+a * y) * P=(x * P) * b+(a * P) * y:=by lia
   _=(v * y) * b+(w * b) * y:=by rw[e3,e]
   _=(v+w) * (y * b):=by lia)
 simp_all
abbrev Pq:Stmt:=AL 77
def LQ:AG:=
 (AF (AO (AK (AA 2)<|H9 (AA 1)<|AA 3)<|Ak 2<|AI (AD 7)<|AI (AD 8) Am)
 (AF (AO (m2 E8 (AA 7)<|m2 Bm (AA 5)<|AA 8)<|AD 6)
 (AF (Ab (BK (CP (m2 BD (AA 4)<|mC<|.str "<")<|m2 (BX λi j=>decide (j<=i)) (AA 6)<|mI 0)<|CP (m2 BD (AA 4)<|mC<|.str "<=")<|m2 (BX λi j=>decide (j<i)) (AA 6)<|mI 0) (AQ<|mC<|.bl false) A8)
 (Ab (BK (CP (m2 BD (AA 4)<|mC<|.str ">")<|m2 (BX λi j=>decide (i<=j)) (AA 6)<|mI 0)<|BK (CP (m2 BD (AA 4)<|mC<|.str ">=")<|m2 (BX λi j=>decide (i<j)) (AA 6)<|mI 0)<|CP (m2 BD (AA 4)<|mC<|.str "=")<|m2 CD (AA 6)<|mI 0) (AQ<|mC<|.bl false) A8))))
def MR:AG:=
 (AF (B7 (Av<|AA 0) (Ak 3<|AI (AD 3)<|AI (AD 4)<|AI (AD 5) Am) LQ)
 (AQ<|mC<|.bl true))
def Eg:kL->Option Ru:=A3 3 9 MR
abbrev K0:=fA 1 3 Pq Eg
abbrev zfp:Gm:=gA Pq 0 [] [] (N:=["_law_looks","_law_watches","_law_values","_law_watch","_law_word","_law_number_here","_law_left","_law_top","_law_bottom"])
theorem zg4:Ck zfp K0 Pq MR:={}
def TM{b:T->AM->Option AM}{body:AG}{t u:T}{ts:kL}{Y τ1:AM}(h1:b t Y=↑τ1)(h2:body τ1=↑(.rt u)):Aj b body (t::ts) Y=↑(.rt u):=by
 conv=>lhs;unfold Aj
 lia
def WK{k n:Nat}{u:AG}{ts:kL}{t:T}(hk:ts.length=k)(h:u (ts.map some++List.replicate (n - ts.length) none)=↑(.rt t)):A3 k n u ts=↑(.ok t):=by
 unfold A3 Lm
 lia
def aK{α:Type}{b:T->AM->Option AM}{body:AG}(f:α->T)(p:α->Bool)(t0:T)(I:AM->Prop):∀(L:List α) (Y:AM),I Y->(∀x∈L,∀Y,I Y->∃τ1,b (f x) Y=↑τ1/\(p x=true->∃τ2,body τ1=↑(.nx τ2)/\I τ2)/\(p x=false->body τ1=↑(.rt t0)))->(L.all p=true->∃Y',Aj b body (L.map f) Y=↑(.nx Y')/\I Y')/\(L.all p=false->Aj b body (L.map f) Y=↑(.rt t0))
 |[],Y,h,_=>{λ_=>{(Y),rfl,h},λz=>by cases z}|x::L,Y,h,hs=>by
  let(τ1,e1,h1,h2):=hs x (Í ..) Y h;rw[Ï,List.all_cons];unfold Aj;rw[e1];cases hp:p x with
  |false=>lia|true=>let(τ2,e2,i2):=h1 hp;erw[e2];exact aK f p t0 I L τ2 i2 λy hy=>hs y<|É _ hy
abbrev A5(m:Nat)(P:Int)(x:Nat->Int):kL:=mT m λj=>EJ P<|x<|j+1
def Dj(m:Nat)(P:Int)(x:Nat->Int):A6 (A5 m P x)=true:=IH λ_=>rfl
def Ct(P x:Int)(w:Nat)(n:Int):Bool:=match w with
 |0=>decide (x<n * P)|1=>decide (x<=n * P)|2=>decide (n * P<x)|3=>decide (n * P<=x)|_=>decide (x=n * P)
def BI(P:Int)(L:List<|Nat×Nat×Int)(x:Nat->Int):Bool:=L.all λl=>Ct P (x l.1) l.2.1 l.2.2
def Vv{P v n:Int}(h:0<P):(0<=Zm.lt v P - n * Zm.lb v P ↔ n * P<=v)/\(0<Zm.lt v P - n * Zm.lb v P ↔ n * P<v)/\(Zm.lt v P - n * Zm.lb v P<=0 ↔ v<=n * P)/\(Zm.lt v P - n * Zm.lb v P<0 ↔ v<n * P)/\(Zm.lt v P - n * Zm.lb v P=0 ↔ v=n * P):=by
 have p0:P≠0:=by lia
 have e1:=Zm.lt_mul (t:=v) p0;have e2:=Zm.lb_mul (t:=v) p0;have g:=Zm.gd_pos (a:=v) p0;have e:(Zm.lt v P - n * Zm.lb v P) * Zm.gd v P=v - n * P:=by rw[Int.sub_mul,Ġ,e1,e2]
 clear e1 e2
 change Zm.lt v P - n * Zm.lb v P=l;change Zm.gd v P=k
 have q:(0<l/\0<l * k)\/(l=0/\l * k=0)\/(l<0/\l * k<0):=by
  rcases Int.lt_trichotomy l 0 with c|c|c
  .exact .inr<|.inr {c,Int.mul_neg_of_neg_of_pos c g}
  .exact .inr<|.inl {c,by rw[c,ľ]}
  .exact .inl {c,ĥ c g}
 have v0:v=n * P+l * k:=by lia
 clear e
 change l * k=m;change n * P=x;subst v0;refine{?_,?_,?_,?_,?_}<;>lia
def zf7{P:Int}(h:Bo P){ws:kE}(wl:ws.length<=7)(x:Nat->Int){t:T}(ht:∃x y n,t=.tup [.str x,.str y,.int n]/\x∈ws/\y∈BY/\0<=n)(a0:kH)(x6 x7 x8:kH) :
  ∃y6 y7 y8,LQ [a0,↑(.lst<|ws.map T.str),↑(.lst<|A5 ws.length P x),↑(.str<|DF t),↑(.str<|Cs t),↑(.int<|Bc t),x6,x7,x8]=↑(if Ct P (x (A2 ws t).1) (A2 ws t).2.1 (A2 ws t).2.2=true then .nx [a0,↑(.lst<|ws.map T.str),↑(.lst<|A5 ws.length P x),↑(.str<|DF t),↑(.str<|Cs t),↑(.int<|Bc t),y6,y7,y8] else .rt (.bl false)):=by
 let(k1,k2,k3,k4):=Gs ht;let(j,ej,hj,_):=Hg k2;have vsh:=Dj ws.length P x;have av:AU (A5 ws.length P x) (j:Int)=↑(fr (Zm.lt (x<|j+1) P)<|Zm.lb (x<|j+1) P):=Cb hj;have ep:A2 ws t=(j+1,DB<|Cs t,Bc t):=by unfold A2;rw[ej];rfl
 let(q1,q2):=LG _ k3;let(s0,s1,s2,s3,s4):=Nu q2;rw[q1]at s0 s1 s2 s3 s4;rw[ep];have m1:Bs (Bc t) (Zm.lb (x<|j+1) P)=true:=Eu (h.lb _).s;have wl':ws.length<1000000:=by lia
 let(c1,c2,c3,c4,c5):=Vv (v:=x<|j+1) (n:=Bc t) h.p;show ∃y6 y7 y8,_=↑(if Ct P (x<|j+1) (DB<|Cs t) (Bc t)=true then _ else _)
 change A5 ws.length P x=VT;change DF t=X;generalize Cs t=τ at *;change Bc t=n;change x (j+1)=v;change DB τ=w;refine{↑(.int<|Zm.lt v P - n * Zm.lb v P),↑(.int<|Zm.lt v P),↑(.int<|Zm.lb v P),?_};change Zm.lt v P=a;change Zm.lb v P=b;unfold LQ;refine sq (by simp![AV,AS,vsh,IE,ej,wl',av];rfl) ?_
 refine sq (by simp![m1];rfl) ?_
 change a - n * b=l;have hw:w=0\/w=1\/w=2\/w=3\/w=4:=by lia
 rcases hw with rfl|rfl|rfl|rfl|rfl
 .by_cases z:v<n * P
  .have d1:decide (0<=l)=false:=Ù<|by lia
   rw[if_pos (show Ct P v 0 n=true from Ì z)]
   simp![s0,s1,s2,s3,s4,d1]
  .have d1:decide (0<=l)=true:=Ì<|by lia
   rw[if_neg (show ¬ Ct P v 0 n=true from λq=>z<|ò q)]
   simp![s0,s1,s2,s3,s4,d1]
 .by_cases z:v<=n * P
  .have d1:decide (0<l)=false:=Ù<|by lia
   rw[if_pos (show Ct P v 1 n=true from Ì z)]
   simp![s0,s1,s2,s3,s4,d1]
  .have d1:decide (0<l)=true:=Ì<|by lia
   rw[if_neg (show ¬ Ct P v 1 n=true from λq=>z<|ò q)]
   simp![s0,s1,s2,s3,s4,d1]
 .by_cases z:n * P<v
  .have d1:decide (l<=0)=false:=Ù<|by lia
   rw[if_pos (show Ct P v 2 n=true from Ì z)]
   simp![s0,s1,s2,s3,s4,d1]
  .have d1:decide (l<=0)=true:=Ì<|by lia
   rw[if_neg (show ¬ Ct P v 2 n=true from λq=>z<|ò q)]
   simp![s0,s1,s2,s3,s4,d1]
 .by_cases z:n * P<=v
  .have d1:decide (l<0)=false:=Ù<|by lia
   rw[if_pos (show Ct P v 3 n=true from Ì z)]
   simp![s0,s1,s2,s3,s4,d1]
  .have d1:decide (l<0)=true:=Ì<|by lia
   rw[if_neg (show ¬ Ct P v 3 n=true from λq=>z<|ò q)]
   simp![s0,s1,s2,s3,s4,d1]
 .by_cases z:v=n * P
  .have d1:(l == 0)=true:=by rw[Ē];lia
   rw[if_pos (show Ct P v 4 n=true from Ì z)]
   simp![s0,s1,s2,s3,s4,d1,Eb]
  .have d1:(l == 0)=false:=by rw[ī];lia
   rw[if_neg (show ¬ Ct P v 4 n=true from λq=>z<|ò q)]
   simp![s0,s1,s2,s3,s4,d1,Eb]
def Iq{P:Int}(h:Bo P){ws:kE}(wl:ws.length<=7)(x:Nat->Int){l:kL}(hl:BE ws BY l):Eg [.lst l,.lst<|ws.map T.str,.lst<|A5 ws.length P x]=↑(.ok<|.bl<|BI P (l.map<|A2 ws) x):=by
 have vsh:=Dj ws.length P x;have ev:=AJ _ vsh;have sl:=hl.sh;have esl:=AJ _ sl
 have fa:=aK (b:=Ak 3<|AI (AD 3)<|AI (AD 4)<|AI (AD 5) Am) (body:=LQ) (λt:T=>t) (λt=>Ct P (x (A2 ws t).1) (A2 ws t).2.1 (A2 ws t).2.2) (.bl false) (λY=>∃x3 x4 x5 x6 x7 x8,Y=[↑(.lst l),↑(.lst<|ws.map T.str),↑(.lst<|A5 ws.length P x),x3,x4,x5,x6,x7,x8]) l
  [↑(.lst l),↑(.lst<|ws.map T.str),↑(.lst<|A5 ws.length P x),none,none,none,none,none,none] {(none),none,none,none,none,none,rfl} λt ht Y hI=>by
   let(x3,x4,x5,x6,x7,x8,rfl):=hI;let(k1,k2,k3,k4):=Gs<|hl t ht;let(y6,y7,y8,e):=zf7 h wl x (hl t ht) (↑(.lst l)) x6 x7 x8;refine{[↑(.lst l),↑(.lst<|ws.map T.str),↑(.lst<|A5 ws.length P x),↑(.str<|DF t),↑(.str<|Cs t),↑(.int<|Bc t),x6,x7,x8],by rw[k1];simp![DF,Cs,Bc],λq=>?_,λq=>?_}
   .rw[if_pos q]at e;exact{_,e,_,_,_,_,_,_,rfl}
   .rw[if_neg (by rw[q];exact ü)]at e
    exact e
 have ea:BI P (l.map<|A2 ws) x=l.all λt=>Ct P (x (A2 ws t).1) (A2 ws t).2.1 (A2 ws t).2.2:=by
  unfold BI;rw[List.all_map]
  rfl
 rw[ea];rw[List.map_id']at fa;cases hb:l.all λt=>Ct P (x (A2 ws t).1) (A2 ws t).2.1 (A2 ws t).2.2 with
 |true=>
  let(Y',e,x3,x4,x5,x6,x7,x8,rfl):=fa.1 hb;change A5 ws.length P x=VT;unfold Eg MR
  simp![AV,AS,vsh,ev,sl,esl,e]
 |false=>
  have e:=fa.2 hb;change A5 ws.length P x=VT;unfold Eg MR
  simp![AV,AS,vsh,ev,sl,esl,e]
abbrev Pf:Stmt:=AL 81
def Mw:AH:=
 (BZ<|AB (mI 0)<|AB (mI 1) AE)
def MP:AG:=
 (AF (AO (BZ<|AB (mI 0)<|AB (BF 1 [] (Av<|AK (AA 0)<|mI 0) (AD 0) (mC<|.bl true) Mw) AE)<|AD 1)
 (AF (Ab (Au<|AN Eg<|AB (AK (AK (AK (AA 0)<|mI 1)<|mI 0)<|mI 1)<|AB (AK (AA 0)<|mI 0)<|AB (AK (AA 1)<|mI 1) AE) (AQ<|mC .non) A8)
 (AQ<|AA 1)))
def JQ:kL->Option Ru:=A3 1 2 MP
abbrev TB:=fA 2 1 Pf JQ
abbrev zfm:Gm:=gA Pf 1 [("_law_holds",K0)] []
theorem zg1:Ck zfm TB Pf MP:={}
abbrev FN(P:Int)(m r:Nat)(x:Nat->Int):T:=.tup [.int (r:Int),.lst<|A5 m P x]
def CA(P:Int)(m:Nat):Option (Nat×(Nat->Int))->T
 |some s=>FN P m s.1 s.2|none=>.non
def CM(ws:kE)(rs:List<|Str×kL)(r:Nat):List<|Nat×Nat×Int:=(rs.getD r (Str.empty,[])).2.map (A2 ws)
def QM{ws:kE}{rs:List<|Str×kL}(h:RsOk ws rs)(r:Nat):BE ws BY (rs.getD r (Str.empty,[])).2:=by
 by_cases hr:r<rs.length
 .rw[Ú,Â hr];exact(h.lk _<|Ò hr).1.wd
 .rw[Ú,ÿ<|by lia]
  exact λt ht=>by cases ht
def Bv(P:Int)(ws:kE)(rs:List<|Str×kL):Option<|Nat×(Nat->Int):=if BI P (CM ws rs 0) (λ_=>0)=true then ↑(0,λ_=>0) else none
def Vh{P:Int}(h:Bo P){ws:kE}{rs:List<|Str×kL}{dd:List Sd}(K:SpK ws rs dd):JQ [Ay ws rs dd]=↑(.ok<|CA P ws.length<|Bv P ws rs):=by
 have s9:=El K.sp.r;have er:=AJ _ s9;have sd:=K.sp.sd;have ed:=AJ _ sd;have w2:=K.w2;have r1:=K.sp.r.l1;have hl:=QM K.sp.r 0;have gs:=hl.sh;have ho:=Iq h (by lia:ws.length<=7) (λ_=>0) hl
 have ra:AU (rs.map BV) 0=↑(.tup [.str (rs.getD 0 (Str.empty,[])).1,.lst (rs.getD 0 (Str.empty,[])).2]):=Je (i:=0)<|by lia
 have vsh:=Dj ws.length P λ_=>0
 have ev:=AJ _ vsh
 have lc:B8 (AD 0) (mC<|.bl true) Mw (ws.map T.str) [none]=↑(A5 ws.length P λ_=>0):=by
  have:=Hc (b:=AD 0) (me:=Mw) T.str (λ_=>EJ P 0) (λY=>∃y,Y=[y]) ws [none] {(none),rfl} λx hx Y hI=>by
   let(y,rfl):=hI;refine{[↑(.str x)],by simp![],?_,_,rfl}
   rw[Md h.p];unfold Mw
   simp![]
  rw[this];refine congrArg some<|Du (Á _) λi hi=>?_
  rw[Ë,Â hi]
  rfl
 have ll:ws.length<=100000:=by lia
 have s1:Bv P ws rs=if BI P (CM ws rs 0) (λ_=>0)=true then ↑(0,λ_=>0) else none:=rfl
 rw[s1]
 change Eg [.lst (rs.getD 0 (Str.empty,[])).2,.lst<|ws.map T.str,.lst<|A5 ws.length P λ_=>0]=↑(.ok<|.bl<|BI P (CM ws rs 0) λ_=>0) at ho
 change (rs.getD 0 (Str.empty,[])).2=GT;cases hb:BI P (CM ws rs 0) λ_=>0 with
 |true=>
  rw[hb]at ho;erw[Æ];show _=↑(Ru.ok<|.tup [.int ((0:Nat):Int),.lst<|A5 ws.length P λ_=>0])
  rw[show((0:Nat):Int)=0 from rfl];change (A5 ws.length P λ_=>0)=VT
  unfold JQ MP
  simp![AV,AS,s9,er,sd,ed,lc,Á,ll,vsh,ev,ra,gs,AJ _ gs,ho]
 |false=>
  rw[hb]at ho;erw[Ā,Ã];show _=↑(Ru.ok .non);change (A5 ws.length P λ_=>0)=VT
  unfold JQ MP
  simp![AV,AS,s9,er,sd,ed,lc,Á,ll,vsh,ev,ra,gs,AJ _ gs,ho]
abbrev Pd:Stmt:=AL 80
def Mv:AH:=
 (AN Fb<|mJ 0<|mJ 1 AE)
def LL:AG:=
 (Ab (m2 EH (AK (AA 6)<|AA 5)<|AA 13) (Gd 4 (AA 5)<|BZ<|AB (mI 0)<|AB (mI 1) AE) A8)
def MO:AG:=
 (AF (AO (AA 0)<|Ak 3<|AI (AD 6)<|AI (AD 7)<|AI (AD 8) Am)
 (AF (AO (AA 1)<|Ak 2<|AI (AD 9)<|AI (AD 4) Am)
 (AF (E9 4) (AF (C0 4<|BF 1 [2] (Av<|AA 4) (AD 0) (mC<|.bl true) Mv)
 (AF (Ab (Au<|AN Eg<|AB (AK (AK (AA 7)<|AA 9)<|mI 1)<|mJ 6<|mJ 4 AE) (AQ<|mC .non) A8)
 (AF (Ab (m2 (Cg false) (AA 3)<|mC .non) (AF (E9 4)<|AQ<|BZ<|mJ 9<|mJ 4 AE) A8)
 (AF (AO (AK (AA 8)<|AA 3)<|Ak 5<|AI (AD 10)<|AI (AD 11)<|AI (AD 12)<|AI (AD 13)<|AI (AD 14) Am)
 (AF (Ab (BK (m2 CD (AA 10)<|AA 9)<|BK (m2 CD (AA 14)<|mC<|.str "")<|Au<|AN Eg<|mJ 12<|mJ 6<|mJ 4 AE) (AQ<|mC .non) A8)
 (AF (B7 (CI<|AB (m1 BA<|AA 6) AE) (AD 5) LL)
 (AF (Ab (Au<|AN Eg<|AB (AK (AK (AA 7)<|AA 11)<|mI 1)<|mJ 6<|mJ 4 AE) (AQ<|mC .non) A8)
 (AF (E9 4)<|AQ<|BZ<|mJ 11<|mJ 4 AE)))))))))))
def N5:kL->Option Ru:=A3 4 15 MO
abbrev Sz:=fA 3 4 Pd N5
abbrev zi3:Gm:=gA Pd 2 [("_law_plus",Mi),("_law_holds",K0)] ["range","len"] ["_law_values"] (N:=["_law_spec","_law_stand","_law_wait","_law_number_here","_law_values","_law_k","_law_watches","_law_rooms","_law_doors","_law_room","_law_begin","_law_end","_law_guard_here","_law_noughts","_law_sign"])
theorem zii:Ck zi3 Sz Pd MO:={}
def C7(P:Int)(ws:kE)(rs:List<|Str×kL)(dd:List Sd)(s:Nat×(Nat->Int))(w:Int)(k:Option Nat):Option<|Nat×(Nat->Int):=
 if BI P (CM ws rs s.1) (λp=>s.2 p+w)=true then (match k with
  |none=>↑(s.1,λp=>s.2 p+w)|some k=>(match dd[k]? with
   |some d=>if d.b=s.1/\d.z=Str.empty/\BI P (d.g.map<|A2 ws) (λp=>s.2 p+w)=true/\BI P (CM ws rs d.e) (λp=>if p∈Ao ws d.n then 0 else s.2 p+w)=true then ↑(d.e,λp=>if p∈Ao ws d.n then 0 else s.2 p+w) else none
   |none=>none)) else none
def Y9{ws:kE}(nd:ws.Nodup){ns:kE}(hn:∀x∈ns,x∈ws){j:Nat}(hj:j<ws.length):ws[j]∈ns ↔ j+1∈Ao ws ns:=by
 unfold Ao;rw[Ó];constructor
 .intro h;refine{ws[j],h,?_};rw[Zv nd hj]
  rfl
 .rintro⟨x,hx,e⟩;let(i,ei,hi,ex):=Hg<|hn x hx
  simp_all
def zK(k:Nat)(ps:kG)(y:Nat->Int):Nat->Int:=λp=>if p∈ps/\p<=k then 0 else y p
def zje{P:Int}(h:Bo P){ws:kE}(tw:Bn ws)(nd:ws.Nodup)(wl:ws.length<=2){ns:kE}(hn:∀x∈ns,x∈ws)(y:Nat->Int){a0 a1 a2 a3 a7 a8 a9 a10 a11 a12 a14:kH}{x5:kH} :
  ∃y5,Aj (AD 5) LL (mT ws.length λi=>.int (i:Int)) [a0,a1,a2,a3,↑(.own<|A5 ws.length P y),x5,↑(.lst<|ws.map T.str),a7,a8,a9,a10,a11,a12,↑(.lst<|ns.map T.str),a14] =
   ↑(.nx [a0,a1,a2,a3,↑(.own (A5 ws.length P λp=>if p∈Ao ws ns then 0 else y p)),y5,↑(.lst<|ws.map T.str),a7,a8,a9,a10,a11,a12,↑(.lst<|ns.map T.str),a14]):=by
 have loop:=KW (b:=AD 5) (body:=LL) (n:=ws.length) (g:=λi=>.int (i:Int)) (Y:=[a0,a1,a2,a3,↑(.own<|A5 ws.length P y),x5,↑(.lst<|ws.map T.str),a7,a8,a9,a10,a11,a12,↑(.lst<|ns.map T.str),a14])
  (λk Y=>∃y5,Y=[a0,a1,a2,a3,↑(.own<|A5 ws.length P<|zK k (Ao ws ns) y),y5,↑(.lst<|ws.map T.str),a7,a8,a9,a10,a11,a12,↑(.lst<|ns.map T.str),a14])
  {x5,by
   rw[show A5 ws.length P (zK 0 (Ao ws ns) y)=A5 ws.length P y from EX λi _=>by
    unfold zK
    rw[if_neg<|by lia]]} (by
   rintro k Y hk ⟨y5,rfl⟩;refine{[a0,a1,a2,a3,↑(.own<|A5 ws.length P<|zK k (Ao ws ns) y),↑(.int (k:Int)),↑(.lst<|ws.map T.str),a7,a8,a9,a10,a11,a12,↑(.lst<|ns.map T.str),a14],by simp![],[a0,a1,a2,a3,↑(.own<|A5 ws.length P<|zK (k+1) (Ao ws ns) y),↑(.int (k:Int)),↑(.lst<|ws.map T.str),a7,a8,a9,a10,a11,a12,↑(.lst<|ns.map T.str),a14],?_,_,rfl}
   have aw:AU (ws.map T.str) (k:Int)=↑(.str ws[k]):=CU (by rw[Ë,Â hk];rfl)
   have tn:Bn ns:=λx hx=>tw x<|hn x hx
   have ei:=Im (o:=false) (k:=.lst) tn<|tw _<|Ò hk;have i1:Bw (A5 ws.length P<|zK k (Ao ws ns) y).length (k:Int)=↑k:=by rw[BO];exact SU hk
   have z0:fr 0 1=EJ P 0:=(Md h.p).symm;unfold LL
   by_cases hm:ws[k]∈ns
   .rw[Ì hm]at ei
    have st:(A5 ws.length P<|zK k (Ao ws ns) y).set k (fr 0 1)=A5 ws.length P (zK (k+1) (Ao ws ns) y):=by
     rw[z0];unfold A5;rw[Ia];refine EX λj hj=>?_
     have:=Y9 nd hn hj;unfold zK
     grind
    rw[<- st];change A5 ws.length P (zK k (Ao ws ns) y)=VT
    simp![AV,AS,aw,ei,i1]
   .rw[Ù hm]at ei
    have st:A5 ws.length P (zK k (Ao ws ns) y)=A5 ws.length P (zK (k+1) (Ao ws ns) y):=EX λj hj=>by
     have:=Y9 nd hn hj;unfold zK
     grind
    rw[<- st];change A5 ws.length P (zK k (Ao ws ns) y)=VT
    simp![AV,AS,aw,ei])
 let(Y',e,y5,rfl):=loop;refine{y5,e.trans ?_}
 rw[show A5 ws.length P (zK ws.length (Ao ws ns) y)=A5 ws.length P (λp=>if p∈Ao ws ns then 0 else y p) from EX λj hj=>by
  unfold zK
  grind]
def BG:Option Nat->T
 |some k=>.int (k:Int)|none=>.non
def Vf{P:Int}(h:Bo P){ws:kE}{rs:List<|Str×kL}{dd:List Sd}(K:SpK ws rs dd){r:Nat}(hr:r<rs.length)(x:Nat->Int){w a b:Int}(hb:Bo b)(e:a * P=w * b){k:Option Nat}(hk:∀i∈k,i<dd.length):N5 [Ay ws rs dd,FN P ws.length r x,fr a b,BG k]=↑(.ok<|CA P ws.length<|C7 P ws rs dd (r,x) w k):=by
 have s9:=El K.sp.r;have er:=AJ _ s9;have sd:=K.sp.sd;have ed:=AJ _ sd;have w2:=K.w2;have hl:=QM K.sp.r r;have gs:=hl.sh;have vs0:=Dj ws.length P x;have ev0:=AJ _ vs0;have vs1:=Dj ws.length P λp=>x p+w
 have ev1:=AJ _ vs1
 have lc:B8 (AD 0) (mC<|.bl true) Mv (A5 ws.length P x) [none,↑(fr a b)]=↑(A5 ws.length P λp=>x p+w):=Dy (n:=ws.length) (me:=Mv) (x:=none) (cs:=[↑(fr a b)]) (g:=λj=>EJ P<|x<|j+1) (f:=λj=>EJ P<|x (j+1)+w) λj hj=>by
  unfold Mv
  simp![ZH (v:=x<|j+1) h hb e]
 have ll:(A5 ws.length P x).length<=100000:=by rw[BO];lia
 have ra:=Je hr;have h1:Eg [.lst (rs.getD r (Str.empty,[])).2,.lst<|ws.map T.str,.lst<|A5 ws.length P λp=>x p+w]=↑(.ok<|.bl<|BI P (CM ws rs r) λp=>x p+w):=Iq h (by lia:ws.length<=7) (λp=>x p+w) hl
 have oU:CA P ws.length (↑(r,λp=>x p+w))=.tup [.int (r:Int),.lst<|A5 ws.length P λp=>x p+w]:=rfl
 have oN:CA P ws.length none=.non:=rfl;refine WK rfl ?_;show MO [↑(Ay ws rs dd),↑(.tup [.int (r:Int),.lst<|A5 ws.length P x]),↑(fr a b),↑(BG k),none,none,none,none,none,none,none,none,none,none,none]=_;unfold C7 MO;dsimp only;change (rs.getD r (Str.empty,[])).2=GT;change (rs.getD r (Str.empty,[])).1=GN;generalize hU:(A5 ws.length P λp=>x p+w)=VU at *
 change A5 ws.length P x=VT;change BI P (CM ws rs r) (λp=>x p+w)=B
 refine sq (by simp![AV,AS,s9,er,sd,ed];rfl)<|sq (by simp![vs0,ev0];rfl)<|G9 (by simp![vs0,ev0])<|sq (by simp![vs0,ev0,lc,ll];rfl) ?_
 cases B with
 |false=>exact sr (by simp![AV,AS,s9,er,ra,gs,AJ _ gs,vs1,ev1,h1,Ã,Ā,oN])|true=>
  refine G9 (by simp![AV,AS,s9,er,ra,gs,AJ _ gs,vs1,ev1,h1]) ?_
  rw[if_pos rfl];cases k with
  |none=>exact sr (by simp![BG,vs1,ev1,oU])|some k=>
   have hkl:=hk k rfl;have hD:=K.sp.d _<|Ò hkl;have hg:BE ws BY dd[k].g:=hD.g;have dgs:=hg.sh;have edg:=AJ _ dgs;have ea:=O3 hkl
   have tz:PyData.strOk dd[k].z=true:=by
    rcases K.z _ (Ò hkl) with e|e<;>rw[e]<;>decide +kernel
   have ez:=Qk tz TU;have h2:=Iq h (by lia:ws.length<=7) (λp=>x p+w) hg
   have ra2:=Je (K.sp.b _<|Ò hkl).2;have hl2:=QM K.sp.r dd[k].e;have gs2:=hl2.sh;have h3:Eg [.lst (rs.getD dd[k].e (Str.empty,[])).2,.lst<|ws.map T.str,.lst (A5 ws.length P λp=>if p∈Ao ws dd[k].n then 0 else x p+w)]=↑(.ok<|.bl (BI P (CM ws rs dd[k].e) λp=>if p∈Ao ws dd[k].n then 0 else x p+w)):=Iq h (by lia:ws.length<=7) (λp=>if p∈Ao ws dd[k].n then 0 else x p+w) hl2
   let(y5,el):=zje (ws:=ws) (ns:=dd[k].n) h K.mc.tw K.mc.wd w2 hD.n (λp=>x p+w) (a0:=↑(Ay ws rs dd)) (a1:=↑(.tup [.int (r:Int),.lst VT])) (a2:=↑(fr a b)) (a3:=↑(.int (k:Int))) (a7:=↑(C1 rs)) (a8:=↑(.lst<|dd.map BJ)) (a9:=↑(.int (r:Int))) (a10:=↑(.int (dd[k].b:Int))) (a11:=↑(.int (dd[k].e:Int))) (a12:=↑(.lst dd[k].g)) (a14:=↑(.str dd[k].z)) (x5:=none)
   have vs2:=Dj ws.length P λp=>if p∈Ao ws dd[k].n then 0 else x p+w
   have ev2:=AJ _ vs2;have oW:CA P ws.length (↑(dd[k].e,λp=>if p∈Ao ws dd[k].n then 0 else x p+w))=.tup [.int (dd[k].e:Int),.lst (A5 ws.length P λp=>if p∈Ao ws dd[k].n then 0 else x p+w)]:=rfl
   have ok:CB (ws.length:Int)=true:=EV<|by lia
   have rg:Bl 0 ws.length=mT ws.length λi=>.int (i:Int):=C9
   erw[Â hkl];rw[hU]at h2 el;change dd[k]=d;change (A5 ws.length P λp=>if p∈Ao ws d.n then 0 else x p+w)=VW
   change (rs.getD d.e (Str.empty,[])).2=G2;change (rs.getD d.e (Str.empty,[])).1=N2;refine G9 (by simp![BG])<|sq (by simp![BG,sd,ed,ea,dgs,edg,AV,AS];rfl) ?_
   have e1:(!((d.b:Int) == (r:Int)))=!decide (d.b=r):=by grind
   by_cases c:d.b=r/\d.z=Str.empty/\BI P (d.g.map<|A2 ws) (λp=>x p+w)=true
   .let(c1,c2,c3):=c;rw[c3]at h2;rw[Ì c1]at e1;rw[Ì (show d.z=Str.ofString "" from c2)]at ez;refine G9 (by simp![Eb,e1,ez,dgs,edg,AV,AS,vs1,ev1,h2])<|sq (by simp![AV,AS,Á,ok,î,rg,el];rfl) ?_
    change BI P (CM ws rs d.e) (λp=>if p∈Ao ws d.n then 0 else x p+w)=B2
    cases B2 with
    |true=>
     rw[if_pos {(c1),c2,c3,rfl}]
     simp![AV,AS,s9,er,ra2,gs2,AJ _ gs2,vs2,ev2,h3,oW]
    |false=>
     rw[if_neg λz=>ü z.2.2.2]
     exact sr<|by simp![AV,AS,s9,er,ra2,gs2,AJ _ gs2,vs2,ev2,h3,oN]
   .rw[if_neg λz=>c {(z.1),z.2.1,z.2.2.1}]
    refine sr ?_;have c:¬ (decide (d.b=r)=true/\decide (d.z=Str.ofString "")=true/\BI P (d.g.map<|A2 ws) (λp=>x p+w)=true):=λz=>c {ò z.1,ò z.2.1,z.2.2}
    change BI P (d.g.map<|A2 ws) (λp=>x p+w)=B1
    change decide (d.z=Str.ofString "")=B2;change decide (d.b=r)=B3
    cases B1<;>cases B2<;>cases B3<;>first
     |exact absurd ⟨rfl,rfl,rfl⟩ c
     |simp![Eb,e1,ez,dgs,edg,AV,AS,vs1,ev1,h2,oN]
abbrev Pj:Stmt:=AL 82
def LN:AG:=
 (Ab (BK (Au<|m1 (CH "int")<|AA 2)<|BK (m1 (CH "bool")<|AA 2)<|m2 (BX λi j=>decide (i<j)) (AA 2)<|mI 0) (AQ<|mC<|.bl false) A8)
def MQ:AG:=
 (AF (Ab (BK (Au<|m1 (CH "tuple")<|AA 0)<|m2 CD (m1 BA<|AA 0)<|mI 2) (AQ<|mC<|.bl false) A8)
 (AF (AO (AA 0)<|Ak 2<|AI (AD 3)<|AI (AD 4) Am)
 (AF (Ab (BK (Au<|m1 (CH "tuple")<|AA 3)<|m2 CD (m1 BA<|AA 3)<|mI 2) (AQ<|mC<|.bl false) A8)
 (AF (B7 (Av<|AA 3) (AD 2) LN)
 (AF (Ab (BK (m2 BD (AK (AA 3)<|mI 1)<|mI 0)<|m2 (Cg false) (AA 4)<|mC .non) (AQ<|m2 (BX λi j=>decide (j<i)) (AK (AA 3)<|mI 1)<|mI 0) A8)
 (AQ<|CP (m1 (CH "int")<|AA 4)<|CP (Au<|m1 (CH "bool")<|AA 4)<|FW FA (BX λi j=>decide (i<j)) (mI 0) (AA 4)<|AA 1))))))
def Ku:kL->Option Ru:=A3 2 5 MQ
abbrev b7:=fA 1 2 Pj Ku
abbrev zbd:Gm:=gA Pj 0 [] ["isinstance","tuple","len","int","bool"] (N:=["_law_thing","_law_many","_law_part","_law_wait","_law_number_here"])
theorem zbl:Ck zbd b7 Pj MQ:={}
def zgy{a b:Int}(ha:0<=a)(hb:0<b){k:Option Nat}{n:Nat}(hk:∀i∈k,i<n):Ku [.tup [fr a b,BG k],.int (n:Int)]=↑(.ok<|.bl true):=by
 have d1:decide (a<0)=false:=Ù<|by lia
 have d2:decide (b<0)=false:=Ù<|by lia
 have d3:(b == 0)=false:=by rw[ī];lia
 have d4:decide (0<b)=true:=Ì hb
 have lp:∀(KT:T) (x3 x4:kH),Aj (AD 2) LN [.int a,.int b] [↑(.tup [fr a b,KT]),↑(.int (n:Int)),none,x3,x4]=↑(.nx [↑(.tup [fr a b,KT]),↑(.int (n:Int)),↑(.int b),x3,x4]):=λKT x3 x4=>by
  refine(GV (τ1:=[↑(.tup [fr a b,KT]),↑(.int (n:Int)),↑(.int a),x3,x4]) (τ2:=[↑(.tup [fr a b,KT]),↑(.int (n:Int)),↑(.int a),x3,x4]) (by simp![]) ?_).trans (GV (τ1:=[↑(.tup [fr a b,KT]),↑(.int (n:Int)),↑(.int b),x3,x4]) (by simp![]) ?_)
  .unfold LN
   simp![d1]
  .unfold LN
   simp![d2]
 cases k with
 |none=>
  have lp':=lp .non (↑(fr a b))<|↑.non;unfold Ku MQ
  simp![BG,Eb,lp',Dd,d3,d4]
 |some k=>
  have hk':=hk k rfl;have d5:decide ((0:Int)<=(k:Int))=true:=Ì<|by lia
  have d6:decide ((k:Int)<(n:Int))=true:=Ì<|by lia
  have lp':=lp (.int (k:Int)) (↑(fr a b))<|↑(.int (k:Int));unfold Ku MQ
  simp![BG,Eb,lp',Dd,d3,d5,d6]
abbrev Pa:Stmt:=AL 83
def HL:AG:=
 (AF (Ab (BK (m2 (Cg false) (AA 2)<|mC .non)<|Au<|AN Ku<|mJ 3<|AB (m1 BA<|AK (AA 0)<|mI 2) AE) (AQ<|mC .non) A8)
 (AO (AN N5<|mJ 0<|mJ 2<|AB (AK (AA 3)<|mI 0)<|AB (AK (AA 3)<|mI 1) AE)<|AD 2))
def MM:AG:=
 (AF (AO (AN JQ<|mJ 0 AE)<|AD 2)
 (AF (Ab (Au<|m1 (CH "list")<|AA 1) (AQ<|mC .non) A8)
 (AF (B7 (Av<|AA 1) (AD 3) HL)
 (AQ<|AA 2))))
def JP:kL->Option Ru:=A3 2 4 MM
abbrev bZ:=fA 4 2 Pa JP
abbrev zi2:Gm:=gA Pa 3 [("_law_start",TB),("_law_right_step",b7),("_law_step",Sz)] ["isinstance","list","len"]
theorem zih:Ck zi2 bZ Pa MM:={}
def DK(P:Int)(ws:kE)(rs:List<|Str×kL)(dd:List Sd):Option (Nat×(Nat->Int))->List (Int×Option Nat)->Option (Nat×(Nat->Int))
 |s,[]=>s|none,_=>none|some s,x::r=>DK P ws rs dd (C7 P ws rs dd s x.1 x.2) r
def QO{P:Int}{ws:kE}{rs:List<|Str×kL}{dd:List Sd}:∀l,DK P ws rs dd none l=none
 |[]=>rfl|_::_=>rfl
structure Tp where
 w:Int
 a:Int
 b:Int
 k:Option Nat
structure TpOk(P:Int)(n:Nat)(t:Tp):Prop where
 b:Bo t.b
 e:t.a * P=t.w * t.b
 k:∀i∈t.k,i<n
abbrev Bu(t:Tp):T:=.tup [fr t.a t.b,BG t.k]
def Vo{P:Int}{ws:kE}{rs:List<|Str×kL}{dd:List Sd}(K:SpK ws rs dd){s s':Nat×(Nat->Int)}{w:Int}{k:Option Nat}(hs:s.1<rs.length)(e:C7 P ws rs dd s w k=↑s'):s'.1<rs.length:=by
 unfold C7 at e;split at e
 .split at e
  .lia
  .split at e
   .rename_i d hd;split at e
    .cases e;exact(K.sp.b d<|ç hd).2
    .cases e
   .cases e
 .cases e
def IQ(P:Int)(m:Nat)(s:Option<|Nat×(Nat->Int)):(CA P m s).sh=true:=by
 cases s with
 |none=>rfl|some s=>
  show((!false) && (true && (((!false) && A6 (A5 m P s.2)) && true)))=true;rw[Dj]
  rfl
def Um{P:Int}(h:Bo P){ws:kE}{rs:List<|Str×kL}{dd:List Sd}(K:SpK ws rs dd){a1:kH}:∀(L:List Tp) (s:Option<|Nat×(Nat->Int)) (x3:kH),(∀st∈s,st.1<rs.length)->(∀t∈L,TpOk P dd.length t/\0<=t.a) ->
  (∃y3,Aj (AD 3) HL (L.map Bu) [↑(Ay ws rs dd),a1,↑(CA P ws.length s),x3]=↑(.nx [↑(Ay ws rs dd),a1,↑(CA P ws.length<|DK P ws rs dd s<|L.map λt=>(t.w,t.k)),y3])) \/
   (DK P ws rs dd s (L.map λt=>(t.w,t.k))=none/\Aj (AD 3) HL (L.map Bu) [↑(Ay ws rs dd),a1,↑(CA P ws.length s),x3]=↑(.rt .non))
 |[],s,x3,_,_=>.inl {x3,by cases s<;>rfl}|t::L,s,x3,hs,hL=>by
  let(ht,ha):=hL t (Í ..);have s9:=El K.sp.r;have er:=AJ _ s9;have sd:=K.sp.sd;have ed:=AJ _ sd;have el:(dd.map BJ).length=dd.length:=Á ..;rw[Ï,Ï];have kn:(BG t.k).sh=true:=by cases t.k<;>rfl
  have ek:=CY _ kn;cases s with
  |none=>
   refine .inr {rfl,TM (τ1:=[↑(Ay ws rs dd),a1,↑.non,↑(Bu t)]) (by show AD 3 _ [_,_,↑T.non,_]=_;simp![]) ?_}
   unfold HL
   simp![]
  |some st=>
   let(r,x):=st;have hr:r<rs.length:=hs _ rfl;have rt:=zgy ha ht.b.p ht.k;have st:=Vf h K hr x ht.b ht.e ht.k;have vs0:=Dj ws.length P x;have ev0:=AJ _ vs0;have so:=IQ P ws.length<|C7 P ws rs dd (r,x) t.w t.k;have eo:=CY _ so
   have body:HL [↑(Ay ws rs dd),a1,↑(FN P ws.length r x),↑(Bu t)]=↑(.nx [↑(Ay ws rs dd),a1,↑(CA P ws.length<|C7 P ws rs dd (r,x) t.w t.k),↑(Bu t)]):=by
    show HL [↑(Ay ws rs dd),a1,↑(FN P ws.length r x),↑(.tup [fr t.a t.b,BG t.k])]=↑(.nx [↑(Ay ws rs dd),a1,↑(CA P ws.length<|C7 P ws rs dd (r,x) t.w t.k),↑(.tup [fr t.a t.b,BG t.k])]);change CA P ws.length (C7 P ws rs dd (r,x) t.w t.k)=OT;change BG t.k=KT;unfold FN at *;change A5 ws.length P x=VT;unfold HL
    simp![AV,AS,s9,er,sd,ed,el,rt,vs0,ev0,st,so,eo,kn,ek]
   have step:=GV (b:=AD 3) (t:=Bu t) (ts:=L.map Bu) (Y:=[↑(Ay ws rs dd),a1,↑(FN P ws.length r x),x3]) (by
    change FN P ws.length r x=OT
    simp![]) body
   have ih:=Um h K (a1:=a1) L (C7 P ws rs dd (r,x) t.w t.k) (↑(Bu t)) (λst' e'=>Vo K hr e') λu hu=>hL u<|É _ hu
   rcases ih with ⟨y3,e⟩|⟨e1,e2⟩
   .exact .inl {y3,step.trans e}
   .exact .inr {e1,step.trans e2}
def zes{P:Int}(h:Bo P){ws:kE}{rs:List<|Str×kL}{dd:List Sd}(K:SpK ws rs dd){L:List Tp}(hL:∀t∈L,TpOk P dd.length t/\0<=t.a):JP [Ay ws rs dd,.lst<|L.map Bu]=↑(.ok<|CA P ws.length<|DK P ws rs dd (Bv P ws rs)<|L.map λt=>(t.w,t.k)):=by
 have s9:=El K.sp.r;have er:=AJ _ s9;have sd:=K.sp.sd;have ed:=AJ _ sd
 have sL:A6 (L.map Bu)=true:=EO λt _=>by
  show((!false) && (true && ((BG t.k).sh && true)))=true;cases t.k<;>rfl
 have eL:=AJ _ sL;have st:=Vh h K;have so:=IQ P ws.length<|Bv P ws rs;have eo:=CY _ so
 have hs:∀s∈Bv P ws rs,s.1<rs.length:=λs e=>by
  unfold Bv at e;split at e
  .cases e;have:=K.sp.r.l1
   lia
  .cases e
 have so2:=IQ P ws.length<|DK P ws rs dd (Bv P ws rs)<|L.map λt=>(t.w,t.k)
 rcases Um h K (a1:=↑(.lst<|L.map Bu)) L (Bv P ws rs) none hs hL with ⟨y3,e⟩|⟨e1,e⟩
 .change CA P ws.length (Bv P ws rs)=OT;change L.map Bu=LT;unfold JP MM
  simp![AV,AS,s9,er,sd,ed,sL,eL,st,so,eo,e,so2]
 .rw[e1];show _=↑(Ru.ok .non);change CA P ws.length (Bv P ws rs)=OT;change L.map Bu=LT;unfold JP MM
  simp![AV,AS,s9,er,sd,ed,sL,eL,st,so,eo,e]
abbrev Pg:Stmt:=AL 76
def eG:AH:=
 (AA 2)
def Uq:AG:=
 (AO (BQ Hi<|AB (m2 Al (BH<|Ai (AA 1) AE)<|BF 3 [] (Av<|AA 3) (Ak 3<|AI (AD 0)<|AI (AD 1)<|AI (AD 2) Am) (mC<|.bl true) eG) AE)<|AD 1)
def eF:AH:=
 (AA 2)
def Up:AG:=
 (AO (BQ Hi<|AB (m2 Al (BH<|Ai (AA 1) AE)<|BF 3 [] (Av<|AA 6) (Ak 3<|AI (AD 0)<|AI (AD 1)<|AI (AD 2) Am) (mC<|.bl true) eF) AE)<|AD 1)
def Rj:AG:=
 (AF (AO (mI 1)<|AD 1)
 (AF (B7 (Av<|AK (AA 0)<|mI 1) (Ak 2<|AI (AD 2)<|AI (AD 3) Am) Uq)
 (AF (B7 (Av<|AK (AA 0)<|mI 2) (Ak 5<|AI (AD 4)<|AI (AD 5)<|AI (AD 6)<|AI (AD 7)<|AI (AD 8) Am) Up)
 (AQ<|AA 1))))
def Kt:kL->Option Ru:=A3 1 9 Rj
abbrev TC:=fA 1 1 Pg Kt
abbrev zfn:Gm:=gA Pg 0 [] ["max"]
theorem zg2:Ck zfn TC Pg Rj:={}
def Zq:∀ns:kF,Hf (ns.map T.int)=↑ns
 |[]=>rfl|i::r=>by
  rw[Ï];unfold Hf;rw[Zq r]
  rfl
def zov{ns:kF}(h:∀x∈ns,0<=x):0<=MI ns:=by
 unfold MI;rw[Ú];cases e:ns[argBest (λi j=>decide (ns.getD i 0 > ns.getD j 0))<|ns.length - 1]? with
 |none=>simp_all|some y=>exact h y<|ç e
def Yp{ws wd:kE}{l:kL}(hl:BE ws wd l)(hn:l.length<=1000){a:Int}(a0:0<=a){j:Nat}{me:AH}(hme:∀x y z,me [x,y,↑(.int z)]=↑(.v (.int z) false)){Y:AM}(h1:Y[1]?=↑(↑(.int a)))(hj:Y[j]?=↑(↑(.lst l)))(hlen:1<Y.length) :
  ∃b,0<=b/\AO (BQ Hi<|AB (m2 Al (BH<|Ai (AA 1) AE)<|BF 3 [] (Av<|AA j) (Ak 3<|AI (AD 0)<|AI (AD 1)<|AI (AD 2) Am) (mC<|.bl true) me) AE) (AD 1) Y=↑(.nx<|Y.set 1<|↑(.int b)):=by
 have lc:=Hc (b:=Ak 3<|AI (AD 0)<|AI (AD 1)<|AI (AD 2) Am) (me:=me) (λt:T=>t) (λt=>.int<|Bc t) (λY=>∃x y z,Y=[x,y,z]) l [none,none,none] {(none),none,none,rfl} λt ht Y hI=>by
  let(x,y,z,rfl):=hI;let(k1,k2,k3,k4):=Gs<|hl t ht;refine{[↑(.str<|DF t),↑(.str<|Cs t),↑(.int<|Bc t)],by rw[k1];simp![DF,Cs,Bc],hme _ _ _,_,_,_,rfl}
 rw[List.map_id']at lc;have sl:=hl.sh;have es:=AJ _ sl
 have nn:∀x∈a::l.map Bc,0<=x:=λx hx=>by
  rcases Ê.mp hx with rfl|hx
  .exact a0
  .let(t,ht,rfl):=Ó.mp hx;exact(Gs<|hl t ht).2.2.2
 have ei:Hf (l.map λt=>T.int<|Bc t)=↑(l.map Bc):=by
  have:=Zq<|l.map Bc;rw[ý]at this;exact this
 have l1:l.length<=100000:=by lia
 have l2:1+l.length<=100000:=by lia
 have si:A6 (l.map λt=>T.int<|Bc t)=true:=EO λ_ _=>rfl
 have ee:=AJ _ si;refine{MI<|a::l.map Bc,zov nn,?_}
 simp![h1,hj,sl,es,l1,lc,Á,l2,si,ee,hlen,ei]
def Vx{ws:kE}{rs:List<|Str×kL}{dd:List Sd}(sr:A6 (rs.map BV)=true)(sd:A6 (dd.map BJ)=true)(hr:∀r∈rs,BE ws DR r.2/\r.2.length<=2)(hd:∀d∈dd,BE ws BY d.g/\d.g.length<=2):∃m,0<=m/\Kt [Ay ws rs dd]=↑(.ok<|.int m):=by
 have er:=AJ _ sr;have ed:=AJ _ sd
 let(Y,e,m,x2,x3,rfl,m0):=FD (b:=Ak 2<|AI (AD 2)<|AI (AD 3) Am) (body:=Uq) (ts:=rs.map BV) (Y:=[↑(Ay ws rs dd),↑(.int 1),none,none,none,none,none,none,none])
  (λ_ Y=>∃m x2 x3,Y=[↑(Ay ws rs dd),↑(.int m),x2,x3,none,none,none,none,none]/\0<=m) {1,none,none,rfl,by decide} λi t Y h1 h2=>by
  let(m,x2,x3,rfl,m0):=h2;let(r,hrm,rfl):=Ó.mp<|ç h1;let(k1,k2):=hr r hrm;let(b,b0,eb):=Yp k1 (by lia) m0 (j:=3) (me:=eG) (λ_ _ _=>rfl) (Y:=[↑(Ay ws rs dd),↑(.int m),↑(.str r.1),↑(.lst r.2),none,none,none,none,none]) rfl rfl<|by simp
  exact{_,by simp![],_,eb,b,_,_,rfl,b0}
 let(Y,e2,m2,x4,x5,x6,x7,x8,rfl,m20):=FD (b:=Ak 5<|AI (AD 4)<|AI (AD 5)<|AI (AD 6)<|AI (AD 7)<|AI (AD 8) Am) (body:=Up) (ts:=dd.map BJ) (Y:=[↑(Ay ws rs dd),↑(.int m),x2,x3,none,none,none,none,none])
  (λ_ Y=>∃m x4 x5 x6 x7 x8,Y=[↑(Ay ws rs dd),↑(.int m),x2,x3,x4,x5,x6,x7,x8]/\0<=m) {(m),none,none,none,none,none,rfl,m0} λi t Y h1 h2=>by
  let(m,x4,x5,x6,x7,x8,rfl,m0):=h2;let(d,hdm,rfl):=Ó.mp<|ç h1;let(k1,k2):=hd d hdm;let(b,b0,eb):=Yp k1 (by lia) m0 (j:=6) (me:=eF) (λ_ _ _=>rfl) (Y:=[↑(Ay ws rs dd),↑(.int m),x2,x3,↑(.int (d.b:Int)),↑(.int (d.e:Int)),↑(.lst d.g),↑(.lst<|d.n.map T.str),↑(.str d.z)]) rfl rfl<|by simp
  exact{_,by simp![],_,eb,b,_,_,_,_,_,rfl,b0}
 refine{m2,m20,?_};unfold Kt Rj
 simp![AV,AS,sr,er,sd,ed,e,e2]
abbrev Pm:Stmt:=AL 85
def LO:AG:=
 (AF (AO (AK (AA 2)<|H9 (AA 1)<|AA 5)<|Ak 2<|AI (AD 9)<|AI (AD 10) Am)
 (AF (AO (BZ<|AB (m2 E8 (m2 Bm (AA 7)<|AA 10)<|AA 9)<|mJ 10 AE)<|AD 8)
 (AF (Ab (m2 BD (AA 6)<|mC<|.str ">") (AO (AN Fb<|mJ 8<|mJ 3 AE)<|AD 8) A8)
 (Ab (CP (m2 EH (AA 6)<|BZ<|AB (mC<|.str ">")<|AB (mC<|.str ">=")<|AB (mC<|.str "=") AE)<|m2 (BX λi j=>decide (j<i)) (m2 Bm (AK (AA 8)<|mI 0)<|AK (AA 4)<|mI 1)<|m2 Bm (AK (AA 4)<|mI 0)<|AK (AA 8)<|mI 1) (AO (AA 8)<|AD 4) A8))))
def Rm:AG:=
 (AF (AO (BZ<|AB (mI 0)<|AB (mI 1) AE)<|AD 4)
 (AF (B7 (Av<|AA 0) (Ak 3<|AI (AD 5)<|AI (AD 6)<|AI (AD 7) Am) LO)
 (AQ<|AA 4)))
def N7:kL->Option Ru:=A3 4 11 Rm
abbrev b8:=fA 3 4 Pm N7
abbrev zi7:Gm:=gA Pm 2 [("_law_plus",Mi)] [] (N:=["_law_looks","_law_watches","_law_values","_law_little","_law_need_here","_law_watch","_law_word","_law_number_here","_law_least","_law_top","_law_bottom"])
theorem zim:Ck zi7 b8 Pm Rm:={}
def ZI{P v w a b c d:Int}(h:Bo P)(hb:Bo b)(hd:Bo d)(e1:a * P=v * b)(e2:c * P=w * d):Fb [fr a b,fr c d]=↑(.ok<|EJ P<|v+w):=by
 have h1:=ZJ (a:=a) (c:=c) hb hd
 have k:=SD (t:=a * d+c * b) (b:=b * d) (u:=v+w) (c:=P) (ĥ hb.p hd.p) h.p (by
  calc (a * d+c * b) * P=(a * P) * d+(c * P) * b:=by lia
   _=(v * b) * d+(w * d) * b:=by rw[e1,e2]
   _=(v+w) * (b * d):=by lia)
 lia
def ZK{P v:Int}(h:0<P):Zm.lt v P * P=v * Zm.lb v P:=by
 have p0:P≠0:=by lia
 have e1:=Zm.lt_mul (t:=v) p0;have e2:=Zm.lb_mul (t:=v) p0
 calc Zm.lt v P * P=Zm.lt v P * (Zm.lb v P * Zm.gd v P):=by rw[e2]
  _=(Zm.lt v P * Zm.gd v P) * Zm.lb v P:=by erw[Ġ,ķ,ď]
  _=v * Zm.lb v P:=by rw[e1]
structure FP(P a b w:Int):Prop where
 o:Bo b
 e:a * P=w * b
theorem FP.low{P:Int}(h:Bo P)(v:Int):FP P (Zm.lt v P) (Zm.lb v P) v:={h.lb v,ZK h.p}
def in3{w:Nat}(h:w<5):EH (.str<|Eh w) (.tup [.str ">",.str ">=",.str "="])=↑(.bl<|decide (2<=w)):=by
 have:w=0\/w=1\/w=2\/w=3\/w=4:=by lia
 rcases this with rfl|rfl|rfl|rfl|rfl<;>ext
def zl0{P:Int}(h:Bo P){ws:kE}(wl:ws.length<=7)(x:Nat->Int){g:kL}(hg:BE ws BY g){c d u:Int}(hl:FP P c d u):∃a b w,N7 [.lst g,.lst<|ws.map T.str,.lst<|A5 ws.length P x,fr c d]=↑(.ok<|fr a b)/\FP P a b w:=by
 have vsh:=Dj ws.length P x;have ev:=AJ _ vsh;have sg:=hg.sh;have eg:=AJ _ sg;have wl':ws.length<1000000:=by lia
 have av:∀j:Nat,j<ws.length->AU (A5 ws.length P x) (j:Int)=↑(fr (Zm.lt (x<|j+1) P)<|Zm.lb (x<|j+1) P):=λj hj=>Cb hj
 change A5 ws.length P x=VT;let S (v:T) (x5 x6 x7 x8 x9 x10:kH):AM:=[↑(.lst g),↑(.lst<|ws.map T.str),↑(.lst VT),↑(fr c d),↑v,x5,x6,x7,x8,x9,x10]
 let(Y,e,a,b,w,x5,x6,x7,x8,x9,x10,rfl,hF):=FD (b:=Ak 3<|AI (AD 5)<|AI (AD 6)<|AI (AD 7) Am) (body:=LO) (ts:=g) (Y:=S (fr 0 1) none none none none none none)
  (λ_ Y=>∃a b w x5 x6 x7 x8 x9 x10,Y=S (fr a b) x5 x6 x7 x8 x9 x10/\FP P a b w) {0,1,0,none,none,none,none,none,none,rfl,{{by decide,by decide +kernel},by rw[ľ,ľ]}} λi t Y h1 h2=>by
   let(a,b,w,x5,x6,x7,x8,x9,x10,rfl,hF):=h2;let(k1,k2,k3,k4):=Gs<|hg t<|ç h1;let(j,ej,hj,_):=Hg k2;have av:=av j hj;let(q1,q2):=LG _ k3;let(_,_,s2,_,_):=Nu q2;have i3:=in3 q2;rw[q1]at s2 i3;have hv:=FP.low h<|x<|j+1
   have L1:FP P (Bc t * Zm.lb (x<|j+1) P - Zm.lt (x<|j+1) P) (Zm.lb (x<|j+1) P)<|Bc t * P - x (j+1):={hv.o,by
    have:=hv.e;change Zm.lt (x<|j+1) P=p;change Zm.lb (x<|j+1) P=q;rw[Int.sub_mul,Int.sub_mul,this];erw[Ġ,ķ,ď]}
   have u1:Bs (Bc t) (Zm.lb (x<|j+1) P)=true:=Eu hv.o.s;refine{S (fr a b) (↑(.str<|DF t)) (↑(.str<|Cs t)) (↑(.int<|Bc t)) x8 x9 x10,by rw[k1];simp![S,DF,Cs,Bc],?_}
   change DF t=X;generalize Cs t=τ at *;change Bc t=n;change n * P - x (j+1)=w1;change Zm.lt (x<|j+1) P=p;change Zm.lb (x<|j+1) P=q
   let(a2,b2,w2,L2,r2):∃a2 b2 w2,FP P a2 b2 w2/\Ab (m2 BD (AA 6)<|mC<|.str ">") (AO (AN Fb<|mJ 8<|mJ 3 AE)<|AD 8) A8 (S (fr a b) (↑(.str X)) (↑(.str τ)) (↑(.int n)) (↑(fr (n * q - p) q)) (↑(.int p))<|↑(.int q))=↑(.nx<|S (fr a b) (↑(.str X)) (↑(.str τ)) (↑(.int n)) (↑(fr a2 b2)) (↑(.int p))<|↑(.int q)):=by
    by_cases hw:DB τ=2
    .exact{_,_,_,FP.low h<|w1+u,by simp![S,s2,hw,ì,ZI h L1.o hl.o L1.e hl.e]}
    .exact{_,_,_,L1,by simp![S,s2,beq_eq_false_iff_ne.mpr hw]}
   have u2:Bs a2 b=true:=Eu hF.o.s;have u3:Bs a b2=true:=Eu L2.o.s
   have Aw (v:T) (h1:decide (2<=DB τ)=true/\a * b2<a2 * b->fr a2 b2=v) (h2:¬ (decide (2<=DB τ)=true/\a * b2<a2 * b)->fr a b=v):LO (S (fr a b) (↑(.str X)) (↑(.str τ)) (↑(.int n)) x8 x9 x10)=↑(.nx<|S v (↑(.str X)) (↑(.str τ)) (↑(.int n)) (↑(fr a2 b2)) (↑(.int p))<|↑(.int q)):=by
    unfold LO;refine sq (by simp![S,AV,AS,vsh,IE,ej,wl',av];rfl)<|sq (by simp![S,u1])<|sq r2 ?_
    change decide (2<=DB τ)=B
    by_cases hm:a * b2<a2 * b<;>cases B
    .rw[<- h2<|by simp]
     simp![S,i3]
    .rw[<- h1 {(rfl),hm}]
     simp![S,i3,u2,u3,hm,ŀ]
    .rw[<- h2<|by simp]
     simp![S,i3]
    .rw[<- h2 λz=>hm z.2]
     simp![S,i3,u2,u3,hm,Ł]
   by_cases hc:decide (2<=DB τ)=true/\a * b2<a2 * b
   .exact{_,Aw _ (λ_=>rfl)<|λz=>absurd hc z,a2,b2,w2,_,_,_,_,_,_,rfl,L2}
   .exact{_,Aw _ (λz=>absurd z hc)<|λ_=>rfl,a,b,w,_,_,_,_,_,_,rfl,hF}
 refine{a,b,w,?_,hF};unfold N7 Rm
 simp![S,AV,AS,vsh,ev,sg,eg,e]
abbrev Pb:Stmt:=AL 86
def Mt:AH:=
 (BZ<|AB (mI 0)<|AB (mI 1) AE)
def Mu:AH:=
 (AN Fb<|mJ 0<|mJ 1 AE)
def Kb:AH:=
 (AK (BH<|Ai (AK (AA 4)<|AA 0)<|Ai (BZ<|AB (mI 0)<|AB (mI 1) AE) AE)<|m1 KO<|m2 EH (AK (AA 5)<|AA 0)<|AK (AK (AA 1)<|AK (AA 3)<|AA 2)<|mI 3)
def LK:AG:=
 (AF (AO (AA 2)<|AD 11)
 (AF (Ab (m2 (BX λi j=>decide (i<j)) (AA 7)<|m1 BA<|AA 1) (AO (AK (AK (AA 10)<|AK (AA 1)<|AA 7)<|mI 2)<|AD 11) A8)
 (AF (AO (m2 Bm (mI 5)<|AA 7)<|AD 12)
 (AF (Ab (m2 (BX λi j=>decide (i<j)) (AA 7)<|m1 BA<|AA 3) (AO (AK (AA 3)<|AA 7)<|AD 12) A8)
 (AF (AO (AN FH<|mJ 12<|AB (mI 3) AE)<|AD 13)
 (AF (AO (AN N7<|mJ 11<|mJ 8<|mJ 5<|AB (BZ<|AB (mI 1)<|AB (m2 Al (mI 1)<|m2 BB (AK (AA 13)<|mI 0)<|mI 3) AE) AE)<|AD 14)
 (AF (Ab (m2 BD (m2 BB (AK (AA 13)<|mI 1)<|mI 3)<|mI 0) (AO (AN Fb<|mJ 14<|AB (BZ<|AB (AK (BH<|Ai (mI 1)<|Ai (m2 BB (AK (AA 13)<|mI 2)<|m2 Al (mI 1)<|AA 4) AE)<|m2 BB (m2 Bd (AK (AA 13)<|mI 1)<|mI 3)<|mI 2)<|AB (m2 Al (mI 1)<|m2 BB (m2 Bd (AK (AA 13)<|mI 0)<|mI 3)<|mI 3) AE) AE)<|AD 14) A8)
 (AF (Co 6<|AA 14)
 (AF (AO (BF 1 [14] (Av<|AA 5) (AD 0) (mC<|.bl true) Mu)<|AD 5)
 (Ab (m2 (BX λi j=>decide (i<j)) (AA 7)<|m1 BA<|AA 1) (AO (BF 1 [10,7,1,5,8] (CI<|AB (m1 BA<|AA 8) AE) (AD 0) (mC<|.bl true) Kb)<|AD 5) A8))))))))))
def Ri:AG:=
 (AF (AO (AA 0)<|Ak 3<|AI (AD 8)<|AI (AD 9)<|AI (AD 10) Am)
 (AF (AO (AN Kt<|mJ 0 AE)<|AD 4)
 (AF (AO (BF 1 [] (Av<|AA 8) (AD 0) (mC<|.bl true) Mt)<|AD 5)
 (AF (C0 6<|BH AE)
 (AF (B7 (CI<|AB (m2 Al (m1 BA<|AA 1)<|mI 1) AE) (AD 7) LK)
 (AQ<|AA 6))))))
def N4:kL->Option Ru:=A3 4 15 Ri
abbrev b4:=fA 4 4 Pb N4
abbrev zfl:Gm:=gA Pb 3 [("_law_scale",TC),("_law_stream",KZ),("_law_need",b8),("_law_plus",Mi)] ["range","len","int"] ["_law_waits_here"] (N:=["_law_spec","_law_road_here","_law_guard_here","_law_cells","_law_scale_here","_law_values","_law_waits_here","_law_k","_law_watches","_law_rooms","_law_doors","_law_looks","_law_cell","_law_xs","_law_wait"])
theorem zg0:Ck zfl b4 Pb Ri:={}
abbrev fw(t:Int×Int):T:=fr t.1 t.2
abbrev wq(A B C D:T)(sc:Int)(V W:kL)(k:Int)(X τ Z:T)(x11 x12 x13 x14:kH):AM:=[↑A,↑B,↑C,↑D,↑(.int sc),↑(.lst V),↑(.own W),↑(.int k),↑X,↑τ,↑Z,x11,x12,x13,x14]
theorem JA:Bo 6:={by decide,by decide +kernel}
theorem UD{d:Int}(h1:1<=d)(h3:d<=3):Bo d:={by lia,by lia}
def Me{c d:Int}(h1:1<=d)(h3:d<=3):∃w,FP 6 c d w:=by
 have:d=1\/d=2\/d=3:=by lia
 rcases this with rfl|rfl|rfl
 .exact{c * 6,UD (by decide) (by decide),by lia}
 .exact{c * 3,UD (by decide) (by decide),by lia}
 .exact{c * 2,UD (by decide) (by decide),by lia}
def ZD(i:Int):1<=1+i.fmod 3/\1+i.fmod 3<=3:=by
 lia
def zdt{ws:kE}{rs:List<|Str×kL}{dd:List Sd}(K:SpK ws rs dd){ks:kF}(hks:∀k∈ks,0<=k/\k<(dd.length:Int)){g:kL}(hg:BE ws BY g)(cs:kF){sc:Int}(s0:0<=sc)(x:Nat->Int)(W:List<|Int×Int)(hW:W.length<=1000)(k:Nat)(y11 y12 y13 y14:kH) :
  ∃(x':Nat->Int) (t:Int×Int) (w:Int) (z11 z12 z13 z14:kH),LK (wq (Ay ws rs dd) (.lst<|ks.map T.int) (.lst g) (.lst<|cs.map T.int) sc (A5 ws.length 6 x) (W.map fw) (k:Int) (.lst<|ws.map T.str) (C1 rs) (.lst<|dd.map BJ) y11 y12 y13 y14) =
   ↑(.nx<|wq (Ay ws rs dd) (.lst<|ks.map T.int) (.lst g) (.lst<|cs.map T.int) sc (A5 ws.length 6 x') ((W++[t]).map fw) (k:Int) (.lst<|ws.map T.str) (C1 rs) (.lst<|dd.map BJ) z11 z12 z13 z14)/\FP 6 t.1 t.2 w:=by
 have sd:=K.sp.sd;have ed:=AJ _ sd;have w2:=K.w2;have tw:Bn ws:=K.mc.tw;have sg:=hg.sh;have eg:=AJ _ sg;have sk:=Cu ks;have ek:=DH ks;have sc':=Cu cs;have ec:=DH cs;have ekl:(ks.map T.int).length=ks.length:=Á ..;have HD:(cs.map T.int).length=cs.length:=Á ..;have hc:∀h:k<cs.length,AU (cs.map T.int) (k:Int)=↑(.int cs[k]):=λhk=>CU (by rw[Ë,Â hk];rfl)
 let(d,hd):∃d:Sd,k<ks.length->d∈dd/\∃j,AU (ks.map T.int) (k:Int)=↑(.int j)/\AU (dd.map BJ) j=↑(BJ d):=by
  by_cases hk:k<ks.length
  .have hm:=hks _<|Ò hk;have hl:ks[k].toNat<dd.length:=by lia
   exact{dd[ks[k].toNat],λ_=>{Ò hl,_,CU (by rw[Ë,Â hk];rfl),Mz BJ<|Ho hm.1<|Â hl}}
  .exact{{0,0,[],[],Str.empty},λz=>absurd z hk}
 have dgl:k<ks.length->BE ws BY d.g:=λhk=>(K.sp.d d (hd hk).1).g
 have dn:k<ks.length->∀z∈d.n,z∈ws:=λhk=>(K.sp.d d (hd hk).1).n
 generalize Ay ws rs dd=A;generalize C1 rs=RT;change ks.map T.int=KT;change cs.map T.int=CT;change dd.map BJ=DT;let S (V W:kL) (a b c d:kH):=wq A (.lst KT) (.lst g) (.lst CT) sc V W (k:Int) (.lst<|ws.map T.str) RT (.lst DT) a b c d
 let(L,hL,r2):∃L:kL,BE ws BY L/\∀V W',Ab (m2 (BX λi j=>decide (i<j)) (AA 7)<|m1 BA<|AA 1) (AO (AK (AK (AA 10)<|AK (AA 1)<|AA 7)<|mI 2)<|AD 11) A8 (S V W' (↑(.lst g)) y12 y13 y14)=↑(.nx<|S V W' (↑(.lst L)) y12 y13 y14):=by
  by_cases hk:k<ks.length
  .let(_,j,a1,a2):=hd hk;have dg:=(dgl hk).sh;exact{d.g,dgl hk,λV W'=>by simp![S,sk,ek,ekl,ė.mpr hk,ŀ,sd,a1,a2,dg,AJ _ dg,AS]}
  .exact{g,hg,λV W'=>by simp![S,sk,ek,ekl,ė,hk,Ł]}
 let(c,r4):∃c:Int,∀V W',Ab (m2 (BX λi j=>decide (i<j)) (AA 7)<|m1 BA<|AA 3) (AO (AK (AA 3)<|AA 7)<|AD 12) A8 (S V W' (↑(.lst L)) (↑(.int<|5 * (k:Int))) y13 y14)=↑(.nx<|S V W' (↑(.lst L)) (↑(.int c)) y13 y14):=by
  by_cases hk:k<cs.length
  .exact{cs[k],λV W'=>by simp![S,sc',ec,HD,ė.mpr hk,ŀ,hc hk]}
  .exact{5 * (k:Int),λV W'=>by simp![S,sc',ec,HD,ė,hk,Ł]}
 let(xs,es):=Lb c (m:=3)<|by decide
 have es':FH [.int c,.int 3]=↑(.ok<|.own<|mT 3 λi=>.int<|xs i):=es
 have sx:A6 (mT 3 λi=>T.int<|xs i)=true:=Ga _
 have ex:=AJ _ sx;have x0:AU (mT 3 λi=>T.int<|xs i) 0=↑(.int<|xs 0):=Cb (k:=0)<|by decide
 have x1:AU (mT 3 λi=>T.int<|xs i) 1=↑(.int<|xs 1):=Cb (k:=1)<|by decide
 have x2:AU (mT 3 λi=>T.int<|xs i) 2=↑(.int<|xs 2):=Cb (k:=2)<|by decide
 change (mT 3 λi=>T.int<|xs i)=XT
 have q0:=ZD<|xs 0;let(wl,hwl):=Me (c:=1) q0.1 q0.2;let(a,b,w,en,hF):=zl0 JA (by lia:ws.length<=7) x hL hwl
 have vsh:=Dj ws.length 6 x;have ev:=AJ _ vsh;have sL:=hL.sh;have eL:=AJ _ sL;have s3:Bk 3=true:=CN (by decide)<|by decide
 obtain⟨t,w',hT,r7⟩:∃(t:Int×Int) (w':Int),FP 6 t.1 t.2 w'/\∀V W',Ab (m2 BD (m2 BB (AK (AA 13)<|mI 1)<|mI 3)<|mI 0) (AO (AN Fb<|mJ 14<|AB (BZ<|AB (AK (BH<|Ai (mI 1)<|Ai (m2 BB (AK (AA 13)<|mI 2)<|m2 Al (mI 1)<|AA 4) AE)<|m2 BB (m2 Bd (AK (AA 13)<|mI 1)<|mI 3)<|mI 2)<|AB (m2 Al (mI 1)<|m2 BB (m2 Bd (AK (AA 13)<|mI 0)<|mI 3)<|mI 3) AE) AE)<|AD 14) A8
   (S V W' (↑(.lst L)) (↑(.int c)) (↑(.lst XT))<|↑(fr a b))=↑(.nx<|S V W' (↑(.lst L)) (↑(.int c)) (↑(.lst XT))<|↑(fw t)):=by
  by_cases h3:(xs 1).fmod 3=0
  .have q1:=ZD<|(xs 0).fdiv 3
   let(m,em):∃m:Int,AU [T.int 1,.int<|(xs 2).fmod (1+sc)] (((xs 1).fdiv 3).fmod 2)=↑(.int m):=by
    have h0:=û ((xs 1).fdiv 3)<|show(0:Int)<2 by decide
    have h1:=ĉ ((xs 1).fdiv 3)<|show(0:Int)<2 by decide
    have:((xs 1).fdiv 3).fmod 2=0\/((xs 1).fdiv 3).fmod 2=1:=by lia
    rcases this with z|z<;>rw[z]
    .exact{1,GY}
    .exact{_,Ft}
   let(wm,hwm):=Me (c:=m) q1.1 q1.2;have nz:((1+sc)=0)=False:=ē<|by lia
   exact{(Zm.lt (w+wm) 6,Zm.lb (w+wm) 6),_,FP.low JA<|w+wm,λV W'=>by simp![S,sx,x0,x1,x2,h3,Dd,ì,nz,s3,em,ZI JA hF.o hwm.o hF.e hwm.e]}
  .exact{(a,b),w,hF,λV W'=>by simp![S,sx,x1,beq_eq_false_iff_ne.mpr h3,Dd]}
 have lc:B8 (AD 0) (mC<|.bl true) Mu (A5 ws.length 6 x) [none,↑(fw t)]=↑(A5 ws.length 6 λp=>x p+w'):=Dy (n:=ws.length) (me:=Mu) (x:=none) (cs:=[↑(fw t)]) (g:=λj=>EJ 6<|x<|j+1) (f:=λj=>EJ 6<|x (j+1)+w') λj hj=>by
  unfold Mu
  simp![ZH (v:=x<|j+1) JA hT.o hT.e]
 have ll:(A5 ws.length 6 x).length<=100000:=by rw[BO];lia
 have lW:(W.map fw).length<100000:=by rw[Á];lia
 have vs1:=Dj ws.length 6 λp=>x p+w'
 have ev1:=AJ _ vs1;have av:∀j,j<ws.length->AU (A5 ws.length 6 λp=>x p+w') (j:Int)=↑(EJ 6<|x (j+1)+w'):=λj hj=>Cb hj
 let(x',r10):∃x':Nat->Int,∀W' z11 z12 z13,Ab (m2 (BX λi j=>decide (i<j)) (AA 7)<|m1 BA<|AA 1) (AO (BF 1 [10,7,1,5,8] (CI<|AB (m1 BA<|AA 8) AE) (AD 0) (mC<|.bl true) Kb)<|AD 5) A8 (S (A5 ws.length 6 λp=>x p+w') W' z11 z12 z13<|↑(fw t))=↑(.nx<|S (A5 ws.length 6 x') W' z11 z12 z13<|↑(fw t)):=by
  by_cases hk:k<ks.length
  .let(_,i,a1,a2):=hd hk;have dg:=(dgl hk).sh;have ok:CB (ws.length:Int)=true:=EV<|by lia
   have rg:Bl 0 ws.length=mT ws.length λi=>.int (i:Int):=C9
   have a3 {x y z v:T} {l:kL}:AU (x::y::z::v::l) (3:Int)=↑v:=CU (j:=3) rfl;let f (p:Nat):=if ws.getD (p - 1) Str.empty∈d.n then 0 else x p+w'
   have lwl:ws.length<=100000:=by lia
   change (A5 ws.length 6 λp=>x p+w')=VU
   have F6:B8 (AD 0) (mC<|.bl true) Kb (mT ws.length λi=>.int (i:Int)) [none,↑(.lst DT),↑(.int (k:Int)),↑(.lst KT),↑(.lst VU),↑(.lst<|ws.map T.str)]=↑(A5 ws.length 6 f):=Dy (n:=ws.length) (me:=Kb) (x:=none) (g:=λi=>.int (i:Int)) (f:=λj=>EJ 6<|f<|j+1) λj hj=>by
    have aw:AU (ws.map T.str) (j:Int)=↑(.str ws[j]):=CU (by rw[Ë,Â hj];rfl)
    have ei:=Im (o:=false) (k:=.lst) (λz hz=>tw z<|dn hk z hz)<|tw _<|Ò hj
    have eg:f (j+1)=if ws[j]∈d.n then 0 else x (j+1)+w':=by erw[f];rw[ō,Ú,Â hj];rfl
    have av:=av j hj;rw[eg];unfold Kb
    by_cases hm:ws[j]∈d.n
    .rw[if_pos hm,Md<|by decide]
     simp![AV,AS,aw,av,ei,hm,ŀ,sk,sd,a1,a2,a3,dg,vs1,ev1]
    .rw[if_neg hm]
     simp![AV,AS,aw,av,ei,hm,Ł,sk,sd,a1,a2,a3,dg,vs1,ev1]
   have vs3:=Dj ws.length 6 f;refine{f,λW' z11 z12 z13=>?_}
   change A5 ws.length 6 f=V3
   simp![S,sk,ek,ekl,ė.mpr hk,ŀ,AV,AS,Á,ok,î,rg,F6,lwl,vs1,ev1,sd,ed,vs3,AJ _ vs3]
  .exact{λp=>x p+w',λW' z11 z12 z13=>by simp![S,sk,ek,ekl,ė,hk,Ł]}
 refine{x',t,w',↑(.lst L),↑(.int c),↑(.lst XT),↑(fw t),?_,hT};have m5:Bs 5 (k:Int)=true:=HY<|DE (by decide)<|by decide
 rw[è];unfold LK;change W.map fw=WT;change (A5 ws.length 6 λp=>x p+w')=VU
 change A5 ws.length 6 x=VT;refine sq (by simp![sg,eg];rfl)<|sq (r2 _ _)<|sq (by simp![S,m5];rfl)<|sq (r4 _ _)<|sq (by simp![S,es',sx,ex];rfl)<|sq (by simp![sL,eL,AV,AS,vsh,ev,sx,x0,en];rfl)<|sq (r7 _ _)<|sq (by simp![S,lW];rfl)<|sq (by simp![vsh,ev,lc,ll,vs1,ev1];rfl)<|r10 _ _ _ _
def zgn{ws:kE}{rs:List<|Str×kL}{dd:List Sd}(K:SpK ws rs dd){ks:kF}(hl:ks.length<=10)(hks:∀k∈ks,0<=k/\k<(dd.length:Int)){g:kL}(hg:BE ws BY g)(cs:kF):∃W:List (Int×Int),N4 [Ay ws rs dd,.lst<|ks.map T.int,.lst g,.lst<|cs.map T.int]=↑(.ok<|.own<|W.map fw)/\W.length=ks.length+1/\∀t∈W,∃w,FP 6 t.1 t.2 w:=by
 have s9:=El K.sp.r;have er:=AJ _ s9;have sd:=K.sp.sd;have ed:=AJ _ sd;have w2:=K.w2;have sg:=hg.sh;have eg:=AJ _ sg;have sk:=Cu ks;have ek:=DH ks;have sc':=Cu cs;have ec:=DH cs;let(sc,s0,esc):=Vx (ws:=ws) (rs:=rs) (dd:=dd) s9 sd (λr hr=>{(K.sp.r.lk r hr).1,K.l2 r hr}) λd hd=>{(K.sp.d d hd).g,K.g2 d hd}
 have lc:B8 (AD 0) (mC<|.bl true) Mt (ws.map T.str) [none]=↑(A5 ws.length 6 λ_=>0):=by
  have:=Hc (b:=AD 0) (me:=Mt) T.str (λ_=>EJ 6 0) (λY=>∃y,Y=[y]) ws [none] {(none),rfl} λx hx Y hI=>by
   let(y,rfl):=hI;refine{[↑(.str x)],by simp![],?_,_,rfl}
   rw[Md<|by decide]
   unfold Mt
   simp![]
  rw[this];refine congrArg some<|Du (Á _) λi hi=>?_
  rw[Ë,Â hi]
  rfl
 have loop:=KW (b:=AD 7) (body:=LK) (n:=ks.length+1) (g:=λi=>.int (i:Int)) (Y:=[↑(Ay ws rs dd),↑(.lst<|ks.map T.int),↑(.lst g),↑(.lst<|cs.map T.int),↑(.int sc),↑(.lst<|A5 ws.length 6 λ_=>0),↑(.own []),none,↑(.lst<|ws.map T.str),↑(C1 rs),↑(.lst<|dd.map BJ),none,none,none,none])
  (λk Y=>∃(x:Nat->Int) (W:List<|Int×Int) (y7 y11 y12 y13 y14:kH),Y=[↑(Ay ws rs dd),↑(.lst<|ks.map T.int),↑(.lst g),↑(.lst<|cs.map T.int),↑(.int sc),↑(.lst<|A5 ws.length 6 x),↑(.own<|W.map fw),y7,↑(.lst<|ws.map T.str),↑(C1 rs),↑(.lst<|dd.map BJ),y11,y12,y13,y14]/\W.length=k/\∀t∈W,∃w,FP 6 t.1 t.2 w)
  {λ_=>0,[],none,none,none,none,none,rfl,rfl,λt ht=>by cases ht} (by
   rintro k Y hk ⟨x,W,y7,y11,y12,y13,y14,rfl,hW,hF⟩;let(x',t,w,z11,z12,z13,z14,e,hT):=zdt K hks hg cs s0 x W (by lia) k y11 y12 y13 y14
   refine{wq (Ay ws rs dd) (.lst<|ks.map T.int) (.lst g) (.lst<|cs.map T.int) sc (A5 ws.length 6 x) (W.map fw) (k:Int) (.lst<|ws.map T.str) (C1 rs) (.lst<|dd.map BJ) y11 y12 y13 y14,?_,_,e,x',W++[t],↑(.int (k:Int)),z11,z12,z13,z14,rfl,by rw[à,hW];rfl,λu hu=>?_}
   .generalize A5 ws.length 6 x=VT;generalize W.map fw=WT
    simp![]
   .rcases ä.mp hu with hu|hu
    .exact hF u hu
    .rw[Ô.mp hu];exact{(w),hT})
 let(Y',e,x,W,y7,y11,y12,y13,y14,rfl,hW,hF):=loop;refine{W,?_,hW,hF};have sW:A6 (W.map fw)=true:=EO λ_ _=>rfl
 have ok:CB ((ks.length:Int)+1)=true:=EV (n:=ks.length+1)<|by lia
 have tn:((ks.length:Int)+1).toNat=ks.length+1:=by lia
 have rg:Bl 0 (ks.length+1)=mT (ks.length+1) λi=>.int (i:Int):=C9
 have lw:ws.length<=100000:=by lia
 have vsh:=Dj ws.length 6 λ_=>0
 have ev:=AJ _ vsh;have ekl:(ks.map T.int).length=ks.length:=Á ..;change (A5 ws.length 6 λ_=>0)=V0
 change A5 ws.length 6 x=VT;change W.map fw=WT;change ks.map T.int=KT;change cs.map T.int=CT;unfold N4 Ri
 simp![AV,AS,s9,er,sd,ed,sk,ek,sg,eg,sc',ec,esc,lc,Á,lw,vsh,ev,ekl,ok,tn,rg,e,sW]
abbrev Pw:Stmt:=AL 87
def Fy:AG:=
 (AF (Ab (BK (m2 (Cg false) (AA 4)<|mC .non)<|m2 (BX λi j=>decide (i<j)) (AK (AK (AA 3)<|AA 6)<|mI 0)<|mI 0) (AQ<|mC<|.bl false) A8)
 (AO (AN N5<|mJ 0<|mJ 4<|AB (AK (AA 3)<|AA 6)<|AB (AK (AA 5)<|AA 6) AE)<|AD 4))
def Js:AG:=
 (AF (AO (AN JQ<|mJ 0 AE)<|AD 4)
 (AF (AO (m2 Al (m1 Cc<|AA 1)<|BH<|Ai (mC .non) AE)<|AD 5)
 (AF (B7 (CI<|AB (m1 BA<|AA 5) AE) (AD 6) Fy)
 (AQ<|CP (m2 (Cg true) (AA 4)<|mC .non)<|AN Eg<|mJ 2<|AB (AK (AA 0)<|mI 0)<|AB (AK (AA 4)<|mI 1) AE))))
def JR:kL->Option Ru:=A3 4 7 Js
abbrev cC:=fA 4 4 Pw JR
abbrev zi9:Gm:=gA Pw 3 [("_law_start",TB),("_law_step",Sz),("_law_holds",K0)] ["list","range","len"]
theorem zio:Ck zi9 cC Pw Js:={}
def J5(W:List<|Int×Int)(w:Int×Int->Int)(ks:kF):List<|Int×Option Nat:=(W.map w).zip (ks.map (λk=>↑k.toNat)++[none])
abbrev gS(A:T)(a1 a2:kH)(W D:kL)(s:T)(x:kH):AM:=[↑A,a1,a2,↑(.lst W),↑s,↑(.lst D),x]
def aB{P:Int}(h:Bo P){ws:kE}{rs:List<|Str×kL}{dd:List Sd}(K:SpK ws rs dd){W:List<|Int×Int}{w:Int×Int->Int}(hW:∀t∈W,FP P t.1 t.2<|w t){D:List<|Option Nat}(hD:∀k∈D,∀i∈k,i<dd.length)(hl:W.length=D.length){a1 a2:kH} :
  ∀(n:Nat) (i:Nat) (s:Option<|Nat×(Nat->Int)) (x6:kH),i+n=D.length->(∀st∈s,st.1<rs.length) ->
   ((∃y6,Aj (AD 6) Fy ((List.range' i n).map λj:Nat=>T.int (j:Int)) (gS (Ay ws rs dd) a1 a2 (W.map fw) (D.map BG) (CA P ws.length s) x6)=↑(.nx<|gS (Ay ws rs dd) a1 a2 (W.map fw) (D.map BG) (CA P ws.length<|DK P ws rs dd s<|((W.drop i).map w).zip (D.drop i)) y6))/\(n=0\/s≠none)/\∀t∈W.drop i,0<=t.1) \/
   Aj (AD 6) Fy ((List.range' i n).map λj:Nat=>T.int (j:Int)) (gS (Ay ws rs dd) a1 a2 (W.map fw) (D.map BG) (CA P ws.length s) x6)=↑(.rt<|.bl false)
 |0,i,s,x6,hi,hs=>.inl {{x6,by
   have e1:W.drop i=[]:=List.drop_eq_nil_of_le<|by lia
   rw[e1]
   cases s<;>rfl},.inl rfl,λt ht=>by
    rw[List.drop_eq_nil_of_le<|by lia]at ht
    cases ht}
 |n+1,i,s,x6,hi,hs=>by
  have s9:=El K.sp.r;have er:=AJ _ s9;have sd:=K.sp.sd;have ed:=AJ _ sd;have hiD:i<D.length:=by lia
  have hiW:i<W.length:=by lia
  have aW:AU (W.map fw) (i:Int)=↑(fr W[i].1 W[i].2):=CU (by rw[Ë,Â hiW];rfl)
  have aD:AU (D.map BG) (i:Int)=↑(BG D[i]):=CU (by rw[Ë,Â hiD];rfl)
  have hF:=hW _<|Ò hiW;have hk:=hD _<|Ò hiD;have kn:(BG D[i]).sh=true:=by cases D[i]<;>rfl
  have ek:=CY _ kn;have sW:A6 (W.map fw)=true:=EO λ_ _=>rfl
  have sD:A6 (D.map BG)=true:=EO λk _=>by cases k<;>rfl
  rw[List.range'_succ,Ï];cases s with
  |none=>
   refine .inr<|TM rfl ?_;show Fy [_,_,_,_,↑.non,_,_]=_;unfold Fy
   simp![]
  |some st=>
   let(r,x):=st;have hr:r<rs.length:=hs _ rfl;have vs0:=Dj ws.length P x;have ev0:=AJ _ vs0;have stp:=Vf h K hr x hF.o hF.e hk;have so:=IQ P ws.length<|C7 P ws rs dd (r,x) (w W[i]) D[i];have eo:=CY _ so
   by_cases hneg:W[i].1<0
   .have d1:decide (W[i].1<0)=true:=Ì hneg;refine .inr<|TM rfl ?_;show Fy [_,_,_,_,↑(.tup [_,.lst<|A5 ws.length P x]),_,_]=_;change A5 ws.length P x=VT;change W[i].1=wa;change W[i].2=wb;change W.map fw=WT;unfold Fy
    simp![sW,aW,d1]
   .have d1:decide (W[i].1<0)=false:=Ù hneg
    have body:Fy (gS (Ay ws rs dd) a1 a2 (W.map fw) (D.map BG) (FN P ws.length r x)<|↑(.int (i:Int)))=↑(.nx<|gS (Ay ws rs dd) a1 a2 (W.map fw) (D.map BG) (CA P ws.length<|C7 P ws rs dd (r,x) (w W[i]) D[i])<|↑(.int (i:Int))):=by
     change CA P ws.length (C7 P ws rs dd (r,x) (w W[i]) D[i])=OT;unfold FN at *;change A5 ws.length P x=VT;change BG D[i]=KT;change W[i].1=wa;change W[i].2=wb;change W.map fw=WT;change D.map BG=DT;unfold Fy
     simp![sW,aW,d1,sD,aD,kn,ek,AV,AS,s9,er,sd,ed,vs0,ev0,stp,so,eo]
    have step:=GV (b:=AD 6) (t:=.int (i:Int)) (ts:=(List.range' (i+1) n).map λj:Nat=>T.int (j:Int)) (Y:=gS (Ay ws rs dd) a1 a2 (W.map fw) (D.map BG) (FN P ws.length r x) x6) rfl body
    have ih:=aB h K hW hD hl (a1:=a1) (a2:=a2) n (i+1) (C7 P ws rs dd (r,x) (w W[i]) D[i]) (↑(.int (i:Int))) (by lia) λst' e'=>Vo K hr e'
    rw[show CA P ws.length (↑(r,x))=FN P ws.length r x from rfl]
    rcases ih with ⟨⟨y6,e⟩,_,e3⟩|e
    .refine .inl {{y6,?_},.inr (by simp),λt ht=>?_}
     .rw[step,e,Ć hiW,Ć hiD]
      rfl
     .rw[Ć hiW]at ht
      rcases Ê.mp ht with rfl|ht
      .lia
      .exact e3 t ht
    .exact .inr<|step.trans e
def zll{P:Int}(h:Bo P){ws:kE}{rs:List<|Str×kL}{dd:List Sd}(K:SpK ws rs dd){ks:kF}(hl:ks.length<=100)(hks:∀k∈ks,0<=k/\k<(dd.length:Int)){g:kL}(hg:BE ws BY g){W:List<|Int×Int}{w:Int×Int->Int}(hW:∀t∈W,FP P t.1 t.2<|w t)(hn:W.length=ks.length+1) :
  ∃b:Bool,JR [Ay ws rs dd,.lst<|ks.map T.int,.lst g,.lst<|W.map fw]=↑(.ok<|.bl b)/\(b=true->(∀t∈W,0<=t.1)/\∃s,DK P ws rs dd (Bv P ws rs) (J5 W w ks)=↑s/\BI P (g.map<|A2 ws) s.2=true):=by
 have s9:=El K.sp.r;have er:=AJ _ s9;have sd:=K.sp.sd;have ed:=AJ _ sd;have w2:=K.w2;have sg:=hg.sh;have eg:=AJ _ sg;have sk:=Cu ks;have ek:=DH ks;have sW:A6 (W.map fw)=true:=EO λ_ _=>rfl
 have eW:=AJ _ sW;have st:=Vh h K;have so:=IQ P ws.length<|Bv P ws rs;have eo:=CY _ so
 have hs:∀s∈Bv P ws rs,s.1<rs.length:=λs e=>by
  unfold Bv at e;split at e
  .cases e;have:=K.sp.r.l1
   lia
  .cases e
 let(D,hDd):∃D:List (Option Nat),D=ks.map (λk=>↑k.toNat)++[none]:={_,rfl}
 have hDl:D.length=ks.length+1:=by rw[hDd,à,Á];rfl
 have hDm:D.map BG=ks.map T.int++[.non]:=by
  rw[hDd,è,ý];refine congrArg (·++[T.non])<|İ λk hk=>?_
  show T.int ((k.toNat:Nat):Int)=.int k;rw[Ŋ (hks k hk).1]
 have hD:∀k∈D,∀i∈k,i<dd.length:=λk hk i hi=>by
  rw[hDd]at hk
  rcases ä.mp hk with hk|hk
  .let(q,hq,rfl):=Ó.mp hk;cases hi;have:=hks q hq
   lia
  .rw[Ô.mp hk]at hi;cases hi
 have ok:CB ((D.map BG).length:Int)=true:=EV (by rw[Á];lia)
 have rg:Bl 0 (D.map BG).length=(List.range' 0 (D.map BG).length).map λj:Nat=>T.int (j:Int):=by
  rw[<- List.range_eq_range'];exact C9
 have sD:A6 (D.map BG)=true:=EO λk _=>by cases k<;>rfl
 have eD:=AJ _ sD;have l1:(ks.map T.int).length+1<=100000:=by rw[Á];lia
 have lk:(ks.map T.int).length<=100000:=by lia
 have loop:=aB h K hW hD (by lia) (a1:=↑(.lst<|ks.map T.int)) (a2:=↑(.lst g)) (D.map BG).length 0 (Bv P ws rs) none (by rw[Á];lia) hs
 rw[List.drop_zero,List.drop_zero]at loop;have est:((W.map w).zip D)=J5 W w ks:=by unfold J5;rw[hDd]
 rw[est]at loop
 rcases loop with ⟨⟨y6,e⟩,_,e3⟩|e
 .have so2:=IQ P ws.length<|DK P ws rs dd (Bv P ws rs)<|J5 W w ks;cases hr:DK P ws rs dd (Bv P ws rs) (J5 W w ks) with
  |none=>
   rw[hr]at e;refine{false,?_,λz=>by cases z}
   rw[show CA P ws.length none=.non from rfl]at e;change CA P ws.length (Bv P ws rs)=OT;rw[hDm]at *;change ks.map T.int=KT;change W.map fw=WT;unfold JR Js
   simp![AV,AS,s9,er,sd,ed,sk,ek,sg,eg,sW,eW,st,so,eo,lk,l1,sD,eD,ok,î,rg,e]
  |some s=>
   rw[hr]at e;let(r,x):=s;have ho:=Iq h (by lia:ws.length<=7) x hg
   have vs0:=Dj ws.length P x;have ev0:=AJ _ vs0;refine{BI P (g.map<|A2 ws) x,?_,λz=>{e3,_,rfl,z}}
   rw[show CA P ws.length (↑(r,x))=.tup [.int (r:Int),.lst<|A5 ws.length P x] from rfl]at e;change CA P ws.length (Bv P ws rs)=OT;change BI P (g.map<|A2 ws) x=bb;rw[hDm]at *;change ks.map T.int=KT;change W.map fw=WT;change A5 ws.length P x=VT;unfold JR Js;cases bb<;>simp![AV,AS,s9,er,sd,ed,sk,ek,sg,eg,sW,eW,st,so,eo,lk,l1,sD,eD,ok,î,rg,e,vs0,ev0,ho]
 .refine{false,?_,λz=>by cases z}
  change CA P ws.length (Bv P ws rs)=OT;rw[hDm]at *;change ks.map T.int=KT;change W.map fw=WT;unfold JR Js
  simp![AV,AS,s9,er,sd,ed,sk,ek,sg,eg,sW,eW,st,so,eo,lk,l1,sD,eD,ok,î,rg,e]
abbrev Lj:Stmt:=AL 88
def Ka:AH:=
 (AK (AA 0)<|mI 1)
def KP:AH:=
 (m2 (BX λi j=>decide (j<i)) (AK (AK (AA 0)<|mI 0)<|mI 1)<|m2 Al (m1 BA<|AA 1)<|mI 2)
def Ti:AH:=
 (AA 0)
def MK:AG:=
 (AF (AO (AN N8<|mJ 0 AE)<|AD 1)
 (AF (AO (AN Kw<|mJ 1 AE)<|AD 2)
 (AF (AO (AN N6<|mJ 1<|AB (DO (Ew (AA 0) (↑(mI 12))<|↑(mI 20))<|FU (AA 0) (↑(mI 12))<|↑(mI 20)) AE)<|Ak 2<|AI (AD 7)<|AI (AD 8) Am)
 (AF (AO (AN HH<|AB (AN FH<|AB (AN Fc<|mJ 0<|AB (mI 20) AE)<|AB (mI 5) AE)<|AB (m2 Al (m2 Bd (AN Kt<|mJ 1 AE)<|mI 4)<|mI 1)<|AB (AK (AA 1)<|mI 0) AE)<|AD 3)
 (AF (AO (BH<|Ai (m1 Cc<|AA 7)<|Ai (m1 Cc<|AA 3) AE)<|AD 4)
 (AF (AO (AN NJ<|mJ 2<|AB (AK (AA 4)<|mI 0)<|AB (AK (AA 4)<|mI 1) AE)<|AD 5)
 (AF (Ab (m2 CD (AA 4)<|BH<|Ai (AA 7)<|Ai (AA 3) AE) (AQ<|mC<|.bl false) A8)
 (AF (Ab (m2 (Cg false) (AA 5)<|mC .non) (AF (AO (AN N4<|mJ 1<|mJ 7<|mJ 3<|AB (DO (Ew (AA 0) (↑(mI 21))<|↑(mI 30))<|FU (AA 0) (↑(mI 21))<|↑(mI 30)) AE)<|AD 9)
 (AQ<|CP (m2 (Cg false) (AN Kk<|mJ 2<|mJ 7<|mJ 3 AE)<|mC .non)<|Au<|AN JR<|mJ 1<|mJ 7<|mJ 3<|mJ 9 AE)) A8)
 (AF (AO (AN JP<|mJ 1<|mJ 5 AE)<|AD 6)
 (AF (Ab (BK (m2 (Cg false) (AA 6)<|mC .non)<|Au<|AN Eg<|mJ 3<|AB (AK (AA 1)<|mI 0)<|AB (AK (AA 6)<|mI 1) AE) (AQ<|mC<|.bl false) A8)
 (AF (Ab (m2 CD (BF 1 [] (Av<|AA 5) (AD 0) (mC<|.bl true) Ka)<|m2 Al (AA 7)<|BH<|Ai (mC .non) AE) (AQ<|mC<|.bl false) A8)
 (AQ<|m2 F8 (BF 1 [7] (Av<|AA 5) (AD 0) KP Ti)<|BH AE))))))))))))
def fK:kL->Option Ru:=A3 1 10 MK
abbrev zpq:=fA 11 1 Lj fK
abbrev zpm:Gm:=gA Lj 10 [("_law_machine",cB),("_law_made",cA),("_law_road",b6),("_law_guard",TH),("_law_stream",KZ),("_law_cell_at",TJ),("_law_scale",TC),("run_of",aP),("_law_waits",b4),("road_zone",aS),("_law_good",cC),("_law_walk",bZ),("_law_holds",K0)] ["list","len"] (N:=["_law_script","_law_spec","_law_machine_here","_law_guard_here","_law_handed","_law_steps","_law_stand","_law_road_here","_law_room","_law_waits_here"])
theorem zpz:Ck zpm zpq Lj MK:={}
def Cw(P:Int)(X:Nat->Int)(b:Dv.Lim):Prop:=X b.1 - X b.2.1<=b.2.2 / 2 * P - 1+b.2.2 % 2
def Z3{P:Int}{X:Nat->Int}{t s w:Nat}{n:Int}:(∀b∈D0 t s w n,Cw P X b) ↔ Ct P (X t - X s) w n=true:=by
 have e1:(2 * n) / 2=n:=by lia
 have e2:(2 * n+1) / 2=n:=by lia
 have e3:(2 * -n) / 2=-n:=by lia
 have e4:(2 * -n+1) / 2=-n:=by lia
 have m1:(2 * n) % 2=0:=by lia
 have m2:(2 * n+1) % 2=1:=by lia
 have m3:(2 * -n) % 2=0:=by lia
 have m4:(2 * -n+1) % 2=1:=by lia
 have en:-n * P=-(n * P):=Int.neg_mul ..;unfold D0 Ct;split
 .erw[Ô,forall_eq,Cw,e1,m1,ë]
  lia
 .erw[Ô,forall_eq,Cw,e2,m2,ë]
  lia
 .erw[Ô,forall_eq,Cw,e3,m3,en,ë]
  lia
 .erw[Ô,forall_eq,Cw,e4,m4,en,ë]
  lia
 .erw[Ê,ê,ñ,forall_eq_or_imp,forall_eq,Cw,e2,m2,e4,m4,en,ë]
  lia
def Jy{P:Int}{X:Nat->Int}{L:List<|Nat×Nat×Int}{t:Nat}{sa:Nat->Nat}:(∀b∈Bf L t sa,Cw P X b) ↔ BI P L (λp=>X t - X (sa p))=true:=by
 unfold Bf BI;rw[ã];constructor
 .intro h l hl;exact Z3.mp λb hb=>h b<|Θ.mpr {(l),hl,hb}
 .intro h b hb;let(l,hl,hb):=Θ.mp hb;exact Z3.mpr (h l hl) b hb
def Hw{P:Int}{X:Nat->Int}{M:Mc}{x:Str}{t:Nat}{sa:Nat->Nat}:(∀b∈Bi M x t sa,Cw P X b) ↔ X (t - 1)<=X t/\BI P (DS M.ws M.rs x) (λp=>X t - X (sa p))=true:=by
 rw[<- Jy];unfold Bi
 have:Cw P X (t - 1,t,1) ↔ X (t - 1)<=X t:=by
  show X (t - 1) - X t<=1 / 2 * P - 1+1 % 2 ↔ _
  lia
 simp_all
def OW{ws:kE}{rs:List<|Str×kL}{dd:List Sd}(K:SpK ws rs dd){r:Nat}(hr:r<rs.length):DS (Aq ws rs dd).ws (Aq ws rs dd).rs (Az rs r)=CM ws rs r:=by
 have e:Az rs r=rs[r].1:=by unfold Az;simp_all
 have:=Vl (ws:=ws) K.sp.r.nd<|Ò hr;show DS ws rs (Az rs r)=_;unfold CM
 simp_all
def V8{P:Int}{ws:kE}{rs:List<|Str×kL}{dd:List Sd}(K:SpK ws rs dd){r:Nat}(hr:r<rs.length){x y:Nat->Int}(hxy:∀p,x p<=y p)(h:BI P (CM ws rs r) y=true):BI P (CM ws rs r) x=true:=by
 unfold BI at h ⊢;rw[ã]at h ⊢;intro l hl;have h1:=h l hl;unfold CM at hl;rw[Ú,Â hr]at hl;let(t,ht,rfl):=Ó.mp hl;let(a,b,n,rfl,_,hb,_):=(K.sp.r.lk _<|Ò hr).1 t ht
 have hw:DB b=0\/DB b=1:=by
  have:∀y∈DR,DB y=0\/DB y=1:=by decide +kernel
  exact this b hb
 have hx:=hxy (A2 ws<|.tup [.str a,.str b,.int n]).1;show Ct P (x (A2 ws<|.tup [.str a,.str b,.int n]).1) (DB b) n=true;have h1':Ct P (y (A2 ws<|.tup [.str a,.str b,.int n]).1) (DB b) n=true:=h1
 rcases hw with e|e<;>rw[e]at h1' ⊢
 .have:=ò h1';exact Ì<|by lia
 .have:=ò h1';exact Ì<|by lia
def Ff(X:Nat->Int):Nat->kF->List (Int×Option Nat)
 |t,[]=>[(X t - X (t - 1),none)]|t,k::r=>(X t - X (t - 1),↑k.toNat)::Ff X (t+1) r
def QX{ws:kE}{rs:List<|Str×kL}{dd:List Sd}(K:SpK ws rs dd){r e:Nat}{k:Int}(h:Cm dd r k=↑e):∃d,dd[k.toNat]?=↑d/\d.z=Str.empty/\d.b=r/\d.e=e/\Em (Aq ws rs dd) (Az rs r) k=↑(De rs d):=by
 let(h1,h2,h3,d,hd,hz,hb,he):=Hx K h;refine{d,hd,hz,hb,he,?_};unfold Em;rw[if_pos h2];show(match (dd.map<|De rs)[k.toNat]? with|some d=>_|none=>_)=_
 rw[Ë,hd];show(if d.z=Str.empty/\Az rs d.b=Az rs r then ↑(De rs d) else none)=_
 lia
def En(M:Mc)(l:kI)(t:Nat)(sa:Nat->Nat)(x:Str):List Dv.Lim:=(Bq M l t sa).1++Bi M x (t+l.length) (Bq M l t sa).2
def zjs{M:Mc}{t:Nat}{sa:Nat->Nat}{x:Str}:En M [] t sa x=Bi M x t sa:=rfl
def Lr{M:Mc}{d:Dr}{l:kI}{t:Nat}{sa:Nat->Nat}{x:Str}:En M (d::l) t sa x=(Bi M d.s t sa++Bf (d.g.map<|A2 M.ws) t sa)++En M l (t+1) (Bj (Ao M.ws d.n) t sa) x:=by
 unfold En;rw[show(Bq M (d::l) t sa).1=(Bi M d.s t sa++Bf (d.g.map<|A2 M.ws) t sa)++(Bq M l (t+1)<|Bj (Ao M.ws d.n) t sa).1 from rfl,show(Bq M (d::l) t sa).2=(Bq M l (t+1)<|Bj (Ao M.ws d.n) t sa).2 from rfl,Ķ,Ø,show t+(l.length+1)=t+1+l.length by lia]
theorem zma(X:Nat->Int)(t:Nat)(sa:Nat->Nat):(λp=>(X (t - 1) - X (sa p))+(X t - X (t - 1)))=λp=>X t - X (sa p):=funext λp=>by lia
theorem zmb(X:Nat->Int)(t:Nat)(sa:Nat->Nat)(ps:kG):(λp=>if p∈ps then 0 else (X (t - 1) - X (sa p))+(X t - X (t - 1)))=λp=>X t - X (Bj ps t sa p):=funext λp=>by
 unfold Bj
 lia
def Vn{P:Int}{ws:kE}{rs:List<|Str×kL}{dd:List Sd}{X:Nat->Int}{r t:Nat}{sa:Nat->Nat}:C7 P ws rs dd (r,λp=>X (t - 1) - X (sa p)) (X t - X (t - 1)) none=if BI P (CM ws rs r) (λp=>X t - X (sa p))=true then ↑(r,λp=>X t - X (sa p)) else none:=by
 unfold C7
 lia
def Vm{P:Int}{ws:kE}{rs:List<|Str×kL}{dd:List Sd}{X:Nat->Int}{r t k:Nat}{sa:Nat->Nat}{d:Sd}(hd:dd[k]?=↑d):C7 P ws rs dd (r,λp=>X (t - 1) - X (sa p)) (X t - X (t - 1)) ↑k=if BI P (CM ws rs r) (λp=>X t - X (sa p))=true then (if d.b=r/\d.z=Str.empty/\BI P (d.g.map<|A2 ws) (λp=>X t - X (sa p))=true/\BI P (CM ws rs d.e) (λp=>X t - X (Bj (Ao ws d.n) t sa p))=true then ↑(d.e,λp=>X t - X (Bj (Ao ws d.n) t sa p)) else none) else none:=by
 unfold C7;erw[hd,zma,zmb]
def Mj{P:Int}{X:Nat->Int}{ws:kE}{rs:List<|Str×kL}{dd:List Sd}(K:SpK ws rs dd){ks:kF}{r e t:Nat}{sa:Nat->Nat}(hr:r<rs.length)(hk:CW dd r ks=↑e){l:kI}(hl:Cp (Aq ws rs dd) (Az rs r) ks=↑l)(hb:∀b∈En (Aq ws rs dd) l t sa (Az rs e),Cw P X b):X (t - 1)<=X t/\BI P (CM ws rs r) (λp=>X t - X (sa p))=true:=by
 rw[<- OW K hr];cases ks with
 |nil=>cases hk;cases hl;exact Hw.mp hb|cons k ks=>
  let(e1,h1,h2):=Ň.mp (show(Cm dd r k).bind (λe=>CW dd e ks)=↑e from hk)
  let(d,hd,hz,hdb,hde,hrd):=QX K h1;rw[Jg,hrd]at hl;let(l',hl',rfl):=Ö.mp hl;rw[Lr]at hb;have hs:(De rs d).s=Az rs r:=by show Az rs d.b=_;rw[hdb]
  rw[hs]at hb;exact Hw.mp λb q=>hb b<|ö _<|ö _ q
def WJ{P:Int}{X:Nat->Int}{ws:kE}{rs:List<|Str×kL}{dd:List Sd}(K:SpK ws rs dd):∀(ks:kF) {r e t:Nat} {sa:Nat->Nat},1<=t->r<rs.length->CW dd r ks=↑e->∀{l:kI},Cp (Aq ws rs dd) (Az rs r) ks=↑l->(∀b∈En (Aq ws rs dd) l t sa (Az rs e),Cw P X b) ->
  DK P ws rs dd (↑(r,λp=>X (t - 1) - X (sa p))) (Ff X t ks)=↑(e,λp=>X (t+l.length) - X ((Bq (Aq ws rs dd) l t sa).2 p))
 |[],r,e,t,sa,ht,hr,hk,l,hl,hb=>by
  have fs:=Mj K hr hk hl hb;cases hk;cases hl;show DK P ws rs dd (C7 P ws rs dd _ _ none) []=_;rw[Vn,if_pos fs.2]
  rfl
 |k::ks,r,e,t,sa,ht,hr,hk,l,hl,hb=>by
  have fs:=Mj K hr hk hl hb;let(e1,h1,h2):=Ň.mp (show(Cm dd r k).bind (λe=>CW dd e ks)=↑e from hk)
  let(d,hd,hz,hdb,hde,hrd):=QX K h1;rw[Jg,hrd]at hl;let(l',hl',rfl):=Ö.mp hl;rw[Lr]at hb;have he1:=(Hx K h1).1;have hg:BI P (d.g.map<|A2 ws) (λp=>X t - X (sa p))=true:=Jy.mp λb q=>hb b<|ö _<|ß _ q
  have hb2:∀b∈En (Aq ws rs dd) l' (t+1) (Bj (Ao ws d.n) t sa) (Az rs e),Cw P X b:=λb q=>hb b<|ß _ q
  have hl2:Cp (Aq ws rs dd) (Az rs e1) ks=↑l':=by
   rw[<- hde];exact hl'
  have fs2:=Mj K he1 h2 hl2 hb2
  have hst:BI P (CM ws rs d.e) (λp=>X t - X (Bj (Ao ws d.n) t sa p))=true:=by
   rw[hde];refine V8 K he1 (λp=>?_) fs2.2
   have:=fs2.1;rw[ō]at this;show X t - _<=X (t+1) - _
   lia
  show DK P ws rs dd (C7 P ws rs dd _ _ ↑k.toNat) (Ff X (t+1) ks)=_;rw[Vm hd,if_pos fs.2,if_pos {(hdb),hz,hg,hst},hde];have ih:=WJ K ks (r:=e1) (e:=e) (t:=t+1) (sa:=Bj (Ao ws d.n) t sa) (by lia) he1 h2 hl2 hb2
  rw[ō]at ih;rw[ih,Ø,show t+(l'.length+1)=t+1+l'.length by lia]
  rfl
def WL{P:Int}{X:Nat->Int}(hX:∀t,X t<=X (t+1)){ws:kE}{rs:List<|Str×kL}{dd:List Sd}(K:SpK ws rs dd):∀(ks:kF) {r e t:Nat} {sa:Nat->Nat},1<=t->r<rs.length->CW dd r ks=↑e->∀{l:kI} {s:Nat×(Nat->Int)},Cp (Aq ws rs dd) (Az rs r) ks=↑l->DK P ws rs dd (↑(r,λp=>X (t - 1) - X (sa p))) (Ff X t ks)=↑s ->
  (∀b∈En (Aq ws rs dd) l t sa (Az rs e),Cw P X b)/\s.2=λp=>X (t+l.length) - X ((Bq (Aq ws rs dd) l t sa).2 p)
 |[],r,e,t,sa,ht,hr,hk,l,s,hl,hs=>by
  cases hk;cases hl
  have hx:X (t - 1)<=X t:=by
   have:=hX<|t - 1
   rwa[show t - 1+1=t by lia]at this
  change DK P ws rs dd (C7 P ws rs dd _ _ none) []=_ at hs
  rw[Vn]at hs
  by_cases c:BI P (CM ws rs r) (λp=>X t - X (sa p))=true
  .rw[if_pos c]at hs;cases hs;rw[zjs,Hw,OW K hr];exact{{(hx),c},rfl}
  .rw[if_neg c]at hs;cases hs
 |k::ks,r,e,t,sa,ht,hr,hk,l,s,hl,hs=>by
  have hx:X (t - 1)<=X t:=by
   have:=hX<|t - 1
   rwa[show t - 1+1=t by lia]at this
  let(e1,h1,h2):=Ň.mp (show(Cm dd r k).bind (λe=>CW dd e ks)=↑e from hk)
  let(d,hd,hz,hdb,hde,hrd):=QX K h1;rw[Jg,hrd]at hl;let(l',hl',rfl):=Ö.mp hl;have he1:=(Hx K h1).1
  change DK P ws rs dd (C7 P ws rs dd _ _ ↑k.toNat) (Ff X (t+1) ks)=_ at hs
  rw[Vm hd]at hs
  by_cases c:BI P (CM ws rs r) (λp=>X t - X (sa p))=true
  .rw[if_pos c]at hs
   by_cases c2:d.b=r/\d.z=Str.empty/\BI P (d.g.map<|A2 ws) (λp=>X t - X (sa p))=true/\BI P (CM ws rs d.e) (λp=>X t - X (Bj (Ao ws d.n) t sa p))=true
   .rw[if_pos c2,hde]at hs
    have hl2:Cp (Aq ws rs dd) (Az rs e1) ks=↑l':=by
     rw[<- hde];exact hl'
    let(i1,i2):=WL hX K ks (r:=e1) (e:=e) (t:=t+1) (sa:=Bj (Ao ws d.n) t sa) (by lia) he1 h2 hl2 (by rw[ō];exact hs)
    refine{λb hb=>?_,?_}
    .rw[Lr]at hb
     rcases ä.mp hb with hb|hb
     .rcases ä.mp hb with hb|hb
      .refine Hw.mpr {hx,?_} b hb;have hs2:(De rs d).s=Az rs r:=by show Az rs d.b=_;rw[hdb]
       rw[hs2,OW K hr];exact c
      .exact Jy.mpr c2.2.2.1 b hb
     .exact i1 b hb
    .rw[i2,Ø,show t+(l'.length+1)=t+1+l'.length by lia]
     rfl
   .rw[if_neg c2,QO]at hs;cases hs
  .rw[if_neg c,QO]at hs;cases hs
def zm9(f:Db.Z)(x:Dv.Lim)(i j:Nat):Db.le (FI f x i j)<|f i j:=by
 unfold FI;split
 .rename_i h;rw[h.1,h.2];exact Db.mn_le _ _
 .exact Db.le_refl _
def Ua:∀(L:List Dv.Lim) (f:Db.Z) (i j:Nat),Db.le (EM f L i j)<|f i j
 |[],f,i,j=>Db.le_refl _|x::L,f,i,j=>Db.le_trans (Ua L (FI f x) i j)<|zm9 f x i j
def Ub:∀(L:List Dv.Lim) (f:Db.Z) {x:Dv.Lim},x∈L->Db.le (EM f L x.1 x.2.1) ↑x.2.2
 |y::L,f,x,h=>by
  rcases Ê.mp h with rfl|h
  .refine Db.le_trans (Ua L (FI f x) _ _) ?_;unfold FI;rw[if_pos {(rfl),rfl}];exact Db.mn_le' _ _
  .exact Ub L (FI f y) h
def U9{P:Int}{X:Nat->Int}:∀(L:List Dv.Lim) (f:Db.Z),(∀b∈L,Cw P X b)->(∀i j,Db.sat P (f i j)<|X i - X j)->∀i j,Db.sat P (EM f L i j)<|X i - X j
 |[],f,_,hf,i,j=>hf i j|x::L,f,hb,hf,i,j=>U9 L (FI f x) (λb hb'=>hb b<|É _ hb') (λi j=>by
   unfold FI;split
   .rename_i h;rw[h.1,h.2];exact Db.sat_mn (hf _ _)<|hb x (Í ..)
   .exact hf i j) i j
def XD{u:Int}{v:Nat->Int}{B:List Dv.Lim}:Dv.Ok (B.map<|EZ u) v ↔ ∀b∈B,Cw u v b:=by
 constructor
 .intro h b hb;exact h _<|ŋ hb
 .intro h x hx;let(b,hb,rfl):=Ó.mp hx;exact h b hb
def VE{L:List Dv.Lim}:∀(t:Nat) (v v':Nat->Int),Dv.tn L t v=↑v'->Dv.Ok L v'
 |0,v,v',h=>by cases h|t+1,v,v',h=>by
  rw[Dv.tn]at h;cases hb:(Dv.rz L v false).2 with
  |true=>rw[hb]at h;exact VE t _ v' h|false=>
   let(e1,e2):=Dv.rz_false L v hb
   lia
def zdr{N:Nat}(hN:0<N){B:List Dv.Lim}(hI:Dv.In N B){u:Int}(hu:(N:Int)<=u)(hs:Db.Sound N<|EM (λ_ _=>none) B):∃v,Dv.tn (B.map<|EZ u) N (λ_=>0)=↑v:=by
 have nar:=Db.nar hs;let(fe,l0):=Dv.low_feas nar hN;let(q,hq,hL):=Dv.vals_of nar fe hu;have hLf:Db.Lie N u (λi=>Dv.low (Db.fw (EM (λ_ _=>none) B) N) i * u+q i)<|EM (λ_ _=>none) B:=Db.lie_mono (by lia) hL λi j _ _=>Db.fw_le _ i j N
 have ok:Dv.Ok (B.map<|EZ u)<|λi=>Dv.low (Db.fw (EM (λ_ _=>none) B) N) i * u+q i:=XD.mpr λb hb=>by
  let(h1,h2):=hI b hb;exact Db.sat_le (by lia) (hLf b.1 b.2.1 h1 h2)<|Ub B _ hb
 have nn:∀k,k<N->0<=Dv.low (Db.fw (EM (λ_ _=>none) B) N) k * u+q k:=λk hk=>by
  have h1:=nar.row k hk
  have h2:0<=Dv.low (Db.fw (EM (λ_ _=>none) B) N) k:=by
   unfold Dv.low;cases e:Db.fw (EM (λ_ _=>none) B) N 0 k with
   |none=>rw[e]at h1;exact h1.elim|some c=>
    rw[e]at h1;have:c<=1:=h1;show 0<=-(c / 2)
    lia
  have h3:=ő h2<|show 0<=u by lia
  have:=(hq k hk).1
  lia
 let(v,e,_):=Dv.tn_ok hN (λx hx=>by
  let(b,hb,rfl):=Ó.mp hx;exact hI b hb) ok nn
 exact{(v),e}
theorem zer{N:Nat}{B:List Dv.Lim}{P:Int}(hP:0<P){X:Nat->Int}(h0:X 0=0)(hX:∀i,0<=X i)(hb:∀b∈B,Cw P X b):Db.Sound N<|EM (λ_ _=>none) B:=
 Db.lie_sound hP h0 (λi _=>hX i) λi j _ _=>U9 B (λ_ _=>none) hb (λ_ _=>trivial) i j
def Ej(ws:kF)(t:Nat):Int:=(ws.take t).sum
def VF(ws:kF){t:Nat}(h:t<ws.length):Ej ws (t+1) - Ej ws t=ws[t]:=by
 unfold Ej;rw[List.take_succ_eq_append_getElem h,List.sum_append];simp
 lia
def VH{ws:kF}(h:∀w∈ws,0<=w)(t:Nat):Ej ws t<=Ej ws (t+1):=by
 by_cases ht:t<ws.length
 .have:=VF ws ht;have:=h _<|Ò ht
  lia
 .unfold Ej;rw[List.take_of_length_le (by lia),List.take_of_length_le<|by lia]
  lia
def VG{ws:kF}(h:∀w∈ws,0<=w):∀t,0<=Ej ws t
 |0=>ă _|t+1=>ġ (VG h t)<|VH h t
def Vi{X:Nat->Int}:∀(ks:kF) (ws:kF) (t:Nat),ws.length=ks.length+1->(∀i,(hi:i<ws.length)->X (t+i) - X (t+i - 1)=ws[i])->ws.zip (ks.map (λk=>↑k.toNat)++[none])=Ff X t ks
 |[],ws,t,hl,h=>by
  match ws,hl with
  |[w],_=>
   have:=h 0<|by simp
   erw[Nat.add_zero]at this;simp[Ff,this]
 |k::ks,ws,t,hl,h=>by
  match ws,hl with
  |w::ws,hl=>
   have h0:=h 0<|by simp
   erw[Nat.add_zero,List.getElem_cons_zero]at h0
   have ih:=Vi ks ws (t+1) (by simpa using hl) λi hi=>by
    have:=h (i+1) (by simp;lia)
    rw[show t+1+i=t+(i+1) by lia]
    exact this
   rw[Ï,Ū,Ĵ,ih,Ff,h0]
def zjo{ws:kE}{rs:List<|Str×kL}{dd:List Sd}(K:SpK ws rs dd){ks:kF}{r:Nat}(hl:ks.length<=200)(wk:CW dd 0 ks=↑r):∃l,Dn (Aq ws rs dd) ks=↑l/\Cp (Aq ws rs dd) (Az rs 0) ks=↑l/\Ci (Aq ws rs dd) l=Az rs r/\l.length=ks.length:=by
 have h2:=znb K ks;rw[show LF dd ks=↑r by unfold LF;lia]at h2
 let(l,e1,e2):=Ö.mp h2;refine{l,e1,?_,e2,(IM e1).2.1};unfold Dn at e1;rw[if_pos hl,QY K]at e1;exact e1
def Q1{ws:kE}{rs:List<|Str×kL}{dd:List Sd}{l:kI}{r:Nat}(e:Ci (Aq ws rs dd) l=Az rs r)(g:List<|Nat×Nat×Int):Br (Aq ws rs dd) l g=En (Aq ws rs dd) l 1 (λ_=>0) (Az rs r)++Bf g (l.length+1) (Bq (Aq ws rs dd) l 1 λ_=>0).2:=by
 unfold Br En;rw[e,Ķ,Ŗ 1 l.length]
def Uh{ws:kE}{rs:List<|Str×kL}{dd:List Sd}(K:SpK ws rs dd):∀{ks:kF} {r e:Nat},CW dd r ks=↑e->∀k∈ks,0<=k/\k<(dd.length:Int)
 |[],_,_,_,k,hk=>by cases hk|q::ks,r,e,h,k,hk=>by
  let(e1,h1,h2):=Ň.mp (show(Cm dd r q).bind (λe=>CW dd e ks)=↑e from h)
  rcases Ê.mp hk with rfl|hk
  .exact{(Hx K h1).2.1,(Hx K h1).2.2.1}
  .exact Uh K h2 k hk
def zmr{P:Int}{ws:kE}{rs:List<|Str×kL}(h:BI P (CM ws rs 0) (λ_=>0)=true):Bv P ws rs=↑(0,λ_=>0):=by
 unfold Bv;rw[if_pos h]
def zi0{P:Int}(hP:Bo P){ws:kE}{rs:List<|Str×kL}{dd:List Sd}(K:SpK ws rs dd){ks:kF}{r:Nat}(hl:ks.length<=200)(wk:CW dd 0 ks=↑r){l:kI}(e1:Cp (Aq ws rs dd) (Az rs 0) ks=↑l)(e2:Ci (Aq ws rs dd) l=Az rs r)(e3:l.length=ks.length){g:List<|Nat×Nat×Int}{w:kF}(hw:∀x∈w,0<=x)(wl:w.length=ks.length+1){s:Nat×(Nat->Int)}(hs:DK P ws rs dd (Bv P ws rs) (w.zip<|ks.map (λk=>↑k.toNat)++[none])=↑s)(hg:BI P g s.2=true):∀b∈Br (Aq ws rs dd) l g,Cw P (Ej w) b:=by
 have hz:=Vi (X:=Ej w) ks w 1 wl λi hi=>by
  have:=VF w hi
  lia
 rw[hz]at hs;have r1:=K.sp.r.l1
 have hst:Bv P ws rs=↑(0,λ_=>0):=by
  cases c:Bv P ws rs with
  |none=>rw[c,QO]at hs;cases hs|some q=>
   unfold Bv at c
   lia
 have e0:(λp=>Ej w (1 - 1) - Ej w ((λ_:Nat=>0) p))=λ_:Nat=>(0:Int):=funext λp=>Int.sub_self _
 rw[hst,<- e0]at hs;let(h1,h2):=WL (VH hw) K ks (t:=1) (sa:=λ_=>0) (Ç _) (by lia) wk e1 hs
 intro b hb;rw[Q1 e2]at hb
 rcases ä.mp hb with hb|hb
 .exact h1 b hb
 .rw[h2]at hg;refine Jy.mpr ?_ b hb
  lia
def zji{P:Int}{ws:kE}{rs:List<|Str×kL}{dd:List Sd}(K:SpK ws rs dd){ks:kF}{r:Nat}(wk:CW dd 0 ks=↑r){l:kI}(e1:Cp (Aq ws rs dd) (Az rs 0) ks=↑l)(e2:Ci (Aq ws rs dd) l=Az rs r){g:List<|Nat×Nat×Int}{X:Nat->Int}(hb:∀b∈Br (Aq ws rs dd) l g,Cw P X b):∃x,DK P ws rs dd (Bv P ws rs) (Ff X 1 ks)=↑(r,x)/\BI P g x=true:=by
 rw[Q1 e2]at hb;have hb1:∀b∈En (Aq ws rs dd) l 1 (λ_=>0) (Az rs r),Cw P X b:=λb q=>hb b<|ö _ q
 have r1:=K.sp.r.l1;have fs:=Mj K (by lia:0<rs.length) wk e1 hb1
 have e0:(λp=>X (1 - 1) - X ((λ_:Nat=>0) p))=λ_:Nat=>(0:Int):=funext λp=>Int.sub_self _
 have st:BI P (CM ws rs 0) (λ_=>0)=true:=V8 K (by lia) (λp=>by
  lia) fs.2
 have ru:=WJ K ks (t:=1) (sa:=λ_=>0) (Ç _) (by lia) wk e1 hb1
 rw[e0]at ru;refine{_,by rw[zmr st];exact ru,?_}
 refine Jy.mp λb q=>hb b<|ß _ ?_
 lia
theorem zl9{ws wd:kE}(hw:Bn ws)(hd:Bn wd){l:kL}(h:BE ws wd l):Fit (.lst l) 2:=Fit.nd λt ht=>by
 let(x,y,n,rfl,h1,h2,h3):=h t ht;refine Fit.tup (n:=0) λu hu=>?_
 erw[Ê,ê,ñ]at hu
 rcases hu with rfl|rfl|rfl
 .exact Fit.str (hw x h1) _
 .exact Fit.str (hd y h2) _
 .exact Fit.int _ _
theorem zhu(ks:kF)(n:Nat):Fit (.lst<|ks.map T.int)<|n+1:=Fit.nd λt ht=>by
 let(k,_,rfl):=Ó.mp ht;exact Fit.int _ _
theorem Zs(ks:kF)(n:Nat):Fit (.lst<|ks.map T.int++[.non])<|n+1:=Fit.nd λt ht=>by
 rcases ä.mp ht with ht|ht
 .let(k,_,rfl):=Ó.mp ht;exact Fit.int _ _
 .rw[Ô.mp ht];exact Fit.non _
def DC(v:Nat->Int)(u:Int):Nat->kF->List Tp
 |t,[]=>[{v t - v (t - 1),Zm.lt (v t - v (t - 1)) u,Zm.lb (v t - v (t - 1)) u,none}]|t,k::r=>{v t - v (t - 1),Zm.lt (v t - v (t - 1)) u,Zm.lb (v t - v (t - 1)) u,↑k.toNat}::DC v u (t+1) r
def VA(v:Nat->Int)(u:Int):∀(t:Nat) (ks:kF),(DC v u t ks).map (λx=>(x.w,x.k))=Ff v t ks
 |t,[]=>rfl|t,k::r=>by
  show _::(DC v u (t+1) r).map _=_;rw[VA v u (t+1) r]
  rfl
def VB(v:Nat->Int)(u:Int):∀(ks:kF) (t:Nat),(∀k∈ks,0<=k)->DI (mT (ks.length+1) λi=>E5 (λj=>v<|t+j) u i) (ks.map T.int++[.non])=(DC v u (t+1) ks).map Bu
 |[],t,_=>rfl|k::r,t,h=>by
  have ih:=VB v u r (t+1) λq hq=>h q<|É _ hq
  have e1:(mT ((k::r).length+1) λi=>E5 (λj=>v<|t+j) u i)=E5 (λj=>v<|t+j) u 0::mT (r.length+1) λi=>E5 (λj=>v<|t+1+j) u i:=by
   unfold mT;rw[List.range_succ_eq_map,Ï,ý];refine congrArg (_::·)<|İ λi _=>?_
   unfold E5
   lia
  rw[e1,Ï,Ū];show T.tup [E5 (λj=>v<|t+j) u 0,.int k]::DI _ _=_::(DC v u (t+1+1) r).map Bu
  rw[ih]
  have e2:(.int k:T)=BG ↑k.toNat:=by
   show T.int k=.int ((k.toNat:Nat):Int);rw[Ŋ<|h k (Í ..)]
  rw[e2]
  rfl
def zmh{u:Int}(hu:Bo u){n:Nat}{v:Nat->Int}:∀(ks:kF) (t:Nat),1<=t->(∀k∈ks,0<=k/\k<(n:Int))->(∀i,t<=i->i<=t+ks.length->v (i - 1)<=v i)->∀x∈DC v u t ks,(TpOk u n x/\0<=x.a)/\x.b<=u:=by
 have one:∀t,v (t - 1)<=v t->∀k:Option Nat,(∀i∈k,i<n)->(TpOk u n {v t - v (t - 1),Zm.lt (v t - v (t - 1)) u,Zm.lb (v t - v (t - 1)) u,k}/\0<=Zm.lt (v t - v (t - 1)) u)/\Zm.lb (v t - v (t - 1)) u<=u:=λt ht k hk=>by
  refine{{{hu.lb _,ZK hu.p,hk},?_},Zm.lb_le hu.p};have h1:=(Vv (v:=v t - v (t - 1)) (n:=0) hu.p).1;rw[ľ,ľ,Int.sub_zero]at h1;exact h1.mpr<|by lia
 intro ks
 induction ks with
 |nil=>intro t ht hk hv x hx;have:x=_:=Ô.mp hx;subst this;exact one t (hv t (Ç _)<|Ç _) none λi hi=>by cases hi|cons k r ih=>
  intro t ht hk hv x hx
  rcases Ê.mp hx with rfl|hx
  .exact one t (hv t (Ç _)<|by lia) ↑k.toNat λi hi=>by
    cases hi;have:=hk k (Í ..)
    lia
  .exact ih (t+1) (by lia) (λq hq=>hk q<|É _ hq) (λi h1 h2=>hv i (by lia) (by rw[Ø];lia)) x hx
def W6{P:Int}{X:Nat->Int}{M:Mc}{x:Str}:∀(l:kI) (t:Nat) (sa:Nat->Nat),(∀b∈En M l t sa x,Cw P X b)->∀i,t<=i->i<=t+l.length->X (i - 1)<=X i
 |[],t,sa,h,i,h1,h2=>by
  have:i=t:=by simp at h2;lia
  subst this;exact(Hw.mp h).1
 |d::l,t,sa,h,i,h1,h2=>by
  rw[Lr]at h
  by_cases e:i=t
  .subst e;exact(Hw.mp λb q=>h b<|ö _<|ö _ q).1
  .exact W6 l (t+1) _ (λb q=>h b<|ß _ q) i (by lia) (by rw[Ø]at h2;lia)
def law_true(ns:kF)(h:ns.length<=63):fK [CZ ns]=↑(.ok<|.bl true):=by
 have F:=Vt ns;have F2:=Vs ns;have c20:Fc [CZ ns,.int 20]=↑(.ok<|.int<|ns.getD (20:Int).toNat 0):=Mp ns (k:=20)<|by decide
 generalize ns.getD (20:Int).toNat 0=c at c20;let(ws,rs,dd,sz,em,D):=ze4 ns h;have K:=zpt D;have md:Kw [Ay ws rs dd]=↑(.ok<|Ap<|Aq ws rs dd):=made_ok K.sp K.mc;have s9:=El K.sp.r;have er:=AJ _ s9;have sd:=K.sp.sd;have ed:=AJ _ sd;have sm:=FT K.mc;have emc:=CY _ sm;have w2:=K.w2;have tw:Bn ws:=K.mc.tw
 have hcl:(BW ns ↑12 ↑20).length<=8:=by
  unfold BW;rw[show(↑(12:Int))=↑((12:Nat):Int) from rfl,show(↑(20:Int))=↑((20:Nat):Int) from rfl,HT.sIx_nat,HT.sIx_nat,Č]
  lia
 let(ks,r,er1,wk,kl):=zoz K (cs:=BW ns ↑12 ↑20)<|by lia
 have cm:BW (ns.map T.int) ↑12 ↑20=(BW ns ↑12 ↑20).map T.int:=T3 ..;have scs:=Cu<|BW ns ↑12 ↑20;have ecs:=DH<|BW ns ↑12 ↑20;have cm2:BW (ns.map T.int) ↑21 ↑30=(BW ns ↑21 ↑30).map T.int:=T3 ..;have scs2:=Cu<|BW ns ↑21 ↑30;have ecs2:=DH<|BW ns ↑21 ↑30;have sk:=Cu ks;have ek:=DH ks;have lk:(ks.map T.int).length<=100000:=by rw[Á];lia
 let(xs,es):=Lb c (m:=5)<|by decide
 have es':FH [.int c,.int 5]=↑(.ok<|.own<|mT 5 λi=>.int<|xs i):=es
 have sx:A6 (mT 5 λi=>T.int<|xs i)=true:=Ga _
 have ex:=AJ _ sx;let(sc,s0,esc):=Vx (ws:=ws) (rs:=rs) (dd:=dd) s9 sd (λr hr=>{(K.sp.r.lk r hr).1,K.l2 r hr}) λd hd=>{(K.sp.d d hd).g,K.g2 d hd}
 have s4:Bk 4=true:=CN (by decide)<|by decide
 have u0:0<=sc.fdiv 4+1:=by
  rw[fd<|by decide]
  have:=Int.ediv_nonneg s0<|show(0:Int)<=4 by decide
  lia
 let(g,eg1,hg,gl):=aE (xs:=xs) u0 tw;have sg:=hg.sh;have eg:=AJ _ sg;have lg:g.length<=100000:=by lia
 have hg':BE (Aq ws rs dd).ws BY g:=hg;let(l,a1,a2,a3,a4):=zjo K (ks:=ks) (by lia) wk
 have hks:=Uh K wk
 have sG:(T.lst g).sh=true:=by
  show((!false) && A6 g)=true;rw[sg]
  rfl
 have ro:=(zn9 K.mc (ks:=ks) sG).trans (zna K.mc K.s1 ks hg' (by lia) (b:=1) (by decide)<|by decide)
 rw[a1,show Ln (Aq ws rs dd) ks g 1 ↑l=.ok (Gi ks (1 * ((ks.length:Int)+2))<|Fm (Aq ws rs dd) l g 1) from rfl]at ro;have rz:=rz_ok K.mc K.s1 ks hg'<|by lia
 rw[a1,show Jd (Aq ws rs dd) g ↑l=.ok (oT (l.length+2)<|GI (l.length+2)<|ET (Aq ws rs dd) l g) from rfl]at rz;have hI:=Q0 K.mc (IM a1).1 hg'
 have hf:Fit (.lst [.lst<|ks.map T.int,.lst g]) 3:=Fit.nd λt ht=>by
  erw[Ê,ê,ñ]at ht
  rcases ht with rfl|rfl
  .exact zhu ks 1
  .exact zl9 tw Nt hg
 have hdf:=(cU (n:=3) hf (by decide) rfl hf).2
 refine WK rfl ?_;show MK [↑(CZ ns),none,none,none,none,none,none,none,none,none]=_;unfold MK;unfold CZ at *;have sN:=Cu ns;have eN:=DH ns;change ns.map T.int=NT;change (BW ns ↑12 ↑20).map T.int=CT;change (mT 5 λi=>T.int<|xs i)=XT
 generalize hR:Gi ks (1 * ((ks.length:Int)+2)) (Fm (Aq ws rs dd) l g 1)=RT at *;refine sq (by simp![sN,eN,em,AV,AS,s9,er,sd,ed];rfl)<|sq (by simp![AV,AS,s9,er,sd,ed,md,sm,emc];rfl)<|sq (by simp![AV,AS,s9,er,sd,ed,sN,eN,cm,scs,ecs,er1,sk,ek];rfl)<|sq (by simp![AV,AS,s9,er,sd,ed,sN,eN,c20,es',sx,ex,esc,s4,eg1,sg,eg];rfl)<|sq (by simp![sk,ek,lk,sg,eg,lg];rfl)<|sq (by simp![sk,ek,sg,eg,sm,emc,ro];rfl)<|G9 (by simp![sk,ek,sg,eg,hdf]) ?_
 subst hR;cases ev:Fm (Aq ws rs dd) l g 1 with
 |none=>
  refine sr ?_;rw[show(Gi ks (1 * ((ks.length:Int)+2)) none).share=.non from rfl]
  have hns:¬ Db.Sound (l.length+2) (ET (Aq ws rs dd) l g):=λhs=>by
   let(v,e):=zdr (N:=l.length+2) (by lia) hI (u:=1 * ((l.length:Int)+2)) (by lia) hs
   unfold Fm at ev;rw[ev]at e;cases e
  have ezn:GI (l.length+2) (ET (Aq ws rs dd) l g)=none:=by
   unfold GI;rw[if_neg hns]
  rw[ezn]at rz;have rz':Kk [Ap<|Aq ws rs dd,.lst<|ks.map T.int,.lst g]=↑(.ok .non):=rz;let(W,eW,lW,hF):=zgn K (ks:=ks) (by lia) hks hg<|BW ns ↑21 ↑30
  let(w,hw):∃w:Int×Int->Int,∀t∈W,FP 6 t.1 t.2<|w t:=by
   have:∀t:Int×Int,∃w,t∈W->FP 6 t.1 t.2 w:=λt=>by
    by_cases ht:t∈W
    .let(w,hw):=hF t ht;exact{w,λ_=>hw}
    .exact{0,λz=>absurd z ht}
   let(f,hf):=Classical.axiomOfChoice this;exact{f,λt ht=>hf t ht}
  let(bb,eb,hbb):=zll JA K (ks:=ks) (by lia) hks hg hw lW
  have hb0:bb=false:=by
   cases bb with
   |false=>rfl|true=>
    exfalso
    let(p1,s,p2,p3):=hbb rfl
    have wnn:∀x∈W.map w,0<=x:=λx hx=>by
     let(t,ht,rfl):=Ó.mp hx;have e:=(hw t ht).e;have b0:=(hw t ht).o.p;have a0:=p1 t ht
     by_cases z:0<=w t
     .exact z
     .exfalso
      have:w t * t.2<0:=Int.mul_neg_of_neg_of_pos (by lia) b0
      lia
    have sat:=zi0 JA K (by lia) wk a2 a3 a4 wnn (by rw[Á];exact lW) p2 p3
    exact hns<|zer (P:=6) (X:=Ej<|W.map w) (by decide) rfl (VG wnn) sat
  subst hb0;have sW:A6 (W.map fw)=true:=EO λ_ _=>rfl
  have eW2:=AJ _ sW;change (BW ns ↑21 ↑30).map T.int=C2;change W.map fw=WT;change ks.map T.int=KT
  simp![AV,AS,s9,er,sd,ed,sk,ek,sg,eg,sm,emc,sN,eN,cm2,scs2,ecs2,eW,sW,eW2,rz',eb]
 |some v=>
  have hok:=VE _ _ _ (show Dv.tn ((Br (Aq ws rs dd) l<|g.map<|A2 ws).map (EZ<|1 * ((l.length:Int)+2))) (l.length+2) (λ_=>0)=↑v from ev)
  rw[a4]at hok;have sat:=XD.mp hok;let(u,hu):∃u:Int,u=1 * ((ks.length:Int)+2):={_,rfl};rw[<- hu]at sat ⊢;have bu:Bo u:={by lia,by lia}
  let(x,hr,hgx):=zji K wk a2 a3 sat
  have rise:∀i,1<=i->i<=1+ks.length->v (i - 1)<=v i:=by
   rw[Q1 a3]at sat;have:=W6 l 1 (λ_=>0) λb q=>sat b<|ö _ q
   rwa[a4]at this
  have hL:=zmh bu ks 1 (Ç _) hks rise
  have eT:L9 ks v u=(DC v u 1 ks).map Bu:=by
   have:=VB v u ks 0 λk hk=>(hks k hk).1
   rw[<- this];unfold L9
   congr 2
   funext i
   show fr (Zm.lt (v (i+1) - v i) u) (Zm.lb (v (i+1) - v i) u)=fr (Zm.lt (v (0+(i+1)) - v (0+i)) u) (Zm.lb (v (0+(i+1)) - v (0+i)) u);rw[Nat.zero_add,Nat.zero_add]
  have wa:=zes bu K λt ht=>(hL t ht).1
  rw[VA,hr]at wa;have ho:=Iq bu (by lia:ws.length<=7) x hg
  rw[hgx]at ho
  have sL:A6 ((DC v u 1 ks).map Bu)=true:=EO λt _=>by
   show((!false) && (true && ((BG t.k).sh && true)))=true;cases t.k<;>rfl
  have eL:=AJ _ sL;rw[show(Gi ks u ↑v).share=.lst (BN<|L9 ks v u) from rfl,eT,eL]
  have Dy:B8 (AD 0) (mC<|.bl true) Ka ((DC v u 1 ks).map Bu) [none]=↑(ks.map T.int++[.non]):=by
   have e1:=Hc (b:=AD 0) (me:=Ka) Bu (λt=>BG t.k) (λY=>∃y,Y=[y]) (DC v u 1 ks) [none] {(none),rfl} λt ht Y hI=>by
    let(y,rfl):=hI;have kn:(BG t.k).sh=true:=by cases t.k<;>rfl
    refine{[↑(Bu t)],by simp![],?_,_,rfl}
    show Ka [↑(.tup [fr t.a t.b,BG t.k])]=_;change BG t.k=KK;unfold Ka
    simp![kn]
   rw[e1]
   congr 1
   have:∀(ks:kF) (t:Nat),(∀k∈ks,0<=k)->(DC v u t ks).map (λt=>BG t.k)=ks.map T.int++[.non]:=λks=>by
    induction ks with
    |nil=>exact λt _=>rfl|cons k r ih=>
     intro t hk;show BG ↑k.toNat::(DC v u (t+1) r).map _=_;rw[ih (t+1) λq hq=>hk q<|É _ hq]
     show T.int ((k.toNat:Nat):Int)::_=_;rw[Ŋ<|hk k (Í ..)]
     rfl
   exact this ks 1 λk hk=>(hks k hk).1
  have F6:B8 (AD 0) KP Ti ((DC v u 1 ks).map Bu) [none,↑(.lst<|ks.map T.int)]=↑[]:=by
   have e1:=Z1 (b:=AD 0) (mt:=KP) (me:=Ti) Bu Bu (λ_=>false) (λY=>∃y,Y=[y,↑(.lst<|ks.map T.int)]) (DC v u 1 ks) [none,↑(.lst<|ks.map T.int)] {(none),rfl} λt ht Y hI=>by
    let(y,rfl):=hI;have hb:=(hL t ht).2;have ekl:(ks.map T.int).length=ks.length:=Á ..;have d1:decide ((ks.length:Int)+2<t.b)=false:=Ù<|by lia
    refine{[↑(Bu t),↑(.lst<|ks.map T.int)],false,by simp![],?_,(λz=>by cases z),_,rfl}
    show KP [↑(.tup [fr t.a t.b,BG t.k]),↑(.lst<|ks.map T.int)]=_;have kn:(BG t.k).sh=true:=by cases t.k<;>rfl
    change BG t.k=KK;change ks.map T.int=KT;unfold KP
    simp![kn,sk,ek,ekl,d1]
   rw[e1,List.filter_eq_nil_iff.mpr λ_ _=>by simp]
   rfl
  have ll:((DC v u 1 ks).map Bu).length<=100000:=by
   have:∀(ks:kF) (t:Nat),(DC v u t ks).length=ks.length+1:=λks=>by
    induction ks with
    |nil=>exact λ_=>rfl|cons k r ih=>intro t;show(DC v u (t+1) r).length+1=_;rw[ih];rfl
   rw[Á,this]
   lia
  have lkn:(ks.map T.int).length+1<=100000:=by rw[Á];lia
  have nq:CD (.lst<|ks.map T.int++[.non]) (.lst<|ks.map T.int++[.non])=↑(.bl false):=(cU (n:=1) (Zs ks 0) (by decide) rfl<|Zs ks 0).2
  have sKn:A6 (ks.map T.int++[.non])=true:=by
   rw[DV,List.all_append,<- DV,sk]
   rfl
  have eKn:=AJ _ sKn;have vs0:=Dj ws.length u x;have ev0:=AJ _ vs0;have wa':JP [Ay ws rs dd,.lst<|(DC v u 1 ks).map Bu]=↑(.ok<|.tup [.int (r:Int),.lst<|A5 ws.length u x]):=wa;have ez:=cS;change (DC v u 1 ks).map Bu=TT;change A5 ws.length u x=VT;generalize hKN:ks.map T.int++[.non]=KN at *;refine G9 (by simp![sL,eL]) ?_
  refine sq (by simp![AV,AS,s9,er,sd,ed,sL,eL,wa',vs0,ev0];rfl) ?_
  refine G9 (by simp![AV,AS,s9,er,sd,ed,sg,eg,vs0,ev0,ho]) ?_
  refine G9 (by change ks.map T.int=KT;simp![sL,eL,Dy,ll,sk,ek,lkn,hKN,sKn,eKn,nq]) ?_
  change ks.map T.int=KT
  simp![-F8,sL,eL,F6,ll,sk,ek,ez]
end
end Zl
namespace Zl
open PySem PySem.W L2 Zw Zx Pu Hd
abbrev pw:Program:=PySem.Challenge.pw_zonewalk_k53_whole_runs_of_roads
abbrev QJ:OpenLaw:=PySem.Challenge.rw_zonewalk_k53_whole_runs_of_roads
abbrev md:String:="__module__"
abbrev fl:String:="__firstlineno__"
abbrev sa:String:="__static_attributes__"
abbrev dc:String:="__doc__"
abbrev cf:Str:="/claim/cut.py"
def tO(l:k9):Obj:={(.type "tuple"),none,(.seq (Array.mk l) 0),Array.mk []}
def dO(l:List DictEntry)(n:Nat):Obj:={(.type "dict"),none,(.dict (Array.mk l) n),Array.mk []}
def eb:k9:=[(.type "ValueError"),(.type "Exception"),(.type "BaseException"),(.type "object")]
def yO(a:Str)(b c:k9)(n:Addr)(d:k9)(r ta tb:Nat)(w:String):Obj:={(.type "type"),none,(.cls {a,b,c,n,a,true,[],d,false,none,false}),Array.mk [(↑(.ref r)),none,(↑(.str a ta)),(↑(.str a tb)),(↑(.builtin w)),(↑(.bool true))]}
def cP(a:Str)(ta:Nat)(b:Str)(tb tf:Nat)(r n k:Int)(r1:Nat)(z:Int)(v1 v2 v3 v4 v5:Value)(x y:Int)(tg:Nat):Obj:={(.type "code"),none,(.fields<|Array.mk [(.str a ta),(.str b tb),(.str cf tf),(.int r 0),(.int n 0),(.int 0 0),(.int 0 0),(.int k 0),(.ref r1),(.bool true),(.int z 0),v1,v2,v3,v4,v5,(.int x 0),(.int y 0),(.str cf tg)]),Array.mk []}
def cL(a b:Str)(t r n q x:Nat):Obj:=cP a t b (t+1) (t+2) r n 3 q 181 (.ref<|q+1) .none (.ref<|q+2) (.ref<|q+3) (.ref<|q+4) x r<|x+1
def cN(a:Str):=cL a a
def cM(a b:Str)(t r n q:Nat):Obj:=cP a t b (t+1) (t+2) r n 3 q 181 (.ref<|q+1) .none .none .none (.ref<|q+2) ((t+3:Nat):Int) r<|t+4
def o2(P:Params):Obj:={.none,none,(.dict (Array.mk []) 0),Array.mk []}
def o3(P:Params):Obj:=dO [en P "__name__" 165<|.str "law_zonewalk_k53_whole_runs_of_roads" 783,en P "__doc__" 166 .none,en P "__package__" 167 .none,en P "__loader__" 168<|.builtin "__main__.__loader__#opaque",en P "__spec__" 169 .none,en P "__annotations__" 170<|.ref 6,en P "__builtins__" 171<|.ref 4,en P "__file__" 173<|.str "/claim/cut.py" 172,en P "__cached__" 174 .none,en P "WalkError" 206<|.ref 24,en P "NoNumber" 222<|.ref 37,en P "BadMachine" 238<|.ref 49,en P "TooMany" 254<|.ref 61,en P "NoMark" 270<|.ref 73,en P "NoRoad" 286<|.ref 85,en P "is_whole" 295<|.ref 94,en P "greatest_divisor" 306<|.ref 101,en P "fraction" 316<|.ref 109,en P "at_most" 325<|.ref 116,en P "below" 332<|.ref 123,en P "number_of" 339<|.ref 130,en P "is_open" 346<|.ref 137,en P "narrower" 354<|.ref 144,en P "unit_of" 364<|.ref 151,en P "limits_of" 370<|.ref 156,en P "least_values" 380<|.ref 163,en P "raise_all" 393<|.ref 170,en P "WORDS" 401<|.ref 171,en P "STAY_WORDS" 404<|.ref 172,en P "is_look" 413<|.ref 179,en P "is_number" 420<|.ref 186,en P "is_guard" 426<|.ref 191,en P "look_bounds" 437<|.ref 198,en P "MOST_WATCHES" 441<|.int 7 440,en P "MOST_ROOMS" 443<|.int 64 442,en P "MOST_DOORS" 445<|.int 200 444,en P "is_small_letter" 452<|.ref 205,en P "is_name" 458<|.ref 210,en P "is_watch_name" 465<|.ref 217,en P "is_room_name" 471<|.ref 222,en P "is_sign" 478<|.ref 229,en P "own_copy" 485<|.ref 236,en P "Door" 537<|.ref 268,en P "Machine" 603<|.ref 322,en P "check_watches" 609<|.ref 331,en P "are_unlike" 616<|.ref 338,en P "check_rooms" 622<|.ref 343,en P "check_doors" 632<|.ref 350,en P "are_noughts" 638<|.ref 355,en P "placed" 644<|.ref 360,en P "nought_places" 652<|.ref 365,en P "free_bound" 662<|.ref 372,en P "narrowest" 668<|.ref 377,en P "is_broken" 674<|.ref 382,en P "row_over" 687<|.ref 389,en P "MOST_ROAD_DOORS" 691<|.int 200 690,en P "road_doors" 704<|.ref 396,en P "last_room" 712<|.ref 403,en P "looked_at" 725<|.ref 410,en P "waited_till" 736<|.ref 417,en P "road_bounds" 742<|.ref 422,en P "road_zone" 748<|.ref 427,en P "road_unit" 756<|.ref 434,en P "least_times" 767<|.ref 441,en P "run_by" 773<|.ref 446,en P "run_of" 782<|.ref 453,en P "_law_cell_at" 792<|.ref 460,en P "_law_stream" 804<|.ref 467,en P "_law_names" 810<|.ref 472,en P "_law_number" 818<|.ref 479,en P "_law_guard" 830<|.ref 486,en P "_law_stay" 842<|.ref 493,en P "_law_door" 848<|.ref 498,en P "_law_machine" 854<|.ref 503,en P "_law_made" 860<|.ref 508,en P "_law_scale" 866<|.ref 513,en P "_law_holds" 881<|.ref 520,en P "_law_divisor" 889<|.ref 527,en P "_law_plus" 900<|.ref 534,en P "_law_step" 906<|.ref 539,en P "_law_start" 912<|.ref 544,en P "_law_right_step" 923<|.ref 551,en P "_law_walk" 933<|.ref 558,en P "_law_road" 939<|.ref 563,en P "_law_need" 956<|.ref 570,en P "_law_waits" 962<|.ref 575,en P "_law_good" 975<|.ref 582,en P "law" 981<|.ref 587] 88
def o15(P:Params):Obj:=tO [(.type "ValueError")]
def o22(P:Params):Obj:=tO []
def o23(P:Params):Obj:=dO [en P md 196<|.str "zonewalk.errors" 187,en P fl 200<|.int 2 199,en P sa 201<|.ref 22,en P "__weakref__" 203<|.ref 25,en P dc 204 .none] 3
def o24(P:Params):Obj:=yO "WalkError" [(.type "ValueError")] ([(.ref 24)]++eb) 23 [(.ref 37),(.ref 49),(.ref 61),(.ref 73),(.ref 85)] 15 189 197 "ValueError.__new__"
def o25(P:Params):Obj:={(.type "getset_descriptor"),none,(.fields<|Array.mk [(.str "__weakref__" 202),(.ref 24),(.builtin "ExceptionGroup.__weakref__"),.none]),Array.mk []}
def o28(P:Params):Obj:=tO [(.ref 24)]
def o35(P:Params):Obj:=tO []
def o36(P:Params):Obj:=dO [en P md 214<|.str "zonewalk.errors" 187,en P fl 218<|.int 4 217,en P sa 219<|.ref 35,en P dc 220 .none] 2
def o37(P:Params):Obj:=yO "NoNumber" [(.ref 24)] ([(.ref 37),(.ref 24)]++eb) 36 [] 28 207 215 "ValueError.__new__"
def o40(P:Params):Obj:=tO [(.ref 24)]
def o47(P:Params):Obj:=tO []
def o48(P:Params):Obj:=dO [en P md 230<|.str "zonewalk.errors" 187,en P fl 234<|.int 6 233,en P sa 235<|.ref 47,en P dc 236 .none] 2
def o49(P:Params):Obj:=yO "BadMachine" [(.ref 24)] ([(.ref 49),(.ref 24)]++eb) 48 [] 40 223 231 "ValueError.__new__"
def o52(P:Params):Obj:=tO [(.ref 24)]
def o59(P:Params):Obj:=tO []
def o60(P:Params):Obj:=dO [en P md 246<|.str "zonewalk.errors" 187,en P fl 250<|.int 8 249,en P sa 251<|.ref 59,en P dc 252 .none] 2
def o61(P:Params):Obj:=yO "TooMany" [(.ref 24)] ([(.ref 61),(.ref 24)]++eb) 60 [] 52 239 247 "ValueError.__new__"
def o64(P:Params):Obj:=tO [(.ref 24)]
def o71(P:Params):Obj:=tO []
def o72(P:Params):Obj:=dO [en P md 262<|.str "zonewalk.errors" 187,en P fl 266<|.int 10 265,en P sa 267<|.ref 71,en P dc 268 .none] 2
def o73(P:Params):Obj:=yO "NoMark" [(.ref 24)] ([(.ref 73),(.ref 24)]++eb) 72 [] 64 255 263 "ValueError.__new__"
def o76(P:Params):Obj:=tO [(.ref 24)]
def o83(P:Params):Obj:=tO []
def o84(P:Params):Obj:=dO [en P md 278<|.str "zonewalk.errors" 187,en P fl 282<|.int 12 281,en P sa 283<|.ref 83,en P dc 284 .none] 2
def o85(P:Params):Obj:=yO "NoRoad" [(.ref 24)] ([(.ref 85),(.ref 24)]++eb) 84 [] 76 271 279 "ValueError.__new__"
def o93(_:Params):=cN "is_whole" 289 15 1 88 293
def aF(a:Str)(s:Stmt)(c:Nat):=gO a s "zonewalk.fractions" 287 c
def XI(_:Params):=aF "is_whole" (AL 8) 93
def o100(_:Params):=cN "greatest_divisor" 296 17 2 95 304
def Y4(_:Params):=aF "greatest_divisor" (AL 9) 100
def Y3(P:Params):Obj:=tO [(.int 1 307)]
def o108(_:Params):=cN "fraction" 308 25 2 103 314
def Y2(_:Params):=fO "fraction" "fraction" (AL 10) (.ref 102) "zonewalk.fractions" 287 108 .none
def o115(_:Params):=cN "at_most" 319 35 1 110 323
def KR(a:Str)(s:Stmt)(c:Nat):=gO a s "zonewalk.bounds" 317 c
def Y1(_:Params):=KR "at_most" (AL 12) 115
def o122(_:Params):=cN "below" 326 37 1 117 330
def Y0(_:Params):=KR "below" (AL 13) 122
def o129(_:Params):=cN "number_of" 333 39 1 124 337
def YZ(_:Params):=KR "number_of" (AL 14) 129
def o136(_:Params):=cN "is_open" 340 41 1 131 344
def YY(_:Params):=KR "is_open" (AL 15) 136
def o143(_:Params):=cN "narrower" 347 43 2 138 352
def YX(_:Params):=KR "narrower" (AL 16) 143
def o150(_:Params):=cN "unit_of" 357 50 2 145 362
def Mb(a:Str)(s:Stmt)(c:Nat):=gO a s "zonewalk.leasts" 355 c
def YW(_:Params):=Mb "unit_of" (AL 18) 150
def o155(P:Params):Obj:=cM "limits_of" "limits_of" 365 52 2 152
def YV(_:Params):=Mb "limits_of" (AL 19) 155
def o162(_:Params):=cN "least_values" 371 54 2 157 378
def YU(_:Params):=Mb "least_values" (AL 20) 162
def o169(_:Params):=cN "raise_all" 381 60 2 164 391
def YT(_:Params):=Mb "raise_all" (AL 21) 169
def YS(P:Params):Obj:=tO [(.str "<" 396),(.str "<=" 397),(.str ">" 398),(.str ">=" 399),(.str "=" 400)]
def YR(P:Params):Obj:=tO [(.str "<" 402),(.str "<=" 403)]
def o178(_:Params):=cN "is_look" 405 71 3 173 411
def Ma(a:Str)(s:Stmt)(c:Nat):=gO a s "zonewalk.looks" 394 c
def YQ(_:Params):=Ma "is_look" (AL 25) 178
def o185(_:Params):=cN "is_number" 414 75 1 180 418
def YO(_:Params):=Ma "is_number" (AL 26) 185
def o190(P:Params):Obj:=cM "is_guard" "is_guard" 421 77 3 187
def YN(_:Params):=Ma "is_guard" (AL 27) 190
def o197(_:Params):=cN "look_bounds" 427 79 4 192 435
def YM(_:Params):=Ma "look_bounds" (AL 28) 197
def o204(_:Params):=cN "is_small_letter" 446 94 1 199 450
def FC(a:Str)(s:Stmt)(c:Nat):=gO a s "zonewalk.machines" 438 c
def YL(_:Params):=FC "is_small_letter" (AL 33) 204
def o209(P:Params):Obj:=cM "is_name" "is_name" 453 96 1 206
def YK(_:Params):=FC "is_name" (AL 34) 209
def o216(_:Params):=cN "is_watch_name" 459 98 1 211 463
def YJ(_:Params):=FC "is_watch_name" (AL 35) 216
def o221(P:Params):Obj:=cM "is_room_name" "is_room_name" 466 100 1 218
def YI(_:Params):=FC "is_room_name" (AL 36) 221
def o228(_:Params):=cN "is_sign" 472 104 1 223 476
def YH(_:Params):=FC "is_sign" (AL 37) 228
def o235(_:Params):=cN "own_copy" 479 108 1 230 483
def YG(_:Params):=FC "own_copy" (AL 38) 235
def YF(P:Params):Obj:=tO [(.str "" 498)]
def o250(P:Params):Obj:=cL "__init__" "Door.__init__" 499 112 6 245 508
def YE(_:Params):=fO "__init__" "Door.__init__" (DN 39 0) (.ref 244) "zonewalk.machines" 438 250 .none
def o257(P:Params):Obj:=cL "asks" "Door.asks" 511 119 1 252 515
def YD(_:Params):=fO "asks" "Door.asks" (DN 39 1) .none "zonewalk.machines" 438 257 .none
def o264(P:Params):Obj:=cL "sets" "Door.sets" 518 122 1 259 522
def YC(_:Params):=fO "sets" "Door.sets" (DN 39 2) .none "zonewalk.machines" 438 264 .none
def o266(P:Params):Obj:=tO [(.str "end" 525),(.str "guard" 526),(.str "noughts" 527),(.str "sign" 528),(.str "start" 529)]
def o267(P:Params):Obj:=dO [en P md 493<|.str "zonewalk.machines" 438,en P fl 497<|.int 110 496,en P "__init__" 510<|.ref 251,en P "asks" 517<|.ref 258,en P "sets" 524<|.ref 265,en P sa 530<|.ref 266,en P "__dict__" 532<|.ref 269,en P "__weakref__" 534<|.ref 270,en P dc 535 .none] 4
def o268(P:Params):Obj:={(.type "type"),none,(.cls {"Door",[(.type "object")],[(.ref 268),(.type "object")],267,"Door",true,[],[],false,none,false}),Array.mk [none,none,(↑(.str "Door" 486)),(↑(.str "Door" 494)),(↑(.builtin "object.__new__")),(↑(.bool true))]}
def o269(P:Params):Obj:={(.type "getset_descriptor"),none,(.fields<|Array.mk [(.str "__dict__" 531),(.ref 268),(.builtin "function.__dict__"),(.builtin "function.__dict__#set")]),Array.mk []}
def o270(P:Params):Obj:={(.type "getset_descriptor"),none,(.fields<|Array.mk [(.str "__weakref__" 533),(.ref 268),(.builtin "ExceptionGroup.__weakref__"),.none]),Array.mk []}
def o283(P:Params):Obj:=cM "__init__" "Machine.__init__" 550 126 4 280
def YB(_:Params):=fO "__init__" "Machine.__init__" (DN 40 0) .none "zonewalk.machines" 438 283 .none
def o290(P:Params):Obj:=cL "watches" "Machine.watches" 556 138 1 285 560
def YA(_:Params):=fO "watches" "Machine.watches" (DN 40 1) .none "zonewalk.machines" 438 290 .none
def o297(P:Params):Obj:=cL "rooms" "Machine.rooms" 563 141 1 292 567
def Xz(_:Params):=fO "rooms" "Machine.rooms" (DN 40 2) .none "zonewalk.machines" 438 297 .none
def o304(P:Params):Obj:=cL "doors" "Machine.doors" 570 144 1 299 574
def Xy(_:Params):=fO "doors" "Machine.doors" (DN 40 3) .none "zonewalk.machines" 438 304 .none
def o311(P:Params):Obj:=cL "stay" "Machine.stay" 577 147 2 306 582
def Xx(_:Params):=fO "stay" "Machine.stay" (DN 40 4) .none "zonewalk.machines" 438 311 .none
def o318(P:Params):Obj:=cL "watch_number" "Machine.watch_number" 585 150 2 313 590
def Xw(_:Params):=fO "watch_number" "Machine.watch_number" (DN 40 5) .none "zonewalk.machines" 438 318 .none
def o320(P:Params):Obj:=tO [(.str "door_list" 593),(.str "stays" 594),(.str "watch_names" 595)]
def o321(P:Params):Obj:=dO [en P md 545<|.str "zonewalk.machines" 438,en P fl 549<|.int 124 548,en P "__init__" 555<|.ref 284,en P "watches" 562<|.ref 291,en P "rooms" 569<|.ref 298,en P "doors" 576<|.ref 305,en P "stay" 584<|.ref 312,en P "watch_number" 592<|.ref 319,en P sa 596<|.ref 320,en P "__dict__" 598<|.ref 323,en P "__weakref__" 600<|.ref 324,en P dc 601 .none] 4
def o322(P:Params):Obj:={(.type "type"),none,(.cls {"Machine",[(.type "object")],[(.ref 322),(.type "object")],321,"Machine",true,[],[],false,none,false}),Array.mk [none,none,(↑(.str "Machine" 538)),(↑(.str "Machine" 546)),(↑(.builtin "object.__new__")),(↑(.bool true))]}
def o323(P:Params):Obj:={(.type "getset_descriptor"),none,(.fields<|Array.mk [(.str "__dict__" 597),(.ref 322),(.builtin "function.__dict__"),(.builtin "function.__dict__#set")]),Array.mk []}
def o324(P:Params):Obj:={(.type "getset_descriptor"),none,(.fields<|Array.mk [(.str "__weakref__" 599),(.ref 322),(.builtin "ExceptionGroup.__weakref__"),.none]),Array.mk []}
def o330(P:Params):Obj:=cM "check_watches" "check_watches" 604 152 1 327
def Xv(_:Params):=FC "check_watches" (AL 41) 330
def o337(_:Params):=cN "are_unlike" 610 157 1 332 614
def Xu(_:Params):=FC "are_unlike" (AL 42) 337
def o342(P:Params):Obj:=cM "check_rooms" "check_rooms" 617 159 2 339
def Xs(_:Params):=FC "check_rooms" (AL 43) 342
def o349(_:Params):=cN "check_doors" 623 169 3 344 630
def Xr(_:Params):=FC "check_doors" (AL 44) 349
def o354(P:Params):Obj:=cM "are_noughts" "are_noughts" 633 181 2 351
def Xq(_:Params):=FC "are_noughts" (AL 45) 354
def o359(P:Params):Obj:=cM "placed" "placed" 639 185 2 356
def Xp(_:Params):=FC "placed" (AL 46) 359
def o364(P:Params):Obj:=cM "nought_places" "nought_places" 647 191 2 361
def gO6(a:Str)(s:Stmt)(c:Nat):=gO a s "zonewalk.plans" 645 c
def Xo(_:Params):=gO6 "nought_places" (AL 48) 364
def o371(_:Params):=cN "free_bound" 655 194 2 366 660
def M9(a:Str)(s:Stmt)(c:Nat):=gO a s "zonewalk.zones" 653 c
def Xn(_:Params):=M9 "free_bound" (AL 50) 371
def o376(P:Params):Obj:=cM "narrowest" "narrowest" 663 198 1 373
def Xm(_:Params):=M9 "narrowest" (AL 51) 376
def o381(P:Params):Obj:=cM "is_broken" "is_broken" 669 206 1 378
def Xl(_:Params):=M9 "is_broken" (AL 52) 381
def o388(_:Params):=cN "row_over" 675 208 3 383 685
def Xk(_:Params):=M9 "row_over" (AL 53) 388
def o395(_:Params):=cN "road_doors" 692 219 2 390 702
def Fq(a:Str)(s:Stmt)(c:Nat):=gO a s "zonewalk.roads" 688 c
def Xj(_:Params):=Fq "road_doors" (AL 56) 395
def o402(_:Params):=cN "last_room" 705 234 2 397 710
def Xi(_:Params):=Fq "last_room" (AL 57) 402
def o409(_:Params):=cN "looked_at" 713 236 3 404 723
def Xh(_:Params):=Fq "looked_at" (AL 58) 409
def o416(_:Params):=cN "waited_till" 726 241 4 411 734
def Xg(_:Params):=Fq "waited_till" (AL 59) 416
def o421(P:Params):Obj:=cM "road_bounds" "road_bounds" 737 244 3 418
def Xf(_:Params):=Fq "road_bounds" (AL 60) 421
def o426(P:Params):Obj:=cM "road_zone" "road_zone" 743 258 3 423
def Xe(_:Params):=Fq "road_zone" (AL 61) 426
def o433(_:Params):=cN "road_unit" 749 265 2 428 754
def Xd(_:Params):=Fq "road_unit" (AL 62) 433
def o440(_:Params):=cN "least_times" 757 267 4 435 765
def Xc(_:Params):=Fq "least_times" (AL 63) 440
def o445(P:Params):Obj:=cM "run_by" "run_by" 768 270 4 442
def Xb(_:Params):=Fq "run_by" (AL 64) 445
def o452(_:Params):=cN "run_of" 774 277 3 447 780
def Xa(_:Params):=Fq "run_of" (AL 65) 452
def o459(_:Params):=cN "_law_cell_at" 785 280 2 454 790
def Cd(a:Str)(s:Stmt)(c:Nat):=gO a s "law_zonewalk_k53_whole_runs_of_roads" 783 c
def X9(_:Params):=Cd "_law_cell_at" (AL 67) 459
def o466(_:Params):=cN "_law_stream" 793 284 2 461 802
def X8(_:Params):=Cd "_law_stream" (AL 68) 466
def o471(P:Params):Obj:=cM "_law_names" "_law_names" 805 297 2 468
def X7(_:Params):=Cd "_law_names" (AL 69) 471
def o478(_:Params):=cN "_law_number" 811 307 2 473 816
def X6(_:Params):=Cd "_law_number" (AL 70) 478
def o485(_:Params):=cN "_law_guard" 819 309 3 480 828
def X5(_:Params):=Cd "_law_guard" (AL 71) 485
def o492(_:Params):=cN "_law_stay" 831 316 3 487 840
def X4(_:Params):=Cd "_law_stay" (AL 72) 492
def o497(P:Params):Obj:=cM "_law_door" "_law_door" 843 323 4 494
def X3(_:Params):=Cd "_law_door" (AL 73) 497
def o502(P:Params):Obj:=cM "_law_machine" "_law_machine" 849 328 1 499
def X2(_:Params):=Cd "_law_machine" (AL 74) 502
def o507(P:Params):Obj:=cM "_law_made" "_law_made" 855 340 1 504
def X1(_:Params):=Cd "_law_made" (AL 75) 507
def o512(P:Params):Obj:=cM "_law_scale" "_law_scale" 861 346 1 509
def X0(_:Params):=Cd "_law_scale" (AL 76) 512
def o519(_:Params):=cN "_law_holds" 867 353 3 514 879
def XZ(_:Params):=Cd "_law_holds" (AL 77) 519
def o526(_:Params):=cN "_law_divisor" 882 362 2 521 887
def XY(_:Params):=Cd "_law_divisor" (AL 78) 526
def o533(_:Params):=cN "_law_plus" 890 366 2 528 898
def XX(_:Params):=Cd "_law_plus" (AL 79) 533
def o538(P:Params):Obj:=cM "_law_step" "_law_step" 901 371 4 535
def XW(_:Params):=Cd "_law_step" (AL 80) 538
def o543(P:Params):Obj:=cM "_law_start" "_law_start" 907 388 1 540
def XU(_:Params):=Cd "_law_start" (AL 81) 543
def o550(_:Params):=cN "_law_right_step" 913 393 2 545 921
def XS(_:Params):=Cd "_law_right_step" (AL 82) 550
def o557(_:Params):=cN "_law_walk" 924 405 2 552 931
def XR(_:Params):=Cd "_law_walk" (AL 83) 557
def o562(P:Params):Obj:=cM "_law_road" "_law_road" 934 414 2 559
def XQ(_:Params):=Cd "_law_road" (AL 84) 562
def o569(_:Params):=cN "_law_need" 940 425 4 564 954
def XO(_:Params):=Cd "_law_need" (AL 85) 569
def o574(P:Params):Obj:=cM "_law_waits" "_law_waits" 957 435 4 571
def XN(_:Params):=Cd "_law_waits" (AL 86) 574
def o581(_:Params):=cN "_law_good" 963 456 4 576 973
def XM(_:Params):=Cd "_law_good" (AL 87) 581
def o586(P:Params):Obj:=cM "law" "law" 976 464 1 583
def XJ(_:Params):=Cd "law" (AL 88) 586
def cR:List Addr:=[2,3,15,22,23,24,25,28,35,36,37,40,47,48,49,52,59,60,61,64,71,72,73,76,83,84,85,93,94,100,101,102,108,109,115,116,122,123,129,130,136,137,143,144,150,151,155,156,162,163,169,170,171,172,178,179,185,186,190,191,197,198,204,205,209,210,216,217,221,222,228,229,235,236,244,250,251,257,258,264,265,266,267,268,269,270,283,284,290,291,297,298,304,305,311,312,318,319,320,321,322,323,324,330,331,337,338,342,343,349,350,354,355,359,360,364,365,371,372,376,377,381,382,388,389,395,396,402,403,409,410,416,417,421,422,426,427,433,434,440,441,445,446,452,453,459,460,466,467,471,472,478,479,485,486,492,493,497,498,502,503,507,508,512,513,519,520,526,527,533,534,538,539,543,544,550,551,557,558,562,563,569,570,574,575,581,582,586,587]
def Iw(P:Params):Frag:=cR.zipWith (λa o=>(a,o P)) [o2,o3,o15,o22,o23,o24,o25,o28,o35,o36,o37,o40,o47,o48,o49,o52,o59,o60,o61,o64,o71,o72,o73,o76,o83,o84,o85,o93,XI,o100,Y4,Y3,o108,Y2,o115,Y1,o122,Y0,o129,YZ,o136,YY,o143,YX,o150,YW,o155,YV,o162,YU,o169,YT,YS,YR,o178,YQ,o185,YO,o190,YN,o197,YM,o204,YL,o209,YK,o216,YJ,o221,YI,o228,YH,o235,YG,YF,o250,YE,o257,YD,o264,YC,o266,o267,o268,o269,o270,o283,YB,o290,YA,o297,Xz,o304,Xy,o311,Xx,o318,Xw,o320,o321,o322,o323,o324,o330,Xv,o337,Xu,o342,Xs,o349,Xr,o354,Xq,o359,Xp,o364,Xo,o371,Xn,o376,Xm,o381,Xl,o388,Xk,o395,Xj,o402,Xi,o409,Xh,o416,Xg,o421,Xf,o426,Xe,o433,Xd,o440,Xc,o445,Xb,o452,Xa,o459,X9,o466,X8,o471,X7,o478,X6,o485,X5,o492,X4,o497,X3,o502,X2,o507,X1,o512,X0,o519,XZ,o526,XY,o533,XX,o538,XW,o543,XU,o550,XS,o557,XR,o562,XQ,o569,XO,o574,XN,o581,XM,o586,XJ]
def vq:Program:={ pw with main:={ (pw).main with body:=[AL 88] } }
def loo:kE:=["WalkError","NoNumber","BadMachine","TooMany","NoMark","NoRoad","is_whole","greatest_divisor","fraction","at_most","below","number_of","is_open","narrower","unit_of","limits_of","least_values","raise_all","WORDS","STAY_WORDS","is_look","is_number","is_guard","look_bounds","MOST_WATCHES","MOST_ROOMS","MOST_DOORS","is_small_letter","is_name","is_watch_name","is_room_name","is_sign","own_copy","Door","Machine","check_watches","are_unlike","check_rooms","check_doors","are_noughts","placed","nought_places","free_bound","narrowest","is_broken","row_over","MOST_ROAD_DOORS","road_doors","last_room","looked_at","waited_till","road_bounds","road_zone","road_unit","least_times","run_by","run_of","_law_cell_at","_law_stream","_law_names","_law_number","_law_guard","_law_stay","_law_door","_law_machine","_law_made","_law_scale","_law_holds","_law_divisor","_law_plus","_law_step","_law_start","_law_right_step","_law_walk","_law_road","_law_need","_law_waits","_law_good"].map Str.ofString
abbrev hk:Hook:=kHook Iw cR<|λ_=>by ext
def zn7(w:World)(os:OsState):(go pw 4073 w os).map (λs=>Lh pw vq loo (xt QJ.row.toRowW vq) hk.obs (boot_heap w.params) s.abs)=↑(true,openGood vq loo,hk.val w):=by ext
theorem left:LeftO pw vq loo (xt QJ.row.toRowW vq) hk.obs hk.val 8726 true:=zlc 8726 4073 (by ext) (by decide) (λs=>by ext) (by decide) zn7
abbrev fr(w:World):Frag:=Iw w.params
def ca:Str->Value:=λc=>if c="BadMachine" then .ref 49 else if c="TooMany" then .ref 61 else if c="NoMark" then .ref 73 else if c="NoNumber" then .ref 37 else if c="NoRoad" then .ref 85 else if c="WalkError" then .ref 24 else .none
section
variable {w:World}{mg:Str->Option Value}{base:Heap} [q:Qx pw w (fr w) mg base ca]
theorem Fs:Cls (fr w) BP:={by ext,by ext,by ext,by ext}
def HX:∀f∈B0,C4 (fr w) BP f:=(BU (by unfold C4;ext)<|BU (by unfold C4;ext)<|BU (by unfold C4;ext)<|BU (by unfold C4;ext)<|BU (by unfold C4;ext) Ba)
theorem FE:Cls (fr w) Ar:={by ext,by ext,by ext,by ext}
def IU:∀f∈Ax,C4 (fr w) Ar f:=(BU (by unfold C4;ext)<|BU (by unfold C4;ext)<|BU (by unfold C4;ext) Ba)
def yg:specialIn (fr w) (.builtin "object.__class__") "__get__"=↑(↑(.builtin "getset_descriptor.__get__"))/\takesIn (fr w) (.builtin "object.__class__")=↑true:={by ext,by ext}
include q
def zbz:ECls (fr w) mg "BadMachine":=HD yg 49 (q.c _ _<|by ext)<|by ext
def U1:∃T:ECls (fr w) mg "BadMachine",ca "BadMachine"=.ref T.C/\DQ (fr w) T.C=↑none:={zbz,by rfl,by ext}
def zeq:ECls (fr w) mg "TooMany":=HD yg 61 (q.c _ _<|by ext)<|by ext
def zgi:∃T:ECls (fr w) mg "TooMany",ca "TooMany"=.ref T.C/\DQ (fr w) T.C=↑none:={zeq,by rfl,by ext}
def zgk:ECls (fr w) mg "NoMark":=HD yg 73 (q.c _ _<|by ext)<|by ext
def zj0:∃T:ECls (fr w) mg "NoMark",ca "NoMark"=.ref T.C/\DQ (fr w) T.C=↑none:={zgk,by rfl,by ext}
def zdq:ECls (fr w) mg "NoNumber":=HD yg 37 (q.c _ _<|by ext)<|by ext
def zep:∃T:ECls (fr w) mg "NoNumber",ca "NoNumber"=.ref T.C/\DQ (fr w) T.C=↑none:={zdq,by rfl,by ext}
def zgj:ECls (fr w) mg "NoRoad":=HD yg 85 (q.c _ _<|by ext)<|by ext
def ziz:∃T:ECls (fr w) mg "NoRoad",ca "NoRoad"=.ref T.C/\DQ (fr w) T.C=↑none:={zgj,by rfl,by ext}
def D1:=Af X9 460 zdp<|Ag Aa A9 (b:=.all<|Bx λ_ _=>rfl)
def D2:=Af Xu 338 zbx<|Ag Aa A9 (b:=.all<|By λ_=>rfl)
def D3:=Af YL 205 za9<|Ag Aa A9 (b:=.all<|By λ_=>rfl)
def D4:=Af YK 210 zej<|Ag (AW D3 Aa) A9 (b:=.all<|By λ_=>rfl)
def D5:=Af YJ 217 zal<|Ag (AW D4 Aa) A9 (b:=.all<|By λ_=>rfl)
def zax:∃u v,mg "MOST_WATCHES"=↑u/\A7 v u/\∀F:Hp,Rp (fr w) F F M0 v R0:={(.int (7) 440),(.int 7),q.c _ _ (by ext),{_,rfl},λF=>.int _}
def D6:=Af Xv 331 zam<|Ag (AW D5<|AW D2 Aa) (A9 (co:=(Ey zax DZ))) (hex:=(BU U1 Ba)) (b:=.all<|By λ_=>rfl)
def D7:=Af YI 222 zaz<|Ag (AW D3 Aa) A9 (b:=.all<|By λ_=>rfl)
def D8:=Af XI 94 zdk<|Ag Aa A9 (b:=.all<|By λ_=>rfl)
def D9:=Af YO 186 zcu<|Ag (AW D8 Aa) A9 (b:=.all<|By λ_=>rfl)
def D10:=Af YQ 179 zek<|Ag (AW D9 Aa) A9 (b:=.all<|FJ λ_ _ _=>rfl)
def U3:=Af YN 191 zdl<|Ag (AW D10 Aa) A9 (b:=.all<|FJ λ_ _ _=>rfl)
def zbs:∃u v,mg "STAY_WORDS"=↑u/\A7 v u/\∀F:Hp,Rp (fr w) F F MZ v R0:={_,.ref 172,q.c _ (.ref 172) (by ext),rfl,λF=>Ah.of_node (k:=.rt) (xs:=[.str "<",.str "<="]) (.inr {YR w.params,_,_,by ext,rfl,rfl,by decide,(.cons {_,rfl}<|.cons {_,rfl} .nil)})<|QN ["<","<="]}
def D12:=Af Xs 343 zbi<|Ag (AW D7<|AW U3<|AW D2 Aa) (A9 (co:=(Ey zbs DZ))) (hex:=(BU U1 Ba)) (b:=.all<|Bx λ_ _=>rfl)
def D13:=Af Xq 355 zbk<|Ag (AW D5<|AW D2 Aa) A9 (b:=.all<|Bx λ_ _=>rfl)
def D14:=Af YH 229 zeh<|Ag (AW D4 Aa) A9 (b:=.all<|By λ_=>rfl)
def dU:∃u v,mg "WORDS"=↑u/\A7 v u/\∀F:Hp,Rp (fr w) F F Ij v R0:={_,.ref 171,q.c _ (.ref 171) (by ext),rfl,λF=>Ah.of_node (k:=.rt) (xs:=[.str "<",.str "<=",.str ">",.str ">=",.str "="]) (.inr {YS w.params,_,_,by ext,rfl,rfl,by decide,(.cons {_,rfl}<|.cons {_,rfl}<|.cons {_,rfl}<|.cons {_,rfl}<|.cons {_,rfl} .nil)})<|QN ["<","<=",">",">=","="]}
def D15:=Af Xr 350 zbj<|Ag (AW U3<|AW D13<|AW D14 Aa) (A9 (co:=(Ey dU DZ)) (cl:=(BU {(Fs),HX} Ba)) (ci:=(Ey {268,q.c _ _ (by ext),(Ey {{Fs,by ext,by ext,by ext,by ext},by ext}<|Ey {{FE,by ext,by ext,by ext,by ext},by ext} DZ),by ext} DZ))) (hex:=(BU U1 Ba)) (b:=.all<|FJ λ_ _ _=>rfl)
def zbt:∃u v,mg "MOST_ROOMS"=↑u/\A7 v u/\∀F:Hp,Rp (fr w) F F M1 v R0:={(.int (64) 442),(.int 64),q.c _ _ (by ext),{_,rfl},λF=>.int _}
def zbu:∃u v,mg "MOST_DOORS"=↑u/\A7 v u/\∀F:Hp,Rp (fr w) F F M3 v R0:={(.int (200) 444),(.int 200),q.c _ _ (by ext),{_,rfl},λF=>.int _}
def f7:=dF "Machine" Ar Ax YB 284 zb1<|fD (AW D6<|AW D12<|AW D15 Aa) (A9 (co:=(Ey zbt<|Ey zbu DZ)) (sf:=(λC fs h=>by cases h;exact{(FE),IU}))) (hex:=(BU zgi Ba))
theorem E16:C6 (fr w) (f7 (w:=w) (mg:=mg) (base:=base)).fd Sy.ps []:=.all<|Fd λ_ _ _ _=>rfl
def D17:=Af YG 236 zdi<|Ag Aa A9 (b:=.all<|By λ_=>rfl)
def f6:=dF "Door" BP B0 YE 251 zcx<|fD (AW D17 Aa)<|A9 (sf:=(λC fs h=>by cases h;exact{(Fs),HX}))
theorem E18:C6 (fr w) (f6 (w:=w) (mg:=mg) (base:=base)).fd TK.ps []:=λs us X hl=>us6 (P:=λus=>BindsTo s _ {us,[]}<|List.zip _<|us++_) (λ_ _ _ _ _ _=>binds_K X rfl (show(fr w).lookup 244=↑(YF w.params) by ext) rfl rfl rfl) us<|by simpa using hl
def D19:=Af X1 508 zin<|Ag Aa (A9 (nw:=(Y6 {by decide,BP,f6,(Ey {[],[],E18,.nil,λ_=>.nil} DZ)}<|Y6 {by decide,Ar,f7,(Ey {[],[],E16,.nil,λ_=>.nil} DZ)} Y5))) (b:=.all<|By λ_=>rfl)
def D20:=Af X7 472 zg3<|Ag Aa A9 (b:=.all<|Bx λ_ _=>rfl)
def Nq:=Af X8 467 zem<|Ag Aa A9 (b:=.all<|Bx λ_ _=>rfl)
def fZ:=Af X6 479 zen<|Ag Aa A9 (b:=.all<|Bx λ_ _=>rfl)
def fY:=Af X5 486 zg5<|Ag (AW fZ Aa) A9 (b:=.all<|FJ λ_ _ _=>rfl)
def D24:=Af X3 498 ziq<|Ag (AW Nq<|AW fY Aa) A9 (b:=.all<|Fd λ_ _ _ _=>rfl)
def D25:=Af X4 493 zij<|Ag (AW fZ Aa) A9 (b:=.all<|FJ λ_ _ _=>rfl)
def D26:=Af X2 503 zdn<|Ag (AW D1<|AW D20<|AW Nq<|AW D25<|AW D24 Aa) A9 (b:=.all<|By λ_=>rfl)
def fX:=Hl YA 291 zaa FE<|Hn Aa (A9 (cl:=(BU {(FE),IU} Ba))) (b:=.all<|By λ_=>rfl)
def fW:=Hl Xw 319 za2 FE<|Hn Aa (A9 (cl:=(BU {(FE),IU} Ba))) (b:=.all<|Bx λ_ _=>rfl)
def fV:=Af Xp 360 zfz<|Ag (AW U3 Aa) (A9 (co:=(Ey dU DZ)) (mt:=(BU {by decide,{(fX)}}<|BU {by decide,{(fW)}} Ba))) (hex:=(BU zj0 Ba)) (b:=.all<|Bx λ_ _=>rfl)
def fU:=Hl Xz 298 zan FE<|Hn Aa (A9 (cl:=(BU {(FE),IU} Ba))) (b:=.all<|By λ_=>rfl)
def D31:=Hl Xx 312 zb0 FE<|Hn Aa (A9 (cl:=(BU {(FE),IU} Ba))) (b:=.all<|Bx λ_ _=>rfl)
def D32:=Hl Xy 305 zao FE<|Hn Aa (A9 (cl:=(BU {(FE),IU} Ba))) (b:=.all<|By λ_=>rfl)
def D33:=Hl YD 258 zcy Fs<|Hn Aa (A9 (cl:=(BU {(Fs),HX} Ba))) (b:=.all<|By λ_=>rfl)
def D34:=Hl YC 265 zcw Fs<|Hn Aa (A9 (cl:=(BU {(Fs),HX} Ba))) (b:=.all<|By λ_=>rfl)
def Np:=Af Y1 116 zel<|Ag Aa A9 (b:=.all<|By λ_=>rfl)
def D36:=Af Y0 123 zig<|Ag Aa A9 (b:=.all<|By λ_=>rfl)
def D37:=Af YZ 130 zcp<|Ag Aa A9 (b:=.all<|By λ_=>rfl)
def D38:=Af YY 137 zei<|Ag Aa A9 (b:=.all<|By λ_=>rfl)
def fT:=Af YX 144 zdj<|Ag Aa A9 (b:=.all<|Bx λ_ _=>rfl)
def D40:=Af Xn 372 zbw<|Ag (AW Np Aa) A9 (b:=.all<|Bx λ_ _=>rfl)
def D41:=Af Xk 389 zdh<|Ag Aa A9 (b:=.all<|FJ λ_ _ _=>rfl)
def D42:=Af Xl 382 zcv<|Ag (AW Np Aa) A9 (b:=.all<|By λ_=>rfl)
def D43:=Af Xm 377 zcq<|Ag (AW fT<|AW D40<|AW D42<|AW D41 Aa) A9 (b:=.all<|By λ_=>rfl)
def D44:=Af YM 198 zbg<|Ag (AW D36<|AW Np Aa) A9 (b:=.all<|Fd λ_ _ _ _=>rfl)
def D45:=Af Xo 365 zak<|Ag Aa (A9 (mt:=(BU {by decide,{(D34)}}<|BU {by decide,{(fW)}} Ba))) (b:=.all<|Bx λ_ _=>rfl)
def D46:=Af Y4 101 za4<|Ag Aa A9 (b:=.all<|Bx λ_ _=>rfl)
def D47:=Af Y2 109 zdm<|Ag (AW D8<|AW D46 Aa) A9 (hex:=(BU zep Ba)) (b:=λs us X hl=>Bx (P:=λus=>BindsTo s _ {us,[]}<|List.zip _<|us++_) (λ_ _=>binds_K X rfl (show(fr w).lookup 102=↑(Y3 w.params) by ext) rfl rfl rfl) us<|by simpa using hl)
def D48:=dfC YT 170 zco<|ayU Aa A9 (b:=.all<|Bx λ_ _=>rfl)
def D49:=Af YU 163 zay<|Ag Aa A9 (hms:=(zhl (by decide) D48 Jp)) (b:=.all<|Bx λ_ _=>rfl)
def D50:=Af YV 156 zcs<|Ag (AW D37<|AW D38 Aa) A9 (b:=.all<|Bx λ_ _=>rfl)
def D51:=Af YW 151 zeg<|Ag Aa A9 (b:=.all<|Bx λ_ _=>rfl)
def za8:∃u v,mg "MOST_ROAD_DOORS"=↑u/\A7 v u/\∀F:Hp,Rp (fr w) F F Ik v R0:={(.int (200) 690),(.int 200),q.c _ _ (by ext),{_,rfl},λF=>.int _}
def D52:=Af Xj 396 zbv<|Ag (AW D8 Aa) (A9 (co:=(Ey za8 DZ)) (cl:=(BU {(Fs),HX} Ba)) (mt:=(BU {by decide,{(D32)}}<|BU {by decide,{(fU)}} Ba))) (hex:=(BU ziz Ba)) (b:=.all<|Bx λ_ _=>rfl)
def D53:=Af Xi 403 zct<|Ag Aa (A9 (cl:=(BU {(Fs),HX} Ba)) (mt:=(BU {by decide,{(fU)}} Ba))) (b:=.all<|Bx λ_ _=>rfl)
def fS:=Af Xh 410 zcr<|Ag (AW D44 Aa) A9 (b:=.all<|FJ λ_ _ _=>rfl)
def D55:=Af Xg 417 zbe<|Ag (AW fV<|AW Np<|AW fS Aa) (A9 (mt:=(BU {by decide,{(D31)}} Ba))) (b:=.all<|Fd λ_ _ _ _=>rfl)
def fR:=Af Xf 422 zbf<|Ag (AW D52<|AW fV<|AW D55<|AW fS<|AW D45<|AW D53 Aa) (A9 (cl:=(BU {(Fs),HX} Ba)) (mt:=(BU {by decide,{(fX)}}<|BU {by decide,{(D33)}} Ba))) (b:=.all<|FJ λ_ _ _=>rfl)
def fQ:=Af Xd 434 zcn<|Ag (AW D51 Aa) A9 (b:=.all<|Bx λ_ _=>rfl)
def D58:=Af Xc 441 zbh<|Ag (AW fR<|AW D49<|AW D50<|AW fQ Aa) A9 (b:=.all<|Fd λ_ _ _ _=>rfl)
def D59:=Af Xb 446 zfy<|Ag (AW D58<|AW fQ<|AW D47 Aa) A9 (b:=.all<|Fd λ_ _ _ _=>rfl)
def D60:=Af Xa 453 zfx<|Ag (AW D59 Aa) A9 (b:=.all<|FJ λ_ _ _=>rfl)
def D61:=Af Xe 427 zcm<|Ag (AW fR<|AW fT<|AW D43 Aa) A9 (b:=.all<|FJ λ_ _ _=>rfl)
def D62:=Af XQ 563 zik<|Ag Aa A9 (b:=.all<|Bx λ_ _=>rfl)
def D63:=Af XY 527 zdo<|Ag Aa A9 (b:=.all<|Bx λ_ _=>rfl)
def U2:=Af XX 534 zil<|Ag (AW D63 Aa) A9 (b:=.all<|Bx λ_ _=>rfl)
def Nn:=Af XZ 520 zg4<|Ag Aa A9 (b:=.all<|FJ λ_ _ _=>rfl)
def fP:=Af XU 544 zg1<|Ag (AW Nn Aa) A9 (b:=.all<|By λ_=>rfl)
def fN:=Af XW 539 zii<|Ag (AW U2<|AW Nn Aa) A9 (b:=.all<|Fd λ_ _ _ _=>rfl)
def D68:=Af XS 551 zbl<|Ag Aa A9 (b:=.all<|Bx λ_ _=>rfl)
def D69:=Af XR 558 zih<|Ag (AW fP<|AW D68<|AW fN Aa) A9 (b:=.all<|Bx λ_ _=>rfl)
def fM:=Af X0 513 zg2<|Ag Aa A9 (b:=.all<|By λ_=>rfl)
def D71:=Af XO 570 zim<|Ag (AW U2 Aa) A9 (b:=.all<|Fd λ_ _ _ _=>rfl)
def D72:=Af XN 575 zg0<|Ag (AW fM<|AW Nq<|AW D71<|AW U2 Aa) A9 (b:=.all<|Fd λ_ _ _ _=>rfl)
def D73:=Af XM 582 zio<|Ag (AW fP<|AW fN<|AW Nn Aa) A9 (b:=.all<|Fd λ_ _ _ _=>rfl)
def D74:=Af XJ 587 zpz<|Ag (AW D26<|AW D19<|AW D62<|AW fY<|AW Nq<|AW D1<|AW fM<|AW D60<|AW D72<|AW D61<|AW D73<|AW D69<|AW Nn Aa) A9 (b:=.all<|By λ_=>rfl)
end
def all_mk{w:World}{h:Heap}{mg:Str->Option Value}{fa:Addr}(X:(Iw w.params).In h)(G:h.Ns mainGlobals mg)(hfa:mg "law"=↑(.ref fa))
  : ∃fd:FuncData,(∀(s:Shared) (v:Value),BindsTo s fd {[v],[]} [("_law_script",v)])/\∀base:Heap,(Iw w.params).In base->base.Ns mainGlobals mg->FnOk pw w (Iw w.params) mg base LC 11 fa fd ["_law_script"] (Lc<|Iw w.params):=by
 have e:=hfa.symm.trans<|mg_of X G<|show nsIn (fr w) mainGlobals "law"=↑(↑(.ref 587)) by ext
 cases e;refine{gF "law" "law" Lj .none "law_zonewalk_k53_whole_runs_of_roads" 783 586 .none,λs v=>.of_eq rfl,λbase _ _=>?_}
 have q:Qx pw w (fr w) mg base ca:={λ_ _ e=>mg_of X G e,λ_ e=>mg_none_of X G e}
 exact zp7 (D74 (mg:=mg)).ok λns h=>law_true ns h
theorem walk{l:PySem.W.OpenLaw}{q:Program}{loose:kE}{XP:(Str->Option Value)->Heap->Prop}{YP:World->Heap->Prop}{d:DefRec}{K:Params->k6}(hn:l.most=↑63)(hdf:d.params.defaults=[])
  (hY:∀(w:World) (h:Heap),YP w h->(K w.params).In h)
  (F : ∀ (w : World) (mg : Str -> Option Value) (fa : Addr) (h : Heap), (K w.params).In h -> h.Ns mainGlobals mg -> mg d.name = ↑(.ref fa) ->
   ∃fd:FuncData,(∀(s:Shared) (u:Value),BindsTo s fd {[u],[]} [("_law_script",u)])/\∀base:Heap,(K w.params).In base->base.Ns mainGlobals mg->FnOk l.prog w (K w.params) mg base LC 11 fa fd ["_law_script"] (Lc<|K w.params)) :
  PySem.W.WalkO q loose XP YP l.row.toRowW d [] (λf vs=>PySem.call f vs):=
 L2.walk_of (n:=63) (k:=11) (x:="_law_script") (CX:=λ_=>LC) (sp:=λw=>Lc<|K w.params) hn (by decide) hdf {rfl,by decide,by decide} hY F (λ_ _ a ns hl hO hS=>{a,ns,rfl,G0.of hO hS,hl,λ_=>rfl}) λ_ _ _ _ _ z=>z
end Zl
open PySem PySem.W PyProof.Rows
set_option maxRecDepth 100000 in
set_option maxHeartbeats 0 in
theorem PySem.Challenge.cw_zonewalk_k53_whole_runs_of_roads_holds : PySem.Challenge.rw_zonewalk_k53_whole_runs_of_roads.Holds := by
 refine holds_law Zl.said λs=>?_
 refine holds_open (q:=Zl.vq) (loose:=Zl.loo) (Xt:=Hd.xt PySem.Challenge.rw_zonewalk_k53_whole_runs_of_roads.row.toRowW Zl.vq) (XP:=XL Zl.vq []) (Yf:=Zl.hk.obs) (Ya:=Zl.hk.val) (YP:=Zl.hk.says) Zl.left Zl.hk.of Zl.hk.keeps (λs e=>xl_of s (Bool.and_eq_true_iff.mp e).1) XL.keeps (by rfl) (by rfl) (by rfl) (λs e=>recFacts_of (Bool.and_eq_true_iff.mp e).2) (by rfl) s (by decide +kernel) ⟨rfl,rfl,rfl,rfl,rfl,by decide +kernel⟩ ?hw ?hc
 case hw=>w_witness2
 case hc=>exact Zl.walk (l:=PySem.Challenge.rw_zonewalk_k53_whole_runs_of_roads) rfl rfl (λw h Y=>kIn_of Y) λw mg fa h X G e=>Zl.all_mk X G e
end
