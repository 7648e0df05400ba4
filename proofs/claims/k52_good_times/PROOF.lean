import PyProof.Rows.All
import Wide.All
import OpenK.AllK
import Wide.FinOn
import Lean
import PyProof.EqAt
import PyProof.EqKinds
import PyProof.TupleCall
import PySem.Challenge.RW_zonewalk_k52_good_times
set_option compiler.extract_closed false
set_option bootstrap.genMatcherCode false
set_option linter.all false
set_option tactic.hygienic false
def Á:=@List.getElem?_eq_getElem
def À:=@List.length_map
def Ä:=@Bool.and_eq_true
def Ð:=@List.getElem?_eq_some_iff
def È:=@List.getElem?_map
def Ì:=@List.mem_cons_of_mem
def Ö:=@List.getD_eq_getElem?_getD
def Ñ:=@PySem.Heap.get?_push_of_some
def Í:=@List.mem_cons_self
def Æ:=@PySem.Heap.lt_size
def Ø:=@Option.map_eq_some_iff
def Ï:=@List.getElem_mem
def Ç:=@Nat.le_refl
def Ô:=@List.mem_singleton
def Î:=@List.mem_cons
def ß:=@List.mem_append_right
def Ú:=@List.all_eq_true
def Ý:=@Nat.lt_of_lt_of_le
def Þ:=@List.length_cons
def à:=@List.length_append
def Õ:=@List.map_cons
def á:=@Int.toNat_natCast
def Ò:=@List.mem_map
def Ó:=@Nat.ne_of_lt
def ã:=@List.getElem?_set_ne
def Ü:=@Option.some.inj
def é:=@List.getElem?_set_self
def ä:=@PySem.Heap.get?_push_size
def Û:=@Nat.le_trans
def ì:=@List.mem_of_getElem?
def â:=@List.map_append
def Ë:=@Ne.symm
def ô:=@List.drop_eq_getElem_cons
def ç:=@List.lookup_cons
def å:=@List.mem_append
def î:=@List.mem_append_left
def ò:=@List.contains_iff_mem
def è:=@List.mem_range
def æ:=@Nat.lt_irrefl
def ÿ:=@List.getElem?_append_left
def Ĝ:=@List.exists_cons_of_length_eq_add_one
def ó:=@List.size_toArray
def õ:=@Bool.false_ne_true
def Ā:=@Int.fmod_nonneg_of_pos
def ĝ:=@List.findIdx?_eq_some_iff_getElem
def ï:=@PySem.W.kia_one
def ā:=@List.getElem?_eq_none
def Ć:=@PySem.Heap.get?_update_other
def Ğ:=@PyProof.Rows.callWith_type1
def ć:=@Bool.or_eq_false_iff
def ğ:=@List.getElem?_append_right
def ð:=@Nat.succ.inj
def Ġ:=@Int.mul_neg_of_neg_of_pos
def Ă:=@List.length_take
def Ĉ:=@Int.fmod_lt_of_pos
def ĉ:=@List.not_mem_nil
def ö:=@Int.mul_assoc
def Ċ:=@List.length_range
def ċ:=@List.append_nil
def Č:=@List.length_nil
def č:=@Option.map_some
def Ē:=@PySem.mem_of_lookup
def ø:=@Int.mul_comm
def į:=@Array.getElem?_eq_some_iff
def ă:=@PySem.Heap.size_push
def ġ:=@Bool.false_eq_true
def ù:=@Nat.zero_le
def Ď:=@Bool.or_eq_true
def û:=@List.map_map
def ē:=@Int.mul_left_comm
def Ŀ:=@List.getElem?_cons_succ
def Ģ:=@PySem.W.hideAll_get
def Ĕ:=@Nat.lt_succ_self
def ü:=@Int.mul_pos
def İ:=@List.take_of_length_le
def ı:=@List.length_singleton
def ģ:=@Nat.lt_succ_of_lt
def Ĥ:=@List.append_assoc
def ŀ:=@Array.getElem?_eq_getElem
def ĥ:=@List.getElem_inj
def Ł:=@Option.isSome_iff_exists
def Ħ:=@Nat.le_add_right
def ł:=@PySem.F.slot_str_getitem
def Ń:=@Option.bind_eq_some_iff
def Ĳ:=@PySem.W.of_hideAll
def ĳ:=@List.mem_filterMap
def Ĵ:=@List.zip_cons_cons
def ď:=@Nat.le_succ
def ń:=@PyProof.Rows.boot_list
def Ņ:=@PySem.Heap.get?_update_self
def ĕ:=@Int.zero_mul
def ņ:=@List.mem_iff_getElem
def ĵ:=@Option.bind_some
def Ķ:=@List.getElem_map
def Ŝ:=@Int.fdiv_eq_ediv_of_nonneg
def ŝ:=@Int.eq_of_mul_eq_mul_right
def Ė:=@Int.sub_mul
def Ň:=@List.map_congr_left
def ň:=@List.mem_map_of_mem
def ķ:=@List.mem_filter
def ĸ:=@List.nodup_cons
def Ĺ:=@Int.emod_two_eq
def ħ:=@Int.le_of_lt
def Ĩ:=@Nat.le_of_lt
def ŉ:=@PySem.W.callWith_K
def Ŋ:=@PySem.Obj.data_mapFields
def ŋ:=@List.getElem?_drop
def ĩ:=@PySem.F.called_set
def Ş:=@List.take_append_getElem
def Ī:=@Int.ofNat_lt
def Ō:=@Nat.add_sub_cancel
def ş:=@List.getElem?_replicate
def Š:=@PySem.F.plainAttrs_list
def š:=@PyProof.Rows.F.plain_set_update_loop
def ō:=@Bool.not_eq_true'
def Ţ:=@PyProof.V.reads_dictOf
def ţ:=@PySem.SeqAt.notIn_list_reads
def Ŏ:=@List.length_drop
def Ť:=@List.length_replicate
def ť:=@PySem.Obj.isFreed_of_fields
def ĺ:=@Nat.lt_trans
def Ŧ:=@PySem.W.hideAll_none
def ŧ:=@List.length_set
def Ũ:=@List.nil_append
def ŏ:=@Bool.eq_iff_iff
def ž:=@Int.mul_le_mul_of_nonneg_right
def Ő:=@List.map_nil
def ũ:=@PySem.W.plainGet_of
def Ū:=@PySem.SeqAt.in_list_reads
def ū:=@List.getElem?_range
def Ŭ:=@Bool.false_and
def ŭ:=@Int.lt_of_le_of_lt
def Ů:=@Option.isSome_some
def ů:=@PySem.F.called_enumerate
def Ű:=@List.findIdx?_cons
def ő:=@PySem.Paired.length
def ű:=@Bool.and_true
def Ų:=@PySem.W.kitx_list
def ų:=@PySem.W.kitx_dict
def ſ:=@Option.some.injEq
def Ŵ:=@Int.lt_trichotomy
def Œ:=@Int.lt_or_le
def Α:=@List.cons_append
def ŵ:=@List.any_eq_true
def œ:=@PySem.Txt.slice_le
def Ŷ:=@List.take_length
def Ŕ:=@Nat.add_comm
def ŷ:=@Option.getD_some
def Ÿ:=@List.mem_flatMap
def Ù:=@decide_eq_false
def ê:=@PySem.wpAny_mono
def Ą:=@PySem.wpAny_truthy_bool
def ŕ:=@PySem.wpAny_execs_nil
def Ź:=@PyProof.Rows.assignInOrder_cons
def Â:=@PySem.wpAny_bind
def ú:=@PySem.wpAny_holding
def ī:=@PySem.wpAny_standAt
def Ê:=@PySem.wpAny_pure
def ź:=@PySem.wpAny_newObj_type
def ė:=@PySem.wpAny_passesOwn
def Ĭ:=@PySem.wpAny_pyIter_list
def Ę:=@PySem.sizeLine_eq
def ę:=@PySem.wpAny_call
def ý:=@PySem.codeAny_mono
def ĭ:=@PySem.wpAny_Call_Name_kw
def Į:=@PySem.typeIs_str
def Å:=@if_true
def Ļ:=@PySem.call_meets
def É:=@decide_eq_true
def Ŗ:=@PySem.wpAny_setField
def Đ:=@PySem.wpAny_field
def đ:=@beq_iff_eq
def ë:=@decide_eq_true_eq
def Ż:=@PySem.wpAny_pyIter_enum
def Ě:=@or_false
def í:=@beq_self_eq_true
def ŗ:=@PySem.pushCells_keeps
def ñ:=@of_decide_eq_true
def Ã:=@if_false
def Ř:=@PySem.wpAny_loadPart'
def ř:=@PySem.codeAny_builtin
def ż:=@PySem.codeAny_call_builtin
def ě:=@PySem.wpAny_of_eq
def þ:=@PySem.wpAny_ite_false
def Ž:=@PySem.wpAny_isInstance
def Ś:=@PySem.wpAny_getItem_str_slice
def ś:=@PySem.post_val_or_str
def ļ:=@beq_eq_false_iff_ne
def ą:=@eq_false
def Ľ:=@decide_true
def ľ:=@decide_false
noncomputable section
abbrev k7:=List<|PySem.Str×List Int
abbrev k8:=List<|Nat×Nat
abbrev k9:=List PySem.Value
abbrev kA:=Option Int
abbrev kC:=List PySem.Expr
abbrev kD:=List PySem.Stmt
abbrev kE:=List PySem.Str
abbrev kF:=List Int
abbrev kG:=List Nat
local macro_rules|`(tactic|ext)=>`(tactic|kernel_rfl)
local macro_rules|`(tactic|change $e = $x)=>`(tactic|generalize $e = $(⟨x.raw⟩):ident at *)
set_option hygiene false
local macro_rules|`(tactic|symm)=>`(tactic|exact q.elim)
set_option hygiene true
def rcp:Nat->Lean.Syntax->Lean.MacroM (Lean.TSyntax `rcasesPat)
 |n+1,t=>do if t.getKind==`Lean.Parser.Term.tuple then let l<-((t[1][0]::t[1][2].getSepArgs.toList).toArray.mapM (rcp n));`(rcasesPat|⟨$l,*⟩) else if t.isIdent then `(rcasesPat|$(⟨t⟩):ident) else `(rcasesPat|_)
 |ϊ,ϋ=>Lean.Macro.throwUnsupported
theorem hld{g:Prop}(h:∀G:Prop,(g->G)->G):g:=h g id
local macro_rules
  |`(tactic|let $p:term $[:$t]? := $e)=>do
    if p.raw.getKind != `Lean.Parser.Term.tuple then Lean.Macro.throwUnsupported
    let q<-rcp 20 p.raw
    if p.raw[1][2].getSepArgs.size>1 then `(tactic|(refine hld fun G k=>?_;obtain $q:rcasesPat $[:$t]? := $e;refine k ?_;try clear k G)) else `(tactic|obtain $q:rcasesPat $[:$t]? := $e)
local macro_rules(kind:=Lean.Parser.Command.declaration)|s=>do
  let d:=s[1];let k:=d.getKind;let m:=s[0];let t:=s.setArg 1 (d.setArg 0 (.atom .none d[0].getAtomVal))
  if m[4].getNumArgs != 0||(d[0].getHeadInfo matches .none) then Lean.Macro.throwUnsupported
  if k==`Lean.Parser.Command.definition&&(d[3][1].getKind==`Lean.Parser.Term.byTactic||[`«term_=_»,`«term_∧_»,`«term_∨_»,`«term∃_,_»,`«term_≤_»,`«term_<_»,`«term_<->_»,`«term_↔_»,`«term_≠_»,`«term_∈_»,`Lean.Parser.Term.forall].contains d[2][1][0][1].getKind) then return s.setArg 1 (.node .none `Lean.Parser.Command.theorem #[.atom .none "theorem",d[1],.node .none `Lean.Parser.Command.declSig #[d[2][0],d[2][1][0]],d[3]])
  else if k==`Lean.Parser.Command.definition||k==`Lean.Parser.Command.abbrev then return t.setArg 0 (m.setArg 4 (Lean.mkNullNode #[.node .none `Lean.Parser.Command.noncomputable #[.atom .none "noncomputable"]]))
  else if k==`Lean.Parser.Command.theorem then return t else Lean.Macro.throwUnsupported
local macro_rules|`({$x:term,*})=>`(⟨$x,*⟩)
local macro_rules|`(↑$x:term)=>`(some $x)
local macro_rules|`(tactic|erw [$rs,*] $[$l:location]?)=>do let ts:=rs.getElems.map fun r=>(⟨r.raw[1]⟩:Lean.TSyntax `term);`(tactic|simp only [$[$ts:term],*] $[$l]?)
abbrev k6:=PySem.W.Frag
set_option Elab.async false
set_option linter.all false
set_option maxRecDepth 100000
set_option genSizeOf false
set_option genInjectivity false
local macro_rules
  |`(tactic| lia)=>`(tactic| first
    |assumption
    |exact Û (by assumption) (by decide +kernel)
    |exact Ý (by assumption) (by decide +kernel)
    |exact Nat.lt_of_le_of_lt (by assumption) (by decide +kernel)
    |exact Nat.succ_pos _
    |exact Ý (by assumption) (Nat.succ_le_succ (Û (by assumption) (by decide +kernel)))
    |exact Nat.succ_le_succ (Û (by assumption) (by decide +kernel))
    |exact ĺ (by assumption) (by assumption)
    |exact Ý (by assumption) (by assumption)
    |exact Int.lt_trans (b:=0) (by decide +kernel) (by assumption)
    |exact Int.lt_of_lt_of_le (b:=0) (by decide +kernel) (by assumption)
    |exact ŭ (by assumption) (by decide +kernel)
    |exact Int.le_trans (by assumption) (by decide +kernel)
    |exact ħ (by assumption)
    |exact Int.ne_of_gt (by assumption)
    |lia +clean
    |fail)
def Zl.said:PySem.Challenge.rw_zonewalk_k52_good_times.wellSaid=true:=(congrFun PySem.W.Fast.te9446332074065402090 _).trans<|by ext
namespace L2
open PySem PySem.Spec PyProof.Rows
abbrev Key:=Sum Int Str
def Gf:Key->Value->Bool
 |.inl k,v=>Value.isInt k v|.inr x,v=>Value.isStrOf x v
def keyH(w:World):Key->Int
 |.inl k=>hashInt k|.inr x=>hashStr w x
def FX:∀{k} {v},Gf k v=true->(∃i t,k=Sum.inl i/\v=Value.int i t)\/(∃x t,k=Sum.inr x/\v=Value.str x t)
 |.inl i,v,h=>by
  let(t,e):=Value.isInt_shape h;grind
 |.inr x,v,h=>by
  let(t,e):=Value.isStrOf_shape h;grind
def Β(i)(t):Gf (.inl i) (.int i t)=true:=by simp[Gf,Value.isInt]
def Δ(x)(t):Gf (.inr x) (.str x t)=true:=by simp[Gf,Value.isStrOf]
def Ε(a b:Int):decide ((Sum.inl a:Key)=Sum.inl b)=(a == b):=by
 grind
def Ζ(a b:Str):decide ((Sum.inr a:Key)=Sum.inr b)=decide (a=b):=by
 simp
def Η(a:Int)(b:Str):decide (Sum.inl a=Sum.inr b)=false:=Ù<|λq=>nomatch q
def Θ(a:Str)(b:Int):decide (Sum.inr a=Sum.inl b)=false:=Ù<|λq=>nomatch q
def DY(prog:Program)(w:World):PySem.KeyKind prog w Key where
 is:=Gf
 hash:=keyH w
 inj:=λv a b g f=>by
  rcases FX g with ⟨i,t,rfl,rfl⟩|⟨x,t,rfl,rfl⟩;rcases FX f with ⟨j,u,rfl,e⟩|⟨y,u,rfl,e⟩;injection e with c _;rw[c];exact nomatch e;rcases FX f with ⟨j,u,rfl,e⟩|⟨y,u,rfl,e⟩;exact nomatch e;injection e with c _;rw[c]
 byValue:=λk v h=>by
  rcases FX h with ⟨i,t,rfl,rfl⟩|⟨x,t,rfl,rfl⟩<;>rfl
 pyHash:=λd h=>by
  rcases FX d with ⟨i,t,rfl,rfl⟩|⟨x,t,rfl,rfl⟩;exact wpAny_pyHash_int h;exact wpAny_pyHash_str h
 eqBool:=λl d h=>by
  rcases FX l with ⟨i,t,rfl,rfl⟩|⟨x,t,rfl,rfl⟩;rcases FX d with ⟨j,u,rfl,rfl⟩|⟨y,u,rfl,rfl⟩;rw[Ε]at h;exact wpAny_eqBool_int h;rw[Η]at h;exact SeqAt.EqAt.int_str i t y u _ _ _ _ h;rcases FX d with ⟨j,u,rfl,rfl⟩|⟨y,u,rfl,rfl⟩;rw[Θ]at h;exact SeqAt.EqAt.str_int x t j u _ _ _ _ h;rw[Ζ]at h;exact wpAny_eqBool_str h
 «strs»:=λk x t v h=>by
  rcases FX h with ⟨i,u,rfl,e⟩|⟨y,u,rfl,e⟩;exact nomatch e;injection e with c _;subst c;cases v<;>rfl
def Ι(prog)(w)(i)(t):(DY prog w).is (.inl i) (.int i t)=true:=Β i t
def Κ(prog)(w)(x)(t):(DY prog w).is (.inr x) (.str x t)=true:=Δ x t
set_option genInjectivity true in
inductive V where
 |non|bl (b:Bool)|int (i:Int)|str (x:Str)|byt (b:Array UInt8)|flt (b:UInt64)|ref (a:Addr)|ty (n:String)
 deriving DecidableEq
abbrev kK:=List V
def A6:V->Value->Prop
 |.non,u=>u=Value.none|.bl b,u=>u=Value.bool b|.int i,u=>∃t,u=Value.int i t|.str x,u=>∃t,u=Value.str x t|.byt b,u=>∃t,u=Value.bytes b t|.flt b,u=>∃t,u=Value.float b t|.ref a,u=>u=Value.ref a|.ty n,u=>u=Value.type n
abbrev A4:kK->k9->Prop:=Paired A6
def A4.length(r:A4 xs us):xs.length=us.length:=ő r
def A4.get:∀{xs} {us} {i:Nat} {x},A4 xs us->xs[i]?=↑x->∃u,us[i]?=↑u/\A6 x u
 |_,_,_,_,.nil,e=>by simp at e|_,_,0,_,.cons r _,e=>by grind|_,_,i+1,x,.cons _ t,e=>by
  let(u,a,b):=A4.get t<|by simpa using e
  grind
def A4.set(r:A6 x u):∀{xs} {us} (i),A4 xs us->A4 (xs.set i x) (us.set i u)
 |_,_,_,.nil=>.nil|_,_,0,.cons _ t=>.cons r t|_,_,i+1,.cons q t=>.cons q<|A4.set r i t
def A4.append:∀{xs ys} {us ws},A4 xs us->A4 ys ws->A4 (xs++ys) (us++ws)
 |_,_,_,_,.nil,s=>s|_,_,_,_,.cons r t,s=>.cons r<|A4.append t s
def A4.take:∀{xs} {us} (n),A4 xs us->A4 (xs.take n) (us.take n)
 |_,_,0,_=>.nil|_,_,_+1,.nil=>.nil|_,_,n+1,.cons r t=>.cons r<|A4.take n t
def A4.drop:∀{xs} {us} (n),A4 xs us->A4 (xs.drop n) (us.drop n)
 |_,_,0,r=>r|_,_,_+1,.nil=>.nil|_,_,n+1,.cons _ t=>A4.drop n t
def A4.none_of:∀{i:Nat},A4 xs us->xs[i]?=none->us[i]?=none:=λr e=>by
 have a:=r.length;grind
def Dh:Option V->Option Value->Prop
 |some v,↑u=>A6 v u|none,none=>True|ϊ,ϋ=>False
def KV{κ:Type}:List (κ×V)->List (κ×Value)->Prop:=Paired λ(p:κ×V) (q:κ×Value)=>p.1=q.1/\A6 p.2 q.2
def kV:Key->V
 |.inl i=>.int i|.inr x=>.str x
set_option genInjectivity true in
inductive HO where
 |lst (xs:List V)
 |tup (xs:List V)
 |dK (kvs:List<|Key×V)|dT (kvs:List<|List Key×V)
 |set (S:Int->Bool) (n:Nat)
 |ins (C dx:Addr) (fs:List<|Str×V)
 |own (x:Addr)
 |xd (fs:List<|Str×V)
 |met (f x:Addr)
 |rng (lo hi:Int)
 |frz (o:Obj) (u:HO)
 |tbl (ps:Array Value)
 |ext (φ:Heap->Prop)
abbrev Hp:=Addr->Option HO
def upd(H:Hp)(a:Addr)(o:HO):Hp:=λb=>if b=a then ↑o else H b
def Ce{H:Hp}{a:Addr}{o:HO}:upd H a o a=↑o:=by unfold upd;simp
def As(h:b≠a):upd H a o b=H b:=by unfold upd;rw[if_neg h]
def ne_of{H:Hp}   (h:H a=↑o)(c:H b=↑u)(d:o≠u):a≠b:=by
 grind
def Cz{H:Hp}(h:H a=↑o)(c:H b=none):a≠b:=by
 grind
section
variable (P:Program)(w:World)
def Cp(H:Hp)(h:Heap)(a:Addr):HO->Prop
 |.lst xs=>xs.length<=sizeLine/\∃(b:k9) (n:Nat),A4 xs b/\h.get? a=↑{ cls:=.type "list",data:=.seq b.toArray n }|.tup xs=>xs.length<=sizeLine/\∃b:k9,A4 xs b/\IsTup h a b.toArray|.dK c=>c.length<=sizeLine/\(a == sysModules)=false/\∃k,KV c k/\h.DictOf (DY P w) a k|.dT c=>c.length<=sizeLine/\(a == sysModules)=false/\∃xs:List (List Key×Addr×Value),
   Paired (λ(p:List Key×V) (q:List Key×Addr×Value)=>p.1=q.1/\H q.2.1=↑(.tup<|p.1.map kV)/\A6 p.2 q.2.2) c xs /\
   ∃o g l,h.get? a=↑o/\o.ExactDict/\o.data=.dict g l/\g.toList=xs.map (entryOfKey<|tupleKind<|DY P w)/\(xs.map (·.1)).Nodup
 |.set S n=>h.SetOf (intKind P w) a S n|.ins C e fs=>H e=↑(.own a)/\fs.length<=1000/\e≠a/\h.get? a=↑(W.instObj C e) /\
   ∃d,h.Ns1 e d/\(∀f,Dh (fs.lookup f)<|d f)/\PySem.Within d (fs.map (·.1))
 |.own ϊ=>∃o,h.get? a=↑o|.xd fs=>∃d,h.Ns1 a d/\∀f,Dh (fs.lookup f) (d f)|.rng r m=>∃t u v,h.get? a=↑{ cls:=.type "range",data:=.fields #[.int r t,.int m u,.int 1 v] }|.frz o u=>h.get? a=↑o/\Cp H h a u|.tbl ps=>h.get? a=↑{ cls:=.none,data:=.fields ps }|.met f x=>h.get? a=↑(W.methodObj (.ref f)<|.ref x)|.ext φ=>φ h/\(∃o,h.get? a=↑o)/\∀i j:Heap,φ i->(∀o,i.get? a=↑o->j.get? a=↑o)->φ j
def HOk(H:Hp)(h:Heap):Prop:=∀a o,H a=↑o->Cp P w H h a o
end
section
variable {P:Program}{w:World}{H H':Hp}{h h':Heap}{a:Addr}{o:HO}
def Cp.lt(x:Cp P w H h a o):a<h.objs.size:=by
 cases o with
 |lst xs=>let(_,_,_,_,e):=x;exact Æ e
 |tup xs=>let(_,_,_,p):=x;exact p.lt
 |dK b=>let(_,_,_,_,o,_,_,e,_):=x;exact Æ e
 |dT b=>let(_,_,_,_,o,_,_,e,_):=x;exact Æ e
 |set S n=>let(o,_,_,_,e,_):=x;exact Æ e
 |ins C c fs=>let(_,_,_,e,_):=x;exact Æ e
 |own y=>let(_,e):=x;exact Æ e
 |xd fs=>let(_,(_,_,_,e,_),_):=x;exact Æ e
 |rng g d=>let(_,_,_,e):=x;exact Æ e
 |frz ob u=>let(e,_):=x;exact Æ e
 |tbl ps=>exact Æ (x)|met f y=>exact Æ (x)|ext φ=>let(_,(_,e),_):=x;exact Æ e
def Paired.mapP:∀{l₁:List α} {l₂:List β},Paired F l₁ l₂->(∀a b,F a b->G a b)->Paired G l₁ l₂
 |_,_,.nil,_=>.nil|_,_,.cons r t,f=>.cons (f _ _ r)<|Paired.mapP t f
def Cp.stay(x:Cp P w H h a o)(k:∀b u,(b=a\/H b=↑(.own a))->h.get? b=↑u->h'.get? b=↑u)
  (B:∀b,H b=↑(.own a)->H' b=↑(.own a)) (D:∀b xs,H b=↑(.tup xs)->H' b=↑(.tup xs)):Cp P w H' h' a o:=by
 induction o with
 |lst xs=>let(z,j,n,r,e):=x;exact{z,j,n,r,k _ _ (.inl rfl) e}
 |tup xs=>let(z,j,r,ob,e,c):=x;exact{z,j,r,ob,k _ _ (.inl rfl) e,c}
 |dK l=>let(z,y,F,r,ob,i,g,e,c):=x;exact{z,y,F,r,ob,i,g,k _ _ (.inl rfl) e,c}
 |dT l=>let(z,y,xs,r,ob,i,g,e,c):=x;exact{z,y,xs,Paired.mapP r λp q z=>{z.1,D _ _ z.2.1,z.2.2},ob,i,g,k _ _ (.inl rfl) e,c}
 |set S n=>let(ob,i,g,t,e,c):=x;exact{ob,i,g,t,k _ _ (.inl rfl) e,c}
 |ins C G fs=>let(d,z,ne,e,m,(s,i,g,A,c),r):=x;exact{B _ d,z,ne,k _ _ (.inl rfl) e,m,{s,i,g,k _ _ (.inr d) A,c},r}
 |own y=>let(ob,e):=x;exact{ob,k _ _ (.inl rfl) e}
 |xd fs=>let(m,(s,i,g,e,c),r):=x;exact{m,{s,i,g,k _ _ (.inl rfl) e,c},r}
 |rng J I=>let(t,u,v,e):=x;exact{t,u,v,k _ _ (.inl rfl) e}
 |frz ob u E=>let(e,q):=x;exact{k _ _ (.inl rfl) e,E q}
 |tbl ps=>have e :=x;exact k a _ (.inl rfl) e|met f y=>have e :=x;exact k a _ (.inl rfl) e|ext φ=>let(p,(o,e),st):=x;exact{st _ _ p λo q=>k _ _ (.inl rfl) q,{o,k _ _ (.inl rfl) e},st}
def HOk.lt(x:HOk P w H h)(e:H a=↑o):a<h.objs.size:=(x a o e).lt
def HOk.fresh(x:HOk P w H h)(e:h.objs.size<=a):H a=none:=by
 cases q:H a with
 |none=>rfl|some u=>exact absurd (Ý (x.lt q) e)<|æ _
theorem HOk.kept(x:HOk P w H h)(k:∀b u,h.get? b=↑u->h'.get? b=↑u):HOk P w H h':=λa o e=>
 (x a o e).stay (λb u ϊ q=>k b u q) (λϊ q=>q) λϊ ϊ q=>q
theorem HOk.laid(x:HOk P w H h)(k:∀b u,h.get? b=↑u->h'.get? b=↑u)(g:h.objs.size<=a)(new:Cp P w (upd H a o) h' a o):HOk P w (upd H a o) h':=λb u e=>by
 have f:=x.fresh g;by_cases d:b=a;subst d;rw[Ce]at e;grind;rw[As d]at e;exact(x b u e).stay (λc v ϊ q=>k c v q) (λc q=>by rw[As<|Cz q f];exact q) λc xs q=>by rw[As<|Cz q f];exact q
end
def Rd(H:Hp)(a:Addr)(u:HO):Prop:=H a=↑u\/∃o,H a=↑(.frz o u)
theorem Rd.of{H:Hp}{a:Addr}{u:HO}(h:H a=↑u):Rd H a u:=.inl h
def Rd.ok(r:Rd H a u)(x:HOk P w H h):Cp P w H h a u:=by
 rcases r with r|⟨o,r⟩;exact x a u r;let(_,q):=x a _ r;exact q
def Km:Option HO->Prop
 |some (.lst ϊ)=>True|some (.dK ϊ)=>True|some (.dT ϊ)=>True|some (.set ϊ ϋ)=>True|some (.ins ϊ ϋ ό)=>True|some (.ext ϊ)=>True|ϊ=>False
section
variable {P:Program}{w:World}{H:Hp}{h h':Heap}{x e:Addr}{o':HO}
theorem HOk.write(ok:HOk P w H h)(mu:Km<|H x)(n:e=x\/H e=↑(.own x))(k:∀b u,b≠e->h.get? b=↑u->h'.get? b=↑u)(g:∃u,h'.get? e=↑u)
  (new:Cp P w (upd H x o') h' x o'):HOk P w (upd H x o') h':=λb u q=>by
 have a:∀c y,H c=↑(.own y)->c≠x:=λc y r z=>by subst z;rw[r]at mu;exact mu
 have d:∀c xs,H c=↑(.tup xs)->c≠x:=λc xs r z=>by subst z;rw[r]at mu;exact mu
 by_cases i:b=x;subst i;rw[Ce]at q;cases q;exact new;rw[As i]at q;by_cases f:b=e
 have j:H b=↑(.own x):=by
  grind
 rw[q]at j;cases j;let(v,l):=g;exact{v,by rw[f];exact l}
 refine(ok b u q).stay (λc v m r=>k c v ?_ r) (λc r=>by rw[As<|a c b r];exact r) λc xs r=>by rw[As<|d c xs r];exact r
 grind
end
structure Un(fs ex:List Addr)(H H':Hp)(h h':Heap):Prop where
 keep:∀b o,h.get? b=↑o->H b=none->b∉fs->b∉ex->h'.get? b=↑o
 slot:∀b o,h.get? b=↑o->H b=none->b∈fs->b∉ex->∃sl,h'.get? b=↑{ o with slots:=sl }
 free:∀b o,h.get? b=↑o->H b=none->b∉ex->H' b=none
 there:∀b o,h.get? b=↑o->b∉ex->∃o',h'.get? b=↑o'
 tups:∀b xs,H b=↑(.tup xs)->H' b=↑(.tup xs)
 frzs:∀b o u,H b=↑(.frz o u)->H' b=↑(.frz o u)
 tbls:∀b ps,H b=↑(.tbl ps)->∃more,H' b=↑(.tbl<|ps++more)
section
variable {fs fs' ex ex':List Addr}{H H1 H2:Hp}{h h1 h2 h':Heap}{a x e:Addr}{o:HO}
def Un.any(u:Un fs ex H H1 h h1)(q:h.get? b=↑ob)(n:H b=none)(c:b∉ex):∃sl,h1.get? b=↑{ ob with slots:=sl}:=by
 by_cases a:b∈fs;exact u.slot b ob q n a c;exact{ob.slots,u.keep b ob q n a c}
theorem Un.trans(a:Un fs ex H H1 h h1)(b:Un fs ex H1 H2 h1 h2):Un fs ex H H2 h h2 where
 keep:=λc ob q n f d=>b.keep c ob (a.keep c ob q n f d) (a.free c ob q n d) f d
 slot:=λc ob q n f d=>by
  let(k,e):=a.slot c ob q n f d;let(j,i):=b.slot c _ e (a.free c ob q n d) f d
  grind
 free:=λc ob q n d=>by
  let(g,e):=a.there c ob q d;exact b.free c g e (a.free c ob q n d) d
 there:=λc ob q d=>by
  let(g,e):=a.there c ob q d;exact b.there c g e d
 tups:=λc xs q=>b.tups c xs (a.tups c xs q)
 frzs:=λc ob xs q=>b.frzs c ob xs (a.frzs c ob xs q)
 tbls:=λc ps q=>by
  let(m1,e):=a.tbls c ps q;let(m2,i):=b.tbls c _ e
  grind
theorem Un.kept(k:∀b u,h.get? b=↑u->h'.get? b=↑u):Un fs ex H H h h':=
 {λb ob q ϊ ϊ ϊ=>k b ob q,λb ob q ϊ ϊ ϊ=>{ob.slots,k b ob q},λϊ ϊ ϊ n ϊ=>n,λb ob q ϊ=>{ob,k b ob q},λϊ ϊ q=>q,λϊ ϊ ϊ q=>q,λϊ ps q=>{#[],by rw[q];simp}}
theorem Un.refl:Un fs ex H H h h:=Un.kept λϊ ϊ q=>q
theorem Un.laid(k:∀b u,h.get? b=↑u->h'.get? b=↑u)(d:h.objs.size<=a)(c:H a=none):Un fs ex H (upd H a o) h h' where
 keep:=λb u q ϊ ϊ ϊ=>k b u q
 slot:=λb u q ϊ ϊ ϊ=>{u.slots,k b u q}
 free:=λb u q n ϊ=>by rw[As<|Ó<|Ý (Æ q) d];exact n
 there:=λb u q ϊ=>{u,k b u q}
 tups:=λb xs q=>by rw[As<|Cz q c];exact q
 frzs:=λb u xs q=>by rw[As<|Cz q c];exact q
 tbls:=λb ps q=>{#[],by rw[As<|Cz q c,q];simp}
def Un.write(mu:Km<|H x)(g:e=x\/H e=↑(.own x))(k:∀b u,b≠e->h.get? b=↑u->h'.get? b=↑u)(d:∃u,h'.get? e=↑u):Un fs ex H (upd H x o) h h':=by
 have f:∀b,H b=none->b≠x:=λb n z=>by subst z;rw[n]at mu;exact mu
 have c:∀b,H b=none->b≠e:=λb n z=>by
  grind
 have a:∀b u,H b=↑u->¬ Km ↑u->b≠x:=λb u q nm z=>by grind
 refine{λb u q n ϊ ϊ=>k b u (c b n) q,λb u q n ϊ ϊ=>{u.slots,k b u (c b n) q},λb u q n ϊ=>by rw[As<|f b n];exact n,λb u q ϊ=>?_,
  λb xs q=>by rw[As<|a b _ q λz=>z];exact q,λb u xs q=>by rw[As<|a b _ q λz=>z];exact q,λb ps q=>{#[],by rw[As<|a b _ q λz=>z,q];simp}}
 grind
theorem Un.mono(u:Un fs ex H H1 h h1)(e:∀b∈fs,b∈fs')(c:∀b∈ex,b∈ex'):Un fs' ex' H H1 h h1:=
 {λb ob q n d a=>u.keep b ob q n (λz=>d<|e b z) λz=>a<|c b z,λϊ ϊ q n ϊ a=>u.any q n λz=>a<|c _ z,λb ob q n a=>u.free b ob q n λz=>a<|c b z,λb ob q a=>u.there b ob q λz=>a<|c b z,u.tups,u.frzs,u.tbls}
end
def LM(h:Heap)(H:Hp):List Addr:=(List.range h.objs.size).filter λa=>(H a).isSome
def Gi(h:Heap)(H:Hp):Heap:=W.hideAll h<|LM h H
def Λ(h)(H):(Gi h H).objs.size=h.objs.size:=W.hideAll_size _ _
def Μ(e:h.get? b=↑o)(n:H b=none):(Gi h H).get? b=↑o:=
 Ģ _ e λa=>by
  have q :=(ķ.mp a).2;grind
def Ν(e:(Gi h H).get? b=↑o):h.get? b=↑o/\H b=none:=by
 have a :=Ĳ (LM h H) e;refine{a,?_};cases q:H b with
 |none=>rfl|some x=>
  have c:b∈LM h H:=ķ.mpr {è.mpr<|Æ a,by simp[q]};have z:(Gi h H).get? b=none:=Ŧ (LM h H) c;grind
def Ξ(g h:Heap)(L:Addr):List<|Addr×Obj:=(List.range h.objs.size).filterMap λa=>if a=L\/(g.get? a).isSome=true then none else (h.get? a).map λo=>(a,o)
def Ba(g h:Heap)(L d:Addr):List<|Addr×Obj:=(Ξ g h L).filter λp=>decide (p.1≠d)
structure Mod(K:k6)(mg:Str->Option Value)(base:Heap):Prop where
 kin:K.In base
 glob:base.Ns mainGlobals mg
 blt:∃mb,base.Ns builtinsNs mb/\∀x:Str,x≠"__name__"->mb x=bootBuiltins x
 nolimit:base.NoLimit
structure Cx where
 prog:Program
 w:World
 K:k6
 mg:Str->Option Value
 base:Heap
 A:Around
 N:kE
 s₀:Shared
 H₀:Hp
 env:Env
 outer:List Env
 stack:List Env
 ex:List Addr
 fn:Str->Bool
 calm:Bool
 pn:List (Addr×Obj)
 xe:Value->Shared->Prop
def Bd(l:List Env):List Addr:=l.filterMap (·.frame)
abbrev Cx.fs(X:Cx):List Addr:=Bd X.outer
def E5(a:Scope)(x:Str):Prop:=a.names.lookup x=↑.local\/a.names.lookup x=↑.cell\/a.names.lookup x=↑.free
def Gu(a:Scope)(x:Str):Prop:=a.names.lookup x=↑.local\/a.names.lookup x=↑.cell
def Look(env:Env)(h:Heap)(m:Str->Option Value)(x:Str)(u:Value):Prop:=
 (env.kindOf x=↑.local/\m x=↑u)\/((env.kindOf x=↑.cell\/env.kindOf x=↑.free)/\∃c,env.cells.lookup x=↑c/\h.IsCell c ↑u)
structure Cx.Ok(X:Cx):Prop where
 mod:Mod X.K X.mg X.base
 kind:X.env.scope.kind=.function
 glob:X.env.globals=mainGlobals
 blt:X.env.builtins=builtinsNs
 above:X.s₀.heap.objs.size<=X.env.locals
 inj:∀x y c,X.env.cells.lookup x=↑c->X.env.cells.lookup y=↑c->x=y
 has:∀x,(X.env.kindOf x=↑.cell\/X.env.kindOf x=↑.free)->∃c,X.env.cells.lookup x=↑c
 cab:∀x c,X.fn x=true->X.env.cells.lookup x=↑c->X.s₀.heap.objs.size<=c
 hd:X.calm=true->X.A.handled=none
 frames:X.A.frames=↑X.stack
 stk:X.stack=X.outer\/(X.stack=X.env::X.outer/\X.env.frame=↑X.env.locals)
 exf:∀b∈X.ex,b≠X.env.locals/\∀x c,X.env.cells.lookup x=↑c->c≠b
 bs:∀b o,X.base.get? b=↑o->X.s₀.heap.get? b=↑o/\X.H₀ b=none
 bsz:X.base.objs.size<=X.s₀.heap.objs.size
 noex:∀b o,X.base.get? b=↑o->b∉X.ex
 exfs:∀b∈X.ex,b∉X.fs
 funs:X.s₀.heap.FunFrames X.base X.outer
 frf:∀b∈X.fs,X.H₀ b=none
structure Inv(X:Cx)(pz:List<|Addr×Obj)(O:List<|Option V)(H:Hp)(s:Shared):Prop where
 ok:X.Ok
 os:s.os=X.s₀.os
 bare:AllBare s.gens
 base:Un X.fs X.ex X.H₀ H X.s₀.heap s.heap
 loc:∃m,s.heap.Ns X.env.locals m/\∀(i:Nat) (x:Str) (v:V),X.N[i]?=↑x->O[i]?=↑↑v->E5 X.env.scope x->∃u,A6 v u/\Look X.env s.heap m x u
 cell:∀x c,X.env.cells.lookup x=↑c->∃v,s.heap.IsCell c v
 free:H X.env.locals=none
 freeC:∀x c,X.env.cells.lookup x=↑c->H c=none
 pin:∀p∈X.pn++pz,s.heap.get? p.1=↑p.2/\H p.1=none/\p.1≠X.env.locals/\p.1∉X.fs/\∀v,p.2.data≠.cell v
 hok:HOk X.prog X.w H s.heap
 len:O.length=X.N.length
section
variable {X:Cx}{pz:List<|Addr×Obj}{O:List<|Option V}{H H':Hp}{s:Shared}{h':Heap}
theorem Cx.Ok.nofr(ok:X.Ok)(e:X.base.get? b=↑o):b∉X.fs:=λa=>by
 have:=(ok.funs.mem a).1;grind
def Inv.bs(I:Inv X pz O H s):∀b o,X.base.get? b=↑o->s.heap.get? b=↑o/\H b=none:=λb o e=>
 {I.base.keep b o (I.ok.bs b o e).1 (I.ok.bs b o e).2 (I.ok.nofr e) (I.ok.noex b o e),I.base.free b o (I.ok.bs b o e).1 (I.ok.bs b o e).2 (I.ok.noex b o e)}
def Inv.bk(I:Inv X pz O H s):∀b o,X.base.get? b=↑o->s.heap.get? b=↑o:=λb o e=>(I.bs b o e).1
theorem Inv.mod(I:Inv X pz O H s):Mod X.K X.mg X.base:=I.ok.mod
theorem Inv.kIn(I:Inv X pz O H s):X.K.In s.heap:=I.ok.mod.kin.keeps I.bk
theorem Inv.nolimit(I:Inv X pz O H s):s.heap.NoLimit:=I.ok.mod.nolimit.keeps I.bk
def Inv.fr(I:Inv X pz O H s):∃m,Fr X.base X.env.locals s.heap m:=
 let ⟨m,hn,_⟩:=I.loc
 {m,hn,I.bk,Û I.ok.bsz I.ok.above}
def Inv.lt(I:Inv X pz O H s):X.env.locals<s.heap.objs.size:=let ⟨_,hn,_⟩:=I.loc;hn.lt
def Inv.sz(I:Inv X pz O H s):X.s₀.heap.objs.size<=s.heap.objs.size:=Û I.ok.above<|Ĩ I.lt
theorem Inv.nofs(I:Inv X pz O H s){a:Addr}(h:s.heap.objs.size<=a):a∉X.fs:=λb=>by
 let(_,o,c,_):=I.ok.funs.mem b;exact absurd (Ý (Æ c)<|Û I.sz h)<|æ _
def Inv.cne(I:Inv X pz O H s):∀x c,X.env.cells.lookup x=↑c->c≠X.env.locals:=λx c e z=>by
 let(v,o,g,hd):=I.cell x c e;let(m,(h,f,d,b,a,_),_):=I.loc
 grind
def Inv.funs(I:Inv X pz O H s):s.heap.FunFrames X.base X.outer:=by
 have all:∀(l ),(∀b∈Bd l,b∈X.fs)->X.s₀.heap.FunFrames X.base l->s.heap.FunFrames X.base l:=by
  intro l
  induction l with
  |nil=>intro _ _;trivial|cons env r k=>
   intro f g;let(hk,(L,o,d,h,i,hd),j):=g;have a :=f L (by unfold Bd;grind)
   let(m,e):=I.base.slot L o i (I.ok.frf L a) a λz=>I.ok.exfs L z a;exact{hk,{L,_,d,h,e,hd},k (λb c=>f b (by unfold Bd;rw[List.filterMap_cons,d];exact Ì _ c)) j}
 exact all X.outer (λϊ c=>c) I.ok.funs
def Inv.stack(I:Inv X pz O H s):s.heap.FunFrames X.base X.stack:=by
 rcases I.ok.stk with e|⟨e,a⟩;rw[e];exact I.funs;rw[e];let(m,b,_):=I.loc;refine .cons (by rw[I.ok.kind];decide) a b ?_ I.funs
 exact Heap.get?_none_of_le<|Û I.ok.bsz I.ok.above
def Inv.stkSub(I:Inv X pz O H s):∀b∈Bd X.stack,b∈X.env.locals::X.fs:=λb a=>by
 rcases I.ok.stk with e|⟨e,c⟩;grind;rw[e]at a;unfold Bd at a;rw[List.filterMap_cons,c]at a;exact a
def Inv.stkFree(I:Inv X pz O H s):∀b∈Bd X.stack,H b=none:=λb a=>by
 rcases Î.mp (I.stkSub b a) with e|a;rw[e];exact I.free;let(_,o,c,_):=I.ok.funs.mem a;exact I.base.free b o c (I.ok.frf b a) λz=>I.ok.exfs b z a
def Inv.step{t':Nat}{d':Drawn}{ch:List Addr}(I:Inv X pz O H s)
  (g:∀b∈ch,(b∈X.ex\/X.s₀.heap.objs.size<=b)/\b≠X.env.locals/\(∀x c,X.env.cells.lookup x=↑c->c≠b)/\∀p∈X.pn++pz,p.1≠b)
  (keep:∀b o,b≠X.env.locals->b∉X.fs->b∉ch->s.heap.get? b=↑o->H b=none->h'.get? b=↑o)
  (slot:∀b o,b≠X.env.locals->b∈X.fs->b∉ch->s.heap.get? b=↑o->H b=none->∃sl,h'.get? b=↑{ o with slots:=sl }) (free:∀b o,b∉ch->s.heap.get? b=↑o->H b=none->H' b=none)
  (there:∀b o,b∉ch->s.heap.get? b=↑o->∃o',h'.get? b=↑o')
  (tups:∀b xs,H b=↑(.tup xs)->H' b=↑(.tup xs)) (frzs:∀b o u,H b=↑(.frz o u)->H' b=↑(.frz o u)) (tbls:∀b ps,H b=↑(.tbl ps)->∃more,H' b=↑(.tbl<|ps++more))
  (ns:∀m,s.heap.Ns X.env.locals m->h'.Ns X.env.locals m) (hok:HOk X.prog X.w H' h') (G:AllBare g') :
  Inv X pz O H' { s with heap:=h',gens:=g',drawn:=d',toks:=t' }:=by
 have B:∀b o,X.s₀.heap.get? b=↑o->b≠X.env.locals:=λb o e=>Ó<|Ý (Æ e) I.ok.above
 have t:∀b o,X.s₀.heap.get? b=↑o->b∉X.ex->b∉ch:=λb o e a w=>by
  rcases(g b w).1 with z|z;exact a z;exact absurd (Ý (Æ e) z)<|æ _
 have f:∀x c,X.env.cells.lookup x=↑c->∀v,s.heap.IsCell c v->h'.IsCell c v:=λx c e v ⟨o,y,hd⟩=>by
  have h :=λz=>(g c z).2.2.1 x c e rfl;by_cases D:c∈X.fs;let(sl,q):=slot c o (I.cne x c e) D h y<|I.freeC x c e;exact{_,q,hd}
  exact{o,keep c o (I.cne x c e) D h y<|I.freeC x c e,hd}
 refine{I.ok,I.os,G,{λb o e n w a=>?_,λb o e n w a=>?_,λb o e n a=>?_,λb o e a=>?_,λb xs e=>tups b xs<|I.base.tups b xs e,λb o xs e=>frzs b o xs<|I.base.frzs b o xs e,λb ps e=>?_},?_,λx c e=>?_,?_,λx c e=>?_,λp E=>?_,hok,I.len};exact keep b o (B b o e) w (t b o e a) (I.base.keep b o e n w a)<|I.base.free b o e n a
 let(sl,j):=I.base.slot b o e n w a;let(C,A):=slot b _ (B b o e) w (t b o e a) j<|I.base.free b o e n a;exact{(C),A}
 let(o',j):=I.base.there b o e a;exact free b o' (t b o e a) j<|I.base.free b o e n a
 let(o',j):=I.base.there b o e a;exact there b o' (t b o e a) j;let(m1,j):=I.base.tbls b ps e;let(m2,A):=tbls b _ j;exact{m1++m2,by rw[A,Array.append_assoc]}
 let(m,K,J):=I.loc;refine{m,ns m K,λi x v j A F=>?_};let(u,r,l):=J i x v j A F;refine{u,r,?_};rcases l with l|⟨k,c,e,z⟩;exact .inl l;exact .inr {k,c,e,f x c e _ z};let(v,z):=I.cell x c e;exact{v,f x c e v z};let(m,(o,_,_,y,_),_):=I.loc;exact free _ o (λz=>(g _ z).2.1 rfl) y I.free;let(v,o,y,hd):=I.cell x c e;exact free c o (λz=>(g c z).2.2.1 x c e rfl) y<|I.freeC x c e
 let(e,n,ne,nf,d):=I.pin p E;have h :=λz=>(g p.1 z).2.2.2 p E rfl
 exact{keep p.1 p.2 ne nf h e n,free p.1 p.2 h e n,ne,nf,d}
def Inv.un(I:Inv X pz O H s)(u:Un X.fs [] H H' s.heap h')(hok:HOk X.prog X.w H' h'):Inv X pz O H' { s with heap:=h',toks:=t' }:=by
 let(m,(o,l,k,g,r),_):=id I.loc;let(t,h):=u.any g I.free<|by simp
 exact I.step (ch:=[]) (λϊ z=>nomatch z) (λb o ϊ f ϊ e n=>u.keep b o e n f<|by simp) (λb o ϊ f ϊ e n=>u.slot b o e n f<|by simp) (λb o ϊ e n=>u.free b o e n<|by simp) (λb o ϊ e=>u.there b o e<|by simp) u.tups u.frzs u.tbls (λp i=>by
  let(q,d,c,a,j):=i;rw[g]at a;cases a;exact{_,d,c,h,j}) hok I.bare
def Inv.call(I:Inv X pz O H s)(u:Un (Bd X.stack) ch H H' s.heap h')(hok:HOk X.prog X.w H' h')(l:AllBare g')
  (d:∀b∈ch,(b∈X.ex\/X.s₀.heap.objs.size<=b)/\b≠X.env.locals/\(∀x c,X.env.cells.lookup x=↑c->c≠b)/\∀p∈X.pn++pz,p.1≠b) :
  Inv X pz O H' { s with heap:=h',gens:=g',drawn:=d',toks:=t' }:=by
 let(m,(o,w,v,j,r),_):=id I.loc;let(B,i):=u.any j I.free λz=>(d _ z).2.1 rfl
 exact I.step d (λb o i k a e n=>u.keep b o e n (λz=>(Î.mp<|I.stkSub b z).elim i k) a) (λb o ϊ ϊ a e n=>u.any e n a) (λb o a e n=>u.free b o e n a) (λb o a e=>u.there b o e a) u.tups u.frzs u.tbls (λy q=>by
  let(A,h,g,f,t):=q;rw[j]at f;cases f;exact{_,h,g,i,t}) hok l
def Inv.turned(I:Inv X pz O H s)(k:∀b o,b≠it->s.heap.get? b=↑o->h'.get? b=↑o)(y:H it=none)(g:it≠X.env.locals)
  (j:it∈X.ex\/X.s₀.heap.objs.size<=it) (l:∀x c,X.env.cells.lookup x=↑c->c≠it) (t:∀p∈X.pn++pz,p.1≠it):Inv X pz O H { s with heap:=h',toks:=t' }:=by
 refine I.step (ch:=[it]) (λb w=>?_) (λb o ϊ ϊ a e ϊ=>k b o (λz=>a<|by simp[z]) e) (λb o ϊ ϊ a e ϊ=>{o.slots,k b o (λz=>a<|by simp[z]) e}) (λϊ ϊ ϊ ϊ n=>n)
  (λb o a e=>{o,k b o (λz=>a<|by simp[z]) e}) (λϊ ϊ e=>e) (λϊ ϊ ϊ e=>e) (λb ps e=>{#[],by rw[e];simp}) (λm h=>?_) (λb u e=>?_) I.bare
 grind;let(o,f,d,i,r):=h;exact{o,f,d,k _ o (Ë g) i,r};refine(I.hok b u e).stay (λc v a q=>k c v ?_ q) (λϊ q=>q) λϊ ϊ q=>q;grind
theorem Inv.tok(I:Inv X pz O H s)(t):Inv X pz O H { s with toks:=t}:=I.un Un.refl I.hok
theorem Inv.kept(I:Inv X pz O H s)(k:∀b u,s.heap.get? b=↑u->h'.get? b=↑u):Inv X pz O H { s with heap:=h',toks:=t' }:=I.un (Un.kept k)<|I.hok.kept k
theorem Inv.laid{a:Addr}   (I:Inv X pz O H s)(k:∀b u,s.heap.get? b=↑u->h'.get? b=↑u)(c:s.heap.objs.size<=a)(new:Cp X.prog X.w (upd H a o) h' a o) :
  Inv X pz O (upd H a o) { s with heap:=h',toks:=t' }:=I.un (Un.laid k c<|I.hok.fresh c)<|I.hok.laid k c new
theorem Inv.write(I:Inv X pz O H s)(mu:Km<|H x)(c:e=x\/H e=↑(.own x))(k:∀b u,b≠e->s.heap.get? b=↑u->h'.get? b=↑u)(a:∃u,h'.get? e=↑u)
  (new:Cp X.prog X.w (upd H x o) h' x o):Inv X pz O (upd H x o) { s with heap:=h',toks:=t' }:=I.un (Un.write mu c k a)<|I.hok.write mu c k a new
theorem Inv.weak(I:Inv X pz O H s)(d:O'.length=O.length)(w:∀(i:Nat) v,O'[i]?=↑↑v->O[i]?=↑↑v):Inv X pz O' H s:=
 {I.ok,I.os,I.bare,I.base,let ⟨m,hn,hl'⟩:=I.loc;{m,hn,λi x v a b c=>hl' i x v a (w i v b) c},I.cell,I.free,I.freeC,I.pin,I.hok,d.trans I.len}
theorem Inv.pins_of(I:Inv X pz O H s)(h:∀p∈pins',s.heap.get? p.1=↑p.2/\H p.1=none/\p.1≠X.env.locals/\p.1∉X.fs/\∀v,p.2.data≠.cell v):Inv X pins' O H s:=
 {I.ok,I.os,I.bare,I.base,I.loc,I.cell,I.free,I.freeC,λp a=>(å.mp a).elim (λz=>I.pin p<|î _ z) (h p),I.hok,I.len}
def XW{N:kE}(e:N.Nodup){i j:Nat}(a:N[i]?=↑x)(b:N[j]?=↑x):i=j:=by
 let(f,c):=Ð.mp a;let(g,d):=Ð.mp b;exact(ĥ e).mp (c.trans d.symm)
def U4(I:Inv X pz O H s)(hN:X.N.Nodup)(R:X.N[i]?=↑x)(w:Gu X.env.scope x)(r:A6 v u)
  (h:∀s',Inv X pz (O.set i ↑v) H s'->(∃a,Heap.SameBut a s.heap s'.heap/\(a=X.env.locals\/X.env.cells.lookup x=↑a))->Q () s') (hf:X.fn x=true\/X.env.scope.names.lookup x=↑.local:=by first|exact .inl rfl|exact .inr rfl|assumption):wpAny M A (storeName X.env x u) Q E s:=by
 let(m,Y,hl):=id I.loc;have P:(X.env.scope.kind == .class || (X.env.scope.kind == .module && X.env.locals != X.env.globals))=false:=by rw[I.ok.kind];rfl
 have D:i<O.length:=by rw[I.len];exact(Ð.mp R).1
 have cne:=I.cne
 have l:∀{a } {K },(∃o,s.heap.get? a=↑o/\H a=none)->Heap.SameBut a s.heap K->HOk X.prog X.w H K:=fun  ha f b ob e=>by
  let(_,_,B):=ha;refine(I.hok b ob e).stay (λc V t q=>(f.2 c ?_).trans q) (λϊ q=>q) λϊ ϊ q=>q;rintro rfl;rcases t with rfl|t;rw[B]at e;cases e;rw[B]at t;cases t
 rcases w with hk|hk;refine wpAny_storeName_local hk Y (λK Z f=>?_) P;let(oL,_,_,hoL,_):=id Y;refine h _ {I.ok,I.os,I.bare,{λb o e n F w=>?_,λb o e n F w=>?_,I.base.free,λb o e w=>?_,I.base.tups,I.base.frzs,I.base.tbls},{_,Z,λj y v' g C W=>?_},λy c e=>?_,I.free,I.freeC,λp hp=>?_,l {(oL),hoL,I.free} f,by simpa using I.len} {_,f,.inl rfl};exact(f.2 b<|Ó<|Ý (Æ e) I.ok.above).trans (I.base.keep b o e n F w);let(sl,g):=I.base.slot b o e n F w;exact{sl,(f.2 b<|Ó<|Ý (Æ e) I.ok.above).trans g};let(o',g):=I.base.there b o e w;exact{o',(f.2 b<|Ó<|Ý (Æ e) I.ok.above).trans g};by_cases J:j=i;subst J;rw[R]at g;cases g;rw[é D]at C;cases C;exact{u,r,.inl {hk,by simp}};rw[ã<|Ë J]at C;let(u',r',q):=hl j y v' g C W;refine{u',r',?_}
 rcases q with ⟨k,e⟩|⟨k,c,e,z⟩;refine .inl {k,?_};have:y≠x:=λe=>J<|XW hN g<|e▸R
 simp[this,e];exact .inr {k,c,e,z.sameBut f<|cne y c e};let(V,z):=I.cell y c e;exact{V,z.sameBut f<|cne y c e};let(e,n,ne,nf,d):=I.pin p hp;exact{(f.2 p.1 ne).trans e,n,ne,nf,d}
 have G:X.fn x=true:=by
  rcases hf with z|z;exact z;rw[z]at hk;cases hk
 let(c,t):=I.ok.has x<|.inl hk;let(V,z):=I.cell x c t;refine wpAny_storeName_cell I.ok.kind hk t z<|λK L f=>?_
 let(oc,S,T):=id z;refine h { s with heap:=K } {I.ok,I.os,I.bare,{λb o e n F w=>?_,λb o e n F w=>?_,I.base.free,λb o e w=>?_,I.base.tups,I.base.frzs,I.base.tbls},{m,Y.sameBut f<|Ë<|cne x c t,λj y v' g C W=>?_},λy U e=>?_,I.free,I.freeC,λp hp=>?_,l {oc,S,I.freeC x c t} f,by simpa using I.len} {c,f,.inr t};exact(f.2 b<|Ó<|Ý (Æ e)<|I.ok.cab x c G t).trans (I.base.keep b o e n F w);let(sl,g):=I.base.slot b o e n F w;exact{sl,(f.2 b<|Ó<|Ý (Æ e)<|I.ok.cab x c G t).trans g};let(o',g):=I.base.there b o e w;exact{o',(f.2 b<|Ó<|Ý (Æ e)<|I.ok.cab x c G t).trans g};by_cases J:j=i;subst J;rw[R]at g;cases g;rw[é D]at C;cases C;exact{u,r,.inr {.inl hk,c,t,L}};rw[ã<|Ë J]at C;let(u',r',q):=hl j y v' g C W;refine{u',r',?_}
 rcases q with q|⟨k,U,e,z'⟩;exact .inl q;refine .inr {k,U,e,z'.sameBut f ?_};rintro rfl;exact J<|XW hN g<|I.ok.inj _ _ _ e t▸R
 by_cases N:U=c;subst N;exact{_,L};let(w2,z2):=I.cell y U e;exact{w2,z2.sameBut f N};let(e,n,ne,nf,d):=I.pin p hp;refine{(f.2 p.1 ?_).trans e,n,ne,nf,d};intro q;rw[q,S]at e;have q' :=Ü e;exact d V (by rw[<- q'];exact T)
theorem LV(I:Inv X pz O H s)(b:X.N.Nodup)(d:X.N[i]?=↑x)(e:Gu X.env.scope x)(r:A6 v u)
  (h:∀s',Inv X pz (O.set i ↑v) H s'->Q () s') (c:X.fn x=true\/X.env.scope.names.lookup x=↑.local):wpAny M A (storeName X.env x u) Q E s:=
 U4 I b d e r (λs' a ϊ=>h s' a) c
def Inv.call'(I:Inv X pz O H s)(f:s'.os=s.os)(u:Un (Bd X.stack) ch H H' s.heap s'.heap)(hok:HOk X.prog X.w H' s'.heap)(d:AllBare s'.gens)
  (a:∀b∈ch,(b∈X.ex\/X.s₀.heap.objs.size<=b)/\b≠X.env.locals/\(∀x c,X.env.cells.lookup x=↑c->c≠b)/\∀p∈X.pn++pz,p.1≠b):Inv X pz O H' s':=by
 let(i,h,g,k,j):=s';have e :=f;subst e;exact I.call u hok d a
end
abbrev XK:=Value->Option Addr->Hp->Prop
abbrev St:=List<|Option V
abbrev VK:=V->Hp->Prop
abbrev TE:=St->Hp->VK->Prop
abbrev TT:=St->Hp->(Bool->Hp->Prop)->Prop
abbrev TA:=St->Hp->(kK->Hp->Prop)->Prop
structure Ends where
 nx:St->Hp->Prop
 rt:VK
 bk:St->Hp->Prop:=λϊ ϊ=>False
 ct:St->Hp->Prop:=λϊ ϊ=>False
abbrev TS:=Ends->St->Hp->Prop
def EP(X:Cx)(b:List<|Addr×Obj)(O:St)(Q:VK)(u:Value)(s':Shared):Prop:=∃v a,Inv X b O a s'/\A6 v u/\Q v a
def TP(X:Cx)(c:List<|Addr×Obj)(O:St)(Q:Bool->Hp->Prop)(b:Bool)(s':Shared):Prop:=∃a,Inv X c O a s'/\Q b a
def AP(X:Cx)(c:List<|Addr×Obj)(O:St)(Q:kK->Hp->Prop)(us:k9)(s':Shared):Prop:=∃b a,Inv X c O a s'/\A4 b us/\Q b a
def SP(X:Cx)(c:List<|Addr×Obj)(D:Ends)(f:Flow)(s':Shared):Prop:=
 match f with
 |.next=>∃b a,Inv X c b a s'/\D.nx b a|.brk=>∃b a,Inv X c b a s'/\D.bk b a|.cont=>∃b a,Inv X c b a s'/\D.ct b a|.ret u=>∃v b a,Inv X c b a s'/\A6 v u/\D.rt v a
def PE(X:Cx)(e:Expr)(t:TE):Prop:=
 ∀(a:List<|Addr×Obj) (s:Shared) (O:St) (H:Hp) (Q:VK),Inv X a O H s->t O H Q->wpAny (model X.prog X.w) X.A (eval e X.env) (EP X a O Q) X.xe s
def PT(X:Cx)(e:Expr)(t:TT):Prop:=
 ∀(a:List<|Addr×Obj) (s:Shared) (O:St) (H:Hp) (Q:Bool->Hp->Prop),Inv X a O H s->t O H Q->wpAny (model X.prog X.w) X.A (isTrue e X.env<|eval e X.env) (TP X a O Q) X.xe s
def PW(X:Cx)(e:Expr)(t:TT):Prop:=
 ∀(a:Sem Value) (b:List<|Addr×Obj) (s:Shared) (O:St) (H:Hp) (Q:Bool->Hp->Prop),Inv X b O H s->t O H Q->wpAny (model X.prog X.w) X.A (isTrue e X.env a) (TP X b O Q) X.xe s
theorem PW.pt{X:Cx}{e:Expr}{t:TT}(h:PW X e t):PT X e t:=h _
def PA(X:Cx)(es:kC)(t:TA):Prop:=
 ∀(a:Pos) (b:List<|Addr×Obj) (s:Shared) (O:St) (H:Hp) (Q:kK->Hp->Prop),Inv X b O H s->t O H Q->wpAny (model X.prog X.w) X.A (spliced<|backTo a<|starEach es X.env) (AP X b O Q) X.xe s
def PS(X:Cx)(st:Stmt)(t:TS):Prop:=
 ∀(a:List<|Addr×Obj) (s:Shared) (O:St) (H:Hp) (D:Ends),Inv X a O H s->t D O H->wpAny (model X.prog X.w) X.A (exec st X.env) (SP X a D) X.xe s
def B9(X:Cx)(st:kD)(t:TS):Prop:=
 ∀(a:List<|Addr×Obj) (s:Shared) (O:St) (H:Hp) (D:Ends),Inv X a O H s->t D O H->wpAny (model X.prog X.w) X.A (execs st X.env) (SP X a D) X.xe s
theorem AZ{t:Sem α}      (h:wpAny M A t Q E s)(b:∀a s,Q a s->Q' a s):wpAny M A t Q' E s:=ê h b λϊ ϊ x=>x
section
variable {X:Cx}
def Ny(i:Nat):TE:=λO H Q=>∃v,O[i]?=↑↑v/\Q v H
def tC(v:V):TE:=λϊ H Q=>Q v H
def G1{pos}(f:X.N[i]?=↑x)(n:E5 X.env.scope x)(hd:(x == "__debug__")=false)(b:(x == "__classdict__")=false):PE X (.Name x pos)<|Ny i:=by
 intro o s O H Q I h;let(v,e,h):=h;let(m,k,g):=I.loc;let(u,r,l):=g i x v f e n;have BD:EP X o O Q u s:={(v),H,I,r,h}
 rcases l with ⟨hk,j⟩|⟨hk,c,d,a⟩;exact wpAny_Name (wpAny_loadName_local I.ok.kind hk k j BD) hd;rcases hk with hk|hk;exact wpAny_Name (wpAny_loadName_cell I.ok.kind hk d a BD) hd;exact wpAny_Name (wpAny_loadName_free I.ok.kind hk d a BD b) hd
theorem Ο:PE X (.Constant (.int i) j pos)<|tC<|.int i:=λϊ ϊ ϊ H ϊ I h=>wpAny_Constant_int {.int i,H,I.tok _,{_,rfl},h}
theorem pe_bl:PE X (.Constant (.bool b) j pos)<|tC<|.bl b:=λϊ ϊ ϊ H ϊ I h=>Constant_bool {.bl b,H,I,rfl,h}
theorem Ρ:PE X (.Constant .none j pos)<|tC .non:=λϊ ϊ ϊ H ϊ I h=>Constant_none {.non,H,I,rfl,h}
theorem Τ:PE X (.Constant (.str x) j pos)<|tC<|.str x:=λϊ ϊ ϊ H ϊ I h=>Calls.Constant_str {.str x,H,I.tok _,{_,rfl},h}
def Gl(X:Cx)(x:Str):Prop:=X.env.kindOf x=↑.globalImplicit
theorem Jt{O:St}(I:Inv X pz O H s)(a:Gl X x)(b:X.mg x=↑u)(h:Q u s)
  (hd:(x == "__debug__")=false):wpAny (model X.prog X.w) X.A (eval (.Name x pos) X.env) Q E s:=
 Calls.Name_function_global I.ok.kind a (Calls.loadGlobal_global (by rw[I.ok.glob];exact I.mod.glob.keeps I.bk) b h) hd
def GD{E}{O:St}{pos}(I:Inv X pz O H s)(c:Gl X x)(d:X.mg x=none)(f:bootBuiltins x=↑u)(h:Q u s)
  (e:x≠"__name__":=by decide) (hd:(x == "__debug__")=false:=by decide):wpAny (model X.prog X.w) X.A (eval (.Name x pos) X.env) Q E s:=by
 let(g,a,b):=I.mod.blt;exact Calls.Name_function_global I.ok.kind c (Calls.loadGlobal_builtin (by rw[I.ok.glob];exact I.mod.glob.keeps I.bk) d (by rw[I.ok.blt];exact a.keeps I.bk) ((b x e).trans f) h) hd
theorem Ve(a:Gl X x)(b:X.mg x=↑u)(r:A6 v u)(hd:(x == "__debug__")=false):PE X (.Name x pos)<|tC v:=
 λϊ ϊ ϊ H ϊ I h=>Jt I a b {(v),H,I,r,h} hd
theorem Υ{x:Str}{v:V}{u:Value}{pos:Pos}(a:Gl X x)(b:X.mg x=none)(d:bootBuiltins x=↑u)(r:A6 v u)(c:x≠"__name__")(hd:(x == ("__debug__":Str))=false):PE X (.Name x pos)<|tC v:=
 λϊ ϊ ϊ H ϊ I h=>GD I a b d {(v),H,I,r,h} c hd
variable {a b:Expr}{ta tb:TE}{pos:Pos}
def tB(t:TE):TT:=λO H Q=>t O H λx a=>∃c,x=.bl c/\Q c a
def Φ(h:PE X e t)(c:∀whole,isTrue e X.env whole=(do let v <- whole;standAt e.pos;holding [v] (truthy v))):PT X e<|tB t:=by
 intro g s O H Q I f;refine isTrue_plain (AZ (h g s O H _ I f) λv s1 j=>?_)<|c _
 let(x,a,b,r1,i):=j;let(d,rfl,q):=i;cases r1;exact Ą {(a),b,q}
variable {tA tB':TT}{Ba:kC}
def tAnd(t u:TT):TT:=λO H Q=>t O H λc a=>if c=true then u O a Q else Q false a
def tOr(t u:TT):TT:=λO H Q=>t O H λc a=>if c=true then Q true a else u O a Q
def UM(t:TT):TT:=λO H Q=>t O H λc a=>Q (!c) a
def Χ(b:PT X a tA):PW X (.BoolOp .And [a] pos) tA:=by
 intro f d s O H Q I h;refine isTrue_and<|AZ (b d s O H Q I h) λc s1 e=>?_
 cases c with
 |true=>exact isTrue_and_nil e|false=>exact e
def Ψ(b:PT X a tA):PW X (.BoolOp .Or [a] pos) tA:=by
 intro f d s O H Q I h;refine isTrue_or<|AZ (b d s O H Q I h) λc s1 e=>?_
 cases c with
 |false=>exact isTrue_or_nil e|true=>exact e
def Ω(i:PT X a tA)(j:PW X (.BoolOp .And (b::Ba) pos) tB'):PW X (.BoolOp .And (a::b::Ba) pos)<|tAnd tA tB':=by
 intro k f s O H Q I h;refine isTrue_and<|AZ (i f s O H _ I h) λc s1 l=>?_
 let(d,e,g):=l;cases c with
 |true=>exact j k f s1 O d Q e g|false=>exact{(d),e,g}
def pw_or(i:PT X a tA)(j:PW X (.BoolOp .Or (b::Ba) pos) tB'):PW X (.BoolOp .Or (a::b::Ba) pos)<|tOr tA tB':=by
 intro k f s O H Q I h;refine isTrue_or<|AZ (i f s O H _ I h) λc s1 l=>?_
 let(d,e,g):=l;cases c with
 |true=>exact{(d),e,g}|false=>exact j k f s1 O d Q e g
def zni(d:PT X a tA):PT X (.UnaryOp .Not a pos)<|UM tA:=by
 intro e s O H Q I h;exact isTrue_not<|d e s O H (λc b=>Q (!c) b) I h
def tAndV(b d:TE):TE:=λO H Q=>b O H λx a=>∃c,x=.bl c/\if c=true then d O a Q else Q (.bl false) a
def tOrV(b d:TE):TE:=λO H Q=>b O H λx a=>∃c,x=.bl c/\if c=true then Q (.bl true) a else d O a Q
def UL(b:TE):TE:=λO H Q=>b O H λx a=>∃c,x=.bl c/\Q (.bl<|!c) a
theorem znv(h:PE X a t):PE X (.BoolOp op [a] pos) t:=λc s O H Q I b=>BoolOp_one<|h c s O H Q I b
def zo1(i:PE X a ta)(j:PE X (.BoolOp .And (b::Ba) pos) tb):PE X (.BoolOp .And (a::b::Ba) pos)<|tAndV ta tb:=by
 intro g s O H Q I h;refine BoolOp_and<|AZ (i g s O H _ I h) λv s1 k=>?_
 let(x,e,f,r1,d):=k;let(c,rfl,d):=d;cases r1;refine Ą ?_;cases c with
 |true=>exact j g s1 O e Q f d|false=>exact{.bl false,e,f,rfl,d}
def pe_or(i:PE X a ta)(j:PE X (.BoolOp .Or (b::Ba) pos) tb):PE X (.BoolOp .Or (a::b::Ba) pos)<|tOrV ta tb:=by
 intro g s O H Q I h;refine BoolOp_or<|AZ (i g s O H _ I h) λv s1 k=>?_
 let(x,e,f,r1,d):=k;let(c,rfl,d):=d;cases r1;refine Ą ?_;cases c with
 |false=>exact j g s1 O e Q f d|true=>exact{.bl true,e,f,rfl,d}
def znw(f:PE X a ta):PE X (.UnaryOp .Not a pos)<|UL ta:=by
 intro g s O H Q I h;refine UnaryOp_<|AZ (f g s O H _ I h) λv s1 i=>?_
 let(x,d,e,r1,b):=i;let(c,rfl,b):=b;cases r1;exact not_of<|Ą {.bl<|!c,d,e,rfl,b}
def tIf(t:TT)(b d:TE):TE:=λO H Q=>t O H λc a=>if c=true then b O a Q else d O a Q
def zgw(l:PT X c tA)(j:PE X a ta)(k:PE X b tb):PE X (.IfExp c a b pos)<|tIf tA ta tb:=by
 intro e s O H Q I h;refine wpAny_IfExp<|AZ (l e s O H _ I h) λd s1 m=>?_
 let(f,g,i):=m;cases d with
 |true=>exact j e s1 O f Q g i|false=>exact k e s1 O f Q g i
end
def Ab(K:k6)(H:Hp)(a:Addr)(xs:kK):Prop:=
 Rd H a (.lst xs) \/
  ∃(o:Obj) (b:Array Value) (n:Nat),K.lookup a=↑o/\o.cls=.type "list"/\o.dict=none/\o.data=.seq b n/\b.size<=sizeLine/\A4 xs b.toList
def CD(K:k6)(H:Hp)(a:Addr)(xs:kK):Prop:=
 Rd H a (.tup xs) \/
  ∃(o:Obj) (b:Array Value) (n:Nat),K.lookup a=↑o/\o.cls=.type "tuple"/\o.data=.seq b n/\b.size<=sizeLine/\A4 xs b.toList
def absV:Value->Option V
 |.none=>↑.non|.bool b=>↑(.bl b)|.int i ϊ=>↑(.int i)|.str x ϊ=>↑(.str x)|.bytes b ϊ=>↑(.byt b)|.float b ϊ=>↑(.flt b)|.ref a=>↑(.ref a)|.type n=>↑(.ty n)|ϊ=>none
def A6.abs(r:A6 x u):absV u=↑x:=by
 cases x with
 |non=>cases r;rfl|bl ϊ=>cases r;rfl|int ϊ=>let(t,rfl):=r;rfl
 |str ϊ=>let(t,rfl):=r;rfl
 |byt ϊ=>let(t,rfl):=r;rfl
 |flt ϊ=>let(t,rfl):=r;rfl
 |ref ϊ=>cases r;rfl|ty ϊ=>cases r;rfl
def A6.inj(r:A6 x u)(q:A6 y u):x=y:=Ü<|r.abs.symm.trans q.abs
def A4.inj:∀{xs ys} {us},A4 xs us->A4 ys us->xs=ys
 |_,_,_,.nil,.nil=>rfl|_,_,_,.cons r t,.cons a b=>by rw[r.inj a,A4.inj t b]
section
variable {X:Cx}{pz:List<|Addr×Obj}{O:St}{H:Hp}{s:Shared}{a:Addr}{xs ys:kK}
theorem Ab.of{K:k6}(h:H a=↑(.lst xs)):Ab K H a xs:=.inl<|.inl h
theorem CD.of{K:k6}(h:H a=↑(.tup xs)):CD K H a xs:=.inl<|.inl h
def Inv.list(I:Inv X pz O H s)(h:Ab X.K H a xs):∃its ,A4 xs its/\PlainL s.heap a its.toArray/\xs.length<=sizeLine:=by
 rcases h with h|⟨o,its,n,hk,b,hd,c,d,r⟩;let(z,its,n,r,e):=h.ok I.hok;exact{its,r,{_,n,e,rfl,rfl,rfl},z};refine{its.toList,r,{o,n,I.kIn a o hk,b,hd,by lia},?_};have e:=r.length;grind
def Inv.tuple(I:Inv X pz O H s)(h:CD X.K H a xs):∃its ,A4 xs its/\IsTup s.heap a its.toArray/\xs.length<=sizeLine:=by
 rcases h with h|⟨o,its,n,hk,b,c,d,r⟩;let(z,its,r,p):=h.ok I.hok;grind;refine{its.toList,r,{o,I.kIn a o hk,b,n,by lia},?_};have e:=r.length;grind
def Inv.list_inj(I:Inv X pz O H s)(h:Ab X.K H a xs)(f:Ab X.K H a ys):xs=ys:=by
 let(c,r,(o,n,e,_,_,d),_):=I.list h;let(b,g,(l,k,j,_,_,i),_):=I.list f;have:c=b:=by grind
 subst this;exact r.inj g
def Inv.tuple_inj(I:Inv X pz O H s)(h:CD X.K H a xs)(f:CD X.K H a ys):xs=ys:=by
 let(c,r,(o,e,_,n,d),_):=I.tuple h;let(b,g,(l,j,_,k,i),_):=I.tuple f;have:c=b:=by grind
 subst this;exact r.inj g
end
abbrev Cx.wish(X:Cx)(E:Value->Shared->Prop):Cx:={ X with xe:=E }
abbrev Cx.nox(X:Cx):Cx:=X.wish λϊ ϊ=>False
theorem Cx.Ok.wish{X:Cx}(ok:X.Ok)(E):(X.wish E).Ok:=
 {(ok.mod),ok.kind,ok.glob,ok.blt,ok.above,ok.inj,ok.has,ok.cab,ok.hd,ok.frames,ok.stk,ok.exf,ok.bs,ok.bsz,ok.noex,ok.exfs,ok.funs,ok.frf}
theorem Cx.Ok.unwish{X:Cx}(ok:(X.wish E).Ok):X.Ok:=
 {(ok.mod),ok.kind,ok.glob,ok.blt,ok.above,ok.inj,ok.has,ok.cab,ok.hd,ok.frames,ok.stk,ok.exf,ok.bs,ok.bsz,ok.noex,ok.exfs,ok.funs,ok.frf}
section
variable {X:Cx}{pz:List<|Addr×Obj}{O:St}{H:Hp}{s:Shared}{E:Value->Shared->Prop}
theorem Inv.wish(I:Inv X pz O H s)(E):Inv (X.wish E) pz O H s:={I.ok.wish E,I.os,I.bare,I.base,I.loc,I.cell,I.free,I.freeC,I.pin,I.hok,I.len}
theorem Inv.unwish(I:Inv (X.wish E) pz O H s):Inv X pz O H s:={(I.ok.unwish),I.os,I.bare,I.base,I.loc,I.cell,I.free,I.freeC,I.pin,I.hok,I.len}
def SP.unwish(h:SP (X.wish E) pz D f s'):SP X pz D f s':=by
 cases f with
 |next=>let(b,a,I,q):=h;exact{(b),a,I.unwish,q}
 |brk=>let(b,a,I,q):=h;exact{(b),a,I.unwish,q}
 |cont=>let(b,a,I,q):=h;exact{(b),a,I.unwish,q}
 |ret u=>let(v,b,a,I,r,q):=h;exact{(v),b,a,I.unwish,r,q}
theorem PE.nox(h:PE X.nox e t):PE X e t:=λb s O H Q I a=>
 ê (h b s O H Q (I.wish _) a) (λ_ _ ⟨v,H',I',r,q⟩=>{(v),H',I'.unwish,r,q}) λϊ ϊ z=>False.elim z
theorem PT.nox(h:PT X.nox e t):PT X e t:=λc s O H Q I b=>
 ê (h c s O H Q (I.wish _) b) (λ_ _ ⟨a,I',q⟩=>{(a),I'.unwish,q}) λϊ ϊ z=>False.elim z
theorem B9.nox{st}(h:B9 X.nox st t):B9 X st t:=λb s O H D I a=>
 ê (h b s O H D (I.wish _) a) (λϊ ϊ q=>q.unwish) λϊ ϊ z=>False.elim z
end
section
variable {X:Cx}{st:Stmt}{Ba:kD}{t u:TS}{e:Expr}{te:TE}{pos:Pos}
def UO:TS:=λD O H=>D.nx O H
def UJ(t u:TS):TS:=λD O H=>t { D with nx:=u D } O H
theorem zjn:B9 X [] UO:=λϊ ϊ O H ϊ I h=>ŕ {(O),H,I,h}
def zgq(e:PS X st t)(g:B9 X Ba u):B9 X (st::Ba)<|UJ t u:=by
 intro a s O H D I h;refine wpAny_execs_cons<|AZ (e a s O H { D with nx:=u D } I h) λf s1 q=>?_
 cases f with
 |next=>let(d,b,c,q):=q;exact g a s1 d b D c q
 |ret v=>exact q|brk=>exact q|cont=>exact q
def zjm(a:PS X st t):B9 X [st] t:=by
 intro b s O H D I h;refine wpAny_execs_cons<|AZ (a b s O H D I h) λf s1 q=>?_
 cases f with
 |next=>exact ŕ q|ret v=>exact q|brk=>exact q|cont=>exact q
def zmb:TS:=λD O H=>D.bk O H
def tCont:TS:=λD O H=>D.ct O H
theorem zjp:PS X (.Pass pos) UO:=λϊ ϊ O H ϊ I h=>wpAny_Pass {(O),H,I,h}
theorem zgt:PS X (.Break pos) zmb:=λϊ ϊ O H ϊ I h=>wpAny_Break {(O),H,I,h}
theorem zcm:PS X (.Continue pos) tCont:=λϊ ϊ O H ϊ I h=>wpAny_Continue {(O),H,I,h}
def Inv.quiet{O:St}   (I:Inv X pz O H s):interactive X.env=false:=by simp[interactive,I.ok.kind]
def tDrop(b:TE):TS:=λD O H=>b O H λϊ a=>D.nx O a
def QA(a:PE X e te)(b:swapsWith e none pos.line X.env=pure false):PS X (.Expr e pos)<|tDrop te:=by
 intro c s O H D I h;exact wpAny_Expr_any (AZ (a c s O H _ I h) λv s1 ⟨x,H1,I1,r1,q1⟩=>{(O),H1,I1,q1}) I.quiet b
def tRet(a:TE):TS:=λD O H=>a O H D.rt
def znj(a:PE X e te):PS X (.Return ↑e pos)<|tRet te:=by
 intro b s O H D I h;exact wpAny_Return_some<|AZ (a b s O H _ I h) λv s1 ⟨x,H1,I1,r1,q1⟩=>{(x),O,H1,I1,r1,q1}
def tRetN:TS:=λD ϊ H=>D.rt .non H
theorem zjo:PS X (.Return none pos) tRetN:=λϊ ϊ O H ϊ I h=>wpAny_Return_none {.non,O,H,I,rfl,h}
def tIfS(c:TT)(t u:TS):TS:=λD O H=>c O H λb a=>if b=true then t D O a else u D O a
def ps_if(l:PT X c tc)(j:B9 X a t)(k:B9 X b u):PS X (.If c a b pos)<|tIfS tc t u:=by
 intro e s O H D I h;refine wpAny_If<|AZ (l e s O H _ I h) λd s1 m=>?_
 let(f,g,i):=m;cases d with
 |true=>exact j e s1 O f D g i|false=>exact k e s1 O f D g i
end
abbrev TG:=V->St->Hp->(St->Hp->Prop)->Prop
abbrev JB:=kK->St->Hp->(St->Hp->Prop)->Prop
def PG(X:Cx)(a:Expr)(t:TG):Prop:=
 ∀(d:List<|Addr×Obj) (s:Shared) (O:St) (H:Hp) (v:V) (u:Value) (Q:St->Hp->Prop),Inv X d O H s->A6 v u->t v O H Q ->
  wpAny (model X.prog X.w) X.A (assign a X.env u) (λϊ e=>∃c b,Inv X d c b e/\Q c b) X.xe s
def EK(X:Cx)(ts:kC)(t:JB):Prop:=
 ∀(c:List<|Addr×Obj) (s:Shared) (O:St) (H:Hp) (e:kK) (d:k9) (Q:St->Hp->Prop),Inv X c O H s->A4 e d->t e O H Q ->
  wpAny (model X.prog X.w) X.A (assignInOrder ((assignEach ts X.env).map (·.2)) d) (λϊ f=>∃b a,Inv X c b a f/\Q b a) X.xe s
abbrev TF:=V->V->V->Hp->(Hp->Prop)->Prop
def TX(X:Cx)(t:TF):Prop:=
 ∀(d:List<|Addr×Obj) (s:Shared) (O:St) (H:Hp) (o i v:V) (c b u:Value) (Q:Hp->Prop),Inv X d O H s->A6 o c->A6 i b->A6 v u->t o i v H Q ->
  wpAny (model X.prog X.w) X.A (setItem c b u) (λϊ e=>∃a,Inv X d O a e/\Q a) X.xe s
section
variable {X:Cx}{pos:Pos}
def GG(i:Nat):TG:=λv O H Q=>Q (O.set i ↑v) H
def zjv{i:Nat}{x:Str}(b:X.N.Nodup)(d:X.N[i]?=↑x)(e:Gu X.env.scope x)(c:X.fn x=true\/X.env.scope.names.lookup x=↑.local):PG X (.Name x pos)<|GG i:=by
 intro f s O H v u Q I r h;exact wpAny_assign_Name<|LV I b d e r (λg a=>{_,H,a,h}) c
def gNil:JB:=λa O H Q=>a=[]/\Q O H
def gCons(t:TG)(u:JB):JB:=λc O H Q=>∃v r,c=v::r/\t v O H λb a=>u r b a Q
def zju:EK X [] gNil:=by
 intro a s O H c b Q I r h;let(e,h):=h;exact assignInOrder_nil {(O),H,I,h}
def zgv(g:PG X e t)(i:EK X es u)
  (j:(assignEach (e::es) X.env).map (·.2)=assign e X.env::(assignEach es X.env).map (·.2)):EK X (e::es)<|gCons t u:=by
 intro a s O H p n Q I r h;let(v,o,f,h):=h;subst f;cases r with
 |cons r l=>
  rw[j];refine Ź<|AZ (g a s O H _ _ _ I r h) λϊ s1 m=>?_
  let(d,b,c,k):=m;exact i a s1 d b _ _ Q c l k
def Rc(K:k6)(n:Nat)(t:JB):TG:=λv O H Q=>∃a xs,v=.ref a/\CD K H a xs/\xs.length=n/\t xs O H Q
def znr{k}(i:X.calm=true)(h:EK X es t)
  (l:(assignEach es X.env).length=n) (c:(assignEach es X.env).findIdx? (·.1)=none):PG X (.Tuple es k pos)<|Rc X.K n t:=by
 intro x s O H v u Q I r d;let(a,xs,g,m,j,d):=d;subst g;cases r;let(w,y,p,A):=I.tuple m;refine assign_Tuple_tuple (I.ok.hd i) p (by simp[l,<- j,y.length]) c λz q=>?_
 have f :=I.kept (t':=s.toks) λb o e=>q b o (Ó<|Æ e) e;exact h x _ O H xs _ Q f (by lia) d
def gSub(d ti:TE)(t:TF):TG:=λv O H Q=>d O H λo a=>ti O a λi b=>t o i v b λc=>Q O c
def QE(l:PE X o to)(k:PE X i ti)(m:TX X t)
  (A : ∀ v, assign (.Subscript o i pos) X.env v = (do
   let ov <- holding [v]<|eval o X.env;let iv <- holding [v,ov] (eval i X.env)
   standAt pos
   holding [v,ov,iv] (setItem ov iv v)
   release [v,ov,iv] []):=by rfl):PG X (.Subscript o i pos)<|gSub to ti t:=by
 intro b s O H v u Q I r h;refine Â<|ú<|AZ (l b s O H _ I h) λov s1 a=>?_
 let(x,c,f,r1,n):=a;refine Â<|ú<|AZ (k b s1 O c _ f n) λiv z a=>?_
 let(y,d,g,w,p):=a;refine Â<|ī<|Â<|ú<|AZ (m b z O d x y v ov iv u _ g r1 w r p) λϊ B a=>?_
 let(e,j,q):=a;exact wpAny_release {(O),e,j,q}
def GS(b:TE)(g:TG):TS:=λD O H=>b O H λx a=>g x O a D.nx
def Ll{a e:Expr}{c:TE}{g:TG}(j:PE X e c)(k:PG X a g)(l:swapsWithSole [a] e pos.line X.env=pure false)(m:swappedStores [a] e X.env=pure none)
  (i:(assignEach [a] X.env).map (·.2)=[assign a X.env]):PS X (.Assign [a] e pos)<|GS c g:=by
 intro b s O H D I h;refine wpAny_Assign_stores (AZ (j b s O H _ I h) λv s1 o=>?_) l m;let(x,d,f,r1,n):=o;rw[i];exact AZ (k b s1 O d x v _ f r1 n) λϊ p q=>q
def Va(d:X.N.Nodup)(j:X.N[i]?=↑x)(l:Gu X.env.scope x)(f:PE X e te)(k:swapsWith e (↑(.Name x pos')) pos.line X.env=pure false)(g:X.fn x=true\/X.env.scope.names.lookup x=↑.local) :
  PS X (.Assign [.Name x pos'] e pos) (GS te<|GG i):=by
 intro m s O H D I h;refine wpAny_Assign_Name (AZ (f m s O H _ I h) λv s1 o=>?_) k;let(y,a,b,r1,n):=o;exact LV b d j l r1 (λp c=>{_,a,c,n}) g
def tPar(i j:Nat)(b:TA):TS:=λD O H=>b O H λc a=>∃v w,c=[v,w]/\D.nx ((O.set i ↑v).set j ↑w) a
def znk(K:X.calm=true)(t:X.N.Nodup)(L:X.N[i]?=↑x)(M:X.N[j]?=↑y)(g:i≠j)
  (u:X.env.scope.names.lookup x=↑.local) (z:X.env.scope.names.lookup y=↑.local) (J:PA X [a,b] ta)
  (P:swappedStores [.Tuple [.Name x px,.Name y py] kt pt] (.Tuple [a,b] k2 pt2) X.env=pure (↑[x,y]))
  (N:swapsWithSole [.Tuple [.Name x px,.Name y py] kt pt] (.Tuple [a,b] k2 pt2) pos.line X.env=pure false) :
  PS X (.Assign [.Tuple [.Name x px,.Name y py] kt pt] (.Tuple [a,b] k2 pt2) pos) (tPar i j ta):=by
 intro A s O H D I h;rw[exec_Assign_arm];refine Â<|ī ?_;rw[N];refine Â<|Ê ?_;rw[if_neg<|by decide]
 refine Â<|Tuple_<|AZ (J _ A s O H _ I h) λT s1 U=>?_
 let(Z,n,B,r1,l):=U;let(v,w,G,l):=l;subst G
 let(d,f,rfl,S,m):∃d f,T=[d,f]/\A6 v d/\A6 w f:=by
  cases r1 with
  |cons p q=>
   cases q with
   |cons Q R=>cases R;exact{_,_,rfl,p,Q}
 refine ź ?_ (by show 2<=sizeLine;decide);have C:Inv X A O n { s1 with heap:=s1.heap.push { cls:=.type "tuple",data:=.seq [d,f].toArray } }:=B.kept λb o e=>Ñ _ e;rw[P];refine Â<|Ê ?_;show wpAny (model X.prog X.w) X.A (do rule "assign.swapped-stores";let c <- unpackItems (.ref s1.heap.objs.size) 2 none;assignInOrder [λv=>bindName X.env y v,λv=>bindName X.env x v] c.reverse;pure Flow.next) _ _ _
 refine Â<|wpAny_rule<|Â<|unpackItems_tuple (items:=#[d,f]) (I.ok.hd K) (IsTup.new s1.heap _) λV k=>?_
 have E:=C.kept (t':=s1.toks) λb o e=>k b o (Ó<|Æ e) e;show wpAny _ _ (assignInOrder [λv=>bindName X.env y v,λv=>bindName X.env x v] [f,d] >>= λϊ=>pure Flow.next) _ _ _;refine Â<|Ź<|wpAny_bindName<|LV E t M (.inl z) m (λW F=>?_)<|.inr z
 refine Ź<|wpAny_bindName<|LV F t L (.inl u) S (λY r=>assignInOrder_nil<|Ê ?_)<|.inr u
 rw[List.set_comm _ _<|Ë g]at r;exact{_,n,r,l}
def zm4(c:TT)(g:TS):TS:=λD O H=>∃W:Nat->St->Hp->Prop,(∃m,W m O H)/\∀m O H,W m O H ->
 c O H λb d=>if b=true then ∃N:St->Hp->Prop,(∀e a,N e a->∃f,f<m/\W f e a)/\g { D with nx:=N,ct:=N,bk:=D.nx } O d else D.nx O d
def zgr(q:PassesOwn (model X.prog X.w) X.A X.env X.xe)(x:PT X c tc)(w:B9 X body tb):PS X (.While c body [] pos)<|zm4 tc tb:=by
 intro i s O H D I h;let(W,(y,C),a):=h;refine wpAny_While<|codeAny_whileLoop (λn A=>∃p k,Inv X i p k A/\W n p k) ?_ y {(O),H,I,C}
 rintro n s1 ⟨d,l,t,E⟩;refine ė q<|AZ (x i s1 d l _ t<|a n d l E) λb B F=>?_
 let(m,o,e):=F;cases b with
 |true=>
  let(N,G,e):=e;rw[if_pos rfl];refine ė q<|AZ (w i B d m _ o e) λf J g=>?_
  cases f with
  |next=>
   let(j,r,u,z):=g;grind
  |cont=>
   let(j,r,u,z):=g;grind
  |brk=>exact g|ret v=>exact g
 |false=>rw[if_neg õ];exact ŕ {(d),m,o,e}
end
structure It where
 go:Nat->Hp->Prop
 yld:Nat->Hp->V->Hp->Prop
 stop:Nat->Hp->Prop
def Cr(X:Cx)(a:List<|Addr×Obj)(H:Hp)(b:Addr):Prop:=
 H b=none/\b≠X.env.locals/\b∉X.fs/\(b∈X.ex\/X.s₀.heap.objs.size<=b)/\(∀x c,X.env.cells.lookup x=↑c->c≠b)/\∀p∈X.pn++a,p.1≠b
def Inv.fpOk{X:Cx}{O:St}{b:Addr}(I:Inv X pz O H s)(a:s.heap.objs.size<=b)(d:H' b=none):Cr X pz H' b:=by
 refine{d,Nat.ne_of_gt<|Ý I.lt a,I.nofs a,.inr<|Û I.sz a,λx c e z=>?_,λp f z=>?_};let(v,q):=I.cell x c e;exact absurd (Ý q.lt<|by grind)<|æ _
 exact absurd (Ý (Æ (I.pin p f).1)<|by grind)<|æ _
structure Turn(P:Program)(w:World)(K:k6)(tg:Expr)(Γ:It)(fp:List Addr)(it:Addr)(tn:Nat->Heap->Prop):Prop where
 mem:it∈fp
 obj:∀i h,tn i h->∀b∈fp,∃o,h.get? b=↑o/\∀v,o.data≠.cell v
 keep:∀i h h',tn i h->(∀b∈fp,∀o,h.get? b=↑o->h'.get? b=↑o)->tn i h'
 item:∀(X:Cx),X.prog=P->X.w=w->X.K=K->X.calm=true->∀(i:Nat) (pz:List<|Addr×Obj) (s:Shared) (O:St) (H:Hp) (E:Value->Shared->Prop),Inv X pz O H s->(∀b∈fp,Cr X pz H b)->tn i s.heap->Γ.go i H ->
  wpAny (model P w) X.A (pyNext<|.ref it) (λr s1=>∃u,r=↑u /\
   wpAny (model P w) X.A (letOwnedTupleGo tg (.ref it) u) (λϊ s2=>∃x H',Inv X pz O H' s2/\A6 x u/\Γ.yld i H x H'/\tn (i+1) s2.heap/\∀b∈fp,H' b=none) E s1) E s
 done:∀(X:Cx),X.prog=P->X.w=w->X.K=K->X.calm=true->∀(i:Nat) (pz:List<|Addr×Obj) (s:Shared) (O:St) (H:Hp) (E:Value->Shared->Prop),Inv X pz O H s->(∀b∈fp,Cr X pz H b)->tn i s.heap->Γ.stop i H ->
  wpAny (model P w) X.A (pyNext<|.ref it) (λr s1=>r=none/\Inv X pz O H s1) E s
 self:∀(A:Around) (i:Nat) (s:Shared) (Q:Value->Shared->Prop) (E:Value->Shared->Prop),tn i s.heap->Q (.ref it) s->wpAny (model P w) A (pyIter<|.ref it) Q E s
abbrev TI:=St->Hp->(It->Hp->Prop)->Prop
def bR(X:Cx)(e:List<|Addr×Obj)(O:St)(g:Expr)(R:It->Hp->Prop)(c:Value)(f:Shared):Prop:=
 ∃(it:Addr) (d:List Addr) (tn:Nat->Heap->Prop) (Γ:It) (a:Hp),c=.ref it/\Inv X e O a f/\Turn X.prog X.w X.K g Γ d it tn/\tn 0 f.heap/\(∀b∈d,Cr X e a b)/\R Γ a
def PI(X:Cx)(c a:Expr)(d:TI):Prop:=
 ∀(b:List<|Addr×Obj) (s:Shared) (O:St) (H:Hp) (R:It->Hp->Prop),Inv X b O H s->d O H R ->
  wpAny (model X.prog X.w) X.A (eval a X.env) (λv s1=>wpAny (model X.prog X.w) X.A (pyIter v) (bR X b O c R) X.xe s1) X.xe s
def M1(d:s.heap.get? it=↑o)(b:o.cls=.type n)(hd:o.data=.fields vs)
    (c:["enumerate","zip","dict_itemiterator","dict_reverseitemiterator","odict_iterator","itertools.zip_longest","itertools.pairwise"].contains n=false) (a:Q () s):wpAny M A (letOwnedTupleGo tg (.ref it) u) Q E s:=by
  unfold letOwnedTupleGo
  cases tg<;>first
    |exact Ê a
    |(cases u<;>first
        |exact Ê a
        | (refine Â<|wpAny_load d ?_
           rw[b,hd];show wpAny M A (if (["enumerate","zip","dict_itemiterator","dict_reverseitemiterator","odict_iterator","itertools.zip_longest","itertools.pairwise"].contains n && vs[0]? == ↑(rawInt _))=true then _ else _) Q E s
           rw[if_neg (by intro h;rw[c,Ŭ]at h;cases h)]
           exact Ê a))
def T4(K:k6)(a:Addr):It:=
 {λi H=>∃xs x,Ab K H a xs/\xs[i]?=↑x,λi H x b=>b=H/\∀xs,Ab K H a xs->xs[i]?=↑x,λi H=>∃xs,Ab K H a xs/\xs.length<=i}
def T3(K:k6)(a:Addr):It:=
 {λi H=>∃xs x,CD K H a xs/\xs[i]?=↑x,λi H x b=>b=H/\∀xs,CD K H a xs->xs[i]?=↑x,λi H=>∃xs,CD K H a xs/\xs.length<=i}
def Ko(b:Int)(n:Nat):It:={λi ϊ=>i<n,λi H x a=>a=H/\x=.int (b+i),λi ϊ=>n<=i}
def ze7{K}(a it):Turn P w K tg (T4 K a) [it] it (λi h=>h.IsListIter it a i) where
 mem:=by simp
 obj:=λi h st b f=>by
  have e :=by simpa using f
  subst e;let(o,e,c,d):=st;exact{o,e,λv z=>by rw[d]at z;cases z}
 keep:=λi h J st k=>st.at λo e=>k it (by simp) o e
 item:=by
  intro X A C y L i T s O H E I j st B;subst A C y;let(xs,x,l,D):=B;let(F,G,p,S):=I.list l;let(u,Q,U):=G.get D;let(m,n,N,q,r,t):=j it<|by simp
  refine wpAny_pyNext_list_item st p.isList (by simpa using Q) λJ g sb=>?_;have M :=I.turned (t':=s.toks) (λb o f e=>(sb.2 b f).trans e) m n q r t;let(o,e,c,d):=id g;exact{u,rfl,M1 e c d (by decide) {x,H,M,U,{rfl,λW R=>by rw[I.list_inj R l];exact D},g,λb f=>(j b f).1}}
 done:=by
  intro X A C y L i T s O H E I j st B;subst A C y;let(xs,l,D):=B;let(F,G,p,S):=I.list l;let(m,n,N,q,r,t):=j it<|by simp
  have V:=G.length;exact wpAny_pyNext_list_end (I.ok.hd L) st p.isList (by simp;lia) λJ eb=>{rfl,I.turned (λb o f e=>eb b o f e) m n q r t}
 self:=λϊ ϊ ϊ ϊ ϊ st h=>wpAny_pyIter_listiter st h
def zda{K}(a it):Turn P w K tg (T3 K a) [it] it (λi h=>h.IsTupleIter it a i) where
 mem:=by simp
 obj:=λi h st b f=>by
  have e :=by simpa using f
  subst e;let(o,e,c,d):=st;exact{o,e,λv z=>by rw[d]at z;cases z}
 keep:=λi h J st k=>st.at λo e=>k it (by simp) o e
 item:=by
  intro X A C y L i T s O H E I j st B;subst A C y;let(xs,x,l,D):=B;let(F,G,p,S):=I.tuple l;let(u,Q,U):=G.get D;let(m,n,N,q,r,t):=j it<|by simp
  refine wpAny_pyNext_tuple_item st (p) (by simpa using Q) λJ g sb=>?_;have M :=I.turned (t':=s.toks) (λb o f e=>(sb.2 b f).trans e) m n q r t;let(o,e,c,d):=id g;exact{u,rfl,M1 e c d (by decide) {x,H,M,U,{rfl,λW R=>by rw[I.tuple_inj R l];exact D},g,λb f=>(j b f).1}}
 done:=by
  intro X A C y L i T s O H E I j st B;subst A C y;let(xs,l,D):=B;let(F,G,p,S):=I.tuple l;let(m,n,N,q,r,t):=j it<|by simp
  have V:=G.length;exact wpAny_pyNext_tuple_end (I.ok.hd L) st (p) (by simp;lia) λJ eb=>{rfl,I.turned (λb o f e=>eb b o f e) m n q r t}
 self:=λϊ ϊ ϊ ϊ ϊ st h=>wpAny_pyIter_tupleiter st h
def zdb{K}(it)(lo)(n):Turn P w K tg (Ko lo n) [it] it (λi h=>IsRangeIter h it (lo+i * 1) (n - i) 1) where
 mem:=by simp
 obj:=λi h st b a=>by
  have e :=by simpa using a
  subst e
  exact{_,st,λv z=>by
   have G :=z;cases G}
 keep:=λi h p st k=>k it (by simp) _ st
 item:=by
  intro X r y q u i A s O H E I d st x;subst r y q;let(f,g,C,j,l,m):=d it<|by simp
  have W:=Walks.range (prog:=X.prog) (w:=X.w) (I.ok.hd u) it lo 1 n;refine W.item i s _ _ x st λv p tk D c F=>?_;let(t,rfl):=D;have B:Inv X A O H { s with heap:=p,toks:=tk }:=I.turned (λb o a e=>F b o (by simpa using a) e) f g j l m
  refine{_,rfl,M1 c rfl rfl (by decide) {.int<|lo+i,H,B,{t,?_},{(rfl),rfl},c,λb a=>(d b a).1}};rw[Int.mul_one]
 done:=by
  intro X r y q u i A s O H E I d st x;subst r y q;let(f,g,C,j,l,m):=d it<|by simp
  exact wpAny_pyNext_range_end (I.ok.hd u) st (by have:n<=i:=x;lia) λp eb=>{rfl,I.turned (λb o a e=>eb b o a e) f g j l m}
 self:=λϊ ϊ ϊ ϊ ϊ st h=>wpAny_pyIter_rangeiter st h
section
variable {X:Cx}{tg:Expr}
def iList(K:k6)(c:TE):TI:=λO H R=>c O H λx b=>∃a,x=.ref a/\(∃xs,Ab K b a xs)/\R (T4 K a) b
def iTup(K:k6)(c:TE):TI:=λO H R=>c O H λx b=>∃a,x=.ref a/\(∃xs,CD K b a xs)/\R (T3 K a) b
def zjs(f:PE X l tl):PI X tg l<|iList X.K tl:=by
 intro j s O H R I h;refine AZ (f j s O H _ I h) λv s1 m=>?_;let(x,d,c,r1,k):=m;let(a,e,(xs,g),q):=k;subst e;cases r1;let(i,t,p,r):=c.list g;refine Ĭ p.isList ?_;refine{s1.heap.objs.size,[s1.heap.objs.size],_,_,d,rfl,c.kept λb o e=>Ñ _ e,ze7 a _,{_,ä _ rfl,rfl,rfl},λb n=>?_,q}
 have e:b=s1.heap.objs.size:=by grind
 subst e;exact c.fpOk (Ç _)<|c.hok.fresh<|Ç _
def znp(f:PE X l tl):PI X tg l<|iTup X.K tl:=by
 intro j s O H R I h;refine AZ (f j s O H _ I h) λv s1 m=>?_;let(x,d,c,r1,k):=m;let(a,e,(xs,g),q):=k;subst e;cases r1;let(i,t,p,r):=c.tuple g;refine wpAny_pyIter_tuple (p) ?_;refine{s1.heap.objs.size,[s1.heap.objs.size],_,_,d,rfl,c.kept λb o e=>Ñ _ e,zda a _,{_,ä _ rfl,rfl,rfl},λb n=>?_,q}
 have e:b=s1.heap.objs.size:=by grind
 subst e;exact c.fpOk (Ç _)<|c.hok.fresh<|Ç _
def VO{O:St}{H:Hp}    {a c:Int}   (I:Inv X pz O H s)(h:-(2 ^ 62)<=a)(i:a<2 ^ 62)(j:-(2 ^ 62)<=c)(k:c<2 ^ 62)
  (q:R (Ko a (c - a).toNat) H):wpAny (model X.prog X.w) X.A (pyIter<|.ref s.heap.objs.size) (bR X pz O tg R) E { s with heap:=s.heap.push { cls:=.type "range",data:=.fields #[.int a t,.int c u,.int 1 v] },toks:=tk }:=by
 refine wpAny_pyIter_range (IsRange.new ..) (small_one h i j k) ?_;have d:Inv X pz O H { s with heap:=s.heap.push { cls:=.type "range",data:=.fields #[.int a t,.int c u,.int 1 v] },toks:=tk }:=I.kept λb o e=>Ñ _ e
 refine{(s.heap.push { cls:=.type "range",data:=.fields #[.int a t,.int c u,.int 1 v] }).objs.size,[(s.heap.push { cls:=.type "range",data:=.fields #[.int a t,.int c u,.int 1 v] }).objs.size],_,_,H,rfl,
  d.kept λb o e=>Ñ _ e,zdb _ a (c - a).toNat,?_,λb l=>?_,q}
 have f:a+(0:Nat) * 1=a:=by simp
 have g:(c - a).toNat - (0:Nat)=Builtin.Range.rangeSize a c 1:=by rw[rangeSize_one];grind
 rw[f,g];exact ä _ rfl;have e:b=(s.heap.push { cls:=.type "range",data:=.fields #[.int a t,.int c u,.int 1 v] }).objs.size:=by grind
 subst e;exact d.fpOk (Ç _)<|d.hok.fresh<|Ç _
def iRng1(b:TA):TI:=λO H R=>b O H λc a=>∃j:Int,c=[.int j]/\-(2 ^ 62)<=j/\j<2 ^ 62/\R (Ko 0 j.toNat) a
def iRng2(b:TA):TI:=λO H R=>b O H λc a=>∃i j:Int,c=[.int i,.int j]/\(-(2 ^ 62)<=i/\i<2 ^ 62/\-(2 ^ 62)<=j/\j<2 ^ 62)/\R (Ko i (j - i).toNat) a
def zef(f:Gl X "range")(g:X.mg "range"=none)(d:PA X [a] ta)(i:starEach [a] X.env=[(false,eval a X.env)]):PI X tg (.Call (.Name "range" p) [a] [] pos)<|iRng1 ta:=by
 intro k s O H R I h;refine Call_<|GD I f g boot_range<|Ğ (AZ (d pos k s O H _ I h) λu s1 n=>?_) i rfl
 let(v,o,c,r1,b):=n;let(j,e,b,l,q):=b;subst e;cases r1 with
 |cons r m=>cases m;let(t,rfl):=r;exact call_range_1<|VO c (by lia) (by lia) b l<|by simpa using q
def zee{p pos}(l:Gl X "range")(m:X.mg "range"=none)(k:PA X [a,b] ta)(n:starEach [a,b] X.env=[(false,eval a X.env),(false,eval b X.env)])(c:starEach [b] X.env=[(false,eval b X.env)]) :
  PI X tg (.Call (.Name "range" p) [a,b] [] pos) (iRng2 ta):=by
 intro o s O H R I h;refine Call_<|GD I l m boot_range<|Ğ (AZ (k pos o s O H _ I h) λB s1 y=>?_) (by rw[n,c]) (by rw[c];rfl)
 let(C,z,g,r1,d):=y;let(i,j,e,(d,u,v,w),q):=d;subst e;cases r1 with
 |cons r f=>
  cases f with
  |cons x f=>cases f;let(t,rfl):=r;let(A,rfl):=x;exact call_range_2<|VO g d u v w q
def tFor(j:TI)(g:TG)(h:TS):TS:=λD O H=>j O H λΓ d=>∃W:Nat->Nat->St->Hp->Prop,(∃m,W 0 m O d)/\∀i m O H,W i m O H ->
 (Γ.stop i H/\D.nx O H)\/(Γ.go i H/\∃N:St->Hp->Prop,(∀b a,N b a->∃c,c<m/\W (i+1) c b a)/\∀x a,Γ.yld i H x a->g x O a λf e=>h { D with nx:=N,ct:=N,bk:=D.nx } f e)
def HJ(fp:List Addr)(h:Heap):List<|Addr×Obj:=fp.filterMap λb=>(h.get? b).map λo=>(b,o)
def HP(a:b∈fp)(e:h.get? b=↑o):(b,o)∈HJ fp h:=ĳ.mpr {b,a,by rw[e];rfl}
def Vp(a:p∈HJ fp h):p.1∈fp/\h.get? p.1=↑p.2:=by
 let(b,c,e):=ĳ.mp a;cases q:h.get? b with
 |none=>grind|some o=>grind
theorem Inv.pinned{O:St}(I:Inv X pz O H s)(c:∀b∈fp,Cr X pz H b)(i:∀b∈fp,∃o,s.heap.get? b=↑o/\∀v,o.data≠.cell v):Inv X (pz++HJ fp s.heap) O H s:=
 I.pins_of λp d=>(å.mp d).elim (λz=>I.pin p<|ß _ z) λz=>by
  let(a,e):=Vp z;let(f,g,h,_):=c p.1 a
  grind
theorem Inv.unpinned{O:St}(I:Inv X (pz++pl) O H s):Inv X pz O H s:=I.pins_of λp a=>I.pin p<|ß _<|î _ a
def znl(F:PassesOwn (model X.prog X.w) X.A X.env X.xe)(hc:X.calm=true)(hi:PI X tg iter wi)(hg:PG X tg g)(l:B9 X body tb)
  (hs:∀x,foldedSetIterable iter X.env x=pure x:=by intro _;rfl):PS X (.For tg iter body [] pos)<|tFor wi g tb:=by
 intro y s O H D I h;refine wpAny_For (AZ (hi y s O H _ I h) λv s1 h1=>AZ h1 λitv s2 h2=>?_) hs;let(it,C,tn,Γ,H2,e,I2,T,S,Z,W,(m0,w0),K):=h2;subst e;have p:∀{t },(∀b∈C,t b=none)->∀b∈C,Cr X y t b:=λhn b l=>{hn b l,(Z b l).2}
 refine codeAny_forLoop_any (λn s'=>∃i B t,Inv X y B t s'/\tn i s'.heap/\(∀b∈C,t b=none)/\W i n B t) ?_ m0 {0,O,H2,I2,S,λb l=>(Z b l).1,w0};rintro n s3 ⟨i,q,L,Y,J,E,w3⟩;rcases K i n q L w3 with ⟨stop,qn⟩|⟨go,N,hN,step⟩
 .refine ė F<|AZ (T.done X rfl rfl rfl hc i y s3 q L X.xe Y (p E) J stop) λr s4 A=>?_
  let(Q,I4):=A;subst Q;exact ŕ {(q),L,I4,qn}
 .refine ė F<|AZ (T.item X rfl rfl rfl hc i y s3 q L X.xe Y (p E) J go) λr s4 A=>?_
  let(u,Q,h4):=A;subst Q;refine ė F<|AZ h4 λϊ s5 A=>?_
  let(x,V,I5,r5,y5,z,P):=A;have M:=I5.pinned (p P)<|T.obj _ _ z;refine ė F<|AZ (hg _ s5 q V x u _ M r5<|step x V y5) λϊ s6 A=>?_
  let(U,H6,I6,q6):=A;refine ė F<|AZ (l _ s6 U H6 _ I6 q6) λf R w=>?_
  have k:∀{a } {c },Inv X (y++HJ C s5.heap) a c R->N a c->∃m,m<n/\∃i B t,Inv X y B t R/\tn i R.heap/\(∀b∈C,t b=none)/\W i m B t:=λ{a c} j G=>by
   let(m',hm,w7):=hN a c G;refine{m',hm,i+1,a,c,j.unpinned,T.keep _ _ _ z λb l o e=>(j.pin (b,o)<|ß _<|ß _<|HP l e).1,λb l=>?_,w7};let(o,e,d):=T.obj _ _ z b l;exact(j.pin (b,o)<|ß _<|ß _<|HP l e).2.1
  cases f with
  |next=>let(a,c,j,G):=w;exact k j G
  |cont=>let(a,c,j,G):=w;exact k j G
  |brk=>let(a,c,j,w):=w;exact{(a),c,j.unpinned,w}
  |ret v=>let(x7,a,c,j,r7,w):=w;exact{(x7),a,c,j.unpinned,r7,w}
end
abbrev R2:=V->V->Hp->VK->Prop
def Ac(X:Cx)(f:Value->Value->Sem Value)(r:R2):Prop:=
 ∀(a:List<|Addr×Obj) (s:Shared) (O:St) (H:Hp) (x y:V) (v u:Value) (Q:VK),Inv X a O H s->A6 x v->A6 y u->r x y H Q ->
  wpAny (model X.prog X.w) X.A (f v u) (EP X a O Q) X.xe s
def K2(X:Cx)(f:Value->Sem Value)(r:V->Hp->VK->Prop):Prop:=
 ∀(a:List<|Addr×Obj) (s:Shared) (O:St) (H:Hp) (x:V) (v:Value) (Q:VK),Inv X a O H s->A6 x v->r x H Q ->
  wpAny (model X.prog X.w) X.A (f v) (EP X a O Q) X.xe s
def Be(X:Cx)(f:Value)(r:kK->Hp->VK->Prop):Prop:=
 ∀(a:List<|Addr×Obj) (s:Shared) (O:St) (H:Hp) (xs:kK) (b:k9) (Q:VK),Inv X a O H s->A4 xs b->r xs H Q ->
  wpAny (model X.prog X.w) X.A (call f b) (EP X a O Q) X.xe s
def IA(r:R2)(c d:TE):TE:=λO H Q=>c O H λx a=>d O a λy b=>r x y b Q
def UH(r:V->Hp->VK->Prop)(b:TE):TE:=λO H Q=>b O H λx a=>r x a Q
def rI(C:Int->Int->Prop)(g:Int->Int->V):R2:=λx y H Q=>∃i j,x=.int i/\y=.int j/\C i j/\Q (g i j) H
def Eo(g:Int->Int->V):R2:=λx y H Q=>∃i j,x=.int i/\y=.int j/\Q (g i j) H
def rU(g:Int->V):V->Hp->VK->Prop:=λx H Q=>∃i,x=.int i/\Q (g i) H
section
variable {X:Cx}{a b c:Expr}{ta tb tc:TE}{pos:Pos}
def Sx(e:PE X a ta)(g:PE X b tb){O:St}{R:V->V->Hp->Prop}(I:Inv X pz O H s)
  (h:ta O H λx H1=>tb O H1 λy H2=>R x y H2)  {f:Value->Value->Sem Value}
  (k:∀v u s2 x y H2,Inv X pz O H2 s2->A6 x v->A6 y u->R x y H2->wpAny (model X.prog X.w) X.A (f v u) Q X.xe s2) :
  wpAny (model X.prog X.w) X.A (eval a X.env) (λv s₁=>wpAny (model X.prog X.w) X.A (eval b X.env) (λu s₂=>wpAny (model X.prog X.w) X.A (f v u) Q X.xe s₂) X.xe s₁) X.xe s:=by
 refine AZ (e pz s O H _ I h) λv s1 c=>?_;let(x,H1,d,r1,i):=c;refine AZ (g pz s1 O H1 _ d i) λu s2 c=>?_;let(y,H2,j,m,l):=c;grind
def pe_op(g:Ac X (binaryOp op) r)(e:PE X a ta)(f:PE X b tb):PE X (.BinOp a op b pos)<|IA r ta tb:=by
 intro i s O H Q I h;exact wpAny_BinOp<|Sx e f I h λv u l x y c d j k q=>g i l O c x y v u Q d j k q
def pe_un(d:K2 X (unaryOp op) r)(c:PE X a ta):PE X (.UnaryOp op a pos)<|UH r ta:=by
 intro b s O H Q I h;exact UnaryOp_<|AZ (c b s O H _ I h) λv s1 ⟨x,H1,I1,r1,q1⟩=>d b s1 O H1 x v Q I1 r1 q1
def IL{g:Int->Int->Int}
  (a:∀(i j ) (t u ) (s ) (Q ) (E ),C i j->Q (.int (g i j) s.toks) { s with toks:=s.toks+1 }->wpAny (model X.prog X.w) X.A (f (.int i t)<|.int j u) Q E s) :
  Ac X f (rI C λi j=>.int<|g i j):=by
 intro k s O H x y v u Q I c d h;let(i,j,rfl,rfl,b,q):=h;let(t,rfl):=c;let(e,rfl):=d;exact a i j t e s _ _ b {.int<|g i j,H,I.tok _,{_,rfl},q}
def Lu{g:Int->Int->Int}
  (a:∀(i j ) (t u ) (s ) (Q ) (E ),Q (.int (g i j) s.toks) { s with toks:=s.toks+1 }->wpAny (model X.prog X.w) X.A (f (.int i t)<|.int j u) Q E s) :
  Ac X f (Eo λi j=>.int<|g i j):=by
 intro e s O H x y v u Q I b c h;let(i,j,rfl,rfl,q):=h;let(t,rfl):=b;let(d,rfl):=c;exact a i j t d s _ _ {.int<|g i j,H,I.tok _,{_,rfl},q}
def Lv{g:Int->Int->Bool}
  (a:∀(i j ) (t u ) (s ) (Q ) (E ),Q (.bool<|g i j) s->wpAny (model X.prog X.w) X.A (f (.int i t)<|.int j u) Q E s) :
  Ac X f (Eo λi j=>.bl<|g i j):=by
 intro e s O H x y v u Q I b c h;let(i,j,rfl,rfl,q):=h;let(t,rfl):=b;let(d,rfl):=c;exact a i j t d s _ _ {.bl<|g i j,H,I,rfl,q}
def CPow(i j:Int):Prop:=0<=j/\j<=1000000/\i.natAbs<2 ^ 64
def T9(i j:Int):Prop:=(-(2 ^ 64)<i/\i<2 ^ 64)\/(-(2 ^ 64)<j/\j<2 ^ 64)
def T9.ok(h:T9 i j):IntMulOk i j:=by
 rcases h with ⟨a,b⟩|⟨a,b⟩;exact .of_left<|intBits_le_64 a b
 exact .of_right<|intBits_le_64 a b
theorem zob:Ac X (binaryOp .Add)<|Eo λi j=>.int<|i+j:=Lu λϊ ϊ ϊ ϊ ϊ ϊ ϊ q=>add_int q
theorem zo3:Ac X (binaryOp .Sub)<|Eo λi j=>.int<|i - j:=Lu λϊ ϊ ϊ ϊ ϊ ϊ ϊ q=>sub_int q
theorem Vj:Ac X (binaryOp .Mult)<|rI T9 λi j=>.int<|i * j:=IL λϊ ϊ ϊ ϊ ϊ ϊ ϊ a q=>mul_int q a.ok
theorem zk4:Ac X (binaryOp .Mod)<|rI (λϊ j=>j≠0) λi j=>.int<|i.fmod j:=IL λϊ ϊ ϊ ϊ ϊ ϊ ϊ a q=>mod_int' a q
theorem zo6:Ac X (binaryOp .Pow)<|rI CPow λi j=>.int<|i ^ j.toNat:=IL λϊ ϊ ϊ ϊ ϊ ϊ ϊ a q=>pow_int_small a.1 a.2.1 a.2.2 q
theorem zo4:Ac X (binaryOp .RShift)<|rI (λϊ j=>0<=j) λi j=>.int<|i / 2 ^ j.toNat:=IL λi j ϊ ϊ ϊ ϊ ϊ a q=>
 rshift_int a (by grind)
theorem zoa:Ac X (binaryOp .BitAnd)<|Eo λi j=>.int<|Builtin.bitAnd i j:=Lu λϊ ϊ ϊ ϊ ϊ ϊ ϊ q=>and_int q
theorem op_or:Ac X (binaryOp .BitOr)<|Eo λi j=>.int<|Builtin.bitOr i j:=Lu λϊ ϊ ϊ ϊ ϊ ϊ ϊ q=>or_int q
def unI{g:Int->Int}
  (a:∀(i ) (t ) (s ) (Q ) (E ),Q (.int (g i) s.toks) { s with toks:=s.toks+1 }->wpAny (model X.prog X.w) X.A (f<|.int i t) Q E s) :
  K2 X f (rU λi=>.int<|g i):=by
 intro c s O H x v Q I b h;let(i,rfl,q):=h;let(t,rfl):=b;exact a i t s _ _ {.int<|g i,H,I.tok _,{_,rfl},q}
theorem zm2:K2 X (unaryOp .USub)<|rU λi=>.int<|-i:=unI λϊ ϊ ϊ ϊ ϊ q=>neg_int q
def KI{O:St}(I:Inv X pz O H s)(q:Q (.bl k) H)(e:k=k'):EP X pz O Q (.bool k') s:=by
 subst e;exact{.bl k,H,I,rfl,q}
theorem op_lt:Ac X (compareOp .Lt)<|Eo λi j=>.bl<|decide (i<j):=Lv λϊ ϊ ϊ ϊ ϊ ϊ ϊ q=>lt_int q
theorem Vk:Ac X (compareOp .LtE)<|Eo λi j=>.bl<|decide (i<=j):=Lv λϊ ϊ ϊ ϊ ϊ ϊ ϊ q=>le_int q
theorem op_gt:Ac X (compareOp .Gt)<|Eo λi j=>.bl<|decide (j<i):=Lv λϊ ϊ ϊ ϊ ϊ ϊ ϊ q=>gt_int q
theorem op_ge:Ac X (compareOp .GtE)<|Eo λi j=>.bl<|decide (j<=i):=Lv λϊ ϊ ϊ ϊ ϊ ϊ ϊ q=>ge_int q
def zeg:Ac X (compareOp .In) (λx y H Q=>∃i j,x=.str i/\y=.str j/\Q (.bl<|!(Builtin.Str.occurrences j i 0 j.length 1).isEmpty) H):=by
 intro c s O H x y v u Q I a b h;let(i,j,rfl,rfl,q):=h;let(t,rfl):=a;let(d,rfl):=b;exact in_str<|KI I q rfl
def zo7:Ac X (compareOp .Is)<|λx y H Q=>y=.non/\Q (.bl<|decide (x=.non)) H:=by
 intro c s O H x y v u Q I a b h;let(rfl,q):=h;cases b;refine is_none_gen<|KI I q ?_
 cases x<;>first
  |rfl
  |(let(t,rfl):=a;rfl)
def zk1:Ac X (compareOp .IsNot)<|λx y H Q=>y=.non/\Q (.bl<|!decide (x=.non)) H:=by
 intro c s O H x y v u Q I a b h;let(rfl,q):=h;cases b;refine isnot_none_gen<|KI I q ?_
 cases x<;>first
  |rfl
  |(let(t,rfl):=a;rfl)
def Ac.or(h:Ac X f r)(d:Ac X f r'):Ac X f<|λx y H Q=>r x y H Q\/r' x y H Q:=by
 intro a s O H x y v u Q I b c q;rcases q with q|q;exact h a s O H x y v u Q I b c q;exact d a s O H x y v u Q I b c q
def zjx(i:Ac X (compareOp op) r)(e:PE X a ta)(f:PE X b tb)(g:behindInMarks op b=false):PE X (.Compare a [op] [b] pos)<|IA r ta tb:=by
 intro j s O H Q I h;exact wpAny_Compare1 (Sx e f I h λv u m x y c d k l q=>i j m O c x y v u Q d k l q) g
def UI(t:TE):TT:=λO H Q=>t O H λx a=>∃k,x=.bl k/\Q k a
def zjl(j:Ac X (compareOp op) r)(f:PE X a ta)(g:PE X b tb)(i:behindInMarks op b=false):PT X (.Compare a [op] [b] pos)<|UI<|IA r ta tb:=by
 intro d s O H Q I h
 refine wpAny_isTrue_Compare1 (AZ (f d s O H _ I h) λv s1 ⟨x,H1,I1,r1,q1⟩=>AZ (g d s1 O H1 _ I1 q1) λu l ⟨y,H2,I2,r2,q2⟩=>
  AZ (j d l O H2 x y v u _ I2 r1 r2 q2) λc m ⟨z,H3,I3,r3,k,e,q3⟩=>?_) i
 subst e;cases r3;exact Ą {(H3),I3,q3}
def OD(r e:R2)(f g h:TE):TE:=λO H Q=>f O H λx b=>g O b λy c=>r x y c λz a=>∃k,z=.bl k /\
 (if k=true then h O a λi d=>e y i d Q else Q (.bl false) a)
def zgx(n:Ac X (compareOp op) r)(g:Ac X (compareOp op') r')(i:PE X a ta)(j:PE X b tb)(l:PE X c tc)
  (m:lastMarks [op,op'] [b,c]=false):PE X (.Compare a [op,op'] [b,c] pos)<|OD r r' ta tb tc:=by
 intro f s O H Q I h
 refine Compare_chain (AZ (i f s O H _ I h) λv s1 ⟨x,H1,I1,r1,q1⟩=>chain_link (AZ (j f s1 O H1 _ I1 q1) λu o ⟨y,H2,I2,r2,q2⟩=>
  AZ (n f o O H2 x y v u _ I2 r1 r2 q2) λd p ⟨z,H3,I3,r3,k,e,q3⟩=>?_)) m
 subst e;cases r3;refine Ą ?_;cases k with
 |false=>exact ite_ff {.bl false,H3,I3,rfl,q3}|true=>exact ite_tt<|chain_last<|AZ (l f p O H3 _ I3 q3) λt q ⟨w,H4,I4,r4,q4⟩=>g f q O H4 y w u t Q I4 r2 r4 q4
def zgp(t:Ac X (compareOp op) r)(g:Ac X (compareOp op') r')(n:PE X a ta)(o:PE X b tb)(p:PE X c tc)
  (q:lastMarks [op,op'] [b,c]=false):PT X (.Compare a [op,op'] [b,c] pos)<|UI<|OD r r' ta tb tc:=by
 intro f s O H Q I h
 refine isTrue_chain (AZ (n f s O H _ I h) λv s1 ⟨x,H1,I1,r1,q1⟩=>test_link (AZ (o f s1 O H1 _ I1 q1) λu C ⟨y,H2,I2,r2,q2⟩=>
  AZ (t f C O H2 x y v u _ I2 r1 r2 q2) λd D ⟨z,H3,I3,r3,k,e,q3⟩=>?_)) q
 subst e;cases r3;refine Ą ?_;cases k with
 |false=>let(L,l,w):=q3;cases l;exact ite_ff {(H3),I3,w}
 |true=>
  refine ite_tt<|test_last<|AZ (p f D O H3 _ I3 q3) λF E ⟨G,H4,I4,r4,q4⟩=>AZ (g f E O H4 y G u F _ I4 r2 r4 q4) λK N J=>?_
  let(P,i,j,B,M,m,A):=J;subst m;cases B;exact Ą {(i),j,A}
def Jr:(sizeLine:Nat)<2 ^ 63:=by rw[Ę];decide
def zdh:Ac X (binaryOp .Add) (λx y H Q=>∃i j,x=.str i/\y=.str j/\i.length+j.length<=sizeLine/\Q (.str<|i++j) H):=by
 intro e s O H x y v u Q I b c h;let(i,j,rfl,rfl,a,q):=h;let(t,rfl):=b;let(d,rfl):=c;exact add_str (λd tk=>{.str<|i++j,H,I.tok _,{_,rfl},q}) a
def Ej(r:A4 [x] us):∃u,us=[u]/\A6 x u:=by
 cases r with
 |cons r1 a=>cases a;grind
def Gw(r:A4 [x,y] us):∃u w',us=[u,w']/\A6 x u/\A6 y w':=by
 cases r with
 |cons r1 a=>
  cases a with
  |cons b r4=>cases r4;grind
def zid:Be X (.builtin "abs") (λxs H Q=>∃i,xs=[.int i]/\Q (.int (if i<0 then -i else i)) H):=by
 intro a s O H xs b Q I r h;let(i,rfl,q):=h;let(u,rfl,t,rfl):=Ej r;exact call_abs_int λu tk=>{.int (if i<0 then -i else i),H,I.tok _,{_,rfl},q}
def zfs(b:X.calm=true):Be X (.builtin "max") (λxs H Q=>∃i j,xs=[.int i,.int j]/\Q (.int (if j > i then j else i)) H):=by
 intro d s O H xs f Q I r h;let(i,j,rfl,q):=h;let(u,g,rfl,(t,rfl),(e,rfl)):=Gw r;refine max_two_ints (I.ok.hd b) λc tk k=>{_,H,I.kept k,?_,q}
 by_cases a:j > i;rw[if_pos a,if_pos a];exact{_,rfl};rw[if_neg a,if_neg a];exact{_,rfl}
def zfr(b:X.calm=true):Be X (.builtin "min") (λxs H Q=>∃i j,xs=[.int i,.int j]/\Q (.int (if j<i then j else i)) H):=by
 intro d s O H xs f Q I r h;let(i,j,rfl,q):=h;let(u,g,rfl,(t,rfl),(e,rfl)):=Gw r;refine min_two_ints (I.ok.hd b) λc tk k=>{_,H,I.kept k,?_,q}
 by_cases a:j<i;rw[if_pos a,if_pos a];exact{_,rfl};rw[if_neg a,if_neg a];exact{_,rfl}
def aE:Be X (.type "int") (λxs H Q=>(∃i,xs=[.int i]/\Q (.int i) H)\/∃k,xs=[.bl k]/\Q (.int (if k then 1 else 0)) H):=by
 intro a s O H xs b Q I r h;rcases h with ⟨i,rfl,q⟩|⟨k,rfl,q⟩;let(u,rfl,t,rfl):=Ej r;exact call_int_int {.int i,H,I,{_,rfl},q};let(u,rfl,r1):=Ej r;cases r1;exact call_int_bool {.int (if k then 1 else 0),H,I.tok _,{_,rfl},q}
def LenV(K:k6)(x:V)(H:Hp)(n:Nat):Prop:=
 match x with
 |.str y=>y.length<=sizeLine/\n=y.length|.byt y=>y.size<=sizeLine/\n=y.size|.ref p=>(∃xs,Ab K H p xs/\n=xs.length)\/∃xs,CD K H p xs/\n=xs.length|ϊ=>False
def aC:Be X (.builtin "len") (λxs H Q=>∃x n,xs=[x]/\LenV X.K x H n/\Q (.int n) H):=by
 intro o s O H xs v Q I r h;let(x,n,rfl,e,q):=h;let(u,rfl,i):=Ej r;have l:=Jr;have m :=Ę;cases x with
 |str y=>let(t,rfl):=i;let(j,b):y.length<=sizeLine/\n=y.length:=e;subst b;exact len_str (by lia) {.int _,H,I.tok _,{_,rfl},q}
 |byt y=>let(t,rfl):=i;let(j,b):y.size<=sizeLine/\n=y.size:=e;subst b;exact W.len_bytes (by lia) {.int _,H,I.tok _,{_,rfl},q}
 |ref p=>
  cases i;have b :=e
  rcases b with ⟨xs,c,b⟩|⟨xs,c,b⟩;subst b;let(d,g,f,k):=I.list c;have a:=g.length;exact Calls.call_len_list f.isList (by erw[ó];lia) {.int xs.length,H,I.tok _,{_,by erw[ó];rw[a]},q}
  subst b;let(d,g,f,k):=I.tuple c;have a:=g.length;exact len_tuple f (by grind) {.int xs.length,H,I.tok _,{_,by erw[ó];rw[a]},q}
 |_=>exact(e).elim
end
structure ObjM(h:Heap)(x dx C:Addr)(mA:Str->Option Value):Prop where
 obj:h.get? x=↑(W.instObj C dx)
 ns:h.Ns1 dx mA
 ne:dx≠x
def zes{h:Heap}(n:h.Ns1 dx mA):∃od,h.get? dx=↑od/\∀name,W.lookIn name od=↑(mA name):=by
 let(o,c,i,f,hd,hk,_,d):=n;refine{o,f,λname=>?_};have e:=d name;unfold nsFind findBy at e;rw[<- Array.find?_toList]at e;unfold W.lookIn;rw[hd];dsimp only;split;grind
 have a:c.toList.any (·.refKey)=false:=by
  rw[List.any_eq_false];intro y g;let(z,t,b):=hk y<|Array.mem_toList_iff.mp g;simp[DictEntry.refKey,b]
 grind
def ObjM.look(I:ObjM h x dx C mA):∃od,PySem.W.InstAt h x (W.instObj C dx) C ↑od/\∀name,W.lookIn name od=↑(mA name):=
 let ⟨od,ho,hl⟩:=zes I.ns
 {od,{(I.obj),rfl,rfl,ho},hl}
section
variable {prog:Program}{w:World}{A:Around}{E:Value->Shared->Prop}{s:Shared}{K:k6}{x dx C f:Addr}{mA:Str->Option Value}{name:Str}{v:Value}
def zl9(X:K.In s.heap)(I:ObjM s.heap x dx C mA)(c:W.plainGet K C name=true)(hh:W.hasDictIn K C=true)
  (b:W.findIn K (.ref C) name=↑none) (e:mA name=↑v) (a:W.handedIn v=true) (h:Q v { s with toks:=s.toks+1 }) :
  wpAny (model prog w) A (getAttr (.ref x) name expr) Q E s:=by
 let(f,Γ,d):=I.look;exact W.get_value X Γ (ũ c).1 (W.findObj_own hh b rfl<|by rw[d,e]) a h
def zhu(X:K.In s.heap)(I:ObjM s.heap x dx C mA)(a:W.plainGet K C name=true)
  (b:W.findIn K (.ref C) name=↑(↑(.ref f))) (c:W.isFn K (.ref f)=true) (g:mA name=none) (h:Q (.ref f,[.ref x]) s) :
  wpAny (model prog w) A (getMethod (.ref x) name pl) Q E s:=by
 let(d,Γ,e):=I.look;exact W.method_fn X Γ (ũ a).1 (ũ a).2 b (beq_iff_eq.mp c) (by show(W.lookIn name d).map (·.isSome)=↑false;grind) h
def zj1(X:K.In s.heap)(I:ObjM s.heap x dx C mA)
  (m:W.findIn K (.ref C) "__setattr__"=↑(↑(.builtin "object.__setattr__"))) (l:W.plainOver K C=true) (o:W.takerIn K C name=↑none) (hh:W.hasDictIn K C=true)
  (p:PySem.Within mA ns) (n:ns.length<=sizeLine)
  (h:∀h',ObjM h' x dx C (λy=>if y=name then ↑v else mA y)->Heap.SameBut dx s.heap h'->Q () { s with heap:=h',toks:=s.toks+2 }) :
  wpAny (model prog w) A (setAttr (.ref x) name v) Q E s:=by
 let(u,Γ,r):=I.look;refine W.set_plain X Γ m<|W.osa_open X Γ l o λb=>?_
 let(cd,k,e):=W.any_some hh;have q :=I.obj;refine Â<|Ê<|Â<|Â<|wpAny_loadPart q<|Â<|PySem.W.Looks.here (W.looks_clsIn X k) ?_;rw[e];refine Ê<|Â<|Ê<|Â ?_;refine wpAny_nsSet1 I.ns λh' a c=>?_
 let(t,j,i,g,f,d):=a.count<|PySem.Within.cons name v p;refine Â<|wpAny_lookBehind g (by rw[f];exact pastItsLine_dict<|Û d<|by grind) ?_
 exact Ê<|h _ {(c.2 _<|Ë I.ne).trans I.obj,a,I.ne} c
def zh6(X:K.In s.heap)(c:W.makesIn K C=true)
  (b:W.findIn K (.ref C) "__init__"=↑(↑(.ref f))) (a:W.typeIn K (.ref f)=↑(.type "function"))
  (h : codeAny (model prog w) (A.under<|.builtin "type.__call__" {.ref C :: vs, kw}) (.call (.ref f) {.ref (s.heap.objs.size + 1) :: vs, kw}) (PySem.W.InitBack (s.heap.objs.size + 1) R)
   { s with heap:=(s.heap.push W.emptyDict).push (W.instObj C s.heap.objs.size) }) :
  codeAny (model prog w) A (.call (.ref C) {(vs),kw}) R s:=by
 exact W.make_core (W.makes_of X c) (W.looks_findIn X b) (λself=>W.bind_fn X self a) (.inl rfl) h
end
def DW(f:Str)(v:V):List (Str×V)->List (Str×V)
 |[]=>[(f,v)]|(g,x)::r=>if g=f then (g,v)::r else (g,x)::DW f v r
theorem Xq(f g)(v):∀fs ,(DW f v fs).lookup g=if g=f then ↑v else fs.lookup g
 |[]=>by
  show List.lookup g [(f,v)]=_;grind
 |(k,x)::r=>by
  have a:=Xq f g v r;rw[show DW f v ((k,x)::r)=(if k=f then (k,v)::r else (k,x)::DW f v r) from rfl];grind
def RP(f)(v):∀fs ,f∈(DW f v fs).map (·.1)/\∀g,g∈fs.map (·.1)->g∈(DW f v fs).map (·.1)
 |[]=>{by simp[DW],λg h=>by simp at h}|(k,x)::r=>by
  let(a,b):=RP f v r;rw[show DW f v ((k,x)::r)=(if k=f then (k,v)::r else (k,x)::DW f v r) from rfl];grind
def Xy(f)(v):∀fs ,(DW f v fs).length<=fs.length+1
 |[]=>by simp[DW]|(k,x)::r=>by
  have a:=Xy f v r;rw[show DW f v ((k,x)::r)=(if k=f then (k,v)::r else (k,x)::DW f v r) from rfl];grind
def Dh.some_of(r:Dh ↑v o):∃u,o=↑u/\A6 v u:=by
 cases o with
 |none=>exact(r).elim|some u=>exact{(u),rfl,r}
def Dh.none_of(r:Dh none o):o=none:=by
 cases o with
 |none=>rfl|some u=>exact(r).elim
def zf0(r:A6 v u):W.handedIn u=true:=by
 cases v with
 |non=>cases (r);rfl|bl b=>cases (r);rfl|int i=>let(t,e):=(r);cases e;rfl
 |str x=>let(t,e):=(r);cases e;rfl
 |byt b=>let(t,e):=(r);cases e;rfl
 |flt b=>let(t,e):=(r);cases e;rfl
 |ref a=>cases (r);rfl|ty n=>cases (r);rfl
section
variable {P:Program}{w:World}{H H':Hp}{h h':Heap}{a C dx:Addr}{fs fs':List<|Str×V}
def MX(hok:HOk P w H h)(e:H a=↑(.ins C dx fs)):∃mA,ObjM h a dx C mA/\(∀f,Dh (fs.lookup f)<|mA f)/\PySem.Within mA (fs.map (·.1))/\fs.length<=1000/\H dx=↑(.own a):=by
 let(d,z,ne,ob,mA,n,r,q):=(hok a _ e);exact{mA,{(ob),n,ne},r,q,z,d}
end
structure Cls(K:k6)(C:Addr):Prop where
 pg:W.plainGet K C Str.empty=true
 hd:W.hasDictIn K C=true
 po:W.plainOver K C=true
 sa:W.findIn K (.ref C) "__setattr__"=↑(↑(.builtin "object.__setattr__"))
def Cls.get{K}(c:Cls K C)(f):W.plainGet K C f=true:=c.pg
def Cd(K:k6)(C:Addr)(f:Str):Prop:=W.findIn K (.ref C) f=↑none
def Cd.taker{K}(n:Cd K C f):W.takerIn K C f=↑none:=by
 unfold W.takerIn;rw[n];rfl
structure Meth(K:k6)(C:Addr)(m:Str)(f:Addr):Prop where
 at_:W.findIn K (.ref C) m=↑(↑(.ref f))
 fn:W.isFn K (.ref f)=true
 kp:W.keepIn K (.ref f)=true
section
variable {X:Cx}{pz:List<|Addr×Obj}{O:St}{H:Hp}{s:Shared}{a C dx:Addr}{fs:List<|Str×V}{f:Str}{v:V}{A:Around}{E:Value->Shared->Prop}
def zdt(I:Inv X pz O H s)(e:H a=↑(.ins C dx fs))(c:Cls X.K C)(n:Cd X.K C f)(l:fs.lookup f=↑v)
  (h:∀u s',Inv X pz O H s'->A6 v u->Q u s'):wpAny (model X.prog X.w) A (getAttr (.ref a) f b) Q E s:=by
 let(i,σ,r,_,_,_):=MX I.hok e;let(u,g,d):=Dh.some_of (v:=v) (o:=i f)<|by grind
 exact zl9 I.kIn σ (c.get f) c.hd n g (zf0 d)<|h u _ (I.tok _) d
def Y6(I:Inv X pz O H s)(e:H a=↑(.ins C dx fs))(c:Cls X.K C)(k:Meth X.K C m g)(l:fs.lookup m=none)
  (h:Q (.ref g,[.ref a]) s):wpAny (model X.prog X.w) A (getMethod (.ref a) m pl) Q E s:=by
 let(d,σ,r,_,_,_):=MX I.hok e;have b:d m=none:=Dh.none_of<|by grind
 exact zhu I.kIn σ (c.get m) k.at_ k.fn b h
def zde(I:Inv X pz O H s)(e:H a=↑(.ins C dx fs))(c:Cls X.K C)(n:Cd X.K C f)(v:fs.length<1000)(t:A6 y u)
  (h:∀s',Inv X pz O (upd H a<|.ins C dx<|DW f y fs) s'->Q () s'):wpAny (model X.prog X.w) A (setAttr (.ref a) f u) Q E s:=by
 let(w,σ,r,j,_,i):=MX I.hok e;have p:(fs.map (·.1)).length<=sizeLine:=by rw[À,Ę];lia
 refine zj1 I.kIn σ c.sa c.po n.taker c.hd j p λk d sb=>h _ ?_;have hd:∃o,k.get? dx=↑o:=let ⟨o,_,_,e',_⟩:=d.ns;{(o),e'};refine I.write (by rw[e];exact True.intro) (.inr i) (λb q l z=>(sb.2 b l).trans z) hd ?_
 refine{by rw[As σ.ne];exact i,?_,σ.ne,d.obj,_,d.ns,λg=>?_,λg m=>?_};have:=Xy f y fs;lia;rw[Xq];by_cases q:g=f;rw[if_pos q,if_pos q];exact t;rw[if_neg q,if_neg q];exact r g;by_cases q:g=f;rw[q];exact(RP f y fs).1;refine(RP f y fs).2 g (j g λz=>m ?_);grind
def Inv.made(I:Inv X pz O H s):Inv X pz O (upd (upd H s.heap.objs.size<|.own<|s.heap.objs.size+1) (s.heap.objs.size+1)<|.ins C s.heap.objs.size [])
  { s with heap:=(s.heap.push W.emptyDict).push (W.instObj C s.heap.objs.size) }:=by
 have a:(s.heap.push W.emptyDict).get? s.heap.objs.size=↑W.emptyDict:=ä s.heap rfl
 have d:((s.heap.push W.emptyDict).push (W.instObj C s.heap.objs.size)).get? (s.heap.objs.size+1)=↑(W.instObj C s.heap.objs.size):=by
  have:=ä (s.heap.push W.emptyDict) (o:=W.instObj C s.heap.objs.size) rfl;simp_all
 have f:(s.heap.push W.emptyDict).Ns s.heap.objs.size (λϊ=>none):={W.emptyDict,#[],_,a,rfl,(λe g=>absurd g<|by simp),λϊ=>rfl};have c:=I.laid (o:=.own<|s.heap.objs.size+1) (t':=s.toks) (λb u q=>Ñ _ q) (Ç _) {_,a};refine c.laid (λb u q=>Ñ _ q) (Nat.le_of_eq<|ă _ _) ?_;have ne:s.heap.objs.size≠s.heap.objs.size+1:=Ó<|Ĕ _;refine{by rw[As ne,Ce],ù _,ne,d,λϊ=>none,(Heap.Ns1.of_empty f).at λo q=>Ñ _ q,λϊ=>True.intro,λy h=>absurd rfl h}
theorem zls(a:attributeBase e f env (eval e env)=eval e env)
  (h:wpAny (model prog w) A (eval e env) (λo s₁=>wpAny (model prog w) A (getAttr o f true) Q E s₁) E s):wpAny (model prog w) A (eval (.Attribute e f pos) env) Q E s:=
 Attribute_any_ h (by rw[arm_eval_Attribute,a])
end
def tFld(K:k6)(d:TE)(f:Str):TE:=λO H Q=>d O H λx b=>∃a C c fs v,x=.ref a/\b a=↑(.ins C c fs)/\Cls K C/\Cd K C f/\fs.lookup f=↑v/\Q v b
def sFld(K:k6)(e g:TE)(f:Str):TS:=λD O H=>g O H λy d=>e O d λx b=>∃a C c fs,x=.ref a/\b a=↑(.ins C c fs)/\Cls K C/\Cd K C f/\fs.length<1000 /\
 D.nx O (upd b a<|.ins C c<|DW f y fs)
section
variable {X:Cx}{o e value:Expr}{f:Str}{pos pos' tpos:Pos}{ta tv:TE}
def Vf(k:PE X e ta)(j:attributeBase e f X.env (eval e X.env)=eval e X.env):PE X (.Attribute e f pos)<|tFld X.K ta f:=by
 intro m s O H Q I h;refine zls j<|AZ (k m s O H _ I h) λu s1 r=>?_
 let(x,b,d,p,a,C,t,fs,v,ex,i,c,n,l,q):=r;subst ex;obtain rfl:u=Value.ref a:=p;exact zdt d i c n l λy w g o=>{(v),b,g,o,q}
def znm(i:PE X o ta)(k:PE X value tv)(j:swapsWith value (↑(.Attribute o f pos')) pos.line X.env=pure false):PS X (.Assign [.Attribute o f pos'] value pos)<|sFld X.K ta tv f:=by
 intro b s O H D I h;refine plainObj_wpAny_Assign_Attribute (AZ (k b s O H _ I h) λu s1 ⟨y,H1,I1,ry,q⟩=>AZ (i b s1 O H1 _ I1 q) λm z t=>?_) j;let(x,v,d,r,a,C,w,fs,ex,g,c,n,l,p):=t;subst ex;obtain rfl:m=Value.ref a:=r;exact zde d g c n l ry λA e=>{O,_,e,p}
end
section
variable {X:Cx}{pz:List<|Addr×Obj}{O:St}{H:Hp}{s:Shared}{A:Around}{E:Value->Shared->Prop}{Q:Value->Shared->Prop}{c:Value}{b:Bool}
inductive TyOf(K:k6)(H:Hp):V->Value->Prop where
 |non:TyOf K H .non<|.type "NoneType"
 |bl (x:Bool):TyOf K H (.bl x)<|.type "bool"
 |int (i:Int):TyOf K H (.int i)<|.type "int"
 |str (x:Str):TyOf K H (.str x)<|.type "str"
 |flt (x:UInt64):TyOf K H (.flt x)<|.type "float"
 |lst {a:Addr} {xs:List V} (e:H a=↑(.lst xs)):TyOf K H (.ref a)<|.type "list"
 |frz {a:Addr} {o:Obj} {xs:List V} (e:H a=↑(.frz o<|.lst xs)):TyOf K H (.ref a)<|.type "list"
 |tup {a:Addr} {xs:List V} (e:H a=↑(.tup xs)):TyOf K H (.ref a)<|.type "tuple"
 |dK {a:Addr} {kvs:List<|Key×V} (e:H a=↑(.dK kvs)):TyOf K H (.ref a)<|.type "dict"
 |dT {a:Addr} {kvs:List<|List Key×V} (e:H a=↑(.dT kvs)):TyOf K H (.ref a)<|.type "dict"
 |ins {a C dx:Addr} {fs:List<|Str×V} (e:H a=↑(.ins C dx fs)) (cl:Cls K C) (ha:W.findIn K (.ref C) "__class__"=↑(↑(.builtin "object.__class__")))
   (hn:W.specialIn K (.builtin "object.__class__") "__get__"=↑(↑(.builtin "getset_descriptor.__get__"))) (htk:W.takesIn K (.builtin "object.__class__")=↑true)
   (hm:W.mroIn K C (.type "object")=↑true):TyOf K H (.ref a)<|.ref C
def RX{x:V}  (I:Inv X pz O H s)(f:A6 x u)(ty:TyOf X.K H x t)(e:W.kitOne X.K t c=↑b)(h:∀tk,Q (.bool b) { s with toks:=tk }) :
  wpAny (model X.prog X.w) A (call (.builtin "isinstance") [u,c]) Q E s:=by
 cases ty with
 |non=>cases (f);exact ï W.kitx_none I.kIn True.intro e (λz=>nomatch z) h
 |bl y=>cases (f);exact ï W.kitx_bool I.kIn True.intro e (λz=>nomatch z) h
 |int i=>let(t,q):=(f);cases q;exact ï W.kitx_int I.kIn True.intro e (λz=>nomatch z) h
 |str y=>let(t,q):=(f);cases q;exact ï W.kitx_str I.kIn True.intro e (λz=>nomatch z) h
 |flt y=>let(t,q):=(f);cases q;exact ï W.kitx_float I.kIn True.intro e (λz=>nomatch z) h
 |@lst a xs d=>cases (f);let(_,_,n,_,g):=(I.hok a _ d);exact ï Ų I.kIn {_,g,rfl} e (λz=>nomatch z) h
 |@frz a ob xs d=>cases (f);let(_,_,_,n,_,g):=(I.hok a _ d);exact ï Ų I.kIn {_,g,rfl} e (λz=>nomatch z) h
 |@tup a xs d=>cases (f);let(_,_,_,p):=(I.hok a _ d);let(o,g,j,_):=p;exact ï W.kitx_tuple I.kIn {(o),g,j} e (λz=>nomatch z) h
 |@dK a l d=>cases (f);let(_,_,J,_,p):=(I.hok a _ d);let(o,r,m,g,j,_):=p;exact ï ų I.kIn {(o),g,j.1} e (λz=>nomatch z) h
 |@dT a l d=>cases (f);let(_,_,xs,_,o,r,m,g,j,_):=(I.hok a _ d);exact ï ų I.kIn {(o),g,j.1} e (λz=>nomatch z) h
 |@ins a C D fs d cl v B k w=>cases (f);let(F,σ,_):=MX I.hok d;let(G,Γ,_):=σ.look;exact ï (W.kitx_own (cl.get _) cl.hd v B k w) I.kIn Γ e (λz=>nomatch z) h
end
structure Room(k:Nat)(A:Around):Prop where
 hd:A.handled=none
 dp:A.depth+3 * k+5<recursionLimit
 un:A.units+16 * k+200<cLine
theorem Room.mono(r:Room k A)(h:j<=k):Room j A:={r.hd,by have:=r.dp;lia,by have:=r.un;lia}
theorem Room.deeper(r:Room (k+1) A)(env):Room k<|A.deeper env:=
 {r.hd,by have:=r.dp;show A.depth+1+3 * k+5<_;lia,by have:=r.un;show A.units+3+16 * k+200<_;lia}
theorem Room.in1(r:Room (k+1) A):Room k A.in1:=
 {r.hd,by have:=r.dp;grind,by have:=r.un;grind}
def zdk{A:Around}:(A.under<|.builtin "type.__call__" {.ref C::us,kw}).depth=A.depth+1:=by
 rfl
def zdj{A:Around}:(A.under<|.builtin "type.__call__" {.ref C::us,kw}).units=A.units+1:=by
 rfl
theorem Room.make(r:Room (k+1) A)(C)(us)(kw):Room k<|A.under<|.builtin "type.__call__" {.ref C::us,kw}:=
 {r.hd,by have:=r.dp;rw[zdk];lia,by have:=r.un;rw[zdj];lia}
def Room.depth(r:Room k A):A.depth<recursionLimit:=by have:=r.dp;lia
def Room.units(r:Room k A):A.units+64<cLine:=by have:=r.un;lia
def UN:TA:=λϊ H Q=>Q [] H
def tCons(c:TE)(tr:TA):TA:=λO H Q=>c O H λx a=>tr O a λxs b=>Q (x::xs) b
section
variable {X:Cx}{e:Expr}{es:kC}{te:TE}{t:TA}{pos:Pos}
theorem Fe:PA X [] UN:=λϊ ϊ ϊ ϊ H Q I h=>Calls.spliced_nil {[],H,I,.nil,h}
def Es(f:PE X e te)(g:PA X es t)(i:starEach (e::es) X.env=(false,eval e X.env)::starEach es X.env:=by rfl):PA X (e::es)<|tCons te t:=by
 intro a b s O H Q I h;rw[i];refine Calls.spliced_cons<|AZ (f b s O H _ I h) λu s1 k=>?_
 let(x,c,d,r1,j):=k;exact AZ (g a b s1 O c _ d j) λm l ⟨xs,H2,I2,r2,q2⟩=>{x::xs,H2,I2,.cons r1 r2,q2}
def tTup(t:TA):TE:=λO H Q=>t O H λxs a=>xs.length<=sizeLine/\∀p,a p=none->Q (.ref p) (upd a p<|.tup xs)
def tLst(t:TA):TE:=λO H Q=>t O H λxs a=>xs.length<=sizeLine/\∀p,a p=none->Q (.ref p) (upd a p<|.lst xs)
def znt(h:PA X es t):PE X (.Tuple es x1 pos)<|tTup t:=by
 intro d s O H Q I c;refine wpAny_Tuple_spliced<|AZ (h pos d s O H _ I c) λf s1 ⟨xs,H1,I1,r,z,q⟩=>{by rw[<- r.length];exact z,?_}
 have a :=I1.hok.fresh<|Ç _;refine{.ref s1.heap.objs.size,upd H1 s1.heap.objs.size<|.tup xs,I1.laid (λb u e=>Ñ _ e) (Ç _) ?_,rfl,q _ a}
 exact{z,f,r,{_,ä _ rfl,rfl,_,rfl}}
def zny(h:PA X es t):PE X (.List es pos)<|tLst t:=by
 intro d s O H Q I c;refine wpAny_List_spliced<|AZ (h pos d s O H _ I c) λf s1 ⟨xs,H1,I1,r,z,q⟩=>{by rw[<- r.length];exact z,?_}
 have a :=I1.hok.fresh<|Ç _;refine{.ref s1.heap.objs.size,upd H1 s1.heap.objs.size<|.lst xs,I1.laid (λb u e=>Ñ _ e) (Ç _) ?_,rfl,q _ a}
 exact{z,f,0,r,ä _ rfl}
end
abbrev Sp:=kK->Hp->VK->XK->Prop
abbrev F7:=List Env->Hp->Shared->XK->Value->Shared->Prop
structure Env0(P:Program)(w:World)(K:k6)(mg:Str->Option Value)(base:Heap)(A:Around)(outer:List Env)(s:Shared)(H:Hp):Prop where
 frames:A.frames=↑outer
 mod:Mod K mg base
 bs:∀b o,base.get? b=↑o->s.heap.get? b=↑o/\H b=none
 bsz:base.objs.size<=s.heap.objs.size
 funs:s.heap.FunFrames base outer
 frf:∀b∈Bd outer,H b=none
 hok:HOk P w H s.heap
 bare:AllBare s.gens
def CE(outer:List Env)(P:Program)(w:World)(H:Hp)(s:Shared)(Q:VK)(u:Value)(s':Shared):Prop:=
 ∃v a,s'.os=s.os/\AllBare s'.gens/\Un (Bd outer) [] H a s.heap s'.heap/\HOk P w a s'.heap/\A6 v u/\Q v a
def CR(CX:F7)(outer:List Env)(P:Program)(w:World)(H:Hp)(s:Shared)(Q:VK)(E:XK)(r:Result)(s':Shared):Prop:=
 match r with
 |.ok (.ret u)=>CE outer P w H s Q u s'|.ok ϊ=>False|.error e=>CX outer H s E e s'
structure FnOk(P:Program)(w:World)(K:k6)(mg:Str->Option Value)(base:Heap)(CX:F7)(k:Nat)(f:Addr)(fd:FuncData)(ps:kE)(sp:Sp):Prop where
 len:∀vs H Q E,sp vs H Q E->vs.length=ps.length
 run:∀(A:Around) (outer:List Env) (s:Shared) (H:Hp) (args:Args) (us:k9) (vs:kK) (Q:VK) (E:XK),Room k A->Env0 P w K mg base A outer s H->BindsTo s fd args (ps.zip us)->A4 vs us->sp vs H Q E ->
  codeAny (model P w) A (.call (.ref f) args) (CR CX outer P w H s Q E) s
theorem FnOk.mono{K}(F:FnOk P w K mg base CX j f fd ps sp)(h:j<=k) :
  FnOk P w K mg base CX k f fd ps sp:={F.len,λA outer s H a c d Q E b=>F.run A outer s H a c d Q E<|b.mono h}
theorem Env0.make{w:World}{K}{s:Shared}{H:Hp}(e:Env0 P w K mg base A outer s H)(C:Addr)(us)(kw) :
  Env0 P w K mg base (A.under<|.builtin "type.__call__" {.ref C::us,kw}) outer s H:={by first|exact e.frames|rfl,e.mod,e.bs,e.bsz,e.funs,e.frf,e.hok,e.bare}
theorem Env0.in1{w:World}{K}{H:Hp}(e:Env0 P w K mg base A outer s H) :
  Env0 P w K mg base A.in1 outer s H:={(e.frames),e.mod,e.bs,e.bsz,e.funs,e.frf,e.hok,e.bare}
section
variable {X:Cx}{pz:List<|Addr×Obj}{O:St}{H:Hp}{s s':Shared}
theorem Inv.env0(I:Inv X pz O H s):Env0 X.prog X.w X.K X.mg X.base X.A X.stack s H:=
 {I.ok.frames,I.ok.mod,I.bs,Û I.ok.bsz I.sz,I.stack,I.stkFree,I.hok,I.bare}
def Inv.after(I:Inv X pz O H s)(h:CE X.stack X.prog X.w H s Q u s'):EP X pz O Q u s':=by
 let(v,c,os,bare,un,hok,r,q):=h;let(hh,g,d,t,a):=s';obtain rfl:a=s.os:=os;exact{v,c,I.call un hok bare<|λb z=>absurd z<|by simp,r,q}
end
def UY(sp:Sp)(dvs:kK)(E:XK)(t:TA):TE:=λO H Q=>t O H λb a=>sp (b++dvs) a Q E
def C6(K:k6)(fd:FuncData)(ps:kE)(ds:k9):Prop:=
 ∀(s:Shared) (a:k9),K.In s.heap->(a++ds).length=ps.length->BindsTo s fd {a,[]} (ps.zip<|a++ds)
theorem C6.all{K }   (h:∀us ,us.length=ps.length->bindArgs fd {us,[]}=pure (ps.zip us)):C6 K fd ps []:=λs us ϊ a=>by
 rw[ċ]at a ⊢;exact .of_eq<|h us a
def TV(CX:F7)(X:Cx)(E:XK):Prop:=∀(b:List<|Addr×Obj) (O:St) (H:Hp) (s:Shared) (e:Value) (a:Shared),Inv X b O H s->CX X.stack H s E e a->X.xe e a
section
variable {X:Cx}{CX:F7}{k:Nat}{f C:Addr}{fd:FuncData}{ps:kE}{sp:Sp}{dvs:kK}{ds:k9}{E:XK}{x m:Str}{p pos apos:Pos}{e o:Expr}{es:kC}{ta:TE}{t:TA}
def zmu{O:St}   {Q:VK}   (F:FnOk X.prog X.w X.K X.mg X.base CX k f fd ps sp)(g:Room k X.A)(c:C6 X.K fd ps ds)(hd:A4 dvs ds)(i:TV CX X E)
  (I:Inv X pz O H s) (r:A4 vs us) (h:sp (vs++dvs) H Q E):wpAny (model X.prog X.w) X.A (call (.ref f) us) (EP X pz O Q) X.xe s:=by
 have b :=r.append hd;have d:(us++ds).length=ps.length:=by rw[<- b.length];exact F.len _ _ _ _ h
 refine ę<|ý (F.run X.A X.stack s H {us,[]} (us++ds) (vs++dvs) Q E g I.env0 (c s us I.kIn d) b h) λr j a=>?_
 cases r with
 |error e=>exact i pz O H s e j I a|ok fl=>
  cases fl with
  |ret u=>exact I.after a|next=>exact False.elim a|brk=>exact False.elim a|cont=>exact False.elim a
def zjy(F:FnOk X.prog X.w X.K X.mg X.base CX k f fd ps sp)(l:Room k X.A)(i:Gl X x)(j:X.mg x=↑(.ref f))(hk:W.keepIn X.K (.ref f)=true)(d:C6 X.K fd ps ds)(hd:A4 dvs ds)(m:TV CX X E)
  (c:PA X (e::es) t) (a:(x == "__debug__")=false) (g:starEach (e::es) X.env=(false,eval e X.env)::starEach es X.env) (b:(backTo pos<|starEach es X.env).any (·.1)=false) :
  PE X (.Call (.Name x p) (e::es) [] pos) (UY sp dvs E t):=by
 intro n s O H Q I h;refine ĭ<|Jt I i j ?_ a;refine ŉ I.ok.mod.kin hk (AZ (c pos n s O H _ I h) λo s1 ⟨u,H1,I1,r,q⟩=>{I1.kIn,?_}) g b
 exact zmu F l d hd m I1 r q
structure Mk(K:k6)(C f:Addr):Prop where
 makes:W.makesIn K C=true
 init:W.findIn K (.ref C) "__init__"=↑(↑(.ref f))
 fn:W.isFn K (.ref f)=true
 kp:W.keepIn K (.ref C)=true
end
section
variable {X:Cx}{CX:F7}{k:Nat}{f C:Addr}{fd:FuncData}{ps ks:kE}{sp:Sp}{E:XK}{x m:Str}{p pos apos kpos:Pos}{e o:Expr}{es:kC}{kws:List Keyword}{te ta:TE}{t tk:TA}{nm:Option Str}
variable {g:k9->k9->k9}{gV:kK->kK->kK}
end
structure FnScope(N P:kE)(sc:Scope):Prop where
 kind:sc.kind=.function
 co:sc.isCoroutine=false
 gen:sc.isGenerator=false
 nd:N.Nodup
 pre:N.take P.length=P
 par:∀x∈P,sc.names.lookup x=↑.local\/sc.names.lookup x=↑.cell
 nofree:∀y∈sc.names,y.2≠.free
def aV{kindOf}:∀{binds} {m},(∀v,(x,v)∉binds)->bindL kindOf binds m x=m x
 |[],ϊ,ϋ=>rfl|(n,v)::r,m,h=>by
  unfold bindL;rw[aV λw a=>h w<|Ì _ a];split;grind;rfl
def aY{kindOf}:∀{binds} {m},(∀v,(x,v)∉binds)->bindC kindOf binds m x=m x
 |[],ϊ,ϋ=>rfl|(n,v)::r,m,h=>by
  unfold bindC;rw[aY λw a=>h w<|Ì _ a];split;rfl;grind
def aX{kindOf}{x:Str}{v}:∀{P:kE} {vs} {i:Nat} {m},P.Nodup->P[i]?=↑x->vs[i]?=↑v->kindOf x=↑.local ->
  bindL kindOf (P.zip vs) m x=↑v
 |[],ϊ,ϋ,ό,ύ,h,ώ,Ϗ=>by simp at h|ϊ::ϋ,[],ό,ύ,ώ,Ϗ,h,ϐ=>by simp at h|p::P,w::vs,0,m,nd,a,b,hk=>by
  simp at a b;subst a;subst b;show bindL kindOf ((p,w)::P.zip vs) m p=_;unfold bindL;rw[aV λv c=>(ĸ.mp nd).1 (List.of_mem_zip c).1,if_pos hk]
  simp
 |p::P,w::vs,i+1,m,nd,a,b,hk=>by
  unfold bindL;exact aX (i:=i) (ĸ.mp nd).2 (by grind) (by grind) hk
def bA{kindOf}{x:Str}{v}:∀{P:kE} {vs} {i:Nat} {m},P.Nodup->P[i]?=↑x->vs[i]?=↑v->kindOf x≠↑.local ->
  bindC kindOf (P.zip vs) m x=↑v
 |[],ϊ,ϋ,ό,ύ,h,ώ,Ϗ=>by simp at h|ϊ::ϋ,[],ό,ύ,ώ,Ϗ,h,ϐ=>by simp at h|p::P,w::vs,0,m,nd,a,b,hk=>by
  simp at a b;subst a;subst b;show bindC kindOf ((p,w)::P.zip vs) m p=_;unfold bindC;rw[aY λv c=>(ĸ.mp nd).1 (List.of_mem_zip c).1,if_neg hk]
  simp
 |p::P,w::vs,i+1,m,nd,a,b,hk=>by
  unfold bindC;exact bA (i:=i) (ĸ.mp nd).2 (by grind) (by grind) hk
def start(N:kE)(vs:kK):St:=vs.map some++List.replicate (N.length - vs.length) none
def FG(CX:F7)(P:Program)(w:World)(K:k6)(mg:Str->Option Value)(base:Heap)(N:kE)(b:Str)(a:Scope)(f:Addr)(cd:Value)(A:Around)(outer:List Env)(s:Shared)(H:Hp)(E:XK):Cx where
 prog:=P
 w:=w
 K:=K
 mg:=mg
 base:=base
 A:=A.deeper (envOfC b a s.heap.objs.size f cd)
 N:=N
 s₀:=s
 H₀:=H
 env:=envOfC b a s.heap.objs.size f cd
 outer:=outer
 stack:=envOfC b a s.heap.objs.size f cd::outer
 ex:=[]
 calm:=true
 fn:=λϊ=>true
 pn:=[]
 xe:=λe g=>wpAny (model P w) (A.deeper<|envOfC b a s.heap.objs.size f cd) (leaving (envOfC b a s.heap.objs.size f cd) e) (λϊ c=>CX outer H s E e c) (λd c=>CX outer H s E d c) g
def aA{a:Scope}(h:a.names.lookup x=↑.cell):∃c,(cellsFrom n a.names []).lookup x=↑c:=by
 have q:=W.cellsFrom_some a.names n []<|.inl h;exact Ł.mp q
def zex{CX:F7}{P:Program}{w:World}{K:k6}{base:Heap}{N ps:kE}{g:Str}{d:Scope}{f:Addr}{cd:Value}{A:Around}{s s1:Shared}{H:Hp}{E:XK}{vs:kK}
  (S:FnScope N ps d) (hd:A.handled=none) (l:Env0 P w K mg base A outer s H) (L:vs.length=ps.length) (r:A4 vs us)
  (x:InCallC s s.heap.objs.size (bindL (envOfC g d s.heap.objs.size f cd).kindOf (ps.zip us) λϊ=>none) (cellsFrom (s.heap.objs.size+1) d.names []) (bindC (envOfC g d s.heap.objs.size f cd).kindOf (ps.zip us) λϊ=>none) s1) :
  Inv (FG CX P w K mg base N g d f cd A outer s H E) [] (start N vs) H s1:=by
 have G :=by have:=congrArg List.length S.pre;rw[Ă]at this;lia
 let(B,tk,rfl,hk):=x.done;have n:∀b ,b∉(FG CX P w K mg base N g d f cd A outer s H E).ex:=λb z=>absurd (show b∈[] from z)<|by simp
 refine{{l.mod,S.kind,rfl,rfl,Ç _,λy z c B j=>?_,λy m=>?_,λy c ϊ h=>?_,λϊ=>hd,Around.frames_deeper l.frames,.inr {(rfl),rfl},λb z=>absurd z<|n b,l.bs,l.bsz,λb ϊ ϊ=>n b,λb z=>absurd z<|n b,l.funs,l.frf},
  rfl,l.bare,Un.kept hk,{_,x.toInCall.ns,λi y v B j J=>?_},λy c h=>{_,x.cell y c h},l.hok.fresh<|Ç _,λy c h=>?_,λp o=>absurd (show p∈[] from o) (by simp),l.hok.kept hk,?_}
 exact name_of_addr x.apart (Ē B)<|Ē j
 have m :=m;rcases m with m|m;exact aA m;exact absurd rfl<|S.nofree _<|Ē m
 exact Ĩ<|x.above y c<|Ē h
 have C:i<vs.length:=by
  unfold start at j;by_cases C:i<vs.length;exact C;rw[ğ<|by simpa using C]at j;rw[ş]at j;split at j<;>cases j
 have F:vs[i]?=↑v:=by
  unfold start at j;rw[ÿ (by simpa using C),È]at j;cases e:vs[i]? with
  |none=>rw[e]at j;cases j|some a=>rw[e]at j;cases j;rfl
 let(u,D,I):=r.get F
 have o:ps[i]?=↑y:=by
  rw[<- S.pre,List.getElem?_take_of_lt<|by lia];exact B
 have t:ps.Nodup:=by rw[<- S.pre];exact S.nd.sublist<|List.take_sublist _ _
 refine{u,I,?_};rcases S.par y (ì o) with k|k;exact .inl {k,aX t o D k};let(c,e):=aA k;refine .inr {.inl k,c,e,?_};have q:=x.cell y c e;rw[bA t o D (by show d.names.lookup y≠_;rw[k];decide)]at q
 exact q;exact l.hok.fresh<|Ĩ<|x.above y c<|Ē h
 unfold start;show _=N.length;rw[à,À,Ť]
 lia
def Rk{CX:F7}   {K }   {k:Nat}{f:Addr}     {F kV h G a ct T:Value}
   {sp:Sp} (lk:K.lookup f=↑{T,od,.func<|W.fnOf name qual params body scope F kV h G an a ct,osl}) (m:W.codeIn K a qual=true) (S:FnScope N ps scope)
  (len:∀vs H Q E,sp vs H Q E->vs.length=ps.length)
  (c : ∀ (A : Around) (outer ) (s : Shared) (H : Hp) (vs : kK) (Q : VK) (E : XK), Room k (A.deeper<|envOfC qual scope s.heap.objs.size f a) -> sp vs H Q E ->
   ∃t,B9 (FG CX P w K mg base N qual scope f a A outer s H E) body t/\t { nx:=λϊ H'=>Q .non H',rt:=Q } (start N vs) H) :
  FnOk P w K mg base CX (k+1) f (W.fnOf name qual params body scope F kV h G an a ct) ps sp:=by
 refine{len,λA outer s H D U vs Q E p i J r j=>?_};have M:=len _ _ _ _ j;have C :=i.mod.kin.keeps λb o e=>(i.bs b o e).1
 have Bj :=i.mod.nolimit.keeps λb o e=>(i.bs b o e).1
 have d:∀y∈ps.zip U,scope.names.lookup y.1=↑.local\/(scope.names.lookup y.1=↑.cell/\((cellsFrom (s.heap.objs.size+1) scope.names []).lookup y.1).isSome=true):=λ⟨n,v⟩ hy=>by
  rcases S.par n (List.of_mem_zip hy).1 with q|q;exact .inl q;exact .inr {q,W.cellsFrom_some _ _ _<|.inl q}
 refine codeAny_call_function p.depth (C _ _ lk) rfl S.co S.gen rfl (W.codeRec_of C m)<|J _ _ _ _ ?_;refine wpAny_newFunctionEnv_cells S.kind d λenv L s1 x=>?_
 subst L;refine{Bj.keeps x.toInCall.keep,codeAny_func ?_};let(t,R,O):=c A outer s H vs Q E (p.deeper _) j;have I:Inv (FG CX P w K mg base N qual scope f a A outer s H E) [] (start N vs) H s1:=zex S p.hd i M r x;refine ê (R [] s1 (start N vs) H _ I O) (λfl B g=>?_) λe B g=>g
 have BD:∀{l } {H' } {v } {u },Inv (FG CX P w K mg base N qual scope f a A outer s H E) [] l H' B->A6 v u->Q v H'->CE outer P w H s Q u B:=
  λ{l H' v u} Γ z q=>{(v),H',Γ.os,Γ.bare,Γ.base,Γ.hok,z,q}
 cases fl with
 |ret u=>let(v,l,H',Γ,z,q):=g;exact BD Γ z q
 |next=>let(l,H',Γ,q):=g;exact BD (v:=V.non) Γ rfl q
 |brk=>let(_,_,_,q):=g;exact False.elim q
 |cont=>let(_,_,_,q):=g;exact False.elim q
section
variable {X:Cx}{x:Str}{p pos:Pos}{e:Expr}{es:kC}{t:TA}{id T:String}{r:kK->Hp->VK->Prop}
def UZ(r:kK->Hp->VK->Prop)(t:TA):TE:=λO H Q=>t O H λb a=>r b a Q
def Lm(f:Be X (.builtin id) r)(i:Gl X x)(j:X.mg x=none)(l:bootBuiltins x=↑(.builtin id))(d:PA X (e::es) t)(k:x≠"__name__")(a:(x == "__debug__")=false)
  (g:starEach (e::es) X.env=(false,eval e X.env)::starEach es X.env) (b:(backTo pos<|starEach es X.env).any (·.1)=false):PE X (.Call (.Name x p) (e::es) [] pos)<|UZ r t:=by
 intro c s O H Q I h;refine ĭ<|GD I i j l ?_ k a;exact PyProof.Rows.callWith_builtin1 (AZ (d pos c s O H _ I h) λm s1 ⟨n,H1,I1,r1,q1⟩=>f c s1 O H1 n m Q I1 r1 q1) g b
def Vg(f:Be X (.type T) r)(i:Gl X x)(j:X.mg x=none)(l:bootBuiltins x=↑(.type T))(d:PA X (e::es) t)(k:x≠"__name__")(a:(x == "__debug__")=false)
  (g:starEach (e::es) X.env=(false,eval e X.env)::starEach es X.env) (b:(backTo pos<|starEach es X.env).any (·.1)=false):PE X (.Call (.Name x p) (e::es) [] pos)<|UZ r t:=by
 intro c s O H Q I h;refine ĭ<|GD I i j l ?_ k a;exact Ğ (AZ (d pos c s O H _ I h) λm s1 ⟨n,H1,I1,r1,q1⟩=>f c s1 O H1 n m Q I1 r1 q1) g b
end
end L2
namespace HT
open PySem PyProof.Rows
section
open PySem.SeqAt
open PySem.AutoSeq1 (wpAny_loadPart')
open PySem.MeetsSeq PySem.MeetsSeq2 PySem.MeetsSeq3
end
section
variable {prog:Program}{w:World}{A:Around}{E:Value->Shared->Prop}{s:Shared}
def sIx(n d:Nat):kA->Nat
 |none=>d|some v=>if v<0 then (v+(n:Int)).toNat else min v.toNat n
def sIx_none(n d:Nat):sIx n d none=d:=rfl
def sIx_nat(n d k:Nat):sIx n d (↑(k:Int))=min k n:=by
 rfl
end
end HT
namespace L2
open PySem PySem.Spec PyProof.Rows
abbrev TO:=St->Hp->(kA->Hp->Prop)->Prop
def PO(X:Cx)(e:Option Expr)(t:TO):Prop:=
 ∀(b:List<|Addr×Obj) (s:Shared) (O:St) (H:Hp) (Q:kA->Hp->Prop),Inv X b O H s->t O H Q ->
  wpAny (model X.prog X.w) X.A (evalPart e X.env) (λu c=>∃o a,Inv X b O a c/\IsPart u o/\Q o a) X.xe s
def zin:TO:=λϊ H Q=>Q none H
def tPart(t:TE):TO:=λO H Q=>t O H λx a=>∃i,x=.int i/\Q ↑i a
section
variable {X:Cx}{e:Expr}{te:TE}{lo hi:Option Expr}{tl th:TO}{pos p2:Pos}
def zjr:PO X none zin:=by
 intro a s O H Q I h;exact Ê {none,H,I,.none,h}
def zjq(h:PE X e te):PO X ↑e<|tPart te:=by
 intro d s O H Q I c;refine AZ (h d s O H _ I c) λu s1 g=>?_;let(x,a,b,r1,f):=g;let(i,rfl,q):=f;let(t,rfl):=r1;exact{↑i,a,b,.int i t,q}
def Hl(X:Cx)(r:V->kA->kA->Hp->VK->Prop):Prop:=
 ∀(c:List<|Addr×Obj) (s:Shared) (O:St) (H:Hp) (x:V) (v vl e:Value) (b a:kA) (d:Addr) (Q:VK),Inv X c O H s->A6 x v->s.heap.IsSliceOf d vl e .none->IsPart vl b->IsPart e a->r x b a H Q ->
  ∃T id,typeLookup (.type T) "__getitem__"=pure (↑(.builtin id))/\s.TypeIs v T/\wpAny (model X.prog X.w) X.A (getItem v<|.ref d) (EP X c O Q) X.xe s
def Hl.or(h:Hl X r)(i:Hl X r'):Hl X<|λx lo hi H Q=>r x lo hi H Q\/r' x lo hi H Q:=by
 intro d s O H x v vl g lo hi f Q I e a b c q;rcases q with q|q;exact h d s O H x v vl g lo hi f Q I e a b c q;exact i d s O H x v vl g lo hi f Q I e a b c q
def tSl(r:V->kA->kA->Hp->VK->Prop)(d:TE)(e th:TO):TE:=λO H Q=>d O H λx a=>e O a λl b=>th O b λu c=>r x l u c Q
def Vd(w:Hl X r)(o:PE X e te)(t:PO X lo tl)(z:PO X hi th):PE X (.Subscript e (.Slice lo hi none p2) pos)<|tSl r te tl th:=by
 intro a s O H Q I h;refine Subscript_<|AZ (o a s O H _ I h) λv s1 f=>?_
 let(x,i,j,r1,B):=f;refine wpAny_Slice<|AZ (t a s1 O i _ j B) λvl D ⟨l,H2,I2,pl,q2⟩=>AZ (z a D O H2 _ I2 q2) λd c f=>?_
 let(u,g,k,A,C):=f;refine Ê ?_;have m:Inv X a O g { c with heap:=c.heap.push { cls:=.type "slice",data:=.fields #[vl,d,.none] } }:=k.kept λb ob q=>Ñ _ q
 let(T,id,n,y,p):=w a { c with heap:=c.heap.push { cls:=.type "slice",data:=.fields #[vl,d,.none] } } O g x v vl d l u c.heap.objs.size Q m r1 (Heap.IsSliceOf.new ..) pl A C;exact tail_any y n p<|by rfl
def KP(xs:kK)(a b:kA):kK:=(xs.drop<|HT.sIx xs.length 0 a).take (HT.sIx xs.length xs.length b - HT.sIx xs.length 0 a)
def zcz(xs)(lo hi):(KP xs lo hi).length<=xs.length:=by
 unfold KP;grind
end
def CV(n:Nat)(i:Int):Option Nat:=if 0<=i then (if i<n then ↑i.toNat else none) else if -(n:Int)<=i then ↑(i+n).toNat else none
def AM{α:Type}(xs:List α)(i:Int):Option α:=(CV xs.length i).bind λj=>xs[j]?
def Jv(h:CV n i=↑j):seqIndex? i n=↑j/\j<n/\-n<=i/\i<n:=by
 unfold CV at h;by_cases b:0<=i;rw[if_pos b]at h;by_cases a:i<n;rw[if_pos a]at h;have e :=Ü h;exact{by rw[seqIndex_of b a,e],by lia,by lia,a}
 grind;rw[if_neg b]at h;by_cases a:-n<=i;rw[if_pos a]at h;have e :=Ü h;exact{by rw[seqIndex_neg (by lia) a,e],by lia,a,by lia}
 grind
def TB(h:AM xs i=↑v):∃j,seqIndex? i xs.length=↑j/\xs[j]?=↑v/\j<xs.length/\-xs.length<=i/\i<xs.length:=by
 unfold AM at h;cases e:CV xs.length i with
 |none=>grind|some j=>
  let(a,b,c,d):=Jv e;grind
def CW{j:Nat}{v}(h:xs[j]?=↑v):AM xs j=↑v:=by
 have a :=(Ð.mp h).1
 have e:CV xs.length j=↑j:=by
  unfold CV;grind
 unfold AM;grind
def Kk(b:Expr):Prop:=∀o i,subscripted b false o i=operate [o,i] (getItem o i)
def Fk(X:Cx)(r:R2):Prop:=
 ∀(b a:Expr) (c:List<|Addr×Obj) (s:Shared) (O:St) (H:Hp) (x y:V) (v u:Value) (Q:VK),Inv X c O H s->A6 x v->A6 y u->r x y H Q ->
  subscripted a false v u=operate [v,u] (getItem v u)->wpAny (model X.prog X.w) X.A (subscriptTail b a v u) (EP X c O Q) X.xe s
def Kn(X:Cx)(id:String)(r:V->kK->Hp->VK->Prop):Prop:=
 ∀(a:List<|Addr×Obj) (s:Shared) (O:St) (H:Hp) (x:V) (xs:kK) (v:Value) (b:k9) (Q:VK),Inv X a O H s->A6 x v->A4 xs b->r x xs H Q ->
  wpAny (model X.prog X.w) X.A (call (.builtin id)<|v::b) (EP X a O Q) X.xe s
section
variable {X:Cx}{a b:Expr}{ta tb:TE}{pos:Pos}
def Fk.or(h:Fk X r)(g:Fk X r'):Fk X<|λx y H Q=>r x y H Q\/r' x y H Q:=by
 intro b a d s O H x y v u Q I e f q c;rcases q with q|q;exact h b a d s O H x y v u Q I e f q c;exact g b a d s O H x y v u Q I e f q c
def Kn.or{id}(h:Kn X id r)(d:Kn X id r'):Kn X id<|λx xs H Q=>r x xs H Q\/r' x xs H Q:=by
 intro a s O H x xs v c Q I b rs q;rcases q with q|q;exact h a s O H x xs v c Q I b rs q;exact d a s O H x xs v c Q I b rs q
def QF(g:Fk X r)(e:PE X a ta)(f:PE X b tb)(i:Kk b):PE X (.Subscript a b pos)<|IA r ta tb:=by
 intro j s O H Q I h;exact Subscript_<|Sx e f I h λv u m x y c d k l q=>g a b j m O c x y v u Q d k l q<|i _ _
def V7(K:k6):R2:=λx y H Q=>∃p xs i v,x=.ref p/\y=.int i/\Ab K H p xs/\AM xs i=↑v/\Q v H
def V5(K:k6):R2:=λx y H Q=>∃p xs i v,x=.ref p/\y=.int i/\CD K H p xs/\AM xs i=↑v/\Q v H
def V6:R2:=λx y H Q=>∃z i c,x=.str z/\y=.int i/\z.length<=sizeLine/\AM z.cps.toList i=↑c/\Q (.str {#[c]}) H
def YN:Fk X<|V7 X.K:=by
 intro g f D s O H x y v u Q I E F h m;let(p,xs,i,z,rfl,rfl,C,B,q):=h;cases E;let(t,rfl):=F;let(c,r,d,L):=I.list C;let(j,a,n,G,o,A):=TB B;let(w,k,e):=r.get n;have J:=r.length;have K:=Jr;have BD:EP X D O Q w s:={(z),H,I,e,q}
 by_cases l:0<=i
 have b :=by
  rw[seqIndex_of l A]at a;exact Ü a
 exact item_listR d.isList l (by lia) (by rw[b];simpa using k) BD m
 have b:(i+c.toArray.size).toNat=j:=by
  rw[seqIndex_neg (by lia) o]at a;grind
 exact subscriptTail_builtinR d.isList.typeIs slot_list_getitem.lookup
  (wpAny_getItem_list_neg d.isList (by lia) (by rw[ó]<;>lia) (by lia) (by rw[b];simpa using k) {(rfl),BD}) m
def zp8:Fk X<|V5 X.K:=by
 intro c b m s O H x y v u Q I n o h k;let(p,xs,i,z,rfl,rfl,g,f,q):=h;cases n;let(t,rfl):=o;let(l,r,d,J):=I.tuple g;let(j,B,e,C,D,E):=TB f;let(w,A,a):=r.get e;have F:=r.length;have G:=Jr;have BD:EP X m O Q w s:={(z),H,I,a,q}
 exact subscriptTail_builtinR d.typeIs slot_tuple_getitem.lookup
  (getItem_tuple (j:=j) d (by lia) (by lia) (by grind) (by grind) {(rfl),BD}) k
def zp9:Fk X V6:=by
 intro b a A s O H x y v u Q I m n h l;let(z,i,c,rfl,rfl,w,g,q):=h;let(t,rfl):=m;let(B,rfl):=n;let(j,d,o,p,e,f):=TB g;have k:z.cps.toList.length=z.length:=by simp[Str.length]
 rw[k]at d e f;have r:=Jr
 exact tail_any (Į s z t) slot_str_getitem.lookup (getItem_str (by
  grind) (by grind) {.str {#[c]},H,I.tok _,{_,rfl},q}) l
def V8(K:k6):R2:=λx y H Q=>V7 K x y H Q\/V5 K x y H Q\/V6 x y H Q
theorem zpa:Fk X<|V8 X.K:=YN.or<|zp8.or zp9
def zdi(a:k9)(n j )(u ):Obj.mapSeq (·.setIfInBounds j u) { cls:=.type "list",data:=.seq a.toArray n }={ cls:=.type "list",data:=.seq (a.set j u).toArray n }:=by
 simp[Obj.mapSeq]
def Inv.lst{a:List<|Addr×Obj}{O:St}{H:Hp}{s:Shared}{p:Addr}{xs:kK}(I:Inv X a O H s)(h:H p=↑(.lst xs)) :
  ∃(its:k9) (n:Nat),A4 xs its/\s.heap.get? p=↑{ cls:=.type "list",data:=.seq its.toArray n }/\xs.length<=sizeLine:=by
 let(z,its,n,r,e):=I.hok p _ h;grind
def Inv.lstUpd{O:St}     {c a:k9}   (I:Inv X pz O H s)(h:H p=↑(.lst xs))
  (i:s.heap.get? p=↑{ cls:=.type "list",data:=.seq c.toArray n }) (d:f { cls:=.type "list",data:=.seq c.toArray n }={ cls:=.type "list",data:=.seq a.toArray n' }) (r:A4 ys a) (j:ys.length<=sizeLine) (t:Nat) :
  Inv X pz O (upd H p<|.lst ys) { s with heap:=s.heap.update p f,toks:=t }:=by
 have e:(s.heap.update p f).get? p=↑{ cls:=.type "list",data:=.seq a.toArray n' }:=by
  rw[Ņ f i (by rw[d]<;>rfl),d]
 refine I.write (by rw[h];trivial) (.inl rfl) (λb u g q=>(Ć _ _<|Ë g).trans q) {_,e} ?_;exact{(j),a,n',r,e}
def rSetL:V->V->V->Hp->(Hp->Prop)->Prop:=λo i v H Q=>∃p xs k j,o=.ref p/\i=.int k/\H p=↑(.lst xs)/\CV xs.length k=↑j/\Q (upd H p<|.lst<|xs.set j v)
def Uj:TX X rSetL:=by
 intro F s O H o i v E D u Q I y x z h;let(p,xs,k,j,rfl,rfl,f,m,q):=h;cases y;let(t,rfl):=x;let(a,n,r,c,w):=I.lst f;let(b,A,g,l):=Jv m;have B:=r.length;have C:=Jr
 have d :=
  I.lstUpd f c (zdi a n j u) (r.set z j) (by rw[ŧ];exact w) s.toks
 by_cases e:0<=k
 have hk :=by
  rw[seqIndex_of e l]at b;exact Ü b
 exact W.ki_setAt c e (by lia) (by grind) (by rw[hk];exact{_,d,q})
 have hk:(k+a.toArray.size).toNat=j:=by
  rw[seqIndex_neg (by lia) g]at b;grind
 exact W.ki_setBack c (by lia) (by grind) (by lia) (by rw[hk];exact{_,d,q})
def zbu(lo hi)(n):(sliceBounds lo hi none n).1=HT.sIx n 0 lo/\(sliceBounds lo hi none n).2.1=HT.sIx n n hi/\(sliceBounds lo hi none n).2.2=1:=by
 refine{?_,?_,rfl};cases lo with
 |none=>simp[sliceBounds,HT.sIx]|some i=>
  erw[sliceBounds,HT.sIx,Option.getD_none,Å];grind
 cases hi with
 |none=>simp[sliceBounds,HT.sIx]|some i=>
  erw[sliceBounds,HT.sIx,Option.getD_none,Å];grind
def zbe(a:k9)(lo hi):slicePick a.toArray lo hi none=((a.drop<|HT.sIx a.length 0 lo).take (HT.sIx a.length a.length hi - HT.sIx a.length 0 lo)).toArray:=by
 let(b,c,d):=zbu lo hi a.toArray.size;unfold slicePick;rw[b,c,d];erw[sliceRange_one,pick_run]<;>rfl
def V4(K:k6):V->kA->kA->Hp->VK->Prop:=λx c b H Q=>∃a xs,x=.ref a/\Ab K H a xs/\∀p,H p=none->Q (.ref p) (upd H p<|.lst<|KP xs c b)
def ziw:Hl X<|V4 X.K:=by
 intro o s O H x v vl t d e p Q I n g l m h;let(a,xs,rfl,i,q):=h;cases n;let(k,r,f,j):=I.list i;have c:=r.length;refine{"list",_,slot_list_getitem.lookup,f.isList.typeIs,?_};refine wpAny_getItem_list_slice f.isList g l m .none (by simp) ?_<|by grind
 rw[zbe,<- c];refine{.ref s.heap.objs.size,_,I.laid (λb ob q=>Ñ _ q) (Ç _) ?_,rfl,q _<|I.hok.fresh<|Ç _};exact{Û (zcz xs d e) j,_,0,(r.drop<|HT.sIx xs.length 0 d).take (HT.sIx xs.length xs.length e - HT.sIx xs.length 0 d),ä _ rfl}
def Be.or(h:Be X f r)(c:Be X f r'):Be X f<|λxs H Q=>r xs H Q\/r' xs H Q:=by
 intro a s O H xs b Q I rs q;rcases q with q|q;exact h a s O H xs b Q I rs q;exact c a s O H xs b Q I rs q
def zcl:Be X (.type "list") (λxs H Q=>∃p ys,xs=[.ref p]/\(Ab X.K H p ys\/CD X.K H p ys)/\∀l,H l=none->Q (.ref l) (upd H l<|.lst ys)):=by
 intro w s O H xs y Q I r h;let(p,ys,rfl,i,q):=h;let(u,rfl,x):=Ej r;cases x
 have BD:∀(a ),A4 ys a->ys.length<=sizeLine->∀(c ) (d ),(∀b v,s.heap.get? b=↑v->c.get? b=↑v) ->
   c.get? s.heap.objs.size=↑{ cls:=.type "list",dict:=none,data:=.seq a.toArray d,slots:=#[] }->EP X w O Q (.ref s.heap.objs.size) { s with heap:=c }:=λa f j c d kp e=>
  {.ref s.heap.objs.size,_,I.laid kp (Ç _) (show Cp X.prog X.w _ c _ (.lst ys) from{(j),a,d,f,e}),rfl,q _<|I.hok.fresh<|Ç _}
 rcases i with i|i;let(a,f,t,j):=I.list i;have g:=f.length;let(o,m,k,n,hd):=t.isList;exact call_list_seq p (.inl rfl) m k hd (λc d kp e=>BD a f j c d kp e)<|by grind
 let(a,f,t,j):=I.tuple i;have g:=f.length;let(o,m,k,n,hd):=t;exact call_list_seq p (.inr rfl) m k hd (λc d kp e=>BD a f j c d kp e)<|by grind
def Tz(K:k6)(T:String)(x:V)(H:Hp):Prop:=match x with
 |.str ϊ=>T="str"|.int ϊ=>T="int"|.ref p=>(T="list"/\∃xs,Ab K H p xs)\/(T="tuple"/\∃o,K.lookup p=↑o/\o.cls=.type "tuple"/\o.dict=none) \/
   (T="dict"/\((∃a,H p=↑(.dK a))\/∃a,H p=↑(.dT a)))\/(T="set"/\∃S n,H p=↑(.set S n))
 |ϊ=>False
def zm3{O:St}{x:V}(I:Inv X pz O H s)(r:A6 x v)(ty:Tz X.K T x H) :
  s.TypeIs v T/\∀a,v=.ref a->∃ob,s.heap.get? a=↑ob/\ob.dict=none:=by
 cases x with
 |str z=>let(t,rfl):=r;cases (ty);exact{Į s z t,λϊ e=>nomatch e}
 |int i=>let(t,rfl):=r;cases (ty);exact{typeIs_int s i t,λϊ e=>nomatch e}
 |ref p=>
  cases r;rcases ty with ⟨rfl,xs,h⟩|⟨rfl,o,hk,g,hd⟩|⟨rfl,hk⟩|⟨rfl,S,n,hk⟩;let(j,_,f,_):=I.list h;refine{f.isList.typeIs,λa e=>?_};cases e;let(o,n,e,c,hd,_):=f;exact{(o),e,hd}
  refine{{o,I.kIn p o hk,g},λa e=>?_};cases e;exact{o,I.kIn _ o hk,hd}
  have z:∃o,s.heap.get? p=↑o/\o.ExactDict:=by
   rcases hk with ⟨d,hk⟩|⟨d,hk⟩;let(_,_,_,_,o,_,_,e,ex,_):=I.hok p _ hk;exact{(o),e,ex};let(_,_,_,_,o,_,_,e,ex,_):=I.hok p _ hk;exact{(o),e,ex}
  let(o,e,ex):=z;refine{{(o),e,ex.1},λa b=>?_};cases b;exact{(o),e,ex.2.1};let(o,_,_,_,e,ex,_):=I.hok p _ hk;refine{{(o),e,ex.1},λa b=>?_};cases b;exact{(o),e,ex.2.1}
 |_=>exact False.elim ty
def tBM(K:k6)(T:String)(r:V->kK->Hp->VK->Prop)(c:TE)(t:TA):TE:=λO H Q=>c O H λx a=>Tz K T x a/\t O a λxs b=>r x xs b Q
variable {o e:Expr}{es:kC}{to:TE}{t:TA}{name:Str}{apos cpos:Pos}{T id:String}{r:V->kK->Hp->VK->Prop}
def Ln(w:PlainAttrs T)(slot:Slot T name id)(f:typeOf (.builtin id)=pure (.type "method_descriptor"))(p:Kn X id r)(q:PE X o to)(n:PA X (e::es) t)
  (a:attributeBase o name X.env (eval o X.env)=eval o X.env)
  (c : ((backTo cpos<|starEach (e :: es) X.env).all (fun x => !x.1) && (backToKw cpos<|keywordEach [] X.env).all (fun x => x.1.isSome)
   && decide ((e::es).length+([]:List Keyword).length+(if ([]:List Keyword).isEmpty then 0 else 1)<30))=true:=by rfl)
  (b:(apos.endLine == cpos.line)=true) (u:starEach (e::es) X.env=(false,eval e X.env)::starEach es X.env) (d:(backTo cpos<|starEach es X.env).any (·.1)=false) :
  PE X (.Call (.Attribute o name apos) (e::es) [] cpos) (tBM X.K T r to t):=by
 intro g s O H Q I h;refine wpAny_Call_method_late a c b rfl<|AZ (q g s O H _ I h) λv s1 C=>?_
 let(x,k,i,r1,ty,y):=C;let(l,m):=zm3 i r1 ty;refine{T,id,w,slot,f,l,m,?_};have j:=n cpos g s1 O k _ i y;rw[u]at j ⊢;refine Calls.callWith_builtin (by grind)<|Calls.evalArgs_plain ?_
 exact AZ j λA z ⟨B,H2,I2,r2,q2⟩=>p g z O H2 x B v A Q I2 r1 r2 q2
end
def NX(X:Cx)(id:String)(r:V->kK->Hp->VK->Prop):Prop:=
 ∀(a:List<|Addr×Obj) (s:Shared) (O:St) (H:Hp) (x:V) (xs:kK) (v:Value) (b:k9) (Q:VK),Inv X a O H s->A6 x v->A4 xs b->r x xs H Q ->
  wpAny (model X.prog X.w) X.A (call (.builtin id)<|v::b) (EP X a O Q) X.xe s
def A4.one:∀{x} {us},A4 [x] us->∃u,us=[u]/\A6 x u
 |_,_,.cons r .nil=>{_,rfl,r}
def A4.two:∀{x y} {us},A4 [x,y] us->∃u v,us=[u,v]/\A6 x u/\A6 y v
 |_,_,_,.cons r (.cons q .nil)=>{_,_,rfl,r,q}
def A4.zero:∀{us:k9},A4 [] us->us=[]
 |_,.nil=>rfl
def A4.reverse(h:A4 xs us):A4 xs.reverse us.reverse:=by
 induction h with
 |nil=>exact .nil|cons r t a=>rw[List.reverse_cons,List.reverse_cons];exact A4.append a<|.cons r .nil
def A4.rep(h:A4 xs us):∀k ,A4 (List.replicate k xs).flatten (List.replicate k us).flatten
 |0=>.nil|k+1=>by
  exact A4.append h<|A4.rep h k
def Ye(its):∀(k) (acc:k9),
  List.foldl (λx1 x2=>x1++x2) acc.toArray (List.replicate k its.toArray)=(acc++(List.replicate k its).flatten).toArray
 |0,acc=>by simp|k+1,acc=>by
  have e:acc.toArray++its.toArray=(acc++its).toArray:=by simp
  have a:(acc++its)++(List.replicate k its).flatten=acc++(List.replicate (k+1) its).flatten:=by
   grind
  rw[<- a,<- Ye its k<|acc++its,<- e,List.replicate_succ,List.foldl_cons]
section
variable {X:Cx}{pz:List<|Addr×Obj}{O:St}{H:Hp}{s:Shared}{l b:Addr}{xs ys zs:kK}
def Inv.lset{b a:k9}(I:Inv X pz O H s)(c:H l=↑(.lst xs))
  (e:s.heap.get? l=↑{ cls:=.type "list",data:=.seq b.toArray n }) (g:f b.toArray=a.toArray) (i:A4 ys a) (j:ys.length<=sizeLine) :
  Inv X pz O (upd H l<|.lst ys) { s with heap:=s.heap.update l<|Obj.mapSeq f,toks:=t' }:=by
 have q:=PySem.IsL.update e f;rw[g]at q;refine I.write (by rw[c];exact trivial) (.inl rfl) (λk u d h=>(Ć s.heap (Obj.mapSeq f)<|Ë d).trans h) {_,q} ?_;exact{j,a,_,i,q}
theorem Inv.lnew(I:Inv X pz O H s)(a:A4 ys its)(b:ys.length<=sizeLine) :
  Inv X pz O (upd H s.heap.objs.size<|.lst ys) { s with heap:=s.heap.push { cls:=.type "list",data:=.seq its.toArray },toks:=t' }:=
 I.laid (λϊ ϊ q=>Ñ _ q) (Ç _) {b,its,0,a,ä _ rfl}
def Inv.fresh(I:Inv X pz O H s):H s.heap.objs.size=none:=I.hok.fresh<|Ç _
def Inv.lstM(I:Inv X pz O H s)(a:H l=↑(.lst xs)):xs.length<=sizeLine/\∃(its:k9) (n:Nat),A4 xs its/\xs.length=its.length/\s.heap.get? l=↑{ cls:=.type "list",data:=.seq its.toArray n }:=by
 let(z,its,n,r,e):=I.hok l _ a;exact{(z),its,n,r,r.length,e}
def XS(h:n<=sizeLine):Builtin.List.listTooLong n=false:=by
 exact Ù<|by lia
end
section
variable {X:Cx}
def zjh:V->kK->Hp->VK->Prop:=λx a H Q=>∃l xs y,x=.ref l/\a=[y]/\H l=↑(.lst xs)/\xs.length<sizeLine/\Q .non (upd H l<|.lst<|xs++[y])
def zen:NX X "list.append" zjh:=by
 intro j s O H x m v k Q I f d h;let(l,xs,y,rfl,rfl,b,i,q):=h;cases f;let(u,rfl,c):=d.one;let(z,a,n,r,g,e):=I.lstM b;refine Ļ F.slot_list_append {_,e,rfl} F.entry_list_append (F.args_list_append_2 _ _) (PySem.list_append l a.toArray n u<|by grind) {e,?_}
 refine{.non,_,I.lset b e (by simp) (r.append<|.cons c .nil) ?_,rfl,q};grind
def zjg:V->kK->Hp->VK->Prop:=λx c H Q=>∃l b xs a,x=.ref l/\c=[.ref b]/\H l=↑(.lst xs)/\H b=↑(.lst a)/\xs.length+a.length<=sizeLine/\Q .non (upd H l<|.lst<|xs++a)
def zem:NX X "list.extend" zjg:=by
 intro B s O H x D v C Q I w t h;let(l,b,xs,G,rfl,rfl,g,j,A,q):=h;cases w;let(u,rfl,p):=t.one;cases p;let(z,c,n,r,y,e):=I.lstM g;let(E,a,m,o,k,i):=I.lstM j;have f:c.toArray.size+a.toArray.size<=sizeLine:=by grind
 have d:¬ (!c.toArray.isEmpty && Builtin.List.listTooLong (c.toArray.size+a.toArray.size))=true:=by
  rw[XS f];simp
 refine Ļ F.slot_list_extend {_,e,rfl} F.entry_list_extend (F.args_list_extend_2 _ _)
  (AutoSeq1.list_extend_list_list_0 l c.toArray n b a.toArray m d (by lia)<|by lia) {e,i,?_}
 refine{.non,_,I.lset g e (by simp) (r.append o) ?_,rfl,q};grind
def rCat:R2:=λx y H Q=>∃l b xs a,x=.ref l/\y=.ref b/\H l=↑(.lst xs)/\H b=↑(.lst a)/\xs.length+a.length<=sizeLine/\∀p,H p=none->Q (.ref p) (upd H p<|.lst<|xs++a)
def zo9:Ac X (binaryOp .Add) rCat:=by
 intro A s O H x y v u Q I m o h;let(l,b,xs,C,rfl,rfl,i,g,t,q):=h;cases m;cases o;let(z,c,n,r,p,e):=I.lstM i;let(B,a,w,k,j,d):=I.lstM g;refine PySem.P.add_list e d ?_<|by grind
 have f:c.toArray++a.toArray=(c++a).toArray:=by simp
 rw[f];exact{.ref _,_,I.lnew (r.append k) (by grind),rfl,q _ I.fresh}
def rRep:R2:=λx y H Q=>∃l k xs,x=.ref l/\y=.int k/\H l=↑(.lst xs)/\-(2 ^ 63)<=k/\k<2 ^ 63/\xs.length * k.toNat<=sizeLine /\
 ∀p,H p=none->Q (.ref p) (upd H p<|.lst (List.replicate k.toNat xs).flatten)
def zkv{α:Type}(xs:List α)(k):(List.replicate k xs).flatten.length=k * xs.length:=by
 simp
def zo5:Ac X (binaryOp .Mult) rRep:=by
 intro J s O H x y v u Q I C D h;let(l,k,xs,rfl,rfl,A,p,w,j,q):=h;cases C;let(t,rfl):=D;let(z,b,n,r,B,e):=I.lstM A;have g:b.toArray.size * k.toNat<=sizeLine:=by rw[ó,<- B];exact j
 have d:¬ b.toArray.size * k.toNat > (2 ^ 63 - 1) / 8:=by
  have:sizeLine<=(2 ^ 63 - 1) / 8:=by decide
  lia
 have f:¬ (!Builtin.List.listFitsIndex k)=true:=by
  rw[fitsIndex_both p w];exact õ
 have c:¬ Builtin.List.listTooLong (b.toArray.size * k.toNat)=true:=by
  rw[XS g];exact õ
 have i:List.foldl (λG x2=>G++x2) #[] (List.replicate (if b.toArray.isEmpty=true then 0 else k.toNat) b.toArray)=(List.replicate k.toNat b).flatten.toArray:=by
  have o :=λm=>by
   have:=Ye b m [];rw[Ũ]at this;exact this
  rw[o];cases b with
  |nil=>simp|cons a K=>rw[if_neg<|by simp]
 refine wpAny_binaryOp_repeat_ref (by decide) {_,e,rfl} (λE=>typeIs_int E k t) noFill_list_mul F.fills_int_mul F.slot_int_rmul repeat_list F.slot_int_index.lookup
  (Ļ F.slot_int_rmul (typeIs_int s k t) F.entry_int_rmul (F.args_int_rmul_2 _ _) (int___rmul___int_list k t l b.toArray n)
   {e,rfl,{_,e,rfl},Ļ F.slot_list_mul {_,e,rfl} F.entry_list_mul (F.args_list_mul_2 _ _) (AutoListH.list___mul___list_int_3 l b.toArray n k t f d c) {e,?_}})
 rw[i];exact{.ref _,_,I.lnew (r.rep k.toNat) (by rw[zkv,Nat.mul_comm];exact j),rfl,q _ I.fresh}
variable {prog:Program}{w:World}{A:Around}{E:Value->Shared->Prop}{s:Shared}
end
section
variable {X:Cx}
end
end L2
namespace Att
open PySem PySem.W PySem.Calls PyProof.Rows
def zao:∀(ns) (vs),WellAll P h vs (ns.map WData.int)->IntsAre vs ns:=by
 intro ns
 induction ns with
 |nil=>intro vs w;cases w;exact .nil|cons n ns c=>
  intro vs w;cases w with
  |cons a b=>cases a;exact .cons _ _<|c _ b
def zec{l:OpenLaw}(t:l.most=↑n)
  (b:l.row.toRowW.claim.pre args=true) (g:WellAll P h vals args) :
  ∃a vs ns,vals=[Value.ref a]/\args=[WData.list<|ns.map WData.int]/\h.get? a=↑{ cls:=.type "list",data:=.seq vs.toArray }/\IntsAre vs ns/\ns.length<=n:=by
 have f :=(pre_splitW b).1;have o:l.pre.holds [] { args:=args }=true:=(pre_splitW b).2;let(d,r,rfl,j,k):=hasAllW_cons f;obtain rfl:=hasAllW_nil k;let(xs,rfl,m):=hasW_list j;let(ns,rfl):=items_int m
 have e:ns.length<=n:=by
  have i:(WTm.not<|.lt (.lit<|.int n)<|.len<|.arg 0).holds [] { args:=[.list<|ns.map .int] }=true:=by
   have i:=(holds_andW o).1;grind
  have s:=condW_of i<|w_not<|w_lt w_lit<|w_len_list<|w_arg rfl
  grind
 cases g with
 |cons q w2=>
  cases w2;cases q with
  |list p c=>exact{_,_,ns,rfl,rfl,p,zao ns _ c,e}
def zed(l:OpenLaw)(args):l.row.toRowW.claim.post args (.bool true) args=true:=
 postW_of
  (by rfl)
  (w_eq_bool (w_res rfl) w_lit) rfl
def attach_call{l:OpenLaw}
  (C:l.most=↑n) (i:d.params.defaults=[])
  (call : ∀ (w ) (s₀ s₁ ) (mg mb ) (fa ) (o ) (pm cd doc ) (a ) (vs ) (ns ),
   Ground q loose [] XP w s₀ mg mb s₁.heap->YP w s₁.heap ->
   s₁.heap.get? fa=↑o->o.data=.func (docDef d.name d.params d.body d.scope pm cd doc)->s₁.heap.CodeRec cd d.name->mg d.name=↑(.ref fa) ->
   s₁.heap.get? a=↑{ cls:=.type "list",data:=.seq vs.toArray }->IntsAre vs ns->ns.length<=n->s₁.gens=#[] ->
   codeAny (model l.prog w) callerA (.call (.ref fa) {[.ref a],[]}) (λr s'=>r=.ok (.ret<|.bool true)/\OldK s₁.heap s'.heap/\s'.os=s₁.os/\AllBare s'.gens) s₁) :
  WalkO q loose XP YP l.row.toRowW d [] (λf vs=>PySem.call f vs):=by
 intro w s₀ s₁ mg mb G τ fa o pm cd doc u kV D hd h p j z m t H g s F k A;obtain rfl:u=.none:=Dflts.none p i;obtain rfl:kV=.none:=Dflts.noKw p;let(a,vs,ns,rfl,rfl,e,b,c):=zec C g k;refine enter_call<|ý (call w s₀ s₁ mg mb fa o pm cd doc a vs ns G τ D (fd_plain hd) h j e b c z) λr s' E=>?_
 let(rfl,v,x,y):=E;exact{.inl {.bool true,.bool true,[],rfl,λϊ=>rfl,.bool true,zed l _,λϊ=>{List.Pairwise.nil,λϊ B=>(nomatch B)}},v,x,y}
section
variable {prog:Program}{w:World}{A:Around}{E:Value->Shared->Prop}{s:Shared}{K:Frag}
end
end Att
namespace L2
open PySem PySem.Spec PyProof.Rows
def Tt:∀{vs} {ns},IntsAre vs ns->A4 (ns.map V.int) vs
 |_,_,.nil=>.nil|_,_,.cons n t h=>.cons {(t),rfl}<|Tt h
def NW(H:Hp):Prop:=∀b,H b=none\/∃o xs,H b=↑(.frz o<|.lst xs)
def zh9{K }   {k:Nat}   {x:Str}{sp:Sp}
  (I:K.In s₁.heap) (p:s₁.heap.Ns mainGlobals mg) (f:s₁.heap.Ns builtinsNs mb) (E:∀x:Str,x≠"__name__"->mb x=bootBuiltins x) (l:s₁.heap.NoLimit) (W:s₁.gens=#[])
  (ha:s₁.heap.get? a=↑{ cls:=.type "list",data:=.seq vs.toArray }) (hi:IntsAre vs ns) (hl:ns.length<=sizeLine) (hr:Room k callerA)
  (F:∀base:Heap,K.In base->base.Ns mainGlobals mg->FnOk P w K mg base CX k fa fd [x] sp) (hbind:∀(s:Shared) (u:Value),BindsTo s fd {[u],[]} [(x,u)])
  (hsp:∀H:Hp,NW H->Ab K H a (ns.map V.int)->sp [.ref a] H (λv ϊ=>v=.bl true) λϊ ϊ ϊ=>False)
  (hCX:∀H e s',CX [] H s₁ (λϊ ϊ ϊ=>False) e s'->False) :
  codeAny (model P w) callerA (.call (.ref fa) {[.ref a],[]}) (λr s'=>r=.ok (.ret<|.bool true)/\OldK s₁.heap s'.heap/\s'.os=s₁.os/\AllBare s'.gens) s₁:=by
 have N:=Tt hi;have y:=hi.length
 have i:∀H ,NW H->Ab K H a (ns.map V.int)->HOk P w H s₁.heap->(∀b,H b≠none->b=a)->(H a≠none->K.lookup a=none) ->
   codeAny (model P w) callerA (.call (.ref fa) {[.ref a],[]}) (λr s'=>r=.ok (.ret<|.bool true)/\OldK s₁.heap s'.heap/\s'.os=s₁.os/\AllBare s'.gens) s₁:=by
  intro H M U hok L S;have c:∀{b } {o },s₁.heap.get? b=↑o->H b=none->(Gi s₁.heap H).get? b=↑o:=λe n=>Μ e n
  have G:∀{b } {o } {C } {B },s₁.heap.get? b=↑o->o.data=.dict C B->H b=none:=λ{b o C B} e d=>by
   cases q:H b with
   |none=>rfl|some u=>
    have D :=L b (by rw[q];simp);subst D;rw[ha]at e;cases e;have O :=d;cases O
  have g:∀{b } {m },s₁.heap.Ns b m->(Gi s₁.heap H).Ns b m:=λ{b m} ⟨o,C,B,e,d,r⟩=>{o,C,B,c e<|G e d,d,r}
  have j :=λb o e=>c (I b o e) (by
   cases q:H b with
   |none=>rfl|some u=>
    have D :=L b (by rw[q];simp)
    subst D;rw[S (by rw[q];simp)]at e;cases e)
  have T:Mod K mg<|Gi s₁.heap H:={j,g p,{mb,g f,E},let ⟨mc,h1,h2⟩:=l;{mc,g h1,h2}};have Q:Env0 P w K mg (Gi s₁.heap H) callerA [] s₁ H:={rfl,T,λb o e=>Ν e,Nat.le_of_eq<|Λ _ _,trivial,λb f=>absurd (show b∈[] from f) (by simp),hok,.of_eq W}
  refine ý ((F _ j<|g p).run callerA [] s₁ H {[.ref a],[]} [.ref a] [.ref a] _ _ hr Q (hbind s₁<|.ref a) (.cons rfl .nil) (hsp H M U)) λr s' h=>?_;cases r with
  |error e=>exact(hCX H e s' h).elim|ok fl=>
   cases fl with
   |next=>exact False.elim h|brk=>exact False.elim h|cont=>exact False.elim h|ret u=>
    let(v,H',os,bare,un,t,Y,q):=h;have X :=q;subst X;obtain rfl:u=Value.bool true:=Y;refine{rfl,OldK.of_keep λb o e=>?_,os,bare}
    cases q:H b with
    |none=>exact un.keep b o e q (by intro z;exact absurd (show b∈[] from z)<|by simp) (by simp)|some u=>
     rcases M b with z|⟨ob,xs,z⟩;rw[q]at z;cases z;have Z:=un.frzs b ob _ z;let(J,_):=hok b _ z;let(R,_):=t b _ Z;rw[e]at J;cases J;exact R
 cases hk:K.lookup a with
 |some o=>have e:=I a o hk;rw[ha]at e;cases e;refine i (λϊ=>none) (λϊ=>.inl rfl) (.inr {_,vs.toArray,_,hk,rfl,rfl,rfl,by rw[ó,y];exact hl,by simpa using N}) (λb u z=>by have A :=z;cases A) (λb z=>absurd rfl z) λz=>absurd rfl z|none=>
  refine i (λb=>if b=a then ↑(.frz { cls:=.type "list",data:=.seq vs.toArray }<|.lst<|ns.map V.int) else none) (λb=>?_) (.inl<|.inr {{ cls:=.type "list",data:=.seq vs.toArray },if_pos rfl}) (λb u z=>?_) (λb z=>?_) λϊ=>hk;by_cases f:b=a;exact .inr {_,_,if_pos f};exact .inl<|if_neg f
  by_cases f:b=a;have A:=(if_pos f).symm.trans z;cases A;subst f;exact{ha,by rw[À];exact hl,vs,_,N,ha};have A:=(if_neg f).symm.trans z;cases A;by_cases f:b=a;exact f;exact absurd (if_neg f) z
def walk_of{l:PySem.W.OpenLaw}{n k:Nat}     {d:DefRec}{K:Params->k6}{CX:World->F7}{sp:World->Sp}{x:Str}
  (L:l.most=↑n) (r:n<=sizeLine) (m:d.params.defaults=[]) (M:Room k callerA)
  (D:∀(w:World) (h:Heap),YP w h->(K w.params).In h)
  (F : ∀ (w : World) (mg ) (fa : Addr) (h : Heap), (K w.params).In h -> h.Ns mainGlobals mg -> mg d.name = ↑(.ref fa) ->
   ∃fd:FuncData,(∀(s:Shared) (u:Value),BindsTo s fd {[u],[]} [(x,u)]) /\
    ∀base:Heap,(K w.params).In base->base.Ns mainGlobals mg->FnOk l.prog w (K w.params) mg base (CX w) k fa fd [x] (sp w))
  (t:∀(w:World) (H:Hp) (a:Addr) (ns:kF),ns.length<=n->NW H->Ab (K w.params) H a (ns.map V.int)->sp w [.ref a] H (λv ϊ=>v=.bl true) λϊ ϊ ϊ=>False)
  (j:∀(w:World) (H:Hp) (s:Shared) (e:Value) (s':Shared),CX w [] H s (λϊ ϊ ϊ=>False) e s'->False) :
  PySem.W.WalkO q loose XP YP l.row.toRowW d [] (λf vs=>PySem.call f vs):=by
 refine Att.attach_call L m λw s₀ i mg O fa o P cd z a vs ns G τ N hd I p g c b J=>?_;have y:=D w _ τ;let(fd,E,A):=F w mg fa _ y G.T.g p;exact zh9 y G.T.g G.T.b G.T.builtins G.T.nolimit J g c (Û b r) M A E (λH B C=>t w H a ns b B C) λH e s'=>j w H i e s'
def Iy(s:Stmt):Arguments:=match s with
 |.FunctionDef ϊ a ϋ ό ύ ώ Ϗ ϐ ϑ ϒ=>a|ϊ=>{ posonlyargs:=[],args:=[],vararg:=none,kwonlyargs:=[],kw_defaults:=[],kwarg:=none,defaults:=[] }
def FE(s:Stmt):kD:=match s with
 |.FunctionDef ϊ ϋ b ό ύ ώ Ϗ ϐ ϑ ϒ=>b|ϊ=>[]
def CP(s:Stmt):Scope:=match s with
 |.FunctionDef ϊ ϋ ό ύ ώ Ϗ a ϐ ϑ ϒ=>a|ϊ=>{ kind:=.function,names:=[],isGenerator:=false,isCoroutine:=false }
abbrev F8:F7:=λϊ ϊ ϊ ϊ ϊ ϊ=>False
abbrev E0:XK:=λϊ ϊ ϊ=>False
theorem pass0{X:Cx}:TV F8 X E0:=λϊ ϊ ϊ ϊ ϊ ϊ ϊ h=>h.elim
structure Fun(K:k6)(x qual:Str)(st:Stmt)(f:Addr)(fd:FuncData):Prop where
 ex:∃(oc:Value) (od:Option Addr) (kV doc pm:Value) (an:Option Addr) (cdv ct:Value) (osl:Array<|Option Value),
  fd=W.fnOf x qual (Iy st) (FE st) (CP st) .none kV doc pm an cdv ct/\K.lookup f=↑{oc,od,.func fd,osl}/\W.codeIn K cdv qual=true
 kp:W.keepIn K (.ref f)=true
section
variable {P:Program}{w:World}{K:k6}{mg:Str->Option Value}{base:Heap}
def Fun.ok{st }      (F:Fun K x qual st f fd)(S:FnScope N ps<|CP st)(len:∀vs H Q E,sp vs H Q E->vs.length=ps.length)
  (a : ∀ (cdv ) (A ) (outer ) (s ) (H ) (vs ) (Q ) (E ), Room k (A.deeper<|envOfC qual (CP st) s.heap.objs.size f cdv) -> sp vs H Q E ->
   ∃t,B9 (FG F8 P w K mg base N qual (CP st) f cdv A outer s H E).nox (FE st) t/\t { nx:=λϊ H'=>Q .non H',rt:=Q } (start N vs) H):FnOk P w K mg base F8 (k+1) f fd ps sp:=by
 let(j,l,kV,d,m,i,cdv,ct,g,rfl,lk,b):=F.ex;refine Rk lk b S len λA outer s H vs Q E e c=>?_;let(t,h,q):=a cdv A outer s H vs Q E e c;exact{(t),h.nox,q}
def Fun.binds{st }    (F:Fun K x qual st f fd)
  (h:∀(kV doc pm ) (an ) (cdv ct ) (us ),us.length=ps.length->bindArgs (W.fnOf x qual (Iy st) (FE st) (CP st) .none kV doc pm an cdv ct) {us,[]}=pure (ps.zip us)):C6 K fd ps []:=by
 let(c,d,kV,doc,pm,an,cdv,ct,b,rfl,lk,a):=F.ex;exact .all<|h kV doc pm an cdv ct
end
def zeb{n:Nat}(h:n<=1000):n<sizeLine:=Nat.lt_of_le_of_lt h<|by decide
section
variable {X:Cx}
theorem pv(i:Nat){x:Str}{pos:Pos}(b:X.N[i]?=↑x)(c:E5 X.env.scope x)(hd:(x == ("__debug__":Str))=false)
  (a:(x == ("__classdict__":Str))=false):PE X (.Name x pos)<|Ny i:=G1 b c hd a
end
def Jx{A B:Prop}(h:B):if false=true then A else B:=by
 grind
def Jw{A B:Prop}(h:A):if true=true then A else B:=by
 rw[if_pos rfl];exact h
def A3(H H':Hp):Prop:=∀b o,H b=↑o->H' b=↑o
theorem A3.refl(H:Hp):A3 H H:=λϊ ϊ h=>h
theorem A3.trans(a:A3 H H1)(b:A3 H1 H2):A3 H H2:=λc o h=>b c o<|a c o h
def A3.free(e:A3 H H')(h:H' l=Option.none):H l=Option.none:=by
 cases q:H l with
 |none=>rfl|some o=>rw[e l o q]at h;cases h
def A3.seq{K}(e:A3 H H')(h:Ab K H a xs):Ab K H' a xs:=by
 rcases h with (h|⟨o,h⟩)|h;exact .inl<|.inl<|e _ _ h
 exact .inl<|.inr {o,e _ _ h}
 exact .inr h
section
variable {κ:Type} [DecidableEq κ]
def Dy(a:List<|κ×V)(k:κ):Option V:=(a.find? λb=>decide (b.1=k)).map (·.2)
def EA(a:List<|κ×V)(k:κ)(v:V):List<|κ×V:=
 if (a.any λb=>decide (b.1=k))=true then a.map (λb=>if b.1=k then (b.1,v) else b) else a++[(k,v)]
def Zi(a:List<|κ×V)(k:κ):List<|κ×V:=a.filter λb=>decide (b.1≠k)
def LI{k:κ}(e:p.1=k):Dy (p::r) k=↑p.2:=by simp[Dy,e]
def LJ{k:κ}(e:¬ p.1=k):Dy (p::r) k=Dy r k:=by simp[Dy,e]
def Tv(k:κ):∀kvs ,(kvs.any λkv=>decide (kv.1=k))=(Dy kvs k).isSome
 |[]=>rfl|p::r=>by
  rw[List.any_cons];by_cases e:p.1=k;erw[LI e,É e,Bool.true_or,Ů];rw[LJ e,Ù e];exact Tv k r
def Xx(kvs)(k:κ)(v):(EA kvs k v).length<=kvs.length+1:=by
 unfold EA;grind
def Dh.isSome_eq(r:Dh o u):o.isSome=u.isSome:=by
 cases o with
 |none=>cases u with
  |none=>rfl|some ϊ=>exact(r).elim
 |some ϊ=>cases u with
  |none=>exact(r).elim|some ϊ=>rfl
def Dh.getD(r:Dh o u)(rd:A6 d d'):A6 (o.getD d)<|u.getD d':=by
 cases o with
 |none=>cases u with
  |none=>exact rd|some ϊ=>exact(r).elim
 |some ϊ=>cases u with
  |none=>exact(r).elim|some ϊ=>exact r
def KV.val(r:KV kvs vs)(k:κ):Dh (Dy kvs k)<|valueAt vs k:=by
 induction r with
 |nil=>exact True.intro|@cons p q ps c h t g=>
  let(d,f):=h;by_cases e:p.1=k;have a :=d.symm.trans e;have b:valueAt (q::c) k=↑q.2:=by simp[valueAt,a]
  rw[LI e,b];exact f;have a:¬ q.1=k:=λz=>e<|d.trans z
  have b:valueAt (q::c) k=valueAt c k:=by simp[valueAt,a]
  rw[LJ e,b];exact g
def KV.any(r:KV kvs vs)(k:κ):(kvs.any λkv=>decide (kv.1=k))=vs.any λkv=>decide (kv.1=k):=by
 induction r with
 |nil=>rfl|cons h t a=>grind
def KV.repl(r:KV kvs vs)(k:κ)(c:A6 y u) :
  KV (kvs.map λkv=>if kv.1=k then (kv.1,y) else kv) (vs.map λkv=>if kv.1=k then (kv.1,u) else kv):=by
 induction r with
 |nil=>exact .nil|@cons p q ps b h t a=>
  refine .cons ?_ a;grind
def KV.put(r:KV kvs vs)(k:κ)(a:A6 y u):KV (EA kvs k y)<|stored vs k u:=by
 unfold EA stored;rw[r.any k];by_cases e:(vs.any λb=>decide (b.1=k))=true;rw[if_pos e,if_pos e];exact r.repl k a;rw[if_neg e,if_neg e];exact Paired.snoc r {(rfl),a}
def KV.drop(r:KV kvs vs)(k:κ):KV (Zi kvs k)<|without vs k:=by
 unfold Zi without
 induction r with
 |nil=>exact .nil|@cons p q ps i h t g=>
  let(c,f):=h;rw[List.filter_cons,List.filter_cons];by_cases e:p.1=k;grind;have d:¬ q.1=k:=λz=>e<|c.trans z
  have a:decide (p.1≠k)=true:=by simp[e]
  have b:decide (q.1≠k)=true:=by simp[d]
  rw[if_pos a,if_pos b];exact .cons {(c),f} g
def KV.length{a:List<|κ×V}(r:KV a vs):a.length=vs.length:=ő r
end
def RS(r:A6 (kV k) u):(DY P w).is k u=true:=by
 cases k with
 |inl i=>let(t,e):=(r);subst e;exact Ι P w i t
 |inr x=>let(t,e):=(r);subst e;exact Κ P w x t
def YS:∀{ks} {us},A4 (ks.map kV) us->ItemsAre (DY P w) ks us
 |[],ϊ,r=>by cases r;exact .nil|k::ks,ϊ,r=>by
  cases r with
  |cons h t=>exact .cons (RS h)<|YS t
abbrev KT(H:Hp):List (List Key×V)->List (List Key×Addr×Value)->Prop:=Paired λp q=>p.1=q.1/\H q.2.1=↑(.tup<|p.1.map kV)/\A6 p.2 q.2.2
def KT.val(r:KT H kvs xs)(k):Dh (Dy kvs k) ((atKey xs k).map (·.2)):=by
 induction r with
 |nil=>exact True.intro|@cons p q ps c h t g=>
  let(d,_,f):=h;by_cases e:p.1=k;have a :=d.symm.trans e;have b:atKey (q::c) k=↑q.2:=by simp[atKey,a]
  rw[LI e,b];exact f;have a:¬ q.1=k:=λz=>e<|d.trans z
  have b:atKey (q::c) k=atKey c k:=by simp[atKey,a]
  rw[LJ e,b];exact g
def KT.repl(r:KT H kvs xs)(k)(c:A6 y u) :
  KT H (kvs.map λkv=>if kv.1=k then (kv.1,y) else kv) (xs.map<|putAt k u):=by
 induction r with
 |nil=>exact .nil|@cons p q ps b h t a=>
  refine .cons ?_ a;unfold putAt;grind
def KT.put{H:Hp}(r:KT H kvs xs)(k:List Key){y:V}(c:H b=↑(.tup<|k.map kV))(a:A6 y u) :
  KT H (EA kvs k y) (storedH xs k b u):=by
 have e:(kvs.any λd=>decide (d.1=k))=(atKey xs k).isSome:=by
  rw[Tv,(r.val k).isSome_eq,Option.isSome_map]
 unfold EA storedH;rw[e];by_cases q:(atKey xs k).isSome=true;rw[if_pos q,if_pos q];exact r.repl k a;rw[if_neg q,if_neg q];exact Paired.snoc r {(rfl),c,a}
theorem KT.keeps(r:KT H kvs xs)(a:∀b ys,H b=↑(.tup ys)->H' b=↑(.tup ys)):KT H' kvs xs:=
 Paired.mapP r λϊ ϊ z=>{z.1,a _ _ z.2.1,z.2.2}
section
variable {P:Program}{w:World}{H:Hp}{h:Heap}{a:Addr}
theorem VF{u:HO}(ok:HOk P w H h)(e:Rd H a u):Cp P w H h a u:=e.ok ok
theorem Zk(ok:HOk P w H h)(e:Rd H a<|.dK kvs):kvs.length<=sizeLine/\(a == sysModules)=false/\∃vs,KV kvs vs/\h.DictOf (DY P w) a vs:=
 VF ok e
theorem Zn(ok:HOk P w H h)(e:H a=↑(.dK kvs)):kvs.length<=sizeLine/\(a == sysModules)=false/\∃vs,KV kvs vs/\h.DictOf (DY P w) a vs:=Zk ok<|.inl e
def RR(ok:HOk P w H h)(e:H a=↑(.tup<|ks.map kV)):(tupleKind<|DY P w).is h ks a:=by
 let(_,b,r,o,c,d,n,f):=(ok a _ e);exact{o,b.toArray,n,c,d,f,by simpa using YS r}
def Zh(ok:HOk P w H h)(e:Rd H a<|.dT kvs):kvs.length<=sizeLine/\(a == sysModules)=false /\
  ∃xs,KT H kvs xs/\h.DictOfH (tupleKind<|DY P w) a xs:=by
 let(z,y,xs,r,o,d,c,f,g,i,j,k):=(VF ok e);refine{z,y,xs,r,o,d,c,f,g,i,j,λx b=>?_,k}
 have all:∀{l } {m },KT H l m->∀x∈m,(tupleKind<|DY P w).is h x.1 x.2.1:=by
  intro l m q
  induction q with
  |nil=>simp|@cons p q ps u n t s=>
   intro x b;rcases(Î.mp b) with e|b;exact RR ok<|by grind
   grind
 grind
theorem dt_of(ok:HOk P w H h)(e:H a=↑(.dT kvs)):kvs.length<=sizeLine/\(a == sysModules)=false /\
  ∃xs,KT H kvs xs/\h.DictOfH (tupleKind<|DY P w) a xs:=Zh ok<|.inl e
end
def JQ(H:Hp)(a:Addr)(y:V)(r:Option V):Prop:=
 (∃c k,Rd H a (.dK c)/\y=kV k/\r=Dy c k)\/∃c k b,Rd H a (.dT c)/\y=.ref b/\H b=↑(.tup<|k.map kV)/\r=Dy c k
def JP(H:Hp)(a:Addr)(y v:V)(H':Hp):Prop:=
 (∃c k,H a=↑(.dK c)/\y=kV k/\c.length<sizeLine/\H'=upd H a (.dK<|EA c k v)) \/
 ∃c k b,H a=↑(.dT c)/\y=.ref b/\H b=↑(.tup<|k.map kV)/\c.length<sizeLine/\H'=upd H a (.dT<|EA c k v)
theorem JQ.k{k}(e:H a=↑(.dK kvs)):JQ H a (kV k)<|Dy kvs k:=.inl {kvs,k,.inl e,rfl,rfl}
theorem JQ.t{k}(e:H a=↑(.dT kvs))(eb:H b=↑(.tup<|k.map kV)):JQ H a (.ref b)<|Dy kvs k:=.inr {kvs,k,b,.inl e,rfl,eb,rfl}
theorem JP.k{k}(e:H a=↑(.dK kvs))(b:kvs.length<sizeLine):JP H a (kV k) v<|upd H a<|.dK<|EA kvs k v:=.inl {(kvs),k,e,rfl,b,rfl}
theorem JP.t{k}(e:H a=↑(.dT kvs))(eb:H b=↑(.tup<|k.map kV))(c:kvs.length<sizeLine) :
  JP H a (.ref b) v (upd H a<|.dT<|EA kvs k v):=.inr {(kvs),k,b,e,rfl,eb,c,rfl}
section
variable {X:Cx}{pz:List<|Addr×Obj}{O:St}{H:Hp}{s:Shared}{a:Addr}{y v:V}{u r:Value}{o:Option V}{A:Around}{E:Value->Shared->Prop}
def Inv.big(I:Inv X pz O H s):sysModules<s.heap.objs.size:=by
 have h :=(I.mod.glob.keeps I.bk).lt;exact ĺ (by decide) h
def zff(r:A.units+1<cLine)(I:Inv X pz O H s)(g:JQ H a y ↑v)(o:A6 y u)(h:∀w' s',Inv X pz O H s'->A6 v w'->Q w' s') :
  wpAny (model X.prog X.w) A (getItem (.ref a) u) Q E s:=by
 rcases g with ⟨n,k,e,i,l⟩|⟨n,k,b,e,i,eb,l⟩;subst i;let(z,hd,t,c,f):=Zk I.hok e;let(w',m,d):=Dh.some_of (by rw[l];exact c.val k)
 exact wpAny_getItem_of (RS o) f.mapOf m<|h w' _ (I.tok _) d
 subst i;cases (o);let(z,hd,xs,c,f):=Zh I.hok e;let(w',m,d):=Dh.some_of (by rw[l];exact c.val k)
 let(p,q,j):=Ø.mp m;refine wpAny_getItem_heap (tupleKind_room_in1 r) (RR I.hok eb) f q ?_;rw[j];exact h w' _ (I.tok _) d
theorem Zs(I:Inv X pz O H s)(mu:Km<|H a)(e:Heap.SameBut a s.heap h')(d:∃q,h'.get? a=↑q)(new:Cp X.prog X.w (upd H a ob) h' a ob) :
  Inv X pz O (upd H a ob) { s with heap:=h',toks:=t' }:=
 I.write mu (.inl rfl) (λb q c z=>(e.2 b c).trans z) d new
theorem zpn(z:kvs.length<=sizeLine)(hd:(a == sysModules)=false)(b:KV kvs vs)(dd:h'.DictOf (DY P w) a vs) :
  Cp P w H' h' a (.dK kvs):={(z),hd,vs,b,dd}
def zfe(N:A.units+1<cLine)(I:Inv X pz O H s)(g:JP H a y v H')(C:A6 y u)(B:A6 v r)(h:∀s',Inv X pz O H' s'->Q () s') :
  wpAny (model X.prog X.w) A (setItem (.ref a) u r) Q E s:=by
 rcases g with ⟨d,k,e,o,l,n⟩|⟨d,k,b,e,o,eb,l,n⟩;subst o n;let(z,hd,R,f,m):=Zn I.hok e;have P:R.length<=sizeLine:=by rw[<- f.length];exact z
 have p:(EA d k v).length<=sizeLine:=by have:=Xx d k v;lia
 refine wpAny_setItem_pairs (RS C) m λx i t=>h _ ?_;have M:∃q,x.get? a=↑q:=let ⟨q,_,_,j,_⟩:=i;{(q),j};exact Zs I (by rw[e];exact True.intro) t M<|zpn p hd (f.put k B) i
 subst o n;cases (C);let(z,hd,xs,f,m):=dt_of I.hok e;have P:xs.length<=sizeLine:=by rw[<- ő f];exact z
 have p:(EA d k v).length<=sizeLine:=by have:=Xx d k v;lia
 refine wpAny_setItem_heap (tupleKind_room_in1 N) (RR I.hok eb) m λx i t=>h _ ?_;let(q,F,D,j,G,J,K,_,L):=i;refine Zs I (by rw[e];exact True.intro) t {(q),j} {p,hd,_,(f.put k eb B).keeps λc S w=>?_,q,F,D,j,G,J,K,L};rw[As<|ne_of w e<|λz=>nomatch z];exact w
variable {kvs:List<|Key×V}{k:Key}
end
section
variable {X:Cx}{o i e value:Expr}{pos pos' tpos:Pos}{td ty tv:TE}
end
theorem zhx(h:Heap)(a:sysModules<h.objs.size):Cp P w H (h.push { cls:=.type "dict",data:=.dict #[]}) h.objs.size<|.dK []:=
 {ù _,beq_eq_false_iff_ne.mpr<|Ë<|Ó a,[],.nil,Heap.DictOf.new h}
section
variable {X:Cx}{pos:Pos}
variable {pz:List<|Addr×Obj}{O:St}{H:Hp}{s:Shared}{a:Addr}{y d:V}{u r:Value}{o:Option V}{A:Around}{E:Value->Shared->Prop}
end
section
variable {X:Cx}{o e f:Expr}{apos cpos:Pos}{td ty tx:TE}
variable {pz:List<|Addr×Obj}{O:St}{H:Hp}{s:Shared}{a:Addr}{kvs:List<|Key×V}{A:Around}{E:Value->Shared->Prop}
end
section
variable {X:Cx}{pz:List<|Addr×Obj}{O:St}{H:Hp}{s:Shared}{a:Addr}{y:V}{u:Value}{A:Around}{E:Value->Shared->Prop}
end
end L2
namespace Zm
def zhv(a b):Int.gcd b (a.fmod b)=Int.gcd a b:=by
 rw[Int.fmod_def,Int.gcd_comm a b];simp
def fmod_less(a:Int)(h:b≠0):(a.fmod b).natAbs<b.natAbs:=by
 rcases Int.lt_or_gt_of_ne h with c|c;have e:a.fmod b=-((-a).fmod (-b)):=by rw[Int.neg_fmod_neg,Int.neg_neg]
 have d:=Ā (-a)<|show 0 < -b by lia
 have f:=Ĉ (-a)<|show 0 < -b by lia
 lia;have d:=Ā a c;have f:=Ĉ a c
 lia
def gd(a b:Int):Int:=(Int.gcd a b:Nat)
def gd_end(d:gd a b=gd a0 b0)(c:b=0):(if a<0 then -a else a)=gd a0 b0:=by
 subst c;rw[<- d];unfold gd;rw[Int.gcd_zero_right];lia
def gd_turn(c:gd a b=gd a0 b0):gd b (a.fmod b)=gd a0 b0:=by
 rw[<- c];unfold gd;rw[zhv]
def gd_pos{a b:Int}(h:b≠0):0<gd a b:=by
 unfold gd;simp_all
def gd_le(h:0<b):gd a b<=b:=by
 exact Int.le_of_dvd h<|Int.gcd_dvd_right a b
def lt(t b:Int):Int:=t.fdiv<|gd t b
def lb(t b:Int):Int:=b.fdiv<|gd t b
def Z7{x g:Int}(a:g≠0)(h:g ∣ x):x.fdiv g * g=x:=by
 rw[ø];exact Int.mul_fdiv_cancel' h
def lt_mul(h:b≠0):lt t b * gd t b=t:=by
 exact Z7 (by have:=gd_pos (a:=t) h;lia)<|Int.gcd_dvd_left t b
def lb_mul(h:b≠0):lb t b * gd t b=b:=by
 exact Z7 (by have:=gd_pos (a:=t) h;lia)<|Int.gcd_dvd_right t b
def lb_pos(h:0<b):0<lb t b:=by
 have d:=lb_mul (t:=t)<|show b≠0 by lia
 have c:=gd_pos (a:=t)<|show b≠0 by lia
 rcases Œ 0 (lb t b) with q|q;exact q;have:=Int.mul_nonpos_of_nonpos_of_nonneg q<|ħ c
 lia
def ze3{x g:Int}(h:0<g):x.natAbs<=(x * g).natAbs:=by
 rw[Int.natAbs_mul];exact Nat.le_mul_of_pos_right _<|by lia
def lb_le(h:0<b):lb t b<=b:=by
 have c:=lb_mul (t:=t)<|show b≠0 by lia
 have d:=ze3 (x:=lb t b)<|gd_pos (a:=t)<|show b≠0 by lia
 grind
def gd_low(h:b≠0):gd (lt t b) (lb t b)=1:=by
 have d:=gd_pos (a:=t) h;unfold lt lb gd;have c:0<Int.gcd t b:=by unfold gd at d;lia
 have e:=Int.gcd_ediv_gcd_ediv_gcd c;rw[Ŝ _<|Int.natCast_nonneg _,Ŝ _<|Int.natCast_nonneg _,e];rfl
def sg(t b:Int):Int:=if b<0 then -(gd t b) else gd t b
def ft(t b:Int):Int:=t.fdiv<|sg t b
end Zm
namespace Zw
open PySem PySem.Spec PyProof.Rows L2
def Sm(i:Int):Prop:=-(10 ^ 70)<i/\i<10 ^ 70
def Sm.nat{i:Int}(h:Sm i):i.natAbs<10 ^ 70:=by
 unfold Sm at h;lia
def znn:10 ^ 70<=2 ^ 300:=by decide +kernel
def Sm.log(h:Sm i):i.natAbs.log2<300:=by
 by_cases z:i.natAbs=0;simp_all;exact(Nat.log2_lt z).mpr (Ý h.nat znn)
def Sm.bits(h:Sm i):Builtin.Int.intBits i<=2 ^ 20:=by
 have q:=h.log;unfold Builtin.Int.intBits;grind
theorem Sm.of{i:Int}(a:-(10 ^ 70)<i)(b:i<10 ^ 70):Sm i:={(a),b}
def Sm.abs(h:i.natAbs<=m)(a:m<10 ^ 70):Sm i:=by
 constructor<;>lia
section
variable {X:Cx}
theorem zk3:Ac X (binaryOp .Mult)<|rI (λi j=>Sm i/\Sm j) λi j=>.int<|i * j:=IL λϊ ϊ ϊ ϊ ϊ ϊ ϊ a q=>mul_int q<|.of_bits a.1.bits a.2.bits
theorem zh0:Ac X (binaryOp .FloorDiv)<|rI (λϊ j=>j≠0/\Sm j) λi j=>.int<|i.fdiv j:=
 IL λϊ ϊ ϊ ϊ ϊ ϊ ϊ a q=>floordiv_int a.1 q<|.inl<|PyProof.noPylong_of_log2<|ĺ a.2.log<|by decide
def YV(r:A6 x v):PySem.plainIs v (.bool b)=true/\(v == Value.bool b)=decide (x=V.bl b):=by
 cases x with
 |non=>cases r;exact{rfl,by simp}|bl c=>cases r;exact{rfl,by grind}|int i=>let(t,rfl):=r;exact{rfl,by simp}
 |str i=>let(t,rfl):=r;exact{rfl,by simp}
 |byt i=>let(t,rfl):=r;exact{rfl,by simp}
 |flt i=>let(t,rfl):=r;exact{rfl,by simp}
 |ref i=>cases r;exact{rfl,by simp}|ty i=>cases r;exact{rfl,by simp}
def zo8:Ac X (compareOp .Is) (λx y H Q=>∃b,y=.bl b/\Q (.bl<|decide (x=.bl b)) H):=by
 intro f s O H x y v u Q I d e h;let(b,rfl,q):=h;cases e;let(a,c):=YV d;exact wpAny_is_plain a<|KI I q c.symm
def zk2:Ac X (compareOp .IsNot) (λx y H Q=>∃b,y=.bl b/\Q (.bl<|!decide (x=.bl b)) H):=by
 intro f s O H x y v u Q I d e h;let(b,rfl,q):=h;cases e;let(a,c):=YV d;exact wpAny_isNot_plain a<|KI I q<|by rw[c]
def zia:Be X (.builtin "isinstance") (λxs H Q=>∃x t b,xs=[x,.ty c]/\TyOf X.K H x t/\W.kitOne X.K t (.type c)=↑b/\Q (.bl b) H):=by
 intro f s O H xs g Q I r h;let(x,t,b,rfl,ty,e,q):=h;let(u,i,rfl,a,d):=Gw r;cases d;exact RX I a ty e λtk=>{.bl b,H,I.tok _,rfl,q}
variable {pos:Pos}
end
section
variable {X:Cx}
end
def zcq:W.kitMeta "int"=true:=by decide +kernel
def zbx:W.kitMeta "bool"=true:=by decide +kernel
def zbf:W.kitMeta "tuple"=true:=by decide +kernel
def zha(K)(c):W.kitOne K (.type c) (.type c)=↑true:=by
 unfold W.kitOne;simp
def zp2(K){l:k9}(h:t≠c)(d:W.kitMeta c=true)(a:(fastBuiltinMro t).map (·.contains (Value.type c))=↑b):W.kitOne K (.type t) (.type c)=↑b:=by
 unfold W.kitOne;rw[if_neg<|by simpa using h];show(if W.kitMeta c=true then W.subIn K (.type t) (.type c) else none)=↑b;rw[if_pos d];exact a
inductive Known(H:Hp):V->Prop where
 |non:Known H .non
 |bl (b:Bool):Known H<|.bl b
 |int (i:Int):Known H<|.int i
 |str (x:Str):Known H<|.str x
 |lst {p:Addr} {xs:List V} (e:H p=↑(.lst xs)):Known H<|.ref p
 |tup {p:Addr} {xs:List V} (e:H p=↑(.tup xs)):Known H<|.ref p
 |dic {p:Addr} {kvs:List<|Key×V} (e:H p=↑(.dK kvs)):Known H<|.ref p
def Known.same(h:Known H x)(s:A3 H H'):Known H' x:=by
 cases h with
 |non=>exact .non|bl b=>exact .bl b|int i=>exact .int i|str y=>exact .str y|lst e=>exact .lst (s _ _ e)|tup e=>exact .tup (s _ _ e)|dic e=>exact .dic<|s _ _ e
structure FunD(K:k6)(x qual:Str)(st:Stmt)(f:Addr)(fd:FuncData):Prop where
 ex:∃(oc:Value) (od:Option Addr) (dV kV doc pm:Value) (an:Option Addr) (cdv ct:Value) (osl:Array<|Option Value),
  fd=W.fnOf x qual (Iy st) (FE st) (CP st) dV kV doc pm an cdv ct/\K.lookup f=↑{oc,od,.func fd,osl}/\W.codeIn K cdv qual=true
 kp:W.keepIn K (.ref f)=true
def FunD.ok{K}{st}(F:FunD K x qual st f fd)(S:FnScope N ps<|CP st)(len:∀vs H Q E,sp vs H Q E->vs.length=ps.length)
  (a : ∀ (cdv ) (A ) (outer ) (s ) (H ) (vs ) (Q ) (E ), Room k (A.deeper<|envOfC qual (CP st) s.heap.objs.size f cdv) -> sp vs H Q E ->
   ∃t,B9 (FG F8 P w K mg base N qual (CP st) f cdv A outer s H E).nox (FE st) t/\t { nx:=λϊ H'=>Q .non H',rt:=Q } (start N vs) H):FnOk P w K mg base F8 (k+1) f fd ps sp:=by
 let(l,m,j,kV,d,n,i,cdv,ct,g,rfl,lk,b):=F.ex;refine Rk lk b S len λA outer s H vs Q E e c=>?_;let(t,h,q):=a cdv A outer s H vs Q E e c;exact{(t),h.nox,q}
theorem zlb{K}{st}{dV kV doc pm cdv ct}(l:K.lookup f=↑{oc,od,.func<|W.fnOf x qual (Iy st) (FE st) (CP st) dV kV doc pm an cdv ct,osl})
  (c:W.codeIn K cdv qual=true) (k:W.keepIn K (.ref f)=true):FunD K x qual st f<|W.fnOf x qual (Iy st) (FE st) (CP st) dV kV doc pm an cdv ct:={{(oc),od,dV,kV,doc,pm,an,cdv,ct,osl,rfl,l,c},k}
structure Tx(K:k6)(mg:Str->Option Value)(x:Str)(st:Stmt)(ps:kE) where
 f:Addr
 fd:FuncData
 F:FunD K x x st f fd
 m:mg x=↑(.ref f)
 b:C6 K fd ps []
structure Def(P:Program)(w:World)(K:k6)(mg:Str->Option Value)(base:Heap)(k:Nat)(x:Str)(ps:kE)(sp:Sp) where
 f:Addr
 fd:FuncData
 ok:FnOk P w K mg base F8 k f fd ps sp
 m:mg x=↑(.ref f)
 kp:W.keepIn K (.ref f)=true
 b:C6 K fd ps []
section
variable {X:Cx}{k j:Nat}{x:Str}{ps:kE}{sp:Sp}{p pos:Pos}{e:Expr}{es:kC}{t:TA}
theorem pd(D:Def X.prog X.w X.K X.mg X.base k x ps sp)(g:Room j X.A)(c:PA X (e::es) t)(hk:k<=j)(f:Gl X x)(a:(x == "__debug__")=false)
  (d:starEach (e::es) X.env=(false,eval e X.env)::starEach es X.env) (b:(backTo pos<|starEach es X.env).any (·.1)=false) :
  PE X (.Call (.Name x p) (e::es) [] pos) (UY sp [] E0 t):=zjy D.ok (g.mono hk) f D.m D.kp D.b .nil pass0 c a d b
end
theorem L4(h:H p=none)(o):A3 H<|upd H p o:=λb u q=>by
 rw[As<|Cz q h];exact q
def Kq(H:Hp)(p:Addr)(a b:Int):Prop:=H p=↑(.tup [.int a,.int b])
theorem Kq.same(h:Kq H p a b)(s:A3 H H'):Kq H' p a b:=s _ _ h
theorem Kq.new:Kq (upd H p<|.tup [.int a,.int b]) p a b:=Ce
def sz{n:Nat}(h:n<=1000:=by exact Nat.le_of_ble_eq_true rfl):n<=sizeLine:=Ĩ<|zeb h
def zpq(X:Cx)(a:Scope)(cl:List<|Str×Addr)(b:kE)(C:Addr)(s₀:Shared)(H₀:Hp)(ex:List Addr):Cx:=
 { X with N:=b,s₀:=s₀,H₀:=H₀,env:=compEnvC a cl C X.env,outer:=X.stack,ex:=ex,fn:=λϊ=>false,xe:=λϊ ϊ=>False }
theorem HOk.adopt(x:HOk P w H h)(f:H a=none)(new:Cp P w (upd H a o) h a o):HOk P w (upd H a o) h:=λb u e=>by
 by_cases d:b=a;subst d;rw[Ce]at e;grind;rw[As d]at e;exact(x b u e).stay (λc v ϊ q=>q) (λc q=>by rw[As<|Cz q f];exact q) λc xs q=>by rw[As<|Cz q f];exact q
section
variable {X:Cx}{elt iter tg:Expr}{scope:Scope}{pos:Pos}{cl:List<|Str×Addr}{N':kE}{wi:TI}{g:TG}{te:TE}
end
end Zw
namespace Zx
open PySem PySem.Spec PyProof.Rows L2 Zw
def Mu(h B:Heap)(a:Addr)(b:Value×Option Addr)(fl:Value):Prop:=
 ∃oe c T oT d,h.get? a=↑oe/\((oe.cls,oe.dict)=b/\c[2]?=↑.none)/\oe.data=.fields c/\c[1]?=↑(.ref T)/\B.get? T=none/\T≠a/\h.get? T=↑oT/\oT.data=.fields d/\d[3]?=↑fl
def GP(B:Heap)(l:List Env)(a:Addr)(b:Value×Option Addr)(h:Heap):Prop:=B.StaysIn h/\B.get? a=none/\h.FunFrames B l/\Mu h B a b .none
def T5(B:Heap)(l:List Env)(a:Addr)(b:Value×Option Addr)(L:Addr)(h:Heap):Prop:=B.StaysIn h/\B.get? a=none/\h.FunFrames B l/\Mu h B a b (rawInt L)
def GP.first(x:GP B l a cls h):∃oe vs,h.get? a=↑oe/\(oe.cls,oe.dict)=cls/\oe.data=.fields vs/\vs[2]?=↑.none:=
 let ⟨_,_,_,oe,vs,_,_,_,he,hc,hd,_⟩:=x;{(oe),vs,he,hc.1,hd,hc.2}
def GP.there(x:GP B l a cls h):∃ob,h.get? a=↑ob/\ob.cls=cls.1:=
 let ⟨oe,_,he,hc,_⟩:=x.first;{oe,he,congrArg Prod.fst hc}
def zep(f)(o):((Obj.mapFields f o).cls,(Obj.mapFields f o).dict)=(o.cls,o.dict):=by
 unfold Obj.mapFields;split<;>rfl
section
variable {M:Model}{A:Around}{E:Value->Shared->Prop}{s:Shared}{B:Heap}{env v:Env}{l:List Env}{L a:Addr}{cls:Value×Option Addr}{Q:Unit->Shared->Prop}
def Ze(m:A.frames=↑(v::l))(i:s.heap.FunFrames B<|v::l)(D:v.frame=↑L)(k:s.heap.get? a=↑oe)(hk:B.StaysIn s.heap)(w:B.get? a=none)
  (hd:oe.data=.fields vs) (g:1<vs.size) (C:vs[2]?=↑.none) (h:∀h',T5 B (v::l) a (oe.cls,oe.dict) L h'->s.heap.UpToSlots h'->Q () { s with heap:=h' }) :
  wpAny M A (do let f <- frameOf v;let pl <- entryPlaceOf L hn;let b <- EntryCells.newEntry head f .none (rawInt L) .none pl;setField (.ref a) 1 b) Q E s:=by
 have r:a∉(v::l).filterMap (·.frame):=λz=>by
  let(_,o,x,n):=i.mem z;rw[k]at x;cases x;exact n vs hd
 refine Â<|wpAny_frameOf_fun m i D λc p=>?_
 refine Â<|wpAny_entryPlaceOf λpl e=>?_
 unfold EntryCells.newEntry newFields;refine Â<|ź ?_<|e.sizeOk5 _ _ _ _ _;have j :=(p.2.1 a r).trans k;have u:B.StaysIn c:=λb o q=>(p.2.1 b λz=>by rw[(i.mem z).1]at q;cases q).trans (hk b o q)
 have ne :=Nat.ne_of_gt<|Æ j;refine Ŗ (Ñ _ j) hd g ?_;have d:=Ŋ hd (·.setIfInBounds 1 (Value.ref c.objs.size));have kp:∀nw b o,b≠a->c.get? b=↑o->((c.push nw).update a (Obj.mapFields (·.setIfInBounds 1 (Value.ref c.objs.size)))).get? b=↑o:=λnw b o n q=>(Ć _ _<|Ë n).trans (Ñ _ q)
 have nr:∀b o,s.heap.get? b=↑o->(∀ws,o.data≠.fields ws)->b≠a:=λb o q n z=>by
  rw[z,k]at q;cases q;exact n vs hd
 have sm:∀nw,s.heap.UpToSlots ((c.push nw).update a (Obj.mapFields (·.setIfInBounds 1 (Value.ref c.objs.size)))):=λnw b o q n=>by
  let(y,t):=p.2.2 b o q;exact{y,kp nw b _ (nr b o q n) t}
 refine h _ {λb o q=>kp _ b o (λz=>by rw[z,w]at q;cases q)<|u b o q,w,i.of_keeps λb o q n=>?_,_,_,c.objs.size,_,_,Ņ _ (Ñ _ j)<|ť d,{by rw[zep],?_},d,by simp[g],u.fresh,ne,
  (Ć _ _<|Ë ne).trans (ä c rfl),rfl,?_}<|sm _
 let(y,t):=sm _ b o q n;exact{_,t,rfl};rw[Array.getElem?_setIfInBounds_ne<|by decide];exact C
 .first|(simp;done)|(rcases e with rfl|⟨_,_,_,_,_,_,_,rfl⟩<;>simp)
def zld(hk:B.StaysIn s.heap)(p:B.get? a=none)(u:s.heap.FunFrames B l)(v:Mu s.heap B a cls fl)(h:∀h',GP B l a cls h'->s.heap.UpToSlots h'->Q () { s with heap:=h' }):wpAny M A (setFlight (.ref a) none) Q E s:=by
 let(oe,w,T,oT,k,g,t,hd,g1,i,d,e,dT,m):=v;have j:3<k.size:=(į.mp m).1;have c:∀b,b≠T->(s.heap.update T (Obj.mapFields (·.setIfInBounds 3 ((none:Option Addr).elim Value.none λf=>rawInt f)))).get? b=s.heap.get? b:=λb r=>Ć _ _<|Ë r
 have nr:∀b o,s.heap.get? b=↑o->(∀ws,o.data≠.fields ws)->b≠T:=λb o q n z=>by
  rw[z,e]at q;cases q;exact n k dT
 unfold setFlight;refine Â<|Đ g hd g1 ?_;rw[if_pos<|by simp]
 exact Ŗ e dT j (h _ {λb o q=>(c b λz=>by rw[z,i]at q;cases q).trans (hk b o q),p,u.of_keeps λb o q n=>{o,(c b<|nr b o q n).trans q,rfl},
  oe,w,T,_,_,(c a<|Ë d).trans g,t,hd,g1,i,d,Ņ _ e<|ť<|Ŋ dT _,Ŋ dT _,by simp[j]} λb o q n=>{o.slots,(c b<|nr b o q n).trans q})
theorem YE(hh:T5 B l a cls L s.heap)(b:∀h',GP B l a cls h'->s.heap.UpToSlots h'->Q () { s with heap:=h' }):wpAny M A (setFlight (.ref a) none) Q E s:=
 zld hh.1 hh.2.1 hh.2.2.1 hh.2.2.2 b
structure MadeO(h h':Heap)(a:Addr)(cls:Value×Option Addr):Prop where
 keeps:∀b o,h.get? b=↑o->h'.get? b=↑o
 new:h.get? a=none
 there:∃oe t,h'.get? a=↑oe/\(oe.cls,oe.dict)=cls/\oe.data=.fields #[.ref t,.none,.none,.none,.bool false,.none]
theorem madeO(b:Heap.MadeExcOf h h' a c args):MadeO h h' a (c,none):=
 {b.keeps,b.new,let ⟨t,he,_,_⟩:=b.there;{_,t,he,rfl,rfl}}
def madeX(d:A.frames=↑(v::l))(i:v.frame=↑L)(hk:B.StaysIn h)(n:h.FunFrames B<|v::l)(c:MadeO h s.heap a cls)
  (m:∀h',GP B l a cls h'->s.heap.UpToSlots h'->Q () { s with heap:=h' }):wpAny M A (leaving v<|.ref a) Q E s:=by
 let(oe,t,j,rfl,hd):=c.there
 have fr:B.get? a=none:=by
  cases q:B.get? a with
  |none=>rfl|some o=>have:=hk a o q;rw[c.new]at this;cases this
 unfold leaving noteFrame;erw[i];refine Â<|Â<|Đ j hd rfl ?_;refine Ze d (n.of_keeps λb o q ϊ=>{o,c.keeps b o q,rfl}) i j (λb o q=>c.keeps b o<|hk b o q) fr hd (by simp) rfl λu e sm=>YE e λk f g=>?_
 let(e,f,(_,_,p),r):=f;exact m k {(e),f,p,r}<|sm.trans g
end
def N1(B:Heap)(l:List Env)(a:Addr)(b:Value×Option Addr)(h:Heap):Prop:=∃fl,B.StaysIn h/\B.get? a=none/\h.FunFrames B l/\Mu h B a b fl
theorem Z1(x:GP B l a cls h):N1 B l a cls h:={.none,x}
section
variable {M:Model}{A:Around}{E:Value->Shared->Prop}{s:Shared}{B:Heap}{env v:Env}{l:List Env}{L a:Addr}{cls:Value×Option Addr}{Q:Unit->Shared->Prop}
def XR(r:A.frames=↑(v::l))(D:env.frame=v.frame)(q:v.frame=↑L)(F:N1 B (v::l) a cls s.heap)(x:∀h',T5 B (v::l) a cls L h'->s.heap.UpToSlots h'->Q () { s with heap:=h' }):wpAny M A (noteFrame (.ref a) env) Q E s:=by
 have en:noteFrame (.ref a) env=noteFrame (.ref a) v:=by
  unfold noteFrame PySem.frameOf;rw[D]
 rw[en];let(fl,t,u,w,n):=F
 by_cases g:fl=rawInt L;subst g;let(oe,ws,h,oT,y,j,_,hd,g1,_,_,f,dT,i):=id n;unfold noteFrame;erw[q];refine Â<|Đ j hd g1 ?_;rw[if_pos<|by simp]
 refine Â<|Đ f dT i ?_;rw[if_pos<|by simp]
 exact Ê<|x _ {(t),u,w,n}<|.refl _
 let(oe,ws,h,oT,y,j,(rfl,C),hd,g1,H,m,f,dT,i):=n;have p:=(į.mp i).1;have d:∀b,b≠h->(s.heap.update h (Obj.mapFields (·.setIfInBounds 3 Value.none))).get? b=s.heap.get? b:=λb c=>Ć _ _<|Ë c
 have nr:∀b o,s.heap.get? b=↑o->(∀I,o.data≠.fields I)->b≠h:=λb o c e z=>by
  rw[z,f]at c;cases c;exact e y dT
 unfold noteFrame;erw[q];refine Â<|Đ j hd g1 ?_;rw[if_pos<|by simp]
 refine Â<|Đ f dT i ?_;rw[if_neg<|λz=>g<|beq_iff_eq.mp z]
 refine Â<|Ŗ f dT p ?_;refine Ze r (w.of_keeps λb o c e=>{o,(d b<|nr b o c e).trans c,rfl}) q ((d a<|Ë m).trans j) (λb o c=>(d b λz=>by rw[z,H]at c;cases c).trans (t b o c)) u hd (į.mp g1).1 C λh' k G=>?_
 exact x h' k λb o c e=>G b o ((d b<|nr b o c e).trans c) e
def leavX(b:A.frames=↑(v::l))(f:v.frame=↑L)(i:N1 B (v::l) a cls s.heap)(g:∀h',GP B l a cls h'->s.heap.UpToSlots h'->Q () { s with heap:=h' }):wpAny M A (leaving v<|.ref a) Q E s:=by
 refine Â<|XR b rfl f i λo hh c=>YE hh λe h d=>?_
 let(j,k,(_,_,m),n):=h;exact g e {(j),k,m,n}<|c.trans d
end
def DO(P:Program)(w:World):F7:=λouter H s E e d=>∃(a:Addr) (c:Value×Option Addr) (f:Hp) (B:Heap),
 e=.ref a/\d.os=s.os/\AllBare d.gens/\Un (Bd outer) [] H f s.heap d.heap/\HOk P w f B/\(∀b o,s.heap.get? b=↑o->H b=none->b∉Bd outer->B.get? b=↑o) /\
 (∀b o,s.heap.get? b=↑o->b∉Bd outer->∃g,B.get? b=↑g)/\N1 B outer a c d.heap/\E c.1 c.2 f
def zgb(x:Cp P w H h a o):∃ob,h.get? a=↑ob:=by
 cases o with
 |lst xs=>let(_,_,_,_,e):=x;exact{_,e}
 |tup xs=>let(_,_,_,b,e,_):=x;exact{(b),e}
 |dK c=>let(_,_,_,_,b,_,_,e,_):=x;exact{(b),e}
 |dT c=>let(_,_,_,_,b,_,_,e,_):=x;exact{(b),e}
 |set S n=>let(b,_,_,_,e,_):=x;exact{(b),e}
 |ins C d fs=>let(_,_,_,e,_):=x;exact{_,e}
 |own y=>exact x|xd fs=>let(_,(b,_,_,e,_),_):=x;exact{(b),e}
 |rng i g=>let(_,_,_,e):=x;exact{_,e}
 |frz ob u=>let(e,_):=x;exact{_,e}
 |tbl ps=>exact{_,(show h.get? a=↑_ from x)}|met f y=>exact{_,(show h.get? a=↑_ from x)}|ext φ=>let(_,e,_):=x;exact e
def none_of(x:HOk P w H h)(e:h.get? a=none):H a=none:=by
 cases q:H a with
 |none=>rfl|some u=>
  let(ob,z):=zgb<|x a u q
  grind
def DH(X:Cx)(E:L2.St->XK):Prop:=∀(b:List<|Addr×Obj) (O:L2.St) (H:Hp) (s:Shared) (e:Value) (a:Shared),Inv X b O H s->DO X.prog X.w X.stack H s (E O) e a->X.xe e a
def TY(X:Cx)(E:L2.St->XK):Prop:=∀(d:List<|Addr×Obj) (O:L2.St) (H:Hp) (s:Shared) (a:Addr) (b:Value) (e:k9) (c:Heap),Inv X d O H s->Heap.MadeExcOf s.heap c a b e->E O b none H->X.xe (.ref a) { s with heap:=c }
section
variable {X:Cx}{pz:List<|Addr×Obj}{O:L2.St}{H:Hp}{s:Shared}
theorem Lx(I:Inv X pz O H s)(e:X.s₀.heap.get? b=↑o)(a:b∉Bd X.outer):b∉Bd X.stack:=λz=>by
 rcases Î.mp (I.stkSub b z) with q|q;exact absurd (Ý (Æ e) I.ok.above) (by rw[q];exact æ _);exact a q
def zea(a:X.stack=X.env::X.outer)(e:b∈Bd X.outer):b∈Bd X.stack:=by
 rw[a];let(v,c,d):=ĳ.mp e;exact ĳ.mpr {v,Ì _ c,d}
theorem zpf(I:Inv X pz O H s):HOk X.prog X.w H<|W.hideAll s.heap<|Bd X.stack:=λb u e=>(I.hok b u e).stay (λc v a q=>Ģ _ q λz=>by
  have f:=I.stkFree c z
  grind) (λϊ q=>q) λϊ ϊ q=>q
def made_ok(h:X.stack=X.env::X.outer)(x:X.env.frame=↑X.env.locals)(hex:X.ex=[])       (I:Inv X pz O H s)(k:Heap.MadeExcOf s.heap h' a cls vs)(w:E cls none H) :
  wpAny (model X.prog X.w) X.A (leaving X.env<|.ref a) (λϊ s2=>DO X.prog X.w X.outer X.H₀ X.s₀ E (.ref a) s2) Ex { s with heap:=h' }:=by
 have d:∀b ,b∉X.ex:=λb z=>by grind
 have i :=h▸I.ok.frames
 have p:s.heap.FunFrames (W.hideAll s.heap<|Bd X.stack)<|X.env::X.outer:=by
  rw[<- h];exact W.funFrames_hide I.stack λv y b c=>ĳ.mpr {(v),y,c}
 refine madeX i x (λb o q=>Ĳ _ q) p (madeO k) λu fl sm=>?_;have l :=λb o e n c=>Ģ _ (I.base.keep b o e n c<|d b)<|Lx I e c
 have tB:∀b o,X.s₀.heap.get? b=↑o->b∉Bd X.outer->∃f,(W.hideAll s.heap<|Bd X.stack).get? b=↑f:=λb o e c=>by
  let(f,r):=I.base.there b o e<|d b;exact{f,Ģ _ r<|Lx I e c}
 have m:∀b o,X.s₀.heap.get? b=↑o->X.H₀ b=none->b∈Bd X.outer->∃z,u.get? b=↑{ o with slots:=z }:=λb o e n c=>by
  let(z,j):=I.base.slot b o e n c<|d b;let(_,o2,g,hd):=I.funs.mem c;rw[j]at g;cases g;let(A,t):=sm b { o with slots:=z } (k.keeps b _ j) hd
  exact{(A),t}
 refine{a,(cls,none),H,_,rfl,I.os,I.bare,{λb o e n c ϊ=>fl.1 b o<|l b o e n c,λb o e n c ϊ=>m b o e n c,λb o e n ϊ=>I.base.free b o e n<|d b,λb o e ϊ=>?_,I.base.tups,I.base.frzs,I.base.tbls},zpf I,l,tB,Z1 fl,w};by_cases c:b∈Bd X.outer;let(z,q):=m b o e (I.ok.frf b c) c;exact{_,q};let(f,q):=tB b o e c;exact{f,fl.1 b f q}
def zk0(g:X.stack=X.env::X.outer)(G:X.env.frame=↑X.env.locals)(hex:X.ex=[])     (I:Inv X pz O H s)(h:DO X.prog X.w X.stack H s E e s') :
  wpAny (model X.prog X.w) X.A (leaving X.env e) (λϊ s2=>DO X.prog X.w X.outer X.H₀ X.s₀ E e s2) Ex s':=by
 let(a,k,A,B,rfl,os,bare,un,hok,v,w,p,F):=h;have d:∀b ,b∉X.ex:=λb z=>by rw[hex]at z;cases z
 have t :=g▸I.ok.frames;have r :=g▸p;refine leavX t G r λD fl sm=>?_
 have x :=λb o e n c=>v b o (I.base.keep b o e n c<|d b) (I.base.free b o e n<|d b)<|Lx I e c
 have tB:∀b o,X.s₀.heap.get? b=↑o->b∉Bd X.outer->∃f,B.get? b=↑f:=λb o e c=>by
  let(f,l):=I.base.there b o e<|d b;exact w b f l<|Lx I e c
 have y:∀b o,X.s₀.heap.get? b=↑o->X.H₀ b=none->b∈Bd X.outer->∃z,D.get? b=↑{ o with slots:=z }:=λb o e n c=>by
  let(z,j):=I.base.slot b o e n c<|d b;let(_,o2,i,hd):=I.funs.mem c;rw[j]at i;cases i;let(J,m):=un.slot b { o with slots:=z } j (I.base.free b o e n<|d b) (zea g c)<|by simp
  let(K,C):=sm b { o with slots:=J } m hd;exact{(K),C}
 refine{a,k,A,B,rfl,os.trans I.os,bare,{λb o e n c ϊ=>fl.1 b o<|x b o e n c,λb o e n c ϊ=>y b o e n c,λb o e n ϊ=>?_,λb o e ϊ=>?_,λb xs e=>un.tups b xs<|I.base.tups b xs e,λb o u e=>un.frzs b o u<|I.base.frzs b o u e,λb ps e=>?_},hok,x,tB,Z1 fl,F};let(f,l):=I.base.there b o e<|d b;exact un.free b f l (I.base.free b o e n<|d b)<|by simp
 by_cases c:b∈Bd X.outer;let(z,q):=y b o e (I.ok.frf b c) c;exact{_,q};let(f,q):=tB b o e c;exact{f,fl.1 b f q};let(m1,j):=I.base.tbls b ps e;let(m2,m):=un.tbls b _ j;exact{m1++m2,m.trans<|by rw[Array.append_assoc]}
end
section
variable {P:Program}{w:World}{K:k6}{mg:Str->Option Value}{base:Heap}
theorem Vi:DH (FG (DO P w) P w K mg base N qual sc f cd A outer s H E)<|λϊ=>E:=
 λϊ ϊ ϊ ϊ ϊ ϊ I h=>zk0 rfl rfl rfl I h
theorem Xd:TY (FG (DO P w) P w K mg base N qual sc f cd A outer s H E)<|λϊ=>E:=
 λϊ ϊ ϊ ϊ ϊ ϊ ϊ ϊ I b a=>made_ok rfl rfl rfl I b a
def Vn{st }      (F:FunD K x qual st f fd)(S:FnScope N ps<|CP st)(len:∀vs H Q E,sp vs H Q E->vs.length=ps.length)
  (a : ∀ (cdv ) (A ) (outer ) (s ) (H ) (vs ) (Q ) (E ), Room k (A.deeper<|envOfC qual (CP st) s.heap.objs.size f cdv) -> sp vs H Q E ->
   ∃t,B9 (FG (DO P w) P w K mg base N qual (CP st) f cdv A outer s H E) (FE st) t/\t { nx:=λϊ H'=>Q .non H',rt:=Q } (start N vs) H):FnOk P w K mg base (DO P w) (k+1) f fd ps sp:=by
 let(j,l,i,kV,d,m,h,cdv,ct,g,rfl,lk,b):=F.ex;exact Rk lk b S len λA outer s H vs Q E e c=>a cdv A outer s H vs Q E e c
end
structure DefX(P:Program)(w:World)(K:k6)(mg:Str->Option Value)(base:Heap)(k:Nat)(x:Str)(ps:kE)(sp:Sp) where
 f:Addr
 fd:FuncData
 ok:FnOk P w K mg base (DO P w) k f fd ps sp
 m:mg x=↑(.ref f)
 kp:W.keepIn K (.ref f)=true
 b:C6 K fd ps []
structure DefsX(K:k6)(fd:FuncData)(ps:kE)(dvs:kK):Prop where
 ex:∃ds,C6 K fd ps ds/\A4 dvs ds
section
variable {X:Cx}{k j:Nat}{f:Addr}{fd:FuncData}{x:Str}{ps:kE}{sp:Sp}{p pos:Pos}{e:Expr}{es:kC}{t:TA}{E:L2.St->XK}{dvs:kK}
def Ph{O:L2.St}      (F:FnOk X.prog X.w X.K X.mg X.base (DO X.prog X.w) k f fd ps sp)(e:Room k X.A)(c:C6 X.K fd ps ds)(hd:A4 dvs ds)(g:DH X E)
  (I:Inv X pz O H s) (r:A4 vs us) (h:sp (vs++dvs) H Q<|E O):wpAny (model X.prog X.w) X.A (call (.ref f) us) (EP X pz O Q) X.xe s:=by
 have b :=r.append hd;have d :=b.length.symm.trans<|F.len _ _ _ _ h;refine ę<|ý (F.run X.A X.stack s H {us,[]} (us++ds) (vs++dvs) Q (E O) e I.env0 (c s us I.kIn d) b h) λr i a=>?_
 cases r with
 |error v=>exact g pz O H s v i I a|ok fl=>
  cases fl with
  |ret u=>exact I.after a|_=>exact False.elim a
def UX(sp:Sp)(dvs:kK)(E:L2.St->XK)(t:TA):TE:=λO H Q=>t O H λb a=>sp (b++dvs) a Q<|E O
def px(D:DefX X.prog X.w X.K X.mg X.base k x ps sp)(g:Room j X.A)(i:DH X E)(c:PA X (e::es) t)(hk:k<=j)(f:Gl X x)(a:(x == "__debug__")=false)
  (d:starEach (e::es) X.env=(false,eval e X.env)::starEach es X.env) (b:(backTo pos<|starEach es X.env).any (·.1)=false):PE X (.Call (.Name x p) (e::es) [] pos)<|UX sp [] E t:=by
 intro l s O H Q I h;refine ĭ<|Jt I f D.m ?_ a;refine ŉ I.ok.mod.kin D.kp (AZ (c pos l s O H _ I h) λm s1 ⟨n,H1,I1,r,q⟩=>{I1.kIn,?_}) d b
 exact Ph D.ok (g.mono hk) D.b .nil i I1 r q
end
abbrev Nq:k9:=[.type "ValueError",.type "Exception",.type "BaseException",.type "object"]
def Pn:Value->Bool
 |.type s=>s == "type"|ϊ=>false
def Pq:Data->Option ClassData
 |.cls k=>↑k|ϊ=>none
def Po:Value->Option Addr
 |.ref D=>↑D|ϊ=>none
def Pr:Value->Bool
 |.builtin n=>n == "ValueError.__new__"|ϊ=>false
def KL(K:k6)(C:Addr):Bool:=match K.lookup C with
 |some o=>(match Pq o.data with
  |some k=>Pn o.cls && (o.slots.toList.length == 6 && ((o.slots.toList.getD 4 none).elim false Pr && (!k.hasDel && (k.mro.head?.bind Po == ↑C && (W.tailIn K Nq k.mro.tail && W.nsOkIn K k.ns)))))|none=>false)
 |none=>false
def EF(K:k6)(C:Addr):Option<|Option Value:=(W.clsIn K C).bind λk=>W.nsIn K k.ns "__init__"
structure ExcK(K:k6)(C:Addr):Prop where
 q:KL K C=true
 self:W.subIn K (.ref C) (.ref C)=↑true
 cd:∃cd,W.clsIn K C=↑cd
 ty:W.typeIn K (.ref C)=↑(.type "type")
 ga:W.findIn K (.ref C) "__getattribute__"=↑(↑(.builtin "BaseException.__getattribute__"))
 gt:W.findIn K (.ref C) "__getattr__"=↑none
 ca:W.findIn K (.ref C) "__class__"=↑(↑(.builtin "object.__class__"))
 ob:W.mroIn K C (.type "object")=↑true
 be:W.mroIn K C (.type "BaseException")=↑true
 gs:W.specialIn K (.builtin "object.__class__") "__get__"=↑(↑(.builtin "getset_descriptor.__get__"))
 tk:W.takesIn K (.builtin "object.__class__")=↑true
structure ECls(K:k6)(mg:Str->Option Value)(x:Str) where
 C:Addr
 m:mg x=↑(.ref C)
 k:ExcK K C
def zmv{c:Value}(h:Pn c=true):c=.type "type":=by
 cases c<;>first|exact congrArg _ (eq_of_beq h)|cases h
def zmx{d:Data}{k:ClassData}(h:Pq d=↑k):d=.cls k:=by
 cases d<;>cases h;rfl
def zmw{l:k9}{C:Addr}(h:l.head?.bind Po=↑C):∃bm,l=.ref C::bm:=by
 cases l with
 |nil=>cases h|cons w bm=>refine{bm,congrArg (·::bm) ?_};cases w<;>cases h;rfl
def zmy{o:Option Value}(h:o.elim false Pr=true):o=↑(.builtin "ValueError.__new__"):=by
 cases o with
 |none=>cases h|some v=>cases v<;>first|exact congrArg (λn=>↑(Value.builtin n)) (eq_of_beq h)|cases h
def six{l:List<|Option Value}(h:l.length=6):l=[l.getD 0 none,l.getD 1 none,l.getD 2 none,l.getD 3 none,l.getD 4 none,l.getD 5 none]:=by
 let(a,l,rfl):=Ĝ h;let(b,l,rfl):=Ĝ<|ð h;let(c,l,rfl):=Ĝ<|ð<|ð h;have h:l.length=3:=ð<|ð<|ð h;let(d,l,rfl):=Ĝ h;let(e,l,rfl):=Ĝ<|ð h;let(f,l,rfl):=Ĝ<|ð<|ð h;rw[List.eq_nil_of_length_eq_zero<|ð<|ð<|ð h]
 rfl
def zle{K:k6}{C:Addr}(q:KL K C=true):∃c dd sl k,K.lookup C=↑{c,dd,.cls k,sl}/\Pn c=true/\sl.toList.length=6/\(sl.toList.getD 4 none).elim false Pr=true/\k.hasDel=false/\k.mro.head?.bind Po=↑C/\W.tailIn K Nq k.mro.tail=true/\W.nsOkIn K k.ns=true:=by
 unfold KL at q;cases a:K.lookup C with
 |none=>rw[a]at q;exact absurd q õ|some o=>
  rw[a]at q;let(c,dd,b,sl):=o;dsimp only at q;cases hk:Pq b with
  |none=>rw[hk]at q;exact absurd q õ|some k=>rw[hk]at q;cases zmx hk;erw[Ä,đ,ō]at q;exact{(c),dd,sl,k,rfl,q}
def zpk{K}(X:K.In h)(q:KL K C=true):∃(k:ClassData) (bm:k9) (dd:Option Addr) (f:Nat->Option Value) (mN:Str->Option Value),h.get? C=↑(excClassObj k.name k.qualname C k.ns k.bases bm k.hasDict k.slotNames k.subclasses k.abstract k.collection dd (f 0) (f 1) (f 2) (f 3) (f 5) "ValueError.__new__")/\h.Ns k.ns mN/\(W.clsIn K C=↑k/\k.mro=.ref C::bm)/\OwnTail h Nq bm:=by
 let(c,dd,a,k,e,l,m,n,o,p,g,hok):=zle q;let(bm,b):=zmw p
 have j:a=#[a.toList.getD 0 none,a.toList.getD 1 none,a.toList.getD 2 none,a.toList.getD 3 none,↑(.builtin "ValueError.__new__"),a.toList.getD 5 none]:=by
  rw[<- zmy n];exact congrArg List.toArray<|six m
 have d:h.get? C=↑{c,dd,.cls {(k.name),k.bases,k.mro,k.ns,k.qualname,k.hasDict,k.slotNames,k.subclasses,k.abstract,k.collection,k.hasDel},a}:=X _ _ e;rw[zmv l,b,o,j]at d;rw[b]at g;exact{k,bm,dd,λi=>a.toList.getD i none,_,d,.of_isNs<|W.isNs_of_in X hok,{by unfold W.clsIn;rw[e],b},W.tail_of_in X g}
def zhf{K}(X:K.In h)(G:h.Ns N mN)(a:W.clsIn K C=↑cd)(b:cd.ns=N)(q:EF K C=↑none):mN "__init__"=none:=by
 unfold EF at q;rw[a]at q;subst b;exact W.ns_none_of X G q
section
variable {X:Cx}{x:Str}{p cpos pos:Pos}{e:Expr}{es:kC}{t:TA}{E:L2.St->XK}
def zm7(C:Addr)(E:L2.St->XK)(t:TA):TS:=λϊ O H=>t O H λb a=>b.length<=sizeLine/\E O (.ref C) none a
def zgs(T:ECls X.K X.mg x)(b:EF X.K T.C=↑none)(w:X.calm=true)(C:TY X E)(v:PA X (e::es) t)(A:Gl X x)(f:(x == ("__debug__":Str))=false)
  (y:starEach (e::es) X.env=(false,eval e X.env)::starEach es X.env) (i:(backTo cpos<|starEach (e::es) X.env).any (·.1)=false) :
  PS X (.Raise (↑(.Call (.Name x p) (e::es) [] cpos)) none pos) (zm7 T.C E t):=by
 intro n s O H D I h;let(cd,G,k,c,J,u,m,(d,_),j):=zpk I.mod.kin T.k.q;have g:=zhf I.mod.kin m d rfl b
 refine wpAny_Raise_call_subT (nm:=cd.name) (q:=cd.qualname) (N:=cd.ns) (bs:=cd.bases) (hdct:=cd.hasDict) (sn:=cd.slotNames) (sub:=cd.subclasses) (ab:=cd.abstract) (col:=cd.collection) (dd:=k) (k0:=c 0) (k1:=c 1) (k2:=c 2) (k3:=c 3) (k5:=c 5)
  PySem.F.excBase_ValueError (j.hasType PySem.F.excBase_ValueError.hasBase) (I.ok.hd w) i g (Jt I A T.m {rfl,?_} f)
 have l:=v cpos n s O H _ I h;rw[y]at l ⊢;exact Calls.evalArgs_plain<|AZ l λF s1 ⟨K,H1,I1,r,z,q1⟩=>{rfl,r.length▸z,I1.bk _ _ u,m.keeps I1.bk,j.keeps I1.bk,λo a B=>C n O H1 s1 a _ F o I1 B q1}
end
def Kp(H:Hp)(a C:Addr):Prop:=∃ob,H a=↑(.frz ob<|.own 0)/\ob.cls=.ref C/\∃b,ob.data=.fields b/\b[2]?=↑.none
def JO(H:Hp)(a C:Addr)(c:Option Addr):Prop:=∃ob,H a=↑(.frz ob<|.own 0)/\(ob.cls,ob.dict)=(.ref C,c)/\∃b,ob.data=.fields b/\b[2]?=↑.none
theorem JO.x(h:JO H a C dx):Kp H a C:=let ⟨ob,e,k,r⟩:=h;{ob,e,congrArg Prod.fst k,r}
theorem JO.of(x:JO H a C dx)(e:∀u,H a=↑u->F a=↑u):JO F a C dx:=
 let ⟨ob,y,r⟩:=x;{ob,e _ y,r}
theorem Kp.of(x:Kp H a C)(e:∀u,H a=↑u->F a=↑u):Kp F a C:=
 let ⟨ob,y,r⟩:=x;{ob,e _ y,r}
section
variable {K:k6}{a C:Addr}
variable {X:Cx}
end
section
variable {X:Cx}{pz:List<|Addr×Obj}{O:L2.St}{H:Hp}{s:Shared}{xe:Value->Shared->Prop}
variable {A:Around}{E:Value->Shared->Prop}{M:Model}
end
section
variable {X:Cx}{i:Nat}{x n:Str}{np pos hpos:Pos}{body suite:kD}{b₀:Stmt}{tb th:TS}{E:L2.St->XK}
end
end Zx
namespace Pu
open PySem PySem.Spec PyProof.Rows L2 Zw Zx
abbrev Rg:=Addr->Prop
def R0:Rg:=λϊ=>False
set_option genInjectivity true in
inductive Kd where
 |lst|rl|tup|rt|pin (p:Addr)
set_option genInjectivity true in
inductive Ob where
 |ins (C:Addr) (fs:List Str)|exn (C:Addr)|sdc (ks:List Str)|lab (p:Addr)
set_option genInjectivity true in
inductive T where
 |non|bl (b:Bool)|int (i:Int)|str (x:Str)|nd (o:Bool) (k:Kd) (l:List T)|dic (ks:List Int) (l:List T)|pdc (ks:List Int) (l:List T)|odc (ks:List Int) (l:List T)
 |obj (k:Ob) (l:List T)|oob (p C:Addr) (fs:List Str) (l:List T)|osd (ks:List Str) (l:List T)
abbrev kH:=Option T
abbrev kL:=List T
abbrev T.lst(l:kL):T:=.nd false .lst l
abbrev T.own(l:kL):T:=.nd true .lst l
abbrev T.tup(l:kL):T:=.nd false .tup l
mutual
noncomputable def T.share:T->T
 |.nd ϊ k l=>.nd false k (BP l)|.dic a l=>.dic a (BP l)|.pdc a l=>.pdc a (BP l)|.odc a l=>.pdc a (BP l)|.obj k l=>.obj k (BP l)|.oob ϊ C fs l=>.obj (.ins C fs) (BP l)|.osd a l=>.obj (.sdc a) (BP l)|.non=>.non|.bl b=>.bl b|.int i=>.int i|.str x=>.str x
noncomputable def BP:List T->List T
 |[]=>[]|t::r=>t.share::BP r
end
mutual
noncomputable def T.sh:T->Bool
 |.nd o ϊ l=>!o && AV l|.dic ϊ l=>AV l|.pdc ϊ l=>AV l|.odc ϊ ϋ=>false|.obj ϊ l=>AV l|.oob ϊ ϋ ό ύ=>false|.osd ϊ ϋ=>false|.non=>true|.bl ϊ=>true|.int ϊ=>true|.str ϊ=>true
noncomputable def AV:List T->Bool
 |[]=>true|t::r=>t.sh && AV r
end
def T.flat:T->Bool
 |.nd ϊ ϋ ό=>false|.dic ϊ ϋ=>false|.pdc ϊ ϋ=>false|.odc ϊ ϋ=>false|.obj ϊ ϋ=>false|.oob ϊ ϋ ό ύ=>false|.osd ϊ ϋ=>false|.non=>true|.bl ϊ=>true|.int ϊ=>true|.str ϊ=>true
def FO:∀l ,BP l=l.map T.share
 |[]=>rfl|t::r=>by rw[BP,FO r];rfl
def DV:∀l ,AV l=l.all T.sh
 |[]=>rfl|t::r=>by rw[AV,DV r];rfl
mutual
theorem Cf:∀t:T,t.sh=true->t.share=t
 |.nd o k l,h=>by
  rw[T.sh,Ä]at h;have b:o=false:=by simpa using h.1
  subst b;rw[T.share,AK l h.2]
 |.dic a l,h=>by
  rw[T.sh]at h;rw[T.share,AK l h]
 |.pdc a l,h=>by
  rw[T.sh]at h;rw[T.share,AK l h]
 |.odc a l,h=>by
  rw[T.sh]at h;cases h
 |.obj k l,h=>by
  rw[T.sh]at h;rw[T.share,AK l h]
 |.oob p C fs l,h=>by
  rw[T.sh]at h;cases h
 |.osd a l,h=>by
  rw[T.sh]at h;cases h
 |.non,ϊ=>rfl|.bl ϊ,ϋ=>rfl|.int ϊ,ϋ=>rfl|.str ϊ,ϋ=>rfl
theorem AK:∀l:List T,AV l=true->BP l=l
 |[],ϊ=>rfl|t::r,h=>by
  rw[AV,Ä]at h;rw[BP,Cf t h.1,AK r h.2]
end
mutual
theorem zgf:∀t:T,t.share.sh=true
 |.nd o k l=>by
  rw[T.share,T.sh,Fq l];rfl
 |.dic a l=>by rw[T.share,T.sh,Fq l]|.pdc a l=>by rw[T.share,T.sh,Fq l]|.odc a l=>by rw[T.share,T.sh,Fq l]|.obj k l=>by rw[T.share,T.sh,Fq l]|.oob p C fs l=>by rw[T.share,T.sh,Fq l]|.osd a l=>by rw[T.share,T.sh,Fq l]|.non=>rfl|.bl ϊ=>rfl|.int ϊ=>rfl|.str ϊ=>rfl
theorem Fq:∀l:List T,AV (BP l)=true
 |[]=>rfl|t::r=>by rw[BP,AV,zgf t,Fq r];rfl
end
def ziy(h:AV l=true){i:Nat}(e:l[i]?=↑t):t.sh=true:=by
 rw[DV]at h;exact Ú.mp h _<|ì e
def GJ(K:k6)(F:Hp)(p:Addr)(xs:kK):Prop:=(∃o,F p=↑(.frz o<|.lst xs))\/∃(o:Obj) (a:Array Value) (n:Nat),K.lookup p=↑o/\o.cls=.type "list"/\o.dict=none/\o.data=.seq a n/\a.size<=sizeLine/\A4 xs a.toList
theorem GJ.l{K}(h:GJ K F p xs):Ab K F p xs:=h.elim (λz=>.inl<|.inr z) .inr
def Fj(K:k6)(F:Hp)(k:Kd)(p:Addr)(xs:kK):Prop:=match k with
 |.lst=>F p=↑(.lst xs)|.rl=>GJ K F p xs|.tup=>F p=↑(.tup xs)|.rt=>CD K F p xs|.pin ϊ=>F p=↑(.lst xs)
def GW{K}(s:A3 F F')(h:CD K F p xs):CD K F' p xs:=by
 rcases h with (h|⟨o,h⟩)|h;exact .inl<|.inl<|s _ _ h
 exact .inl<|.inr {o,s _ _ h}
 exact .inr h
def Fj.same{K}(h:Fj K F k p xs)(s:A3 F F'):Fj K F' k p xs:=by
 cases k with
 |lst=>exact s _ _ h|rl=>exact h.elim (λ⟨o,z⟩=>.inl {o,s _ _ z}) .inr|tup=>exact s _ _ h|rt=>exact GW s h|pin q=>exact s _ _ h
def Kd.isT:Kd->Bool
 |.tup=>true|ϊ=>false
def JN(k:Kd)(p:Addr):Prop:=match k with
 |.lst=>True|.pin q=>q=p|.tup=>True|ϊ=>False
def R7:Kd->kK->HO
 |.tup,xs=>.tup xs|ϊ,xs=>.lst xs
def Y3(h:k.isT=false):R7 k xs=.lst xs:=by cases k<;>first|rfl|cases h
def JN.node{K}(hk:JN k p)(h:F p=↑(R7 k xs)):Fj K F k p xs:=by
 cases k with
 |lst=>exact h|pin q=>exact h|tup=>exact h|_=>exact hk.elim
def Ih(ks:kF)(xs:kK):List<|Key×V:=List.zipWith (λk x=>(Sum.inl k,x)) ks xs
def Co(ks:kE)(xs:kK):List<|Key×V:=List.zipWith (λk x=>(Sum.inr k,x)) ks xs
def K3(F:Hp)(b:Option Addr)(v:V):Prop:=∃d a u,b=↑d/\F d=↑(.frz a<|.own 0)/\A6 v u/\W.lookIn "step" a=↑↑u
theorem K3.of(h:K3 F dx v)(s:∀a u,F a=↑u->F' a=↑u):K3 F' dx v:=
 let ⟨d,od,u,e,h1,r⟩:=h;{d,od,u,e,s _ _ h1,r}
def Kl(F:Hp)(k:Ob)(p:Addr)(xs:kK):Prop:=match k with
 |.ins C fs=>∃a,F p=↑(.ins C a<|fs.zip xs)|.exn C=>∃a,JO F p C a/\∀v∈xs,K3 F a v|.sdc b=>b.length=xs.length/\F p=↑(.dK<|Co b xs)|.lab q=>q=p/\xs=[.ref p]
def Kl.same(h:Kl F k p xs)(s:A3 F F'):Kl F' k p xs:=by
 cases k with
 |ins C fs=>exact h.elim λa e=>{a,s _ _ e}|exn C=>exact h.elim λa e=>{a,e.1.of λu=>s p u,λv b=>(e.2 v b).of s}|sdc c=>exact{h.1,s _ _ h.2}|lab q=>exact h
inductive Rp(K:k6)(F H:Hp):T->V->Rg->Prop where
 |non:Rp K F H .non .non R0
 |bl (b:Bool):Rp K F H (.bl b) (.bl b) R0
 |int (i:Int):Rp K F H (.int i) (.int i) R0
 |str (x:Str):Rp K F H (.str x) (.str x) R0
 |shr {k:Kd} {p:Addr} {xs:List V} {l:List T} (h:Fj K F k p xs) (e:l.length=xs.length) (c:∀(i:Nat) (t:T) (x:V),l[i]?=↑t->xs[i]?=↑x->Rp K F H t x R0):Rp K F H (.nd false k l) (.ref p) R0
 |dic {p:Addr} {ob:Obj} {ks:List Int} {xs:List V} {l:List T} (h:F p=↑(.frz ob<|.dK<|Ih ks xs)) (e:l.length=xs.length) (ek:ks.length=xs.length) (c:∀(i:Nat) (t:T) (x:V),l[i]?=↑t->xs[i]?=↑x->Rp K F H t x R0):Rp K F H (.dic ks l) (.ref p) R0
 |pdc {p:Addr} {ks:List Int} {xs:List V} {l:List T} (h:F p=↑(.dK<|Ih ks xs)) (e:l.length=xs.length) (ek:ks.length=xs.length) (c:∀(i:Nat) (t:T) (x:V),l[i]?=↑t->xs[i]?=↑x->Rp K F H t x R0):Rp K F H (.pdc ks l) (.ref p) R0
 |odc {p:Addr} {ks:List Int} {xs:List V} {l:List T} (f:F p=none) (h:H p=↑(.dK<|Ih ks xs)) (e:l.length=xs.length) (ek:ks.length=xs.length) (c:∀(i:Nat) (t:T) (x:V),l[i]?=↑t->xs[i]?=↑x->Rp K F H t x R0):Rp K F H (.odc ks l) (.ref p)<|λa=>a=p
 |obj {k:Ob} {p:Addr} {xs:List V} {l:List T} (h:Kl F k p xs) (e:l.length=xs.length) (c:∀(i:Nat) (t:T) (x:V),l[i]?=↑t->xs[i]?=↑x->Rp K F H t x R0):Rp K F H (.obj k l) (.ref p) R0
 |oob {C p dx:Addr} {fs:List Str} {xs:List V} {l:List T} (R:Nat->Rg) (f:F p=none) (h:H p=↑(.ins C dx<|fs.zip xs)) (e:l.length=xs.length) (c:∀(i:Nat) (t:T) (x:V),l[i]?=↑t->xs[i]?=↑x->Rp K F H t x (R i))
   (d:∀i j a,i≠j->R i a->¬ R j a) (dp:∀i,¬ R i p) (o:∀i a,R i a->i<l.length):Rp K F H (.oob p C fs l) (.ref p) (λa=>a=p\/∃i,R i a)
 |osd {p:Addr} {ks:List Str} {xs:List V} {l:List T} (R:Nat->Rg) (f:F p=none) (h:H p=↑(.dK<|Co ks xs)) (e:l.length=xs.length) (ek:ks.length=xs.length) (c:∀(i:Nat) (t:T) (x:V),l[i]?=↑t->xs[i]?=↑x->Rp K F H t x (R i))
   (d:∀i j a,i≠j->R i a->¬ R j a) (dp:∀i,¬ R i p) (o:∀i a,R i a->i<l.length):Rp K F H (.osd ks l) (.ref p) (λa=>a=p\/∃i,R i a)
 |own {k:Kd} {p:Addr} {xs:List V} {l:List T} (hk:JN k p) (R:Nat->Rg) (f:F p=none) (h:H p=↑(R7 k xs)) (e:l.length=xs.length) (c:∀(i:Nat) (t:T) (x:V),l[i]?=↑t->xs[i]?=↑x->Rp K F H t x (R i))
   (d:∀i j a,i≠j->R i a->¬ R j a) (dp:∀i,¬ R i p) (o:∀i a,R i a->i<l.length):Rp K F H (.nd true k l) (.ref p) (λa=>a=p\/∃i,R i a)
theorem reg0{p:Addr}:(λa=>a=p\/∃_:Nat,R0 a)=λa=>a=p:=funext λϊ=>propext {λz=>z.elim id λ⟨_,w⟩=>w.elim,.inl}
def Rp.osd0{K}{F H:Hp}{p:Addr}{ks:kE}{xs:kK}{l:kL}(f:F p=none)(h:H p=↑(.dK<|Co ks xs))(e:l.length=xs.length)(b:ks.length=xs.length)(c:∀(i:Nat) (t:T) (x:V),l[i]?=↑t->xs[i]?=↑x->Rp K F H t x R0):Rp K F H (.osd ks l) (.ref p)<|λa=>a=p:=by
 have r:Rp K F H (.osd ks l) (.ref p) (λa=>a=p\/∃_:Nat,R0 a):=.osd (λϊ=>R0) f h e b c (λϊ ϊ ϊ ϊ z=>z.elim) (λϊ z=>z)<|λϊ ϊ z=>z.elim
 rwa[reg0]at r
section
variable {K:k6}{F F' H H':Hp}{t:T}{x:V}{A:Rg}
def Rp.frame(h:Rp K F H t x A)(s:A3 F F')(k:∀a,A a->H' a=H a/\F' a=none):Rp K F' H' t x A:=by
 induction h with
 |non=>exact .non|bl b=>exact .bl b|int i=>exact .int i|str y=>exact .str y|shr h e c l=>exact .shr (h.same s) e λi t x g j=>l i t x g j λa z=>z.elim|dic h e m c l=>exact .dic (s _ _ h) e m λi t x g j=>l i t x g j λa z=>z.elim|pdc h e m c l=>exact .pdc (s _ _ h) e m λi t x g j=>l i t x g j λa z=>z.elim|odc f h e m c l=>have q:=k _ rfl;exact .odc q.2 (q.1.trans h) e m λi t x g j=>l i t x g j λa z=>z.elim|obj h e c l=>exact .obj (h.same s) e λi t x g j=>l i t x g j λa z=>z.elim|oob R f h e c d dp o l=>have q:=k _<|.inl rfl;exact .oob R q.2 (q.1.trans h) e (λi t x g j=>l i t x g j λa z=>k a<|.inr {(i),z}) d dp o|osd R f h e m c d dp o l=>have q:=k _<|.inl rfl;exact .osd R q.2 (q.1.trans h) e m (λi t x g j=>l i t x g j λa z=>k a<|.inr {(i),z}) d dp o|own hk R f h e c d dp o l=>have q:=k _<|.inl rfl;exact .own hk R q.2 (q.1.trans h) e (λi t x g j=>l i t x g j λa z=>k a<|.inr {(i),z}) d dp o
def Rp.dom(h:Rp K F H t x A)(g:A a):F a=none/\∃u,H a=↑u:=by
 induction h with
 |non=>exact g.elim|bl b=>exact g.elim|int i=>exact g.elim|str y=>exact g.elim|shr h e c j=>exact g.elim|dic h e n c j=>exact g.elim|pdc h e n c j=>exact g.elim|odc f h e n c j=>grind|obj h e c j=>exact g.elim|@osd p s xs l R f h e n c d dp o j=>
  rcases g with rfl|⟨i,z⟩;grind;have k:=o i a z;have m:i<xs.length:=by lia
  exact j i _ _ (Á k) (Á m) z
 |@oob C p q fs xs l R f h e c d dp o j=>
  rcases g with rfl|⟨i,z⟩;grind;have k:=o i a z;have m:i<xs.length:=by lia
  exact j i _ _ (Á k) (Á m) z
 |@own r p xs l hk R f h e c d dp o j=>
  rcases g with rfl|⟨i,z⟩;grind;have k:=o i a z;have m:i<xs.length:=by lia
  exact j i _ _ (Á k) (Á m) z
def Rp.share(h:Rp K F H t x A)(s:A3 F F')(k:∀a u,A a->H a=↑u->F' a=↑u):Rp K F' H' t.share x R0:=by
 induction h with
 |non=>exact .non|bl b=>exact .bl b|int i=>exact .int i|str y=>exact .str y|@shr w p xs l h e c m=>
  rw[T.share,FO];refine .shr (h.same s) (by rw[À];exact e) λi t x g j=>?_;rw[È]at g;let(q,n,rfl):=Ø.mp g;exact m i q x n j λa u z=>z.elim
 |@dic p ob v xs l h e r c m=>
  rw[T.share,FO];refine .dic (s _ _ h) (by rw[À];exact e) r λi t x g j=>?_;rw[È]at g;let(q,n,rfl):=Ø.mp g;exact m i q x n j λa u z=>z.elim
 |@pdc p v xs l h e r c m=>
  rw[T.share,FO];refine .pdc (s _ _ h) (by rw[À];exact e) r λi t x g j=>?_;rw[È]at g;let(q,n,rfl):=Ø.mp g;exact m i q x n j λa u z=>z.elim
 |@odc p v xs l f h e r c m=>
  rw[T.share,FO];refine .pdc (k _ _ rfl h) (by rw[À];exact e) r λi t x g j=>?_;rw[È]at g;let(q,n,rfl):=Ø.mp g;exact m i q x n j λa u z=>z.elim
 |@obj w p xs l h e c m=>
  rw[T.share,FO];refine .obj (h.same s) (by rw[À];exact e) λi t x g j=>?_;rw[È]at g;let(q,n,rfl):=Ø.mp g;exact m i q x n j λa u z=>z.elim
 |@oob C p B fs xs l R f h e c d dp o m=>
  rw[T.share,FO];refine .obj {B,k _ _ (.inl rfl) h} (by rw[À];exact e) λi t x g j=>?_;grind
 |@osd p v xs l R f h e r c d dp o m=>
  rw[T.share,FO];refine .obj {r,k _ _ (.inl rfl) h} (by rw[À];exact e) λi t x g j=>?_;grind
 |@own w p xs l hk R f h e c d dp o m=>
  rw[T.share,FO];refine .shr (hk.node<|k _ _ (.inl rfl) h) (by rw[À];exact e) λi t x g j=>?_;grind
def Rp.r0(h:Rp K F H t x A)(s:t.sh=true):A=R0:=by
 cases h with
 |own hk R f h e c d dp o=>cases s|odc f h e a c=>cases s|oob R f h e c d dp o=>cases s|osd R f h e a c d dp o=>cases s|_=>rfl
def Rp.move(h:Rp K F H t x A)(s:t.sh=true)(q:A3 F F'):Rp K F' H' t x R0:=by
 have e:=h.r0 s;subst e;exact h.frame q λa z=>z.elim
def Rp.flat_any(h:Rp K F H t x A)(s:t.flat=true):Rp K F' H' t x R0:=by
 cases h with
 |non=>exact .non|bl b=>exact .bl b|int i=>exact .int i|str y=>exact .str y|shr h e c=>cases s|dic h e a c=>cases s|pdc h e a c=>cases s|odc f h e a c=>cases s|obj h e c=>cases s|oob R f h e c d dp o=>cases s|osd R f h e a c d dp o=>cases s|own hk R f h e c d dp o=>cases s
def Rp.int_inv{i:Int}(h:Rp K F H (.int i) x A):x=.int i:=by cases h;rfl
def Rp.bl_inv{b:Bool}(h:Rp K F H (.bl b) x A):x=.bl b:=by cases h;rfl
def Rp.non_inv(h:Rp K F H .non x A):x=.non:=by cases h;rfl
def Rp.str_inv{y:Str}(h:Rp K F H (.str y) x A):x=.str y:=by cases h;rfl
end
def Ae(K:k6)(F:Hp)(ts:kL)(xs:kK):Prop:=ts.length=xs.length/\∀(i:Nat) (t:T) (x:V),ts[i]?=↑t->xs[i]?=↑x->Rp K F F t x R0
theorem Ae.nil{K}:Ae K F [] []:={rfl,λi t x h=>by simp at h}
theorem Rp.any{K}(h:Rp K F H t x R0):Rp K F H' t x R0:=h.frame (A3.refl F) λa z=>z.elim
def Ae.cons{K:k6}{F H:Hp}{t:T}{x:V}{ts:kL}{xs:kK}(h:Rp K F H t x R0)(r:Ae K F ts xs):Ae K F (t::ts)<|x::xs:=by
 refine{by simp[r.1],λi c d a b=>?_};cases i with
 |zero=>simp at a b;subst a;subst b;exact h.any|succ j=>exact r.2 j c d (by simpa using a)<|by simpa using b
def Ae.inv{K}(r:Ae K F (t::ts) xs):∃x xs',xs=x::xs'/\Rp K F F t x R0/\Ae K F ts xs':=by
 let(e,h):=r;cases xs with
 |nil=>simp at e|cons x xs'=>exact{x,xs',rfl,h 0 t x rfl rfl,by simpa using e,λi c d a b=>h (i+1) c d (by simpa using a)<|by simpa using b}
def Ae.inv0{K}(r:Ae K F [] xs):xs=[]:=by
 let(e,h):=r;grind
theorem Ae.same{K}(r:Ae K F ts xs)(s:A3 F F'):Ae K F' ts xs:={r.1,λi t x b c=>((r.2 i t x b c).frame s λa z=>z.elim)}
def Ae.node{K}(h:Rp K F H (.nd false k l) (.ref p) A):∃xs,Fj K F k p xs/\Ae K F l xs:=by
 cases h with
 |shr h e c=>exact{_,h,e,λi t x a b=>(c i t x a b).any}
def Rp.ref_inv{K}(h:Rp K F H (.nd o k l) x A):∃p,x=.ref p:=by
 cases h with
 |shr h e c=>exact{_,rfl}|own hk R f h e c d dp o=>exact{_,rfl}
theorem Ae.of_node{K}(h:Fj K F k p xs)(r:Ae K F l xs):Rp K F H (.nd false k l) (.ref p) R0:=.shr h r.1 λi t x a b=>(r.2 i t x a b).any
structure Ext(F H F' H':Hp)(B:Rg):Prop where
 hh:A3 H H'
 ff:A3 F F'
 fh:A3 F' H'
 nb:∀b,B b->H b=none
 nf:∀b u,F' b=↑u->F b=↑u\/H b=none
def HM(s:A3 H H')(h:H' b=none):H b=none:=by
 cases e:H b with
 |none=>rfl|some u=>rw[s b u e]at h;cases h
section
variable {F H F1 H1 F2 H2:Hp}{B C:Rg}
theorem Ext.refl(s:A3 F H):Ext F H F H R0:={.refl _,.refl _,s,λϊ z=>z.elim,λϊ ϊ e=>.inl e}
theorem Ext.trans(a:Ext F H F1 H1 B)(b:Ext F1 H1 F2 H2 C):Ext F H F2 H2 (λx=>B x\/C x) where
 hh:=a.hh.trans b.hh
 ff:=a.ff.trans b.ff
 fh:=b.fh
 nb:=λx z=>z.elim (a.nb x) λz=>HM a.hh (b.nb x z)
 nf:=λx u e=>(b.nf x u e).elim (a.nf x u) λz=>.inr<|HM a.hh z
theorem Ext.mono(a:Ext F H F1 H1 B)(h:∀x,C x->B x):Ext F H F1 H1 C:={a.hh,a.ff,a.fh,λx z=>a.nb x<|h x z,a.nf}
theorem Ext.trans0(a:Ext F H F1 H1 R0)(b:Ext F1 H1 F2 H2 C):Ext F H F2 H2 C:=(a.trans b).mono λx z=>.inr z
open Classical in
def frz(F H:Hp)(A:Rg):Hp:=λb=>if A b then H b else F b
def E2{A:Rg}{b:Addr}(h:A b):frz F H A b=H b:=by unfold frz;rw[if_pos h]
def FC{A:Rg}{b:Addr}(h:¬ A b):frz F H A b=F b:=by unfold frz;rw[if_neg h]
theorem FD(n:∀a,A a->F a=none):A3 F<|frz F H A:=λb u e=>by
 by_cases h:A b;grind;rw[FC h];exact e
theorem Iu(s:A3 F H):A3 (frz F H A) H:=λb u e=>by
 by_cases h:A b;rw[E2 h]at e;exact e;rw[FC h]at e;exact s b u e
theorem Ext.frz(a:Ext F H F1 H1 B)(n:∀b,B b->F1 b=none):Ext F H (frz F1 H1 B) H1 R0 where
 hh:=a.hh
 ff:=a.ff.trans (FD n)
 fh:=Iu a.fh
 nb:=λϊ z=>z.elim
 nf:=λb u e=>by
  by_cases h:B b;exact .inr<|a.nb b h
  rw[FC h]at e;exact a.nf b u e
theorem Rp.ext{K }    (h:Rp K F H t x A)(a:Ext F H F1 H1 B):Rp K F1 H1 t x A:=h.frame a.ff λb z=>by
 let(f,u,e):=h.dom z;refine{(a.hh b u e).trans e.symm,?_};cases q:F1 b with
 |none=>rfl|some c=>
  rcases a.nf b c q with z|z;grind;grind
theorem Rp.apart{K}(h:Rp K F H t x A)(a:Ext F H F1 H1 B)(c:B b):¬ A b:=λz=>by
 let(f,u,e):=h.dom z;rw[a.nb b c]at e;cases e
theorem Ext.new(s:A3 F H)(h:H p=none):Ext F H (upd F p o) (upd H p o) R0 where
 hh:=L4 h o
 ff:=L4 (HM s h) o
 fh:=λb u e=>by
  by_cases a:b=p;subst a;rw[Ce]at e ⊢;exact e;rw[As a]at e ⊢;exact s b u e
 nb:=λϊ z=>z.elim
 nf:=λb u e=>by
  by_cases a:b=p;grind;rw[As a]at e;exact .inl e
theorem Ext.newO(s:A3 F H)(h:H p=none):Ext F H F (upd H p o) (λa=>a=p) where
 hh:=L4 h o
 ff:=.refl _
 fh:=λb u e=>L4 h o b u (s b u e)
 nb:=λb z=>by grind
 nf:=λb u e=>.inl e
end
abbrev AN:=List<|kH
structure StR(K:k6)(F H:Hp)(O:L2.St)(Y:AN)(R:Nat->Rg):Prop where
 fh:A3 F H
 len:O.length=Y.length
 rep:∀i t,Y[i]?=↑↑t->∃x,O[i]?=↑↑x/\Rp K F H t x (R i)
 out:∀i a,R i a->∃t,Y[i]?=↑↑t
 dis:∀i j a,i≠j->R i a->¬ R j a
section
variable {K:k6}{F H F1 H1:Hp}{O:L2.St}{Y:AN}{R:Nat->Rg}{B:Rg}
def StR.dom(h:StR K F H O Y R)(b:R i a):F a=none/\∃u,H a=↑u:=by
 let(t,e):=h.out i a b;let(x,_,r):=h.rep i t e;exact r.dom b
theorem StR.ext(h:StR K F H O Y R)(a:Ext F H F1 H1 B):StR K F1 H1 O Y R where
 fh:=a.fh
 len:=h.len
 rep:=λi t e=>by
  let(x,b,r):=h.rep i t e;exact{x,b,r.ext a}
 out:=h.out
 dis:=h.dis
theorem StR.apart(h:StR K F H O Y R)(a:Ext F H F1 H1 B)(c:B b)(i):¬ R i b:=λz=>by
 let(f,u,e):=h.dom z;rw[a.nb b c]at e;cases e
end
def YI:Key->PyData
 |.inl i=>.int i|.inr x=>.str x
mutual
noncomputable def T.data:T->PyData
 |.non=>.none|.bl b=>.bool b|.int i=>.int i|.str x=>.str x|.nd ϊ .lst l=>.list (Bn l)|.nd ϊ .rl l=>.list (Bn l)|.nd ϊ .tup l=>.tuple (Bn l)|.nd ϊ .rt l=>.tuple (Bn l)|.nd ϊ (.pin ϋ) l=>.list (Bn l)|.dic a l=>.dict ((a.map PyData.int).zip (Bn l))|.pdc a l=>.dict ((a.map PyData.int).zip (Bn l))|.odc a l=>.dict ((a.map PyData.int).zip (Bn l))|.obj ϊ ϋ=>.none|.oob ϊ ϋ ό ύ=>.none|.osd ϊ ϋ=>.none
noncomputable def Bn:List T->List PyData
 |[]=>[]|t::r=>t.data::Bn r
end
mutual
noncomputable def T.pln:T->Bool
 |.nd ϊ ϋ l=>Er l|.dic ϊ l=>Er l|.pdc ϊ l=>Er l|.odc ϊ l=>Er l|.obj ϊ ϋ=>false|.oob ϊ ϋ ό ύ=>false|.osd ϊ ϋ=>false|.non=>true|.bl ϊ=>true|.int ϊ=>true|.str ϊ=>true
noncomputable def Er:List T->Bool
 |[]=>true|t::r=>t.pln && Er r
end
def Ep:∀{l},Er l=true->∀{i:Nat} {t},l[i]?=↑t->t.pln=true
 |[],ϊ,i,t,e=>by simp at e|a::r,h,i,t,e=>by
  rw[Er,Ä]at h;cases i with
  |zero=>simp at e;subst e;exact h.1|succ i=>exact Ep h.2<|by simpa using e
def VD:∀{l} {us},l.length=us.length->(∀(i:Nat) (t) (u),l[i]?=↑t->us[i]?=↑u->∃as,Reads h u t.data as)->∃as,ReadsAll h us (Bn l) as
 |[],[],ϊ,ϋ=>{_,.nil}|[],ϊ::ϋ,e,ό=>by simp at e|ϊ::ϋ,[],e,ό=>by simp at e|t::l,u::us,e,f=>by
  let(j,r1):=f 0 t u rfl rfl;let(k,c):=VD (l:=l) (us:=us) (by simpa using e) λi d g a b=>f (i+1) d g (by simpa using a)<|by simpa using b
  exact{_,.cons r1 c}
def RQ(e:(DY P w).is k v=true):Reads h v (YI k) []:=by
 rcases FX (e) with ⟨i,t,rfl,rfl⟩|⟨x,t,rfl,rfl⟩;exact .int i t;exact .str x t
def Lp:∀(ks) (xs) (l) (vs),KV (Ih ks xs) vs->l.length=xs.length->ks.length=xs.length->(∀(i:Nat) (t) (x),l[i]?=↑t->xs[i]?=↑x->∀{u},A6 x u->∃as,Reads h u t.data as) ->
  ∃bs,PyProof.V.PairsRead h YI vs ((ks.map PyData.int).zip (Bn l)) bs
 |[],xs,l,vs,r,ϊ,ϋ,ό=>by
  have b:Paired _ [] vs:=(show Paired _ (Ih [] xs) vs from r);cases b;exact{_,.nil}
 |k::ks,[],l,vs,r,ϊ,a,ϋ=>by simp at a|k::ks,x::xs,[],vs,r,e,ϊ,ϋ=>by simp at e|k::ks,x::xs,t::l,vs,r,e,a,f=>by
  have b:Paired (λ(p:Key×V) (q:Key×Value)=>p.1=q.1/\A6 p.2 q.2) ((Sum.inl k,x)::Ih ks xs) vs:=r;cases b with
  |@cons ϊ q ϋ j hd o=>
   let(v,r1):=f 0 t x rfl rfl hd.2;let(w,m):=Lp ks xs l j o (by simpa using e) (by simpa using a) λi n s c d=>f (i+1) n s (by simpa using c)<|by simpa using d
   let(g,y):=q;cases (show Sum.inl k=g from hd.1);exact{_,.cons r1 m}
section
variable {X:Cx}{pz:List<|Addr×Obj}{O:L2.St}{F H:Hp}{s:Shared}
def GY(I:Inv X pz O H s)(fh:A3 F H)(h:Rp X.K F H t x A)(g:t.pln=true):∀{u},A6 x u->∃as,Reads s.heap u t.data as:=by
 have D:∀{l } {xs } {B },A4 xs B->l.length=xs.length->(∀(i:Nat) (t ) (x ),l[i]?=↑t->xs[i]?=↑x->∀{u },A6 x u->∃as,Reads s.heap u t.data as)->∃as,ReadsAll s.heap B (Bn l) as:=by
  intro l xs B r e j;refine VD (e.trans r.length) λi t u a m=>?_
  have T:i<xs.length:=by
   have:=(Ð.mp a).1;lia
  let(Y,E,r1):=r.get<|Á T;rw[m]at E;cases E;exact j i t _ a (Á T) r1
 have w:∀{p } {l } {xs },Ab X.K H p xs->l.length=xs.length->(∀(i:Nat) (t ) (x ),l[i]?=↑t->xs[i]?=↑x->∀{u },A6 x u->∃as,Reads s.heap u t.data as)->∃as,Reads s.heap (.ref p) (.list<|Bn l) as:=by
  intro p l xs Q e j;let(B,r,(o,n,E,N,V,P),_):=I.list Q;let(as,S):=D r e j;exact{_,.list E N P<|by simpa using S}
 have tups:∀{p } {l } {xs },CD X.K H p xs->l.length=xs.length->(∀(i:Nat) (t ) (x ),l[i]?=↑t->xs[i]?=↑x->∀{u },A6 x u->∃as,Reads s.heap u t.data as)->∃as,Reads s.heap (.ref p) (.tuple<|Bn l) as:=by
  intro p l xs Q e j;let(B,r,(o,E,N,n,P),_):=I.tuple Q;let(as,S):=D r e j;exact{_,.tuple E N P<|by simpa using S}
 induction h with
 |non=>intro u r;cases r;exact{_,.none}|bl b=>intro u r;cases r;exact{_,.bool b}|int i=>intro u r;let(t,rfl):=r;exact{_,.int i t}
 |str y=>intro u r;let(t,rfl):=r;exact{_,.str y t}
 |@shr k p xs l h e c j=>
  intro u r;cases r;cases k with
  |lst=>exact w (Ab.of<|fh _ _ h) e λi t x a m=>j i t x a m (Ep g a)|rl=>exact w (fh.seq h.l) e λi t x a m=>j i t x a m (Ep g a)|tup=>exact tups (CD.of<|fh _ _ h) e λi t x a m=>j i t x a m (Ep g a)|rt=>exact tups (GW fh h) e λi t x a m=>j i t x a m (Ep g a)|pin q=>exact w (Ab.of<|fh _ _ h) e λi t x a m=>j i t x a m<|Ep g a
 |@dic p ob K xs l h e G c j=>
  intro u r;cases r;let(W,z,hd,M,C,J):=(I.hok p _<|fh _ _ h);let(bs,L):=Lp K xs l M C e G λi t x a m=>j i t x a m<|Ep g a
  exact{_,Ţ (λk v q=>RQ q) J L}
 |@pdc p K xs l h e G c j=>
  intro u r;cases r;let(z,hd,M,C,J):=(I.hok p _<|fh _ _ h);let(bs,L):=Lp K xs l M C e G λi t x a m=>j i t x a m<|Ep g a
  exact{_,Ţ (λk v q=>RQ q) J L}
 |@odc p K xs l f h e G c j=>
  intro u r;cases r;let(z,hd,M,C,J):=(I.hok p _ h);let(bs,L):=Lp K xs l M C e G λi t x a m=>j i t x a m<|Ep g a
  exact{_,Ţ (λk v q=>RQ q) J L}
 |obj h e c j=>cases g|oob R f h e c d dp o j=>cases g|osd R f h e G c d dp o j=>cases g|@own U p xs l hk R f h e c d dp o j=>
  intro u r;cases r;cases U with
  |lst=>exact w (Ab.of h) e λi t x a m=>j i t x a m (Ep g a)|pin q=>exact w (Ab.of h) e λi t x a m=>j i t x a m (Ep g a)|tup=>exact tups (CD.of h) e λi t x a m=>j i t x a m (Ep g a)|_=>exact hk.elim
end
def E3(t:T):Bool:=t.pln && t.data.canLay0
def Iw(t u:T):Bool:=PyData.eqv t.data u.data
def Gn(t u:T):Bool:=E3 t && E3 u && decide (min t.data.depth u.data.depth<=60)
def Aq(t u:T):kH:=if Gn t u then ↑(.bl<|Iw t u) else none
def CH(t u:T):kH:=if Gn t u then ↑(.bl<|!Iw t u) else none
def Im(t:T)(l:kL):Bool:=E3 t && (Er l && PyData.canLayAll0 (Bn l)) && decide (min (PyData.depthAll<|Bn l) t.data.depth<=60)
def R8(t:T)(l:kL):Bool:=(Bn l).any λy=>PyData.eqv y t.data
def Y0(t:T)(y:Str):kH:=match t with
 |.str x=>↑(.bl<|!(Builtin.Str.occurrences y x 0 y.length 1).isEmpty)|ϊ=>none
def EG(t c:T):kH:=match c with
 |.nd ϊ ϋ l=>if Im t l then ↑(.bl<|R8 t l) else none
 |.str y=>Y0 t y|ϊ=>none
def HL(t c:T):kH:=match c with
 |.nd ϊ ϋ l=>if Im t l then ↑(.bl<|!R8 t l) else none
 |ϊ=>none
def Cq(K:k6)(F H:Hp)(v:T)(Q:VK):Prop:=∀b a z C,Ext F H b a C->Rp K b a v z C->Q z a
def Bg(K:k6)(g:T->T->kH):R2:=λx y H Q=>∃F t u v,A3 F H/\Rp K F F t x R0/\Rp K F F u y R0/\g t u=↑v/\Cq K F H v Q
def Lk(K:k6)(g:T->kH):V->Hp->VK->Prop:=λx H Q=>∃F t v,A3 F H/\Rp K F F t x R0/\g t=↑v/\Cq K F H v Q
def DK(K:k6)(g:kL->kH):kK->Hp->VK->Prop:=λxs H Q=>∃F a v,A3 F H/\Ae K F a xs/\g a=↑v/\Cq K F H v Q
section
variable {K:k6}{F H:Hp}{Q:VK}
theorem Cq.int(q:Cq K F H (.int i) Q)(s:A3 F H):Q (.int i) H:=q F H _ _ (Ext.refl s)<|.int i
theorem Cq.bl(q:Cq K F H (.bl b) Q)(s:A3 F H):Q (.bl b) H:=q F H _ _ (Ext.refl s)<|.bl b
theorem Cq.str(q:Cq K F H (.str x) Q)(s:A3 F H):Q (.str x) H:=q F H _ _ (Ext.refl s)<|.str x
theorem Cq.non(q:Cq K F H .non Q)(s:A3 F H):Q .non H:=q F H _ _ (Ext.refl s) .non
def Cq.list(q:Cq K F H (.own l) Q)(s:A3 F H)(r:Ae K F l xs)  (b:H p=none):Q (.ref p)<|upd H p<|.lst xs:=by
 refine q F (upd H p<|.lst xs) (.ref p) _ ((Ext.newO s b).mono ?_)<|.own (k:=.lst) trivial (λϊ=>R0) (HM s b) Ce r.1 (λi t x c d=>?_) (λϊ ϊ ϊ ϊ z=>z.elim) (λϊ z=>z) (λϊ ϊ z=>z.elim)
 rintro a (z|⟨i,z⟩);exact z;exact z.elim;exact(r.2 i t x c d).any
def Cq.tuple(q:Cq K F H (.tup l) Q)(s:A3 F H)(r:Ae K F l xs)(a:H p=none):Q (.ref p)<|upd H p<|.tup xs:=by
 have e:=Ext.new (o:=.tup xs) s a;exact q _ _ _ _ e<|Ae.of_node Ce<|r.same e.ff
theorem Cq.same(q:Cq K F H t Q)(s:A3 F H)(r:Rp K F F t x R0):Q x H:=q F H x _ (Ext.refl s) r.any
end
def EO(i:Int):Bool:=@decide (-(2 ^ 64)<i/\i<2 ^ 64) (Classical.propDecidable _)
def Bx(i:Int):Bool:=@decide (-(10 ^ 70)<i/\i<10 ^ 70) (Classical.propDecidable _)
def YL(k:Int):Bool:=@decide (k<2 ^ 63/\-(2 ^ 63)<=k) (Classical.propDecidable _)
def Bl(i j:Int):Bool:=EO i || EO j || (Bx i && Bx j)
def Bj:Nat:=16777216
def Ak:T->T->kH
 |.int i,.int j=>↑(.int<|i+j)|.str x,.str y=>if x.length+y.length<=Bj then ↑(.str<|x++y) else none
 |.nd ϊ .lst l,.nd ϋ .lst m=>if l.length+m.length<=Bj then ↑(.own<|l++m) else none
 |ϊ,ϋ=>none
def DQ:T->T->kH
 |.int i,.int j=>↑(.int<|i - j)|ϊ,ϋ=>none
def BY:T->T->kH
 |.int i,.int j=>if Bl i j then ↑(.int<|i * j) else none
 |.nd ϊ .lst l,.int k=>if YL k=true/\l.length * k.toNat<=Bj then ↑(.own (List.replicate k.toNat l).flatten) else none
 |.str x,.int k=>if 0<=k/\k<=1000000/\x.length<=16 then ↑(.str<|Txt.mul x k) else none
 |ϊ,ϋ=>none
def BB:T->T->kH
 |.int i,.int j=>if j≠0 then ↑(.int<|i.fmod j) else none
 |ϊ,ϋ=>none
def Bt:T->T->kH
 |.int i,.int j=>if j≠0/\Bx j then ↑(.int<|i.fdiv j) else none
 |ϊ,ϋ=>none
def Eb:T->T->kH
 |.int i,.int j=>if 0<=j/\j<=1000000/\EO i then ↑(.int<|i ^ j.toNat) else none
 |ϊ,ϋ=>none
def KY:T->T->kH
 |.int i,.int j=>↑(.int<|Builtin.bitOr i j)|ϊ,ϋ=>none
def FZ:T->T->kH
 |.int i,.int j=>↑(.int<|Builtin.bitAnd i j)|ϊ,ϋ=>none
def BV(f:Int->Int->Bool):T->T->kH
 |.int i,.int j=>↑(.bl<|f i j)|ϊ,ϋ=>none
def Ec:T->kH
 |.int i=>↑(.int<|-i)|ϊ=>none
def Pf(h:EO i=true):-(2 ^ 64)<i/\i<2 ^ 64:=@of_decide_eq_true _ (Classical.propDecidable _) h
theorem Pe(h:Bx i=true):Sm i:=@of_decide_eq_true _ (Classical.propDecidable _) h
def YK(h:YL k=true):k<2 ^ 63/\-(2 ^ 63)<=k:=@of_decide_eq_true _ (Classical.propDecidable _) h
def GB:Bj=sizeLine:=by rw[Ę];rfl
def Lb{K}{F}:∀{l m} {xs ys},Ae K F l xs->Ae K F m ys->Ae K F (l++m) (xs++ys)
 |[],m,xs,ys,r,q=>by rw[r.inv0];exact q|t::l,m,xs,ys,r,q=>by
  let(x,b,rfl,r1,a):=r.inv;exact .cons r1<|Lb a q
def Uy{K}(r:Ae K F l xs):∀n ,Ae K F (List.replicate n l).flatten (List.replicate n xs).flatten
 |0=>.nil|n+1=>by
  exact Lb r<|Uy r n
section
variable {X:Cx}
def Dp{K}(h:Rp K F H (.nd o k l) x R0):∃p xs,x=.ref p/\o=false/\Fj K F k p xs/\Ae K F l xs:=by
 generalize a:R0=A at h;cases h with
 |shr h e c=>exact{_,_,rfl,rfl,h,e,λi t x b g=>(a▸c i t x b g).any}|@own j p xs l hk R f h e c d dp o=>
  exfalso;have z:=congrFun a p;have:R0 p:=by rw[z];exact .inl rfl
  exact this
set_option tactic.hygienic true in
def zkd:Ac X (binaryOp .Add)<|Bg X.K Ak:=by
 intro f s O H x y v u Q I b c h;let(F,t,w,r,fh,r1,g,e,q):=h;unfold Ak at e;split at e
 cases e;rw[r1.int_inv]at b;rw[g.int_inv]at c;exact zob f s O H _ _ v u Q I b c {_,_,rfl,rfl,q.int fh};split at e;cases e;rename_i d;rw[r1.str_inv]at b;rw[g.str_inv]at c;exact zdh f s O H _ _ v u Q I b c {_,_,rfl,rfl,by rw[<- GB];exact d,q.str fh};cases e;split at e;cases e;rename_i d;let(p,xs,rfl,rfl,l,i):=Dp r1;let(n,o,rfl,rfl,m,j):=Dp g;refine zo9 f s O H _ _ v u Q I b c {p,n,xs,o,rfl,rfl,fh _ _ l,fh _ _ m,?_,λa k=>q.list fh (Lb i j) k}
 rw[<- i.1,<- j.1,<- GB];exact d;cases e;cases e
def G4(m:Ac X f<|rI C g)(l:∀t u v,gT t u=↑v->∃i j,t=.int i/\u=.int j/\C i j/\((∃k,v=.int k/\g i j=.int k)\/∃k,v=.bl k/\g i j=.bl k)):Ac X f<|Bg X.K gT:=by
 intro o s O H x y v u Q I b c h;let(F,w,z,r,fh,r1,p,e,q):=h;let(i,j,rfl,rfl,d,n):=l _ _ _ e;rw[r1.int_inv]at b;rw[p.int_inv]at c;refine m o s O H _ _ v u Q I b c {i,j,rfl,rfl,d,?_}
 rcases n with ⟨k,rfl,a⟩|⟨k,rfl,a⟩;rw[a];exact q.int fh;rw[a];exact q.bl fh
theorem Ac.weak(h:Ac X f r)(w:∀x y H Q,r' x y H Q->r x y H Q):Ac X f r':=λa s O H x y v u Q I b c q=>h a s O H x y v u Q I b c<|w x y H Q q
theorem Ld(h:Ac X f<|Eo g):Ac X f<|rI (λϊ ϊ=>True) g:=Ac.weak h λx y H Q ⟨i,j,a,b,_,q⟩=>{(i),j,a,b,q}
theorem zk5:Ac X (binaryOp .Sub)<|Bg X.K DQ:=G4 (Ld zo3) λt u v h=>by
 unfold DQ at h;split at h;cases h;exact{_,_,rfl,rfl,trivial,.inl {_,rfl,rfl}};cases h
theorem zkc:Ac X (binaryOp .BitOr)<|Bg X.K KY:=G4 (Ld op_or) λt u v h=>by
 unfold KY at h;split at h;cases h;exact{_,_,rfl,rfl,trivial,.inl {_,rfl,rfl}};cases h
theorem zh2:Ac X (binaryOp .BitAnd)<|Bg X.K FZ:=G4 (Ld zoa) λt u v h=>by
 unfold FZ at h;grind
def Ek:T->T->kH
 |.int i,.int j=>if 0<=j then ↑(.int<|i / 2 ^ j.toNat) else none
 |ϊ,ϋ=>none
theorem zk6:Ac X (binaryOp .RShift)<|Bg X.K Ek:=G4 zo4 λt u v h=>by
 unfold Ek at h;split at h;split at h;cases h;exact{_,_,rfl,rfl,by assumption,.inl {_,rfl,rfl}};cases h;cases h
theorem zk9:Ac X (binaryOp .Mod)<|Bg X.K BB:=G4 zk4 λt u v h=>by
 unfold BB at h;split at h;split at h;cases h;exact{_,_,rfl,rfl,by assumption,.inl {_,rfl,rfl}};cases h;cases h
set_option tactic.hygienic true in
theorem zh1:Ac X (binaryOp .FloorDiv)<|Bg X.K Bt:=G4 zh0 λt u v h=>by
 unfold Bt at h;split at h;split at h;cases h;rename_i a;exact{_,_,rfl,rfl,{a.1,Pe a.2},.inl {_,rfl,rfl}};cases h;cases h
set_option tactic.hygienic true in
theorem zk7:Ac X (binaryOp .Pow)<|Bg X.K Eb:=G4 zo6 λt u v h=>by
 unfold Eb at h;split at h;split at h;cases h;rename_i a;have q:=Pf a.2.2;exact{_,_,rfl,rfl,{a.1,a.2.1,by lia},.inl {_,rfl,rfl}}
 cases h;cases h
theorem Ls(a:Ac X (compareOp op)<|Eo λi j=>.bl<|g i j):Ac X (compareOp op)<|Bg X.K<|BV g:=G4 (Ld a) λt u v h=>by
 unfold BV at h;grind
set_option tactic.hygienic true in
def zk8:Ac X (binaryOp .Mult)<|Bg X.K BY:=by
 intro f s O H x y v u Q I d c h;let(F,o,t,r,fh,r1,g,e,q):=h;unfold BY at e;split at e
 rename_i i j;split at e;cases e;rename_i b;rw[r1.int_inv]at d;rw[g.int_inv]at c;unfold Bl at b;rw[Ď,Ď,Ä]at b;rcases b with (b|b)|b;exact Vj f s O H _ _ v u Q I d c {i,j,rfl,rfl,.inl<|Pf b,q.int fh};exact Vj f s O H _ _ v u Q I d c {i,j,rfl,rfl,.inr<|Pf b,q.int fh};exact zk3 f s O H _ _ v u Q I d c {i,j,rfl,rfl,{Pe b.1,Pe b.2},q.int fh};cases e;split at e;cases e;rename_i b;let(p,xs,rfl,rfl,n,l):=Dp r1;rw[g.int_inv]at c;refine zo5 f s O H _ _ v u Q I d c {p,_,xs,rfl,rfl,fh _ _ n,(YK b.1).2,(YK b.1).1,?_,λa m=>q.list fh (Uy l _) m}
 rw[<- l.1,<- GB];exact b.2;cases e;split at e;cases e;rename_i b;rw[r1.str_inv]at d;rw[g.int_inv]at c;let(o,rfl):=d;let(t,rfl):=c;exact SB.mul (mulOk_of 16 1048576 b.2.2 (by lia) (by lia) (by decide)<|by decide) λw k=>{.str _,H,I.tok _,{_,rfl},q.str fh}
 cases e;cases e
def zik:K2 X (unaryOp .USub)<|Lk X.K Ec:=by
 intro b s O H x v Q I a h;let(F,t,r,fh,r1,e,q):=h;unfold Ec at e;split at e
 cases e;rw[r1.int_inv]at a;exact zm2 b s O H _ v Q I a {_,rfl,q.int fh};cases e
def Zp{A:Around}(a:A.units+64<cLine)(h:n<=60):A.units+n<cLine:=by lia
set_option tactic.hygienic true in
def Vl(b:X.A.units+64<cLine):Ac X (compareOp .Eq)<|Bg X.K Aq:=by
 intro l s O H x y v u Q I g i h;let(F,m,n,r,fh,r1,f,e,q):=h;unfold Aq at e;split at e
 cases e;rename_i a;unfold Gn E3 at a;rw[Ä,Ä,Ä,Ä,ë]at a;let(j,c):=GY I fh (r1.any) a.1.1.1 g;let(k,d):=GY I fh (f.any) a.1.2.1 i;exact SeqAt.compareEq_reads c d a.1.1.2 a.1.2.2 (Zp b a.2) {.bl _,H,I,rfl,q.bl fh}
 cases e
set_option tactic.hygienic true in
def zoe(p:X.A.units+64<cLine):Ac X (compareOp .In)<|Bg X.K EG:=by
 intro i s O H x y v u Q I d f h;let(F,j,t,r,fh,r1,g,e,q):=h;unfold EG at e;split at e
 rename_i o k l;split at e;cases e;rename_i a;unfold Im E3 at a;rw[Ä,Ä,Ä,Ä,ë]at a;let(m,b):=GY I fh (r1.any) a.1.1.1 d;let(n,c):=GY I fh (g.any) (a.1.2.1) f;have hd:X.A.units+1+min (PyData.depthAll<|Bn l) j.data.depth<cLine:=by lia
 cases k with
 |lst=>exact Ū c b a.1.2.2 a.1.1.2 hd {.bl _,H,I,rfl,q.bl fh}|rl=>exact Ū c b a.1.2.2 a.1.1.2 hd {.bl _,H,I,rfl,q.bl fh}|tup=>exact SeqAt.in_tuple_reads c b a.1.2.2 a.1.1.2 hd {.bl _,H,I,rfl,q.bl fh}|rt=>exact SeqAt.in_tuple_reads c b a.1.2.2 a.1.1.2 hd {.bl _,H,I,rfl,q.bl fh}|pin ϊ=>exact Ū c b a.1.2.2 a.1.1.2 hd {.bl _,H,I,rfl,q.bl fh}
 cases e;unfold Y0 at e;split at e;cases e;rw[r1.str_inv]at d;rw[g.str_inv]at f;exact zeg i s O H _ _ v u Q I d f {_,_,rfl,rfl,q.bl fh};cases e;cases e
set_option tactic.hygienic true in
def zeh(n:X.A.units+64<cLine):Ac X (compareOp .NotIn)<|Bg X.K HL:=by
 intro p s O H x y v u Q I f g h;let(F,i,t,r,fh,r1,d,e,q):=h;unfold HL at e;split at e
 rename_i o k l;split at e;cases e;rename_i a;unfold Im E3 at a;rw[Ä,Ä,Ä,Ä,ë]at a;let(j,b):=GY I fh (r1.any) a.1.1.1 f;let(m,c):=GY I fh (d.any) (a.1.2.1) g;have hd:X.A.units+1+min (PyData.depthAll<|Bn l) i.data.depth<cLine:=by lia
 cases k with
 |lst=>exact ţ c b a.1.2.2 a.1.1.2 hd {.bl _,H,I,rfl,q.bl fh}|rl=>exact ţ c b a.1.2.2 a.1.1.2 hd {.bl _,H,I,rfl,q.bl fh}|tup=>exact SeqAt.notIn_tuple_reads c b a.1.2.2 a.1.1.2 hd {.bl _,H,I,rfl,q.bl fh}|rt=>exact SeqAt.notIn_tuple_reads c b a.1.2.2 a.1.1.2 hd {.bl _,H,I,rfl,q.bl fh}|pin ϊ=>exact ţ c b a.1.2.2 a.1.1.2 hd {.bl _,H,I,rfl,q.bl fh}
 cases e;cases e
def isT(b:T)(a:Bool)(t c:T):kH:=↑(.bl (if a then !(decide (t.data.depth=0) && eqIs t b) else eqIs t b))
where eqIs:T->T->Bool
  |.non,.non=>true|.bl x,.bl y=>x == y|ϊ,ϋ=>false
end
set_option genInjectivity true in
inductive Rs where
 |v (t:T) (b:Bool)|x (c:Str)
abbrev AJ:=AN->Option Rs
set_option genInjectivity true in
inductive RsL where
 |v (ts:List T) (b:Bool)|x (c:Str)
abbrev Ar:=AN->Option RsL
def tot(R:Nat->Rg):Rg:=λa=>∃i,R i a
def EL(K:k6)(F H:Hp)(R:Nat->Rg)(v:T)(b:Bool)(x:V)(B:Rg):Prop:=match b with
 |true=>B=R0/\∃A,(∀a,A a->tot R a)/\Rp K F H v x A|false=>Rp K F H v x B
def Gz(b:Bool)(F H:Hp)(R:Nat->Rg):Hp:=match b with
 |true=>frz F H (tot R)|false=>F
section
variable {K:k6}{F H F1 H1:Hp}{O:L2.St}{Y:AN}{R:Nat->Rg}{B:Rg}{b c:Bool}{v:T}{x:V}
def StR.tot(S:StR K F H O Y R)(h:tot R a):F a=none/\∃u,H a=↑u:=by
 let(i,z):=h;exact S.dom z
def MZ(S:StR K F H O Y R):A3 F<|Gz b F H R:=by
 cases b with
 |true=>exact FD λa z=>(S.tot z).1|false=>exact .refl _
def R9(S:StR K F H O Y R):A3 (Gz b F H R) H:=by
 cases b with
 |true=>exact Iu S.fh|false=>exact S.fh
def zl6(S:StR K F H O Y R)(e:Ext F H F1 H1 B)(h:b=true->c=true):A3 (Gz b F H R)<|Gz c F1 H1 R:=by
 have f:=S.ext e;cases b with
 |false=>exact e.ff.trans (MZ f)|true=>
  rw[h rfl];intro a u q;show frz F1 H1 (Pu.tot R) a=↑u
  by_cases z:Pu.tot R a;rw[E2 z];have d:frz F H (Pu.tot R) a=↑u:=q;rw[E2 z]at d;exact e.hh _ _ d
  rw[FC z];have d:frz F H (Pu.tot R) a=↑u:=q;rw[FC z]at d;exact e.ff _ _ d
def EL.frz(S:StR K F H O Y R)(e:Ext F H F1 H1 B)(g:EL K F1 H1 R v b x B):∃F2,Ext F H F2 H1 R0/\A3 F1 F2/\Rp K (Gz b F2 H1 R) (Gz b F2 H1 R) v.share x R0:=by
 have d:=S.ext e;cases b with
 |true=>
  let(rfl,A,f,r):=g
  exact{F1,e,.refl _,r.share (MZ d) λa u z q=>by
   show Pu.frz F1 H1 (Pu.tot R) a=↑u;rw[E2<|f a z];exact q}
 |false=>
  have c :=g;have n:∀a,B a->F1 a=none:=λa z=>(c.dom z).1
  exact{_,e.frz n,FD n,c.share (FD n) λa u z q=>by
   show Pu.frz F1 H1 B a=↑u;rw[E2 z];exact q}
theorem Ext.grow(e:Ext F H F1 H1 R0)(s:A3 H1 H2):Ext F H F1 H2 R0:={e.hh.trans s,e.ff,e.fh.trans s,λϊ z=>z.elim,e.nf}
end
def Fw(c:Str):Option Nat:=match c.cps.toList with
 |[78,111,82,117,110,n]=>↑n|ϊ=>none
def Vh(c:Str):Str:=match Fw c with
 |some ϊ=>"NoRun"|none=>c
def QG(c:Str):kK:=match Fw c with
 |some n=>[.int n]|none=>[]
def TU(F:Hp)(c:Str)(a:Option Addr):Prop:=∀v∈QG c,K3 F a v
def XE(E:XK)(ca:Str->Value)(c:Str)(F H:Hp):Prop:=∀a,TU F c a->E (ca<|Vh c) a H
def XE.plain(h:XE E ca c F H)(a:Fw c=none):E (ca c) none H:=by
 have:=h none (by unfold TU QG;grind);unfold Vh at this;grind
theorem XE.any(h:XE E ca c F H)(b:Fw c=none):XE E ca c F' H:=λa ϊ=>h a (by unfold TU QG;grind)
def pM(K:k6)(E:L2.St->XK)(ca:Str->Value)(O:L2.St)(Q:VK)(F H:Hp)(R:Nat->Rg):Option Rs->Prop
 |some (.v v b)=>∀d a x B,Ext F H d a B->EL K d a R v b x B->Q x a|some (.x c)=>∀d a,Ext F H d a R0->XE (E O) ca c d a|none=>False
def tM(K:k6)(E:L2.St->XK)(ca:Str->Value)(m:AJ):TE:=λO H Q=>∃F Y R,StR K F H O Y R/\pM K E ca O Q F H R (m Y)
def pMs(K:k6)(E:L2.St->XK)(ca:Str->Value)(O:L2.St)(Q:kK->Hp->Prop)(F H:Hp)(R:Nat->Rg):Option RsL->Prop
 |some (.v e b)=>∀d a xs,Ext F H d a R0->Ae K (Gz b d a R) e xs->Q xs a|some (.x c)=>∀d a,Ext F H d a R0->XE (E O) ca c d a|none=>False
def CA(K:k6)(E:L2.St->XK)(ca:Str->Value)(m:Ar):TA:=λO H Q=>∃F Y R,StR K F H O Y R/\pMs K E ca O Q F H R (m Y)
def pMB(K:k6)(E:L2.St->XK)(ca:Str->Value)(O:L2.St)(Q:Bool->Hp->Prop)(F H:Hp):Option Rs->Prop
 |some (.v (.bl c) ϊ)=>∀b a,Ext F H b a R0->Q c a|some (.v ϊ ϋ)=>False|some (.x c)=>∀b a,Ext F H b a R0->XE (E O) ca c b a|none=>False
def BS(K:k6)(E:L2.St->XK)(ca:Str->Value)(m:AJ):TT:=λO H Q=>∃F Y R,StR K F H O Y R/\pMB K E ca O Q F H (m Y)
def AA(i:Nat):AJ:=λY=>match Y[i]? with
 |some ↑t=>↑(.v t<|!t.sh)|ϊ=>none
def mC(t:T):AJ:=λϊ=>↑(.v t false)
def AE:Ar:=λϊ=>↑(.v [] false)
def AB(m:AJ)(ms:Ar):Ar:=λY=>match m Y with
 |some (.v t b)=>(match ms Y with
  |some (.v d a)=>↑(.v (t.share::d)<|b || a)|r=>r)
 |some (.x c)=>↑(.x c)|none=>none
def BD(b:Bool)(v:T):Option Rs:=if b && !v.flat then none else ↑(.v v false)
def BZ(g:kL->kH)(ms:Ar):AJ:=λY=>match ms Y with
 |some (.v a b)=>(match g a with
  |some v=>BD b v|none=>none)
 |some (.x c)=>↑(.x c)|none=>none
def g2(g:T->T->kH):kL->kH
 |[t,u]=>g t u|ϊ=>none
def g1(g:T->kH):kL->kH
 |[t]=>g t|ϊ=>none
abbrev m1(g:T->kH)(a:AJ):AJ:=BZ (g1 g)<|AB a AE
abbrev m2(g:T->T->kH)(a b:AJ):AJ:=BZ (g2 g)<|AB a<|AB b AE
def EZ(c:AJ)(a b:AJ):AJ:=λY=>match c Y with
 |some (.v (.bl true) ϊ)=>a Y|some (.v (.bl false) ϊ)=>b Y|some (.x c)=>↑(.x c)|ϊ=>none
def BI(c:AJ):AJ:=λY=>match c Y with
 |some (.v (.bl b) ϊ)=>↑(.v (.bl<|!b) false)|some (.x c)=>↑(.x c)|ϊ=>none
def Bz(a b:AJ):AJ:=EZ a b<|mC<|.bl false
def BH(a b:AJ):AJ:=EZ a (mC<|.bl true) b
section
variable {X:Cx}{E:L2.St->XK}{ca:Str->Value}{O:L2.St}{H:Hp}{m ma mb mc:AJ}{ms:Ar}{K:k6}{a b c e:Expr}{es:kC}{pos:Pos}
theorem PE.weak(h:PE X e t)(w:∀O H Q,t' O H Q->t O H Q):PE X e t':=λa s O H Q I q=>h a s O H Q I<|w O H Q q
theorem PT.weak(h:PT X e t)(w:∀O H Q,t' O H Q->t O H Q):PT X e t':=λa s O H Q I q=>h a s O H Q I<|w O H Q q
theorem PA.weak(h:PA X es t)(w:∀O H Q,t' O H Q->t O H Q):PA X es t':=λa b s O H Q I q=>h a b s O H Q I<|w O H Q q
def tM.mono(h:tM K E ca m O H Q)(w:∀x H',Q x H'->Q' x H'):tM K E ca m O H Q':=by
 let(F,Y,R,S,q):=h;refine{F,Y,R,S,?_};cases a:m Y with
 |none=>rw[a]at q;exact q|some r=>
  rw[a]at q;cases r with
  |v v b=>exact λd H' x B e g=>w _ _ (q d H' x B e g)|x c=>exact q
def CA.mono(h:CA K E ca ms O H Q)(w:∀x H',Q x H'->Q' x H'):CA K E ca ms O H Q':=by
 let(F,Y,R,S,q):=h;refine{F,Y,R,S,?_};cases a:ms Y with
 |none=>rw[a]at q;exact q|some r=>
  rw[a]at q;cases r with
  |v v b=>exact λd H' x e g=>w _ _ (q d H' x e g)|x c=>exact q
def HB(h:CA K E ca AE O H Q):Q [] H:=by
 let(F,Y,R,S,q):=h;exact q F H [] (Ext.refl S.fh) .nil
def HD(h:CA K E ca (AB m ms) O H Q):tM K E ca m O H λx H1=>CA K E ca ms O H1 λxs H2=>Q (x::xs) H2:=by
 let(F,Y,R,S,q):=h;refine{F,Y,R,S,?_};unfold AB at q;cases l:m Y with
 |none=>rw[l]at q;exact q|some r=>
  rw[l]at q;cases r with
  |x c=>exact q|v t b=>
   intro u w x B e g;let(o,k,_,s):=EL.frz S e g;have j:=S.ext k;refine{o,Y,R,j,?_};cases n:ms Y with
   |none=>rw[n]at q;symm|some r=>
    erw[n]at q;cases r with
    |x c=>exact λi f d=>q i f (k.trans0 d)|v y p=>
     intro i f xs d rs;refine q i f (x::xs) (k.trans0 d) ?_;refine .cons (H:=f) ((s.frame (zl6 j d<|by grind) λa z=>z.elim)) ?_;cases p with
     |true=>grind|false=>
      cases b with
      |false=>exact rs|true=>exact rs.same<|MZ<|j.ext d
def HE(h:tM K E ca (BZ g ms) O H Q):CA K E ca ms O H λxs H1=>DK K g xs H1 Q:=by
 let(F,Y,R,S,q):=h;refine{F,Y,R,S,?_};unfold BZ at q;cases k:ms Y with
 |none=>rw[k]at q;symm|some r=>
  erw[k]at q;cases r with
  |x c=>exact q|v m b=>
   intro f H1 xs a rs;have o:=S.ext a;cases e:g m with
   |none=>erw[e]at q;symm|some v=>
    erw[e]at q;refine{Gz b f H1 R,m,v,R9 o,rs,e,λn i z C j l=>?_};unfold BD at q;cases b with
    |false=>exact q n i z C (a.trans0 j) l|true=>
     cases d:v.flat with
     |false=>rw[d]at q;exact False.elim q|true=>rw[d]at q;exact q f i z R0 (a.grow j.hh)<|l.flat_any d
def rTn2(h:DK K (g2 g) [x,y] H Q):Bg K g x y H Q:=by
 let(F,k,v,fh,rs,e,q):=h;unfold g2 at e;split at e;let(l,i,b,r1,a):=rs.inv;let(x2,j,c,d,f):=a.inv;cases b;cases c;exact{F,_,_,v,fh,r1,d,e,q}
 cases e
def rTn1(h:DK K (g1 g) [x] H Q):Lk K g x H Q:=by
 let(F,d,v,fh,rs,e,q):=h;unfold g1 at e;split at e;let(f,c,a,r1,b):=rs.inv;cases a;exact{F,_,v,fh,r1,e,q};cases e
theorem OB(h:tM K E ca (BZ (g2 g)<|AB ma<|AB mb AE) O H Q):IA (Bg K g) (tM K E ca ma) (tM K E ca mb) O H Q:=
 (HD<|HE h).mono λx c a=>(HD a).mono λy d b=>rTn2<|HB b
theorem zm9(h:tM K E ca (BZ (g1 g)<|AB ma AE) O H Q):UH (Lk K g) (tM K E ca ma) O H Q:=
 (HD<|HE h).mono λx b a=>rTn1<|HB a
set_option tactic.hygienic true in
def zm0(h:tM K E ca (AA i) O H Q):Ny i O H Q:=by
 let(F,Y,R,S,q):=h;unfold AA at q;split at q;rename_i t c;let(x,e,r):=S.rep i t c;refine{x,e,q F H x R0 (Ext.refl S.fh) ?_};cases b:t.sh with
 |true=>exact r.move b (.refl _)|false=>exact{rfl,R i,λa z=>{(i),z},r}
 exact False.elim q
theorem r_var(b:X.N[i]?=↑x)(c:E5 X.env.scope x)(hd:(x == "__debug__")=false)(a:(x == "__classdict__")=false):PE X (.Name x pos)<|tM X.K E ca<|AA i:=PE.weak (G1 b c hd a) λϊ ϊ ϊ h=>zm0 h
theorem Li(h:PE X e<|tC v)(r:∀F H,Rp X.K F H t v R0):PE X e<|tM X.K E ca<|mC t:=PE.weak h λO H Q h=>by
 let(F,Y,R,S,q):=h;exact q F H v R0 (Ext.refl S.fh)<|r _ _
theorem VS:PA X []<|CA X.K E ca AE:=PA.weak Fe λO H Q h=>HB h
theorem VY(a:PE X e<|tM X.K E ca m)(b:PA X es<|CA X.K E ca ms)(c:starEach (e::es) X.env=(false,eval e X.env)::starEach es X.env):PA X (e::es)<|CA X.K E ca<|AB m ms:=
 PA.weak (Es a b c) λO H Q h=>HD h
theorem r_bin(e:Ac X (binaryOp op)<|Bg X.K g)(c:PE X a<|tM X.K E ca ma)(d:PE X b<|tM X.K E ca mb):PE X (.BinOp a op b pos)<|tM X.K E ca<|BZ (g2 g)<|AB ma<|AB mb AE:=
 PE.weak (pe_op e c d) λO H Q h=>OB h
theorem r_un(c:K2 X (unaryOp op)<|Lk X.K g)(b:PE X a<|tM X.K E ca ma):PE X (.UnaryOp op a pos)<|tM X.K E ca<|BZ (g1 g)<|AB ma AE:=
 PE.weak (pe_un c b) λO H Q h=>zm9 h
theorem r_cmp(f:Ac X (compareOp op)<|Bg X.K g)(c:PE X a<|tM X.K E ca ma)(d:PE X b<|tM X.K E ca mb)(e:behindInMarks op b=false):PE X (.Compare a [op] [b] pos)<|tM X.K E ca<|BZ (g2 g)<|AB ma<|AB mb AE:=
 PE.weak (zjx f c d e) λO H Q h=>OB h
def LN(h:BS K E ca m O H Q):tM K E ca m O H λx H1=>∃k,x=.bl k/\Q k H1:=by
 let(F,Y,R,S,q):=h;refine{F,Y,R,S,?_};cases a:m Y with
 |none=>rw[a]at q;exact q|some r=>
  rw[a]at q;cases r with
  |x c=>exact q|v v b=>
   cases v with
   |bl k=>
    intro d f x B e g
    have i:x=.bl k:=by
     cases b with
     |true=>let(_,A,_,r):=g;exact r.bl_inv
     |false=>exact(g).bl_inv
    exact{k,i,q d f<|e.mono λϊ z=>z.elim}
   |_=>symm
theorem zn3(f:Ac X (compareOp op)<|Bg X.K g)(c:PE X a<|tM X.K E ca ma)(d:PE X b<|tM X.K E ca mb)(e:behindInMarks op b=false):PT X (.Compare a [op] [b] pos)<|BS X.K E ca<|BZ (g2 g)<|AB ma<|AB mb AE:=
 PT.weak (zjl f c d e) λO H Q h=>OB<|LN h
theorem VQ(h:PE X e<|tM X.K E ca m)(a:∀whole,isTrue e X.env whole=(do let v <- whole;standAt e.pos;holding [v] (truthy v))):PT X e<|BS X.K E ca m:=PT.weak (Φ h a) λO H Q h=>LN h
def UW(h:BS K E ca (EZ mc ma mb) O H Q):BS K E ca mc O H λk H1=>if k=true then BS K E ca ma O H1 Q else BS K E ca mb O H1 Q:=by
 let(F,Y,R,S,q):=h;refine{F,Y,R,S,?_};unfold EZ at q;cases j:mc Y with
 |none=>rw[j]at q;symm|some r=>
  erw[j]at q;cases r with
  |x c=>exact q|v v b=>
   cases v with
   |bl k=>
    intro l H1 i;have m:=S.ext i
    have f:∀{g },(match g Y with
      |some (.v (.bl c) ϊ)=>∀d a,Ext F H d a R0->Q c a|some (.v ϊ ϋ)=>False|some (.x c)=>∀d a,Ext F H d a R0->XE (E O) ca c d a|none=>False)->BS K E ca g O H1 Q:=λ{g} q=>by
     refine{l,Y,R,m,?_};cases n:g Y with
     |none=>grind|some r=>
      erw[n]at q;cases r with
      |x c=>exact λd a e=>q d a (i.trans0 e)|v v b=>
       cases v with
       |bl k=>exact λd a e=>q d a (i.trans0 e)|_=>symm
    cases k with
    |true=>exact Jw (f q)|false=>exact Jx<|f q
   |_=>symm
def US(h:tM K E ca (EZ mc ma mb) O H Q):BS K E ca mc O H λk H1=>if k=true then tM K E ca ma O H1 Q else tM K E ca mb O H1 Q:=by
 let(F,Y,R,S,q):=h;refine{F,Y,R,S,?_};unfold EZ at q;cases l:mc Y with
 |none=>rw[l]at q;symm|some r=>
  erw[l]at q;cases r with
  |x c=>exact q|v v b=>
   cases v with
   |bl k=>
    intro m H1 j;have n:=S.ext j
    have f:∀{i },(match i Y with
      |some (.v v b)=>∀d a x B,Ext F H d a B->EL K d a R v b x B->Q x a|some (.x c)=>∀d a,Ext F H d a R0->XE (E O) ca c d a|none=>False)->tM K E ca i O H1 Q:=λ{i} q=>by
     refine{m,Y,R,n,?_};cases o:i Y with
     |none=>grind|some r=>
      erw[o]at q;cases r with
      |x c=>exact λd a e=>q d a (j.trans0 e)|v v b=>exact λd a x B e g=>q d a x B (j.trans0 e) g
    cases k with
    |true=>exact Jw (f q)|false=>exact Jx<|f q
   |_=>symm
theorem r_ife(f:PT X c<|BS X.K E ca mc)(d:PE X a<|tM X.K E ca ma)(e:PE X b<|tM X.K E ca mb):PE X (.IfExp c a b pos)<|tM X.K E ca<|EZ mc ma mb:=PE.weak (zgw f d e) λO H Q h=>US h
def zio(h:BS K E ca (BI mc) O H Q):UM (BS K E ca mc) O H Q:=by
 let(F,Y,R,S,q):=h;refine{F,Y,R,S,?_};unfold BI at q;cases a:mc Y with
 |none=>rw[a]at q;symm|some r=>
  erw[a]at q;cases r with
  |x c=>exact q|v v b=>
   cases v with
   |bl k=>exact q|_=>symm
theorem zn2(a:PT X c<|BS X.K E ca mc):PT X (.UnaryOp .Not c pos)<|BS X.K E ca<|BI mc:=PT.weak (zni a) λO H Q h=>zio h
def zma(h:tM K E ca (BI mc) O H Q):UL (tM K E ca mc) O H Q:=by
 let(F,Y,R,S,q):=h;refine{F,Y,R,S,?_};unfold BI at q;cases a:mc Y with
 |none=>rw[a]at q;symm|some r=>
  erw[a]at q;cases r with
  |x c=>exact q|v v b=>
   cases v with
   |bl k=>
    intro d f x B e g
    have i:x=.bl k:=by
     cases b with
     |true=>let(_,A,_,r):=g;exact r.bl_inv
     |false=>exact(g).bl_inv
    exact{k,i,q d f _ R0 (e.mono λϊ z=>z.elim)<|.bl _}
   |_=>symm
theorem r_not(b:PE X a<|tM X.K E ca ma):PE X (.UnaryOp .Not a pos)<|tM X.K E ca<|BI ma:=PE.weak (znw b) λO H Q h=>zma h
theorem UR(h:tM K E ca (EZ mc ma mb) O H Q):tM K E ca mc O H λx H1=>∃k,x=.bl k/\if k=true then tM K E ca ma O H1 Q else tM K E ca mb O H1 Q:=LN<|US h
def UU(r:∀F H,Rp K F H t v R0)(h:tM K E ca (mC t) O H Q):Q v H:=by
 let(F,Y,R,S,q):=h;exact q F H v R0 (Ext.refl S.fh)<|r _ _
theorem r_and{Ba}(c:PE X a<|tM X.K E ca ma)(d:PE X (.BoolOp .And (b::Ba) pos)<|tM X.K E ca mb):PE X (.BoolOp .And (a::b::Ba) pos)<|tM X.K E ca<|Bz ma mb:=
 PE.weak (zo1 c d) λO H Q h=>(UR h).mono λx f ⟨k,e,q⟩=>{k,e,by
  cases k with
  |true=>exact q|false=>exact UU (λϊ ϊ=>.bl _) q}
theorem r_or{Ba}(c:PE X a<|tM X.K E ca ma)(d:PE X (.BoolOp .Or (b::Ba) pos)<|tM X.K E ca mb):PE X (.BoolOp .Or (a::b::Ba) pos)<|tM X.K E ca<|BH ma mb:=
 PE.weak (pe_or c d) λO H Q h=>(UR h).mono λx f ⟨k,e,q⟩=>{k,e,by
  cases k with
  |true=>exact UU (λϊ ϊ=>.bl _) q|false=>exact q}
theorem r_one(b:PE X a<|tM X.K E ca ma):PE X (.BoolOp op [a] pos)<|tM X.K E ca ma:=znv b
def BS.mono(h:BS K E ca m O H Q)(w:∀x H',Q x H'->Q' x H'):BS K E ca m O H Q':=by
 let(F,Y,R,S,q):=h;refine{F,Y,R,S,?_};cases a:m Y with
 |none=>rw[a]at q;exact q|some r=>
  rw[a]at q;cases r with
  |v v b=>
   cases v with
   |bl k=>exact λd H' e=>w _ _ (q d H' e)|_=>symm
  |x c=>exact q
def OC(h:BS K E ca (mC<|.bl k) O H Q):Q k H:=by
 let(F,Y,R,S,q):=h;exact q F H<|Ext.refl S.fh
theorem PW.weak(h:PW X e t)(w:∀O H Q,t' O H Q->t O H Q):PW X e t':=λb a s O H Q I q=>h b a s O H Q I<|w O H Q q
theorem zn1{Ba}(c:PT X a<|BS X.K E ca ma)(d:PW X (.BoolOp .And (b::Ba) pos)<|BS X.K E ca mb):PW X (.BoolOp .And (a::b::Ba) pos)<|BS X.K E ca<|Bz ma mb:=
 PW.weak (Ω c d) λO H Q h=>(UW h).mono λk e q=>by
  cases k with
  |true=>exact q|false=>exact OC q
theorem r_wor{Ba}(c:PT X a<|BS X.K E ca ma)(d:PW X (.BoolOp .Or (b::Ba) pos)<|BS X.K E ca mb):PW X (.BoolOp .Or (a::b::Ba) pos)<|BS X.K E ca<|BH ma mb:=
 PW.weak (pw_or c d) λO H Q h=>(UW h).mono λk e q=>by
  cases k with
  |true=>exact OC q|false=>exact q
theorem zjd(b:PT X a<|BS X.K E ca ma):PW X (.BoolOp .And [a] pos)<|BS X.K E ca ma:=Χ b
theorem zjc(b:PT X a<|BS X.K E ca ma):PW X (.BoolOp .Or [a] pos)<|BS X.K E ca ma:=Ψ b
end
section
variable {X:Cx}{pz:List<|Addr×Obj}{O:L2.St}{H:Hp}{s:Shared}{h':Heap}
def Gy{ch:List Addr}(I:Inv X pz O H s)(k:∀b o,b∉ch->s.heap.get? b=↑o->h'.get? b=↑o)(f:∀b∈ch,Cr X pz H b):Inv X pz O H { s with heap:=h',toks:=t'}:=by
 have d:∀b u,H b=↑u->b∉ch:=λb u e z=>by rw[(f b z).1]at e;cases e
 refine I.step (g':=s.gens) (d':=s.drawn) (ch:=ch) (λb t=>?_) (λb o ϊ ϊ a e ϊ=>k b o a e) (λb o ϊ ϊ a e ϊ=>{o.slots,k b o a e}) (λϊ ϊ ϊ ϊ n=>n)
  (λb o a e=>{o,k b o a e}) (λϊ ϊ e=>e) (λϊ ϊ ϊ e=>e) (λb ps e=>{#[],by rw[e];simp}) (λm w=>?_) (λb u e=>?_) I.bare
 let(_,i,y,j,l,p):=f b t;exact{(j),i,l,p};let(o,h,g,x,r):=w;exact{o,h,g,k _ o (λz=>(f _ z).2.1 rfl) x,r};refine(I.hok b u e).stay (λc v a q=>k c v ?_ q) (λϊ q=>q) λϊ ϊ q=>q;rcases a with z|z;rw[z];exact d b u e;exact d c _ z
def UC{ch:List Addr}{p:Addr}(I:Inv X pz O H s)(k:∀b o,b∉ch->s.heap.get? b=↑o->h'.get? b=↑o)(f:∀b∈ch,Cr X pz H b)(i:s.heap.objs.size<=p)(new:Cp X.prog X.w (upd H p o) h' p o) :
  Inv X pz O (upd H p o) { s with heap:=h',toks:=t' }:=by
 have d :=I.hok.fresh i;have C:∀b u,H b=↑u->b∉ch:=λb u e z=>by rw[(f b z).1]at e;cases e
 have h:∀b ob,s.heap.get? b=↑ob->b≠p:=λb ob e z=>by
  subst z;exact absurd (Æ e)<|Nat.not_lt.mpr i
 refine I.step (λb g=>?_) (λb o ϊ ϊ a e ϊ=>k b o a e) (λb o ϊ ϊ a e ϊ=>{o.slots,k b o a e}) (λb ob a e n=>by rw[As<|h b ob e];exact n)
  (λb o a e=>{o,k b o a e}) (λb xs e=>by rw[As<|Cz e d];exact e) (λb o u e=>by rw[As<|Cz e d];exact e) (λb ps e=>{#[],by rw[As<|Cz e d,e];simp}) (λm A=>?_) (λb u e=>?_) I.bare
 let(_,t,D,w,x,y):=f b g;exact{(w),t,x,y};let(o,l,j,B,r):=A;exact{o,l,j,k _ o (λz=>(f _ z).2.1 rfl) B,r};by_cases g:b=p;subst g;rw[Ce]at e;cases e;exact new;rw[As g]at e;refine(I.hok b u e).stay (λc v a q=>k c v ?_ q) (λc q=>by rw[As<|Cz q d];exact q) λc xs q=>by rw[As<|Cz q d];exact q
 grind
theorem Yc(f:Cr X pz H b)(h:b≠p):Cr X pz (upd H p o) b:={by rw[As h];exact f.1,f.2}
end
def NZ(K:k6)(k:Nat)(l:Addr):It:=
 {λi H=>∃xs x,Ab K H l xs/\xs[i]?=↑x,λi H x a=>∃p y,x=.ref p/\H p=none/\a=upd H p (.tup [.int ((k+i:Nat):Int),y])/\∀xs,Ab K H l xs->xs[i]?=↑y,λi H=>∃xs,Ab K H l xs/\xs.length<=i}
theorem drw{w:World}    {n:Nat}  {St }(D:Draws P w A it fp n Q St)(k:Nat):Draws P w A it fp (k+n) (λj x=>∃i,j=k+i/\Q i x) (λj h=>∃i,j=k+i/\St i h) where
 live:=λ_ h ⟨i,_,st⟩=>D.live i h st
 frame:=λ_ h a ⟨i,e,st⟩ c=>{i,e,D.frame i h a st c}
 item:=λj s R E d ⟨i,e,st⟩ hQ=>D.item i s R E (by lia) st λx a tk q b sb=>hQ x a tk {(i),e,q} {i+1,by lia,b} sb
 done:=λs R E ⟨i,e,st⟩ hE=>D.done s R E (by grind) hE
def zlh(f:IsEnum h e it i old)(a:h.IsListIter it l j)(b:h.IsList l its):l≠it/\l≠e:=by
 let(o,c,c1,_):=b;let(o2,d,c2,_):=a
 grind
theorem drw0(hh:A.handled=none)(d:its[i]?=none):Draws P w A it [it,l] i (λϊ ϊ=>True) (λj h=>j=i/\h.IsListIter it l i/\h.IsList l its) where
 live:=λ_ _ ⟨_,⟨o,ho,_⟩,_⟩=>{(o),ho}
 frame:=λ_ _ _ ⟨e,a,b⟩ c=>{e,a.at λo q=>c it (by simp) o q,b.at λo q=>c l (by simp) o q}
 item:=λj _ _ _ f ⟨e,_⟩=>absurd f<|by lia
 done:=λ_ _ _ ⟨_,a,b⟩ hE=>wpAny_nextOf_list_end hh a b d hE
def UD{K}(k:Nat)(l e it:Addr)(j:e≠it) :
  Turn P w K (.Tuple elts kk tpos) (NZ K k l) [e,it] e (λi h=>(∃old,IsEnum h e it (k+i:Nat) old)/\h.IsListIter it l i) where
 mem:=by simp
 obj:=λi h st b a=>by
  let((old,f),o,N,y,hd):=st;obtain rfl|a:=Î.mp a
  exact{_,f,λv z=>by
   have z' :=z;cases z'}
  have q :=by simpa using a
  subst q;exact{o,N,λv z=>by rw[hd]at z;cases z}
 keep:=λi h F st k=>by
  let((old,f),N):=st;exact{{old,k e (by simp) _ f},N.at λo q=>k it (by simp) o q}
 item:=by
  intro X J Q G y i T s O H E I B st M;subst J Q G;let((old,f),c):=st;let(xs,x,C,R):=M;let(r,U,p,hz):=I.list C;let(u,Y,ru):=U.get R;have D :=Æ f;have S:it<s.heap.objs.size:=by let(o,q,_):=c;exact Æ q
  have hn :=I.hok.fresh<|Ç _;let(n1,n2):=zlh f c p.isList;have hlt:i<r.toArray.size:=by simpa using (Ð.mp Y).1
  refine wpAny_pyNext_enum_itemD (drw (Draws.list (A:=X.A.in1) (I.ok.hd y) it l n1 _) k) f {(i),rfl,c,p.isList} (by lia) j (by simp[j,Ë n2]) λx' F tk g ho d hT hsz hk=>?_;let(n,V,g):=g;have V:n=i:=by lia
  subst V
  have t :=by
   rw[List.getElem?_toArray,Y]at g;exact(Ü g).symm
  subst t;let(i2,t,d,_):=d;have t:i2=n+1:=by lia
  subst t
  have Z:Inv X T O (upd H s.heap.objs.size<|.tup [.int<|k+n,x]) { s with heap:=F,toks:=tk+1 }:=by
   refine UC I (λb o a q=>hk b o (λz=>a<|by simp[z]) (λz=>a<|by simp[z]) q) B (Ç _) ?_;exact{by erw[Þ,Č];rw[Ę];decide,[.int (k+n) tk,x'],.cons {_,rfl}<|.cons ru .nil,_,hT,rfl,0,rfl}
  have W:∀b∈[e,it],Cr X T (upd H s.heap.objs.size<|.tup [.int (k+n:Nat),x]) b:=λb a=>Yc (B b a) (by
   obtain rfl|a:=Î.mp a
   exact Ó D;have q :=by simpa using a
   subst q;exact Ó S)
  refine{.ref s.heap.objs.size,rfl,wpAny_letOwnedTupleGo_enum ho λh2 L m=>?_};refine{.ref s.heap.objs.size,_,Gy (ch:=[e]) Z (λb o a q=>m.extBut b o (λz=>a<|by simp[z]) q)<|λb a=>W b (by simp at a;simp[a]),rfl,{_,x,rfl,hn,rfl,λys hy=>by rw[I.list_inj hy C];exact R},{{_,by simpa[Int.add_assoc] using L},d.extBut m.extBut j.symm},λb a=>(W b a).1}
 done:=by
  intro X J Q G y i T s O H E I B st M;subst J Q G;let((old,f),c):=st;let(xs,C,R):=M;let(r,U,p,hz):=I.list C;have hl:=U.length;exact wpAny_pyNext_enum_endD (drw0 (I.ok.hd y) (by simp;lia)) f {(rfl),c,p.isList} λF eb=>{rfl,Gy (ch:=[it]) I (λb o a q=>eb b o (λz=>a<|by simp[z]) q)<|λb a=>B b (by simp at a;simp[a])}
 self:=λϊ ϊ ϊ ϊ ϊ st h=>Ż st.1.choose_spec h
def TZ(K:k6)(l1 l2:Addr):It:=
  {λi H=>∃xs x a y,Ab K H l1 xs/\xs[i]?=↑x/\Ab K H l2 a/\a[i]?=↑y,
   λi H x b=>∃p y z,x=.ref p/\H p=none/\b=upd H p (.tup [y,z])/\(∀xs,Ab K H l1 xs->xs[i]?=↑y)/\∀xs,Ab K H l2 xs->xs[i]?=↑z,
   λi H=>∃xs a,Ab K H l1 xs/\Ab K H l2 a/\(xs.length<=i\/a.length<=i)}
def zg8{K}(z TI TO i1 i2 l1 l2)(D:ZipApart z TI TO i1 i2 l1 l2) :
  Turn P w K (.Tuple elts kk tpos) (TZ K l1 l2) [z,TI,TO,i1,i2] z (λi h=>IsZip h z TI TO .none/\IsPair h TI (.ref i1) (.ref i2)/\(∃a b,IsPair h TO a b)/\h.IsListIter i1 l1 i/\h.IsListIter i2 l2 i) where
 mem:=by simp
 obj:=λi h st b d=>by
  let(l,e,(a,c,f),(o1,e1,_,d1),(o2,e2,_,d2)):=st;erw[Î,ĉ,Ě]at d;rcases d with rfl|rfl|rfl|rfl|rfl
  exact{_,l,λv z=>by
   have F :=z;cases F}
  exact{_,e,λv z=>by
   have F :=z;cases F}
  exact{_,f,λv z=>by
   have F :=z;cases F}
  exact{o1,e1,λv z=>by rw[d1]at z;cases z};exact{o2,e2,λv z=>by rw[d2]at z;cases z}
 keep:=λi h L st k=>by
  let(l,e,(a,c,f),r,t):=st;exact{k z (by simp) _ l,k TI (by simp) _ e,{a,c,k TO (by simp) _ f},r.at λo q=>k i1 (by simp) o q,t.at λo q=>k i2 (by simp) o q}
 item:=by
  intro X N S M hc i Y s O H E I G st Q;subst N S M;let(l,e,(a,c,f),r,t):=st;let(xs,x,ys,y,J,A,j,hy):=Q;let(V,rv,p,U):=I.list J;let(C,n,W,B):=I.list j;let(u,hu,ru):=rv.get A;let(u2,R,Z):=n.get hy;have hn :=I.hok.fresh<|Ç _
  have lt:∀b∈[z,TI,TO,i1,i2],b≠s.heap.objs.size:=λb d=>by
   erw[Î,ĉ,Ě]at d;rcases d with rfl|rfl|rfl|rfl|rfl
   exact Ó<|Æ l
   exact Ó<|Æ e
   exact Ó<|Æ f
   let(o,q,_):=r;exact Ó<|Æ q
   let(o,q,_):=t;exact Ó<|Æ q
  refine wpAny_pyNext_zip_item D l e f r t p.isList W.isList (by simpa using hu) (by simpa using R) λL a1 a2 a3 a4 a5 a6 hk=>?_
  have I1:Inv X Y O (upd H s.heap.objs.size<|.tup [x,y]) { s with heap:=L,toks:=s.toks }:=by
   refine UC I (λb o d q=>hk b o (λz=>d<|by simp[z]) (λz=>d<|by simp[z]) (λz=>d<|by simp[z]) (λz=>d<|by simp[z]) q) G (Ç _) ?_;exact{by erw[Þ,Č];rw[Ę];decide,[u,u2],.cons ru<|.cons Z .nil,_,a5,rfl,0,rfl}
  have f1:∀b∈[z,TI,TO,i1,i2],Cr X Y (upd H s.heap.objs.size<|.tup [x,y]) b:=λb d=>Yc (G b d)<|lt b d
  refine{.ref s.heap.objs.size,rfl,wpAny_letOwnedTupleGo_zip a1 λh3 T g=>?_};refine{.ref s.heap.objs.size,_,Gy (ch:=[z]) I1 (λb o d q=>g.extBut b o (λz=>d<|by simp[z]) q)<|λb d=>f1 b (by simp at d;simp[d]),rfl,{_,x,y,rfl,hn,rfl,(λzs m=>by rw[I.list_inj m J];exact A),λzs m=>by rw[I.list_inj m j];exact hy},?_,λb d=>(f1 b d).1};exact{T,g.extBut _ _ D.TIz<|hk _ _ D.TIz D.TITO D.TIi1 D.TIi2 e,{_,_,g.extBut _ _ D.TOz a2},a3.extBut g.extBut D.i1z,a4.extBut g.extBut D.i2z}
 done:=by
  intro X N S M hc i Y s O H E I G st Q;subst N S M;let(l,e,(a,c,f),r,t):=st;let(xs,ys,J,j,A):=Q;let(V,rv,p,U):=I.list J;let(C,n,W,B):=I.list j;have hl:=rv.length;have hl2:=n.length;refine wpAny_pyNext_zip_end (I.ok.hd hc) D l e f r t p.isList W.isList ?_ λL hk=>{rfl,Gy I (λb o d q=>hk b o (λz=>d<|by simp[z]) (λz=>d<|by simp[z]) (λz=>d<|by simp[z]) (λz=>d<|by simp[z]) q) G}
  rcases A with A|A;exact .inl (by simp;lia);exact .inr (by simp;lia)
 self:=λϊ ϊ ϊ ϊ ϊ st h=>wpAny_pyIter_zip st.1 h
section
variable {X:Cx}{elts:kC}{kk:Nat}{tpos:Pos}
def iEnum(K:k6)(c:TA):TI:=λO H R=>c O H λd b=>∃a,d=[.ref a]/\(∃xs,Ab K b a xs)/\R (NZ K 0 a) b
def zjt(o:Gl X "enumerate")(r:X.mg "enumerate"=none)(n:PA X [a] ta)(v:starEach [a] X.env=[(false,eval a X.env)]):PI X (.Tuple elts kk tpos) (.Call (.Name "enumerate" p) [a] [] pos)<|iEnum X.K ta:=by
 intro j s O H R I h;refine Call_<|GD I o r boot_enumerate<|Ğ (AZ (n pos j s O H _ I h) λF s1 B=>?_) v rfl
 let(G,g,d,r1,z):=B;let(l,e,(xs,t),q):=z;subst e;let(u,rfl,A):=Ej r1;cases A;let(x,E,y,D):=d.list t;refine call_enumerate_list y.isList λm i f w hk=>?_
 have k:Inv X j O g { s1 with heap:=m,toks:=s1.toks }:=d.kept hk;refine Ż i {s1.heap.objs.size+1,[s1.heap.objs.size+1,s1.heap.objs.size],_,_,g,rfl,k,UD 0 l _ _ (by simp),{{_,by simpa using i},f},λb C=>?_,q}
 have c:s1.heap.objs.size<=b:=by
  grind
 exact d.fpOk c<|d.hok.fresh c
def iZip(K:k6)(d:TA):TI:=λO H R=>d O H λe c=>∃a b,e=[.ref a,.ref b]/\(∃xs,Ab K c a xs)/\(∃xs,Ab K c b xs)/\R (TZ K a b) c
def zno(M:Gl X "zip")(N:X.mg "zip"=none)(L:PA X [a,b] ta)(Q:starEach [a,b] X.env=[(false,eval a X.env),(false,eval b X.env)])(f:starEach [b] X.env=[(false,eval b X.env)]):PI X (.Tuple elts kk tpos) (.Call (.Name "zip" p) [a,b] [] pos)<|iZip X.K ta:=by
 intro B s O H R I h;refine Call_<|GD I M N boot_zip<|Ğ (AZ (L pos B s O H _ I h) λus s1 Y=>?_) (by rw[Q,f]) (by rw[f];rfl)
 let(vs,v,c,r1,U):=Y;let(l1,l2,e,(xs,P),(ys,m),q):=U;subst e;let(u,u2,rfl,V,t):=Gw r1;cases V;cases t;let(T,rv,A,hz):=c.list P;let(y,W,i,S):=c.list m;have r:l1<s1.heap.objs.size:=by let(o,n,e,_):=A;exact Æ e
 have g:l2<s1.heap.objs.size:=by let(o,n,e,_):=i;exact Æ e
 refine call_zip_2 A.isList i.isList λK w E F G J Z hk=>?_;have C:Inv X B O v { s1 with heap:=K,toks:=s1.toks }:=c.kept hk
 have D:ZipApart (s1.heap.objs.size+4) (s1.heap.objs.size+2) (s1.heap.objs.size+3) s1.heap.objs.size (s1.heap.objs.size+1) l1 l2:=by
  have j:∀k:Nat,l1≠s1.heap.objs.size+k:=λk z=>æ _<|Ý r<|z▸Ħ _ _
  have l:∀k:Nat,l2≠s1.heap.objs.size+k:=λk z=>æ _<|Ý g<|z▸Ħ _ _
  refine{?_,?_,?_,?_,?_,?_,?_,?_,?_,?_,j 4,j 3,j 0,j 1,l 4,l 3,l 0,l 1}<;>intro z<;>simp at z
 refine wpAny_pyIter_zip w {_,[s1.heap.objs.size+4,s1.heap.objs.size+2,s1.heap.objs.size+3,s1.heap.objs.size,s1.heap.objs.size+1],_,_,v,rfl,C,zg8 _ _ _ _ _ l1 l2 D,{w,E,{_,_,F},G,J},λb x=>?_,q}
 have d:s1.heap.objs.size<=b:=by
  erw[Î,ĉ,Ě]at x;rcases x with rfl|rfl|rfl|rfl|rfl
  exact Ħ _ _;exact Ħ _ _;exact Ħ _ _;exact Ç _;exact Ħ _ _
 exact c.fpOk d<|c.hok.fresh d
variable {pz:List<|Addr×Obj}{O:L2.St}{H:Hp}{s:Shared}{a:Addr}{o:Obj}{kvs:List<|Key×V}
def zp1(r:KV kvs vs):kvs.length=vs.length:=ő<|r
end
section
variable {X:Cx}{o:Expr}{to:TE}{ap cp:Pos}{elts:kC}{kk:Nat}{tpos:Pos}
end
def JY(a:kC)(env:Env):Sem Bool:=forIn a true λc r=>if r=true then do let ok <- isTrue c env<|eval c env;pure (ForInStep.yield ok) else pure (ForInStep.yield r)
def Gs(X:Cx)(a:kC)(t:TT):Prop:=
 ∀(b:List<|Addr×Obj) (s:Shared) (O:L2.St) (H:Hp) (Q:Bool->Hp->Prop),Inv X b O H s->t O H Q->wpAny (model X.prog X.w) X.A (JY a X.env) (TP X b O Q) X.xe s
theorem zjk:Gs X []<|λϊ H Q=>Q true H:=λa s O H Q I h=>Ê {(H),I,h}
theorem zjj(h:PT X c t):Gs X [c] t:=λd s O H Q I q=>by
 have e:JY [c] X.env=(isTrue c X.env (eval c X.env) >>= λok=>pure ok):=by
  unfold JY;simp
 rw[e];exact Â<|ê (h d s O H Q I q) (λb s1 a=>Ê a) λϊ ϊ z=>z
def zdu:compTurn (.ListComp elt [{target,iter,ifs,0}] scope pos) 0 it acc env=(standAt iter.pos >>= λϊ=>pyNext it >>= λr=>match r with
  |none=>pure (.done .next)|some u=>letOwnedTupleGo target it u >>= λϊ=>assign target env u >>= λϊ=>JY ifs env >>= λok=>
   if ok=true then ((eval elt env >>= λx=>call (.builtin "list.append") [acc,x] >>= λϊ=>pure ()) >>= λϊ=>again<|.compLoop (.ListComp elt [{target,iter,ifs,0}] scope pos) 0 it acc env)
   else again (.compLoop (.ListComp elt [{target,iter,ifs,0}] scope pos) 0 it acc env)):=by rfl
def zdv(j:NE=notedBy (model prog w) A env λe s'=>R (.error e) s')(I:Nat->Shared->Prop)
  (c : ∀ n s, I n s -> wpAny (model prog w) A (pyNext it) (fun r s₁ => match r with
   |none=>R (.ok .next) s₁|some v=>wpAny (model prog w) A (letOwnedTupleGo target it v) (λϊ s₁'=>wpAny (model prog w) A (assign target env v) (λϊ s₂=>wpAny (model prog w) A (JY ifs env) (λok s₂'=>if ok=true then wpAny (model prog w) A (eval elt env) (λx s₃=>
     wpAny (model prog w) A (call (.builtin "list.append") [acc,x]) (λϊ s₄=>∃m,m<n/\I m s₄) NE s₃)
     NE s₂' else ∃m,m<n/\I m s₂') NE s₂) NE s₁') NE s₁) NE s)
  (k ) (hk:I k s):codeAny (model prog w) A (.compLoop (.ListComp elt [{target,iter,ifs,0}] scope pos) 0 it acc env) R s:=by
 subst j;refine codeAny_loop rfl I (λn s i=>?_) k hk;refine wpAny_noted ?_;rw[zdu];refine Â<|ī<|Â<|ê (c n s i) (λr s₁ b=>?_) λϊ ϊ z=>z
 cases r with
 |none=>exact Ê b|some v=>
  refine Â<|ê b (λϊ s₁' d=>?_) λϊ ϊ z=>z
  refine Â<|ê d (λϊ s₂ f=>Â<|ê f (λok s₂' a=>?_) λϊ ϊ z=>z) λϊ ϊ z=>z
  cases ok with
  |false=>
   rw[if_neg<|by decide]at a ⊢;exact Ê {(rfl),a}
  |true=>rw[if_pos rfl]at a ⊢;exact Â<|Â<|ê a (λx s₃ g=>Â<|ê g (λϊ s₄ h=>Ê<|Ê {(rfl),h}) λϊ ϊ z=>z) λϊ ϊ z=>z
def SU(env ):∀(names:List<|Str×NameKind),(∀y∈names,y.2=.free->∃c,env.cells.lookup y.1=↑c)->∀acc ,∃cl ,
  (forIn names acc λ(x:Str×NameKind) r=>if (x.2 == NameKind.free)=true then do let a <- cellOf env x.1;pure (ForInStep.yield<|(x.1,a)::r) else pure (ForInStep.yield r))=pure cl /\
  (∀y c,cl.lookup y=↑c->acc.lookup y=↑c\/env.cells.lookup y=↑c)/\(∀y∈names,y.2=.free->∃c,cl.lookup y.1=↑c)/\∀y c,acc.lookup y=↑c->∃c',cl.lookup y=↑c'
 |[],ϊ,acc=>{acc,rfl,λϊ ϊ e=>.inl e,(λϊ z=>by cases z),λϊ c e=>{(c),e}}|(n,k)::r,h,acc=>by
  rw[List.forIn_cons];by_cases hk:k=.free;subst hk;let(c,l):=h (n,.free) (Í ..) rfl;have m:cellOf env n=pure c:=by unfold cellOf;rw[l]
  let(cl,e,g,i,d):=SU env r (λy b=>h y<|Ì _ b)<|(n,c)::acc
  refine{cl,?_,λy c' q=>?_,λy b f=>?_,λy c' q=>?_};erw[í,Å,m,pure_bind];exact e;rcases g y c' q with z|z;rw[ç]at z;cases b:y == n with
  |true=>rw[b]at z;cases z;exact .inr (by rw[eq_of_beq b];exact l)|false=>rw[b]at z;exact .inl z
  exact .inr z;obtain rfl|b:=Î.mp b
  exact d n c<|by simp
  exact i y b f;by_cases b:y=n;subst b;exact d y c<|by simp
  exact d y c' (by rw[ç,beq_eq_false_iff_ne.mpr b];exact q);have j:(k == NameKind.free)=false:=beq_eq_false_iff_ne.mpr hk;let(cl,e,g,i,d):=SU env r (λy b=>h y<|Ì _ b) acc
  refine{cl,?_,g,λy b f=>?_,d};erw[j,pure_bind];exact e;obtain rfl|b:=Î.mp b
  exact absurd f hk;exact i y b f
def zd0(scope)(env)(h:∀y∈scope.names,y.2=.free->∃c,env.cells.lookup y.1=↑c):∃cl,closureFor scope env=pure cl/\(∀y c,cl.lookup y=↑c->env.cells.lookup y=↑c)/\∀y∈scope.names,y.2=.free->∃c,cl.lookup y.1=↑c:=by
 let(cl,e,d,f,_):=SU env scope.names h [];refine{cl,?_,λy c q=>?_,f};have b:closureFor scope env=(forIn scope.names [] λ(x:Str×NameKind) (r:List<|Str×Addr)=>(if (x.2 == NameKind.free)=true then do let a <- cellOf env x.1;pure (ForInStep.yield<|(x.1,a)::r) else pure (ForInStep.yield r):Sem<|ForInStep<|List<|Str×Addr)) >>= pure:=rfl;rw[b,e,pure_bind];rcases d y c q with z|z;cases z;exact z
set_option tactic.hygienic true in
def SW:∀(names ) (h:Heap) (acc ) (y ) (c ),(cellsFrom h.objs.size names acc).lookup y=↑c->acc.lookup y=↑c\/(h.objs.size<=c/\(pushCells h names).IsCell c none/\(y,NameKind.cell)∈names)
 |[],h,acc,y,c,e=>.inl e|(n,k)::r,h,acc,y,c,e=>by
  unfold cellsFrom at e;unfold pushCells;split at e;rename_i hk;rw[if_pos hk];have g:(h.push { cls:=.type "cell",data:=.cell none }).objs.size=h.objs.size+1:=ă ..;rw[<- g]at e
  rcases SW r _ _ y c e with q|⟨a,d,f⟩;rw[ç]at q;cases b:y == n with
  |true=>rw[b]at q;cases q;have i:y=n:=eq_of_beq b;subst i;exact .inr {Ç _,{_,ŗ _ _ _ _<|ä _ rfl,rfl},by rw[eq_of_beq hk];exact Í ..}|false=>rw[b]at q;exact .inl q
  exact .inr {by rw[g]at a;exact Û (ď _) a,d,Ì _ f};rename_i hk;rw[if_neg hk];rcases SW r h acc y c e with q|⟨a,d,f⟩;exact .inl q;exact .inr {a,d,Ì _ f}
def SX:∀(names) (h:Heap) (acc:List<|Str×Addr),(∀y z c,acc.lookup y=↑c->acc.lookup z=↑c->y=z)->(∀y c,acc.lookup y=↑c->c<h.objs.size) ->
  ∀y z c,(cellsFrom h.objs.size names acc).lookup y=↑c->(cellsFrom h.objs.size names acc).lookup z=↑c->y=z
 |[],h,acc,f,ϊ=>f|(n,k)::r,h,acc,f,g=>by
  unfold cellsFrom;split;have i:(h.push { cls:=.type "cell",data:=.cell none }).objs.size=h.objs.size+1:=ă ..;rw[<- i];refine SX r _ _ (λy z c a b=>?_)<|λy c a=>?_
  rw[ç]at a b;cases d:y == n with
  |true=>
   rw[d]at a;cases a;cases e:z == n with
   |true=>rw[eq_of_beq d,eq_of_beq e]|false=>rw[e]at b;exact absurd (g z _ b)<|æ _
  |false=>
   rw[d]at a;cases e:z == n with
   |true=>rw[e]at b;cases b;exact absurd (g y _ a) (æ _)|false=>rw[e]at b;exact f y z c a b
  rw[ç]at a;rw[i];cases d:y == n with
  |true=>rw[d]at a;cases a;exact Ĕ _|false=>rw[d]at a;exact ģ<|g y c a
  exact SX r h acc f g
set_option tactic.hygienic true in
def SV:∀(names) (n lo:Nat) (acc:List<|Str×Addr) (y) (c),lo<=n->((y,NameKind.cell)∈names\/∃c0,acc.lookup y=↑c0/\lo<=c0)->(cellsFrom n names acc).lookup y=↑c->lo<=c
 |[],n,lo,acc,y,c,a,h,e=>by
  rcases h with h|⟨c0,b,d⟩;cases h;have g:acc.lookup y=↑c:=e;rw[b]at g;cases g;exact d
 |(m,k)::r,n,lo,acc,y,c,a,h,e=>by
  unfold cellsFrom at e;split at e;refine SV r (n+1) lo _ y c (Nat.le_succ_of_le a) ?_ e;by_cases f:y=m;subst f;exact .inr {n,by simp,a};rcases h with h|⟨c0,b,d⟩;rcases Î.mp h with z|z;cases z;exact absurd rfl f;exact .inl z;exact .inr {c0,by rw[ç,beq_eq_false_iff_ne.mpr f];exact b,d};rename_i hk;refine SV r n lo acc y c a ?_ e;rcases h with h|h;rcases Î.mp h with z|z;cases z;exact absurd rfl hk;exact .inl z;exact .inr h
def zbv{code}
  (c:Q (newEnv scope s.heap.objs.size globals (cellsFrom (s.heap.objs.size+1) scope.names cl) qual func code ↑outer builtins) { s with heap:=pushCells (s.heap.push { cls:=.type "dict",data:=.dict #[] }) scope.names }) :
  wpAny M A (newFunctionEnv scope globals cl [] qual func code ↑outer builtins) Q E s:=by
 erw[newFunctionEnv,Ů,Å];refine Â<|wpAny_alloc ?_;refine Â<|wpAny_layCells _ (λb kind a=>by rfl) _ _ _ _ ?_;rw[ă ..]
 exact Â<|Ê<|Ê c
abbrev Dg(X:Cx)(a:Scope)(cl:List<|Str×Addr)(b:kE)(C:Addr)(s₀:Shared)(H₀:Hp)(ex:List Addr)(c:Value->Shared->Prop):Cx:={ zpq X a cl b C s₀ H₀ ex with fn:=λx=>decide (a.names.lookup x=↑.cell),xe:=c }
def Z6{h c B a:Heap}(k:∀b o,B.get? b=none->h.get? b=↑o->(∀us,o.data≠.fields us)->a.get? b=none/\∃o',c.get? b=↑o'/\∀us,o'.data≠.fields us):∀{l},h.FunFrames B l->c.FunFrames a l
 |[],ϊ=>trivial|_::_,{x,{(L),o,d,e,f,g},r}=>by
  let(i,o',j,m):=k L o e f g;exact{x,{(L),o',d,i,j,m},Z6 k r}
def Hq(X:Cx):Prop:=∃v l,X.stack=v::l/\X.env.frame=v.frame
def zfg{X:Cx}   {O:L2.St}{H:Hp}        (hx:DH X E)(hst:Hq X)(I:Inv X pz O H s)(Y:Cr X pz H C)(hC:∃m,s.heap.Ns C m)(nC:C∉Bd X.stack)
  (hb:benv.frame=X.env.frame) (h:DO X.prog X.w X.stack H s (E O) e s'):wpAny (model X.prog X.w) X.A (noteFrame e benv) (λϊ s2=>compPost (model X.prog X.w) X.A X.xe use QQ acc C (.error e) s2) EE s':=by
 let(v,l,st,hv):=hst;let(a,U,H',B,rfl,os,bare,un,hok,kB,tB,Z,he):=h;have F :=st▸Z
 let(L,hL):∃L,v.frame=↑L:=by
  let(_,_,_,(_,(L,_,y,_),_),_):=F;exact{(L),y}
 refine XR (st▸I.ok.frames) (hb.trans hv) hL F λh4 M sm=>?_;let(m,S,es,ep,G,dC,rC):=hC;have bC :=kB C S G Y.1 nC;let(f1,f2,f3,oe,ws,Q,oT,ts,ha,hcl,hd,g1,nT,A,hT,dT,g3):=M
 have r:∀{b },B.get? b=none->b≠C:=λz w=>by
  rw[w,bC]at z;cases z
 have key:∃m,h4.Ns C m/\∀h',Heap.SameBut C h4 h'->∀i ,i.locals=C->wpAny (model X.prog X.w) X.A (PySem.passOn "comprehension.variables-let-go" (.ref a) i:Sem Value) (λϊ ϊ=>False) X.xe { s' with heap:=h' }:=by
  refine{m,{S,es,ep,f1 C S bC,dC,rC},λh5 sb i ϊ=>?_};have p :=(sb.2 a<|r f2).trans ha;have J :=(sb.2 Q<|r nT).trans hT;unfold PySem.passOn;refine Â<|Đ p hd g1 ?_;rw[if_neg<|by simp]
  refine Â ?_;unfold setFlight;refine Â<|Đ p hd g1 ?_;rw[if_pos<|by simp]
  refine Ŗ J dT (į.mp g3).1 (wpAny_throw ?_);generalize hfl:(i.frame.elim Value.none λf=>rawInt f)=fl;have D:=Ŋ dT (·.setIfInBounds 3 fl);have K:=Ņ (Obj.mapFields (·.setIfInBounds 3 fl)) J<|ť D;generalize N:h5.update Q (Obj.mapFields (·.setIfInBounds 3 fl))=h6 at K ⊢
  have t:∀b o,b≠C->b≠Q->h4.get? b=↑o->h6.get? b=↑o:=λb o n1 n2 e=>by
   rw[<- N,Ć _ _<|Ë n2];exact(sb.2 b n1).trans e
  have T :=λb o n e=>t b o n (λz=>by rw[z,nT]at e;cases e)<|f1 b o e
  have g:∀{b } {o },(W.hideAll s.heap [C]).get? b=↑o->s.heap.get? b=↑o/\b≠C:=λ{b o} e=>{Ĳ _ e,λz=>by
   rw[z,Ŧ [C]<|Ô.mpr rfl]at e;cases e}
  have j:∀{b } {o },b≠C->B.get? b=↑o->(W.hideAll B [C]).get? b=↑o:=λ{b o} n e=>Ģ _ e<|λz=>n<|Ô.mp z
  have k:∀{b },B.get? b=none->(W.hideAll B [C]).get? b=none:=λ{b} e=>by
   cases q:(W.hideAll B [C]).get? b with
   |none=>rfl|some o=>rw[Ĳ _ q]at e;cases e
  have IX :=Gy (t':=s.toks) I (λb o n e=>Ģ _ e n) λb z=>by
   rw[Ô.mp z];exact Y
  have slot:∀b o,s.heap.get? b=↑o->H b=none->b∈Bd X.stack->∃z,h6.get? b=↑{ o with slots:=z }:=λb o e n z=>by
   let(_,o2,P,d2):=I.stack.mem z;rw[e]at P;cases P;let(z2,e2):=un.slot b o e n z<|by simp
   let(z3,V):=sm b _ e2 d2;refine{z3,t b _ (λw=>nC<|w▸z) (λw=>?_) V};rw[w,hT]at V;cases V;exact d2 _ dT
  have HC :=un.free C S G Y.1<|by simp
  refine hx pz O H _ _ _ IX {a,U,H',W.hideAll B [C],rfl,os,bare,{λb o e n z ϊ=>?_,λb o e n z ϊ=>slot b o (g e).1 n z,λb o e n z=>un.free b o (g e).1 n z,λb o e ϊ=>?_,un.tups,un.frzs,un.tbls},?_,λb o e n z=>j (g e).2 (kB b o (g e).1 n z),λb o e z=>?_,{fl,λb o e=>?_,k f2,?_,?_},he};exact T b o (g e).2 (kB b o (g e).1 n z);by_cases z:b∈Bd X.stack;let(w,q):=slot b o (g e).1 (I.stkFree b z) z;exact{_,q};let(R,q):=tB b o (g e).1 z;exact{R,T b R (g e).2 q};intro b u e;refine(hok b u e).stay (λc x hc q=>j (λw=>?_) q) (λϊ q=>q) λϊ ϊ q=>q;rcases hc with y|y;rw[<- y,w,HC]at e;cases e;rw[w,HC]at y;cases y;let(R,q):=tB b o (g e).1 z;exact{R,j (g e).2 q};have e':=Ĳ _ e;refine T b o (λw=>?_) e';rw[w,Ŧ [C]<|Ô.mpr rfl]at e;cases e;rw[st];refine Z6 (λb o n e d=>{k n,o,t b o (r n) (λw=>?_) e,d}) f3;rw[w,hT]at e;cases e;exact d _ dT;refine{oe,ws,Q,_,_,?_,hcl,hd,g1,k nT,A,K,D,?_};rw[<- N,Ć _ _ A];exact p;simp[Array.getElem?_setIfInBounds,(į.mp g3).1]
 cases use<;>exact key
structure TurnG(cq:Cx->Prop)(P:Program)(w:World)(K:k6)(tg:Expr)(Γ:It)(fp:List Addr)(it:Addr)(tn:Nat->Heap->Prop):Prop where
 obj:∀i h,tn i h->∀b∈fp,∃o,h.get? b=↑o/\∀v,o.data≠.cell v
 keep:∀i h h',tn i h->(∀b∈fp,∀o,h.get? b=↑o->h'.get? b=↑o)->tn i h'
 item:∀(X:Cx),X.prog=P->X.w=w->X.K=K->cq X->∀(i:Nat) (pz:List<|Addr×Obj) (s:Shared) (O:L2.St) (H:Hp) (E:Value->Shared->Prop),Inv X pz O H s->(∀b∈fp,Cr X pz H b)->tn i s.heap->Γ.go i H ->
  wpAny (model P w) X.A (pyNext<|.ref it) (λr s1=>∃u,r=↑u/\wpAny (model P w) X.A (letOwnedTupleGo tg (.ref it) u) (λϊ s2=>∃x H',Inv X pz O H' s2/\A6 x u/\Γ.yld i H x H'/\tn (i+1) s2.heap/\∀b∈fp,H' b=none) E s1) E s
 done:∀(X:Cx),X.prog=P->X.w=w->X.K=K->cq X->∀(i:Nat) (pz:List<|Addr×Obj) (s:Shared) (O:L2.St) (H:Hp) (E:Value->Shared->Prop),Inv X pz O H s->(∀b∈fp,Cr X pz H b)->tn i s.heap->Γ.stop i H ->
  wpAny (model P w) X.A (pyNext<|.ref it) (λr s1=>r=none/\Inv X pz O H s1) E s
 self:∀(A:Around) (i:Nat) (s:Shared) (Q:Value->Shared->Prop) (E:Value->Shared->Prop),tn i s.heap->Q (.ref it) s->wpAny (model P w) A (pyIter<|.ref it) Q E s
def PJ(cq:Cx->Prop)(X:Cx)(h a:Expr)(i:TI):Prop:=
 ∀(e:List<|Addr×Obj) (s:Shared) (O:L2.St) (H:Hp) (R:It->Hp->Prop),Inv X e O H s->i O H R ->
  wpAny (model X.prog X.w) X.A (eval a X.env) (λv s1=>wpAny (model X.prog X.w) X.A (pyIter v) (λd g=>∃(it:Addr) (f:List Addr) (tn:Nat->Heap->Prop) (Γ:It) (c:Hp),d=.ref it/\Inv X e O c g/\TurnG cq X.prog X.w X.K h Γ f it tn/\tn 0 g.heap/\(∀b∈f,Cr X e c b)/\R Γ c) X.xe s1) X.xe s
theorem Vc(h:PI X tg iter wi):PJ (λX=>X.calm=true) X tg iter wi:=λb s O H R I q=>
 AZ (h b s O H R I q) λϊ ϊ a=>AZ a λ_ _ ⟨it,fp,tn,Γ,H',e,I2,T,r⟩=>{it,fp,tn,Γ,H',e,I2,{(T.obj),T.keep,T.item,T.done,T.self},r}
section
variable {X:Cx}{elt iter tg:Expr}{ifs:kC}{scope:Scope}{pos pos2:Pos}{cl:List<|Str×Addr}{N':kE}{wi:TI}{g:TG}{tt:TT}{te:TE}
def LO(j:L2.St->L2.St)(o:TI)(g:TG)(m:TT)(l:TE):TE:=λO H Q=>o O H λΓ e=>∃(W:Nat->kK->L2.St->Hp->Prop) (n:Nat),n<=sizeLine/\W 0 [] (j O) e/\∀i b Y H,W i b Y H->b.length<=i/\i<=n /\
 ((Γ.stop i H/\∀p,H p=none->Q (.ref p) (upd H p<|.lst b))\/(i<n/\Γ.go i H/\∀x c,Γ.yld i H x c->g x Y c λa f=>m a f λk d=>if k=true then l a d λy h=>W (i+1) (b++[y]) a h else W (i+1) b a d))
def AC(X:Cx)(a:Scope)(b:kE)(E:L2.St->XK)(F:Cx->Prop):Prop:=∀cl C s₀ H₀ ex c,DH (Dg X a cl b C s₀ H₀ ex c) E->F (Dg X a cl b C s₀ H₀ ex c)
structure BlkC(X:Cx)(scope:Scope)(N':kE)(O':L2.St->L2.St)(cl:List<|Str×Addr):Prop where
 clos:closureFor scope X.env=pure cl
 kind:scope.kind=.function
 names:∀y∈scope.names,y.2=.local->scope.names.lookup y.1=↑.local
 sub:∀y c,cl.lookup y=↑c->X.env.cells.lookup y=↑c
 has:∀y,(relabel scope X.env).names.lookup y=↑.cell\/(relabel scope X.env).names.lookup y=↑.free->(y,NameKind.cell)∈scope.names\/∃c,cl.lookup y=↑c
 cap:∀(O:L2.St) (i:Nat) (y:Str) (v:V),N'[i]?=↑y->(O' O)[i]?=↑↑v->(y,NameKind.cell)∉scope.names
 len:∀O:L2.St,O.length=X.N.length->(O' O).length=N'.length
 vis:∀(O:L2.St) (i:Nat) (y:Str) (v:V),N'[i]?=↑y->(O' O)[i]?=↑↑v->((relabel scope X.env).names.lookup y=↑.cell\/(relabel scope X.env).names.lookup y=↑.free)/\∃j:Nat,X.N[j]?=↑y/\O[j]?=↑↑v/\E5 X.env.scope y/\X.env.kindOf y≠↑.local
set_option tactic.hygienic true in
def YB{O':L2.St->L2.St}(L:BlkC X scope N' O' cl){cq:Cx->Prop}(hc:∀Z O H s cl C ex xb,Inv X Z O H s->cq (Dg X scope cl N' C s H ex xb))(hi:PJ cq X tg iter wi){E:L2.St->XK}(hps:DH X E)(hst:Hq X){O:L2.St}(hg:AC X scope N' (λϊ=>E O) λτ=>PG τ tg g/\Gs τ ifs tt/\PE τ elt te)
  (hs:∀x,foldedSetIterable iter X.env x=pure x) {use:Option<|Value->Sem Unit} {Z:List<|Addr×Obj} {s:Shared} {H:Hp} {Q:VK} {QQ:Value->Shared->Prop} (I:Inv X Z O H s) (h:LO O' wi g tt te O H Q)
  (hend:∀(D C:Addr) (s5:Shared) (H5:Hp),Inv X Z O H5 s5->Q (.ref D) H5->(∃m,s5.heap.Ns C m)->Cr X Z H5 C->compPost (model X.prog X.w) X.A X.xe use QQ (.ref D) C (.ok .next) s5) :
  wpAny (model X.prog X.w) X.A (comprehension (.ListComp elt [{tg,iter,ifs,0}] scope pos) scope X.env pos2 (newList []) false (eval iter X.env) use) QQ X.xe s:=by
 let(hclos,hkind,hnames,hcl,hhas,hcap,hσ,hvis):=L;refine wpAny_comprehension_free (use:=use) rfl hs hclos hkind hnames<|AZ (hi Z s O H _ I h) λv s1 h1=>AZ h1 λitv f h2=>?_
 let(it,G,tn,Γ,P,e,t,T,st2,f2,W,n,hn,w0,turn):=h2;subst e;refine ź<|zbv ?_;dsimp only;generalize hHp:f.heap.push { cls:=.type "list",dict:=none,data:=.seq ([]:k9).toArray }=P2;generalize N:cellsFrom (P2.objs.size+1) scope.names cl=cl';generalize hh1:pushCells (P2.push { cls:=.type "dict",data:=.dict #[] }) scope.names=h₁;have hC:P2.objs.size=f.heap.objs.size+1:=by rw[<- hHp,ă]
 have hP3:(P2.push { cls:=.type "dict",data:=.dict #[] }).objs.size=P2.objs.size+1:=ă ..;have hDC:f.heap.objs.size≠P2.objs.size:=by rw[hC];exact Ó<|Ĕ _
 have J:∀b,b<f.heap.objs.size->b≠P2.objs.size/\b≠f.heap.objs.size:=λb a=>{by rw[hC];exact Ó<|ģ a,Ó a}
 have V:∀b o,f.heap.get? b=↑o->h₁.get? b=↑o:=λb o e=>by
  rw[<- hh1];exact ŗ _ _ _ _<|Ñ _<|hHp▸Ñ _ e
 have hacc:h₁.PlainList f.heap.objs.size #[]:={_,by
  rw[<- hh1];exact ŗ _ _ _ _<|Ñ _<|hHp▸ä _ rfl}
 have hns₁:h₁.Ns P2.objs.size<|λϊ=>none:=by
  rw[<- hh1];exact(Heap.Ns.new P2<|.type "dict").keeps (ŗ _ _)
 have K:∀y c,cl'.lookup y=↑c->X.env.cells.lookup y=↑c\/(P2.objs.size<c/\h₁.IsCell c none/\(y,NameKind.cell)∈scope.names):=λy c e=>by
  rw[<- N,<- hP3]at e;rcases SW _ _ _ y c e with q|⟨q1,q2,q3⟩;exact .inl<|hcl y c q
  rw[hP3]at q1;rw[hh1]at q2;exact .inr {(q1),q2,q3}
 have has':∀y,(y,NameKind.cell)∈scope.names\/(∃c,cl.lookup y=↑c)->∃c,cl'.lookup y=↑c:=λy hy=>by
  rw[<- N]
  have go:∀(names:List<|Str×NameKind) (n:Nat) (acc:List<|Str×Addr),((y,NameKind.cell)∈names\/∃c,acc.lookup y=↑c)->∃c,(cellsFrom n names acc).lookup y=↑c:=by
   intro names
   induction names with
   |nil=>
    intro n acc h;rcases h with h|h;cases h;exact h
   |cons x r ih=>
    let(m,k):=x;intro n acc h;unfold cellsFrom;split;refine ih _ _ ?_;by_cases hm:y=m;subst hm;exact .inr {n,by simp};rcases h with h|⟨c,h⟩;rcases Î.mp h with z|z;cases z;exact absurd rfl hm;exact .inl z;exact .inr {c,by rw[ç,beq_eq_false_iff_ne.mpr hm];exact h};rename_i hk;refine ih _ _ ?_;rcases h with h|h;rcases Î.mp h with z|z;cases z;exact absurd rfl hk;exact .inl z;exact .inr h
  exact go _ _ _ hy
 have fsub:∀b∈Bd X.stack,b∈X.env.locals::X.fs:=t.stkSub
 have fpfs:∀b∈G,b∉Bd X.stack:=λb a z=>by
  let(_,h2,h3,_):=f2 b a;rcases Î.mp (fsub b z) with q|q;exact h2 q;exact h3 q
 have F:∀b∈G,b<f.heap.objs.size:=λb a=>by
  let(o,e,_):=T.obj 0 _ st2 b a;exact Æ e
 have cold:∀y c,cl'.lookup y=↑c->c<f.heap.objs.size\/P2.objs.size<c:=λy c e=>by
  rcases K y c e with q|q;let(v,z):=t.cell y c q;exact .inl z.lt;exact .inr q.1
 have cneD:∀y c,cl'.lookup y=↑c->c≠f.heap.objs.size:=λy c e z=>by
  rcases cold y c e with q|q;rw[z]at q;exact æ _ q;rw[z,hC]at q;exact absurd q<|Nat.not_lt.mpr<|ď _
 have cneF:∀b,b<f.heap.objs.size->(∀y c,X.env.cells.lookup y=↑c->c≠b)->∀y c,cl'.lookup y=↑c->c≠b:=λb a hx y c e z=>by
  rcases K y c e with q|q;exact hx y c q z;have:=q.1;rw[z,hC]at this;exact absurd (ĺ a<|Nat.lt_of_succ_lt this)<|æ _
 have A:∀b,f.heap.objs.size<=b->P b=none:=λb a=>t.hok.fresh a;have CS:f.heap.objs.size<=P2.objs.size:=by rw[hC];exact ď _
 let(xb,hxb):∃xb,xb=notedBy (model X.prog X.w) X.A (compEnvC scope cl' P2.objs.size X.env) λe s'=>compPost (model X.prog X.w) X.A X.xe use QQ (.ref f.heap.objs.size) P2.objs.size (.error e) s':={_,rfl}
 have hpb:DH (Dg X scope cl' N' P2.objs.size f P G xb)<|λϊ=>E O:=by
  subst hxb;intro pins4 σ4 H4 s4 e s' I4 hcx
  have IX:Inv X Z O H4 s4:=t.call' (s':=s4) (ch:=G) I4.os I4.base I4.hok I4.bare λb a=>by
   let(g1,g2,g3,g4,g5,g6):=f2 b a;exact{(g4),g2,g5,g6}
  let(m4,hm4,_):=I4.loc
  exact zfg hps hst IX {I4.free,(t.fpOk (H':=P) CS<|A _ CS).2} {(m4),hm4} (λz=>by
   let(o,ho,_):=(t.stack.mem z).2;exact absurd (Æ ho)<|Nat.not_lt.mpr CS) rfl hcx
 let(hg,ht,he):=hg _ _ _ _ _ _ hpb
 have ok':(Dg X scope cl' N' P2.objs.size f P G xb).Ok:=by
  refine{t.ok.mod,hkind,t.ok.glob,t.ok.blt,CS,?inj,λy hy=>has' y<|hhas y hy,?cab,t.ok.hd,t.ok.frames,.inl rfl,λb a=>{(J b<|F b a).1,cneF b (F b a) λy c e=>(f2 b a).2.2.2.2.1 y c e},
   λb o e=>t.bs b o e,Û t.ok.bsz t.sz,λb o e a=>?_,λb a=>fpfs b a,t.stack,t.stkFree}
  case inj=>
   intro y z c h1 h2;have h1':(cellsFrom (P2.push { cls:=.type "dict",data:=.dict #[] }).objs.size scope.names cl).lookup y=↑c:=by rw[hP3,N];exact h1
   have h2':(cellsFrom (P2.push { cls:=.type "dict",data:=.dict #[] }).objs.size scope.names cl).lookup z=↑c:=by rw[hP3,N];exact h2
   refine SX scope.names _ cl (λy z c g1 g2=>t.ok.inj y z c (hcl y c g1)<|hcl z c g2) (λy c g=>?_) y z c h1' h2';let(v,q):=t.cell y c<|hcl y c g;rw[hP3,hC];exact ģ<|ģ q.lt
  case cab=>
   intro y c hy e;have hy':scope.names.lookup y=↑.cell:=ñ hy;have e':(cellsFrom (P2.objs.size+1) scope.names cl).lookup y=↑c:=by rw[N];exact e
   exact Û CS<|Û (ď _)<|SV scope.names _ (P2.objs.size+1) cl y c (Ç _) (.inl<|Ē hy') e'
  let(_,_,_,q,_):=f2 b a;rcases q with q|q;exact t.ok.noex b o e q;exact absurd (Ý (Æ e)<|Û t.ok.bsz q)<|æ _
 have I':Inv (Dg X scope cl' N' P2.objs.size f P G xb) Z (O' O) P { f with heap:=h₁ }:=by
  refine{ok',rfl,t.bare,Un.kept V,{_,hns₁,λi y v h1 h2 h3=>?_},λy c e=>?_,A _ CS,?fc,λp hp=>?_,t.hok.kept V,hσ O t.len}
  case fc=>
   intro y c e;rcases K y c e with q|q;exact t.freeC y c q;exact A c<|Û CS<|Ĩ q.1
  let(hk,j,h4,h5,h6,h7):=hvis O i y v h1 h2;have hno:=hcap O i y v h1 h2;let(m,hn',hl):=t.loc;let(u,r,l):=hl j y v h4 h5 h6;let(c,hcc):=has' y<|hhas y hk;refine{u,r,.inr {hk,c,hcc,?_}}
  rcases l with ⟨k1,_⟩|⟨_,c',e',z⟩;exact absurd k1 h7;rcases K y c hcc with w|w;rw[w]at e';cases e';let(o,ho,hd):=z;exact{o,V _ _ ho,hd}
  exact absurd w.2.2 hno;rcases K y c e with w|w;let(v,o,ho,hd):=t.cell y c w;exact{v,o,V _ _ ho,hd};exact{(none),w.2.1};let(M,e2,e3,e4,e5):=t.pin p hp;refine{V _ _ M,e2,(J _<|Æ M).1,λz=>?_,e5};rcases Î.mp (fsub _ z) with q|q;exact e3 q;exact e4 q
 have stat:∀{R:Hp},(∀b∈G,R b=none)->∀b∈G,Cr (Dg X scope cl' N' P2.objs.size f P G xb) Z R b:=λhn' b a=>
  {hn' b a,(J b<|F b a).1,fpfs b a,.inl a,cneF b (F b a) λy c e=>(f2 b a).2.2.2.2.1 y c e,(f2 b a).2.2.2.2.2}
 have Dok:∀{R:Hp},R f.heap.objs.size=none->Cr (Dg X scope cl' N' P2.objs.size f P G xb) Z R f.heap.objs.size:=λhn'=>
  {hn',hDC,(λz=>by
   let(o,ho,_):=(t.stack.mem z).2;exact absurd (Æ ho)<|æ _),.inr<|Ç _,cneD,λp hp z=>absurd (Æ (t.pin p hp).1) (by rw[z];exact æ _)}
 have loop:∀s3:Shared,s3={ f with heap:=h₁ } ->
   codeAny (model X.prog X.w) X.A (.compLoop (.ListComp elt [{tg,iter,ifs,0}] scope pos) 0 (.ref it) (.ref f.heap.objs.size)<|compEnvC scope cl' P2.objs.size X.env)
    (compPost (model X.prog X.w) X.A X.xe use QQ (.ref f.heap.objs.size) P2.objs.size) s3:=by
  rintro s3 rfl
  refine zdv hxb (λm s'=>∃i ys Y R,m=n - i/\Inv (Dg X scope cl' N' P2.objs.size f P G xb) Z Y R s'/\tn i s'.heap/\(∀b∈G,R b=none)/\R f.heap.objs.size=none/\(∃U:k9,A4 ys U/\s'.heap.PlainList f.heap.objs.size U.toArray)/\W i ys Y R)
   ?_ n {0,[],O' O,P,rfl,I',T.keep _ _ _ st2 λb ϊ o e=>V b o e,λb a=>(f2 b a).1,A _<|Ç _,{[],.nil,hacc},w0}
  rintro m s4 ⟨i,ys,Y,H4,rfl,I4,st4,fr4,S,⟨U,rv,hpl⟩,w4⟩;let(hly,hin,c):=turn i ys Y H4 w4
  have statp:∀{R:Hp},(∀b∈G,R b=none)->∀b∈G,Cr (Dg X scope cl' N' P2.objs.size f P G xb) (Z++HJ [f.heap.objs.size] s4.heap) R b:=λ{R} fr' b a=>by
    let(g1,g2,g3,g4,g5,g6):=stat fr' b a;refine{g1,g2,g3,g4,g5,λp hp z=>?_};rcases å.mp hp with y|y;exact g6 p (î _ y) z;rcases å.mp y with y|y;exact g6 p (ß _ y) z;let(hb',_):=Vp y;rw[z,Ô]at hb';exact absurd (F b a) (by rw[hb'];exact æ _)
  rcases c with ⟨stop,q⟩|⟨hlt,go,step⟩
  .let(k,hDo):=hpl;have I4p:=I4.pinned (fp:=[f.heap.objs.size]) (λb a=>by rw[Ô.mp a];exact Dok S) (λb a=>by rw[Ô.mp a];exact{_,hDo,λv z=>(by cases z)})
   refine AZ (T.done (Dg X scope cl' N' P2.objs.size f P G xb) rfl rfl rfl (hc _ _ _ _ _ _ _ _ t) i _ s4 Y H4 _ I4p (statp fr4) st4 stop) λr s5 zz=>?_;let(hr,I5):=zz;subst hr;have hD5 :=(I5.pin (f.heap.objs.size,_)<|ß _<|ß _<|HP (Ô.mpr rfl) hDo).1;let(m5,hn5,_):=I5.loc;have fC:H4 P2.objs.size=none:=I5.free
   have U5:Un (Bd X.stack) G P (upd H4 f.heap.objs.size<|.lst ys) f.heap s5.heap:=by
    have B:=I5.base;refine{λb o M e2 e3 e4=>B.keep b o M e2 e3 e4,λb o M e2 e3 e4=>B.slot b o M e2 e3 e4,λb o M e2 e4=>?_,λb o M e4=>B.there b o M e4,λb xs M=>?_,λb o u M=>?_,λb ps M=>?_};rw[As (J b<|Æ M).2];exact B.free b o M e2 e4;have q':=B.tups b xs M;rw[As<|Cz q' S];exact q';have q':=B.frzs b o u M;rw[As<|Cz q' S];exact q';let(more,q'):=B.tbls b ps M;exact{more,by rw[As<|Cz q' S];exact q'}
   have hzy:ys.length<=sizeLine:=Û hly<|Û hin hn;have HK:HOk X.prog X.w (upd H4 f.heap.objs.size<|.lst ys) s5.heap:=Zw.HOk.adopt I5.hok S {(hzy),U,k,rv,hD5};have os5:s5.os=f.os:=I5.os
   have IX:Inv X Z O (upd H4 f.heap.objs.size<|.lst ys) s5:=t.call' (s':=s5) (ch:=G) os5 U5 HK I5.bare (λb a=>by
    let(g1,g2,g3,g4,g5,g6):=f2 b a;exact{(g4),g2,g5,g6})
   refine hend f.heap.objs.size P2.objs.size s5 _ IX (q _ S) {(m5),hn5} ?_;have CL:f.heap.objs.size<=P2.objs.size:=CS;have fp0:Cr X Z P P2.objs.size:=t.fpOk CS<|A _ CS;exact{by rw[As<|Ë hDC];exact fC,fp0.2}
  let(k,hDo):=hpl;have I4p:=I4.pinned (fp:=[f.heap.objs.size]) (λb a=>by rw[Ô.mp a];exact Dok S) (λb a=>by rw[Ô.mp a];exact{_,hDo,λv z=>(by cases z)})
  refine AZ (T.item (Dg X scope cl' N' P2.objs.size f P G xb) rfl rfl rfl (hc _ _ _ _ _ _ _ _ t) i _ s4 Y H4 _ I4p (statp fr4) st4 go) λr s5 zz=>?_;let(u,hr,h5):=zz;subst hr;refine AZ h5 λϊ s6 zz=>?_;let(x,H6,I6,r6,y6,CB,fr6):=zz;have I6':=I6.pinned (statp fr6)<|T.obj _ _ CB;refine AZ (hg _ s6 Y H6 x u _ I6' r6<|step x H6 y6) λϊ s7 zz=>?_
  let(τ7,H7,I7,q7):=zz;refine AZ (ht _ s7 τ7 H7 _ I7 q7) λok s7b zz=>?_
  let(H7b,I7b,q7b):=zz;have BD:∀{H8:Hp} {s8:Shared} {τ8:L2.St},Inv (Dg X scope cl' N' P2.objs.size f P G xb) (Z++HJ [f.heap.objs.size] s4.heap++HJ G s6.heap) τ8 H8 s8->∀h9:Heap,(∀b o,b≠f.heap.objs.size->s8.heap.get? b=↑o->h9.get? b=↑o)->tn (i+1) h9/\∀b∈G,H8 b=none:=λ{H8 s8 τ8} I8 h9 sb=>by
   refine{T.keep _ _ _ CB λb a o e=>?_,λb a=>?_};exact sb b o (J b<|F b a).2 (I8.pin (b,o)<|ß _<|ß _<|HP a e).1;let(o,e,d):=T.obj _ _ CB b a;exact(I8.pin (b,o)<|ß _<|ß _<|HP a e).2.1
  cases ok with
  |false=>
   rw[if_neg<|by decide]at q7b ⊢;have hD8:=I7b.pin (f.heap.objs.size,_)<|ß _<|î _<|ß _<|HP (Ô.mpr rfl) hDo;let(t9,f9):=BD I7b s7b.heap λb o ϊ e=>e
   exact{n - (i+1),by lia,i+1,ys,τ7,H7b,rfl,I7b.unpinned.unpinned,t9,f9,hD8.2.1,{(U),rv,k,hD8.1},q7b}
  |true=>
   rw[if_pos rfl]at q7b ⊢;refine AZ (he _ s7b τ7 H7b _ I7b q7b) λuy s8 zz=>?_;let(y,H8,I8,ry,w8):=zz;have hD8:=I8.pin (f.heap.objs.size,_)<|ß _<|î _<|ß _<|HP (Ô.mpr rfl) hDo;have P8:s8.heap.PlainList f.heap.objs.size U.toArray:={(k),hD8.1};have hlen:=rv.length;refine wpAny_list_append_plain P8 (λh' pl' sb=>?_) (by rw[ó,<- hlen];lia)
   have I8u :=I8.unpinned.unpinned;let(d1,d2,d3,d4,d5,d6):=Dok hD8.2.1;have I9 :=I8u.turned (t':=s8.toks) (λb o a e=>(sb.2 b a).trans e) d1 d2 d4 d5 d6
   let(t9,f9):=BD I8 h' λb o a e=>(sb.2 b a).trans e;exact{n - (i+1),by lia,i+1,ys++[y],τ7,H8,rfl,I9,t9,f9,hD8.2.1,{U++[uy],rv.append<|.cons ry .nil,by simpa using pl'},w8}
 refine codeAny_compStart_list (loop _ rfl)<|T.self _ 0 _ _ _ (T.keep _ _ _ st2 λb ϊ o e=>V b o e)<|loop _ rfl
def zow(L:BlkC X scope N' O' cl)(k:∀pz O H s cl C ex xb,Inv X pz O H s->cq (Dg X scope cl N' C s H ex xb))(n:PJ cq X tg iter wi)(a:DH X E)(c:Hq X){O:L2.St}(l:AC X scope N' (λϊ=>E O) λτ=>PG τ tg g/\Gs τ ifs tt/\PE τ elt te)
  (p:∀x,foldedSetIterable iter X.env x=pure x)   {H:Hp} {Q:VK} (I:Inv X pz O H s) (h:LO O' wi g tt te O H Q) :
  wpAny (model X.prog X.w) X.A (eval (.ListComp elt [{tg,iter,ifs,0}] scope pos) X.env) (EP X pz O Q) X.xe s:=by
 refine YB L k n a c l p I h λD C t i j q ⟨m,hm⟩ f=>{m,hm,λr sb=>?_};exact{.ref D,i,Gy (ch:=[C]) j (λb o d e=>(sb.2 b<|λz=>d<|by simp[z]).trans e) (λb d=>by grind),rfl,q}
def zox(L:BlkC X scope N' O' cl)(B:X.calm=true)(G:PI X tg iter wi)(l:DH X E)(n:Hq X)(F:AC X scope N' (λϊ=>E O) λτ=>PG τ tg g/\Gs τ ifs tt/\PE τ elt te)
  (K:∀x,foldedSetIterable iter X.env x=pure x)   {H:Hp} {D:Ends} {i:Nat} {x:Str}  (y:X.N.Nodup) (k:X.N[i]?=↑x) (r:X.env.scope.names.lookup x=↑.local)
  (p:swapsWith (.ListComp elt [{tg,iter,ifs,0}] scope pos) (↑(.Name x pos')) pos2.line X.env=pure true)
  (I:Inv X pz O H s) (h:LO O' wi g tt te O H λv H1=>D.nx (O.set i ↑v) H1) :
  wpAny (model X.prog X.w) X.A (exec (.Assign [.Name x pos'] (.ListComp elt [{tg,iter,ifs,0}] scope pos) pos2) X.env) (SP X pz D) X.xe s:=by
 rw[exec_Assign_Name_used _ _ _ _ p];refine Â<|ī<|Â ?_;refine Â<|ê (YB L (λϊ ϊ ϊ ϊ ϊ ϊ ϊ ϊ ϊ=>B) (Vc G) l n F K I h λA C R t u M ⟨m,hm⟩ f=>?_) (λϊ Q J=>Ê<|Ê J) λϊ ϊ e=>e
 show wpAny _ X.A (assign (.Name x pos') X.env<|.ref A) _ _ _;refine wpAny_assign_Name<|U4 u y k (.inl r) (v:=.ref A) rfl (λS w N=>?_)<|.inr r
 let(a,sb,d):=N;have c:C≠a:=by
  rcases d with rfl|d;exact f.2.1;exact λz=>f.2.2.2.2.1 x a d z.symm
 refine{m,hm.sameBut sb c,λP q=>{_,t,Gy (ch:=[C]) w (λb o j e=>(q.2 b<|λz=>j<|by simp[z]).trans e) (λb j=>by rw[Ô.mp j];exact f),M}}
end
structure RpO(K:k6)(F H:Hp)(l:kL)(xs:kK)(R:Nat->Rg):Prop where
 len:l.length=xs.length
 rep:∀(i:Nat) (t:T) (x:V),l[i]?=↑t->xs[i]?=↑x->Rp K F H t x (R i)
 dis:∀i j a,i≠j->R i a->¬ R j a
 out:∀i a,R i a->i<l.length
section
variable {K:k6}{F H F1 H1:Hp}{l:kL}{xs:kK}{R:Nat->Rg}{B:Rg}
theorem RpO.nil:RpO K F H [] []<|λϊ=>R0:={rfl,λi t x h=>by simp at h,λϊ ϊ ϊ ϊ z=>z.elim,λϊ ϊ z=>z.elim}
def RpO.dom(h:RpO K F H l xs R)(z:R i a):F a=none/\∃u,H a=↑u:=by
 have b:=h.out i a z;have c:i<xs.length:=by have:=h.len;lia
 exact(h.rep i _ _ (Á b)<|Á c).dom z
theorem RpO.ext(h:RpO K F H l xs R)(e:Ext F H F1 H1 B):RpO K F1 H1 l xs R:={h.len,λi t x a b=>(h.rep i t x a b).ext e,h.dis,h.out}
theorem RpO.apart(h:RpO K F H l xs R)(e:Ext F H F1 H1 B)(a:B b)(i):¬ R i b:=λz=>by
 let(f,u,q):=h.dom z;rw[e.nb b a]at q;cases q
def RpO.snoc(h:RpO K F H l xs R)   (r:Rp K F H t x B)(d:∀i a,R i a->¬ B a):RpO K F H (l++[t]) (xs++[x]) (λj=>if j=l.length then B else R j):=by
 have o:=h.len;refine{by simp[o],λi p q g k=>?_,λi j a e f c=>?_,λi a z=>?_};by_cases b:i=l.length;subst b;rw[if_pos rfl];have s:t=p:=by simpa using g
 have u:x=q:=by rw[o]at k;simpa using k
 subst s;subst u;exact r;rw[if_neg b]
 have n:i<l.length:=by
  have:=(Ð.mp g).1;simp at this;lia
 rw[ÿ n]at g;rw[ÿ<|by lia]at k;exact h.rep i p q g k;by_cases b:i=l.length;erw[b,Å]at f;have m:¬ j=l.length:=λz=>e<|b.trans z.symm
 erw[m,Ã]at c;exact d j a c f;erw[b,Ã]at f;by_cases m:j=l.length;erw[m,Å]at c;exact d i a f c;erw[m,Ã]at c;exact h.dis i j a e f c;by_cases b:i=l.length;simp[b];erw[b,Ã]at z;have:=h.out i a z;simp
 lia
def RpO.cons(h:RpO K F H l xs R)   (r:Rp K F H t x B)(d:∀i a,R i a->¬ B a):RpO K F H (t::l) (x::xs) (λj=>match j with|0=>B|j+1=>R j):=by
 refine{by simp[h.len],λi k m c e=>?_,λi j a b f g=>?_,λi a z=>?_};cases i with
 |zero=>simp at c e;subst c;subst e;exact r|succ i=>exact h.rep i k m (by simpa using c)<|by simpa using e
 cases i with
 |zero=>
  cases j with
  |zero=>exact b rfl|succ j=>exact d j a g f
 |succ i=>
  cases j with
  |zero=>exact d i a f g|succ j=>exact h.dis i j a (λz=>b<|by rw[z]) f g
 cases i with
 |zero=>simp|succ i=>have:=h.out i a z;simp;lia
theorem RpO.r0(h:RpO K F H l xs R)(s:AV l=true):Ae K F l xs:={h.len,λi t x a b=>(h.rep i t x a b).move (ziy s a) (.refl _)}
def RpO.list(h:RpO K F H l xs R)(s:A3 F H)  (b:H p=none):Rp K F (upd H p<|.lst xs) (.own l) (.ref p) (λa=>a=p\/∃i,R i a)/\Ext F H F (upd H p<|.lst xs) (λa=>a=p):=by
 have e:=Ext.newO (o:=.lst xs) s b;have c:=h.ext e;exact{.own (k:=.lst) trivial R (HM s b) Ce h.len c.rep h.dis (λi z=>h.apart e rfl i z) h.out,e}
end
def AG(ma mk:AJ):AJ:=λY=>match ma Y with
 |some (.v t b)=>(match mk Y with
  |some (.v (.int i) ϊ)=>(match t with
   |.nd ϊ ϋ l=>(match AM l i with
    |some c=>↑(.v c<|b && !c.sh)|none=>none)
   |.str z=>if z.length<=Bj then (match AM z.cps.toList i with
    |some c=>↑(.v (.str {#[c]}) false)|none=>none) else none
   |ϊ=>none)
  |some (.v ϊ ϋ)=>none|r=>r)
 |r=>r
def zlt{c:α}(e:l.length=m.length)(h:AM l i=↑c):∃(j:Nat) (d:β),l[j]?=↑c/\m[j]?=↑d/\AM m i=↑d:=by
 unfold AM at h ⊢;rw[<- e];cases q:CV l.length i with
 |none=>rw[q]at h;cases h|some j=>
  rw[q]at h;have a:l[j]?=↑c:=h
  have b:j<m.length:=by
   have:=(Ð.mp a).1;lia
  exact{j,m[j],a,Á b,Á b}
section
variable {K:k6}{F H:Hp}
def Rp.seq(s:A3 F H)(h:Rp K F H (.nd o k l) x A):∃p xs,x=.ref p/\(Ab K H p xs\/CD K H p xs)/\l.length=xs.length/\∀(i:Nat) (t ) (x ),l[i]?=↑t->xs[i]?=↑x->∃B,(∀a,B a->A a)/\Rp K F H t x B:=by
 cases h with
 |@shr k p xs l h e c=>
  refine{p,xs,rfl,?_,e,λi t x b g=>{R0,λϊ z=>z.elim,c i t x b g}};cases k with
  |lst=>exact .inl (Ab.of<|s _ _ h)|rl=>exact .inl (s.seq h.l)|tup=>exact .inr (CD.of<|s _ _ h)|rt=>exact .inr (GW s h)|pin q=>exact .inl<|Ab.of<|s _ _ h
 |@own j p xs l hk R f h e c d dp o=>
  refine{p,xs,rfl,?_,e,λi t x b g=>{R i,λa z=>.inr {(i),z},c i t x b g}};cases k with
  |tup=>exact .inr (CD.of h)|_=>exact .inl<|Ab.of h
end
section
variable {X:Cx}{E:L2.St->XK}{ca:Str->Value}{O:L2.St}{H:Hp}{m ma mb mc:AJ}{ms:Ar}{K:k6}{a b c e:Expr}{es:kC}{pos:Pos}
def tM_ix(h:tM K E ca (AG ma mb) O H Q):IA (V8 K) (tM K E ca ma) (tM K E ca mb) O H Q:=by
 let(F,Y,R,S,q):=h;refine{F,Y,R,S,?_};unfold AG at q;cases X:ma Y with
 |none=>erw[X]at q<;>symm|some r=>
  erw[X]at q;cases r with
  |x c=>exact q|v t n=>
   intro F1 H1 x B J g1;have V:=S.ext J;refine{F1,Y,R,V,?_};cases hk:mb Y with
   |none=>erw[hk]at q<;>symm|some r=>
    erw[hk]at q;cases r with
    |x c=>exact λF' H' e=>q F' H' ((J.trans e).mono λϊ z=>z.elim)|v tk bk=>
     cases tk with
     |int i=>
      intro g m y C G g2
      have hy:y=.int i:=by
       cases bk with
       |true=>let(_,A,_,r):=g2;exact r.int_inv
       |false=>exact(g2).int_inv
      subst hy;have b :=(J.trans G).mono λϊ z=>.inl z
      have S2:=V.ext G;cases t with
      |nd o k l=>
       simp only at q;cases f:AM l i with
       |none=>erw[f]at q<;>symm|some D=>
        erw[f]at q
        have node:∃w,(n=true->∀a,w a->tot R a)/\(n=false->∀a,w a->B a)/\Rp K g m (.nd o k l) x w:=by
         cases n with
         |true=>let(_,A,I,r):=g1;exact{A,λϊ=>I,(λz=>by cases z),r.ext G}
         |false=>exact{B,(λz=>by cases z),λϊ ϊ z=>z,(g1).ext G}
        let(w,L,M,rn):=node;let(p,xs,rfl,s,hl,u):=Rp.seq S2.fh rn;let(j,d,h1,h2,W):=zlt hl f;let(U,I,T):=u j D d h1 h2
        have Z :=by
         cases n with
         |false=>exact q g m d U (b.mono λa z=>M rfl a<|I a z) T|true=>
          cases N:D.sh with
          |true=>rw[N]at q;exact q g m d R0 (b.mono λϊ z=>z.elim) (T.move N<|.refl _)|false=>rw[N]at q;exact q g m d R0 (b.mono λϊ z=>z.elim) {rfl,U,λa z=>L rfl a<|I a z,T}
        rcases s with s|s;exact .inl {(p),xs,i,d,rfl,rfl,s,W,Z};exact .inr<|.inl {(p),xs,i,d,rfl,rfl,s,W,Z}
      |str z=>
       by_cases P:z.length<=Bj;erw[P,Å]at q;cases f:AM z.cps.toList i with
       |none=>erw[f]at q<;>symm|some D=>
        erw[f]at q
        have hx:x=.str z:=by
         cases n with
         |true=>let(_,A,_,r):=g1;exact r.str_inv
         |false=>exact(g1).str_inv
        subst hx;exact .inr<|.inr {z,i,D,rfl,rfl,by rw[<- GB];exact P,f,q g m _ R0 (b.mono λϊ z=>z.elim)<|.str _}
       erw[P,Ã]at q<;>symm
      |_=>symm
     |_=>symm
theorem r_ix(c:PE X a<|tM X.K E ca ma)(d:PE X b<|tM X.K E ca mb)(e:Kk b):PE X (.Subscript a b pos)<|tM X.K E ca<|AG ma mb:=PE.weak (QF zpa c d e) λO H Q h=>tM_ix h
def B0{α:Type}(l:List α)(a b:kA):List α:=(l.drop<|HT.sIx l.length 0 a).take (HT.sIx l.length l.length b - HT.sIx l.length 0 a)
def FR(m:Option<|AJ):AN->Option (kA):=λY=>match m with
 |none=>↑none|some m=>match m Y with
  |some (.v (.int i) ϊ)=>↑↑i|ϊ=>none
def Ed(ma:AJ)(d c:Option<|AJ):AJ:=λY=>match ma Y with
 |some (.v t false)=>(match FR d Y with
  |some b=>(match FR c Y with
   |some a=>(match t with
    |.nd ϊ .lst l=>↑(.v (.own<|B0 (BP l) b a) false)|.nd ϊ .rl l=>↑(.v (.own<|B0 (BP l) b a) false)|ϊ=>none)
   |none=>none)
  |none=>none)
 |some (.v ϊ true)=>none|r=>r
def HA(K:k6)(m:Option<|AJ):TO:=λO H Q=>∃F Y R o,StR K F H O Y R/\FR m Y=↑o/\∀b a,Ext F H b a R0->Q o a
theorem r_po0:PO X none<|HA X.K none:=λa s O H Q I h=>by
 let(F,Y,R,o,S,e,q):=h;cases e;exact zjr a s O H Q I<|q F H<|Ext.refl S.fh
theorem r_po1(j:PE X e<|tM X.K E ca m):PO X ↑e<|HA X.K ↑m:=λn s O H Q I h=>by
 let(F,Y,R,o,S,a,q):=h;refine zjq j n s O H Q I {F,Y,R,S,?_};unfold FR at a;simp only at a;cases k:m Y with
 |none=>grind|some r=>
  rw[k]at a;cases r with
  |x c=>cases a|v v b=>
   cases v with
   |int i=>
    cases a;intro d f x B e g
    have l:x=.int i:=by
     cases b with
     |true=>let(_,A,_,r):=g;exact r.int_inv
     |false=>exact(g).int_inv
    exact{i,l,q d f<|e.mono λϊ z=>z.elim}
   |_=>cases a
set_option tactic.hygienic true in
def zhy(r:Ae K F l xs)(lo hi):Ae K F (B0 l lo hi)<|KP xs lo hi:=by
 have d:=r.1;unfold B0 KP;rw[d];refine{by simp[d],λi t x a b=>?_};rw[List.getElem?_take]at a b;split at a;rename_i c;rw[if_pos c,ŋ]at b;rw[ŋ]at a;exact r.2 _ t x a b;cases a
def VR{lo hi}(ha:PE X a<|tM X.K E ca ma)(hl:PO X lo<|HA X.K ml)(hh:PO X hi<|HA X.K mh):PE X (.Subscript a (.Slice lo hi none p2) pos)<|tM X.K E ca<|Ed ma ml mh:=by
 refine PE.weak (Vd ziw ha hl hh) λO H Q h=>?_;let(F,Y,R,S,q):=h;refine{F,Y,R,S,?_};unfold Ed at q;cases M:ma Y with
 |none=>erw[M]at q<;>symm|some r=>
  erw[M]at q;cases r with
  |x c=>exact q|v t V=>
   cases V with
   |true=>symm|false=>
    intro F1 H1 x B W g1;let(n,i,_,r1):=EL.frz S W g1;have K:=S.ext i;simp only at q;cases G:FR ml Y with
    |none=>erw[G]at q<;>symm|some d=>
     erw[G]at q;refine{n,Y,R,d,K,G,λU H2 A=>?_};have L:=K.ext A;cases I:FR mh Y with
     |none=>erw[I]at q<;>symm|some b=>
      erw[I]at q;refine{U,Y,R,b,L,I,λs u D=>?_};have w:=L.ext D;have y:=i.trans0<|A.trans0 D;have P:Rp X.K s s t.share x R0:=(r1).frame (A.ff.trans D.ff) λϊ z=>z.elim
      have j:∀{o } {k } {l },t=.nd o k l->(k=.lst\/k=.rl)->(∀m f x B,Ext F H m f B->Rp X.K m f (.own<|B0 (BP l) d b) x B->Q x f)->V4 X.K x d b u Q:=by
       intro o k l Z hk qq;subst Z;rw[T.share]at P;let(p,xs,rfl,_,N,k3):=Dp P
       have sq:Ab X.K u p xs:=by
        rcases hk with rfl|rfl;exact Ab.of<|w.fh _ _ N
        exact w.fh.seq N.l
       refine{p,xs,rfl,sq,λp' J=>?_};have gg:Cq X.K s u (.own<|B0 (BP l) d b) Q:=λm f z C e g=>qq m f z C (y.trans0 e) g;exact gg.list w.fh (zhy k3 d b) J
      cases t with
      |nd o k l=>
       cases k with
       |lst=>exact j rfl (.inl rfl) q|rl=>exact j rfl (.inr rfl) q|tup=>symm|rt=>symm|pin ϊ=>symm
      |_=>symm
def pMo(K:k6)(E:L2.St->XK)(ca:Str->Value)(O:L2.St)(Q:kK->Hp->Prop)(F H:Hp):Option RsL->Prop
 |some (.v e ϊ)=>∀b a xs (d:Nat->Rg),Ext F H b a (tot d)->RpO K b a e xs d->Q xs a|some (.x c)=>∀b a,Ext F H b a R0->XE (E O) ca c b a|none=>False
def J0(K:k6)(E:L2.St->XK)(ca:Str->Value)(m:Ar):TA:=λO H Q=>∃F Y R,StR K F H O Y R/\pMo K E ca O Q F H (m Y)
def Ah(m:AJ)(ms:Ar):Ar:=λY=>match m Y with
 |some (.v t false)=>(match ms Y with
  |some (.v a ϊ)=>↑(.v (t::a) false)|r=>r)
 |some (.v ϊ true)=>none|some (.x c)=>↑(.x c)|none=>none
theorem zn5:PA X []<|J0 X.K E ca AE:=PA.weak Fe λO H Q h=>by
 let(F,Y,R,S,q):=h;exact q F H [] (λϊ=>R0) ((Ext.refl S.fh).mono λa ⟨i,z⟩=>z.elim) .nil
def zjf(y:PE X e<|tM X.K E ca m)(A:PA X es<|J0 X.K E ca ms)(d:starEach (e::es) X.env=(false,eval e X.env)::starEach es X.env):PA X (e::es)<|J0 X.K E ca<|Ah m ms:=by
 refine PA.weak (Es y A d) λO H Q h=>?_;let(F,Y,R,S,q):=h;refine{F,Y,R,S,?_};unfold Ah at q;cases k:m Y with
 |none=>erw[k]at q<;>symm|some r=>
  erw[k]at q;cases r with
  |x c=>exact q|v t w=>
   cases w with
   |true=>symm|false=>
    intro n D x B f g1;have u:=S.ext f;refine{n,Y,R,u,?_};cases d:ms Y with
    |none=>erw[d]at q<;>symm|some r=>
     erw[d]at q;cases r with
     |x c=>exact λl p e=>q l p ((f.trans e).mono λϊ z=>z.elim)|v J I=>
      intro o s xs G g C;have b :=g1;refine q o s (x::xs) _ ((f.trans g).mono ?_)<|C.cons (b.ext g) λi a z=>?_
      rintro a ⟨j,z⟩;cases j with
      |zero=>exact .inl z|succ j=>exact .inr {(j),z}
      exact b.apart g {(i),z}
def BG(ms:Ar):AJ:=λY=>match ms Y with
 |some (.v a ϊ)=>if a.length<=Bj then ↑(.v (.own a) false) else none
 |some (.x c)=>↑(.x c)|none=>none
def r_lst(h:PA X es<|J0 X.K E ca ms):PE X (.List es pos)<|tM X.K E ca<|BG ms:=by
 refine PE.weak (zny h) λO H Q h=>?_;let(F,Y,R,S,q):=h;refine{F,Y,R,S,?_};unfold BG at q;cases f:ms Y with
 |none=>erw[f]at q<;>symm|some r=>
  erw[f]at q;cases r with
  |x c=>exact q|v m b=>
   intro j n xs o e g;by_cases d:m.length<=Bj;erw[d]at q;refine{by rw[<- g.len];exact d,λp l=>?_};let(r,k):=g.list e.fh l;refine q j _ _ _ ((e.trans k).mono ?_) r;rintro a (z|⟨i,z⟩);exact .inr z;exact .inl {(i),z};erw[d]at q<;>symm
def BM(ms:Ar):AJ:=λY=>match ms Y with
 |some (.v a false)=>if a.length<=Bj then ↑(.v (.tup a) false) else none
 |some (.v ϊ true)=>none|some (.x c)=>↑(.x c)|none=>none
def r_tup(h:PA X es<|CA X.K E ca ms):PE X (.Tuple es k pos)<|tM X.K E ca<|BM ms:=by
 refine PE.weak (znt h) λO H Q h=>?_;let(F,Y,R,S,q):=h;refine{F,Y,R,S,?_};unfold BM at q;cases f:ms Y with
 |none=>erw[f]at q<;>symm|some r=>
  erw[f]at q;cases r with
  |x c=>exact q|v i b=>
   cases b with
   |true=>symm|false=>
    intro l n xs d rs;by_cases a:i.length<=Bj;erw[a]at q;refine{by rw[<- rs.1];exact a,λp s=>?_};have o:Cq X.K l n (.tup i) Q:=λj m z C e g=>q j m z C (d.trans0 e) g;exact o.tuple d.fh rs s;erw[a]at q<;>symm
theorem znc{id}(d:Be X (.builtin id)<|DK X.K g)(i:Gl X x)(j:X.mg x=none)(l:bootBuiltins x=↑(.builtin id))(c:PA X (e::es)<|CA X.K E ca ms)(k:x≠"__name__")(a:(x == "__debug__")=false)
  (f:starEach (e::es) X.env=(false,eval e X.env)::starEach es X.env) (b:(backTo pos<|starEach es X.env).any (·.1)=false):PE X (.Call (.Name x p) (e::es) [] pos)<|tM X.K E ca<|BZ g ms:=
 PE.weak (Lm d i j l c k a f b) λO H Q h=>HE h
theorem VZ(d:Be X (.type T')<|DK X.K g)(i:Gl X x)(j:X.mg x=none)(l:bootBuiltins x=↑(.type T'))(c:PA X (e::es)<|CA X.K E ca ms)(k:x≠"__name__")(a:(x == "__debug__")=false)
  (f:starEach (e::es) X.env=(false,eval e X.env)::starEach es X.env) (b:(backTo pos<|starEach es X.env).any (·.1)=false):PE X (.Call (.Name x p) (e::es) [] pos)<|tM X.K E ca<|BZ g ms:=
 PE.weak (Vg d i j l c k a f b) λO H Q h=>HE h
end
def Ap:T->kH
 |.nd ϊ ϋ l=>↑(.int l.length)|.str z=>if z.length<=Bj then ↑(.int z.length) else none
 |ϊ=>none
def C9:T->kH
 |.nd ϊ ϋ l=>↑(.own l)|ϊ=>none
def Mt:T->kH
 |.int i=>↑(.int (if i<0 then -i else i))
 |ϊ=>none
def Ji:T->T->kH
 |.int i,.int j=>↑(.int (if j<i then j else i))
 |ϊ,ϋ=>none
def Ly:T->T->kH
 |.int i,.int j=>↑(.int (if j > i then j else i))
 |ϊ,ϋ=>none
def HW:kL->Option (kF)
 |[]=>↑[]|.int i::r=>(HW r).map (i::·)|ϊ=>none
def Lz(ns:kF):Int:=ns.getD (argBest (λi j=>decide (ns.getD i 0 > ns.getD j 0))<|ns.length - 1) 0
def H9:kL->kH
 |[.nd ϊ .lst l]=>(match HW l with
  |some (i::r)=>↑(.int<|Lz<|i::r)|ϊ=>none)
 |[t,u]=>Ly t u|ϊ=>none
def KA:T->kH
 |.int i=>↑(.int i)|.bl k=>↑(.int (if k then 1 else 0))
 |.str x=>if x.length<=640 then (intText? x).map T.int else none
 |ϊ=>none
def GI:kL->Option (List Bool)
 |[]=>↑[]|.bl b::r=>(match GI r with
  |some l=>↑(b::l)|none=>none)
 |ϊ::ϋ=>none
def EI:T->kH
 |.nd ϊ .lst l=>(match GI l with
  |some bs=>↑(.bl<|bs.all id)|none=>none)
 |ϊ=>none
def K1:T->kH
 |.nd ϊ .lst l=>(match GI l with
  |some bs=>↑(.bl<|bs.any id)|none=>none)
 |ϊ=>none
def UB:Kd->Option String
 |.lst=>↑"list"|.tup=>↑"tuple"|.rl=>↑"list"|.rt=>none|.pin ϊ=>none
def LL:T->Option String
 |.non=>↑"NoneType"|.bl ϊ=>↑"bool"|.int ϊ=>↑"int"|.str ϊ=>↑"str"|.nd ϊ k ϋ=>UB k|.dic ϊ ϋ=>↑"dict"|.pdc ϊ ϋ=>↑"dict"|.odc ϊ ϋ=>none|.obj ϊ ϋ=>none|.oob ϊ ϋ ό ύ=>none|.osd ϊ ϋ=>none
def Hx:List String:=["int","bool","str","list","tuple"]
def LQ(a c:String):Bool:=a == c || (a == "bool" && c == "int")
def Cb(c:String)(t:T):kH:=match LL t with
 |some a=>if c∈Hx then ↑(.bl<|LQ a c) else none
 |none=>none
def zcp:W.kitMeta "str"=true:=by decide +kernel
def zbw:W.kitMeta "list"=true:=by decide +kernel
def YH(K)(d:a∈["NoneType","bool","int","str","list","tuple","dict"])(b:c∈Hx):W.kitOne K (.type a) (.type c)=↑(LQ a c):=by
 have e:W.kitMeta c=true:=by
  erw[Hx,Î,ĉ,Ě]at b;rcases b with rfl|rfl|rfl|rfl|rfl;exact zcq;exact zbx;exact zcp;exact zbw;exact zbf
 by_cases h:a=c;subst h;rw[zha];simp[LQ];refine zp2 K (l:=[]) h e ?_;erw[Hx,Î,ĉ,Ě]at b d;rcases d with rfl|rfl|rfl|rfl|rfl|rfl|rfl<;>rcases b with rfl|rfl|rfl|rfl|rfl<;>first|exact absurd rfl h|decide +kernel
section
variable {X:Cx}
set_option tactic.hygienic true in
def zfw:Be X (.builtin "len")<|DK X.K<|g1 Ap:=by
 intro d s O H xs f Q I r h;let(F,k,v,fh,rs,e,q):=h;unfold g1 at e;split at e
 let(l,j,rfl,r1,b):=rs.inv;cases b.inv0;unfold Ap at e;split at e;cases e;let(p,c,rfl,a,g,_):=Rp.seq fh<|r1.any;refine aC d s O H _ f Q I r {_,c.length,rfl,?_,by rw[<- g];exact q.int fh}
 rcases a with a|a;exact .inl {(c),a,rfl};exact .inr {(c),a,rfl};split at e;cases e;rename_i i;rw[r1.str_inv]at r;exact aC d s O H _ f Q I r {_,_,rfl,{by exact i,rfl},q.int fh};cases e;cases e;cases e
def zel{K}(s:A3 F H)(h:Fj K F k p xs):Ab K H p xs\/CD K H p xs:=by
 cases k with
 |lst=>exact .inl (Ab.of<|s _ _ h)|rl=>exact .inl (s.seq h.l)|tup=>exact .inr (CD.of<|s _ _ h)|rt=>exact .inr (GW s h)|pin q=>exact .inl<|Ab.of<|s _ _ h
def aG:Be X (.type "list")<|DK X.K<|g1 C9:=by
 intro g s O H xs i Q I r h;let(F,m,v,fh,rs,e,q):=h;unfold g1 at e;split at e
 let(n,j,rfl,r1,a):=rs.inv;cases a.inv0;unfold C9 at e;split at e;cases e;let(p,k,rfl,rfl,f,d):=Dp r1;have c :=zel fh f;exact zcl g s O H _ i Q I r {p,k,rfl,c,λl b=>q.list fh d b}
 cases e;cases e
def zg1:Be X (.builtin "abs")<|DK X.K<|g1 Mt:=by
 intro b s O H xs c Q I r h;let(F,f,v,fh,rs,e,q):=h;unfold g1 at e;split at e
 let(g,d,rfl,r1,a):=rs.inv;cases a.inv0;unfold Mt at e;split at e;cases e;rw[r1.int_inv]at r;exact zid b s O H _ c Q I r {_,rfl,q.int fh};cases e;cases e
def zfy:Be X (.type "int")<|DK X.K<|g1 KA:=by
 intro b s O H xs c Q I r h;let(F,i,v,fh,rs,e,q):=h;unfold g1 at e;split at e
 let(j,g,rfl,r1,a):=rs.inv;cases a.inv0;unfold KA at e;split at e;cases e;rw[r1.int_inv]at r;exact aE b s O H _ c Q I r<|.inl {_,rfl,q.int fh}
 cases e;rw[r1.bl_inv]at r;exact aE b s O H _ c Q I r<|.inr {_,rfl,q.int fh}
 split at e;let(n,d,rfl):=Ø.mp e;rw[r1.str_inv]at r;let(u,rfl,f):=r.one;let(t,rfl):=f;exact PySem.W.KIN.call_text d ‹_› {.int n,H,I.tok _,{_,rfl},q.int fh}
 cases e;cases e;cases e
def aF{c:Int->Int->Int}(d:Be X (.builtin f) (λxs H Q=>∃i j,xs=[.int i,.int j]/\Q (.int<|c i j) H))(k:∀t u v,g t u=↑v->∃i j,t=.int i/\u=.int j/\v=.int (c i j)):Be X (.builtin f)<|DK X.K<|g2 g:=by
 intro l s O H xs n Q I r h;let(F,w,v,fh,rs,e,q):=h;unfold g2 at e;split at e
 let(x,o,rfl,r1,a):=rs.inv;let(x2,p,rfl,m,b):=a.inv;cases b.inv0;let(i,j,rfl,rfl,rfl):=k _ _ _ e;rw[r1.int_inv,m.int_inv]at r;exact d l s O H _ n Q I r {_,_,rfl,q.int fh}
 cases e
theorem zfu(a:X.calm=true):Be X (.builtin "min")<|DK X.K<|g2 Ji:=aF (zfr a) λt u v h=>by
 unfold Ji at h;split at h;cases h;exact{_,_,rfl,rfl,rfl};cases h
theorem zfv(a:X.calm=true):Be X (.builtin "max")<|DK X.K<|g2 Ly:=aF (zfs a) λt u v h=>by
 unfold Ly at h;split at h;cases h;exact{_,_,rfl,rfl,rfl};cases h
def YY:∀{l} {ns} {ys} {its},HW l=↑ns->Ae X.K F l ys->A4 ys its->∃xs:List (Int×Tok),its=xs.map (λp=>.int p.1 p.2)/\xs.map (·.1)=ns
 |[],ns,ys,its,h,r,a=>by
  cases h;cases r.inv0;cases a;simp
 |t::l,ns,ys,its,h,r,a=>by
  cases t with
  |int i=>
   let(ms,b,rfl):=Ø.mp h;let(x,e,rfl,r1,c):=r.inv;rw[r1.int_inv]at a;cases a with
   |cons d a=>let(tk,rfl):=d;let(xs,rfl,rfl):=YY b c a;exact{(i,tk)::xs,rfl,rfl}
  |_=>cases h
set_option tactic.hygienic true in
def zie(c:X.calm=true):Be X (.builtin "max")<|DK X.K H9:=by
 intro z s O H xs C Q I r h;let(F,K,v,fh,rs,e,q):=h;unfold H9 at e;split at e
 split at e;rename_i l i m g;cases e;let(L,D,rfl,r1,b):=rs.inv;cases b.inv0;let(p,E,rfl,_,w,o):=Dp r1;let(u,rfl,A):=Ej r;cases A;let(n,B,y,J):=I.list (Ab.of (fh _ _ w):Ab X.K H p E);let(a,rfl,en):=YY g o B;have f:(a.map λp=>Value.int p.1 p.2).toArray=intItems a.toArray:=by simp[intItems]
 have d:a.length=(i::m).length:=by rw[<- en,À]
 have x:numAt a.toArray=λk=>(i::m).getD k 0:=funext λk=>by
  rw[<- en];simp[numAt]
 refine max_intList (I.ok.hd c) (f▸y.isList) (by rw[ó,d];simp) λv G tk j hk=>?_;let(t,rfl):=intItems_at j;rw[ó,d,x];exact{.int _,H,I.kept hk,{_,rfl},q.int fh};cases e;exact zfv c z s O H xs C Q I r {F,_,v,fh,rs,e,q};cases e
def aO:∀{l} {bs},GI l=↑bs->l.length=bs.length/\∀(i:Nat) (t),l[i]?=↑t->∃b,bs[i]?=↑b/\t=.bl b
 |[],bs,h=>by cases h;exact{rfl,λi t e=>by simp at e}|t::r,bs,h=>by
  unfold GI at h;cases t with
  |bl b=>
   simp only at h;cases a:GI r with
   |none=>erw[a]at h;cases h|some l=>
    erw[a]at h;cases h;let(c,d):=aO a;refine{by simp[c],λi t e=>?_}
    cases i with
    |zero=>simp at e;exact{(b),rfl,e.symm}|succ i=>exact d i t<|by simpa using e
  |_=>cases h
def VP{bs:List Bool}(h:∀(i:Nat) (b:Bool),bs[i]?=↑b->tr i=b):(List.range bs.length).all tr=bs.all id/\(List.range bs.length).any tr=bs.any id:=by
 have e:(List.range bs.length).map tr=bs:=by
  apply List.ext_getElem?;intro i;rw[È];by_cases a:i<bs.length;rw[ū a,Á a];erw[č];rw[h i _<|Á a];rw[ā (by simp;lia),ā<|by lia];rfl
 constructor;have:(List.range bs.length).all tr=((List.range bs.length).map tr).all id:=by rw[List.all_map];rfl
 rw[this,e];have:(List.range bs.length).any tr=((List.range bs.length).map tr).any id:=by rw[List.any_map];rfl
 rw[this,e]
def Tp(M:X.calm=true)   {O:L2.St}{H:Hp}{F:Hp}       (I:Inv X pz O H s)(fh:A3 F H)(r1:Rp X.K F F (.nd o .lst l) (.ref p) R0)(L:GI l=↑bs)
  (K : ∀ (I0 : Addr) (wr fp ) (St ) (PP ) (tr ) (s2 : Shared), Walks X.prog X.w X.A.in1 I0 fp wr bs.length PP St -> St 0 s2.heap -> TruthOf X.prog X.w X.A.in1 PP tr -> (∀ (i : Nat) (b : Bool), bs[i]? = ↑b -> tr i = b) ->
   (∀h' tk,(∀b o,b∉wr->s2.heap.get? b=↑o->h'.get? b=↑o)->Inv X pz O H { s2 with heap:=h',toks:=tk })->P (.ref I0) s2):wpAny (model X.prog X.w) X.A.in1 (pyIter<|.ref p) P E' s:=by
 let(Y,T,J,rfl,S,y):=Dp r1;cases J;let(f,c):=aO L;let(a,E,A,V):=I.list<|Ab.of<|fh _ _ S;have N:=E.length
 have t :=Ó (by
  let(o,n,e,_):=A;exact Æ e)
 have hh:X.A.in1.handled=none:=I.ok.hd M
 have val:∀(i:Nat) (v ),a[i]?=↑v->∃b,bs[i]?=↑b/\v=.bool b:=λi v g=>by
  have r:i<T.length:=by
   have:=(Ð.mp g).1;lia
  have d:i<l.length:=by rw[y.1];exact r
  let(b,h,j):=c i _<|Á d;have C:=y.2 i _ _ (Á d)<|Á r;rw[j]at C;let(u,B,D):=E.get<|Á r;rw[g]at B;cases B;rw[C.bl_inv]at D;exact{(b),h,D}
 have q:a.toArray.size=bs.length:=by rw[ó,<- N,<- y.1,f]
 refine Ĭ A.isList ?_;have W:=Walks.list (prog:=X.prog) (w:=X.w) hh s.heap.objs.size p t a.toArray;rw[q]at W;refine K s.heap.objs.size _ _ _ _ (λi=>bs.getD i false) _ W {{_,ä _ rfl,rfl,rfl},?_} ?_ ?_ ?_
 let(o,Q,R):=A.isList;exact{o,Ñ _ Q,R};intro i v Z U G g x;let(b,h,j):=val i v<|by simpa using g
 subst j;refine Ą ?_;have e:bs.getD i false=b:=by rw[Ö,h];rfl
 rw[<- e];exact x;intro i b m;show bs.getD i false=b;rw[Ö,m]
 rfl;intro h' tk k
 exact I.kept λb o e=>k b o (λz=>by
  rw[Ô]at z;exact absurd (Æ e) (by rw[z];exact æ _))<|Ñ _ e
set_option tactic.hygienic true in
def zg0(m:X.calm=true):Be X (.builtin "all")<|DK X.K<|g1 EI:=by
 intro w s O H xs z Q I r h;let(F,y,v,fh,rs,e,q):=h;unfold g1 at e;split at e
 let(A,t,rfl,r1,c):=rs.inv;cases c.inv0;unfold EI at e;split at e;split at e;cases e;rename_i bs a;let(p,rfl):=r1.ref_inv;let(u,rfl,n):=Ej r;cases n;refine call_all_walk<|Tp m I fh r1 a λg o j St i tr x W d f b BD=>{g,j,o,bs.length,i,St,tr,rfl,W,d,f,λl tk k=>?_}
 rw[(VP b).1];exact{.bl _,H,BD l tk k,rfl,q.bl fh};cases e;cases e;cases e
set_option tactic.hygienic true in
def zfz(m:X.calm=true):Be X (.builtin "any")<|DK X.K<|g1 K1:=by
 intro w s O H xs z Q I r h;let(F,y,v,fh,rs,e,q):=h;unfold g1 at e;split at e
 let(A,t,rfl,r1,c):=rs.inv;cases c.inv0;unfold K1 at e;split at e;split at e;cases e;rename_i bs a;let(p,rfl):=r1.ref_inv;let(u,rfl,n):=Ej r;cases n;refine call_any_walk<|Tp m I fh r1 a λg o j St i tr x W d f b BD=>{g,j,o,bs.length,i,St,tr,rfl,W,d,f,λl tk k=>?_}
 rw[(VP b).2];exact{.bl _,H,BD l tk k,rfl,q.bl fh};cases e;cases e;cases e
def TC(K:k6)(H:Hp)(x:V)(a:String):Prop:=(a="dict"/\∃p ob b,x=.ref p/\H p=↑(.frz ob<|.dK b))\/(a="list"/\∃p xs,x=.ref p/\Ab K H p xs)
def YT{O:L2.St}(I:Inv X pz O H s)(d:A6 x u)(ty:TC X.K H x a)(e:W.kitOne X.K (.type a) c=↑b)(h:∀tk,Q (.bool b) { s with toks:=tk }) :
  wpAny (model X.prog X.w) A (call (.builtin "isinstance") [u,c]) Q E s:=by
 rcases ty with ⟨rfl,p,ob,t,rfl,i⟩|⟨rfl,p,xs,rfl,l⟩;cases d;let(_,_,_,C,_,q):=(I.hok p _ i);let(o,B,y,j,k,_):=q;exact ï ų I.kIn {(o),j,k.1} e (λz=>nomatch z) h
 cases d;let(m,r,(o,n,f,g,v,w),_):=I.list l;exact ï Ų I.kIn {(o),f,g} e (λz=>nomatch z) h
def UA(fh:A3 F H)(r:Rp X.K F F t x R0)(h:LL t=↑a):(TyOf X.K H x (.type a)\/TC X.K H x a)/\a∈["NoneType","bool","int","str","list","tuple","dict"]:=by
 cases t with
 |non=>cases h;rw[r.non_inv];exact{.inl .non,by simp}|bl b=>cases h;rw[r.bl_inv];exact{.inl<|.bl b,by simp}|int i=>cases h;rw[r.int_inv];exact{.inl<|.int i,by simp}|str y=>cases h;rw[r.str_inv];exact{.inl<|.str y,by simp}|nd o k l=>
  let(p,xs,rfl,_,n,_):=Dp r;cases k with
  |lst=>cases h;exact{.inl<|.lst<|fh _ _ n,by simp}|tup=>cases h;exact{.inl<|.tup<|fh _ _ n,by simp}|rl=>cases h;exact{.inr<|.inr {rfl,p,xs,rfl,fh.seq<|GJ.l n},by simp}|rt=>cases h|pin ϊ=>cases h
 |dic d l=>
  cases h;cases r with
  |dic h e f c=>exact{.inr<|.inl {rfl,_,_,_,rfl,fh _ _ h},by simp}
 |pdc d l=>
  cases h;cases r with
  |pdc h e f c=>exact{.inl<|.dK<|fh _ _ h,by simp}
 |odc d l=>cases h|obj k l=>cases h|oob p C fs l=>cases h|osd d l=>cases h
set_option tactic.hygienic true in
def zfx:Be X (.builtin "isinstance") (λxs H Q=>∃x,xs=[x,.ty c]/\DK X.K (g1<|Cb c) [x] H Q):=by
 intro j s O H xs n Q I r h;let(x,rfl,F,p,v,fh,rs,e,q):=h;unfold g1 at e;split at e
 let(w,o,f,r1,k):=rs.inv;cases f;unfold Cb at e;split at e;rename_i a g;split at e;cases e;rename_i b;let(ty,d):=UA fh r1 g
 rcases ty with ty|i;exact zia j s O H _ n Q I r {x,_,_,rfl,ty,YH X.K d b,q.bl fh};let(u,t,rfl,l,m):=Gw r;cases m;exact YT I l i (YH X.K d b) λtk=>{.bl _,H,I.tok _,rfl,q.bl fh};cases e;cases e;cases e
def T.isN:T->Bool
 |.non=>true|ϊ=>false
def T.isB(b:Bool):T->Bool
 |.bl c=>c == b|ϊ=>false
def Bk(a:Bool)(t u:T):kH:=match u with
 |.non=>↑(.bl<|a ^^ t.isN)|.bl b=>↑(.bl<|a ^^ t.isB b)|ϊ=>none
def Zq{K}(r:Rp K F H t x A):decide (x=V.non)=t.isN:=by
 cases r<;>simp[T.isN]
def Zr{K}(r:Rp K F H t x A):decide (x=V.bl b)=t.isB b:=by
 cases r<;>simp[T.isB];rfl
def zod:Ac X (compareOp .Is)<|Bg X.K<|Bk false:=by
 intro b s O H x y v u Q I d a h;let(F,f,g,r,fh,r1,c,e,q):=h;unfold Bk at e;split at e
 cases e;rw[c.non_inv]at a;refine zo7 b s O H _ _ v u Q I d a {rfl,?_};rw[Zq r1];have:=q.bl fh
 simp_all;cases e;rw[c.bl_inv]at a;refine zo8 b s O H _ _ v u Q I d a {_,rfl,?_};rw[Zr r1];have:=q.bl fh
 simp_all;cases e
def zei:Ac X (compareOp .IsNot)<|Bg X.K<|Bk true:=by
 intro b s O H x y v u Q I d a h;let(F,f,g,r,fh,r1,c,e,q):=h;unfold Bk at e;split at e
 cases e;rw[c.non_inv]at a;refine zk1 b s O H _ _ v u Q I d a {rfl,?_};rw[Zq r1];have:=q.bl fh
 simp_all;cases e;rw[c.bl_inv]at a;refine zk2 b s O H _ _ v u Q I d a {_,rfl,?_};rw[Zr r1];have:=q.bl fh
 simp_all;cases e
end
section
variable {X:Cx}{E:L2.St->XK}{ca:Str->Value}{O:L2.St}{H:Hp}{m ma mb mc:AJ}{ms:Ar}{K:k6}{a b c e:Expr}{es:kC}{pos p p2:Pos}
def r_isT{c}(l:bootBuiltins cn=↑(.type c))(i:Gl X "isinstance")(j:X.mg "isinstance"=none)(a:Gl X cn)(b:X.mg cn=none)(k:cn≠"__name__")(hd:(cn == "__debug__")=false)(g:PE X e<|tM X.K E ca m)(d:starEach [e,.Name cn p2] X.env=(false,eval e X.env)::starEach [.Name cn p2] X.env) :
  PE X (.Call (.Name "isinstance" p) [e,.Name cn p2] [] pos) (tM X.K E ca<|BZ (g1<|Cb c)<|AB m AE):=by
 refine PE.weak (Lm (zfx (c:=c)) i j PyProof.Rows.boot_isinstance (Es g (Es (Υ (v:=.ty c) a b l rfl k hd) Fe) d) (by decide) (by decide) d rfl) λO H Q h=>?_;exact(HD<|HE h).mono λx n f=>{x,rfl,HB f}
set_option genInjectivity true in
inductive Ru where
 |ok (t:T)|exc (c:Str)
def Br(K:k6)(ca:Str->Value)(g:kL->Option Ru):Sp:=λe H Q E=>∃F d,A3 F H/\Ae K F d e/\match g d with
 |some (.ok v)=>Cq K F H v Q|some (.exc c)=>∀a b,Ext F H a b R0->XE E ca c a b|none=>False
def KJ:Bool->Str->Option Rs
 |false,c=>↑(.x c)|true,c=>(match Fw c with
  |none=>↑(.x c)|some ϊ=>none)
def AS(g:kL->Option Ru)(ms:Ar):AJ:=λY=>match ms Y with
 |some (.v a b)=>(match g a with
  |some (.ok v)=>BD b v|some (.exc c)=>KJ b c|none=>none)
 |some (.x c)=>↑(.x c)|none=>none
def zlp(h:tM K E ca (AS g ms) O H Q):UX (Br K ca g) [] E (CA K E ca ms) O H Q:=by
 let(F,Y,R,S,q):=h;refine{F,Y,R,S,?_};unfold AS at q;cases o:ms Y with
 |none=>erw[o]at q<;>symm|some r=>
  erw[o]at q;cases r with
  |x c=>exact q|v s b=>
   intro e u xs d rs;have w:=S.ext d;rw[ċ];refine{Gz b e u R,s,R9 w,rs,?_};cases m:g s with
   |none=>erw[m]at q<;>symm|some r=>
    erw[m]at q;cases r with
    |exc c=>
     cases b with
     |false=>exact λk f a=>q k f (d.trans0 a)|true=>
      erw[KJ]at q;cases j:Fw c with
      |none=>rw[j]at q;exact λk f a=>(q e f<|d.grow a.hh).any j|some n=>rw[j]at q;symm
    |ok v=>
     intro t l z C a p;simp only at q;unfold BD at q;cases b with
     |false=>exact q t l z C (d.trans0 a) p|true=>
      cases i:v.flat with
      |false=>rw[i]at q;cases q|true=>rw[i]at q;exact q e l z R0 (d.grow a.hh)<|p.flat_any i
theorem znb(D:DefX X.prog X.w X.K X.mg X.base k x ps<|Br X.K ca g)(i:Room j X.A)(l:DH X E)(c:PA X (e::es)<|CA X.K E ca ms)(hk:k<=j)(f:Gl X x)(a:(x == "__debug__")=false)
  (d:starEach (e::es) X.env=(false,eval e X.env)::starEach es X.env) (b:(backTo pos<|starEach es X.env).any (·.1)=false):PE X (.Call (.Name x p) (e::es) [] pos)<|tM X.K E ca<|AS g ms:=PE.weak (px D i l c hk f a d b) λϊ ϊ ϊ h=>zlp h
end
def Ae.app{K}{F}:∀{ts us} {xs ys},Ae K F ts xs->Ae K F us ys->Ae K F (ts++us) (xs++ys)
 |[],us,xs,ys,h,r=>by
  rw[h.inv0];exact r
 |t::ts,us,xs,ys,h,r=>by
  let(x,c,rfl,a,b):=h.inv;exact .cons a<|Ae.app b r
section
variable {X:Cx}{E:L2.St->XK}{ca:Str->Value}{ms:Ar}{e:Expr}{es:kC}{p pos:Pos}
end
def GO(K:k6)(Γ:It)(F:Hp)(ts:kL):Prop:=∀(i:Nat) (d c:Hp),A3 F d->A3 d c ->
 (∀t,ts[i]?=↑t->Γ.go i c/\∀x a,Γ.yld i c x a->∃b,Ext d c b a R0/\Rp K b a t x R0)/\(i=ts.length->Γ.stop i c)
def pI(K:k6)(E:L2.St->XK)(ca:Str->Value)(O:L2.St)(P:It->Hp->Prop)(F H:Hp):Option RsL->Prop
 |some (.v d ϊ)=>∀a b Γ,Ext F H a b R0->GO K Γ a d->P Γ b|some (.x c)=>∀a b,Ext F H a b R0->XE (E O) ca c a b|none=>False
def tI(K:k6)(E:L2.St->XK)(ca:Str->Value)(m:Ar):TI:=λO H P=>∃F Y R,StR K F H O Y R/\pI K E ca O P F H (m Y)
def Ik:T->Bool
 |.nd ϊ .lst ϋ=>true|.nd ϊ .rl ϋ=>true|.nd ϊ (.pin ϋ) ό=>true|ϊ=>false
def Io(m:AJ):Ar:=λY=>match m Y with
 |some (.v (.nd ϊ k l) false)=>↑(.v (BP l) false)|some (.x c)=>↑(.x c)|ϊ=>none
def BW(a:Int)(n:Nat):kL:=(List.range n).map λ(i:Nat)=>.int<|a+(i:Int)
def Bh(j:Int):Bool:=@decide (-(2 ^ 62)<=j/\j<2 ^ 62) (Classical.propDecidable _)
def Mr:kL->kA
 |[.int j]=>↑j|ϊ=>none
def Mq:kL->Option (Int×Int)
 |[.int i,.int j]=>↑(i,j)|ϊ=>none
def Bc(ms:Ar):Ar:=λY=>match ms Y with
 |some (.v a ϊ)=>(match Mr a with
  |some j=>if Bh j then ↑(.v (BW 0 j.toNat) false) else none
  |none=>none)
 |r=>r
def HZ(ms:Ar):Ar:=λY=>match ms Y with
 |some (.v a ϊ)=>(match Mq a with
  |some (i,j)=>if Bh i && Bh j then ↑(.v (BW i (j - i).toNat) false) else none
  |none=>none)
 |r=>r
def E4:Nat->kL->kL
 |ϊ,[]=>[]|i,t::r=>.tup [.int (i:Int),t]::E4 (i+1) r
def Hk:kL->Option (kL)
 |[.nd o k l]=>if Ik (.nd o k l) then ↑l else none
 |ϊ=>none
def Mp:kL->Option (kL×kL)
 |[.nd o k l,.nd b a m]=>if Ik (.nd o k l) && Ik (.nd b a m) then ↑(l,m) else none
 |ϊ=>none
def E1(ms:Ar):Ar:=λY=>match ms Y with
 |some (.v a false)=>(match Hk a with
  |some l=>↑(.v (E4 0 l) false)|none=>none)
 |some (.v ϊ true)=>none|r=>r
def Gv(l m:kL):kL:=List.zipWith (λa b=>T.tup [a,b]) l m
def HY(ms:Ar):Ar:=λY=>match ms Y with
 |some (.v a false)=>(match Mp a with
  |some (l,m)=>↑(.v (Gv l m) false)|none=>none)
 |some (.v ϊ true)=>none|r=>r
def Zd:∀(l) (n i),(E4 n l)[i]?=(l[i]?).map λt=>T.tup [.int (n+i:Nat),t]
 |[],n,i=>by rfl|t::r,n,i=>by
  cases i with
  |zero=>rfl|succ i=>
   erw[E4,Ŀ];rw[Zd r (n+1) i];grind
def zcb(l):∀n,(E4 n l).length=l.length:=by
 induction l with
 |nil=>intro n;rfl|cons t r a=>simp[E4,a]
section
variable {X:Cx}{E:L2.St->XK}{ca:Str->Value}{O:L2.St}{H:Hp}{m ma mb mc:AJ}{ms:Ar}{K:k6}{a b c e tg:Expr}{es elts:kC}{pos p tpos:Pos}{kk:Nat}
def RW{p}(n:∀F' H' ,A3 F F'->A3 F' H'->Ab K H' p xs)(r:Ae K F l xs):GO K (T4 K p) F l:=by
 intro i F' H' s1 b;have sq:=n F' H' s1 b;refine{λt a=>?_,λe=>{xs,sq,by rw[e,r.1];simp}}
 have d:i<xs.length:=by
  have:=(Ð.mp a).1;have:=r.1
  lia
 refine{{xs,xs[i],sq,Á d},λx c y=>?_};let(rfl,y):=y;have f:=y xs sq;exact{F',Ext.refl b,((r.same s1).2 i t x a f).any}
def YO{p}(n:∀F' H' ,A3 F F'->A3 F' H'->CD K H' p xs)(r:Ae K F l xs):GO K (T3 K p) F l:=by
 intro i F' H' s1 b;have sq:=n F' H' s1 b;refine{λt a=>?_,λe=>{xs,sq,by rw[e,r.1];simp}}
 have d:i<xs.length:=by
  have:=(Ð.mp a).1;have:=r.1
  lia
 refine{{xs,xs[i],sq,Á d},λx c y=>?_};let(rfl,y):=y;have f:=y xs sq;exact{F',Ext.refl b,((r.same s1).2 i t x a f).any}
def YQ{lo}:GO K (Ko lo n) F<|BW lo n:=by
 intro i d l s1 k;refine{λt b=>?_,λe=>?_};unfold BW at b;rw[È]at b;let(j,a,g):=Ø.mp b
 have c:i<n:=by
  have:=(Ð.mp a).1;simpa using this
 have h:i=j:=by rw[ū c]at a;exact Ü a
 subst h;subst g;refine{c,λx f y=>?_};let(rfl,rfl):=y;exact{d,Ext.refl k,.int _};have:n<=i:=by rw[e];simp[BW]
 exact this
def YR{p}(n:∀F' H' ,A3 F F'->A3 F' H'->Ab K H' p xs)(r:Ae K F l xs):GO K (NZ K k p) F<|E4 k l:=by
 intro i F' H' s1 c;have sq:=n F' H' s1 c;refine{λt b=>?_,λe=>{xs,sq,by rw[e,zcb,r.1];simp}}
 rw[Zd]at b;let(m,a,rfl):=Ø.mp b
 have g:i<xs.length:=by
  have:=(Ð.mp a).1;have:=r.1
  lia
 refine{{xs,xs[i],sq,Á g},λx f y=>?_};let(q,d,rfl,h,rfl,y):=y;have j:=y xs sq;have e:=Ext.new (o:=.tup [.int<|k+i,d]) c h;refine{_,e,Ae.of_node Ce ?_};exact .cons (H:=H') (.int _)<|.cons (H:=H') (((r.same<|s1.trans e.ff).2 i m d a j).any) .nil
def zl2{p p2}(n:∀F' H' ,A3 F F'->A3 F' H'->Ab K H' p xs)(A:∀F' H' ,A3 F F'->A3 F' H'->Ab K H' p2 ys)(r:Ae K F l xs)(h:Ae K F l2 ys):GO K (TZ K p p2) F<|Gv l l2:=by
 intro i F' H' s1 g;have sq:=n F' H' s1 g;have b:=A F' H' s1 g;have l1:=r.1;have w:=h.1;refine{λt a=>?_,λe=>{xs,ys,sq,b,?_}}
 unfold Gv at a;rw[List.getElem?_zipWith]at a;cases c:l[i]? with
 |none=>rw[c]at a;cases a|some B=>
  cases d:l2[i]? with
  |none=>rw[c,d]at a;cases a|some C=>
   rw[c,d]at a;cases a;have m:i<xs.length:=by have:=(Ð.mp c).1;lia
   have f:i<ys.length:=by grind
   refine{{xs,xs[i],ys,ys[i],sq,Á m,b,Á f},λx k y=>?_};let(q,j,z0,rfl,s,rfl,y,z):=y;have u:=y xs sq;have v:=z ys b;have e:=Ext.new (o:=.tup [j,z0]) g s;refine{_,e,Ae.of_node Ce ?_};exact .cons (H:=H') (((r.same<|s1.trans e.ff).2 i B j c u).any)<|.cons (H:=H') (((h.same<|s1.trans e.ff).2 i C z0 d v).any) .nil
 have:i=min l.length l2.length:=by rw[e];simp[Gv]
 lia
theorem PI.weak(h:PI X tg e t)(w:∀O H P,t' O H P->t O H P):PI X tg e t':=λa s O H P I q=>h a s O H P I<|w O H P q
theorem PI.or(h:PI X tg e t)(b:PI X tg e t'):PI X tg e<|λO H P=>t O H P\/t' O H P:=λa s O H P I q=>q.elim (h a s O H P I)<|b a s O H P I
def VV(z:PE X e<|tM X.K E ca m):PI X tg e<|tI X.K E ca<|Io m:=by
 refine PI.weak (PI.or (zjs z)<|znp z) λO H P h=>?_;let(F,Y,R,S,q):=h;unfold Io at q
 have j:∀{o } {k } {l },m Y=↑(.v (.nd o k l) false)->(∀u w Γ,Ext F H u w R0->GO X.K Γ u (BP l)->P Γ w)->∀g a x B,Ext F H g a B->EL X.K g a R (.nd o k l) false x B->∃(d:Hp) (p:Addr) (xs:kK),x=.ref p/\Ext F H d a R0/\Fj X.K d k p xs/\Ae X.K d (BP l) xs:=by
  intro o k l f q g a x B i g1;let(d,b,_,C):=EL.frz S i g1;have y :=C;rw[T.share]at y;let(p,xs,rfl,_,n,kd):=Dp y;exact{(d),p,xs,rfl,b,n,kd}
 cases f:m Y with
 |none=>erw[f]at q<;>symm|some r=>
  erw[f]at q;cases r with
  |x c=>exact .inl {F,Y,R,S,by rw[f];exact q}|v t A=>
   cases t with
   |nd o k l=>
    cases A with
    |true=>symm|false=>
     simp only at q;cases k with
     |lst=>refine .inl {F,Y,R,S,?_};rw[f];intro g a x B i g1;let(d,p,xs,rfl,b,n,kd):=j f q g a x B i g1;exact{p,rfl,{xs,Ab.of<|b.fh _ _ n},q d a _ b<|RW (λu w s1 s=>Ab.of<|s _ _<|s1 _ _ n) kd}
     |pin ϊ=>refine .inl {F,Y,R,S,?_};rw[f];intro g a x B i g1;let(d,p,xs,rfl,b,n,kd):=j f q g a x B i g1;exact{p,rfl,{xs,Ab.of<|b.fh _ _ n},q d a _ b<|RW (λu w s1 s=>Ab.of<|s _ _<|s1 _ _ n) kd}
     |rl=>refine .inl {F,Y,R,S,?_};rw[f];intro g a x B i g1;let(d,p,xs,rfl,b,n,kd):=j f q g a x B i g1;exact{p,rfl,{xs,b.fh.seq n.l},q d a _ b<|RW (λu w s1 s=>s.seq<|s1.seq n.l) kd}
     |tup=>refine .inr {F,Y,R,S,?_};rw[f];intro g a x B i g1;let(d,p,xs,rfl,b,n,kd):=j f q g a x B i g1;exact{p,rfl,{xs,CD.of<|b.fh _ _ n},q d a _ b<|YO (λu w s1 s=>CD.of<|s _ _<|s1 _ _ n) kd}
     |rt=>refine .inr {F,Y,R,S,?_};rw[f];intro g a x B i g1;let(d,p,xs,rfl,b,n,kd):=j f q g a x B i g1;exact{p,rfl,{xs,GW b.fh n},q d a _ b<|YO (λu w s1 s=>GW s<|GW s1 n) kd}
   |_=>symm
def J1{f:(Ar)->Ar}   (i:∀Y c,ms Y=↑(.x c)->f ms Y=↑(.x c))(d:∀Y,ms Y=none->f ms Y=none)
  (g : ∀ F Y R ts b, StR K F H O Y R -> ms Y = ↑(.v ts b) -> (match f ms Y with
   |some (.v us ϊ)=>∀F' H' Γ,Ext F H F' H' R0->GO K Γ F' us->P Γ H'|some (.x c)=>∀F' H',Ext F H F' H' R0->XE (E O) ca c F' H'|none=>False)->∀F' H' xs,Ext F H F' H' R0->Ae K (Gz b F' H' R) ts xs->W xs H') (h:tI K E ca (f ms) O H P):CA K E ca ms O H W:=by
 let(F,Y,R,S,q):=h;refine{F,Y,R,S,?_};cases a:ms Y with
 |none=>rw[d Y a]at q;symm|some r=>
  cases r with
  |x c=>rw[i Y c a]at q;exact q|v ts b=>exact λF' H' xs e rs=>g F Y R ts b S a q F' H' xs e rs
def QJ(h:Bh j=true):-(2 ^ 62)<=j/\j<2 ^ 62:=@of_decide_eq_true _ (Classical.propDecidable _) h
def zgn(o:Gl X "range")(r:X.mg "range"=none)(n:PA X [a]<|CA X.K E ca ms)(s:starEach [a] X.env=[(false,eval a X.env)]):PI X tg (.Call (.Name "range" p) [a] [] pos)<|tI X.K E ca<|Bc ms:=by
 refine PI.weak (zef o r n s) λO H P h=>?_;refine J1 (f:=Bc) (λY c e=>by unfold Bc;rw[e]) (λY e=>by unfold Bc;rw[e]) (λF Y R t b S e q k l xs m rs=>?_) h;unfold Bc at q;rw[e]at q;simp only at q;cases d:Mr t with
 |none=>erw[d]at q<;>symm|some j=>
  erw[d]at q;by_cases g:Bh j=true;erw[g,Å]at q;let(g1,g2):=QJ g;unfold Mr at d;split at d
  cases d;let(v,u,rfl,r1,i):=rs.inv;cases i.inv0;rw[r1.int_inv];exact{j,rfl,g1,g2,q k l _ m YQ}
  cases d;erw[g]at q;symm
def zgm(u:Gl X "range")(v:X.mg "range"=none)(t:PA X [a,b]<|CA X.K E ca ms)(w:starEach [a,b] X.env=[(false,eval a X.env),(false,eval b X.env)])(g:starEach [b] X.env=[(false,eval b X.env)]):PI X tg (.Call (.Name "range" p) [a,b] [] pos)<|tI X.K E ca<|HZ ms:=by
 refine PI.weak (zee u v t w g) λO H P h=>?_;refine J1 (λY c e=>by unfold HZ;rw[e]) (λY e=>by unfold HZ;rw[e]) (λF Y R z b S e q m n xs o rs=>?_) h;unfold HZ at q;rw[e]at q;simp only at q;cases d:Mq z with
 |none=>erw[d]at q<;>symm|some x=>
  let(i,j):=x;erw[d]at q;by_cases f:(Bh i && Bh j)=true;erw[f,Å]at q;rw[Ä]at f;let(g1,g2):=QJ f.1;let(r,s):=QJ f.2;unfold Mq at d;split at d
  cases d;let(C,A,rfl,r1,k):=rs.inv;let(x2,B,rfl,y,l):=k.inv;cases l.inv0;rw[r1.int_inv,y.int_inv];exact{i,j,rfl,{(g1),g2,r,s},q m n _ o YQ}
  cases d;erw[f]at q;symm
def Jy(h:Ik (.nd o k l)=true)(r:Rp K F F (.nd o k l) x R0):∃p xs,x=.ref p/\(∀F' H' ,A3 F F'->A3 F' H'->Ab K H' p xs)/\Ae K F l xs:=by
 let(p,xs,rfl,_,n,kd):=Dp r;refine{p,xs,rfl,λF' H' s1 a=>?_,kd};cases k with
 |lst=>exact Ab.of (a _ _<|s1 _ _ n)|rl=>exact a.seq (s1.seq n.l)|tup=>cases h|rt=>cases h|pin q=>exact Ab.of<|a _ _<|s1 _ _ n
set_option tactic.hygienic true in
def VX(o:Gl X "enumerate")(r:X.mg "enumerate"=none)(n:PA X [a]<|CA X.K E ca ms)(s:starEach [a] X.env=[(false,eval a X.env)]):PI X (.Tuple elts kk tpos) (.Call (.Name "enumerate" p) [a] [] pos)<|tI X.K E ca<|E1 ms:=by
 refine PI.weak (zjt o r n s) λO H P h=>?_;refine J1 (f:=E1) (λY c e=>by unfold E1;rw[e]) (λY e=>by unfold E1;rw[e]) (λF Y R u b S e q i j xs k rs=>?_) h;unfold E1 at q;rw[e]at q;cases b with
 |true=>symm|false=>
  simp only at q;cases d:Hk u with
  |none=>erw[d]at q<;>symm|some l=>
   erw[d]at q;unfold Hk at d;split at d;split at d;cases d;rename_i m;let(x,v,rfl,r1,g):=rs.inv;cases g.inv0;let(t,w,rfl,sq,kd):=Jy m r1;exact{t,rfl,{w,sq i j (.refl _) k.fh},q i j _ k<|YR sq kd}
   cases d;cases d
set_option tactic.hygienic true in
def r_zip(t:Gl X "zip")(u:X.mg "zip"=none)(s:PA X [a,b]<|CA X.K E ca ms)(v:starEach [a,b] X.env=[(false,eval a X.env),(false,eval b X.env)])(m:starEach [b] X.env=[(false,eval b X.env)]):PI X (.Tuple elts kk tpos) (.Call (.Name "zip" p) [a,b] [] pos)<|tI X.K E ca<|HY ms:=by
 refine PI.weak (zno t u s v m) λO H P h=>?_;refine J1 (λY c e=>by unfold HY;rw[e]) (λY e=>by unfold HY;rw[e]) (λF Y R A b S e q g i xs j rs=>?_) h;unfold HY at q;rw[e]at q;cases b with
 |true=>symm|false=>
  simp only at q;cases d:Mp A with
  |none=>erw[d]at q<;>symm|some w=>
   let(l,I):=w;erw[d]at q;unfold Mp at d;split at d;split at d;cases d;rename_i k;rw[Ä]at k;let(J,B,rfl,r1,o):=rs.inv;let(x2,C,rfl,z,r):=o.inv;cases r.inv0;let(x,D,rfl,sq,kd):=Jy k.1 r1;let(y,G,rfl,f,n):=Jy k.2 z;exact{x,y,rfl,{D,sq g i (.refl _) j.fh},{G,f g i (.refl _) j.fh},q g i _ j<|zl2 sq f kd n}
   cases d;cases d
end
def StR.set{K}(S:StR K F H O Y R)(r:Rp K F H t x A)(d:∀j a,j≠i->R j a->¬ A a)(l:i<Y.length) :
  StR K F H (O.set i ↑x) (Y.set i ↑t) (λj=>if j=i then A else R j):=by
 have n:=S.len;refine{S.fh,by simp[n],λj h e=>?_,λj a z=>?_,λj k a f g c=>?_};by_cases b:j=i;subst b;rw[é l]at e;cases e;exact{x,é (by lia),by simpa using r};rw[ã<|Ë b]at e ⊢;let(y,m,r1):=S.rep j h e;exact{y,m,by simpa[b] using r1}
 by_cases b:j=i;subst b;exact{t,é l};erw[b,Ã]at z;let(h,e):=S.out j a z;exact{h,by rw[ã<|Ë b];exact e}
 by_cases b:j=i;erw[b,Å]at g;have hk:¬ k=i:=λz=>f<|b.trans z.symm
 erw[hk,Ã]at c;exact d k a hk c g;erw[b,Ã]at g;by_cases hk:k=i;erw[hk,Å]at c;exact d j a b g c;erw[hk,Ã]at c;exact S.dis j k a f g c
def E9(K:k6)(b:T->AN->Option AN):TG:=λv O H Q=>∃F Y R t e,StR K F H O Y R/\Rp K F H t v R0/\b t Y=↑e/\∀c d,StR K F H c e d->(∀i a,d i a->R i a)->Q c H
def HF(K:k6)(b:kL->AN->Option AN):JB:=λg O H Q=>∃F Y R f e,StR K F H O Y R/\Ae K F f g/\b f Y=↑e/\∀c d,StR K F H c e d->(∀i a,d i a->R i a)->Q c H
def AD(i:Nat):T->AN->Option AN:=λt Y=>if i<Y.length then ↑(Y.set i ↑t) else none
def Aw:kL->AN->Option AN
 |[],Y=>↑Y|ϊ::ϋ,ό=>none
def AL(b:T->AN->Option AN)(bs:kL->AN->Option AN):kL->AN->Option AN
 |t::c,Y=>(match b t Y with
  |some a=>bs c a|none=>none)
 |[],ϊ=>none
def Au(n:Nat)(bs:kL->AN->Option AN):T->AN->Option AN
 |.nd ϊ .tup l,Y=>if l.length=n then bs l Y else none
 |.nd ϊ .rt l,Y=>if l.length=n then bs l Y else none
 |.nd ϊ .lst l,Y=>if l.length=n then bs l Y else none
 |ϊ,ϋ=>none
def zns(i:X.calm=true)(h:EK X es t)(j:(assignEach es X.env).length=n)(c:(assignEach es X.env).findIdx? (·.1)=none):PG X (.Tuple es k pos) (λv O H Q=>Rc X.K n t v O H Q\/∃a xs,v=.ref a/\Ab X.K H a xs/\xs.length=n/\t xs O H Q):=by
 intro l s O H v u Q I r d;rcases d with d|⟨a,xs,q,y,w,d⟩;exact znr i h j c l s O H v u Q I r d;subst q;cases r;let(g,A,(o,m,x,f,_,hd),C):=I.list y;refine Â<|ī ?_;unfold unpack;rw[c,j,show n=g.toArray.size by simp[<- w,A.length]]
 refine Â<|ú<|W.kun_itemsOf (I.ok.hd i) {(o),x,f,m,hd} λB z=>?_
 have p :=I.kept (t':=s.toks) λb o e=>z b o (Ó<|Æ e) e;exact h l _ O H xs _ Q p (by grind) d
section
variable {X:Cx}{e:Expr}{es:kC}{pos:Pos}{b:T->AN->Option AN}{bs:kL->AN->Option AN}
theorem PG.weak(h:PG X e t)(w:∀v O H Q,t' v O H Q->t v O H Q):PG X e t':=λa s O H v u Q I r q=>h a s O H v u Q I r<|w v O H Q q
theorem EK.weak(h:EK X es t)(w:∀v O H Q,t' v O H Q->t v O H Q):EK X es t':=λa s O H v u Q I r q=>h a s O H v u Q I r<|w v O H Q q
set_option tactic.hygienic true in
def g_nm(b:X.N.Nodup)(d:X.N[i]?=↑x)(k:Gu X.env.scope x)(c:X.fn x=true\/X.env.scope.names.lookup x=↑.local):PG X (.Name x pos)<|E9 X.K<|AD i:=by
 refine PG.weak (zjv b d k c) λv O H Q h=>?_;let(F,Y,R,t,l,S,r,e,q):=h;unfold AD at e;split at e;cases e;rename_i g;refine q _ _ (S.set r (λϊ ϊ ϊ ϊ z=>z.elim) g) λj a z=>?_;by_cases f:j=i;erw[f]at z;exact z.elim;grind;cases e
theorem g_nil:EK X []<|HF X.K Aw:=EK.weak zju λv O H Q h=>by
 let(F,Y,R,a,b,S,r,e,q):=h;cases a with
 |nil=>cases e;exact{r.inv0,q O R S λϊ ϊ z=>z}|cons ϊ ϋ=>cases e
def zph(n:PG X e<|E9 X.K b)(o:EK X es<|HF X.K bs)(p:(assignEach (e::es) X.env).map (·.2)=assign e X.env::(assignEach es X.env).map (·.2)):EK X (e::es)<|HF X.K<|AL b bs:=by
 refine EK.weak (zgv n o p) λv O H Q h=>?_;let(F,Y,R,d,m,S,r,e,q):=h;cases d with
 |nil=>cases e|cons t d=>
  let(x,xs,rfl,r1,rs):=r.inv;unfold AL at e;simp only at e;cases f:b t Y with
  |none=>grind|some c=>rw[f]at e;exact{x,xs,rfl,F,Y,R,t,c,S,r1.any,f,λu j k s=>{F,c,j,d,m,k,rs,e,λg R2 l w2=>q g R2 l λi a z=>s i a<|w2 i a z}}
set_option tactic.hygienic true in
def g_tup(s:X.calm=true)(h:EK X es<|HF X.K bs)(w:(assignEach es X.env).length=n)(g:(assignEach es X.env).findIdx? (·.1)=none):PG X (.Tuple es k pos)<|E9 X.K<|Au n bs:=by
 refine PG.weak (zns s h w g) λv O H Q h=>?_;let(F,Y,R,t,f,S,r,e,q):=h
 have c:∀{o:Bool} {kd:Kd} {l:kL},t=.nd o kd l->(kd=.tup\/kd=.rt\/kd=.lst)->(if l.length=n then bs l Y else none)=↑f->(Rc X.K n (HF X.K bs) v O H Q\/∃a xs,v=.ref a/\Ab X.K H a xs/\xs.length=n/\HF X.K bs xs O H Q):=by
  intro o kd l m hk d;subst m;split at d;rename_i u;let(p,xs,rfl,_,j,b):=Dp<|r.any (H':=F);have i:xs.length=n:=by rw[<- b.1];exact u
  rcases hk with rfl|rfl|rfl;exact .inl {p,xs,rfl,CD.of<|S.fh _ _ j,i,F,Y,R,l,f,S,b,d,q};exact .inl {p,xs,rfl,GW S.fh j,i,F,Y,R,l,f,S,b,d,q};exact .inr {p,xs,rfl,Ab.of<|S.fh _ _ j,i,F,Y,R,l,f,S,b,d,q};cases d
 unfold Au at e;split at e;exact c rfl (.inl rfl) e;exact c rfl (.inr<|.inl rfl) e;exact c rfl (.inr<|.inr rfl) e;cases e
end
section
abbrev Jq(l:Addr):Obj:={ cls:=.type "list_iterator",data:=.fields #[.ref l,.int 0 0] }
abbrev SJ(p:Addr)(k:Int):Obj:={ cls:=.type "enumerate",data:=.fields #[.none,.bool false,.ref p,rawInt k,.none,.none] }
set_option maxHeartbeats 1000001 in
set_option tactic.hygienic true in
theorem zkj(l:Addr)(b:Array Value)(n:Nat)(d:Option Addr)(k:Array<|Option Value)(t:Tok) :
  Meets (Builtin.«enumerate.__new__» {[.type "enumerate",.ref l],[("start",.int 1 t)]}) (λϊ R s=>s.heap.get? l=↑{.type "list",d,.seq b n,k} /\
   R (.ok<|.ret<|.ref (s.heap.push<|Jq l).objs.size) { s with heap:=(s.heap.push<|Jq l).push (SJ s.heap.objs.size 1) }):=Meets.of_wp λprog w A R s h=>by
 let(j,g,i,tk,os):=s;let(a,h):=h;have f:=sub_enumerate;have e:Heap.IsList (Shared.heap {(j),g,i,tk,os}) l b:={_,a,rfl,n,rfl}
 wp_walk using Ř a
 refine wpAny_stack_any λst=>Ê ?_;split;rename_i c _ _ _ _ _;cases (c == Value.type "enumerate")
 .wp_walk using Ř a,Ĭ e
  exact{_,rfl,h}
 .wp_walk using Ř a,Ĭ e
  exact{_,rfl,h}
 .wp_walk using Ř a,Ĭ e
  exact{_,rfl,h}
set_option maxHeartbeats 1000001 in
theorem zhe(x l:Addr)(t:Tok):Meets (Builtin.«object.__init__» {[.ref x,.ref l],[("start",.int 1 t)]})<|λϊ R s=>s.TypeIs (.ref x) "enumerate"/\R (.ok<|.ret .none) s:=Meets.of_wp λprog w A R s c=>by
 let(d,b):=c;have e:=ů.init.lookup;have f:=ů.made;have a:(↑"enumerate.__new__" != ↑"object.__new__")=true:=by decide
 repeat (any_goals (first|assumption|wp_step))
 exact{_,rfl,b}
set_option maxHeartbeats 1000001 in
def zic{prog:Program}{w:World}{A:Around}{E:Value->Shared->Prop}{s:Shared}{l:Addr}{f:Array Value}{t:Tok}{Q:Value->Shared->Prop}(D:s.heap.IsList l f)
  (h:∀h',IsEnum h' (s.heap.objs.size+1) s.heap.objs.size 1 .none->h'.IsListIter s.heap.objs.size l 0->h'.objs.size=s.heap.objs.size+2->(∀b o,s.heap.get? b=↑o->h'.get? b=↑o)->Q (.ref<|s.heap.objs.size+1) { s with heap:=h' }) :
  wpAny (model prog w) A (call (.type "enumerate") [.ref l] [("start",.int 1 t)]) Q E s:=by
 let((c,d,C,L),I,i,n,hd):=D;replace i:c=.type "list":=i;replace hd:C=.seq f n:=hd;subst i hd;have ft:=ů;let(c,O,v):=ft.mro;have k:=ft.made;have z:=ft.sub;have H:checkTypeCall "enumerate" {[.ref l],[("start",.int 1 t)]}=pure ():=by ext
 have j:checkBuiltinCall "enumerate.__new__" {[.type "enumerate",.ref l],[("start",.int 1 t)]}=pure ():=by ext
 refine ę<|codeAny_of_tree ?_;refine Ê {Code.quiet_builtin _ (by decide +kernel),ř F.entry_type_call ?_}
 rw[Around.under_plain (weight_type_call_type "enumerate" _ _)<|units_type_call_type "enumerate" _ _];have M:=ft.notType;have N:=ft.canCreate
 repeat (any_goals (first|assumption|wp_step))
 refine ý (ż ft.plain F.entry_enumerate_new<|ě j<|zkj l f n d L t prog w A.in1 (wants (λo s1=>o=.ref (s.heap.objs.size+1)/\s1.TypeIs o "enumerate"/\Q o s1) E) s {I,?_}) λr s1 m=>?_;have p:(s.heap.push<|Jq l).objs.size=s.heap.objs.size+1:=ă ..
 have u:IsEnum ((s.heap.push<|Jq l).push (SJ s.heap.objs.size 1)) (s.heap.objs.size+1) s.heap.objs.size 1 .none:=by
  have:=ä (s.heap.push<|Jq l) (o:=SJ s.heap.objs.size 1) rfl;rw[p]at this;exact this
 show _/\_;rw[p];exact{rfl,{_,u,rfl},h _ u {_,Ñ _<|ä _ rfl,rfl,rfl} (by rw[ă,p]) λb o x=>Ñ _<|Ñ _ x}
 .cases r with
  |error e=>exact m|ok fl=>
   cases fl with
   |ret obj=>
    let(rfl,q,y):=m;have J:=ft.init.lookup;have G:=ft.init.bind<|.ref<|s.heap.objs.size+1;have hok:argsOk "object.__init__" {[.ref<|s.heap.objs.size+1,.ref l],[("start",.int 1 t)]}:=by ext
    repeat (any_goals (first|assumption|wp_step))
    refine ý (ż ft.init.plain F.entry_object_init<|ft.init.check _ _ _ _ _ _ _ _ q hok<|zhe _ l t prog w A.in1 (wants (λr B=>r=.none/\Q (.ref<|s.heap.objs.size+1) B) E) s1 {(q),rfl,y}) λK B a=>?_;cases K with
    |error e=>exact a|ok g=>
     cases g with
     |ret r=>
      let(rfl,y):=a
      repeat (any_goals (first|assumption|wp_step))
     |_=>exact a.elim
   |_=>exact m.elim
end
section
variable {X:Cx}{a:Expr}{elts:kC}{kk ko:Nat}{tpos p pos kp vp:Pos}{E:L2.St->XK}{ca:Str->Value}{ms:Ar}
abbrev MQ(a:Nat)(b kp:Pos):List Keyword:=[{↑(Str.ofString "start"),.Constant (.int 1) a b,kp}]
def zpo{T}(b:args.any (·.1)=false)(c:ks.any (·.1.isNone)=false)
  (h:wpAny M A (evalArgs (.type T) true args ks) (λa s1=>wpAny M A (call (.type T) a.pos a.kw) Q R s1) R s):wpAny M A (callWith pos (.type T) [] args ks) Q R s:=by
 refine Â<|ú<|AZ h λa s1 q=>Â<|ī ?_
 erw[b,c];exact Â<|Ê<|Â<|AZ q λr d z=>Â<|ú<|wpAny_point<|Ê z
def zpe(K:k6)(c:TA):TI:=λO H R=>c O H λd b=>∃a,d=[.ref a]/\(∃xs,Ab K b a xs)/\R (NZ K 1 a) b
def zgu(t:Gl X "enumerate")(v:X.mg "enumerate"=none)(r:PA X [a] ta)(m:starEach [a] X.env=[(false,eval a X.env)]):PI X (.Tuple elts kk tpos) (.Call (.Name "enumerate" p) [a] (MQ ko vp kp) pos)<|zpe X.K ta:=by
 intro i s O H R I h;have f:eval (.Call (.Name "enumerate" p) [a] (MQ ko vp kp) pos) X.env=(do callWith pos (<- eval (.Name "enumerate" p) X.env) [] (backTo pos<|starEach [a] X.env) (backToKw pos<|keywordEach (MQ ko vp kp) X.env)):=by rfl
 rw[f];refine Â<|GD I t v boot_enumerate<|zpo (by rw[m];rfl) rfl ?_
 have c:backTo pos (starEach [a] X.env)=[(false,eval a X.env)]:=by rw[m];rfl
 have k:=r pos i s O H _ I h;rw[c]at k ⊢;refine evalArgs_kwB rfl<|AZ k λD s1 ⟨E,H1,I1,r1,q1⟩=>kws_cons ?_
 refine wpAny_Constant_int<|kws_nil ?_;let(l,e,(xs,w),q):=q1;subst e;let(u,rfl,A):=Ej r1;cases A;have j:Inv X i O H1 { s1 with toks:=s1.toks+1 }:=I1.tok _
 let(y,C,z,B):=j.list w;refine zic z.isList λo f g x hk=>?_;have n:Inv X i O H1 { s1 with heap:=o,toks:=s1.toks+1 }:=j.kept hk;refine Ż f {s1.heap.objs.size+1,[s1.heap.objs.size+1,s1.heap.objs.size],_,_,H1,rfl,n,UD 1 l _ _ (by simp),{{_,by simpa using f},g},λb c=>?_,q}
 have d:s1.heap.objs.size<=b:=by
  obtain rfl|c:=Î.mp c
  exact ď _;rw[Ô.mp c];exact Ç _
 exact I1.fpOk d<|I1.hok.fresh d
def Gh(ms:Ar):Ar:=λY=>match ms Y with
 |some (.v a false)=>(match Hk a with
  |some l=>↑(.v (E4 1 l) false)|none=>none)
 |some (.v ϊ true)=>none|r=>r
set_option tactic.hygienic true in
def r_en1(o:Gl X "enumerate")(r:X.mg "enumerate"=none)(n:PA X [a]<|CA X.K E ca ms)(s:starEach [a] X.env=[(false,eval a X.env)]):PI X (.Tuple elts kk tpos) (.Call (.Name "enumerate" p) [a] (MQ ko vp kp) pos)<|tI X.K E ca<|Gh ms:=by
 refine PI.weak (zgu o r n s) λO H P h=>?_;refine J1 (f:=Gh) (λY c e=>by unfold Gh;rw[e]) (λY e=>by unfold Gh;rw[e]) (λF Y R u b S e q i j xs k rs=>?_) h;unfold Gh at q;rw[e]at q;cases b with
 |true=>symm|false=>
  simp only at q;cases d:Hk u with
  |none=>erw[d]at q<;>symm|some l=>
   erw[d]at q;unfold Hk at d;split at d;split at d;cases d;rename_i m;let(x,v,rfl,r1,g):=rs.inv;cases g.inv0;let(t,w,rfl,sq,kd):=Jy m r1;exact{t,rfl,{w,sq i j (.refl _) k.fh},q i j _ k<|YR sq kd}
   cases d;cases d
end
def Bs(b:T->AN->Option AN)(mt me:AJ):kL->AN->Option (kL)
 |[],ϊ=>↑[]|t::c,Y=>(match b t Y with
  |some a=>(match mt a with
   |some (.v (.bl true) ϊ)=>(match me a with
    |some (.v v false)=>(match Bs b mt me c a with
     |some l=>↑(v::l)|none=>none)
    |ϊ=>none)
   |some (.v (.bl false) ϊ)=>Bs b mt me c a|ϊ=>none)
  |none=>none)
def GF(b:T->AN->Option AN)(mt me:AJ):kL->AN->Option Str
 |[],ϊ=>none|t::d,Y=>(match b t Y with
  |some a=>(match mt a with
   |some (.v (.bl true) ϊ)=>(match me a with
    |some (.v ϊ false)=>GF b mt me d a|some (.x c)=>↑c|ϊ=>none)
   |some (.v (.bl false) ϊ)=>GF b mt me d a|some (.x c)=>↑c|ϊ=>none)
  |none=>none)
def Md(Y:AN)(j:Nat):kH:=match Y[j]? with
 |some ↑t=>if t.sh then ↑t else none
 |ϊ=>none
def blk(n:Nat)(a:kG)(Y:AN):AN:=List.replicate n none++a.map (Md Y)
def S6(O:L2.St)(j:Nat):Option V:=match O[j]? with
 |some ↑v=>↑v|ϊ=>none
def Gp(n:Nat)(a:kG)(O:L2.St):L2.St:=List.replicate n none++a.map (S6 O)
def BJ(n:Nat)(a:kG)(e:Ar)(b:T->AN->Option AN)(mt me:AJ):AJ:=λY=>match e Y with
 |some (.v d ϊ)=>if d.length<=Bj then (match Bs b mt me d (blk n a Y) with
  |some l=>↑(.v (.own l) false)|none=>(match GF b mt me d (blk n a Y) with
   |some c=>↑(.x c)|none=>none)) else none
 |some (.x c)=>↑(.x c)|none=>none
set_option tactic.hygienic true in
def zpw{K}(S:StR K F H O Y R)(n:Nat)(caps):StR K F H (Gp n caps O) (blk n caps Y)<|λϊ=>R0:=by
 refine{S.fh,by simp[Gp,blk],λi t e=>?_,λϊ ϊ z=>z.elim,λϊ ϊ ϊ ϊ z=>z.elim};unfold blk at e;unfold Gp;by_cases c:i<n;rw[ÿ (by simpa using c),ş,if_pos c]at e;cases e;rw[ğ (by simp;lia),È]at e ⊢;erw[Ť]at e ⊢;cases b:caps[i - n]? with
 |none=>rw[b]at e;cases e|some j=>
  rw[b]at e;erw[č]at e ⊢;have a:Md Y j=↑t:=Ü e;unfold Md at a;split at a
  rename_i g f;split at a;cases a;rename_i d;let(x,ex,r):=S.rep j _ f;refine{x,?_,r.move d<|.refl _};unfold S6;rw[ex]
  cases a;cases a
def Ud{l:kL}(h:tot (λj=>if j=l.length then B else Rr j) a):tot Rr a\/B a:=by
 let(j,z):=h;by_cases b:j=l.length;grind;erw[b]at z;exact .inl {(j),z}
section
variable {X:Cx}{E:L2.St->XK}{ca:Str->Value}{O:L2.St}{H:Hp}{K:k6}{n:Nat}{caps:kG}{mi:Ar}{b:T->AN->Option AN}{mt me:AJ}
set_option tactic.hygienic true in
def zeu(h:Bs b mt me (t::us) τ1=↑l2):∃τ2,b t τ1=↑τ2/\((∃bt,mt τ2=↑(.v (.bl false) bt)/\Bs b mt me us τ2=↑l2)\/∃bt w l3,mt τ2=↑(.v (.bl true) bt)/\me τ2=↑(.v w false)/\Bs b mt me us τ2=↑l3/\l2=w::l3):=by
 unfold Bs at h;split at h;rename_i τ2 d;refine{τ2,d,?_};split at h;rename_i bt a;split at h;rename_i w e;split at h;rename_i l3 c;cases h;exact .inr {(bt),w,l3,a,e,c,rfl};cases h;cases h;rename_i bt a;exact .inl {(bt),a,h};cases h;cases h
set_option tactic.hygienic true in
def zh8(h:GF b mt me (t::us) τ1=↑c):∃τ2,b t τ1=↑τ2/\((∃bt,mt τ2=↑(.v (.bl false) bt)/\GF b mt me us τ2=↑c)\/(∃bt,mt τ2=↑(.v (.bl true) bt)/\((∃w,me τ2=↑(.v w false)/\GF b mt me us τ2=↑c)\/me τ2=↑(.x c)))\/mt τ2=↑(.x c)):=by
 unfold GF at h;split at h;rename_i τ2 f;refine{τ2,f,?_};split at h;rename_i bt a;split at h;rename_i w d;exact .inr<|.inl {bt,a,.inl {(w),d,h}}
 rename_i e d;cases h;exact .inr<|.inl {bt,a,.inr d}
 cases h;rename_i bt a;exact .inl {(bt),a,h};rename_i e a;cases h;exact .inr<|.inr a
 cases h;cases h
def UQ(h:tM K E ca (BJ n caps mi b mt me) O H Q):LO (Gp n caps) (tI K E ca mi) (E9 K b) (BS K (λϊ=>E O) ca mt) (tM K (λϊ=>E O) ca me) O H Q:=by
 let(F,Y,R,S,q):=h;refine{F,Y,R,S,?_};unfold BJ at q;cases hi:mi Y with
 |none=>erw[hi]at q<;>symm|some r=>
  erw[hi]at q;cases r with
  |x c=>exact q|v s bb=>
   intro F1 H1 Γ e1 its;by_cases M:¬ s.length<=Bj;erw[M,Ã]at q<;>symm;have hz :=Decidable.not_not.mp M;erw[hz,Å]at q
   obtain⟨G,g1,g0,gs⟩:∃G:kL->AN->kL->Prop,(∀t u d l,G (t::u) d l->∃f,b t d=↑f/\((∃bt,mt f=↑(.v (.bl false) bt)/\G u f l)\/(∃bt,mt f=↑(.v (.bl true) bt)/\((∃w,me f=↑(.v w false)/\G u f (l++[w]))\/∃c,me f=↑(.x c)/\∀g k,Ext F H g k R0->XE (E O) ca c g k))\/∃c,mt f=↑(.x c)/\∀g k,Ext F H g k R0->XE (E O) ca c g k)) /\
     (∀d l,G [] d l->∀g k x B,Ext F H g k B->Rp K g k (.own l) x B->Q x k)/\G s (blk n caps Y) []:=by
    cases hg:Bs b mt me s (blk n caps Y) with
    |some N=>
     erw[hg]at q;refine{λu d l=>∃l2,Bs b mt me u d=↑l2/\l++l2=N,λt u d l z=>?_,λd l z=>?_,N,hg,rfl};let(l2,z,e):=z;obtain⟨f,y,w|⟨bt,w,l3,Z,T,y3,rfl⟩⟩:=zeu z;let(bt,w1,w2):=w;exact{f,y,.inl {(bt),w1,l2,w2,e}};exact{f,y,.inr<|.inl {bt,Z,.inl {w,T,l3,y3,by simpa using e}}};let(l2,z,e):=z;cases z;rw[ċ]at e;subst e;exact q
    |none=>
     erw[hg]at q;cases hx:GF b mt me s (blk n caps Y) with
     |none=>erw[hx]at q<;>symm|some c=>
      erw[hx]at q;refine{λu d l=>GF b mt me u d=↑c,λt u d l z=>?_,λd l z=>(by cases z),hx};obtain⟨f,y,w|⟨bt,Z,⟨w,T,y3⟩|T⟩|w⟩:=zh8 z;exact{f,y,.inl w};exact{f,y,.inr<|.inl {bt,Z,.inl {(w),T,y3}}};exact{f,y,.inr<|.inl {bt,Z,.inr {(c),T,q}}};exact{f,y,.inr<|.inr {(c),w,q}}
   have S1:=S.ext e1;refine{λi ys st k=>∃(g:Hp) (V:AN) (l:kL) (U:Nat->Rg),Ext F1 H1 g k (tot U)/\RpO K g k l ys U/\StR K g k st V (λϊ=>R0)/\i<=s.length/\G (s.drop i) V l/\l.length<=i,s.length,by rw[<- GB];exact hz,?_,?_};exact{F1,blk n caps Y,[],λϊ=>R0,(Ext.refl S1.fh).mono λa ⟨_,z⟩=>z.elim,.nil,zpw S1 n caps,ù _,gs,Ç _};rintro i ys st k ⟨g,V,l,U,I,X,S2,hle,m,hll⟩;have hly:=X.len;refine{by lia,hle,?_}
   let(i1,i2):=its i g k I.ff I.fh;by_cases o:i<s.length;refine .inr {o,?_};let(go,yld):=i1 _<|Á o;refine{go,λx J y=>?_}
   let(D,A,rx):=yld x J y;have S3:=S2.ext A;rw[ô o]at m;let(d,hb,m):=g1 _ _ _ _ m;refine{D,V,_,s[i],d,S3,rx,hb,λst1 R1 S4 hR1=>?_}
   have R1e :=funext λj=>funext λa=>propext {λz=>hR1 j a z,λz=>z.elim};subst R1e;refine{D,d,_,S4,?_};have eX:∀{c },(∀g k,Ext F H g k R0->XE (E O) ca c g k)->∀g k,Ext D J g k R0->XE (E O) ca c g k:=λz g k e=>z g k<|((e1.trans0 I).trans (A.trans0 e)).mono λϊ z=>z.elim
   rcases m with ⟨bt,L,m⟩|⟨bt,L,m⟩|⟨c,L,hX⟩;rw[L];intro F4 H4 C;exact Jx {F4,d,l,U,(I.trans<|(A.trans0 C).mono λϊ z=>z).mono λa z=>.inl z,(X.ext A).ext C,S4.ext C,o,m,by lia};rw[L];intro F4 H4 C;have S5:=S4.ext C;have e24:=I.trans<|(A.trans0 C).mono λϊ z=>z
   refine Jw {F4,d,_,S5,?_};rcases m with ⟨ve,he,m⟩|⟨c,he,hX⟩;rw[he];intro F5 H5 y B W ry;have ry' :=ry;have P:=(X.ext A).ext C;have ro5:=P.ext W;refine{F5,d,l++[ve],_,(e24.trans W).mono ?_,ro5.snoc ry'<|λj a z1 z2=>P.apart W z2 j z1,S5.ext W,o,m,by simp;lia}
   intro a z;rcases Ud z with z|z;exact .inl<|.inl z
   exact .inr z;rw[he];exact λg k e=>eX hX g k<|C.trans0 e
   rw[L];exact eX hX;have hi':i=s.length:=by lia
   subst hi';refine .inl {i2 rfl,λp hp=>?_};rw[List.drop_length]at m;let(rl,A):=X.list I.fh hp;refine g0 _ _ m g _ _ _ (((e1.trans0 I).trans A).mono ?_) rl;rintro a (z|⟨j,z⟩)
   exact .inr z;exact .inl {(j),z}
structure BlkOk(X:Cx)(scope:Scope)(N':kE)(n:Nat)(caps:kG):Prop where
 kind:scope.kind=.function
 names:∀y∈scope.names,y.2=.local->scope.names.lookup y.1=↑.local
 len:N'.length=n+caps.length
 cap:∀(k j:Nat),caps[k]?=↑j->∃y,X.N[j]?=↑y/\N'[n+k]?=↑y/\scope.names.lookup y=↑.free/\(y,NameKind.cell)∉scope.names
 free:∀y∈scope.names,y.2=.free->scope.names.lookup y.1=↑.free/\(X.env.scope.names.lookup y.1=↑.cell\/X.env.scope.names.lookup y.1=↑.free)
theorem RI{env:Env}(y:Str):∀(names:List<|Str×NameKind),(names.map λ(n,k)=>if (k == NameKind.free && env.scope.kind == .function && env.kindOf n == ↑.cell) then (n,NameKind.cell) else (n,k)).lookup y =
  (names.lookup y).map λk=>if (k == NameKind.free && env.scope.kind == .function && env.kindOf y == ↑.cell) then .cell else k
 |[]=>rfl|(n,k)::r=>by
  rw[Õ];cases b:y == n with
  |true=>
   have e:y=n:=eq_of_beq b;subst e;by_cases a:(k == NameKind.free && env.scope.kind == .function && env.kindOf y == ↑.cell)=true;erw[a,Å,ç,í,č];erw[a,ç,í,č];simp
  |false=>
   by_cases a:(k == .free && env.scope.kind == .function && env.kindOf n == ↑.cell)=true;erw[a,Å,ç,b];exact RI y r;erw[a,ç,b];erw[ġ,Ã,ç,b];exact RI y r
theorem Pm(scope)(env)(y):(relabel scope env).names.lookup y=(scope.names.lookup y).map λk=>if (k == NameKind.free && env.scope.kind == .function && env.kindOf y == ↑.cell) then .cell else k:=RI y scope.names
def RJ:∀{names:List<|Str×NameKind},names.lookup y=↑k->(y,k)∈names:=λh=>Ē h
set_option tactic.hygienic true in
def aT(B:BlkOk X scope N' n caps)   (I:Inv X pz O H s) :
  ∃cl,BlkC X scope N' (Gp n caps) cl:=by
 let(cl,q,r,t):=zd0 scope X.env λy a e=>I.ok.has y.1 (B.free y a e).2
 have F6:∀(O ) (i:Nat) (y ) (v ),N'[i]?=↑y->(Gp n caps O)[i]?=↑↑v->∃j:Nat,X.N[j]?=↑y/\O[j]?=↑↑v/\scope.names.lookup y=↑.free/\(y,NameKind.cell)∉scope.names:=by
  intro O i y v c b;unfold Gp at b;by_cases o:i<n;rw[ÿ (by simpa using o),ş,if_pos o]at b;cases b;rw[ğ (by simp;lia),È]at b;erw[Ť]at b;cases h:caps[i - n]? with
  |none=>rw[h]at b;cases b|some j=>
   rw[h]at b;erw[č]at b;have f :=Ü b;let(C,g1,g2,g,m):=B.cap (i - n) j h;have en:n+(i - n)=i:=by lia
   rw[en,c]at g2;cases g2
   have sv :=by
    unfold S6 at f;split at f;rename_i A u;cases f;exact u;cases f
   exact{(j),g1,sv,g,m}
 refine{cl,q,B.kind,B.names,r,λy a=>?_,λO i y v c b=>?_,λO x=>by simp[Gp,B.len],λO i y v c b=>?_};cases hk:scope.names.lookup y with
 |none=>
  rw[Pm,hk]at a;rcases a with a|a<;>cases a
 |some k=>
  by_cases e:k=.free;subst e;exact .inr<|t _ (RJ hk) rfl
  rw[Pm,hk]at a;erw[č]at a;have l :=beq_eq_false_iff_ne.mpr e;erw[l,Ŭ,ġ,Ã]at a
  rcases a with a|a;cases a;exact .inl<|RJ hk
  cases a;exact absurd rfl e
 exact(F6 O i y v c b).choose_spec.2.2.2;let(j,g1,sv,g,m):=F6 O i y v c b;have fr:=B.free _ (RJ g) rfl;refine{?_,j,g1,sv,?_,?_}
 rw[Pm,g];erw[č];by_cases d:(NameKind.free == NameKind.free && X.env.scope.kind == .function && X.env.kindOf y == ↑.cell)=true;exact .inl<|by rw[if_pos d]
 exact .inr<|by rw[if_neg d]
 rcases fr.2 with z|z;exact .inr<|.inl z
 exact .inr<|.inr z
 intro z;have p:X.env.scope.names.lookup y=↑.local:=z
 rcases fr.2 with w|w;rw[p]at w;cases w;rw[p]at w;cases w
def r_lcV(B:BlkOk X scope N' n caps)(d:∀pz O H s cl C ex xb,Inv X pz O H s->cq (Dg X scope cl N' C s H ex xb))(f:PJ cq X tg iter<|tI X.K E ca mi)
  (a:DH X E) (c:Hq X) (e:∀E',AC X scope N' E' λτ=>PG τ tg (E9 X.K b)/\Gs τ ifs (BS X.K E' ca mt)/\PE τ elt (tM X.K E' ca me))
  (g:∀x,foldedSetIterable iter X.env x=pure x):PE X (.ListComp elt [{tg,iter,ifs,0}] scope pos)<|tM X.K E ca<|BJ n caps mi b mt me:=by
 intro pz s O H Q I h;let(cl,L):=aT B I;exact zow L d f a c (e _) g I<|UQ h
def r_lcS(B:BlkOk X scope N' n caps)(g:X.calm=true)(k:PI X tg iter<|tI X.K E ca mi)
  (c:DH X E) (d:Hq X) (j:∀E',AC X scope N' E' λτ=>PG τ tg (E9 X.K b)/\Gs τ ifs (BS X.K E' ca mt)/\PE τ elt (tM X.K E' ca me))
  (l:∀x,foldedSetIterable iter X.env x=pure x)  {x:Str} (f:X.N.Nodup) (a:X.N[i]?=↑x) (m:X.env.scope.names.lookup x=↑.local)
  (e:swapsWith (.ListComp elt [{tg,iter,ifs,0}] scope pos) (↑(.Name x pos')) pos2.line X.env=pure true):PS X (.Assign [.Name x pos'] (.ListComp elt [{tg,iter,ifs,0}] scope pos) pos2)<|λD O H=>tM X.K E ca (BJ n caps mi b mt me) O H λv H1=>D.nx (O.set i ↑v) H1:=by
 intro o s O H D I h;let(cl,L):=aT B I;exact zox L g k c d (j _) l f a m e I<|UQ h
variable {m mk mv:AJ}{o k v:Expr}{pos p p2 ap cp:Pos}{elts:kC}{kk:Nat}{tpos:Pos}
end
set_option genInjectivity true in
inductive Out where
 |nx (Y:AN)|rt (t:T)|bk (Y:AN)|ct (Y:AN)|xc (c:Str) (Y:AN)
abbrev AH:=AN->Option Out
structure Stp(F H:Hp)(σ:Rg)(F' H':Hp)(σ':Rg):Prop where
 ff:A3 F F'
 fh:A3 F' H'
 kp:∀b u,¬ σ b->H b=↑u->H' b=↑u
 nw:∀b,σ' b->σ b\/H b=none
 nf:∀b u,F' b=↑u->F b=↑u\/σ b\/H b=none
section
variable {F H F1 H1 F2 H2:Hp}{σ σ1 σ2 B:Rg}{R:Nat->Rg}
theorem Stp.refl(s:A3 F H):Stp F H σ F H σ:={.refl _,s,λϊ ϊ ϊ e=>e,λϊ z=>.inl z,λϊ ϊ e=>.inl e}
theorem Stp.trans(a:Stp F H σ F1 H1 σ1)(b:Stp F1 H1 σ1 F2 H2 σ2):Stp F H σ F2 H2 σ2 where
 ff:=a.ff.trans b.ff
 fh:=b.fh
 kp:=λx u n e=>b.kp x u (λz=>(a.nw x z).elim n λw=>by grind) (a.kp x u n e)
 nw:=λx z=>(b.nw x z).elim (a.nw x) λw=>by
  by_cases c:σ x;exact .inl c;cases e:H x with
  |none=>simp|some u=>rw[a.kp x u c e]at w;cases w
 nf:=λx u e=>(b.nf x u e).elim (a.nf x u) λz=>.inr (z.elim (a.nw x) λw=>by
  by_cases c:σ x;exact .inl c;cases d:H x with
  |none=>simp|some f=>rw[a.kp x f c d]at w;cases w)
theorem Stp.mono(a:Stp F H σ F1 H1 σ1)(h:∀x,σ2 x->σ1 x):Stp F H σ F1 H1 σ2:={a.ff,a.fh,a.kp,λx z=>a.nw x<|h x z,a.nf}
theorem Ext.stp(e:Ext F H F1 H1 B):Stp F H σ F1 H1<|λx=>σ x\/B x:={e.ff,e.fh,λb u ϊ q=>e.hh b u q,λb z=>z.elim .inl λz=>.inr<|e.nb b z,λb u q=>(e.nf b u q).elim .inl λz=>.inr<|.inr z}
theorem Ext.stp0(e:Ext F H F1 H1 B):Stp F H σ F1 H1 σ:=e.stp.mono λϊ z=>.inl z
end
section
def Wr(K:k6)(mu:Bool)(F H:Hp)(t:T)(x:V)(B:Rg):Prop:=match mu with
 |false=>Rp K F H t x B|true=>∃v q l,t=.own [v,.nd true (.pin q) l]/\v.flat=true/\Rp K F H v x R0/\Rp K F H (.nd true (.pin q) l) (.ref q) B
def pS(K:k6)(E:L2.St->XK)(ca:Str->Value)(mu:Bool)(D:Ends)(F H:Hp)(R:Nat->Rg):Option Out->Prop
 |some (.nx f)=>∀b a d e,Stp F H (tot R) b a (tot e)->StR K b a d f e->D.nx d a|some (.bk f)=>∀b a d e,Stp F H (tot R) b a (tot e)->StR K b a d f e->D.bk d a|some (.ct f)=>∀b a d e,Stp F H (tot R) b a (tot e)->StR K b a d f e->D.ct d a|some (.rt t)=>∀b a x B,Stp F H (tot R) b a B->Wr K mu b a t x B->D.rt x a|some (.xc c f)=>∀b a d e,Stp F H (tot R) b a (tot e)->StR K b a d f e->XE (E d) ca c b a|none=>False
def tS(K:k6)(E:L2.St->XK)(ca:Str->Value)(mu:Bool)(m:AH):TS:=λD O H=>∃F Y R,StR K F H O Y R/\pS K E ca mu D F H R (m Y)
end
def AF(m n:AH):AH:=λY=>match m Y with
 |some (.nx a)=>n a|r=>r
def Aa:AH:=λY=>↑(.nx Y)
def L7:AH:=λϊ=>none
def L8:AH:=λY=>↑(.bk Y)
def Us:AH:=λY=>↑(.ct Y)
def HH(m:AJ):AH:=λY=>match m Y with
 |some (.v ϊ ϋ)=>↑(.nx Y)|some (.x c)=>↑(.xc c Y)|none=>none
def AW(m:AJ):AH:=λY=>match m Y with
 |some (.v t ϊ)=>↑(.rt t)|some (.x c)=>↑(.xc c Y)|none=>none
def Pd:AH:=λϊ=>↑(.rt .non)
def AQ(m:AJ)(b:T->AN->Option AN):AH:=λY=>match m Y with
 |some (.v t false)=>(match b t.share Y with
  |some a=>↑(.nx a)|none=>none)
 |some (.v ϊ true)=>none|some (.x c)=>↑(.xc c Y)|none=>none
def CY(i:Nat)(m:AJ):AH:=λY=>match m Y with
 |some (.v t false)=>if i<Y.length then ↑(.nx<|Y.set i ↑t) else none
 |some (.v ϊ true)=>none|some (.x c)=>↑(.xc c Y)|none=>none
def EM(i:Nat):AH:=λY=>match Y[i]? with
 |some ↑t=>↑(.nx<|Y.set i ↑t.share)|ϊ=>↑(.nx Y)
def A8(c:AJ)(a b:AH):AH:=λY=>match c Y with
 |some (.v (.bl true) ϊ)=>a Y|some (.v (.bl false) ϊ)=>b Y|some (.x c)=>↑(.xc c Y)|ϊ=>none
def Ao(b:T->AN->Option AN)(body:AH):kL->AH
 |[],Y=>↑(.nx Y)|t::d,Y=>(match b t Y with
  |some c=>(match body c with
   |some (.nx a)=>Ao b body d a|some (.ct a)=>Ao b body d a|some (.bk a)=>↑(.nx a)|r=>r)
  |none=>none)
def BN(a:Ar)(b:T->AN->Option AN)(body:AH):AH:=λY=>match a Y with
 |some (.v d ϊ)=>Ao b body d Y|some (.x c)=>↑(.xc c Y)|none=>none
def DI(c:AJ)(body:AH):Nat->AH
 |0,ϊ=>none|n+1,Y=>(match c Y with
  |some (.v (.bl true) ϊ)=>(match body Y with
   |some (.nx a)=>DI c body n a|some (.ct a)=>DI c body n a|some (.bk a)=>↑(.nx a)|r=>r)
  |some (.v (.bl false) ϊ)=>↑(.nx Y)|some (.x c)=>↑(.xc c Y)|ϊ=>none)
open Classical in
def Fs(c:AJ)(body:AH):AH:=λY=>if h:∃n,(DI c body n Y).isSome=true then DI c body h.choose Y else none
def zgh(h:Fs c body Y=↑o):∃n,DI c body n Y=↑o:=by
 unfold Fs at h;split at h;grind;cases h
def N7:∀{n} {Y} {o},DI c body n Y=↑o->DI c body (n+1) Y=↑o
 |0,Y,o,h=>by cases h|n+1,Y,o,h=>by
  unfold DI at h ⊢;split at h;split at h;exact N7 h;exact N7 h;exact h;exact h;exact h;exact h;cases h
def Tn(h:DI c body n Y=↑o)(a:n<=m):DI c body m Y=↑o:=by
 induction a with
 |refl=>exact h|step ϊ b=>exact N7 b
def zmr(h:DI c body n Y=↑o):Fs c body Y=↑o:=by
 unfold Fs;have a:∃n,(DI c body n Y).isSome=true:={n,by rw[h];rfl}
 let(f,e):=Ł.mp a.choose_spec;have b:=Tn e<|Nat.le_max_left a.choose n;have d:=Tn h<|Nat.le_max_right a.choose n
 grind
section
variable {mu:Bool}{X:Cx}{E:L2.St->XK}{ca:Str->Value}{O:L2.St}{H:Hp}{K:k6}{m mk mc:AJ}{ms mi:Ar}{b:T->AN->Option AN}{u w:AH}{D:Ends}{e c tg iter:Expr}{st:Stmt}{Ba body sa sb:kD}{pos pos':Pos}
theorem PS.weak(h:PS X st t)(w:∀D O H,t' D O H->t D O H):PS X st t':=λa s O H D I q=>h a s O H D I<|w D O H q
theorem B9.weak(h:B9 X Ba t)(w:∀D O H,t' D O H->t D O H):B9 X Ba t':=λa s O H D I q=>h a s O H D I<|w D O H q
def zm5(h:tS K E ca mu (AF u w) D O H):UJ (tS K E ca mu u) (tS K E ca mu w) D O H:=by
 let(F,Y,R,S,q):=h;refine{F,Y,R,S,?_};unfold AF at q;cases f:u Y with
 |none=>erw[f]at q<;>symm|some o=>
  erw[f]at q;cases o with
  |nx e=>
   intro i l m j s1 k;refine{i,e,j,k,?_};cases g:w e with
   |none=>erw[g]at q<;>symm|some o=>
    erw[g]at q;cases o with
    |nx ϊ=>exact λa b c d s S=>q a b c d (s1.trans s) S|bk ϊ=>exact λa b c d s S=>q a b c d (s1.trans s) S|ct ϊ=>exact λa b c d s S=>q a b c d (s1.trans s) S|rt ϊ=>exact λa b x B s r=>q a b x B (s1.trans s) r|xc ϊ ϋ=>exact λa b c d s S=>q a b c d (s1.trans s) S
  |rt ϊ=>exact q|bk ϊ=>exact q|ct ϊ=>exact q|xc ϊ ϋ=>exact q
theorem s_nil:B9 X []<|tS X.K E ca mu Aa:=B9.weak zjn λD O H h=>by
 let(F,Y,R,S,q):=h;exact q F H O R (Stp.refl S.fh) S
theorem Up(a:PS X st<|tS X.K E ca mu u)(b:B9 X Ba<|tS X.K E ca mu w):B9 X (st::Ba)<|tS X.K E ca mu<|AF u w:=B9.weak (zgq a b) λD O H h=>zm5 h
theorem Ul(a:PS X st<|tS X.K E ca mu u):B9 X [st]<|tS X.K E ca mu u:=zjm a
theorem Um:PS X st<|tS X.K E ca mu L7:=λa s O H D I h=>by
 let(_,_,_,_,q):=h;symm
theorem zmn:PS X (.Pass pos)<|tS X.K E ca mu Aa:=PS.weak zjp λD O H h=>by
 let(F,Y,R,S,q):=h;exact q F H O R (Stp.refl S.fh) S
theorem zj5:PS X (.Break pos)<|tS X.K E ca mu L8:=PS.weak zgt λD O H h=>by
 let(F,Y,R,S,q):=h;exact q F H O R (Stp.refl S.fh) S
theorem zdf:PS X (.Continue pos)<|tS X.K E ca mu Us:=PS.weak zcm λD O H h=>by
 let(F,Y,R,S,q):=h;exact q F H O R (Stp.refl S.fh) S
def zm6(h:tS K E ca mu (AF (EM i) w) D O H):tS K E ca mu w D O H:=by
 let(F,Y,R,S,q):=h;unfold AF EM at q;cases p:Y[i]? with
 |none=>rw[p]at q;exact{(F),Y,R,S,q}|some P=>
  rw[p]at q;cases P with
  |none=>exact{(F),Y,R,S,q}|some t=>
   simp only at q;let(x,ex,r):=S.rep i t p;have N :=(Ð.mp p).1;have n:∀a,R i a->F a=none:=λa z=>(r.dom z).1
   have L:StR K (frz F H<|R i) H O (Y.set i ↑t.share) (λj=>if j=i then R0 else R j):=by
    refine{Iu S.fh,by simpa using S.len,λj G e=>?_,λj a z=>?_,λj k a C v A=>?_};by_cases c:j=i;subst c;rw[é N]at e;cases e;exact{x,ex,by simpa using r.share (FD n) λa u z q=>by rw[E2 z];exact q};rw[ã<|Ë c]at e;let(y,M,r1):=S.rep j G e;refine{y,M,?_};erw[c,Ã]
    exact r1.frame (FD n) λa z=>{rfl,by
     rw[FC<|λQ=>S.dis j i a c z Q]
     exact(r1.dom z).1}
    by_cases c:j=i;erw[c,Å]at z;exact z.elim;erw[c,Ã]at z;let(G,e):=S.out j a z;exact{G,by rw[ã<|Ë c];exact e}
    by_cases c:j=i;erw[c,Å]at v;exact v.elim;by_cases hk:k=i;erw[hk,Å]at A;exact A.elim;erw[c,Ã]at v;erw[hk,Ã]at A;exact S.dis j k a C v A
   have d:Stp F H (tot R) (frz F H<|R i) H (tot λj=>if j=i then R0 else R j):=by
    refine{FD n,Iu S.fh,λϊ ϊ ϊ e=>e,λb ⟨j,z⟩=>?_,λb u e=>?_};by_cases c:j=i;erw[c,Å]at z;exact z.elim;erw[c,Ã]at z;exact .inl {(j),z};by_cases I:R i b;exact .inr<|.inl {(i),I}
    rw[FC I]at e;exact .inl e
   refine{_,_,_,L,?_};cases J:w (Y.set i ↑t.share) with
   |none=>erw[J]at q<;>symm|some o=>
    erw[J]at q;cases o with
    |nx ϊ=>exact λf g l m s S=>q f g l m (d.trans s) S|bk ϊ=>exact λf g l m s S=>q f g l m (d.trans s) S|ct ϊ=>exact λf g l m s S=>q f g l m (d.trans s) S|rt ϊ=>exact λf g x B s r=>q f g x B (d.trans s) r|xc ϊ ϋ=>exact λf g l m s S=>q f g l m (d.trans s) S
theorem s_frz(h:B9 X Ba<|tS X.K E ca mu w):B9 X Ba<|tS X.K E ca mu<|AF (EM i) w:=B9.weak h λD O H h=>zm6 h
def s_exp(f:PE X e<|tM X.K E ca m)(i:swapsWith e none pos.line X.env=pure false):PS X (.Expr e pos)<|tS X.K E ca mu<|HH m:=by
 refine PS.weak (QA f i) λD O H h=>?_;let(F,Y,R,S,q):=h;refine{F,Y,R,S,?_};unfold HH at q;cases d:m Y with
 |none=>erw[d]at q<;>symm|some r=>
  erw[d]at q;cases r with
  |x c=>exact λa b e=>q a b O R e.stp0 (S.ext e)|v t j=>exact λa b x B e g=>q a b O R e.stp0<|S.ext e
def s_ret(k:PE X e<|tM X.K E ca m):PS X (.Return ↑e pos)<|tS X.K E ca false<|AW m:=by
 refine PS.weak (znj k) λD O H h=>?_;let(F,Y,R,S,q):=h;refine{F,Y,R,S,?_};unfold AW at q;cases f:m Y with
 |none=>erw[f]at q<;>symm|some r=>
  erw[f]at q;cases r with
  |x c=>exact λb d e=>q b d O R e.stp0 (S.ext e)|v t i=>
   intro b d x B e g;cases i with
   |false=>exact q b d x B (e.stp.mono λϊ z=>.inr z) g|true=>let(_,A,j,r):=g;exact q b d x A (e.stp.mono λa z=>.inl<|j a z) r
theorem zmm:PS X (.Return none pos)<|tS X.K E ca false Pd:=PS.weak zjo λD O H h=>by
 let(F,Y,R,S,q):=h;exact q F H .non R0 ((Stp.refl S.fh).mono λϊ z=>z.elim) .non
def s_if(G:PT X c<|BS X.K E ca mc)(A:B9 X sa<|tS X.K E ca mu u)(C:B9 X sb<|tS X.K E ca mu w):PS X (.If c sa sb pos)<|tS X.K E ca mu<|A8 mc u w:=by
 refine PS.weak (ps_if G A C) λD O H h=>?_;let(F,Y,R,S,q):=h;refine{F,Y,R,S,?_};unfold A8 at q;cases m:mc Y with
 |none=>erw[m]at q<;>symm|some r=>
  erw[m]at q;cases r with
  |x c=>exact λb a e=>q b a O R e.stp0 (S.ext e)|v t I=>
   cases t with
   |bl k=>
    intro p y i;have z:=S.ext i
    have j:∀{l },(match l Y with
      |some (.nx g)=>∀b a d f,Stp F H (tot R) b a (tot f)->StR X.K b a d g f->D.nx d a|some (.bk g)=>∀b a d f,Stp F H (tot R) b a (tot f)->StR X.K b a d g f->D.bk d a|some (.ct g)=>∀b a d f,Stp F H (tot R) b a (tot f)->StR X.K b a d g f->D.ct d a|some (.rt t)=>∀b a x B,Stp F H (tot R) b a B->Wr X.K mu b a t x B->D.rt x a|some (.xc c g)=>∀b a d f,Stp F H (tot R) b a (tot f)->StR X.K b a d g f->XE (E d) ca c b a|none=>False)->tS X.K E ca mu l D O y:=λ{l} q=>by
     refine{p,Y,R,z,?_};cases n:l Y with
     |none=>erw[n]at q<;>symm|some o=>
      erw[n]at q;cases o with
      |nx ϊ=>exact λb a d f s S=>q b a d f (i.stp0.trans s) S|bk ϊ=>exact λb a d f s S=>q b a d f (i.stp0.trans s) S|ct ϊ=>exact λb a d f s S=>q b a d f (i.stp0.trans s) S|rt ϊ=>exact λb a x B s r=>q b a x B (i.stp0.trans s) r|xc ϊ ϋ=>exact λb a d f s S=>q b a d f (i.stp0.trans s) S
    cases k with
    |true=>exact Jw (j q)|false=>exact Jx<|j q
   |_=>symm
def Nz(G:∀v O H Q,E9 K b v O H Q->g v O H Q)(h:tS K E ca mu (AQ m b) D O H):GS (tM K E ca m) g D O H:=by
 let(F,Y,R,S,q):=h;refine{F,Y,R,S,?_};unfold AQ at q;cases k:m Y with
 |none=>erw[k]at q<;>symm|some r=>
  erw[k]at q;cases r with
  |x c=>exact λl n e=>q l n O R e.stp0 (S.ext e)|v t y=>
   cases y with
   |true=>symm|false=>
    intro J o x B A g1;let(f,j,_,I):=EL.frz S A g1;cases d:b t.share Y with
    |none=>erw[d]at q<;>symm|some w=>
     erw[d]at q;refine G _ _ _ _ {f,Y,R,t.share,w,S.ext j,(I).any,d,λp s u C=>?_};exact q f o p s (j.stp0.mono λa ⟨i,z⟩=>{i,C i a z}) u
set_option tactic.hygienic true in
def Y8(h:E9 K (AD i) v O H Q):GG i v O H Q:=by
 let(F,Y,R,t,d,S,r,e,q):=h;unfold AD at e;split at e;cases e;rename_i c;refine q _ _ (S.set r (λϊ ϊ ϊ ϊ z=>z.elim) c) λj a z=>?_;by_cases b:j=i;erw[b]at z;exact z.elim;grind;cases e
theorem zmk(a:X.N.Nodup)(d:X.N[i]?=↑x)(g:Gu X.env.scope x)(b:PE X e<|tM X.K E ca m)(f:swapsWith e (↑(.Name x pos')) pos.line X.env=pure false)(c:X.fn x=true\/X.env.scope.names.lookup x=↑.local) :
  PS X (.Assign [.Name x pos'] e pos) (tS X.K E ca mu<|AQ m<|AD i):=PS.weak (Va a d g b f c) λD O H h=>Nz (λϊ ϊ ϊ ϊ z=>Y8 z) h
theorem zml(c:PE X e<|tM X.K E ca m)(d:PG X tg<|E9 X.K b)(f:swapsWithSole [tg] e pos.line X.env=pure false)(g:swappedStores [tg] e X.env=pure none)(a:(assignEach [tg] X.env).map (·.2)=[assign tg X.env]) :
  PS X (.Assign [tg] e pos) (tS X.K E ca mu<|AQ m b):=PS.weak (Ll c d f g a) λD O H h=>Nz (λϊ ϊ ϊ ϊ z=>z) h
def UK(h:tS K E ca mu (CY i m) D O H):GS (tM K E ca m) (GG i) D O H:=by
 let(F,Y,R,S,q):=h;refine{F,Y,R,S,?_};unfold CY at q;cases g:m Y with
 |none=>erw[g]at q<;>symm|some r=>
  erw[g]at q;cases r with
  |x c=>exact λk n e=>q k n O R e.stp0 (S.ext e)|v t s=>
   cases s with
   |true=>symm|false=>
    intro l o x B b g1;have d :=g1;have p:=S.ext b
    by_cases f:i<Y.length;erw[f]at q;refine q l o _ _ (b.stp.mono ?_)<|p.set d (λj a ϊ w y=>S.apart b y j w) f
    rintro a ⟨j,z⟩;by_cases u:j=i;grind;erw[u]at z;exact .inl {(j),z};erw[f]at q<;>symm
theorem zmo(a:X.N.Nodup)(d:X.N[i]?=↑x)(g:Gu X.env.scope x)(b:PE X e<|tM X.K E ca m)(f:swapsWith e (↑(.Name x pos')) pos.line X.env=pure false)(c:X.fn x=true\/X.env.scope.names.lookup x=↑.local) :
  PS X (.Assign [.Name x pos'] e pos) (tS X.K E ca mu<|CY i m):=PS.weak (Va a d g b f c) λD O H h=>UK h
def s_for(hp:PassesOwn (model X.prog X.w) X.A X.env X.xe)(hc:X.calm=true)(hi:PI X tg iter<|tI X.K E ca mi)(N:PG X tg<|E9 X.K b)(hb:B9 X body<|tS X.K E ca mu u)(hs:∀x,foldedSetIterable iter X.env x=pure x) :
  PS X (.For tg iter body [] pos) (tS X.K E ca mu<|BN mi b u):=by
 refine PS.weak (znl hp hc hi N hb hs) λD O H h=>?_;let(F,Y,R,S,q):=h;refine{F,Y,R,S,?_};unfold BN at q;cases hm:mi Y with
 |none=>erw[hm]at q<;>symm|some r=>
  erw[hm]at q;cases r with
  |x c=>exact λs w e=>q s w O R e.stp0 (S.ext e)|v g bb=>
   intro Q H1 Γ e1 its;simp only at q;have S1:=S.ext e1;cases N:Ao b u g Y with
   |none=>erw[N]at q<;>symm|some out=>
    erw[N]at q;refine{λi mm V w=>mm=g.length - i/\i<=g.length/\∃s M L,Stp F H (tot R) s w (tot L)/\A3 Q s/\StR X.K s w V M L/\Ao b u (g.drop i) M=↑out,{g.length,by simp,ù _,Q,Y,R,e1.stp0,.refl _,S1,by simpa using N},?_};rintro i mm V w ⟨rfl,hle,s,M,L,st,sf,W,d⟩;let(i1,i2):=its i s w sf W.fh
    by_cases k:i<g.length;refine .inr {(i1 _<|Á k).1,λO2 U=>i+1<=g.length/\∃T f R2,Stp F H (tot R) T U (tot R2)/\A3 Q T/\StR X.K T U O2 f R2/\Ao b u (g.drop<|i+1) f=↑out,λO2 U n2=>{g.length - (i+1),by lia,rfl,n2},λx K y=>?_};let(t,P,rx):=(i1 _<|Á k).2 x K y;have S3:=W.ext P;rw[ô k]at d;unfold Ao at d;cases I:b g[i] M with
    |none=>erw[I]at d;cases d|some J=>
     erw[I]at d;refine{t,M,L,g[i],J,S3,rx,I,λσ3 R3 S4 Z=>?_};have m:Stp F H (tot R) t K<|tot R3:=(st.trans P.stp0).mono λa ⟨j,z⟩=>{j,Z j a z}
     refine{t,J,R3,S4,?_};cases hu:u J with
     |none=>erw[hu]at d;cases d|some o=>
      erw[hu]at d;cases o with
      |nx f=>exact λp A n C l G=>{k,p,f,C,m.trans l,(sf.trans P.ff).trans l.ff,G,d}|ct f=>exact λp A n C l G=>{k,p,f,C,m.trans l,(sf.trans P.ff).trans l.ff,G,d}|bk f=>cases d;exact λp A n C l G=>q p A n C (m.trans l) G|rt v=>cases d;exact λp A x B l r=>q p A x B (m.trans l) r|xc cc f=>cases d;exact λp A n C l G=>q p A n C (m.trans l) G
    have hi':i=g.length:=by lia
    subst hi';refine .inl {i2 rfl,?_};rw[List.drop_length]at d;unfold Ao at d;cases d;exact q s w V L st W
def s_wh(V:PassesOwn (model X.prog X.w) X.A X.env X.xe)(T:PT X c<|BS X.K E ca mc)(Q:B9 X body<|tS X.K E ca mu u):PS X (.While c body [] pos)<|tS X.K E ca mu<|Fs mc u:=by
 refine PS.weak (zgr V T Q) λD O H h=>?_;let(F,Y,R,S,q):=h;cases J:Fs mc u Y with
 |none=>erw[J]at q<;>symm|some out=>
  erw[J]at q;let(n,U):=zgh J;refine{λy C G=>∃A s l,Stp F H (tot R) A G (tot l)/\StR X.K A G C s l/\DI mc u y s=↑out,{n,F,Y,R,Stp.refl S.fh,S,U},?_}
  rintro y C G ⟨A,s,l,st,I,a⟩;cases y with
  |zero=>cases a|succ y=>
   refine{A,s,l,I,?_};unfold DI at a;cases L:mc s with
   |none=>erw[L]at a;cases a|some r=>
    erw[L]at a;cases r with
    |x P=>cases a;exact λi w z=>q i w C l (st.trans z.stp0) (I.ext z)|v t bb=>
     cases t with
     |bl k=>
      intro i w z;have K:=I.ext z;have d :=st.trans z.stp0;cases k with
      |false=>cases a;exact Jx (q i w C l d K)|true=>
       simp only at a;refine Jw {λN w=>∃i b R2,Stp F H (tot R) i w (tot R2)/\StR X.K i w N b R2/\DI mc u y b=↑out,λZ H3 W=>{y,Ĕ _,W},i,s,l,K,?_};cases M:u s with
       |none=>erw[M]at a;cases a|some o=>
        erw[M]at a;cases o with
        |nx b=>exact λf j e m g p=>{f,b,m,d.trans g,p,a}|ct b=>exact λf j e m g p=>{f,b,m,d.trans g,p,a}|bk b=>cases a;exact λf j e m g p=>q f j e m (d.trans g) p|rt v=>cases a;exact λf j x B g r=>q f j x B (d.trans g) r|xc P b=>cases a;exact λf j e m g p=>q f j e m (d.trans g) p
     |_=>cases a
end
section
variable {K:k6}{F H:Hp}{l:kL}{xs:kK}{Rr:Nat->Rg}{p:Addr}{o:HO}
def Rp.own_inv(h:Rp K F H (.nd true k l) x A)(n:k.isT=false):∃p xs Rr,x=.ref p/\A=(λa=>a=p\/∃j,Rr j a)/\F p=none/\H p=↑(.lst xs)/\RpO K F H l xs Rr/\(∀j,¬ Rr j p)/\JN k p:=by
 cases h with
 |own hk R f h e c d dp o=>exact{_,_,R,rfl,rfl,f,Y3 n▸h,{(e),c,d,o},dp,hk}
theorem IK(hk:JN k p)(r:RpO K F H l xs Rr)(f:F p=none)(h:H p=↑(.lst xs))(dp:∀j,¬ Rr j p)(n:k.isT=false):Rp K F H (.nd true k l) (.ref p) (λa=>a=p\/∃j,Rr j a):=.own hk Rr f (Y3 n▸h) r.len r.rep r.dis dp r.out
theorem RpO.upd(r:RpO K F H l xs Rr)(dp:∀j,¬ Rr j p):RpO K F (L2.upd H p o) l xs Rr:={r.len,λi t x b c=>(r.rep i t x b c).frame (.refl _) λa z=>{As<|λe=>dp i<|e▸z,(r.dom z).1},r.dis,r.out}
theorem Rp.upd(r:Rp K F H t x A)(dp:¬ A p):Rp K F (L2.upd H p o) t x A:=r.frame (.refl _) λa z=>{As<|λe=>dp<|e▸z,(r.dom z).1}
def RpO.set(r:RpO K F H l xs Rr)(m:j0<l.length)(rt:Rp K F H t y B)(d:∀j a,j≠j0->Rr j a->¬ B a):RpO K F H (l.set j0 t) (xs.set j0 y) (λj=>if j=j0 then B else Rr j):=by
 have n:=r.len;refine{by simp[n],λi o p g h=>?_,λi k a e f c=>?_,λi a z=>?_};by_cases b:i=j0;subst b;rw[é m]at g;rw[é<|by lia]at h;cases g;cases h;simpa using rt;rw[ã<|Ë b]at g h;simpa[b] using r.rep i o p g h;by_cases b:i=j0;erw[b,Å]at f;have hk:¬ k=j0:=λz=>e<|b.trans z.symm
 erw[hk,Ã]at c;exact d k a hk c f;erw[b,Ã]at f;by_cases hk:k=j0;erw[hk,Å]at c;exact d i a b f c;erw[hk,Ã]at c;exact r.dis i k a e f c;by_cases b:i=j0;simp[b];lia;erw[b,Ã]at z;simpa using r.out i a z
variable {O:L2.St}{Y:AN}{R:Nat->Rg}
def StR.upd(S:StR K F H O Y R){l B:Rg}(D:Y[i]?=↑↑t)(E:O[i]?=↑↑x)(q:R i p)(G:Rp K F (L2.upd H p o) t' x l)(m:∀a,l a->R i a\/B a)(s:∀j a,R j a->¬ B a) :
  StR K F (L2.upd H p o) O (Y.set i ↑t') (λj=>if j=i then l else R j)/\Stp F H (λa=>Pu.tot R a\/B a) F (L2.upd H p o) (Pu.tot λj=>if j=i then l else R j):=by
 have C :=(S.dom q).1;have v :=(Ð.mp D).1
 have g:A3 F<|L2.upd H p o:=λb u e=>by
  rw[As (λz=>by rw[z,C]at e;cases e)];exact S.fh b u e
 refine{{g,by simpa using S.len,λj r e=>?_,λj a z=>?_,λj k a h f d=>?_},{.refl _,g,λb u n e=>?_,λb ⟨j,z⟩=>?_,λb u e=>.inl e}};by_cases c:j=i;subst c;rw[é v]at e;cases e;exact{x,E,by simpa using G};rw[ã<|Ë c]at e;let(y,A,r1):=S.rep j r e;exact{y,A,by simpa[c] using r1.upd (λz=>S.dis j i p c z q)}
 by_cases c:j=i;subst c;exact{t',é v};erw[c,Ã]at z;let(r,e):=S.out j a z;exact{r,by rw[ã<|Ë c];exact e}
 by_cases c:j=i;erw[c,Å]at f;have hk:¬ k=i:=λz=>h<|c.trans z.symm
 erw[hk,Ã]at d;rcases m a f with w|w;exact S.dis i k a (Ë hk) w d;exact s k a d w;erw[c,Ã]at f;by_cases hk:k=i;erw[hk,Å]at d;rcases m a d with w|w;exact S.dis i j a (Ë c) w f;exact s j a f w;erw[hk,Ã]at d;exact S.dis j k a h f d;rw[As<|λz=>n<|.inl (by rw[z];exact{(i),q})];exact e;by_cases c:j=i;erw[c,Å]at z;rcases m b z with w|w;exact .inl<|.inl {(i),w}
 exact .inl<|.inr w
 erw[c,Ã]at z;exact .inl<|.inl {(j),z}
end
def ET(Y:AN)(i:Nat):Option<|Kd×kL:=match Y[i]? with
 |some (↑(.nd true k l))=>(match k with
  |.tup=>none|k=>↑(k,l))
 |ϊ=>none
def Lr(h:ET Y i=↑(k,l)):Y[i]?=↑(↑(.nd true k l)):=by
 unfold ET at h;grind
def G3(h:ET Y i=↑(k,l)):k.isT=false:=by
 unfold ET at h;cases k<;>first|rfl|(exfalso;grind)
def Cg(i:Nat)(m:AJ):AH:=λY=>match ET Y i with
 |some (kd,l)=>(match m Y with
  |some (.v t false)=>if l.length<Bj then ↑(.nx<|Y.set i<|↑(.nd true kd<|l++[t])) else none
  |some (.v ϊ true)=>none|some (.x c)=>↑(.xc c Y)|none=>none)
 |none=>none
def Fu(i:Nat)(m:AJ):AH:=λY=>match ET Y i with
 |some (kd,l)=>(match m Y with
  |some (.v (.nd ϊ .lst r) false)=>if l.length+r.length<=Bj then ↑(.nx<|Y.set i<|↑(.nd true kd<|l++BP r)) else none
  |some (.v ϊ ϋ)=>none|some (.x c)=>↑(.xc c Y)|none=>none)
 |none=>none
def HG(i:Nat)(mk m:AJ):AH:=λY=>match m Y with
 |some (.v t false)=>(match ET Y i with
  |some (kd,l)=>(match mk Y with
   |some (.v (.int k) ϊ)=>(match CV l.length k with
    |some j=>↑(.nx<|Y.set i<|↑(.nd true kd<|l.set j t))|none=>none)
   |some (.v ϊ ϋ)=>none|some (.x c)=>↑(.xc c Y)|none=>none)
  |none=>none)
 |some (.v ϊ true)=>none|some (.x c)=>↑(.xc c Y)|none=>none
def Lq:kH->Option (kL)
 |some (.nd true .lst l)=>↑l|ϊ=>none
def Ft(i:Nat)(mk mn m:AJ):AH:=λY=>match m Y with
 |some (.v t false)=>(match ET Y i with
  |some (kd,l)=>(match mk Y with
   |some (.v (.int k) ϊ)=>(match CV l.length k with
    |some j=>(match Lq l[j]? with
     |some r=>(match mn Y with
      |some (.v (.int n) ϊ)=>(match CV r.length n with
       |some a=>↑(.nx<|Y.set i<|↑(.nd true kd<|l.set j<|.own<|r.set a t))|none=>none)
      |some (.v ϊ ϋ)=>none|some (.x c)=>↑(.xc c Y)|none=>none)
     |none=>none)
    |none=>none)
   |some (.v ϊ ϋ)=>none|some (.x c)=>↑(.xc c Y)|none=>none)
  |none=>none)
 |some (.v ϊ true)=>none|some (.x c)=>↑(.xc c Y)|none=>none
section
variable {mu:Bool}{X:Cx}{E:L2.St->XK}{ca:Str->Value}{O:L2.St}{H:Hp}{K:k6}{m mk mn:AJ}{D:Ends}{e k n:Expr}{pos apos cpos p1 pos2 pos3:Pos}{i:Nat}{x:Str}
def Rb(g:EL K F H R (.int j) b y B):y=.int j:=by
 cases b with
 |true=>let(_,A,_,r):=g;exact r.int_inv
 |false=>exact(g).int_inv
def Uc{l:kL}{b:Nat->Rg}(h:∃j,(λj=>if j=l.length then B else b j) j a):(∃j,b j a)\/B a:=Ud h
def L0{b:Nat->Rg}(h:∃j,(λj=>if j=j0 then B else b j) j a):(∃j,b j a)\/B a:=by
 grind
def s_app(hN:X.N[i]?=↑x)(hv:E5 X.env.scope x)(hd:(x == "__debug__")=false)(A:(x == "__classdict__")=false)(he:PE X e<|tM X.K E ca m)(G:starEach [e] X.env=[(false,eval e X.env)])(d:(apos.endLine == cpos.line)=true) :
  PS X (.Expr (.Call (.Attribute (.Name x p1) "append" apos) [e] [] cpos) pos) (tS X.K E ca mu<|Cg i m):=by
 refine PS.weak (QA (Ln Š PySem.F.slot_list_append PySem.F.type_list_append zen (G1 hN hv hd A) (Es he Fe G) rfl (by rw[G];rfl) d G rfl) rfl) λD O H h=>?_;let(F,Y,R,S,q):=h;unfold Cg at q;cases f:ET Y i with
 |none=>erw[f]at q<;>symm|some kl=>
  let(kd,l):=kl;erw[f]at q;have W:=Lr f;let(y,T,ry):=S.rep i _ W;let(p,xs,Rr,rfl,s,fp,g,J,dp,u):=ry.own_inv<|G3 f;refine{_,T,.inl {rfl,xs,Ab.of g},F,Y,R,S,?_};cases V:m Y with
  |none=>erw[V]at q<;>symm|some r=>
   erw[V]at q;cases r with
   |x c=>exact λF' H' e=>q F' H' O R e.stp0 (S.ext e)|v t bb=>
    cases bb with
    |true=>symm|false=>
     intro Q H1 y B b g1;have o :=g1
     by_cases I:l.length<Bj;erw[I,Å]at q;have S1:=S.ext b;have K:=J.ext b;have C:=b.hh _ _ g;have Z:¬ B p:=λz=>by rw[b.nb p z]at g;cases g
     have n :=(ry.ext b |>.dom (by rw[s];exact .inl rfl)).1;refine{p,xs,y,rfl,rfl,C,by rw[<- J.len,<- GB];exact I,?_};have L:RpO X.K Q (upd H1 p<|.lst<|xs++[y]) (l++[t]) (xs++[y]) _:=(K.upd dp).snoc (o.upd Z) λj a N P=>J.apart b P j N
     have k:∀j,¬ (if j=l.length then B else Rr j) p:=λj z=>by
      by_cases U:j=l.length;erw[U,Å]at z;exact Z z;erw[U,Ã]at z;exact dp j z
     have r2:=IK u L n Ce k<|G3 f
     let(S3,M):=S1.upd W T (by rw[s];exact .inl rfl) r2 (λa z=>by
      rw[s];rcases z with z|z;exact .inl<|.inl z
      rcases Uc z with w|w;exact .inl<|.inr w
      exact .inr w)<|λj a N P=>S.apart b P j N
     exact q Q _ O _ (b.stp.trans M) S3;erw[I,Ã]at q<;>symm
def s_ext(hN:X.N[i]?=↑x)(hv:E5 X.env.scope x)(hd:(x == "__debug__")=false)(J:(x == "__classdict__")=false)(he:PE X e<|tM X.K E ca m)(M:starEach [e] X.env=[(false,eval e X.env)])(f:(apos.endLine == cpos.line)=true) :
  PS X (.Expr (.Call (.Attribute (.Name x p1) "extend" apos) [e] [] cpos) pos) (tS X.K E ca mu<|Fu i m):=by
 refine PS.weak (QA (Ln Š PySem.F.slot_list_extend PySem.F.type_list_extend zem (G1 hN hv hd J) (Es he Fe M) rfl (by rw[M];rfl) f M rfl) rfl) λD O H h=>?_;let(F,Y,R,S,q):=h;unfold Fu at q;cases n:ET Y i with
 |none=>erw[n]at q<;>symm|some kl=>
  let(kd,l):=kl;erw[n]at q;have ht:=Lr n;let(y,ey,ry):=S.rep i _ ht;let(p,xs,A,rfl,G,fp,hp,ro,dp,I):=ry.own_inv<|G3 n;refine{_,ey,.inl {rfl,xs,Ab.of hp},F,Y,R,S,?_};cases hm:m Y with
  |none=>erw[hm]at q<;>symm|some r=>
   erw[hm]at q;cases r with
   |x c=>exact λF' H' e=>q F' H' O R e.stp0 (S.ext e)|v t bb=>
    cases t with
    |nd o P r=>
     cases P with
     |lst=>
      cases bb with
      |true=>symm|false=>
       intro F1 H1 y B e1 g1;let(w,g,_,r2):=EL.frz S e1 g1;have u :=r2;rw[T.share]at u;let(p2,ys,rfl,_,nn,s):=Dp u
       by_cases N:l.length+r.length<=Bj;erw[N,Å]at q;have S1:=S.ext g;have Q:=ro.ext g;have L:=g.hh _ _ hp;have C :=(ry.ext g |>.dom (by rw[G];exact .inl rfl)).1
       have K :=nn;have lr :=by have:=s.1;rw[FO,À]at this;exact this
       refine{p,p2,xs,ys,rfl,rfl,L,g.fh _ _ K,by rw[<- ro.len,<- lr,<- GB];exact N,?_}
       have app:∀(l2 ) (d ),Ae X.K w l2 d->∀(l ) (xs ) (k ),RpO X.K w k l xs A->RpO X.K w k (l++l2) (xs++d) A:=by
        intro l2
        induction l2 with
        |nil=>intro d hk l xs k b;rw[hk.inv0,ċ,ċ];exact b|cons t l2 ih=>
         intro d hk l xs k b;let(y,Z,rfl,r1,V):=hk.inv;have h2:=b.snoc (r1.any)<|λϊ ϊ ϊ z=>z
         have e3:(λj=>if j=l.length then R0 else A j)=A:=funext λj=>by
          by_cases hj:j=l.length;erw[hj,Å];exact funext λa=>propext {λz=>z.elim,λz=>absurd (b.out _ a z)<|æ _};erw[hj,Ã]
         rw[e3]at h2;have h3:=ih Z V (l++[t]) (xs++[y]) k h2
         simpa using h3
       have U:=app _ _ s l xs _<|Q.upd (o:=.lst<|xs++ys) dp;have r3:=IK I U C Ce dp<|G3 n;let(S3,W):=S1.upd ht ey (by rw[G];exact .inl rfl) r3 (λa z=>.inl (by rw[G];exact z))<|λj a z1 z2=>z2
       exact q w _ O _ ((g.stp).trans W) S3;erw[N,Ã]at q<;>symm
     |_=>symm
    |_=>symm
def s_sto(hN:X.N[i]?=↑x)(hv:E5 X.env.scope x)(hd:(x == "__debug__")=false)(N:(x == "__classdict__")=false)(he:PE X e<|tM X.K E ca m)(hk:PE X k<|tM X.K E ca mk)(hs:swapsWithSole [.Subscript (.Name x p1) k pos2] e pos.line X.env=pure false)(hw:swappedStores [.Subscript (.Name x p1) k pos2] e X.env=pure none)
  (ha : ∀ v, assign (.Subscript (.Name x p1) k pos2) X.env v = (do
   let ov <- holding [v]<|eval (.Name x p1) X.env;let iv <- holding [v,ov] (eval k X.env)
   standAt pos2
   holding [v,ov,iv] (setItem ov iv v)
   release [v,ov,iv] [])) :
  PS X (.Assign [.Subscript (.Name x p1) k pos2] e pos) (tS X.K E ca mu<|HG i mk m):=by
 refine PS.weak (Ll he (QE (G1 hN hv hd N) hk Uj ha) hs hw rfl) λD O H h=>?_;let(F,Y,R,S,q):=h;refine{F,Y,R,S,?_};unfold HG at q;cases hm:m Y with
 |none=>erw[hm]at q<;>symm|some r=>
  erw[hm]at q;cases r with
  |x c=>exact λG I e=>q G I O R e.stp0 (S.ext e)|v t bb=>
   cases bb with
   |true=>symm|false=>
    intro F1 H1 y B d g1;have K :=g1;simp only at q;cases n:ET Y i with
    |none=>erw[n]at q<;>symm|some kl=>
     let(kd,l):=kl;erw[n]at q;have o:=S.ext d;have ht:=Lr n;let(y2,ey,ry):=o.rep i _ ht;refine{y2,ey,F1,Y,R,o,?_};cases g:mk Y with
     |none=>erw[g]at q<;>symm|some r=>
      erw[g]at q;cases r with
      |x c=>exact λG I e=>q G I O R ((d.stp0).trans e.stp0) (o.ext e)|v tk bk=>
       cases tk with
       |int kk=>
        simp only at q;cases A:CV l.length kk with
        |none=>erw[A]at q<;>symm|some j=>
         erw[A]at q;intro Z H2 z C s g2;have hz:=Rb g2;subst hz;have S2:=o.ext s;have T:=ry.ext s;let(p,xs,Rr,rfl,u,fp,hp,ro,dp,M):=T.own_inv<|G3 n;have P:=(Jv A).2.1;have L:=K.ext s
         have pB :=λz=>by
          have:R i p:=by rw[u];exact .inl rfl
          exact S.apart d z i this
         refine{p,xs,kk,j,rfl,rfl,hp,by rw[<- ro.len];exact A,?_};have Q:RpO X.K Z (upd H2 p<|.lst<|xs.set j y) (l.set j t) (xs.set j y) _:=(ro.upd dp).set P (L.upd pB) λb a ϊ V W=>S.apart d W i (by rw[u];exact .inr {(b),V})
         have J:∀b,¬ (if b=j then B else Rr b) p:=λb z=>by
          by_cases f:b=j;erw[f,Å]at z;exact pB z;erw[f,Ã]at z;exact dp b z
         have r3:=IK M Q fp Ce J<|G3 n
         let(S3,U):=S2.upd ht ey (by rw[u];exact .inl rfl) r3 (λa z=>by
          rw[u];rcases z with z|z;exact .inl<|.inl z
          rcases L0 z with w|w;exact .inl<|.inr w
          exact .inr w)<|λj a V W=>S.apart d W j V
         exact q Z _ O _ ((d.stp.trans s.stp0).trans U) S3
       |_=>symm
set_option tactic.hygienic true in
def zmj(hN:X.N[i]?=↑x)(hv:E5 X.env.scope x)(hd:(x == ("__debug__":Str))=false)(hcd:(x == ("__classdict__":Str))=false)(he:PE X e<|tM X.K E ca m)(hk:PE X k<|tM X.K E ca mk)(hn:PE X n<|tM X.K E ca mn)(hpl:Kk k)(hs:swapsWithSole [.Subscript (.Subscript (.Name x p1) k pos2) n pos3] e pos.line X.env=pure false)(hw:swappedStores [.Subscript (.Subscript (.Name x p1) k pos2) n pos3] e X.env=pure none)
  (ha : ∀ v, assign (.Subscript (.Subscript (.Name x p1) k pos2) n pos3) X.env v = (do
   let ov <- holding [v]<|eval (.Subscript (.Name x p1) k pos2) X.env;let iv <- holding [v,ov] (eval n X.env)
   standAt pos3
   holding [v,ov,iv] (setItem ov iv v)
   release [v,ov,iv] [])) :
  PS X (.Assign [.Subscript (.Subscript (.Name x p1) k pos2) n pos3] e pos) (tS X.K E ca mu<|Ft i mk mn m):=by
 refine PS.weak (Ll he (QE (QF YN (G1 hN hv hd hcd) hk hpl) hn Uj ha) hs hw rfl) λD O H h=>?_;let(F,Y,R,S,q):=h;refine{F,Y,R,S,?_};unfold Ft at q;cases hm:m Y with
 |none=>erw[hm]at q<;>symm|some r=>
  erw[hm]at q;cases r with
  |x c=>exact λZ H' e=>q Z H' O R e.stp0 (S.ext e)|v t bb=>
   cases bb with
   |true=>symm|false=>
    intro F1 H1 y B L g1;have g1' :=g1;simp only at q;cases ho:ET Y i with
    |none=>erw[ho]at q<;>symm|some kl=>
     let(kd,l):=kl;erw[ho]at q;have S1:=S.ext L;have ht:=Lr ho;let(y2,ey,ry):=S1.rep i _ ht;refine{y2,ey,F1,Y,R,S1,?_};cases hkk:mk Y with
     |none=>erw[hkk]at q<;>symm|some r=>
      erw[hkk]at q;cases r with
      |x c=>exact λZ H' e=>q Z H' O R ((L.stp0).trans e.stp0) (S1.ext e)|v tk bk=>
       cases tk with
       |int kk=>
        simp only at q;cases hj:CV l.length kk with
        |none=>erw[hj]at q<;>symm|some j=>
         erw[hj]at q;cases W:Lq l[j]? with
         |none=>erw[W]at q<;>symm|some r=>
          erw[W]at q;intro F2 H2 z C e2 g2;have hz:=Rb g2;subst hz;have S2:=S1.ext e2;have ry2:=ry.ext e2;let(p,xs,Rr,rfl,V,fp,hp,ro,dp,hOw):=ry2.own_inv<|G3 ho;have hjl:=(Jv hj).2.1;have P:j<xs.length:=by have:=ro.len;lia
          have hlj :=by
           unfold Lq at W;split at W;rename_i e;cases W;exact e;cases W
          have rk:=ro.rep j _ _ hlj<|Á P
          have F6:AM xs kk=↑xs[j]:=by
           unfold AM;rw[<- ro.len,hj];exact Á P
          refine{p,xs,kk,xs[j],rfl,rfl,Ab.of hp,F6,F2,Y,R,S2,?_};cases hnn:mn Y with
          |none=>erw[hnn]at q<;>symm|some r'=>
           erw[hnn]at q;cases r' with
           |x c=>exact λZ H' e=>q Z H' O R ((L.stp0.trans e2.stp0).trans e.stp0) (S2.ext e)|v tn bn=>
            cases tn with
            |int nn=>
             simp only at q;cases N:CV r.length nn with
             |none=>erw[N]at q<;>symm|some u=>
              erw[N]at q;intro F3 H3 z C T g3;have hz:=Rb g3;subst hz;have S3:=S2.ext T;have g:=ro.ext T;have hp3:=T.hh _ _ hp;have Gj :=(ry2.ext T |>.dom (by rw[V];exact .inl rfl)).1
              have rk3:=rk.ext T;let(J,ys,Rq,ep,A,fp2,hp2,rq,dq,_):=rk3.own_inv rfl;have g3':=(g1'.ext e2).ext T;have U:∀a,Rr j a->R i a:=λa z=>by rw[V];exact .inr {(j),z}
              have f:Rr j J:=by rw[A];exact .inl rfl
              have p2B :=λz=>S.apart L z i<|U _ f
              have pp2:p≠J:=λz=>dp j<|z▸f
              have hj2l:=(Jv N).2.1;rw[ep];refine{J,ys,nn,u,rfl,rfl,hp2,by rw[<- rq.len];exact N,?_};have rq2:RpO X.K F3 (upd H3 J<|.lst<|ys.set u y) (r.set u t) (ys.set u y) _:=(rq.upd dq).set hj2l (g3'.upd p2B) λb a ϊ M K=>S.apart L K i<|U _ (by rw[A];exact .inr {(b),M})
              have dq2:∀b,¬ (if b=u then B else Rq b) J:=λb z=>by
               by_cases d:b=u;erw[d,Å]at z;exact p2B z;erw[d,Ã]at z;exact dq b z
              have rrow:=IK (k:=.lst) trivial rq2 fp2 Ce dq2 rfl;have Q :=λb hne z=>ro.dis b j J hne z f
              have xsj:xs.set j (.ref J)=xs:=by
               have :=ep;rw[<- this];exact List.set_getElem_self P
              have ro4:RpO X.K F3 (upd H3 J<|.lst<|ys.set u y) (l.set j<|.own<|r.set u t) xs (λb=>if b=j then (λa=>a=J\/∃b,(if b=u then B else Rq b) a) else Rr b):=by
               refine{by simpa using g.len,λI t' x' h1 h2=>?_,λI k' a hik M K=>?_,λI a z=>?_};by_cases s:I=j;subst s;rw[é hjl]at h1;cases h1;rw[Á P]at h2;cases h2;rw[ep];simpa using rrow;rw[ã<|Ë s]at h1;have:=(g.rep I t' x' h1 h2).upd (o:=.lst<|ys.set u y) (Q I s)
               simpa[s] using this
               have sub:∀a,(a=J\/∃b,(if b=u then B else Rq b) a)->Rr j a\/B a:=λa z=>by
                rcases z with z|z;exact .inl (by rw[z];exact f);rcases L0 z with w|w;exact .inl (by rw[A];exact .inr w);exact .inr w
               by_cases s:I=j;erw[s,Å]at M;have G:¬ k'=j:=λz=>hik<|s.trans z.symm
               erw[G,Ã]at K;rcases sub a M with w|w;exact g.dis j k' a (Ë G) w K;exact S.apart L w i (by rw[V];exact .inr {(k'),K});erw[s,Ã]at M;by_cases G:k'=j;erw[G,Å]at K;rcases sub a K with w|w;exact g.dis I j a s M w;exact S.apart L w i (by rw[V];exact .inr {(I),M});erw[G,Ã]at K;exact g.dis I k' a hik M K;by_cases s:I=j;simpa[s] using hjl;erw[s,Ã]at z;simpa using g.out I a z
              have dp3:∀b,¬ (if b=j then (λa=>a=J\/∃b,(if b=u then B else Rq b) a) else Rr b) p:=λb z=>by
               by_cases d:b=j;erw[d,Å]at z;rcases z with z|z;exact pp2 z;rcases L0 z with w|w;exact dp j (by rw[A];exact .inr w);exact S.apart L w i (by rw[V];exact .inl rfl);erw[d,Ã]at z;exact dp b z
              have rall:=IK hOw ro4 Gj (by rw[As pp2];exact hp3) dp3<|G3 ho
              let(S4,st4):=S3.upd ht ey (U _ f) rall (λa z=>by
               rw[V];rcases z with z|⟨b,z⟩;exact .inl<|.inl z
               by_cases d:b=j;erw[d,Å]at z;rcases z with z|z;exact .inl<|.inr {j,by rw[z];exact f}
               rcases L0 z with w|w;exact .inl<|.inr {j,by rw[A];exact .inr w}
               exact .inr w
               erw[d,Ã]at z;exact .inl<|.inr {(b),z})<|λj a M K=>S.apart L K j M
              exact q F3 _ O _ (((L.stp.trans e2.stp0).trans T.stp0).trans st4) S4
            |_=>symm
       |_=>symm
def J5(i j:Nat)(ms:Ar):AH:=λY=>match ms Y with
 |some (.v a false)=>(match a with
  |[t,u]=>if i<Y.length/\j<Y.length then ↑(.nx<|(Y.set i ↑t).set j ↑u) else none
  |ϊ=>none)
 |some (.v ϊ true)=>none|some (.x c)=>↑(.xc c Y)|none=>none
def s_par{px py pt}(L:X.calm=true)(J:X.N.Nodup)(M:X.N[i]?=↑x)(N:X.N[j]?=↑y)(g:i≠j)
  (T:X.env.scope.names.lookup x=↑.local) (U:X.env.scope.names.lookup y=↑.local) (K:PA X [a,b]<|CA X.K E ca ms)
  (Q:swappedStores [.Tuple [.Name x px,.Name y py] kt pt] (.Tuple [a,b] k2 pt2) X.env=pure (↑[x,y]))
  (P:swapsWithSole [.Tuple [.Name x px,.Name y py] kt pt] (.Tuple [a,b] k2 pt2) pos.line X.env=pure false) :
  PS X (.Assign [.Tuple [.Name x px,.Name y py] kt pt] (.Tuple [a,b] k2 pt2) pos) (tS X.K E ca mu<|J5 i j ms):=by
 refine PS.weak (znk L J M N g T U K Q P) λD O H h=>?_;let(F,Y,R,S,q):=h;refine{F,Y,R,S,?_};unfold J5 at q;cases o:ms Y with
 |none=>erw[o]at q<;>symm|some r=>
  erw[o]at q;cases r with
  |x c=>exact λp w e=>q p w O R e.stp0 (S.ext e)|v W I=>
   cases I with
   |true=>symm|false=>
    intro s A xs n rs;simp only at q
    match W,q,rs with
    |[t,u],q,rs=>
     simp only at q;by_cases f:i<Y.length/\j<Y.length;erw[f,Å]at q;let(Z,xs1,rfl,r1,l):=rs.inv;let(x2,xs2,rfl,V,m):=l.inv;cases m.inv0;have B:=S.ext n;have C:=B.set ((r1).any) (λϊ ϊ ϊ ϊ z=>z.elim) f.1
     have G:=C.set ((V).any) (λϊ ϊ ϊ ϊ z=>z.elim)<|by simpa using f.2
     refine{Z,x2,rfl,q s A _ _ (n.stp0.mono ?_) G};rintro a ⟨k,z⟩;by_cases hk:k=j;erw[hk,Å]at z;exact z.elim;erw[hk,Ã]at z;by_cases d:k=i;erw[d,Å]at z;exact z.elim;erw[d,Ã]at z;exact{(k),z};erw[f,Ã]at q<;>symm
    |[],q,rs=>symm|[ϊ],q,rs=>symm|ϊ::ϋ::ό::ύ,q,rs=>symm
end
section
variable {X:Cx}{E:L2.St->XK}{ca:Str->Value}{O:L2.St}{H F:Hp}{K:k6}{m mk:AJ}{ms:Ar}{D:Ends}{e:Expr}{es:kC}{pos apos cpos p1 p2:Pos}{i j:Nat}{x y:Str}{Y:AN}{R:Nat->Rg}{mu:Bool}
def Rp.kind(h:Rp K F H (.nd true k l) (.ref p) A)(o:JN k' p)(n:k.isT=false)(c:k'.isT=false):Rp K F H (.nd true k' l) (.ref p) A:=by
 let(g,xs,f,e,rfl,a,b,d,dp,_):=h.own_inv n;cases e;exact IK o d a b dp c
def VB(t:T)(Y:AN):Option Out:=match Y[(0:Nat)]? with
 |some (↑(.nd true (.pin q) l))=>↑(.rt<|.own [t,.nd true (.pin q) l])|ϊ=>none
set_option genInjectivity true in
inductive Mo where
 |ok (v:T) (Y:AN)|exc (c:Str) (Y:AN)
def gAll(g:kL->Option Ru)(l ts:kL)(r:T×kL):Prop:=∀p,g (.nd true (.pin p) l::ts)=↑(.ok<|.own [r.1,.nd true (.pin p) r.2])
open Classical in
def gMu(g:kL->Option Ru)(l ts:kL):Option<|T×kL:=if h:∃r,gAll g l ts r then ↑h.choose else none
def mMut(i:Nat)(g:kL->Option Ru)(ms:Ar):AN->Option Mo:=λY=>match ET Y i with
 |some (kd,l)=>(match ms Y with
  |some (.v b false)=>(match gMu g l b with
   |some (v,a)=>if v.flat then ↑(.ok v<|Y.set i<|↑(.nd true kd a)) else none
   |none=>none)
  |some (.v ϊ true)=>none|some (.x c)=>↑(.exc c Y)|none=>none)
 |none=>none
def Fp(K:k6)(ca:Str->Value)(g:kL->Option Ru):Sp:=λf H Q E=>∃F p l e A d,A3 F H/\f=.ref p::d/\Rp K F H (.nd true (.pin p) l) (.ref p) A/\Ae K F e d/\match g (.nd true (.pin p) l::e) with
 |some (.ok t)=>∀b a x B,Stp F H A b a B->Wr K true b a t x B->Q x a|some (.exc c)=>∀b a,Stp F H A b a R0->XE E ca c b a|none=>False
variable {mm:AN->Option Mo}
end
abbrev Vo(A:Around):Around:={ A with handled:=none }
structure FnS(P:Program)(w:World)(K:k6)(mg:Str->Option Value)(base:Heap)(k:Nat)(f:Addr)(fd:FuncData)(p:Str)(sp:Sp):Prop where
 run:∀(A:Around) (outer:List Env) (s:Shared) (H:Hp) (args:Args) (a:Addr) (Q:VK),A.handled=↑(.ref a)->(∃C,Kp H a C)->Room k (Vo A)->Env0 P w K mg base A outer s H->BindsTo s fd args [(p,.ref a)]->sp [.ref a] H Q E0 ->
  codeAny (model P w) A (.call (.ref f) args) (CR F8 outer P w H s Q E0) s
structure DefS(P:Program)(w:World)(K:k6)(mg:Str->Option Value)(base:Heap)(k:Nat)(x p:Str)(sp:Sp) where
 f:Addr
 fd:FuncData
 ok:FnS P w K mg base k f fd p sp
 m:mg x=↑(.ref f)
 kp:W.keepIn K (.ref f)=true
 b:C6 K fd [p] []
section
variable {X:Cx}{pz:List<|Addr×Obj}{O:L2.St}{H:Hp}{s:Shared}{a:Addr}{kvs:List<|Key×V}
end
section
variable {X:Cx}
def tDicO:TE:=λϊ H Q=>∀p,H p=none->Q (.ref p) (upd H p<|.dK [])
theorem zjw:PE X (.Dict [] [] pos) tDicO:=λa s O H Q I h=>by
 refine wpAny_Dict_empty {.ref s.heap.objs.size,_,I.laid (λϊ ϊ q=>Ñ _ q) (Ç _)<|zhx s.heap I.big,rfl,h _<|I.hok.fresh<|Ç _}
variable {E:L2.St->XK}{ca:Str->Value}{m mk mv:AJ}{e k:Expr}{pos p1 pos2:Pos}{mu:Bool}
end
section
variable {X:Cx}{E:L2.St->XK}{ca:Str->Value}{m mk:AJ}{e k:Expr}{pos p1 pos2:Pos}{mu:Bool}{i:Nat}{x:Str}
end
set_option tactic.hygienic true in
def zoc(b:X.A.units+64<cLine):Ac X (compareOp .NotEq)<|Bg X.K CH:=by
 intro l s O H x y v u Q I g i h;let(F,m,n,r,fh,r1,f,e,q):=h;unfold CH at e;split at e
 cases e;rename_i a;unfold Gn E3 at a;rw[Ä,Ä,Ä,Ä,ë]at a;let(j,c):=GY I fh (r1.any) a.1.1.1 g;let(k,d):=GY I fh (f.any) a.1.2.1 i;exact SeqAt.compareNe_reads c d a.1.1.2 a.1.2.2 (Zp b a.2) {.bl _,H,I,rfl,q.bl fh}
 cases e
def StR.frz{K }       (S:StR K F H O Y R)(h:Y[i]?=↑↑t):StR K (Pu.frz F H<|R i) H O (Y.set i ↑t.share) (λj=>if j=i then R0 else R j):=by
 let(x,ex,r):=S.rep i t h;have m:i<Y.length:=(Ð.mp h).1;have n:∀a,R i a->F a=none:=λa z=>(r.dom z).1
 refine{Iu S.fh,by simpa using S.len,λj g e=>?_,λj a z=>?_,λj k a f c d=>?_};by_cases b:j=i;subst b;rw[é m]at e;cases e;exact{x,ex,by simpa using r.share (FD n) λa u z q=>by rw[E2 z];exact q};rw[ã<|Ë b]at e;let(y,l,r1):=S.rep j g e;refine{y,l,?_};erw[b,Ã]
 exact r1.frame (FD n) λa z=>{rfl,by
  rw[FC<|λo=>S.dis j i a b z o]
  exact(r1.dom z).1}
 by_cases b:j=i;erw[b,Å]at z;exact z.elim;erw[b,Ã]at z;let(g,e):=S.out j a z;exact{g,by rw[ã<|Ë b];exact e}
 by_cases b:j=i;erw[b,Å]at c;exact c.elim;by_cases hk:k=i;erw[hk,Å]at d;exact d.elim;erw[b,Ã]at c;erw[hk,Ã]at d;exact S.dis j k a f c d
open Classical in
def FN(A:Rg)(F:Hp):Hp:=λa=>if A a then none else F a
section
variable {X:Cx}{E:L2.St->XK}{ca:Str->Value}{O:L2.St}{H:Hp}{K:k6}{u w:AH}{D:Ends}
end
def Xp{fs:kE}{xs}{f}:∀{j} {x:V},fs.findIdx? (· == f)=↑j->xs[j]?=↑x->(fs.zip xs).lookup f=↑x:=by
 induction fs generalizing xs with
 |nil=>intro j x h;simp at h|cons g r i=>
  intro j x h a;rw[Ű]at h;cases xs with
  |nil=>simp at a|cons y l=>
   rw[Ĵ,ç];by_cases b:g=f;subst b;erw[í,Å,ſ]at h;subst h;simp at a;rw[í,a];have c:(g == f)=false:=beq_eq_false_iff_ne.mpr b;have d:(f == g)=false:=beq_eq_false_iff_ne.mpr<|Ë b;rw[c]at h;erw[ġ,Ã,Ø]at h;let(k,e,rfl):=h;rw[d];exact i e<|by simpa using a
def zan{fs:kE}{xs:kK}(h:fs.contains f=false):(fs.zip xs).lookup f=none:=by
 induction fs generalizing xs with
 |nil=>rfl|cons g r a=>
  cases xs with
  |nil=>rfl|cons y b=>rw[List.contains_cons,ć]at h;rw[Ĵ,ç,h.1];exact a h.2
def Rp.obj_inv{K}(h:Rp K F H (.obj k l) x A):∃p xs,x=.ref p/\A=R0/\Kl F k p xs/\l.length=xs.length/\∀(i:Nat) (t) (x),l[i]?=↑t->xs[i]?=↑x->Rp K F H t x R0:=by
 cases h with
 |obj h e c=>exact{_,_,rfl,rfl,h,e,c}
def DN(C:Addr)(fs:kE):T->Option (kL)
 |.obj (.ins b a) l=>if b=C/\a=fs then ↑l else none
 |ϊ=>none
def YZ(h:DN C fs t=↑l):t=.obj (.ins C fs) l:=by
 unfold DN at h;grind
def CN(C:Addr)(fs:kE)(j:Nat)(m:AJ):AJ:=λY=>match m Y with
 |some (.v t b)=>(match DN C fs t with
  |some l=>(match l[j]? with
   |some u=>↑(.v u<|b && !u.sh)|none=>none)
  |none=>none)
 |some (.x c)=>↑(.x c)|none=>none
def Ds(C:Addr)(fs:kE)(g:kL->Option Ru)(m:AJ)(ms:Ar):AJ:=λY=>match m Y with
 |some (.v t ϊ)=>(match DN C fs t with
  |some ϊ=>(match ms Y with
   |some (.v a b)=>(match g (t.share::a) with
    |some (.ok v)=>BD b v|some (.exc c)=>KJ true c|none=>none)
   |some (.x c)=>↑(.x c)|none=>none)
  |none=>none)
 |some (.x c)=>↑(.x c)|none=>none
def DF(m n:AJ):AJ:=λY=>match m Y with
 |some r=>↑r|none=>n Y
section
variable {X:Cx}{E:L2.St->XK}{ca:Str->Value}{m n:AJ}{ms:Ar}{e o:Expr}{es:kC}{pos p apos:Pos}{C:Addr}{fs:kE}{f:Str}{j:Nat}
theorem Py(c:PE X e<|tM X.K E ca m)(d:PE X e<|tM X.K E ca n):PE X e<|tM X.K E ca<|DF m n:=λb s O H Q I h=>by
 let(F,Y,R,S,q):=h;unfold DF at q;cases a:m Y with
 |none=>rw[a]at q;exact d b s O H Q I {(F),Y,R,S,q}|some r=>rw[a]at q;exact c b s O H Q I {F,Y,R,S,by rw[a];exact q}
def M0{K}(g:EL K F H R (.obj k l) b x B):Rp K F H (.obj k l) x R0/\B=R0:=by
 cases b with
 |true=>let(c,A,_,r):=g;let(p,xs,rfl,a,_):=r.obj_inv;exact{a▸r,c}
 |false=>have r:Rp K F H (.obj k l) x B:=g;let(p,xs,rfl,a,_):=r.obj_inv;exact{a▸r,a}
def r_fld(c:Cls X.K C)(K:Cd X.K C f)(I:fs.findIdx? (· == f)=↑j)(L:PE X o<|tM X.K E ca m)(G:attributeBase o f X.env (eval o X.env)=eval o X.env):PE X (.Attribute o f pos)<|tM X.K E ca<|CN C fs j m:=by
 refine PE.weak (Vf L G) λO H Q h=>?_;let(F,Y,R,S,q):=h;refine{F,Y,R,S,?_};unfold CN at q;cases k:m Y with
 |none=>erw[k]at q<;>symm|some r=>
  erw[k]at q;cases r with
  |x c=>exact q|v t b=>
   intro p s x B i g1;cases g:DN C fs t with
   |none=>erw[g]at q<;>symm|some l=>
    erw[g]at q;have M:=YZ g;subst M;cases d:l[j]? with
    |none=>erw[d]at q<;>symm|some u=>
     erw[d]at q;let(r1,A):=M0 g1;subst A;let(a,xs,rfl,_,(y,D),N,w):=r1.obj_inv;have J:=(Ð.mp d).1;have n:xs[j]?=↑xs[j]:=Á<|by lia
     have e:=w j u _ d n;refine{a,_,y,_,xs[j],rfl,i.fh _ _ D,c,K,Xp I n,?_};refine q p s _ R0 i ?_;cases b with
     |false=>exact e|true=>
      cases P:u.sh with
      |true=>exact e|false=>exact{rfl,R0,λϊ z=>z.elim,e}
structure MetX(P:Program)(w:World)(K:k6)(mg:Str->Option Value)(base:Heap)(C:Addr)(m:Str)(k:Nat)(ps:kE)(sp:Sp) where
 f:Addr
 fd:FuncData
 c:Cls K C
 me:Meth K C m f
 ok:FnOk P w K mg base (DO P w) k f fd ps sp
 b:C6 K fd ps []
def OA(C:Addr)(m:Str)(sp:Sp)(E:L2.St->XK)(e:TE)(t:TA):TE:=λO H Q=>e O H λx b=>∃a d fs,x=.ref a/\b a=↑(.ins C d fs)/\fs.lookup m=none /\
 t O b λf c=>sp (x::f) c Q<|E O
def pmx(D:MetX X.prog X.w X.K X.mg X.base C f k ps sp)(y:Room j X.A)(A:DH X E)(w:PE X o ta)(v:PA X (e::es) t)(hk:k<=j)
  (c:starEach (e::es) X.env=(false,eval e X.env)::starEach es X.env) (b:(backTo pos<|starEach es X.env).any (·.1)=false)
  (z : eval (.Call (.Attribute o f apos) (e :: es) [] pos) X.env = (do
   let ov <- eval o X.env
   standAt apos.atName
   let (f,first) <- holding [ov] (getMethod ov f pl)
   callWith pos f first (backTo pos<|starEach (e::es) X.env) (backToKw pos<|keywordEach [] X.env))):PE X (.Call (.Attribute o f apos) (e::es) [] pos)<|OA C f sp E ta t:=by
 intro g s O H Q I h;refine W.methodCall_KW (pl:=pl) (AZ (w g s O H _ I h) λu s1 F=>?_) z;let(x,n,d,B,a,G,fs,ex,p,l,q):=F;subst ex;obtain rfl:u=Value.ref a:=B;refine Y6 d p D.c D.me l ?_;refine ŉ (first:=[.ref a]) (h₀:=X.base) I.ok.mod.kin D.me.kp (AZ (v pos g s1 O n _ d q) λi J ⟨m,H2,I2,r,q2⟩=>{I2.kIn,?_}) c b;exact Ph (us:=.ref a::i) (vs:=.ref a::m) (dvs:=[]) D.ok (y.mono hk) D.b .nil A I2 (.cons rfl r) (by rw[ċ];exact q2)
def pmx0(D:MetX X.prog X.w X.K X.mg X.base C f k ps sp)(e:Room j X.A)(i:DH X E)(d:PE X o ta)(hk:k<=j)
  (g : eval (.Call (.Attribute o f apos) [] [] pos) X.env = (do
   let ov <- eval o X.env
   standAt apos.atName
   let (f,first) <- holding [ov] (getMethod ov f pl)
   callWith pos f first (backTo pos<|starEach [] X.env) (backToKw pos<|keywordEach [] X.env))):PE X (.Call (.Attribute o f apos) [] [] pos)<|OA C f sp E ta UN:=by
 intro m s O H Q I h;refine W.methodCall_KW (AZ (d m s O H _ I h) λu s1 p=>?_) g;let(x,r,b,n,a,t,fs,ex,c,l,q):=p;subst ex;obtain rfl:u=Value.ref a:=n;refine Y6 b c D.c D.me l ?_;exact W.callWith_K0 b.kIn D.me.kp<|Ph (vs:=[.ref a]) D.ok (e.mono hk) D.b .nil i b (.cons rfl .nil) q
def UP(i:fs.contains f=false)(h:tM X.K E ca (Ds C fs g m ms) O H Q):OA C f (Br X.K ca g) E (tM X.K E ca m) (CA X.K E ca ms) O H Q:=by
 let(F,Y,R,S,q):=h;refine{F,Y,R,S,?_};unfold Ds at q;cases L:m Y with
 |none=>erw[L]at q<;>symm|some r=>
  erw[L]at q;cases r with
  |x c=>exact q|v t b=>
   intro U H1 x B k g1;cases y:DN C fs t with
   |none=>erw[y]at q<;>symm|some l=>
    erw[y]at q;have ht:=YZ y;subst ht;let(r1,Z):=M0 g1;subst Z;have I:=S.ext k;let(a,xs,rfl,_,(W,hF),el,cc):=r1.obj_inv;refine{a,W,_,rfl,k.fh _ _ hF,zan i,U,Y,R,I,?_};cases M:ms Y with
    |none=>erw[M]at q<;>symm|some r=>
     erw[M]at q;cases r with
     |x c=>exact λD p e=>q D p (k.trans0 e)|v ts u=>
      intro j s vs w rs;have J:=I.ext w;simp only at q;have r2:Rp X.K (Gz u j s R) s (T.obj (.ins C fs) l).share (.ref a) R0:=(r1.ext w).share (MZ J) λϊ ϊ z=>z.elim
      refine{Gz u j s R,_,R9 J,.cons r2 rs,?_};have d:=k.trans0 w;cases K:g ((T.obj (.ins C fs) l).share::ts) with
      |none=>erw[K]at q<;>symm|some r=>
       erw[K]at q;cases r with
       |exc c=>
        erw[KJ]at q;cases A:Fw c with
        |none=>rw[A]at q;exact λD p o=>(q j p<|d.grow o.hh).any A|some n=>rw[A]at q;symm
       |ok v=>
        intro V G z P o N;simp only at q;unfold BD at q;cases u with
        |false=>exact q V G z P (d.trans0 o) N|true=>
         cases i:v.flat with
         |false=>rw[i]at q;cases q|true=>rw[i]at q;exact q j G z R0 (d.grow o.hh)<|N.flat_any i
theorem zn6(D:MetX X.prog X.w X.K X.mg X.base C f k ps<|Br X.K ca g)(i:fs.contains f=false)(l:Room j X.A)(p:DH X E)(d:PE X o<|tM X.K E ca m)(c:PA X (e::es)<|CA X.K E ca ms)(hk:k<=j)
  (b:starEach (e::es) X.env=(false,eval e X.env)::starEach es X.env) (a:(backTo pos<|starEach es X.env).any (·.1)=false)
  (n : eval (.Call (.Attribute o f apos) (e :: es) [] pos) X.env = (do
   let ov <- eval o X.env
   standAt apos.atName
   let (f,first) <- holding [ov] (getMethod ov f pl)
   callWith pos f first (backTo pos<|starEach (e::es) X.env) (backToKw pos<|keywordEach [] X.env))):PE X (.Call (.Attribute o f apos) (e::es) [] pos)<|tM X.K E ca<|Ds C fs g m ms:=
 PE.weak (pmx D l p d c hk b a n) λO H Q h=>UP i h
structure NewX(P:Program)(w:World)(K:k6)(mg:Str->Option Value)(base:Heap)(x:Str)(C:Addr)(k:Nat)(ps:kE)(sp:Sp) where
 f:Addr
 fd:FuncData
 m:mg x=↑(.ref C)
 ma:Mk K C f
 ok:FnOk P w K mg base (DO P w) k f fd ps sp
def zm8(C:Addr)(sp:Sp)(dvs:kK)(E:L2.St->XK)(t:TA):TE:=λO H Q=>t O H λd b=>∀x a,b x=none->b a=none->a≠x ->
 sp (.ref x::(d++dvs)) (upd (upd b a<|.own x) x<|.ins C a []) (λv c=>v=.non/\Q (.ref x) c) (E O)
def pnx{x:Str}{t:TA}(D:NewX X.prog X.w X.K X.mg X.base x C k ps sp)(w:C6 X.K D.fd ps ds)(hd:A4 dvs ds)(B:Room j X.A)(F:DH X E)(o:PA X (e::es) t)(hk:k+1<=j)(z:Gl X x)(d:(x == ("__debug__":Str))=false)
  (y:starEach (e::es) X.env=(false,eval e X.env)::starEach es X.env) (f:(backTo pos<|starEach es X.env).any (·.1)=false):PE X (.Call (.Name x p) (e::es) [] pos)<|zm8 C sp dvs E t:=by
 intro i s O H Q I h;refine ĭ<|Jt I z D.m ?_ d;refine ŉ I.ok.mod.kin D.ma.kp (AZ (o pos i s O H _ I h) λb s1 ⟨L,H1,I1,r,q⟩=>{I1.kIn,?_}) y f
 have g:=q (s1.heap.objs.size+1) s1.heap.objs.size (I1.hok.fresh<|ď _) (I1.hok.fresh<|Ç _)<|Ó<|Ĕ _;have c:=Inv.made (C:=C) I1;have l:A4 (V.ref (s1.heap.objs.size+1)::(L++dvs))<|Value.ref (s1.heap.objs.size+1)::(b++ds):=.cons rfl<|r.append hd
 have A :=by
  have e:=l.length;rw[D.ok.len _ _ _ _ g]at e;exact e.symm
 refine ę (zh6 I1.kIn D.ma.makes D.ma.init (beq_iff_eq.mp D.ma.fn) (ý (D.ok.run _ X.stack _ _ {Value.ref (s1.heap.objs.size+1)::b,[]} (Value.ref (s1.heap.objs.size+1)::(b++ds)) _ _ (E O) ((B.mono hk).make C b [])
  (c.env0.make C b []) (w _ (Value.ref (s1.heap.objs.size+1)::b) c.kIn A) l g) λr K a=>?_))
 cases r with
 |error v=>exact F i O _ _ v K c a|ok fl=>
  cases fl with
  |ret u=>let(v,m,n,J,ev,G):=c.after a;subst ev;exact{J,{V.ref<|s1.heap.objs.size+1,m,n,rfl,G}}
  |next=>exact False.elim a|brk=>exact False.elim a|cont=>exact False.elim a
def J3(K:k6)(ca:Str->Value)(C:Addr)(g:kL->Option Ru):Sp:=λi H Q E=>∃F p h f e,A3 F H/\i=.ref p::e/\F p=none/\H p=↑(.ins C h [])/\Ae K F f e/\match g f with
 |some (.ok t)=>∀d b,Stp F H (λa=>a=p) d b R0->Rp K d b t (.ref p) R0->Q .non b|some (.exc c)=>∀d b,Stp F H (λa=>a=p) d b R0->XE E ca c d b|none=>False
def IZ(g:kL->Option Ru)(ds:kL)(ms:Ar):AJ:=λY=>match ms Y with
 |some (.v a false)=>(match g (a++ds) with
  |some (.ok t)=>↑(.v t false)|some (.exc c)=>↑(.x c)|none=>none)
 |some (.v ϊ true)=>none|some (.x c)=>↑(.x c)|none=>none
def r_new{k j:Nat}{x:Str}(D:NewX X.prog X.w X.K X.mg X.base x C k ps<|J3 X.K ca C g)(U:C6 X.K D.fd ps ds)(hd:A4 dvs ds)(K:∀F:Hp,Ae X.K F dts dvs)(Z:Room j X.A)(hx:DH X E)(i:PA X (e::es)<|CA X.K E ca ms)(hk:k+1<=j)(B:Gl X x)(J:(x == ("__debug__":Str))=false)
  (V:starEach (e::es) X.env=(false,eval e X.env)::starEach es X.env) (L:(backTo pos<|starEach es X.env).any (·.1)=false):PE X (.Call (.Name x p) (e::es) [] pos)<|tM X.K E ca<|IZ g dts ms:=by
 refine PE.weak (pnx D U hd Z hx i hk B J V L) λO H Q h=>?_;let(F,Y,R,S,q):=h;refine{F,Y,R,S,?_};unfold IZ at q;cases P:ms Y with
 |none=>erw[P]at q<;>symm|some r=>
  erw[P]at q;cases r with
  |x c=>exact q|v T b=>
   cases b with
   |true=>exact λn G xs y rs=>q.elim|false=>
    intro n G xs y rs a m i l W;simp only at q;have M :=rs
    have s:∀d f,Stp n (upd (upd G m<|.own a) a<|.ins C m []) (λb=>b=a) d f R0->Ext F H d f R0:=λd f st=>by
     refine y.trans0 {λb u z=>?_,st.ff,st.fh,λϊ z=>z.elim,λb u z=>?_};have o :=Cz z i;have A :=Cz z l;exact st.kp b u o (by rw[As o,As A];exact z)
     rcases st.nf b u z with w|w|w;exact .inl w;rw[w];exact .inr i;by_cases o:b=a;rw[o];exact .inr i;by_cases A:b=m;rw[A];exact .inr l;rw[As o,As A]at w;exact .inr w
    have I:A3 n<|upd (upd G m<|.own a) a<|.ins C m []:=λb u z=>by
     have N:=y.fh b u z;rw[As<|Cz N i,As<|Cz N l];exact N
    refine{n,a,m,T++dts,xs++dvs,I,rfl,HM y.fh i,Ce,Lb M<|K n,?_};cases B:g (T++dts) with
    |none=>erw[B]at q<;>symm|some r=>
     erw[B]at q;cases r with
     |exc c=>exact λd f st=>q d f (s d f st)|ok t=>exact λd f st r=>{rfl,q d f _ R0 (s d f st) r}
end
def Fx(Y:AN)(i:Nat)(C:Addr)(fs:kE):Option<|Addr×kL:=match Y[i]? with
 |some (↑(.oob p b a l))=>if b=C/\a=fs then ↑(p,l) else none
 |ϊ=>none
set_option tactic.hygienic true in
def QI(h:Fx Y i C fs=↑(p,l)):Y[i]?=↑(↑(.oob p C fs l)):=by
 unfold Fx at h;split at h;rename_i q;split at h;rename_i a;cases h;rw[q,a.1,a.2];cases h;cases h
def EN(C:Addr)(fs:kE)(j i:Nat)(m:AJ):AH:=λY=>match m Y with
 |some (.v t false)=>(match Fx Y i C fs with
  |some (p,l)=>if l.length=j then ↑(.nx<|Y.set i<|↑(.oob p C fs<|l++[t])) else none
  |none=>none)
 |some (.v ϊ true)=>none|some (.x c)=>↑(.xc c Y)|none=>none
def Jd:kH->Option (kE×kL)
 |some (.osd a l)=>↑(a,l)|ϊ=>none
def zdg(h:Jd o=↑(ks,l)):o=↑(.osd ks l):=by
 unfold Jd at h;grind
open Classical in
def J6(C:Addr)(fs:kE)(j i:Nat)(mk m:AJ):AH:=λY=>match m Y with
 |some (.v t false)=>(match Fx Y i C fs with
  |some (p,l)=>(match Jd l[j]? with
   |some (a,lv)=>(match mk Y with
    |some (.v (.str k) ϊ)=>if k∉a/\a.length<100000 then ↑(.nx<|Y.set i<|↑(.oob p C fs<|l.set j<|.osd (a++[k])<|lv++[t.share])) else none
    |some (.v ϊ ϋ)=>none|some (.x c)=>↑(.xc c Y)|none=>none)
   |none=>none)
  |none=>none)
 |some (.v ϊ true)=>none|some (.x c)=>↑(.xc c Y)|none=>none
def ML:AJ:=λϊ=>↑(.v (.osd [] []) false)
def V9{y:V}:∀{fs:kE} {xs:kK},fs[xs.length]?=↑f->(fs.take xs.length).contains f=false->DW f y (fs.zip xs)=fs.zip (xs++[y])
 |[],xs,h,ϊ=>by simp at h|g::r,[],h,ϊ=>by
  simp at h;subst h;simp[DW]
 |g::r,x::xs,h,a=>by
  rw[Þ,List.take_succ_cons,List.contains_cons,ć]at a
  have b:¬ g=f:=λz=>by
   grind
  have c:=V9 (y:=y) (by simpa using h) a.2;rw[Ĵ,Α,Ĵ];show(if g=f then _ else _)=_
  grind
section
variable {K:k6}{F H:Hp}{C:Addr}{fs:kE}{l:kL}
def Rp.oob_inv(h:Rp K F H (.oob p C fs l) x A):∃dx xs Rr,x=.ref p/\A=(λa=>a=p\/∃j,Rr j a)/\F p=none/\H p=↑(.ins C dx<|fs.zip xs)/\RpO K F H l xs Rr/\∀j,¬ Rr j p:=by
 cases h with
 |oob R f h e c d dp o=>exact{_,_,R,rfl,rfl,f,h,{(e),c,d,o},dp}
theorem Vm(r:RpO K F H l xs Rr)(f:F p=none)(h:H p=↑(.ins C dx<|fs.zip xs))(dp:∀j,¬ Rr j p):Rp K F H (.oob p C fs l) (.ref p) (λa=>a=p\/∃j,Rr j a):=.oob Rr f h r.len r.rep r.dis dp r.out
def Rp.osd_inv(h:Rp K F H (.osd ks l) x A):∃p xs Rs,x=.ref p/\A=(λa=>a=p\/∃j,Rs j a)/\F p=none/\H p=↑(.dK<|Co ks xs)/\RpO K F H l xs Rs/\ks.length=xs.length/\∀j,¬ Rs j p:=by
 cases h with
 |osd R f h e b c d dp o=>exact{_,_,R,rfl,rfl,f,h,{(e),c,d,o},b,dp}
theorem zo2(r:RpO K F H l xs Rr)(b:ks.length=xs.length)(f:F p=none)(h:H p=↑(.dK<|Co ks xs))(dp:∀j,¬ Rr j p):Rp K F H (.osd ks l) (.ref p) (λa=>a=p\/∃j,Rr j a):=.osd Rr f h r.len b r.rep r.dis dp r.out
theorem zgz(r:RpO K F H l xs Rr)(e:ks.length=xs.length)(f:F p=none)(dp:∀j,¬ Rr j p)(rt:Rp K F H t y B)(d:∀j a,Rr j a->¬ B a)(c:¬ B p):Rp K F (upd H p<|.dK<|Co (ks++[k])<|xs++[y]) (.osd (ks++[k])<|l++[t]) (.ref p) (λa=>a=p\/∃j,(if j=l.length then B else Rr j) a):=
 zo2 ((r.upd dp).snoc (rt.upd c) d) (by simp[e]) f Ce λj z=>by
  by_cases b:j=l.length;erw[b,Å]at z;exact c z;erw[b,Ã]at z;exact dp j z
end
def zl0(h:ks.length=xs.length):(Co ks xs).length=xs.length:=by
 unfold Co;rw[List.length_zipWith,h,Nat.min_self]
def zl1(h:kv∈Co ks xs):∃k∈ks,kv.1=Sum.inr k:=by
 induction ks generalizing xs with
 |nil=>cases xs<;>cases h|cons a r c=>
  cases xs with
  |nil=>cases h|cons b s=>
   unfold Co at h;rw[List.zipWith_cons_cons]at h;rcases Î.mp h with e|e;exact{a,Í ..,by rw[e]};let(k,hk,e):=c (xs:=s) e;exact{k,Ì _ hk,e}
def zgo(h:ks.length=xs.length)(hk:k∉ks):EA (Co ks xs) (Sum.inr k) y=Co (ks++[k]) (xs++[y]):=by
 unfold EA;rw[if_neg];unfold Co;rw[List.zipWith_append h];rfl;intro c;let(g,a,b):=ŵ.mp c;let(f,d,e):=zl1 a
 grind
section
variable {X:Cx}{E:L2.St->XK}{ca:Str->Value}{m mk:AJ}{e k:Expr}{pos p1 pos2 pos3:Pos}{mu:Bool}{i j:Nat}{x f:Str}{C:Addr}{fs:kE}
theorem zna:PE X (.Dict [] [] pos)<|tM X.K E ca ML:=PE.weak zjw λO H Q h p a=>by
 let(F,Y,R,S,q):=h;exact q F (upd H p<|.dK []) (.ref p) _ (Ext.newO S.fh a) (Rp.osd0 (xs:=[]) (HM S.fh a) Ce rfl rfl λi t x h=>by simp at h)
def zmq(c:Cls X.K C)(hn:Cd X.K C f)(k:fs[j]?=↑f)(J:(fs.take j).contains f=false)(hjl:j<900)(hN:X.N[i]?=↑x)(hv:E5 X.env.scope x)(hd:(x == "__debug__")=false)(G:(x == "__classdict__")=false)(he:PE X e<|tM X.K E ca m)
  (hs:swapsWith e (↑(.Attribute (.Name x p1) f pos2)) pos.line X.env=pure false):PS X (.Assign [.Attribute (.Name x p1) f pos2] e pos)<|tS X.K E ca mu<|EN C fs j i m:=by
 refine PS.weak (znm (G1 hN hv hd G) he hs) λD O H h=>?_;let(F,Y,R,S,q):=h;refine{F,Y,R,S,?_};unfold EN at q;cases hm:m Y with
 |none=>erw[hm]at q<;>symm|some r=>
  erw[hm]at q;cases r with
  |x c=>exact λF' H' e=>q F' H' O R e.stp0 (S.ext e)|v t bb=>
   cases bb with
   |true=>exact λd n y B b g1=>q.elim|false=>
    intro d n y B b g1;have u:Rp X.K d n t y B:=g1;simp only at q;cases K:Fx Y i C fs with
    |none=>erw[K]at q<;>symm|some pl=>
     let(p,l):=pl;erw[K]at q;by_cases I:l.length=j;rw[if_pos I]at q;have S1:=S.ext b;have ht:=QI K;let(y2,Z,ry):=S.rep i _ ht;let(W,xs,Rr,rfl,A,fp,L,N,dp):=ry.oob_inv;have g:xs.length=j:=by rw[<- N.len];exact I
     have M:=b.hh _ _ L;have pB:¬ B p:=λz=>by rw[b.nb p z]at L;cases L
     have s:d p=none:=(ry.ext b |>.dom (by rw[A];exact .inl rfl)).1;refine{_,Z,p,C,W,fs.zip xs,rfl,M,c,hn,?_,?_};rw[List.length_zip];lia;rw[V9 (by rw[g];exact k) (by rw[g];exact J)];have P:=N.ext b;have Q:RpO X.K d (upd n p<|.ins C W<|fs.zip<|xs++[y]) (l++[t]) (xs++[y]) _:=(P.upd dp).snoc (u.upd pB) λj a U V=>N.apart b V j U
     have o:∀j,¬ (if j=l.length then B else Rr j) p:=λj z=>by
      by_cases k:j=l.length;erw[k,Å]at z;exact pB z;erw[k,Ã]at z;exact dp j z
     have r2:=Vm (C:=C) (fs:=fs) Q s Ce o
     let(S3,T):=S1.upd ht Z (by rw[A];exact .inl rfl) r2 (B:=B) (λa z=>by
      rw[A];rcases z with z|z;exact .inl<|.inl z
      rcases Uc z with w|w;exact .inl<|.inr w
      exact .inr w)<|λj a U V=>S.apart b V j U
     exact q d _ O _ (b.stp.trans T) S3;rw[if_neg I]at q;symm
def rSetS:TF:=λo i v H Q=>∃p a k,o=.ref p/\i=.str k/\H p=↑(.dK a)/\a.length<sizeLine/\Q (upd H p<|.dK<|EA a (Sum.inr k) v)
def zgg(d:X.A.units+1<cLine):TX X rSetS:=by
 intro n s O H o i v m l u Q I g f j h;let(p,e,k,rfl,rfl,c,b,q):=h;cases g;exact zfe d I (JP.k (k:=Sum.inr k) c b) (f) j λr a=>{_,a,q}
def Ip{K}(g:EL K F H R (.str z) b y B):y=.str z:=by
 cases b with
 |true=>let(_,A,_,r):=g;exact r.str_inv
 |false=>exact(g).str_inv
def s_dpf(hu:X.A.units+1<cLine)(c:Cls X.K C)(hn:Cd X.K C f)(hj:fs.findIdx? (· == f)=↑j)(hN:X.N[i]?=↑x)(hv:E5 X.env.scope x)(hd:(x == ("__debug__":Str))=false)(hcd:(x == "__classdict__")=false)(he:PE X e<|tM X.K E ca m)(hk:PE X k<|tM X.K E ca mk)
  (hs:swapsWithSole [.Subscript (.Attribute (.Name x p1) f pos3) k pos2] e pos.line X.env=pure false) (hw:swappedStores [.Subscript (.Attribute (.Name x p1) f pos3) k pos2] e X.env=pure none)
  (ha : ∀ v, assign (.Subscript (.Attribute (.Name x p1) f pos3) k pos2) X.env v = (do
   let ov <- holding [v]<|eval (.Attribute (.Name x p1) f pos3) X.env;let iv <- holding [v,ov] (eval k X.env)
   standAt pos2
   holding [v,ov,iv] (setItem ov iv v)
   release [v,ov,iv] [])) :
  PS X (.Assign [.Subscript (.Attribute (.Name x p1) f pos3) k pos2] e pos) (tS X.K E ca mu<|J6 C fs j i mk m):=by
 refine PS.weak (Ll he (QE (Vf (G1 hN hv hd hcd) rfl) hk (zgg hu) ha) hs hw rfl) λD O H h=>?_;let(F,Y,R,S,q):=h;refine{F,Y,R,S,?_};unfold J6 at q;cases hm:m Y with
 |none=>erw[hm]at q<;>symm|some r=>
  erw[hm]at q;cases r with
  |x c=>exact λK o e=>q K o O R e.stp0 (S.ext e)|v t bb=>
   cases bb with
   |true=>exact λL V y B N g1=>q.elim|false=>
    intro F0 V y B e0 g0;simp only at q;let(L,N,_,g1):=EL.frz S e0 g0;have g1':Rp X.K L V t.share y R0:=(g1).any;cases ho:Fx Y i C fs with
    |none=>erw[ho]at q<;>symm|some pl=>
     let(p,l):=pl;erw[ho]at q;cases g:Jd l[j]? with
     |none=>erw[g]at q<;>symm|some kl=>
      let(J,lv):=kl;erw[g]at q;have G:=zdg g;have M:=S.ext N;have ht:=QI ho;let(y2,ey,ry):=M.rep i _ ht;let(dx,xs,Z,rfl,hA,fp,hp,ro,dp):=ry.oob_inv;have w:=(Ð.mp G).1;have hjx:j<xs.length:=by rw[<- ro.len];exact w
      have hx :=Á hjx;refine{_,ey,p,C,dx,_,xs[j],rfl,hp,c,hn,Xp hj hx,L,Y,R,M,?_};cases A:mk Y with
      |none=>erw[A]at q<;>symm|some r=>
       erw[A]at q;cases r with
       |x c=>exact λK o e=>q K o O R ((N.stp0).trans e.stp0) (M.ext e)|v tk bk=>
        cases tk with
        |str I=>
         simp only at q;by_cases T:I∉J/\J.length<100000;rw[if_pos T]at q;intro U W z CC d g2;have hz:=Ip g2;subst hz;have e2':Ext L V U W R0:=d.mono λϊ z=>z.elim
         have S2:=M.ext d;have ry2:=ry.ext d;have b:=ro.ext d;have fp2 :=(ry2.dom (by rw[hA];exact .inl rfl)).1
         have hp2:=d.hh _ _ hp;have rk:=b.rep j _ _ G hx;let(pd,ys,Rs,s,u,fpd,hpd,rs,P,ds):=rk.osd_inv;have g2' :=g1'.ext d;have n:Z j pd:=by rw[u];exact .inl rfl
         have pne:pd≠p:=λz=>dp j<|z▸n
         refine{pd,Co J ys,I,s,rfl,hpd,?_,?_};rw[zl0 P,<- P,Ę];exact ĺ T.2<|by decide
         rw[zgo P T.1];have r3:=zgz (k:=I) rs P fpd ds (g2'.any (H':=W)) (λϊ ϊ ϊ z=>z.elim)<|λz=>z.elim
         have hE:(λa=>a=pd\/∃j,(if j=lv.length then R0 else Rs j) a)=Z j:=by
          rw[u];funext a;apply propext;constructor;rintro(z|⟨j,z⟩);exact .inl z;split at z;exact z.elim;exact .inr {(j),z};rintro(z|⟨j,z⟩);exact .inl z;exact .inr {j,by rw[if_neg<|Ó<|rs.out j a z];exact z}
         rw[hE]at r3;have oth :=λk hk z=>b.dis k j pd hk z n
         have ro3:RpO X.K U (upd W pd<|.dK<|Co (J++[I])<|ys++[y]) (l.set j<|.osd (J++[I])<|lv++[t.share]) xs Z:=by
          refine{by rw[ŧ];exact b.len,λk t' x' Q h2=>?_,b.dis,λk a z=>by rw[ŧ];exact b.out k a z};by_cases hk:k=j;subst hk;rw[é w]at Q;rw[hx]at h2;cases Q;cases h2;rw[s];exact r3;rw[ã<|Ë hk]at Q;exact(b.rep k t' x' Q h2).upd (oth k hk)
         have r4:=Vm ro3 fp2 (by rw[As<|Ë pne];exact hp2) dp;let(S3,st3):=S2.upd ht ey (by rw[hA];exact .inr {(j),n}) r4 (λa z=>.inl (by rw[hA];exact z))<|λj a z1 z2=>z2
         exact q U _ O _ ((N.stp.trans d.stp0).trans st3) S3;rw[if_neg T]at q;symm
        |_=>exact λK o z CC d g2=>q.elim
end
section
variable {X:Cx}{E:L2.St->XK}{ca:Str->Value}{ma mb mc:AJ}{a b c:Expr}{pos:Pos}{x:Str}{t:T}
theorem r_con(a:Gl X x)(b:X.mg x=↑u)(c:A6 v u)(hd:(x == "__debug__")=false)(r:∀F ,Rp X.K F F t v R0):PE X (.Name x pos)<|tM X.K E ca<|mC t:=
 PE.weak (Ve a b c hd) λO H Q h=>by
  let(F,Y,R,S,q):=h;exact q F H v R0 (Ext.refl S.fh) (r F).any
def Fg(g g':T->T->kH)(ma a mc:AJ):AJ:=λY=>match ma Y,a Y with
 |some (.v t ϊ),↑(.v u ϋ)=>if t.flat && u.flat then (match g t u with
  |some (.bl true)=>(match mc Y with
   |some (.v w ϊ)=>if w.flat then (match g' u w with
    |some (.bl k)=>↑(.v (.bl k) false)|ϊ=>none) else none
   |ϊ=>none)
  |some (.bl false)=>↑(.v (.bl false) false)|ϊ=>none) else none
 |ϊ,ϋ=>none
def Iq{K}{b}{x}(g:EL K F H R v b x B)(h:v.flat=true):Rp K F' H' v x R0:=by
 cases b with
 |true=>let(_,A,_,r):=g;exact r.flat_any h
 |false=>exact(g).flat_any h
def UT(h:tM X.K E ca (Fg g g' ma mb mc) O H Q):OD (Bg X.K g) (Bg X.K g') (tM X.K E ca ma) (tM X.K E ca mb) (tM X.K E ca mc) O H Q:=by
 let(F,Y,R,S,q):=h;refine{F,Y,R,S,?_};unfold Fg at q;cases f:ma Y with
 |none=>erw[f]at q<;>symm|some r1=>
  cases r1 with
  |x c=>erw[f]at q<;>symm|v t b1=>
   cases l:mb Y with
   |none=>erw[f,l]at q<;>symm|some V=>
    cases V with
    |x c=>erw[f,l]at q<;>symm|v u b2=>
     erw[f,l]at q;by_cases b:(t.flat && u.flat)=true;rw[if_pos b]at q;rw[Ä]at b;intro J H1 x Z C g1;have A:=S.ext C;refine{J,Y,R,A,?_};rw[l];intro m M y B2 D g2;have o:=A.ext D;have e:Ext F H m M R0:=(C.trans D).mono λϊ z=>z.elim
     cases d:g t u with
     |none=>erw[d]at q<;>symm|some k=>
      cases k with
      |bl k=>
       cases k with
       |false=>
        erw[d]at q;refine{m,t,u,_,o.fh,Iq g1 b.1,Iq g2 b.2,d,λn s z I j i=>{false,i.bl_inv,?_}};rw[if_neg õ];exact q n s _ R0 (e.trans0<|j.mono λϊ z=>z.elim)<|.bl false
       |true=>
        erw[d]at q;refine{m,t,u,_,o.fh,Iq g1 b.1,Iq g2 b.2,d,λn s z I j i=>{true,i.bl_inv,?_}};rw[if_pos rfl];have B:=o.ext j;refine{n,Y,R,B,?_};cases p:mc Y with
        |none=>erw[p]at q<;>symm|some i=>
         cases i with
         |x c=>erw[p]at q<;>symm|v w b3=>
          erw[p]at q;by_cases r:w.flat=true;rw[if_pos r]at q;intro K H4 z4 B4 G U;have P:=B.ext G;cases a:g' u w with
          |none=>erw[a]at q<;>symm|some k=>
           cases k with
           |bl k=>
            erw[a]at q;refine{K,u,w,_,P.fh,Iq g2 b.2,Iq U r,a,λL N z5 C5 T W=>?_};rw[W.bl_inv];exact q L N _ R0 (e.trans0<|((j.trans G).trans T).mono λϊ z=>z.elim)<|.bl k
           |_=>erw[a]at q<;>symm
          rw[if_neg r]at q;symm
      |_=>erw[d]at q<;>symm
     rw[if_neg b]at q;symm
theorem r_chn(k:Ac X (compareOp op)<|Bg X.K g)(d:Ac X (compareOp op')<|Bg X.K g')(e:PE X a<|tM X.K E ca ma)(f:PE X b<|tM X.K E ca mb)(i:PE X c<|tM X.K E ca mc)(j:lastMarks [op,op'] [b,c]=false) :
  PE X (.Compare a [op,op'] [b,c] pos) (tM X.K E ca<|Fg g g' ma mb mc):=PE.weak (zgx k d e f i j) λO H Q h=>UT h
theorem zn4(k:Ac X (compareOp op)<|Bg X.K g)(d:Ac X (compareOp op')<|Bg X.K g')(e:PE X a<|tM X.K E ca ma)(f:PE X b<|tM X.K E ca mb)(i:PE X c<|tM X.K E ca mc)(j:lastMarks [op,op'] [b,c]=false) :
  PT X (.Compare a [op,op'] [b,c] pos) (BS X.K E ca<|Fg g g' ma mb mc):=PT.weak (zgp k d e f i j) λO H Q h=>UT<|LN h
end
def N0(x:Str):It:={λi ϊ=>i<x.cps.size,λi H y a=>a=H/\∃c,x.cps[i]?=↑c/\y=.str {#[c]},λi ϊ=>x.cps.size<=i}
def zg9{K}(x)(t)(it):Turn P w K tg (N0 x) [it] it (λi h=>h.IsStrIter it (strIterType x) x t i) where
 mem:=by simp
 obj:=λi h st b a=>by
  have e :=by simpa using a
  subst e;let(o,e,c,d):=st;exact{o,e,λv z=>by rw[d]at z;cases z}
 keep:=λi h g st k=>by
  let(o,e,c,d):=st;exact{o,k it (by simp) o e,c,d}
 item:=by
  intro X F L D G i M s O H E I B st J;subst F L D;have j :=J;let(m,p,S,q,r,A):=B it<|by simp
  have BD:∀(g ),g.IsStrIter it (strIterType x) x t (i+1)->Heap.SameBut it s.heap g->∃u,↑(Value.str {#[x.cps[i]]} s.toks)=↑u /\
   wpAny (model X.prog X.w) X.A (letOwnedTupleGo tg (.ref it) u) (λϊ N=>∃y C,Inv X M O C N/\A6 y u/\(N0 x).yld i H y C/\N.heap.IsStrIter it (strIterType x) x t (i+1)/\∀b∈[it],C b=none) E { s with heap:=g,toks:=s.toks+1 }:=λg l sb=>by
   have R :=I.turned (t':=s.toks+1) (λb o a e=>(sb.2 b a).trans e) m p q r A;let(o,e,c,d):=id l;refine{_,rfl,M1 e c d ?_ {.str {#[x.cps[i]]},H,R,{_,rfl},{rfl,_,ŀ j,rfl},l,λb a=>(B b a).1}};unfold strIterType;split<;>decide
  cases f:(x.cps.all λx=>decide (x<128)) with
  |true=>
   have e:strIterType x="str_ascii_iterator":=by unfold strIterType;rw[f];rfl
   rw[e]at st BD ⊢;exact wpAny_pyNext_ascii_item st (ŀ j) BD
  |false=>
   have e:strIterType x="str_iterator":=by unfold strIterType;rw[f];rfl
   rw[e]at st BD ⊢;exact wpAny_pyNext_wide_item st (ŀ j) BD
 done:=by
  intro X F L D G i M s O H E I B st J;subst F L D;have j :=J;let(m,p,S,q,r,A):=B it<|by simp
  have n :=Array.getElem?_eq_none j;cases f:(x.cps.all λx=>decide (x<128)) with
  |true=>
   have e:strIterType x="str_ascii_iterator":=by unfold strIterType;rw[f];rfl
   rw[e]at st;exact wpAny_pyNext_ascii_end (I.ok.hd G) st n λg eb=>{rfl,I.turned (λb o a e=>eb b o a e) m p q r A}
  |false=>
   have e:strIterType x="str_iterator":=by unfold strIterType;rw[f];rfl
   rw[e]at st;exact wpAny_pyNext_wide_end (I.ok.hd G) st n λg eb=>{rfl,I.turned (λb o a e=>eb b o a e) m p q r A}
 self:=λϊ i s Q E st h=>by
  cases f:(x.cps.all λx=>decide (x<128)) with
  |true=>
   have e:strIterType x="str_ascii_iterator":=by unfold strIterType;rw[f];rfl
   rw[e]at st;exact wpAny_pyIter_striter_ascii st h
  |false=>
   have e:strIterType x="str_iterator":=by unfold strIterType;rw[f];rfl
   rw[e]at st;exact wpAny_pyIter_striter_wide st h
def iStrT(b:TE):TI:=λO H P=>b O H λx a=>∃y,x=.str y/\P (N0 y) a
section
variable {X:Cx}{tg l e:Expr}{tl:TE}{E:L2.St->XK}{ca:Str->Value}{m:AJ}
def znq(f:PE X l tl):PI X tg l<|iStrT tl:=by
 intro g s O H R I h;refine AZ (f g s O H _ I h) λv s1 j=>?_;let(x,c,a,r1,i):=j;let(y,rfl,q):=i;let(t,rfl):=(r1);refine wpAny_pyIter_strU ?_;refine{s1.heap.objs.size,[s1.heap.objs.size],_,_,c,rfl,a.kept λb o e=>Ñ _ e,zg9 y t _,{_,ä _ rfl,rfl,rfl},λb d=>?_,q}
 have e :=by simpa using d
 subst e;exact a.fpOk (Ç _)<|a.hok.fresh<|Ç _
def GV(x:Str):kL:=x.cps.toList.map λc=>.str {#[c]}
def zl3{K}:GO K (N0 x) F<|GV x:=by
 intro i d k s1 j;refine{λt b=>?_,λe=>?_};unfold GV at b;rw[È]at b;let(c,a,rfl):=Ø.mp b;have h:i<x.cps.size:=by simpa using (Ð.mp a).1
 refine{h,λy f z=>?_};let(rfl,l,g,rfl):=z;rw[Array.getElem?_toList,g]at a;cases a;exact{d,Ext.refl j,.str _};show x.cps.size<=i;rw[e];simp[GV]
def BA(m:AJ):Ar:=λY=>match m Y with
 |some (.v (.str x) ϊ)=>↑(.v (GV x) false)|ϊ=>Io m Y
def zn9(a:PE X e<|tM X.K E ca m):PI X tg e<|tI X.K E ca<|BA m:=by
 refine PI.weak (PI.or (VV a)<|znq a) λO H P h=>?_;let(F,Y,R,S,q):=h;by_cases i:∃x b,m Y=↑(.v (.str x) b);let(x,b,c):=i;have e:BA m Y=↑(.v (GV x) false):=by unfold BA;rw[c]
 rw[e]at q;refine .inr {F,Y,R,S,?_};rw[c];intro d f y B g g1;exact{x,Ip g1,q d f _ (g.mono λϊ z=>z.elim) zl3}
 have e:BA m Y=Io m Y:=by
  unfold BA;grind
 rw[e]at q;exact .inl {(F),Y,R,S,q}
end
open Classical in
def met(val:Nat->Key):Nat->List Key
 |0=>[]|i+1=>if val i∈met val i then met val i else met val i++[val i]
open Classical in
def Xc(val:Nat->Key):∀i,(met val i).length<=i
 |0=>Ç 0|i+1=>by
  have:=Xc val i;unfold met;split;lia;rw[à,ı];lia
section
variable {prog:Program}{w:World}{A:Around}{E:Value->Shared->Prop}
open Classical in
def Xo{knd:PySem.KeyKind prog w Key}{R:Result->Shared->Prop}{I:Addr}{fp J:List Addr}{G:Array GenState->Array GenState->Prop}{n:Nat}{P:Nat->Value->Prop}{St:Nat->Shared->Prop}(W:WalksS prog w A.in1 I fp J G n P St)(S:Addr)(j:S∉fp)(val:Nat->Key)
  (L:∀i v,P i v->knd.is (val i) v=true/\v.scannable=true) (Y:n+1<scanBound):∀(k i:Nat) (s:Shared),n - i=k->i<=n->St i s->Heap.SetOf knd s.heap S (λk'=>decide (k'∈met val i)) (met val i).length ->
   (∀s':Shared,Moved (S::J) G s s'->Heap.SetOf knd s'.heap S (λk'=>decide (k'∈met val n)) (met val n).length->R (Except.ok<|Flow.ret Value.none) s') ->
   codeAny (model prog w) A (Code.builtin "set.update.loop" { pos:=[Value.ref S,Value.ref I] }) R s
 |0,i,s,hk,X,st,a,h=>by
  have e:i=n:=by lia
  subst e;refine ř F.entry_set_update_loop ?_;rw[Around.under_plainId š];unfold Builtin.«set.update.loop»;refine Â<|W.done s _ _ st λs' mv=>?_
  refine Ê ?_;refine h s' (mv.mono λb d=>Ì _ d) ?_;let(o,m,l,t,p,q):=a;exact{o,m,l,t,mv.heap S o (λz=>j<|W.sub S z) p,q}
 |k+1,i,s,hk,X,st,a,h=>by
  have u:i<n:=by lia
  refine ř F.entry_set_update_loop ?_;rw[Around.under_plainId š];unfold Builtin.«set.update.loop»;refine Â<|W.item i s _ _ u st λv s' pv E mv=>?_
  let(r,x):=L i v pv
  have f:Heap.SetOf knd s'.heap S (λk'=>decide (k'∈met val i)) (met val i).length:=by
   let(o,m,l,t,p,q):=a;exact{o,m,l,t,mv.heap S o (λz=>j<|W.sub S z) p,q}
  refine Â<|ú ?_;unfold setAdd;refine ú<|Â<|knd.pyHash r ?_;have Z:=Xc val i;refine wpAny_setAddHashed_of (s:={ s' with toks:=s'.toks+1 }) r x f (by lia) λK sb g=>?_
  refine Ê {plainId_quiet š _,?_};have H:=W.frame (i+1) s' K (s'.toks+1) E (ď _) λb d o e=>(sb.2 b<|λz=>j<|z▸d).trans e
  have B:Moved (S::J) G s { s' with heap:=K,toks:=s'.toks+1 }:=(mv.mono λb d=>Ì _ d).then_heap (ď _) λb o d e=>(sb.2 b<|λz=>d (by rw[z];exact Í ..)).trans e;refine Xo W S j val L Y k (i+1) _ (by lia) (by lia) H ?_ λD C y=>h D (B.trans W.gtrans C) y
  have j:(λk'=>(decide (k'∈met val i) || decide (k'=val i)))=λk'=>decide (k'∈met val (i+1)):=funext λk'=>by
   conv=>rhs;unfold met
   by_cases c:val i∈met val i;rw[if_pos c];by_cases e:k'=val i;rw[e,É c];rfl;rw[Ù e,Bool.or_false];rw[if_neg c,ŏ];erw[Ď,ë,å,Ô]
  have V:(if decide (val i∈met val i)=true then (met val i).length else (met val i).length+1)=(met val<|i+1).length:=by
   conv=>rhs;unfold met
   by_cases c:val i∈met val i;rw[if_pos c,if_pos<|É c];rw[if_neg c,if_neg<|λz=>c<|ñ z,à,ı]
  let(o,m,l,t,p,q,M,N,O,Q,T,U):=g;refine{o,m,l,t,p,q,M,N,λk'=>?_,Q,T,U.trans V};rw[<- O k'];have e:=congrFun j k';show decide (k'∈met val (i+1))=true ↔ _;rw[<- e]
end
open Classical in
def zbs{prog:Program}{w:World}{A:Around}{E:Value->Shared->Prop}{s:Shared}{l:Addr}{items:Array Value}{knd:PySem.KeyKind prog w Key}{val:Nat->Key}{Q:Value->Shared->Prop}(hh:A.handled=none)(hl:s.heap.IsList l items)
  (hP:∀(i:Nat) (v:Value),items[i]?=↑v->knd.is (val i) v=true/\v.scannable=true) (I:items.size+1<scanBound)
  (h:∀(h':Heap) (tk:Nat),Heap.SetOf knd h' s.heap.objs.size (λk'=>decide (k'∈met val items.size)) (met val items.size).length->(∀(b:Nat) (o:Obj),b<s.heap.objs.size->s.heap.get? b=↑o->h'.get? b=↑o)->Q (.ref s.heap.objs.size) { s with heap:=h',toks:=tk }) :
  wpAny (model prog w) A (call (Value.type "set") [Value.ref l]) Q E s:=by
 let(c,tl,x):=ĩ.mro;have n:=ĩ.made;have C:=ĩ.sub;refine ę<|codeAny_of_tree ?_;refine Ê {Code.quiet_builtin _ (by decide +kernel),ř F.entry_type_call ?_}
 have hu:=Around.under_plain (A:=A) (weight_type_call_type "set" [Value.ref l] []) rfl;have h1:=ĩ.notType;have h2:=ĩ.canCreate;have J:=F.typeCall_set_1<|Value.ref l;show wpAny (model prog w) (A.under<|Code.builtin "type.__call__" { pos:=[Value.type "set",Value.ref l] }) _ _ _ s;rw[hu];unfold Builtin.«type.__call__»;refine þ (by rw[h1];rfl)<|þ (by rw[h2];rfl) ?_
 refine Â<|ě J<|Â<|ě x<|þ rfl<|Â<|ě n<|Â<|Ê<|Â<|ú<|ę<|ý (code_set_new_1 (E:=λϊ ϊ=>False) (Value.ref l) (Q₁:=λv q=>∃d:Bool,v=.ref s.heap.objs.size/\q={ s with heap:=s.heap.push { cls:=.type "set",data:=.set #[] 0 (SetTable.fresh 0 0 d) } }) λd=>{(d),rfl,rfl}) λr D B=>?_
 cases r with
 |error e=>exact False.elim B|ok fl=>
  cases fl with
  |next=>exact False.elim B|brk=>exact False.elim B|cont=>exact False.elim B|ret v=>
   let(d,rfl,rfl):=(show ∃d:Bool,v=.ref s.heap.objs.size/\D={ s with heap:=s.heap.push { cls:=.type "set",data:=.set #[] 0 (SetTable.fresh 0 0 d) } } from B);have N:(s.heap.push { cls:=.type "set",data:=.set #[] 0 (SetTable.fresh 0 0 d) }).get? s.heap.objs.size=↑{ cls:=.type "set",data:=.set #[] 0 (SetTable.fresh 0 0 d) }:=ä _ rfl;have H:Shared.TypeIs { s with heap:=s.heap.push { cls:=.type "set",data:=.set #[] 0 (SetTable.fresh 0 0 d) } } (.ref s.heap.objs.size) "set":={_,N,rfl}
   have m:=ĩ.init;refine Â<|Ž H C<|þ rfl<|Â<|ú ?_;unfold callSpecial?;refine Â<|wpAny_specialOf H m.lookup<|ú<|Â<|ě (m.bind _)<|Â<|ę<|ý (R:=wants (λv q=>v=.none/\∃tk h',q={ s with heap:=h',toks:=tk }/\Heap.SetOf knd h' s.heap.objs.size (λk'=>decide (k'∈met val items.size)) (met val items.size).length/\∀(b:Nat) (o:Obj),b<s.heap.objs.size->s.heap.get? b=↑o->h'.get? b=↑o) λϊ ϊ=>False) (ż m.plain F.entry_set_init<|check_set_init_1 H ?_) λr G f=>?_
   unfold Builtin.«set.__init__» noKeywords;refine Â<|wpAny_ite_true rfl<|Ê ?_;unfold typeNameOfCut shownTypeOf;refine Â<|Â<|Â<|wpAny_typeOf H<|þ (by decide +kernel)<|Ê ?_
   refine ě (rfl:typeNameCut 200 (Value.type "set")=pure _) ?_;refine Â<|ě (rfl:checkCount _ 0 1 1=pure ()) ?_;refine Â<|Ê ?_;unfold setUsed setState;refine Â<|Â<|Â<|wpAny_load N<|þ rfl<|Ê<|Ê<|þ rfl ?_;let(P,y,k,nl,u):=id hl;have g:(s.heap.push { cls:=.type "set",data:=.set #[] 0 (SetTable.fresh 0 0 d) }).get? l=↑P:=Ñ _ y;have j:Shared.TypeIs { s with heap:=s.heap.push { cls:=.type "set",data:=.set #[] 0 (SetTable.fresh 0 0 d) } } (.ref l) "list":={_,g,k}
   unfold Builtin.Frozenset.updateFrom Builtin.Frozenset.isAnySet;refine Â<|Â<|Â<|Ž j F.sub_list_set ?_;have M:(s.heap.push { cls:=.type "set",data:=.set #[] 0 (SetTable.fresh 0 0 d) }).IsList l items:={(P),g,k,nl,u};refine Ž j F.sub_list_frozenset<|þ rfl<|Â<|wpAny_typeOf j<|þ (by decide +kernel)<|Â<|Ĭ M ?_
   have lt:l<s.heap.objs.size:=Æ y;have p:(s.heap.push { cls:=.type "set",data:=.set #[] 0 (SetTable.fresh 0 0 d) }).objs.size=s.heap.objs.size+1:=ă _ _;generalize L:s.heap.push { cls:=.type "set",data:=.set #[] 0 (SetTable.fresh 0 0 d) }=hp at *
   have hS:s.heap.objs.size∉[hp.objs.size,l]:=by
    rw[p];intro z;rcases Î.mp z with e|e;exact absurd e<|Ó<|Ĕ _
    exact absurd (Ô.mp e)<|Nat.ne_of_gt lt
   refine Â<|wpAny_runValue ?_;refine Xo (knd:=knd) (A:=A.in1.in1) (Walks.list (A:=A.in1.in1.in1) hh hp.objs.size l (by rw[p];exact Ó<|ģ lt) items).toS s.heap.objs.size hS val (λi v e=>hP i v e) I items.size 0 _ (by lia) (ù _) {?_,?_} ?_ λq mv O=>?_
   exact{_,ä _ rfl,rfl,rfl};exact{P,Ñ _ g,k,nl,u};letI:BEq Key:={λa b=>decide (a=b)};haveI:LawfulBEq Key:={ eq_of_beq:=λh=>ñ h,rfl:=É rfl };have U:=(setObjOf_fresh (prog:=prog) (w:=w) (knd:=knd) d).setOf (h:=hp.push { cls:=.type "list_iterator",data:=.fields #[.ref l,.int 0 0] }) (a:=s.heap.objs.size) (Ñ _ N) (by decide);let(o,W,V,t,g1,g2,X,Y,Z,g6,g7,g8):=U;refine{o,W,V,t,g1,g2,X,Y,λk'=>?_,g6,g7,g8};rw[<- Z k'];simp[met];refine Ê<|Ê ?_
   have T:∀(b:Nat) (o:Obj),b<s.heap.objs.size->s.heap.get? b=↑o->q.heap.get? b=↑o:=λb o I e=>by
    refine mv.heap b o (λz=>?_)<|Ñ _ (by rw[<- L];exact Ñ _ e)
    rcases Î.mp z with e|e;exact absurd e<|Ó I
    have e:=Ô.mp e;rw[p]at e;exact absurd e<|Ó<|ģ I
   have m1:=mv.gens;have m2:=mv.drawn;have S:=mv.os;let(K,g',d',t',os'):=q;refine{rfl,t',K,?_,O,T};simp only at m1 m2 S;rw[m1,m2,S]
   .cases r with
    |error e=>exact False.elim f|ok fl=>
     cases fl with
     |next=>exact False.elim f|brk=>exact False.elim f|cont=>exact False.elim f|ret v=>
      let(rfl,tk,h',rfl,hs,hk):=(show v=.none/\∃tk h',G={ s with heap:=h',toks:=tk }/\Heap.SetOf knd h' s.heap.objs.size (λk'=>decide (k'∈met val items.size)) (met val items.size).length/\∀(b:Nat) (o:Obj),b<s.heap.objs.size->s.heap.get? b=↑o->h'.get? b=↑o from f);refine Ê<|þ rfl<|Ê ?_;exact h h' tk hs hk
def TK(P:Program)(w:World)(a:Addr)(ks:List Key):HO:=.ext λh=>Heap.SetOf (DY P w) h a (λk=>@decide (k∈ks) (Classical.propDecidable _)) ks.length
section
variable {X:Cx}
def zfq(y:X.calm=true):Be X (.type "set") (λxs H Q=>∃(p:Addr) (ys:kE),xs=[.ref p]/\Ab X.K H p (ys.map V.str)/\ys.length<1000/\∀a,H a=none->Q (.ref a) (upd H a<|TK X.prog X.w a<|met (λi=>Sum.inr<|ys.getD i Str.empty) ys.length)):=by
 intro L s O H xs M Q I r h;let(p,ys,rfl,z,B,q):=h;let(u,rfl,F):=Ej r;cases F;let(g,x,D,_):=I.list z;have c:=x.length;rw[À]at c;have d:g.toArray.size=ys.length:=by rw[ó];exact c.symm
 refine zbs (knd:=DY X.prog X.w) (val:=λi=>Sum.inr<|ys.getD i Str.empty) (I.ok.hd y) D.isList (λi v e=>?_) (by rw[d];exact Ý (Nat.succ_lt_succ B)<|by decide) λG tk f kp=>?_;have j :=by simpa using e
 have w:i<ys.length:=by rw[c];exact(Ð.mp j).1
 have A:(ys.map V.str)[i]?=↑(.str ys[i]):=by rw[È,Á w];rfl
 let(u,l,E):=x.get A;rw[j]at l;cases l;let(t,rfl):=(E);refine{?_,rfl};show Gf (Sum.inr<|ys.getD i Str.empty) (Value.str ys[i] t)=true;rw[Ö,Á w];show(ys[i] == ys[i])=true;exact í _
 rw[d]at f;refine{.ref s.heap.objs.size,_,I.laid (o:=TK X.prog X.w s.heap.objs.size<|met (λi=>Sum.inr<|ys.getD i Str.empty) ys.length) (λb o e=>kp b o (Æ e) e) (Ç _) {?_,?_,?_},rfl,q _<|I.hok.fresh<|Ç _};exact f;let(o,n,m,t,g1,_):=f;exact{(o),g1};intro J K C k;let(o,n,m,t,g1,g2):=C;exact{o,n,m,t,k o g1,g2}
def zft:Be X (.builtin "len") (λxs H Q=>∃a ks,xs=[.ref a]/\H a=↑(TK X.prog X.w a ks)/\Q (.int ks.length) H):=by
 intro p s O H xs v Q I r h;let(a,ks,rfl,i,q):=h;let(u,rfl,k):=Ej r;cases k;let((o,b,l,t,g1,g2,c,m,n,d,f,g),_):=(show _/\_ from I.hok a _ i)
 have j:((b.size:Nat):Int)<2 ^ 63:=by
  have:scanBound<=2 ^ 40:=by decide
  have e:b.size<scanBound:=d;lia
 refine call_len_set g1 g2 c f j {.int (b.size:Int),H,I.tok _,{_,rfl},?_};rw[show b.size=ks.length from g];exact q
end
def Dz:kL->Option (kE)
 |[]=>↑[]|.str x::r=>(match Dz r with
  |some l=>↑(x::l)|none=>none)
 |ϊ::ϋ=>none
set_option tactic.hygienic true in
def LU{K}{F}:∀{l} {ys} {xs},Dz l=↑ys->Ae K F l xs->xs=ys.map V.str
 |[],ys,xs,h,r=>by
  cases h;exact r.inv0
 |t::l,ys,xs,h,r=>by
  let(x,c,rfl,r1,b):=r.inv;unfold Dz at h;split at h;grind;rename_i y r e;cases e;split at h;rename_i d a;cases h;rw[r1.str_inv,LU a b];rfl;cases h;cases h
def Nu(ys:kE):Nat:=(met (λi=>Sum.inr<|ys.getD i Str.empty) ys.length).length
def JX:T->kH
 |.nd ϊ .lst l=>(match Dz l with
  |some a=>if a.length<1000 then ↑(.int<|Nu a) else none
  |none=>none)
 |.nd ϊ .rl l=>(match Dz l with
  |some a=>if a.length<1000 then ↑(.int<|Nu a) else none
  |none=>none)
 |ϊ=>none
section
variable {X:Cx}{E:L2.St->XK}{ca:Str->Value}{m:AJ}{e:Expr}{pos p p2 p3:Pos}
set_option tactic.hygienic true in
def r_unq(w:X.calm=true)(y:Gl X "len")(A:X.mg "len"=none)(d:Gl X "set")(f:X.mg "set"=none)(b:PE X e<|tM X.K E ca m)(r:starEach [e] X.env=[(false,eval e X.env)]) :
  PE X (.Call (.Name "len" p) [.Call (.Name "set" p2) [e] [] p3] [] pos) (tM X.K E ca<|BZ (g1 JX)<|AB m AE):=by
 have c:=Vg (pos:=p3) (p:=p2) (zfq w) d f (rfl) (Es b Fe r) (by decide) (by decide) r rfl;refine PE.weak (Lm (zft) y A PySem.boot_len (Es c Fe rfl) (by decide) (by decide) rfl rfl) λO H Q h=>?_;refine(HD<|HE h).mono λx G t=>?_;let(F,I,v,fh,rs,e,q):=HB t;unfold g1 at e;split at e;let(J,C,s,r1,B):=rs.inv;cases s;unfold JX at e;split at e;split at e;rename_i o l k g;split at e;rename_i i;cases e;let(j,D,rfl,_,n,kd):=Dp r1;have u :=n;refine{j,k,rfl,Ab.of (by rw[<- LU g kd];exact fh _ _ u),i,λa b=>{a,_,rfl,Ce,?_}}
 exact q F _ _ R0 ((Ext.newO fh b).mono λϊ z=>z.elim)<|Rp.int _
 cases e;cases e;split at e;rename_i o l k g;split at e;rename_i i;cases e;let(j,D,rfl,_,n,kd):=Dp r1;refine{j,k,rfl,by rw[<- LU g kd];exact fh.seq<|GJ.l n,i,λa b=>{a,_,rfl,Ce,?_}}
 exact q F _ _ R0 ((Ext.newO fh b).mono λϊ z=>z.elim)<|Rp.int _
 cases e;cases e;cases e;cases e
end
def FV:T->T->kH
 |.int i,.int j=>↑(.bl<|decide (i<=j))|.str x,.str y=>↑(.bl<|!(@decide (y.cps.toList<x.cps.toList) (Classical.propDecidable _)))|ϊ,ϋ=>none
section
variable {X:Cx}{E:L2.St->XK}{ca:Str->Value}{m mk:AJ}{o k:Expr}{pos apos cpos:Pos}
set_option tactic.hygienic true in
def zka:Ac X (compareOp .LtE)<|Bg X.K FV:=by
 intro g s O H x y v u Q I c d h;let(F,k,l,r,fh,r1,f,e,q):=h;unfold FV at e;split at e
 cases e;rw[r1.int_inv]at c;rw[f.int_inv]at d;exact Vk g s O H _ _ v u Q I c d {_,_,rfl,rfl,q.bl fh};rename_i a b;cases e;rw[r1.str_inv]at c;rw[f.str_inv]at d;let(t,rfl):=(c);let(j,rfl):=(d);refine PySem.P.le_str {.bl _,H,I,rfl,?_};have i:=q.bl fh
 grind;cases e
end
def C0(ys:kE)(y:Str):Option Nat:=ys.findIdx? λx=>@decide (x=y) (Classical.propDecidable _)
def zey{ys:kE}{y:Str}{j:Nat}(h:C0 ys y=↑j):∃hj:j<ys.length,ys[j]=y/\∀(m:Nat) (hm:m<ys.length),m<j->ys[m]≠y:=by
 unfold C0 at h;let(b,c,d):=ĝ.mp h;refine{b,@of_decide_eq_true _ (Classical.propDecidable _) c,λm hm a e=>?_}
 exact d m a<|@decide_eq_true _ (Classical.propDecidable _) e
def Zu{x y:Str}:(x.cps.toList == y.cps.toList)=true ↔ x=y:=by
 constructor;cases x;simp_all;grind
def zne(K:k6):V->kK->Hp->VK->Prop:=λx b H Q=>∃(l:Addr) (a:kE) (y:Str) (j:Nat),x=.ref l/\b=[.str y]/\Ab K H l (a.map V.str)/\C0 a y=↑j/\a.length<1000000/\Q (.int j) H
section
variable {X:Cx}{E:L2.St->XK}{ca:Str->Value}{m mk:AJ}{o k:Expr}{pos apos cpos:Pos}
def zh4:NX X "list.index"<|zne X.K:=by
 intro pz s O H x vs v us Q I S R h;let(l,k,y,j,rfl,rfl,G,J,Z,q):=h;cases S;let(u,rfl,D):=R.one;let(d,r,(ob,n,e,c1,c2,c3),P):=I.list G;have L:=r.length;let(U,Y,W,T):=ob;simp only at c1 c2 c3;subst c1 c2 c3;let(t,rfl):=(D);let(K,w,A):=zey J;rw[À]at L
 have at_:∀(i ) (o ),∃(b:Tok) (a:i<k.length),d.toArray[i]=Value.str k[i] b:=λi o=>by
  have p :=by simpa using o
  have a:i<k.length:=by lia
  have N:(k.map V.str)[i]?=↑(.str k[i]):=by rw[È,Á a];rfl
  let(u,E,D):=r.get N;let(b,rfl):=(D);rw[Á p]at E;refine{b,a,?_}
  simpa using E
 let ev:Value->Bool:=λv=>match v with
  |.str x ϊ=>x.cps.toList == y.cps.toList|ϊ=>false
 have c:∀(x ) (b ),ev (.str x b)=(x.cps.toList == y.cps.toList):=λϊ ϊ=>rfl;have g:j<d.toArray.size:=by rw[ó];lia
 refine Ļ F.slot_list_index {_,e,rfl} F.entry_list_index (F.args_list_index_2 _ _) (SeqAt.list_indexAt l d.toArray n none T (.str y t) ev j g (by lia) ?_ λm M B=>?_) {e,λy' C=>?_,.int j,H,I.tok _,{_,rfl},q}
 rotate_left 2
 let(i,o,rfl):=Array.mem_iff_getElem.mp C;let(b,a,f):=at_ i o;rw[f,c _ b];exact(SeqRoads2.EqGives.str _ _ _ _).at _ _
 let(b,a,f):=at_ j g;rw[f,c _ b];exact Zu.mpr w;let(b,a,f):=at_ m M;rw[f,c _ b,Bool.eq_false_iff];exact λz=>A m a B<|Zu.mp z
def Jn:T->Option (kL)
 |.nd false .lst l=>↑l|.nd false .rl l=>↑l|ϊ=>none
def zkr{t:T}{l:kL}(h:Jn t=↑l):∃k,t=.nd false k l/\Ik t=true:=by
 unfold Jn at h;split at h;cases h;exact{_,rfl,rfl};cases h;exact{_,rfl,rfl};cases h
def HQ(m mk:AJ):AJ:=λY=>match m Y with
  |some (.v t false)=>(match Jn t with
   |some l=>(match Dz l with
    |some a=>(match mk Y with
      |some (.v (.str y) ϊ)=>(match C0 a y with
        |some j=>if a.length<1000000 then ↑(.v (.int j) false) else none
        |none=>none)
      |ϊ=>none)
    |none=>none)
   |none=>none)
  |ϊ=>none
def zje(V:PE X o<|tM X.K E ca m)(hk:PE X k<|tM X.K E ca mk)(d:attributeBase o "index" X.env (eval o X.env)=eval o X.env)(G:starEach [k] X.env=[(false,eval k X.env)])(e:(apos.endLine == cpos.line)=true) :
    PE X (.Call (.Attribute o "index" apos) [k] [] cpos) (tM X.K E ca<|HQ m mk):=by
  refine PE.weak (Ln Š PySem.F.slot_list_index PySem.F.type_list_index zh4 V (Es hk Fe G) d (by rw[G];rfl) e G rfl) λO H Q h=>?_;let(F,Y,R,S,q):=h;refine{F,Y,R,S,?_};unfold HQ at q;cases n:m Y with
  |none=>erw[n]at q<;>symm|some r=>
    cases r with
    |x c=>erw[n]at q<;>symm|v t b=>
      cases b with
      |true=>erw[n]at q<;>symm|false=>
       erw[n]at q;cases f:Jn t with
       |none=>erw[f]at q<;>symm|some l=>
        erw[f]at q;let(kk,rfl,T):=zkr f;intro i M x B u g1;have P:Rp X.K i M (.nd false kk l) x B:=g1;let(p,rfl):=P.ref_inv;let(xs0,U,D):=Ae.node P;let(p1,xs,s,g,W):=Jy T<|Ae.of_node (H:=i) U D;injection s with s
        subst s;cases J:Dz l with
        |none=>erw[J]at q<;>symm|some K=>
          erw[J]at q;have I:=LU J W;refine{.inl {rfl,xs,g i M (A3.refl _) u.fh},i,Y,R,S.ext u,?_};cases a:mk Y with
          |none=>erw[a]at q<;>symm|some r=>
            cases r with
            |x c=>erw[a]at q<;>symm|v t2 b2=>
              cases t2 with
              |str y=>
                erw[a]at q;intro L N z B2 w g2;have Z:=Ip g2;subst Z;cases A:C0 K y with
                |none=>erw[A]at q<;>symm|some j=>
                  erw[A]at q;by_cases C:K.length<1000000
                  . rw[if_pos C]at q
                    refine{p,K,y,j,rfl,rfl,by rw[<- I];exact g L N w.ff w.fh,A,C,?_};exact q L N _ R0 ((u.trans w).mono λϊ z=>z.elim)<|.int _
                  . rw[if_neg C]at q
                    symm
              |_=>erw[a]at q<;>symm
end
section
variable {X:Cx}{E:L2.St->XK}{ca:Str->Value}{mu:Bool}{i:Nat}{x n:Str}{np pos hpos:Pos}{body suite:kD}{b₀:Stmt}{u h:AH}{cs:List<|Str×Addr}
def StR.put{K}{t:T}(S:StR K F H O Y R)(h:i<Y.length)(r:Rp K F H t v R0):StR K F H (O.set i ↑v) (Y.set i ↑t) (λj=>if j=i then R0 else R j):=by
 refine{S.fh,by simpa using S.len,λj g e=>?_,λj a z=>?_,λj k a f c d=>?_};by_cases b:j=i;subst b;rw[é h]at e;cases e;exact{v,é (by rw[S.len];exact h),by simpa using r};rw[ã<|Ë b]at e;let(y,l,r1):=S.rep j g e;exact{y,by rw[ã<|Ë b];exact l,by simpa[b] using r1}
 by_cases b:j=i;erw[b,Å]at z;exact z.elim;erw[b,Ã]at z;let(g,e):=S.out j a z;exact{g,by rw[ã<|Ë b];exact e}
 by_cases b:j=i;erw[b,Å]at c;exact c.elim;by_cases hk:k=i;erw[hk,Å]at d;exact d.elim;erw[b,Ã]at c;erw[hk,Ã]at d;exact S.dis j k a f c d
end
def isXT(a:List<|Addr×Bool):T->kH
 |.obj (.exn C) ϊ=>(match a.lookup C with
  |some b=>↑(.bl b)|none=>none)
 |ϊ=>none
section
variable {X:Cx}{E:L2.St->XK}{ca:Str->Value}{m:AJ}{e:Expr}{pos p p2:Pos}{c:Str}{v:V}{tb:List<|Addr×Bool}
end
def Kd.isLst:Kd->Bool
 |.lst=>true|ϊ=>false
section
variable {X:Cx}{E:L2.St->XK}{ca:Str->Value}{mu:Bool}{i j:Nat}{tg it c:Expr}{ret:kD}{mc:AJ}{k:T}{ip pos:Pos}
variable {e:Expr}{m:AJ}{t:T}{p1 apos cpos bpos:Pos}{x:Str}
end
section
variable {X:Cx}{E:L2.St->XK}{ca:Str->Value}{m mk ma:AJ}{o k e a:Expr}{pos apos cpos p p2:Pos}
def rSlS:V->kA->kA->Hp->VK->Prop:=λx b a H Q=>∃z:Str,x=.str z/\z.length<=Bj/\Q (.str<|Txt.slice z b a) H
def zme:Hl X rSlS:=by
 intro r s O H x v vl y p o w Q I n h m f q;let(z,rfl,a,q):=q;let(t,rfl):=(n);let(ob,c,b,hd):=h;rw[GB]at a;cases m with
 |none=>
  cases f with
  |none=>exact{"str",_,ł.lookup,Į _ _ _,Ś (l:=none) (u:=none) (st:=none) {(ob),c,b,hd} rfl<|ś {Û (œ z _ _) a,λd k=>{.str _,H,I.tok _,{_,rfl},q}}}|int j e=>exact{"str",_,ł.lookup,Į _ _ _,Ś (l:=none) (u:=↑(j,e)) (st:=none) {(ob),c,b,hd} rfl<|ś {Û (œ z _ _) a,λd k=>{.str _,H,I.tok _,{_,rfl},q}}}
 |int i g=>
  cases f with
  |none=>exact{"str",_,ł.lookup,Į _ _ _,Ś (l:=↑(i,g)) (u:=none) (st:=none) {(ob),c,b,hd} rfl<|ś {Û (œ z _ _) a,λd k=>{.str _,H,I.tok _,{_,rfl},q}}}|int j e=>exact{"str",_,ł.lookup,Į _ _ _,Ś (l:=↑(i,g)) (u:=↑(j,e)) (st:=none) {(ob),c,b,hd} rfl<|ś {Û (œ z _ _) a,λd k=>{.str _,H,I.tok _,{_,rfl},q}}}
def Ew(ma:AJ)(d c:Option<|AJ):AJ:=λY=>match ma Y with
 |some (.v (.str z) ϊ)=>(match FR d Y,FR c Y with
  |some b,↑a=>if z.length<=Bj then ↑(.v (.str<|Txt.slice z b a) false) else none
  |ϊ,ϋ=>none)
 |ϊ=>none
def zgl{lo hi}(A:PE X a<|tM X.K E ca ma)(C:PO X lo<|HA X.K ml)(hh:PO X hi<|HA X.K mh):PE X (.Subscript a (.Slice lo hi none p2) pos)<|tM X.K E ca<|Ew ma ml mh:=by
 refine PE.weak (Vd zme A C hh) λO H Q h=>?_;let(F,Y,R,S,q):=h;refine{F,Y,R,S,?_};unfold Ew at q;cases m:ma Y with
 |none=>rw[m]at q;symm|some r=>
  rw[m]at q;cases r with
  |x c=>symm|v t I=>
   cases t with
   |str z=>
    intro j p x B w g1;have D:=Ip g1;subst D;have b:Ext F H j p R0:=w.mono λϊ z=>z.elim
    have k:=S.ext b;cases d:FR ml Y with
    |none=>erw[d]at q<;>symm|some i=>
     refine{j,Y,R,i,k,d,λn G l=>?_};have u:=k.ext l;cases e:FR mh Y with
     |none=>erw[d,e]at q<;>symm|some f=>
      erw[d,e]at q;refine{n,Y,R,f,u,e,λo s y=>?_};by_cases g:z.length<=Bj;rw[if_pos g]at q;exact{z,rfl,g,q o s _ R0 (b.trans0<|l.trans0 y)<|.str _};rw[if_neg g]at q;symm
   |_=>symm
def rJoin:V->kK->Hp->VK->Prop:=λx c H Q=>∃(a:Str) (l:Addr) (b:kE),x=.str a/\c=[.ref l]/\H l=↑(.lst<|b.map V.str)/\(b.map (·.length)).sum+b.length * a.length<=Bj/\Q (.str<|Txt.join a b) H
def U3:∀{ys} {its},A4 (ys.map V.str) its->StrsAre its ys
 |[],its,r=>by
  cases r;exact .nil
 |y::ys,its,r=>by
  cases r with
  |cons h t=>let(tk,rfl):=h;exact .cons _ _<|U3 t
def zkm:NX X "str.join" rJoin:=by
 intro j s O H x o v n Q I g f h;let(i,l,p,rfl,rfl,a,b,q):=h;let(t,rfl):=(g);let(u,rfl,e):=f.one;cases e;let(c,r,d,_):=I.list<|Ab.of a;refine join_list d.isList (U3 r) (by exact b) λm k=>{.str _,H,I.tok _,{_,rfl},q}
def Jl(m mk:AJ):AJ:=λY=>match m Y with
 |some (.v (.str a) ϊ)=>(match mk Y with
  |some (.v (.nd ϊ .lst l) ϋ)=>(match Dz l with
   |some b=>if (b.map (·.length)).sum+b.length * a.length<=Bj then ↑(.v (.str<|Txt.join a b) false) else none
   |none=>none)
  |ϊ=>none)
 |ϊ=>none
def zor{K}{o}(s:A3 F H)(h:Rp K F H (.nd o .lst l) x A):∃p xs,x=.ref p/\H p=↑(.lst xs)/\l.length=xs.length/\∀(i:Nat) (t) (x),l[i]?=↑t->xs[i]?=↑x->∃B,Rp K F H t x B:=by
 cases h with
 |shr h e c=>exact{_,_,rfl,s _ _ h,e,λi t x a b=>{_,c i t x a b}}|own hk R f h e c d dp o=>exact{_,_,rfl,h,e,λi t x a b=>{_,c i t x a b}}
set_option tactic.hygienic true in
def U2{K}{F H}:∀{l} {ys} {xs},Dz l=↑ys->l.length=xs.length->(∀(i:Nat) (t) (x),l[i]?=↑t->xs[i]?=↑x->∃B,Rp K F H t x B)->xs=ys.map V.str
 |[],ys,xs,h,e,ϊ=>by
  cases h;cases xs with
  |nil=>rfl|cons ϊ ϋ=>simp at e
 |t::l,ys,[],h,e,ϊ=>by simp at e|t::l,ys,x::xs,h,e,f=>by
  unfold Dz at h;split at h;cases ‹_::_=[]›;rename_i z r hh;cases hh;split at h;rename_i g c;cases h;let(B,r0):=f 0 _ x rfl rfl;have d:xs=g.map V.str:=U2 c (by simpa using e) λi t x a b=>f (i+1) t x (by simpa using a)<|by simpa using b
  rw[r0.str_inv,d];rfl;cases h;cases h
def zn8(N:PE X o<|tM X.K E ca m)(hk:PE X k<|tM X.K E ca mk)(a:attributeBase o "join" X.env (eval o X.env)=eval o X.env)(i:starEach [k] X.env=[(false,eval k X.env)])(d:(apos.endLine == cpos.line)=true) :
  PE X (.Call (.Attribute o "join" apos) [k] [] cpos) (tM X.K E ca<|Jl m mk):=by
 refine PE.weak (Ln PySem.F.plainAttrs_str PySem.F.slot_str_join PySem.F.type_str_join zkm N (Es hk Fe i) a (by rw[i];rfl) d i rfl) λO H Q h=>?_;let(F,Y,R,S,q):=h;refine{F,Y,R,S,?_};unfold Jl at q;cases G:m Y with
 |none=>rw[G]at q;symm|some r=>
  rw[G]at q;cases r with
  |x c=>symm|v t b=>
   cases t with
   |str g=>
    simp only at q;intro w I x B K g1;have T:=Ip g1;subst T;have e:Ext F H w I R0:=K.mono λϊ z=>z.elim
    refine{rfl,w,Y,R,S.ext e,?_};cases f:mk Y with
    |none=>rw[f]at q;symm|some V=>
     rw[f]at q;cases V with
     |x c=>symm|v W J=>
      cases W with
      |nd o2 U l=>
       cases U with
       |lst=>
        simp only at q;intro y C z Z D g2
        have P:∃A,Rp X.K y C (.nd o2 .lst l) z A:=by
         cases J with
         |true=>let(_,A,_,r):=g2;exact{(A),r}
         |false=>exact{_,g2}
        let(A,r):=P;let(p,xs,rfl,M,L,kd):=zor D.fh r;cases n:Dz l with
        |none=>erw[n]at q<;>symm|some u=>
         erw[n]at q;have j:=U2 n L kd
         by_cases s:(u.map (·.length)).sum+u.length * g.length<=Bj;rw[if_pos s]at q;exact{g,p,u,rfl,rfl,by rw[<- j];exact M,s,q y C _ R0 ((e.trans D).mono λϊ z=>z.elim)<|.str _};rw[if_neg s]at q;symm
       |_=>symm
      |_=>symm
   |_=>symm
def rIxD:R2:=λx y H Q=>∃a b k v,x=.ref a/\y=.str k/\H a=↑(.dK b)/\Dy b (Sum.inr k)=↑v/\Q v H
def zpb(o:X.A.units+1<cLine):Fk X rIxD:=by
 intro d c z s O H x y v u Q I A B h n;let(a,t,k,w,rfl,rfl,i,p,q):=h;cases A;have g :=p▸JQ.k i
 have m:s.TypeIs (.ref a) "dict":=by
  let(_,_,D,_,l):=Zn I.hok i;exact l.typeIs
 refine Â ?_;refine Â<|wpAny_specialOf m PySem.F.slot_dict_getitem.lookup ?_
 have BD:wpAny (model X.prog X.w) X.A (subscripted c false (.ref a) u) (λr b=>wpAny (model X.prog X.w) X.A (letTemporaryGo d (.ref a) r >>= λϊ=>pure r) (EP X z O Q) X.xe b) X.xe s:=by
  rw[n];exact wpAny_operating<|ê (zff o I g (B) λE C j f=>{(w),H,j,f,q}) (λr b e=>Â<|wpAny_letTemporaryGo<|Ê e) λϊ ϊ x=>x
 first|exact Ê (Â BD)|rfl|rfl
def Jm(m mk:AJ):AJ:=λY=>match m Y with
 |some (.v (.obj (.sdc a) l) ϊ)=>(match mk Y with
  |some (.v (.str y) ϊ)=>(match C0 a y with
   |some j=>(match l[j]? with
    |some u=>if u.sh then ↑(.v u false) else none
    |none=>none)
   |none=>none)
  |ϊ=>none)
 |ϊ=>none
def Tu:∀{ks} {xs} {y} {j} {v},C0 ks y=↑j->xs[j]?=↑v->Dy (Co ks xs) (Sum.inr y)=↑v
 |[],xs,y,j,v,h,ϊ=>by simp[C0]at h|k::ks,[],y,j,v,ϊ,h=>by simp at h|k::ks,x::xs,y,j,v,h,a=>by
  show Dy ((Sum.inr k,x)::Co ks xs) (Sum.inr y)=↑v;unfold C0 at h;rw[Ű]at h;by_cases e:k=y;rw[@decide_eq_true _ (Classical.propDecidable _) e]at h;erw[Å,ſ]at h;subst h;rw[LI (p:=(Sum.inr k,x))<|by rw[e]];simpa using a;rw[@decide_eq_false _ (Classical.propDecidable _) e]at h;erw[ġ,Ã,Ø]at h;let(c,b,rfl):=h;rw[LJ (p:=(Sum.inr k,x))<|λz=>e<|Sum.inr.inj z]
  exact Tu (show C0 ks y=↑c from b)<|by simpa using a
def r_gt(U:X.A.units+1<cLine)(P:PE X o<|tM X.K E ca m)(hk:PE X k<|tM X.K E ca mk)(T:Kk k):PE X (.Subscript o k pos)<|tM X.K E ca<|Jm m mk:=by
 refine PE.weak (QF (zpb U) P hk T) λO H Q h=>?_;let(F,Y,R,S,q):=h;refine{F,Y,R,S,?_};unfold Jm at q;cases A:m Y with
 |none=>rw[A]at q;symm|some r=>
  rw[A]at q;cases r with
  |x c=>symm|v t b=>
   cases t with
   |obj kd l=>
    cases kd with
    |sdc W=>
     simp only at q;intro s D x B n g1;let(r1,J):=M0 g1;subst J;let(a,xs,rfl,_,(N,K),el,G):=r1.obj_inv;refine{s,Y,R,S.ext n,?_};cases g:mk Y with
     |none=>rw[g]at q;symm|some Z=>
      rw[g]at q;cases Z with
      |x c=>symm|v t2 b2=>
       cases t2 with
       |str y=>
        simp only at q;intro w i z B2 I g2;have V:=Ip g2;subst V;have e:Ext s D w i R0:=I.mono λϊ z=>z.elim
        cases p:C0 W y with
        |none=>erw[p]at q<;>symm|some j=>
         erw[p]at q;cases d:l[j]? with
         |none=>erw[d]at q<;>symm|some u=>
          erw[d]at q;by_cases f:u.sh=true;rw[if_pos f]at q;have M:=(Ð.mp d).1;have C:xs[j]?=↑xs[j]:=Á<|by lia
          have L:=(G j u _ d C).move (H':=i) f e.ff;exact{a,_,y,_,rfl,rfl,e.hh _ _<|n.fh _ _ K,Tu p C,q w i _ R0 (n.trans0 e) L};rw[if_neg f]at q;symm
       |_=>symm
    |_=>symm
   |_=>symm
def tKys(d:TE):TE:=λO H Q=>d O H λx b=>∃a c xs,x=.ref a/\c.length=xs.length/\b a=↑(.dK<|Co c xs)/\∀p,b p=none->Q (.ref p) (upd b p<|.lst<|c.map V.str)
def YF:∀{ks} {xs},ks.length=xs.length->(Co ks xs).length=ks.length
 |[],[],ϊ=>rfl|[],ϊ::ϋ,h=>by simp at h|ϊ::ϋ,[],h=>by simp at h|k::ks,x::xs,h=>by
  show(Co ks xs).length+1=ks.length+1;rw[YF<|by simpa using h]
def YG:∀{ks} {xs} {vs},ks.length=xs.length->KV (Co ks xs) vs->vs.map (·.1)=ks.map Sum.inr
 |[],[],vs,ϊ,r=>by
  have a :=(r);cases a;rfl
 |[],ϊ::ϋ,ό,h,ύ=>by simp at h|ϊ::ϋ,[],ό,h,ύ=>by simp at h|k::ks,x::xs,vs,h,r=>by
  have a :=r;cases a with
  |@cons ϊ q ϋ c hd b=>rw[Õ,Õ,<- hd.1,YG (by simpa using h) b]
def znz(U:X.calm=true)(Y:Gl X "list")(Z:X.mg "list"=none)(ho:PE X o to)(J:starEach [o] X.env=[(false,eval o X.env)]) :
  PE X (.Call (.Name "list" p) [o] [] p2) (tKys to):=by
 intro pz s O H Q I h;refine ĭ<|GD I Y Z ń ?_ (by decide)<|by decide
 refine Ğ ?_ (by rw[J];rfl) rfl;rw[J];show wpAny _ _ (spliced<|(false,eval o X.env)::backTo p2 (starEach [] X.env)) _ _ s;refine Calls.spliced_cons<|AZ (ho pz s O H _ I h) λv s1 zz=>?_
 let(x,H1,m,r1,q1):=zz;let(a,g,xs,rfl,F,hd,q):=q1;cases r1;let(z,D,K,l,o',T,S,C,r):=(m.hok a _ hd);have B:s1.heap.DictAt (DY X.prog X.w) a K S:={(o'),T,C,r};refine Calls.spliced_nil ?_;refine W.kdl_call (W.kdl_dict D) (m.ok.hd U) B (by rw[<- zp1 l];exact z) λh' tk c L hk G e=>?_
 have b:=YG F l;refine{.ref _,_,m.laid hk (Ç _) ?_,rfl,q _<|m.hok.fresh<|Ç _};refine{by rw[À,<- YF F];exact z,c.toList,L,?_,by rw[G]}
 have j:c.toList.length=g.length:=by
  rw[Array.length_toList,e.1,<- À,b,À]
 have f:∀(n ) (k ) (v ),g[n]?=↑k->c.toList[n]?=↑v->∃t,v=Value.str k t:=λn k v y A=>by
  let(k',x',M,N):=e.2 n v (by rw[<- Array.getElem?_toList];exact A);have E:(K.map (·.1))[n]?=↑k':=by rw[È,M];rfl
  rw[b,È,y]at E;have P :=(Ü E).symm;subst P
  rcases FX (show Gf (Sum.inr k) v=true from N) with ⟨i,t,w,_⟩|⟨x,t,w,R⟩;cases w;cases w;exact{(t),R}
 clear G hk e;generalize c.toList=d at j f;clear hd q b
 have go:∀(g:kE) (d ),d.length=g.length->(∀(n:Nat) (k ) (v ),g[n]?=↑k->d[n]?=↑v->∃t,v=Value.str k t)->A4 (g.map V.str) d:=by
  intro g
  induction g with
  |nil=>
   intro d u _;cases d with
   |nil=>exact .nil|cons ϊ ϋ=>simp at u
  |cons k g ih=>
   intro d u f;cases d with
   |nil=>simp at u|cons v d=>exact .cons (f 0 k v rfl rfl)<|ih d (by simpa using u) λn k v y A=>f (n+1) k v (by simpa using y)<|by simpa using A
 exact go g d j f
def Gb(m:AJ):AJ:=λY=>match m Y with
 |some (.v (.obj (.sdc a) ϊ) ϋ)=>↑(.v (.own<|a.map T.str) false)|ϊ=>none
theorem zgi{K}(ks:kE):Ae K F (ks.map T.str)<|ks.map V.str:={by simp,λi t x a b=>by
 rw[È]at a b;cases h:ks[i]? with
 |none=>grind|some k=>rw[h]at a b;cases a;cases b;exact .str k}
def r_kys(D:X.calm=true)(G:Gl X "list")(I:X.mg "list"=none)(J:PE X o<|tM X.K E ca m)(L:starEach [o] X.env=[(false,eval o X.env)]):PE X (.Call (.Name "list" p) [o] [] p2)<|tM X.K E ca<|Gb m:=by
 refine PE.weak (znz D G I J L) λO H Q h=>?_;let(F,Y,R,S,q):=h;refine{F,Y,R,S,?_};unfold Gb at q;cases d:m Y with
 |none=>rw[d]at q;symm|some r=>
  rw[d]at q;cases r with
  |x c=>symm|v t b=>
   cases t with
   |obj kd l=>
    cases kd with
    |sdc j=>
     intro n u x B f g1;let(r1,y):=M0 g1;subst y;let(a,xs,rfl,_,(i,A),N,M):=r1.obj_inv;refine{a,j,xs,rfl,i,f.fh _ _ A,λp K=>?_}
     have w:Cq X.K n u (.own<|j.map T.str) Q:=λk s z C e g=>q k s z C (f.trans0 e) g;exact w.list f.fh (zgi j) K
    |_=>symm
   |_=>symm
structure ICls(K:k6)(C:Addr):Prop where
 c:Cls K C
 a:W.findIn K (.ref C) "__class__"=↑(↑(.builtin "object.__class__"))
 n:W.specialIn K (.builtin "object.__class__") "__get__"=↑(↑(.builtin "getset_descriptor.__get__"))
 k:W.takesIn K (.builtin "object.__class__")=↑true
 m:W.mroIn K C (.type "object")=↑true
def RZ(a:List<|Addr×Bool):Ob->kH
 |.ins C ϊ=>(a.lookup C).map .bl|ϊ=>none
def LK:List String:=["NoneType","bool","int","str","list","tuple","dict"]
def Jz(a:List<|Addr×Bool):T->kH
 |.obj o ϊ=>RZ a o|t=>(LL t).map λϊ=>.bl false
def zib(c:ICls X.K C)(hk:W.kitOne X.K (.ref C) (.ref D)=↑b):Be X (.builtin "isinstance") (λxs H Q=>∃a dx fs,xs=[.ref a,.ref D]/\H a=↑(.ins C dx fs)/\Q (.bl b) H):=by
 intro g s O H xs i Q I r h;let(a,dx,fs,rfl,e,q):=h;let(u,j,rfl,d,f):=Gw r;cases f;exact RX I d (.ins e c.c c.a c.n c.k c.m) hk λtk=>{.bl b,H,I.tok _,rfl,q}
def r_isC(g:(∀C b,tb.lookup C=↑b->ICls X.K C/\W.kitOne X.K (.ref C) (.ref D)=↑b)/\(LK.all λa=>W.kitOne X.K (.type a) (.ref D) == ↑false)=true)(G:Gl X "isinstance")(f:X.mg "isinstance"=none)(j:Gl X c)(k:X.mg c=↑(.ref D))(hd:(c == "__debug__")=false)(i:PE X e<|tM X.K E ca m)(l:starEach [e,.Name c p2] X.env=(false,eval e X.env)::starEach [.Name c p2] X.env) :
  PE X (.Call (.Name "isinstance" p) [e,.Name c p2] [] pos) (tM X.K E ca<|BZ (g1<|Jz tb)<|AB m AE):=by
 have A:Be X (.builtin "isinstance") (λxs H Q=>(∃C b a d fs,tb.lookup C=↑b/\xs=[.ref a,.ref D]/\H a=↑(.ins C d fs)/\Q (.bl b) H)\/∃x a,xs=[x,.ref D]/\a∈LK/\(TyOf X.K H x (.type a)\/TC X.K H x a)/\Q (.bl false) H):=λK s O H xs N Q I r h=>by
  rcases h with ⟨C,b,a,d,fs,n,h⟩|⟨x,a,rfl,f,ty,q⟩;exact zib (g.1 C b n).1 (g.1 C b n).2 K s O H xs N Q I r {(a),d,fs,h};have hk :=eq_of_beq<|Ú.mp g.2 a f;let(u,T,rfl,o,M):=Gw r;cases M
  rcases ty with ty|J;exact RX I o ty hk λtk=>{.bl false,H,I.tok _,rfl,q};exact YT I o J hk λtk=>{.bl false,H,I.tok _,rfl,q}
 refine PE.weak (Lm A G f PyProof.Rows.boot_isinstance (Es i (Es (Ve (v:=.ref D) j k rfl hd) Fe) l) (by decide) (by decide) l rfl) λO H Q h=>?_;refine(HD<|HE h).mono λx R y=>?_;let(F,S,w,fh,rs,e,q):=HB y;unfold g1 at e;split at e;let(U,P,t,r1,L):=rs.inv;cases t;unfold Jz at e;split at e;unfold RZ at e;split at e;let(b,B,rfl):=Ø.mp e;let(a,xs,rfl,_,(d,z),_,_):=r1.obj_inv;exact .inl {_,b,a,d,_,B,rfl,fh _ _ z,q.bl fh}
 cases e;let(a,i,rfl):=Ø.mp e;let(ty,f):=UA fh r1 i;exact .inr {_,a,rfl,f,ty,q.bl fh}
 cases e
variable {p1 pos2 pos3:Pos}{mu:Bool}{i j:Nat}{x f:Str}
end
end Pu
namespace Zx
open PySem PySem.Spec PyProof.Rows L2 Zw
section
variable {A:Around}{E:Value->Shared->Prop}{M:Model}
end
section
variable {X:Cx}{i1 i2:Nat}{x1 x2 n1 n2:Str}{np1 np2 pos hpos1 hpos2:Pos}{body suite1 suite2:kD}{b1 b2:Stmt}{tb th1 th2:TS}{E:L2.St->XK}
end
end Zx
namespace Pu
open PySem PySem.Spec PyProof.Rows L2 Zw Zx
section
variable {X:Cx}{E:L2.St->XK}{ca:Str->Value}{mu:Bool}{i1 i2:Nat}{x1 x2 n1 n2:Str}{np1 np2 pos hpos1 hpos2:Pos}{body suite1 suite2:kD}{b1 b2:Stmt}{u h1 h2:AH}{cs1 cs2:List<|Str×Addr}
variable {m:AJ}{e:Expr}{p p2 p3 p4:Pos}{c1 c2:Str}{t1 t2:List<|Addr×Bool}{kt:Nat}
end
section
variable {X:Cx}{E:L2.St->XK}{ca:Str->Value}{m mk ma:AJ}{o k e a:Expr}{pos apos cpos p p2:Pos}
variable {pos':Pos}
end
abbrev Y2(ms:Ar):Ar:=E1 ms
theorem r_enX{X:Cx}{E:L2.St->XK}{ca:Str->Value}{ms:Ar}{a:Expr}{b:kC}{h:Nat}{p pos c:Pos}(e:Gl X "enumerate")(f:X.mg "enumerate"=none)(d:PA X [a]<|CA X.K E ca ms)(g:starEach [a] X.env=[(false,eval a X.env)]):PI X (.Tuple b h c) (.Call (.Name "enumerate" p) [a] [] pos)<|tI X.K E ca<|Y2 ms:=VX e f d g
def clsO(C N:Addr)(o:Obj):Prop:=∃nm q bs b k sub d c e f g h i j a,o=excClassObj nm q C N bs [.type "object"] b k sub d c e f g h i j a
def keyO(e:DictEntry):Bool:=match e.key with
 |.str n ϊ=>!(n == ("__eq__":Str)) && !(n == ("__ne__":Str))|ϊ=>false
def nsO(o:Obj):Bool:=match o.data with
 |.dict a ϊ=>a.toList.all keyO|ϊ=>false
structure TiOk(K:k6)(C:Addr):Prop where
 i:ICls K C
 k:(Hx.all λc=>W.kitOne K (.ref C) (.type c) == ↑false)=true
 o:∃(oC oN:Obj) (N:Addr),K.lookup C=↑oC/\clsO C N oC/\K.lookup N=↑oN/\nsO oN=true
mutual
noncomputable def T.lend:T->T
 |.nd o k l=>match o,k with
  |true,.lst=>.nd false .rl (GC l)|true,.tup=>.nd false .tup (GC l)|ϊ,ϋ=>.nd o k l
 |.dic a l=>.dic a l|.pdc a l=>.pdc a l|.odc a l=>.odc a l|.obj k l=>.obj k l|.oob p C fs l=>.oob p C fs l|.osd a l=>.osd a l|.non=>.non|.bl b=>.bl b|.int i=>.int i|.str x=>.str x
noncomputable def GC:List T->List T
 |[]=>[]|t::r=>t.lend::GC r
end
def RY:T->Bool
 |.nd o k ϊ=>match o,k with
  |true,.lst=>true|ϊ,ϋ=>false
 |ϊ=>false
def zl4(h:RY t=true):∃l,t=.nd true .lst l:=by
 cases t with
 |nd o k l=>
  cases o with
  |false=>cases h|true=>cases k<;>first|exact⟨l,rfl⟩|cases h
 |_=>cases h
mutual
noncomputable def T.lnd:T->Bool
 |.nd o k l=>match o,k with
  |true,.lst=>FU l|true,.tup=>l.any RY && FU l|true,ϊ=>false|false,ϊ=>AV l
 |.dic ϊ l=>AV l|.pdc ϊ l=>AV l|.odc ϊ ϋ=>false|.obj ϊ l=>AV l|.oob ϊ ϋ ό ύ=>false|.osd ϊ ϋ=>false|.non=>true|.bl ϊ=>true|.int ϊ=>true|.str ϊ=>true
noncomputable def FU:List T->Bool
 |[]=>true|t::r=>t.lnd && FU r
end
def MN:∀l,GC l=l.map T.lend
 |[]=>rfl|t::r=>by rw[GC,MN r];rfl
def RK:∀{l},FU l=true->∀{i:Nat} {t},l[i]?=↑t->t.lnd=true
 |[],ϊ,i,t,e=>by simp at e|a::r,h,i,t,e=>by
  rw[FU,Ä]at h;cases i with
  |zero=>cases e;exact h.1|succ j=>exact RK h.2<|by simpa using e
def Xs(n:T.lnd (.nd true .tup l)=true):l.any RY=true/\FU l=true:=by
 rw[T.lnd,Ä]at n;exact n
def Rp.lend{K}(r:Rp K F H t x A)(n:t.lnd=true)(s:A3 F F')(k:∀a xs,A a->H a=↑(.lst xs)->∃o,F' a=↑(.frz o<|.lst xs))(k2:∀a xs,A a->H a=↑(.tup xs)->F' a=↑(.tup xs)):Rp K F' H' t.lend x R0:=by
 induction r with
 |non=>exact .non|bl b=>exact .bl b|int i=>exact .int i|str y=>exact .str y|@shr m p xs l h e c g=>
  have C:T.sh (.nd false m l)=true:=by rw[T.sh];rw[T.lnd]at n;exact n
  have B:(T.nd false m l).lend=.nd false m l:=by cases m<;>rfl
  rw[B];exact(Rp.shr (H:=H) h e c).move C s
 |dic h e q c g=>exact(Rp.dic (H:=H) h e q c).move (by rw[T.sh];exact n) s|pdc h e q c g=>exact(Rp.pdc (H:=H) h e q c).move (by rw[T.sh];exact n) s|odc f h e q c g=>cases n|obj h e c g=>exact(Rp.obj (H:=H) h e c).move (by rw[T.sh];exact n) s|oob R f h e c d dp o g=>cases n|osd R f h e q c d dp o g=>cases n|@own m p xs l hk R f h e c d dp o g=>
  have j:FU l=true->∀i t x,(GC l)[i]?=↑t->xs[i]?=↑x->Rp K F' H' t x R0:=λnl i t x v w=>by
   rw[MN,È]at v;let(D,u,rfl):=Ø.mp v;exact g i D x u w (RK nl u) (λa xs z=>k a xs<|.inr {(i),z}) λa xs z=>k2 a xs<|.inr {(i),z}
  cases m with
  |lst=>rw[T.lend];exact .shr (.inl<|k p xs (.inl rfl) h) (by rw[MN,À];exact e) (j n)|tup=>rw[T.lend];exact .shr (k:=.tup) (k2 p xs (.inl rfl) h) (by rw[MN,À];exact e) (j (Xs n).2)|_=>cases n
def Rp.lnd{K}(r:Rp K F H t x A)(n:t.lnd=true):∀a,A a->(∃xs,H a=↑(.lst xs))\/∃xs,H a=↑(.tup xs)/\∃(j:Nat) (c:Addr) (ys:kK),xs[j]?=↑(.ref c)/\A c/\H c=↑(.lst ys):=by
 induction r with
 |@own T p xs l hk R f h e c d dp o k=>
  have b:FU l=true->∀a i,R i a->(∃xs,H a=↑(.lst xs))\/∃xs,H a=↑(.tup xs)/\∃(j:Nat) (c:Addr) (ys:kK),xs[j]?=↑(.ref c)/\(c=p\/∃i,R i c)/\H c=↑(.lst ys):=λnl a i z=>by
   have u:=o i a z;have g:i<xs.length:=by lia
   rcases k i _ _ (Á u) (Á g) (RK nl<|Á u) a z with w|⟨W,E,j,c,ys,G,I,J⟩;exact .inl w;exact .inr {W,E,j,c,ys,G,.inr {(i),I},J}
  cases T with
  |lst=>
   rintro a (rfl|⟨i,z⟩);exact .inl {(xs),h};exact b n a i z
  |tup=>
   let(U,V):=Xs n;rintro a (rfl|⟨i,z⟩);let(t,Q,O):=ŵ.mp U;let(m,rfl):=zl4 O;let(j,M,C):=ņ.mp Q;have g:j<xs.length:=by lia
   have s:=c j _ _ (Á M)<|Á g;rw[C]at s;generalize L:R j=B at s;generalize S:xs[j]=y at s;cases s with
   |@own k1 q ys m' N X fq P eq Y Z v oq=>exact .inr {xs,h,j,q,ys,by rw[Á g,S],.inr {j,by rw[L];exact .inl rfl},P}
   exact b V a i z
  |_=>cases n
 |odc f h e D c k=>cases n|oob R f h e c d dp o k=>cases n|osd R f h e D c d dp o k=>cases n|_=>exact λa z=>z.elim
open Classical in
def fz(A:Rg)(h:Heap)(H:Hp):Hp:=λb=>if A b then (match H b,h.get? b with
 |some (.lst xs),↑o=>↑(.frz o<|.lst xs)|u,ϊ=>u) else H b
open Classical in
def th(A:Rg)(H H':Hp):Hp:=λb=>if A b then H b else H' b
def fz_in{A:Rg}{h:Heap}{H:Hp}(z:A b)(e:H b=↑(.lst xs))(q:h.get? b=↑o):fz A h H b=↑(.frz o<|.lst xs):=by unfold fz;rw[if_pos z,e,q]
def Y9{A:Rg}{h:Heap}{H:Hp}(z:¬ A b):fz A h H b=H b:=by unfold fz;rw[if_neg z]
set_option tactic.hygienic true in
def KE{A:Rg}{h:Heap}{H:Hp}(e:∀xs,H b≠↑(.lst xs)):fz A h H b=H b:=by
 unfold fz;split;split;rename_i xs _ q _;exact absurd q<|e xs
 rfl;rfl
def Hz{A:Rg}{H H':Hp}(z:A b):th A H H' b=H b:=by unfold th;rw[if_pos z]
def Fc{A:Rg}{H H':Hp}(z:¬ A b):th A H H' b=H' b:=by unfold th;rw[if_neg z]
section
variable {X:Cx}{pz:List<|Addr×Obj}{O O':L2.St}{H H':Hp}{s s':Shared}{A:Rg}
def Ha(I:Inv X pz O H s)(z:A b)(e:H b=↑(.lst xs)):∃o,s.heap.get? b=↑o/\fz A s.heap H b=↑(.frz o<|.lst xs):=by
 let(_,a,n,_,q):=I.hok b _ e;exact{_,q,fz_in z e q}
def zhd(I:Inv X pz O H s):Inv X pz O (fz A s.heap H) s:=by
 have nf:∀{b},H b=none->fz A s.heap H b=none:=λ{b} e=>by
  rw[KE (λxs q=>by rw[e]at q;cases q)];exact e
 have nl:∀{b} {u},H b=↑u->(∀xs,u≠.lst xs)->fz A s.heap H b=↑u:=λ{b u} e n=>by
  rw[KE (λxs q=>by rw[e]at q;exact n xs<|Ü q)];exact e
 refine { I with base:={I.base.keep,I.base.slot,λb o e n k=>nf<|I.base.free b o e n k,I.base.there,λb xs e=>nl (I.base.tups b xs e) (λϊ z=>by cases z),λb o u e=>nl (I.base.frzs b o u e) (λϊ z=>by cases z),λb ps e=>?_},free:=nf I.free,freeC:=λx c e=>nf<|I.freeC x c e,pin:=λp j=>?_,hok:=λa o e=>?_ };let(more,q):=I.base.tbls b ps e;exact{more,nl q<|λϊ z=>by cases z};let(f,g,h):=I.pin p j;exact{f,nf g,h};have st:=λ{u} q=>(I.hok a u q).stay (H':=fz A s.heap H) (λϊ ϊ ϊ e=>e) (λb e=>nl e<|λϊ z=>by cases z) λb xs e=>nl e<|λϊ z=>by cases z
 by_cases z:A a/\∃xs,H a=↑(.lst xs);let(z,xs,q):=z;let(ob,i,w):=Ha I z q;rw[w]at e;cases e;exact{i,st q}
 by_cases d:A a;rw[KE<|λxs q=>z {(d),xs,q}]at e;exact st e;rw[Y9 d]at e;exact st e
def zhc(I:Inv X pz O H s)(d:∀a,A a->(∃xs,H a=↑(.lst xs))\/∃xs,H a=↑(.tup xs))(Γ:Inv X pz O' H' s')(hk:∀b,A b->H' b=fz A s.heap H b):Inv X pz O' (th A H H') s':=by
 have nf:∀{b},(A b->H b=none)->H' b=none->th A H H' b=none:=λ{b} i j=>by
  by_cases z:A b;rw[Hz z];exact i z;rw[Fc z];exact j
 have h:∀{b xs},A b->H b=↑(.tup xs)->H' b=↑(.tup xs):=λ{b xs} z e=>by
  rw[hk b z,KE (λt q=>by rw[e]at q;cases q)];exact e
 have nl:∀{b} {u},H' b=↑u->(∀o xs,u≠.frz o (.lst xs))->th A H H' b=↑u:=λ{b u} e n=>by
  by_cases z:A b;rcases d b z with ⟨xs,q⟩|⟨xs,q⟩;let(o,_,w):=Ha I z q;rw[hk b z,w]at e;exact absurd (Ü e).symm<|n o xs
  rw[Hz z,q,<- h z q];exact e;rw[Fc z];exact e
 refine { Γ with base:={Γ.base.keep,Γ.base.slot,λb o e n g=>nf (λϊ=>I.base.free b o e n g)<|Γ.base.free b o e n g,Γ.base.there,λb xs e=>nl (Γ.base.tups b xs e) (λϊ ϊ z=>by cases z),λb o u e=>?_,λb ps e=>?_},free:=nf (λϊ=>I.free) Γ.free,freeC:=λx c e=>nf (λϊ=>I.freeC x c e)<|Γ.freeC x c e,pin:=λp f=>?_,hok:=λa o e=>?_ };by_cases z:A b;rw[Hz z];exact I.base.frzs b o u e;rw[Fc z];exact Γ.base.frzs b o u e;let(more,q):=Γ.base.tbls b ps e;exact{more,nl q<|λϊ ϊ z=>by cases z};let(k,l,m):=Γ.pin p f;exact{k,nf (λϊ=>(I.pin p f).2.1) l,m};have st:=λ{u} (q:Cp X.prog X.w H' s'.heap a u)=>q.stay (H':=th A H H') (λϊ ϊ ϊ e=>e) (λb e=>nl e<|λϊ ϊ z=>by cases z) λb xs e=>nl e<|λϊ ϊ z=>by cases z
 by_cases z:A a;rcases d a z with ⟨xs,q⟩|⟨xs,q⟩;let(ob,r,w):=Ha I z q;rw[Hz z,q]at e;cases e;have:=Γ.hok a _<|(hk a z).trans w;exact st this.2
 rw[Hz z,q]at e;cases e;exact st<|Γ.hok a _<|h z q
 rw[Fc z]at e;exact st<|Γ.hok a o e
end
def MW:Kd->Bool
 |.rl=>false|.rt=>false|ϊ=>true
def oYng:Ob->Bool
 |.lab ϊ=>false|ϊ=>true
mutual
noncomputable def T.noR:T->Bool
 |.nd ϊ k l=>MW k && Et l|.dic ϊ l=>Et l|.pdc ϊ l=>Et l|.odc ϊ l=>Et l|.obj k l=>oYng k && Et l|.oob ϊ ϋ ό l=>Et l|.osd ϊ l=>Et l|.non=>true|.bl ϊ=>true|.int ϊ=>true|.str ϊ=>true
noncomputable def Et:List T->Bool
 |[]=>true|t::r=>t.noR && Et r
end
def Ff:∀{l},Et l=true->∀{i:Nat} {t},l[i]?=↑t->t.noR=true
 |[],ϊ,i,t,e=>by simp at e|a::r,h,i,t,e=>by
  rw[Et,Ä]at h;cases i with
  |zero=>cases e;exact h.1|succ j=>exact Ff h.2<|by simpa using e
def zol{K}(r:Rp K F H t (.ref c) A)(n:t.noR=true)(b:F c=↑(.frz o<|.lst ys)):False:=by
 cases r with
 |@shr i p xs l a e k=>
  rw[T.noR,Ä]at n;cases i with
  |lst=>have h:F c=↑(.lst xs):=a;rw[b]at h;cases h|pin q=>have h:F c=↑(.lst xs):=a;rw[b]at h;cases h|tup=>have h:F c=↑(.tup xs):=a;rw[b]at h;cases h|rl=>cases n.1|rt=>cases n.1
 |dic a e g c=>rw[b]at a;cases a|pdc a e g c=>rw[b]at a;cases a|odc f a e g c=>rw[b]at f;cases f|@obj i p xs l a e c=>
  rw[T.noR,Ä]at n;cases i with
  |ins C fs=>let(j,q):=a;rw[b]at q;cases q
  |exn C=>let(j,(ob,q,_),_):=a;rw[b]at q;cases q
  |sdc m=>have q:=a.2;rw[b]at q;cases q|lab q=>cases n.1
 |oob R f a e c d dp o=>rw[b]at f;cases f|osd R f a e g c d dp o=>rw[b]at f;cases f|own hk R f a e c d dp o=>rw[b]at f;cases f
def Rp.noR{K}{N:Hp}{A:Rg}(r:Rp K F H t x B)(n:t.noR=true)(L:∀b,A b->(∃o xs,F b=↑(.frz o<|.lst xs))\/∃xs,F b=↑(.tup xs)/\∃(j:Nat) (c:Addr) (o:Obj) (ys:kK),xs[j]?=↑(.ref c)/\F c=↑(.frz o<|.lst ys))(D:∀b,B b->¬ A b):Rp K (FN A F) (th A N H) t x B:=by
 have nl:∀{b} {u},F b=↑u->(∀o xs,u≠.frz o (.lst xs))->(∀xs,u≠.tup xs)->FN A F b=↑u:=λ{b u} e m m2=>by
  unfold FN;rw[if_neg<|λz=>?_];exact e;rcases L b z with ⟨o,xs,q⟩|⟨xs,q,_⟩;rw[e]at q;exact m o xs<|Ü q
  rw[e]at q;exact m2 xs<|Ü q
 have E:∀{b},F b=none->FN A F b=none:=λ{b} e=>by unfold FN;split;rfl;exact e
 induction r with
 |non=>exact .non|bl b=>exact .bl b|int i=>exact .int i|str y=>exact .str y|@shr J p xs l g e c k=>
  rw[T.noR,Ä]at n;refine .shr ?_ e λi t x a h=>k i t x a h (Ff n.2 a) λb z=>z.elim;cases J with
  |lst=>exact nl g (λϊ ϊ z=>by cases z) (λϊ z=>by cases z)|pin q=>exact nl g (λϊ ϊ z=>by cases z) (λϊ z=>by cases z)|tup=>
   have I:F p=↑(.tup xs):=g;show FN A F p=↑(.tup xs);unfold FN;rw[if_neg<|λz=>?_]
   exact I;rcases L p z with ⟨o,ys,q⟩|⟨S,q,j,P,o,ys,a,h⟩;rw[I]at q;cases q;rw[I]at q;cases q;have M:j<l.length:=by rw[e];exact(Ð.mp a).1
   exact zol (c j _ _ (Á M) a) (Ff n.2<|Á M) h
  |rl=>cases n.1|rt=>cases n.1
 |dic g e w c k=>exact .dic (nl g (λϊ ϊ z=>by cases z)<|λϊ z=>by cases z) e w λi t x a h=>k i t x a h (Ff n a) λb z=>z.elim|pdc g e w c k=>exact .pdc (nl g (λϊ ϊ z=>by cases z)<|λϊ z=>by cases z) e w λi t x a h=>k i t x a h (Ff n a) λb z=>z.elim|odc f g e w c k=>exact .odc (E f) ((Fc<|D _ rfl).trans g) e w λi t x a h=>k i t x a h (Ff n a) λb z=>z.elim|@obj J p xs l g e c k=>
  rw[T.noR,Ä]at n;refine .obj ?_ e λi t x a h=>k i t x a h (Ff n.2 a) λb z=>z.elim;cases J with
  |ins C fs=>exact g.elim λG q=>{G,nl q (λϊ ϊ z=>by cases z)<|λϊ z=>by cases z}|exn C=>let(G,(ob,q,r),s):=g;exact{G,{ob,nl q (λϊ ϊ z=>by cases z) (λϊ z=>by cases z),r},λv O=>let ⟨d,od,u,e,a,r⟩:=s v O;{d,od,u,e,nl a (λϊ ϊ z=>by cases z) (λϊ z=>by cases z),r}}
  |sdc Q=>exact{g.1,nl g.2 (λϊ ϊ z=>by cases z)<|λϊ z=>by cases z}|lab q=>exact g
 |oob R f g e c d dp o k=>exact .oob R (E f) ((Fc<|D _<|.inl rfl).trans g) e (λi t x a h=>k i t x a h (Ff n a) λb z=>D b<|.inr {(i),z}) d dp o|osd R f g e w c d dp o k=>exact .osd R (E f) ((Fc<|D _<|.inl rfl).trans g) e w (λi t x a h=>k i t x a h (Ff n a) λb z=>D b<|.inr {(i),z}) d dp o|own hk R f g e c d dp o k=>rw[T.noR,Ä]at n;exact .own hk R (E f) ((Fc<|D _<|.inl rfl).trans g) e (λi t x a h=>k i t x a h (Ff n.2 a) λb z=>D b<|.inr {(i),z}) d dp o
def EY(i:Nat)(m:AJ):AJ:=λY=>match Y[i]? with
 |some ↑t=>if t.lnd then (match m (Y.set i ↑t.lend) with
  |some (.v v false)=>if v.noR then ↑(.v v false) else none
  |ϊ=>none) else none
 |ϊ=>none
def zeq(h:EY i m Y=↑r):∃t v,Y[i]?=↑↑t/\t.lnd=true/\m (Y.set i ↑t.lend)=↑(.v v false)/\v.noR=true/\r=.v v false:=by
 unfold EY at h;grind
def Xz{X:Cx}{E:L2.St->XK}{ca:Str->Value}{m:AJ}{i:Nat}{D:List<|Addr×Obj}{s:Shared}{O:L2.St}{H:Hp}{Q:VK}(I:Inv X D O H s)(h:tM X.K E ca (EY i m) O H Q) :
  ∃A:Rg,Inv X D O (fz A s.heap H) s/\tM X.K E ca m O (fz A s.heap H) (λv H'=>(∀b,A b->H' b=fz A s.heap H b)/\Q v (th A H H'))/\∀{O':L2.St} {H':Hp} {s':Shared},Inv X D O' H' s'->(∀b,A b->H' b=fz A s.heap H b)->Inv X D O' (th A H H') s':=by
 let(F,Y,R,S,q):=h;cases L:EY i m Y with
 |none=>rw[L]at q;symm|some r=>
  let(t,v,Z,W,hv,hn,rfl):=zeq L;rw[L]at q;let(x,ex,r):=S.rep i t Z;have hi:i<Y.length:=(Ð.mp Z).1;have V:=r.lnd W;have n:∀a,R i a->(∃xs,H a=↑(.lst xs))\/∃xs,H a=↑(.tup xs):=λa z=>(V a z).imp_right λ⟨xs,e,_⟩=>{(xs),e}
  have fA:∀a,R i a->F a=none:=λa z=>(r.dom z).1;have p:∀{b},¬ R i b->fz (R i) s.heap H b=H b:=λz=>Y9 z;have P:∀{b xs},H b=↑(.tup xs)->fz (R i) s.heap H b=↑(.tup xs):=λ{b xs} e=>by rw[KE (λys z=>by rw[e]at z;cases z)];exact e
  have M:A3 F<|frz F (fz (R i) s.heap H)<|R i:=FD fA
  have fh:A3 (frz F (fz (R i) s.heap H)<|R i)<|fz (R i) s.heap H:=λb u e=>by
   by_cases z:R i b;rw[E2 z]at e;exact e;rw[FC z]at e;rw[p z];exact S.fh b u e
  have S':StR X.K (frz F (fz (R i) s.heap H)<|R i) (fz (R i) s.heap H) O (Y.set i ↑t.lend) (λj=>if j=i then R0 else R j):=by
   refine{fh,by simpa using S.len,λj N e=>?_,λj a z=>?_,λj k a K G J=>?_};by_cases d:j=i;subst d;rw[é hi]at e;cases e;refine{x,ex,?_};erw[Å];refine r.lend W M (λa xs z f=>?_) λa xs z f=>?_;let(o,_,w):=Ha (A:=R j) I z f;exact{o,by rw[E2 z];exact w};rw[E2 z];exact P f;rw[ã<|Ë d]at e;let(y,f,r1):=S.rep j N e;refine{y,f,?_};erw[d,Ã];exact r1.frame M λa z=>{p λw=>S.dis j i a d z w,by rw[FC<|λw=>S.dis j i a d z w];exact(r1.dom z).1}
   by_cases d:j=i;erw[d,Å]at z;exact z.elim;erw[d,Ã]at z;let(N,e):=S.out j a z;exact{N,by rw[ã<|Ë d];exact e}
   by_cases d:j=i;erw[d,Å]at G;exact G.elim;by_cases hk:k=i;erw[hk,Å]at J;exact J.elim;erw[d,Ã]at G;erw[hk,Ã]at J;exact S.dis j k a K G J
  have l:∀b,R i b->∃u,fz (R i) s.heap H b=↑u:=λb z=>by
   rcases n b z with ⟨xs,e⟩|⟨xs,e⟩;let(o,_,w):=Ha (A:=R i) I z e;exact{_,w};exact{_,P e}
  refine{R i,zhd I,{_,_,_,S',?_},λΓ hk=>zhc I n Γ hk};rw[hv];intro T H' y B e g;have g':Rp X.K T H' v y B:=g
  have nB:∀b,B b->¬ R i b:=λb z w=>by
   let(u,C):=l b w;rw[e.nb b z]at C;cases C
  refine{λb z=>?_,q (FN (R i) T) (th (R i) H H') y B {λb u w=>?_,λb u w=>?_,λb u w=>?_,λb z=>?_,λb u w=>?_} ?_};let(u,C):=l b z;rw[C];exact e.hh b _ C;by_cases z:R i b;rw[Hz z];exact w;rw[Fc z];exact e.hh b u (by rw[p z];exact w);have z:¬ R i b:=λz=>by rw[fA b z]at w;cases w
  unfold FN;rw[if_neg z];exact e.ff b u<|M b u w
  unfold FN at w;by_cases z:R i b;rw[if_pos z]at w;cases w;rw[if_neg z]at w;rw[Fc z];exact e.fh b u w;rw[<- p<|nB b z];exact e.nb b z;unfold FN at w;by_cases z:R i b;rw[if_pos z]at w;cases w;rw[if_neg z]at w;rcases e.nf b u w with w|w;rw[FC z]at w;exact .inl w;rw[p z]at w;exact .inr w;refine g'.noR hn (λb z=>?_) nB;rcases V b z with ⟨xs,f⟩|⟨xs,f,j,c,ys,h1,U,h3⟩;let(o,_,w):=Ha (A:=R i) I z f;exact .inl {o,xs,e.ff b _ (by rw[E2 z];exact w)};let(o,_,w):=Ha (A:=R i) I U h3;exact .inr {xs,e.ff b _ (by rw[E2 z];exact P f),j,c,o,ys,h1,e.ff c _ (by rw[E2 U];exact w)}
def zn7{X:Cx}{E:L2.St->XK}{ca:Str->Value}{m:AJ}{e:Expr}{i:Nat}(d:PE X e<|tM X.K E ca m):PE X e<|tM X.K E ca<|EY i m:=by
 intro j s O H Q I h;let(A,b,c,a):=Xz I h;refine ê (d j s O _ _ b c) (λu o g=>?_) λϊ ϊ z=>z
 let(l,n,Γ,k,hk,f):=g;exact{l,_,a Γ hk,k,f}
def zmp{X:Cx}{E:L2.St->XK}{ca:Str->Value}{m:AJ}{st:Stmt}{i j:Nat}(n:PS X st<|GS (tM X.K E ca m)<|GG j):PS X st<|GS (tM X.K E ca<|EY i m)<|GG j:=by
 intro o s O H D I h;let(A,g,k,a):=Xz I h;refine ê (n o s O _ { nx:=λe d=>(∀b,A b->d b=fz A s.heap H b)/\D.nx e (th A H d),rt:=λϊ ϊ=>False,bk:=λϊ ϊ=>False,ct:=λϊ ϊ=>False } g k) (λf p c=>?_) λϊ ϊ z=>z
 cases f with
 |next=>let(e,d,Γ,hk,l):=c;exact{e,_,a Γ hk,l}
 |brk=>let(_,_,_,z):=c;exact z.elim
 |cont=>let(_,_,_,z):=c;exact z.elim
 |ret u=>let(_,_,_,_,_,z):=c;exact z.elim
end Pu
namespace Zx
open PySem PySem.Spec PyProof.Rows L2 Zw
section
variable {M:Model}{prog:Program}{w:World}{A:Around}{E:Value->Shared->Prop}{env:Env}{nm q:Str}{C N:Addr}{bs bm:k9}{hdct:Bool}{sn:kE}{sub:k9}{ab:Bool}{col:Option Bool}{dd:Option Addr}{k0 k1 k2 k3 k5:Option Value}{newId:String}
variable {K:k6}{s:Shared}{e:Addr}{vs:Array Value}{sl:Array<|Option Value}{name:Str}{v:Value}
end
section
variable {K:k6}{prog:Program}{w:World}{A:Around}{E:Value->Shared->Prop}{s:Shared}{a C:Addr}{name:Str}{u:Value}
variable {X:Cx}{pz:List<|Addr×Obj}{O:L2.St}{H:Hp}{t:Addr}
end
section
variable {X:Cx}{E:L2.St->XK}{C:Addr}{x:Str}{p pos:Pos}{e:Expr}{t:TA}{k j:Nat}
end
section
variable {X:Cx}{pz:List<|Addr×Obj}{O:L2.St}{H:Hp}{s:Shared}{a C t:Addr}{dx:Option Addr}
variable {E:L2.St->XK}{e:Expr}{pos:Pos}{te:TE}
end
end Zx
namespace Pu
open PySem PySem.Spec PyProof.Rows L2 Zw Zx
def GH(t u:T):kH:=match t,u with
 |.nd ϊ .lst (ϋ::ό),.nd ύ .lst []=>↑(.bl false)|ϊ,ϋ=>Aq t u
def zkb(i:X.A.units+64<cLine):Ac X (compareOp .Eq)<|Bg X.K GH:=by
 intro t s O H x y v u Q I f g h;let(F,z,A,r,fh,r1,d,e,q):=h;unfold GH at e;split at e
 cases e;let(p,xs,rfl,rfl,m,k):=Dp r1;let(D,E,rfl,rfl,n,l):=Dp d;cases f;cases g;let(j,w,o,_):=I.list<|Ab.of<|fh _ _ m;let(c,b,a,_):=I.list<|Ab.of<|fh _ _ n;refine SeqAt.RcAt.lists_lengths o.isList a.isList ?_ (by lia) _ _ _ _ {.bl false,H,I,rfl,q.bl fh}
 have l1:=k.1;have l2:=l.1;have B:=w.length;have C:=b.length
 grind;exact Vl i t s O H x y v u Q I f g {F,z,A,_,fh,r1,d,e,q}
end Pu
noncomputable section
namespace Pu
open PySem PySem.Spec PyProof.Rows L2 Zw Zx
structure Fn where
 lv:Nat
 ps:kE
 g:kL->Option Ru
structure Gx where
 co:List (Str×T)
 cl:List (Str×Addr×kE)
 mt:List (Str×Addr×kE×Fn)
 nw:List (Str×Fn×List (Nat×kL))
 nr:Bool
 tx:Bool
 df:Bool
 sf:Option (Addr×kE)
 xs:List (Str×List (Str×Addr))
 sb:List (Str×List (Addr×Bool))
 sv:List (Str×List (Addr×Bool))
 no:Bool
 fo:kE
 ci:List (Str×List (Addr×Bool))
 x2:List (Str×Str×List (Str×Addr))
 gt:kE
 wd:List (Str×Fn)
 pn:kE
 ti:List Addr
 dn:List (Str×Fn×kL)
 rn:Option<|Addr×Nat
abbrev DC:Gx:={[],[],[],[],false,true,true,none,[],[],[],true,[],[],[],[],[],[],[],[],none}
structure Gm where
 N:kE
 nm:List (Str×NameKind)
 ce:kE
 lv:Nat
 fns:List (Str×Fn)
 bl:kE
 ex:kE
 ow:kE
 pk:kE
 mu:Bool
 mus:List (Str×Fn)
 mv:kE
 dc:kE
 ox:Gx
def DE(x:Str):Bool:=!(x == ("__debug__":Str)) && !(x == ("__classdict__":Str)) && !(x == ("__name__":Str))
def Nr(nm:List<|Str×NameKind)(x:Str):Bool:=nm.lookup x == ↑.local || nm.lookup x == ↑.cell || nm.lookup x == ↑.free
def C1(nm:List<|Str×NameKind)(x:Str):Bool:=nm.lookup x == ↑.globalImplicit
def ED(N:kE)(x:Str):Option Nat:=N.findIdx? (· == x)
def Gm.var(J:Gm)(x:Str):Option Nat:=if DE x && Nr J.nm x then ED J.N x else none
def Gm.loc(J:Gm)(x:Str):Bool:=DE x && (J.nm.lookup x == ↑.local || J.ce.contains x)
def EU:Expr->Bool
 |.Starred ..=>false|ϊ=>true
def Fy:Expr->Bool
 |.IfExp ..=>false|.NamedExpr ..=>false|ϊ=>true
def nmOf:Expr->Option (Str×Pos)
 |.Name x p=>↑(x,p)|ϊ=>none
def Nx:kC->kE
 |[]=>[]|e::a=>(match nmOf e with
  |some (x,ϊ)=>x::Nx a|none=>Nx a)
def E8:Expr->kE
 |.Name x ϊ=>[x]|.Tuple a ϊ ϋ=>Nx a|ϊ=>[]
def zpd:Expr->Bool
 |.Tuple ..=>true|ϊ=>false
def HV:Expr->Bool
 |.Slice ..=>true|ϊ=>false
def Ee(nm:List<|Str×NameKind):kE:=nm.filterMap λ(y,k)=>if k == .free then ↑y else none
def SY(nm:List<|Str×NameKind):kE:=nm.filterMap λ(y,k)=>if k == .cell then ↑y else none
def J9(a outer:List<|Str×NameKind):List<|Str×NameKind:=a.map λ(n,k)=>if (k == .free && outer.lookup n == ↑.cell) then (n,.cell) else (n,k)
def KR(N:kE):kE->Option (kG)
 |[]=>↑[]|y::r=>(match ED N y with
  |some i=>(match KR N r with
   |some l=>↑(i::l)|none=>none)
  |none=>none)
def KZ(J:Gm)(a:Scope)(b:kE):Bool:=
 (a.kind == .function) && a.names.all (λx=>!(x.2 == .local) || a.names.lookup x.1 == ↑.local) &&
 a.names.all (λx=>!(x.2 == .free) || (a.names.lookup x.1 == ↑.free && (J.nm.lookup x.1 == ↑.cell || J.nm.lookup x.1 == ↑.free) && !(a.names.contains (x.1,NameKind.cell)))) &&
 decide b.Nodup && (SY a.names).all (λy=>(J9 a.names J.nm).lookup y == ↑.cell)
def Gm.blk(J:Gm)(a:Scope)(b:kE):Gm:={ J with N:=b,nm:=J9 a.names J.nm,ce:=(SY a.names).filter λy=>a.names.lookup y == ↑.cell,ow:=[],ox:={ J.ox with df:=false,nr:=true } }
def QK:Expr->Bool
 |.Set ..=>false|ϊ=>true
def Gg:Expr->Bool
 |.ListComp ..=>true|.SetComp ..=>true|.DictComp ..=>true|ϊ=>false
def YW:Expr->Bool
 |.Attribute ..=>true|ϊ=>false
def gtN(J:Gm):Expr->Bool
 |.Name x ϊ=>J.ox.gt.contains x|ϊ=>false
def G0:Expr->Bool
 |.Call ϊ a ϋ ό=>!a.isEmpty|ϊ=>true
def Mm(h:G0 o=true):attributeBase o f env (eval o env)=eval o env:=by
 cases o with
 |Call g a b c=>
  cases a with
  |nil=>cases h|cons e a=>cases g<;>rfl
 |_=>rfl
def zeo(h:G0 o=true)(a:((backTo pos<|starEach es env).all λx=>!x.1)=true)(d:es.length<30)(c:(ap.endLine == pos.line)=true):∃pl ,eval (.Call (.Attribute o f ap) es [] pos) env=(do
   let ov <- eval o env
   standAt ap.atName
   let (f,first) <- holding [ov] (getMethod ov f pl)
   callWith pos f first (backTo pos<|starEach es env) (backToKw pos<|keywordEach [] env)):=by
 refine{do let b <- importBound o env;pure (b.getD true),?_}
 have e:methodCallForm (es.length+([]:List Keyword).length) (backTo pos<|starEach es env) (backToKw pos<|keywordEach [] env)=true:=by
  unfold methodCallForm;rw[a];show(true && true && decide (es.length+0+0<30))=true;rw[É<|by lia];rfl
 rw[arm_eval_Call,Mm h];unfold methodCall calleeOf methodCallPos;rw[e,c];rfl
structure GxOk(G:Gx)(lv:Nat)(P:Program)(w:World)(K:k6)(mg:Str->Option Value)(base:Heap)(ca:Str->Value):Prop where
 co:∀x t,G.co.lookup x=↑t->∃u v,mg x=↑u/\A6 v u/\∀F:Hp,Rp K F F t v R0
 cl:∀c∈G.cl,Cls K c.2.1/\∀f∈c.2.2,Cd K c.2.1 f
 mt:∀c∈G.mt,c.2.2.2.lv<=lv/\Nonempty (MetX P w K mg base c.2.1 c.1 c.2.2.2.lv c.2.2.2.ps<|Br K ca c.2.2.2.g)
 nw:∀x F ds,G.nw.lookup x=↑(F,ds)->F.lv+1<=lv/\∃(C:Addr) (D:NewX P w K mg base x C F.lv F.ps<|J3 K ca C F.g),∀k dts,ds.lookup k=↑dts->∃dvs us,C6 K D.fd F.ps us/\A4 dvs us/\∀H:Hp,Ae K H dts dvs
 sf:∀C fs,G.sf=↑(C,fs)->Cls K C/\∀f∈fs,Cd K C f
 xs:∀W cs,G.xs.lookup W=↑cs->∃T:ECls K mg W,∀c C,cs.lookup c=↑C->ca c=.ref C/\PySem.W.subIn K (.ref C) (.ref T.C)=↑true
 sb:∀D tb,G.sb.lookup D=↑tb->∃A:Addr,mg D=↑(.ref A)/\∀C b,tb.lookup C=↑b->ExcK K C/\PySem.W.kitOne K (.ref C) (.ref A)=↑b
 sv:∀D tb,G.sv.lookup D=↑tb->mg D=none/\∃t,bootBuiltins D=↑(.type t)/\∀C b,tb.lookup C=↑b->ExcK K C/\PySem.W.kitOne K (.ref C) (.type t)=↑b
 ci:∀x tb,G.ci.lookup x=↑tb->∃D:Addr,mg x=↑(.ref D)/\(∀C b,tb.lookup C=↑b->ICls K C/\PySem.W.kitOne K (.ref C) (.ref D)=↑b)/\(LK.all λa=>PySem.W.kitOne K (.type a) (.ref D) == ↑false)=true
 x2:∀W1 W2 cs,(W1,W2,cs)∈G.x2->∃(T1:ECls K mg W1) (T2:ECls K mg W2),∀c C,cs.lookup c=↑C->ca c=.ref C/\PySem.W.subIn K (.ref C) (.ref T1.C)=↑false/\PySem.W.subIn K (.ref C) (.ref T2.C)=↑true
 wd:∀x F,G.wd.lookup x=↑F->F.lv<=lv/\∃p,F.ps=[p]/\Nonempty (DefS P w K mg base F.lv x p<|Br K ca F.g)
 ti:∀C∈G.ti,TiOk K C
 dn:∀x y,G.dn.lookup x=↑y->y.1.lv<=lv/\∃(D:DefX P w K mg base y.1.lv x y.1.ps<|Br K ca y.1.g) (dvs:kK),DefsX K D.fd y.1.ps dvs/\∀H:Hp,Ae K H y.2 dvs
 rn:True
structure CxOk(J:Gm)(X:Cx)(E:L2.St->XK)(ca:Str->Value):Prop where
 N:X.N=J.N
 nd:J.N.Nodup
 nm:X.env.scope.names=J.nm
 kd:X.env.scope.kind=.function
 calm:X.calm=true
 room:Room J.lv X.A
 ce:∀x∈J.ce,X.fn x=true/\J.nm.lookup x=↑.cell
 bl:∀b∈J.bl,X.mg b=none
 ps:DH X E
 po:J.ox.nr=false->PassesOwn (model X.prog X.w) X.A X.env X.xe
 md:J.ox.nr=false->TY X E
 mn:True
 fs:∀f F,J.fns.lookup f=↑F->F.lv<=J.lv/\Nonempty (DefX X.prog X.w X.K X.mg X.base F.lv f F.ps<|Br X.K ca F.g)
 ex:∀c∈J.ex,∃T:ECls X.K X.mg c,ca c=.ref T.C/\EF X.K T.C=↑none
 ms:∀f F,J.mus.lookup f=↑F->F.lv<=J.lv/\Nonempty (DefX X.prog X.w X.K X.mg X.base F.lv f F.ps<|Fp X.K ca F.g)
 gx:GxOk J.ox J.lv X.prog X.w X.K X.mg X.base ca
 tr:J.ox.df=true->X.stack=X.env::X.outer/\X.env.frame=↑X.env.locals
 fr:Hq X
def HU(h:ED N x=↑i):N[i]?=↑x:=by
 unfold ED at h;let(a,b,_):=ĝ.mp h;rw[Á a];exact congrArg some<|eq_of_beq b
def EB(h:DE x=true):(x == "__debug__")=false/\(x == "__classdict__")=false/\x≠"__name__":=by
 unfold DE at h;grind
def Ts(h:Nr sc.names x=true):E5 sc x:=by
 unfold Nr at h;erw[Ď,đ]at h;rcases h with (h|h)|h;exact .inl h;exact .inr<|.inl h
 exact .inr<|.inr h
def Cu(h:EU e=true):starEach (e::es) env=(false,eval e env)::starEach es env:=by
 cases e<;>first|rfl|cases h
def GU:∀{es} {env} {pos},(∀e∈es,EU e=true)->(backTo pos<|starEach es env).any (·.1)=false
 |[],env,pos,ϊ=>rfl|e::es,env,pos,h=>by
  rw[Cu<|h e (Í ..)];have b:=GU (env:=env) (pos:=pos) λx a=>h x<|Ì _ a
  show(false || (backTo pos<|starEach es env).any (·.1))=false;grind
section
variable {J:Gm}{X:Cx}{E:L2.St->XK}{ca:Str->Value}
set_option tactic.hygienic true in
def CxOk.var(C:CxOk J X E ca){pos:Pos}(h:J.var x=↑i):X.N[i]?=↑x/\E5 X.env.scope x/\(x == "__debug__")=false/\(x == "__classdict__")=false:=by
 unfold Gm.var at h;split at h;rename_i a;rw[Ä]at a;let(b,c,d):=EB a.1;exact{by rw[C.N];exact HU h,Ts (by rw[C.nm];exact a.2),b,c}
 cases h
def CxOk.gl(C:CxOk J X E ca)(h:C1 J.nm x=true):Gl X x:=by
 show X.env.scope.names.lookup x=↑.globalImplicit;rw[C.nm];exact eq_of_beq h
def CxOk.loc(C:CxOk J X E ca)(h:J.loc x=true)(a:ED J.N x=↑i):X.N[i]?=↑x/\Gu X.env.scope x/\(X.fn x=true\/X.env.scope.names.lookup x=↑.local):=by
 unfold Gm.loc at h;erw[Ä,Ď,đ]at h;refine{by rw[C.N];exact HU a,?_};rcases h.2 with h|h;exact{.inl (by rw[C.nm];exact h),.inr (by rw[C.nm];exact h)};let(c1,c2):=C.ce x<|ò.mp h;exact{.inr (by rw[C.nm];exact c2),.inl c1}
def CxOk.nodup(C:CxOk J X E ca):X.N.Nodup:=by rw[C.N];exact C.nd
def Xr(C:CxOk J X E ca)(b:J.loc x=true)(c:ED J.N x=↑i):PG X (.Name x pos)<|E9 X.K<|AD i:=by
 let(g1,g2,a):=C.loc b c;exact g_nm C.nodup g1 g2 a
set_option tactic.hygienic true in
def aB:∀{ys} {caps},KR N ys=↑caps->ys.length=caps.length/\∀(k j:Nat),caps[k]?=↑j->∃y,ys[k]?=↑y/\N[j]?=↑y
 |[],caps,h=>by cases h;exact{rfl,λk j e=>by simp at e}|y::r,caps,h=>by
  unfold KR at h;split at h;rename_i i c;split at h;rename_i l d;cases h;let(a,b):=aB d;refine{by simp[a],λk j e=>?_}
  cases k with
  |zero=>simp at e;subst e;exact{y,rfl,HU c}|succ k=>exact b k j<|by simpa using e
  cases h;cases h
def zfb(h:y∈Ee nm):(y,NameKind.free)∈nm:=by
 unfold Ee at h;grind
def aS(C:CxOk J X E ca)(h:KZ J scope (E8 tg++Ee scope.names)=true)(o:KR J.N (Ee scope.names)=↑caps):BlkOk X scope (E8 tg++Ee scope.names) (E8 tg).length caps:=by
 unfold KZ at h;erw[Ä]at h;let((((l,m),n),r),s):=h;let(l1,l2):=aB o
 have free:∀y∈scope.names,y.2=.free->scope.names.lookup y.1=↑.free/\(J.nm.lookup y.1=↑.cell\/J.nm.lookup y.1=↑.free)/\(y.1,NameKind.cell)∉scope.names:=λy a c=>by
  have q:=Ú.mp n y a;erw[c,í,Bool.not_true,Bool.false_or,Ä,đ,Ď,ō]at q;refine{q.1.1,q.1.2,λz=>?_};have:=ò.mpr z;rw[this]at q;exact Bool.noConfusion q.2
 refine{eq_of_beq l,λy a p=>?_,by simp[l1],λk j e=>?_,λy a c=>?_};have q:=Ú.mp m y a;erw[p,í,Bool.not_true,Bool.false_or,đ]at q;exact q;let(y,d,f):=l2 k j e;have fm:=zfb<|ì d;let(b,_,i):=free _ fm rfl;refine{y,by rw[C.N];exact f,?_,b,i}
 rw[ğ<|by lia];simpa using d;let(b,g,_):=free y a c;refine{b,?_};rw[C.nm];exact g
def zgj(hk:env.scope.kind=.function):(relabel scope env).names=J9 scope.names env.scope.names:=by
 unfold relabel J9;have e:(env.scope.kind == ScopeKind.function)=true:=by rw[hk];rfl
 erw[e,ű];rfl
theorem mn0:True:=trivial
def aU(C:CxOk J X E ca){a:Scope}{c:kE}(h:KZ J a c=true)(cl)(A:Addr)(s₀:Shared)(H₀:Hp)(ex:List Addr)(xb)(g:DH (Dg X a cl c A s₀ H₀ ex xb) E'):CxOk (J.blk a c) (Dg X a cl c A s₀ H₀ ex xb) E' ca:=by
 unfold KZ at h;erw[Ä]at h;let((((d,j),k),e),f):=h;refine{rfl,ñ e,?_,?_,C.calm,C.room,λx i=>?_,C.bl,g,λz=>(by cases z),λz=>(by cases z),mn0,C.fs,C.ex,C.ms,{(C.gx.co),C.gx.cl,C.gx.mt,C.gx.nw,C.gx.sf,C.gx.xs,C.gx.sb,C.gx.sv,C.gx.ci,C.gx.x2,C.gx.wd,C.gx.ti,C.gx.dn,C.gx.rn},λz=>(by cases z),C.fr}
 show(relabel a X.env).names=J9 a.names J.nm;rw[zgj C.kd,C.nm];exact eq_of_beq d;have b:x∈(SY a.names).filter λy=>a.names.lookup y == ↑.cell:=i;rw[ķ]at b;refine{É<|eq_of_beq b.2,?_};exact eq_of_beq<|Ú.mp f x b.1
end
def Ri(h:QK e=true)(x):foldedSetIterable e env x=pure x:=by
 cases e<;>first|rfl|cases h
theorem QC(h:HV k=false):Kk k:=λo i=>by
 cases k<;>first|rfl|cases h
def Dn{b:Bool}(h:(!b)=true):b=false:=by cases b<;>first|rfl|cases h
def gd{α:Type}:(b:Bool)->(b=true->Option α)->Option α
 |true,k=>k rfl|false,ϊ=>none
def oe{α β:Type}:(o:Option α)->((a:α)->o=↑a->β)->β->β
 |some a,k,ϊ=>k a rfl|none,ϊ,d=>d
abbrev ob{α β:Type}(o:Option α)(k:(a:α)->o=↑a->Option β):Option β:=oe o k none
structure ER(J:Gm)(e:Expr) where
 m:AJ
 ok:∀{X:Cx} {E:L2.St->XK} {ca:Str->Value},CxOk J X E ca->PE X e (tM X.K E ca m)/\(Fy e=true->PT X e (BS X.K E ca m))
structure AR(J:Gm)(es:kC) where
 m:Ar
 ok:∀{X:Cx} {E:L2.St->XK} {ca:Str->Value},CxOk J X E ca->PA X es (CA X.K E ca m)
 st:∀e∈es,EU e=true
 nl:es=[]->m=AE
structure OR(J:Gm)(es:kC) where
 m:Ar
 ok:∀{X:Cx} {E:L2.St->XK} {ca:Str->Value},CxOk J X E ca->PA X es (J0 X.K E ca m)
structure BR(J:Gm)(op:BoolOp)(es:kC) where
 m:AJ
 ok:∀{X:Cx} {E:L2.St->XK} {ca:Str->Value} {pos:Pos},CxOk J X E ca->PE X (.BoolOp op es pos) (tM X.K E ca m)/\PW X (.BoolOp op es pos) (BS X.K E ca m)
structure PR(J:Gm)(o:Option Expr) where
 m:Option (AJ)
 ok:∀{X:Cx} {E:L2.St->XK} {ca:Str->Value},CxOk J X E ca->PO X o (HA X.K m)
structure LR(J:Gm)(elt tg iter:Expr)(ifs:kC)(scope:Scope) where
 m:AJ
 ok:∀{X:Cx} {E:L2.St->XK} {ca:Str->Value},CxOk J X E ca->∃caps mi b mt me,m=BJ (E8 tg).length caps mi b mt me/\BlkOk X scope (E8 tg++Ee scope.names) (E8 tg).length caps/\PI X tg iter (tI X.K E ca mi) /\
   (∀E',AC X scope (E8 tg++Ee scope.names) E' λτ=>PG τ tg (E9 X.K b)/\Gs τ ifs (BS X.K E' ca mt)/\PE τ elt (tM X.K E' ca me))/\∀x,foldedSetIterable iter X.env x=pure x
structure IR(J:Gm)(tg e:Expr) where
 m:Ar
 ok:∀{X:Cx} {E:L2.St->XK} {ca:Str->Value},CxOk J X E ca->PI X tg e (tI X.K E ca m)
 ns:QK e=true
structure GR(J:Gm)(tg:Expr) where
 m:T->AN->Option AN
 ok:∀{X:Cx} {E:L2.St->XK} {ca:Str->Value},CxOk J X E ca->PG X tg (E9 X.K m)
structure GsR(J:Gm)(es:kC) where
 m:kL->AN->Option AN
 ok:∀{X:Cx} {E:L2.St->XK} {ca:Str->Value},CxOk J X E ca->EK X es (HF X.K m)/\(assignEach es X.env).length=es.length/\(assignEach es X.env).findIdx? (·.1)=none
structure SR(J:Gm)(s:Stmt) where
 m:AH
 ok:∀{X:Cx} {E:L2.St->XK} {ca:Str->Value},CxOk J X E ca->PS X s (tS X.K E ca J.mu m)
structure QR(J:Gm)(ss:kD) where
 m:AH
 ok:∀{X:Cx} {E:L2.St->XK} {ca:Str->Value},CxOk J X E ca->B9 X ss (tS X.K E ca J.mu m)
structure Dc where
 e:(J:Gm)->(e:Expr)->Option (ER J e)
 a:(J:Gm)->(es:kC)->Option (AR J es)
 o:(J:Gm)->(es:kC)->Option (OR J es)
 b:(J:Gm)->(op:BoolOp)->(es:kC)->Option (BR J op es)
 s:(J:Gm)->(s:Stmt)->Option (SR J s)
 q:(J:Gm)->(ss:kD)->Option (QR J ss)
theorem ER.t(r:ER J e)(h:Fy e=true)(C:CxOk J X E ca):PT X e<|BS X.K E ca r.m:=(r.ok C).2 h
def Nw:Expr->Prop
 |.UnaryOp ..=>False|.BoolOp ..=>False|.IfExp ..=>False|.Compare ..=>False|ϊ=>True
def zil(h:Nw e)(whole):isTrue e env whole=(do let v <- whole;standAt e.pos;holding [v] (truthy v)):=by
 cases e<;>first|rfl|exact False.elim h
def vl{J:Gm}{e:Expr}(m:AJ)(h:∀{X:Cx} {E:L2.St->XK} {ca:Str->Value},CxOk J X E ca->PE X e (tM X.K E ca m))(t:Nw e:=by trivial):Option<|ER J e:=↑{m,λC=>{h C,λϊ=>VQ (h C)<|zil t}}
structure OG(op:Operator) where
 g:T->T->kH
 ok:∀{X:Cx},Ac X (binaryOp op)<|Bg X.K g
def opF:(op:Operator)->Option (OG op)
 |.Add=>↑{(Ak),zkd}|.Sub=>↑{(DQ),zk5}|.Mult=>↑{(BY),zk8}|.Mod=>↑{(BB),zk9}|.FloorDiv=>↑{(Bt),zh1}|.Pow=>↑{(Eb),zk7}|.BitOr=>↑{(KY),zkc}|.BitAnd=>↑{(FZ),zh2}|.RShift=>↑{(Ek),zk6}|ϊ=>none
structure CG(op:CmpOp) where
 g:T->T->kH
 ok:∀{J:Gm} {X:Cx} {E:L2.St->XK} {ca:Str->Value},CxOk J X E ca->Ac X (compareOp op) (Bg X.K g)
def Zy:(op:CmpOp)->Option (CG op)
 |.Eq=>↑{Aq,λC=>Vl C.room.units}|.NotEq=>↑{CH,λC=>zoc C.room.units}|.Lt=>↑{BV λi j=>decide (i<j),λϊ=>Ls op_lt}|.LtE=>↑{BV λi j=>decide (i<=j),λϊ=>Ls Vk}|.Gt=>↑{BV λi j=>decide (j<i),λϊ=>Ls op_gt}|.GtE=>↑{BV λi j=>decide (j<=i),λϊ=>Ls op_ge}|.Is=>↑{Bk false,λϊ=>zod}|.IsNot=>↑{Bk true,λϊ=>zei}|.In=>↑{EG,λC=>zoe C.room.units}|.NotIn=>↑{HL,λC=>zeh C.room.units}
def Zz:(op:CmpOp)->Option (CG op)
 |.LtE=>↑{FV,λϊ=>zka}|op=>Zy op
def eCst(J:Gm)(c:Const)(k:Nat)(pos:Pos):Option<|ER J<|.Constant c k pos:=match c with
 |.int i=>vl (mC<|.int i) λϊ=>Li Ο λϊ ϊ=>.int i|.bool b=>vl (mC<|.bl b) λϊ=>Li pe_bl λϊ ϊ=>.bl b|.none=>vl (mC .non) λϊ=>Li Ρ λϊ ϊ=>.non|.str x=>vl (mC<|.str x) λϊ=>Li Τ λϊ ϊ=>.str x|ϊ=>none
theorem CxOk.v(C:CxOk J X E ca)(h:J.var x=↑i):PE X (.Name x pos)<|tM X.K E ca<|AA i:=
 let ⟨h1,h2,h3,h4⟩:=C.var (pos:=pos) h
 r_var h1 h2 h3 h4
def eNam(J:Gm)(x:Str)(pos:Pos):Option<|ER J<|.Name x pos:=oe (J.var x) (λi b=>vl (AA i) λC=>C.v b) (gd (DE x && C1 J.nm x) λa=>ob (J.ox.co.lookup x) λt c=>vl (mC t) λC=>by
 rw[Ä]at a;obtain⟨u,v,d,e,f⟩:=C.gx.co x t c;exact r_con (C.gl a.2) d e (EB a.1).1 f)
def Zg{J:Gm}{e:Expr}(t:Nw e)(a:Option<|ER J e)(b:Option<|ER J e):Option<|ER J e:=a.bind λa=>match b with
 |some b=>vl (DF a.m b.m) (λC=>Py (a.ok C).1 (b.ok C).1) t|none=>↑a
def SN{J:Gm}{o:Expr}{f:Str}{pos:Pos}(r:ER J o)(b:G0 o=true):(L:List<|Str×Addr×kE)->(∀c∈L,c∈J.ox.cl)->Option (ER J<|.Attribute o f pos)
 |[],ϊ=>none|c::L,a=>oe (c.2.2.findIdx? (· == f)) (λj d=>Zg trivial (vl (CN c.2.1 c.2.2 j r.m) λC=>by
   obtain⟨e,g⟩:=C.gx.cl _<|a _ (Í ..)
   have i:f∈c.2.2:=by
    obtain⟨k,l,_⟩:=ĝ.mp d;rw[<- eq_of_beq l];exact Ï k
   exact r_fld e (g f i) d (r.ok C).1 (Mm b)) (SN r b L λc h=>a c<|Ì _ h))<|SN r b L λc h=>a c<|Ì _ h
def zkp(r:ER J o)(a:AR J es)(s:G0 o=true)(p:(ap.endLine == pos.line)=true)(j:es.length<30)(m:(f,g)∈J.ox.mt)(l:g.2.1.contains f=false){X:Cx}   (C:CxOk J X E ca) :
  PE X (.Call (.Attribute o f ap) es [] pos) (tM X.K E ca<|Ds g.1 g.2.1 g.2.2.g r.m a.m):=by
 obtain⟨k,⟨D⟩⟩:=C.gx.mt _ m;have y:=(r.ok C).1;have w:=a.ok C;have i:=a.st;have d:=a.nl;generalize a.m=ms at w d
 clear a
 let(V,A):=zeo (f:=f) (ap:=ap) (pos:=pos) (es:=es) (env:=X.env) s (by
  have:=GU (env:=X.env) (pos:=pos) i;rw[Ú];intro z U;rw[List.any_eq_false]at this
  simpa using this z U) j p
 cases es with
 |cons e es=>exact zn6 D l C.room C.ps y w k (Cu<|i e (Í ..)) (GU λx T=>i x<|Ì e T) A|nil=>
  refine PE.weak (pmx0 D C.room C.ps y k A) λO H Q h=>?_;let(F,Y,R,S,q):=UP l h;refine{F,Y,R,S,?_};cases m:r.m Y with
  |none=>rw[m]at q;exact q|some r=>
   rw[m]at q;cases r with
   |x c=>exact q|v t b=>intro G I x B L g1;let(a,K,n,M,N,P,u):=q G I x B L g1;refine{a,K,n,M,N,P,?_};rw[d rfl]at u;exact HB u
def SM{J:Gm}{o:Expr}{f:Str}{ap pos:Pos}{es:kC}(r:ER J o)(a:AR J es)(e:G0 o=true)(d:(ap.endLine == pos.line)=true)(b:es.length<30):(L:List<|Str×Addr×kE×Fn)->(∀c∈L,c∈J.ox.mt)->Option (ER J<|.Call (.Attribute o f ap) es [] pos)
 |[],ϊ=>none|c::L,i=>if h:c.1=f/\c.2.2.1.contains f=false then Zg trivial (vl (Ds c.2.1 c.2.2.1 c.2.2.2.g r.m a.m) λC=>zkp r a e d b (g:=c.2) (h.1▸i c (Í ..)) h.2 C) (SM r a e d b L λc h=>i c<|Ì _ h) else SM r a e d b L λc h=>i c<|Ì _ h
def eAtt(D:Dc)(J:Gm)(o:Expr)(f:Str)(ap:Pos)(es:kC)(ks:List Keyword)(c:Pos):Option<|ER J<|.Call (.Attribute o f ap) es ks c:=match ks with
 |[]=>gd (G0 o && (ap.endLine == c.line) && decide (es.length<30)) λb=>(D.e J o).bind λr=>(D.a J es).bind λa=>
  have b:(G0 o=true/\(ap.endLine == c.line)=true)/\es.length<30:=by
   rw[Ä,Ä,ë]at b;exact b
  if d:f="index" then (match es,a with
   |[k],a=>(D.e J k).bind λmk=>vl (HQ r.m mk.m) λC=>by
    subst d;exact zje (r.ok C).1 (mk.ok C).1 (Mm b.1.1) (Cu (es:=[])<|a.st k (Í ..)) b.1.2
   |ϊ,ϋ=>none) else
  if d:f="join" then (match es,a with
   |[k],a=>(D.e J k).bind λmk=>vl (Jl r.m mk.m) λC=>by
    subst d;exact zn8 (r.ok C).1 (mk.ok C).1 (Mm b.1.1) (Cu (es:=[])<|a.st k (Í ..)) b.1.2
   |ϊ,ϋ=>none) else
  SM r a b.1.1 b.1.2 b.2 J.ox.mt λϊ h=>h
 |ϊ=>none
def cmpB(a:CmpOp)(b:Expr):Option<|CG a:=
 match a,b with
 |.Eq,.List [] ϊ=>↑{GH,λC=>zkb C.room.units}|a,ϊ=>
 Zy a
def eCmp(D:Dc)(J:Gm)(a:Expr)(j:List CmpOp)(bs:kC)(pos:Pos):Option<|ER J<|.Compare a j bs pos:=match j,bs with
 |[h],[b]=>gd (!(behindInMarks h b)) λd=>(cmpB h b).bind λg=>(D.e J a).bind λe=>(D.e J b).bind λf=>↑{BZ (g2 g.g)<|AB e.m<|AB f.m AE,λC=>
  have d:=Dn d
  {r_cmp (g.ok C) (e.ok C).1 (f.ok C).1 d,λϊ=>zn3 (g.ok C) (e.ok C).1 (f.ok C).1 d}}
 |[h,i],[b,c]=>gd (!(lastMarks [h,i] [b,c])) λd=>(Zz h).bind λg=>(Zz i).bind λk=>(D.e J a).bind λe=>(D.e J b).bind λf=>(D.e J c).bind λl=>↑{Fg g.g k.g e.m f.m l.m,λC=>
  have d:=Dn d
  {r_chn (g.ok C) (k.ok C) (e.ok C).1 (f.ok C).1 (l.ok C).1 d,λϊ=>zn4 (g.ok C) (k.ok C) (e.ok C).1 (f.ok C).1 (l.ok C).1 d}}
 |ϊ,ϋ=>none
def eUn(D:Dc)(J:Gm)(c:UnaryOp)(a:Expr)(pos:Pos):Option<|ER J<|.UnaryOp c a pos:=match c with
 |.USub=>(D.e J a).bind λr=>↑{BZ (g1 Ec)<|AB r.m AE,λC=>
  have b:=r_un (pos:=pos) zik (r.ok C).1
  {b,λϊ=>VQ b λϊ=>rfl}}
 |.Not=>gd (Fy a) λh=>(D.e J a).bind λr=>↑{BI r.m,λC=>{r_not (r.ok C).1,λϊ=>zn2<|r.t h C}}|ϊ=>none
def dP(D:Dc)(J:Gm):(o:Option Expr)->Option (PR J o)
 |none=>↑{none,λϊ=>r_po0}|some e=>(D.e J e).bind λr=>↑{↑r.m,λC=>r_po1 (r.ok C).1}
def eIx(D:Dc)(J:Gm)(a k:Expr)(pos:Pos):Option<|ER J<|.Subscript a k pos:=gd (!(HV k)) λc=>(D.e J a).bind λr=>(D.e J k).bind λb=>
 if YW a || gtN J a then vl (Jm r.m b.m) λC=>r_gt (by have:=C.room.units;lia) (r.ok C).1 (b.ok C).1 (QC<|Dn c) else
 vl (AG r.m b.m) λC=>r_ix (r.ok C).1 (b.ok C).1 (QC<|Dn c)
def eSub(D:Dc)(J:Gm)(a k:Expr)(pos:Pos):Option<|ER J<|.Subscript a k pos:=match k with
 |.Slice d c st p=>(match st with
  |none=>(D.e J a).bind λr=>(dP D J d).bind λrl=>(dP D J c).bind λb=>if J.ox.tx then vl (DF (Ed r.m rl.m b.m)<|Ew r.m rl.m b.m) λC=>Py (VR (r.ok C).1 (rl.ok C) (b.ok C)) (zgl (r.ok C).1 (rl.ok C) (b.ok C)) else vl (Ed r.m rl.m b.m) λC=>VR (r.ok C).1 (rl.ok C) (b.ok C)
  |ϊ=>none
  )
 |k=>eIx D J a k pos
def IH(h:EU e=true):starEach [e] env=[(false,eval e env)]:=Cu h
section
variable {J:Gm}{f:Str}{p:Pos}{e:Expr}{es:kC}{pos:Pos}{X:Cx}{E:L2.St->XK}{ca:Str->Value}
theorem bF(a:AR J<|e::es)(b:DE f=true)(h:C1 J.nm f=true)(c:J.bl.contains f=true)(C:CxOk J X E ca){id}(d:Be X (.builtin id)<|DK X.K g)(i:bootBuiltins f=↑(.builtin id)):PE X (.Call (.Name f p) (e::es) [] pos)<|tM X.K E ca<|BZ g a.m:=
 znc d (C.gl h) (C.bl f<|ò.mp c) i (a.ok C) (EB b).2.2 (EB b).1 (Cu<|a.st e (Í ..)) (GU λx j=>a.st x<|Ì e j)
theorem bB(a:AR J<|e::es)(b:DE f=true)(h:C1 J.nm f=true)(c:J.bl.contains f=true)(C:CxOk J X E ca){id}(d:Be X (.type id)<|DK X.K g)(i:bootBuiltins f=↑(.type id)):PE X (.Call (.Name f p) (e::es) [] pos)<|tM X.K E ca<|BZ g a.m:=
 VZ d (C.gl h) (C.bl f<|ò.mp c) i (a.ok C) (EB b).2.2 (EB b).1 (Cu<|a.st e (Í ..)) (GU λx j=>a.st x<|Ì e j)
def Ma(a:AR J<|e::es)(g:DE f=true)(d:C1 J.nm f=true)(c:J.bl.contains f=true):Option<|ER J<|.Call (.Name f p) (e::es) [] pos:=
 if b:f="len" then vl (BZ (g1 Ap) a.m) λC=>by subst b;exact bF a g d c C zfw PySem.boot_len else
 if b:f="list" then vl (BZ (g1 C9) a.m) λC=>by subst b;exact bB a g d c C aG ń else
 if b:f="abs" then vl (BZ (g1 Mt) a.m) λC=>by subst b;exact bF a g d c C zg1 PyProof.Rows.boot_abs else
 if b:f="int" then vl (BZ (g1 KA) a.m) λC=>by subst b;exact bB a g d c C zfy PyProof.Rows.boot_int else
 if b:f="min" then vl (BZ (g2 Ji) a.m) λC=>by subst b;exact bF a g d c C (zfu C.calm) PyProof.Rows.boot_min else
 if b:f="max" then vl (BZ H9 a.m) λC=>by subst b;exact bF a g d c C (zie C.calm) PyProof.Rows.boot_max else
 if b:f="all" then vl (BZ (g1 EI) a.m) λC=>by subst b;exact bF a g d c C (zg0 C.calm) PyProof.Rows.boot_all else
 if b:f="any" then vl (BZ (g1 K1) a.m) λC=>by subst b;exact bF a g d c C (zfz C.calm) PyProof.Rows.boot_any else
 none
end
structure TyR(c:Str) where
 t:String
 ok:bootBuiltins c=↑(.type t)
def tyF(c:Str):Option<|TyR c:=
 if h:c="int" then ↑{"int",by subst h;exact PyProof.Rows.boot_int} else if h:c="bool" then ↑{"bool",by subst h;exact PyProof.Rows.boot_bool} else if h:c="str" then ↑{"str",by subst h;exact PyProof.Rows.boot_str} else
 if h:c="list" then ↑{"list",by subst h;exact ń} else if h:c="tuple" then ↑{"tuple",by subst h;exact PyProof.Rows.boot_tuple} else none
def eIs(D:Dc)(J:Gm)(p:Pos)(e:Expr)(es:kC)(pos:Pos)(d:C1 J.nm "isinstance"=true)(b:J.bl.contains "isinstance"=true):Option<|ER J<|.Call (.Name "isinstance" p) (e::es) [] pos:=match es with
 |[.Name c k]=>gd (C1 J.nm c && DE c && EU e) λa=>(D.e J e).bind λr=>
  have a:(C1 J.nm c=true/\DE c=true)/\EU e=true:=by
   rw[Ä,Ä]at a;exact a
  if g:J.bl.contains c=true then (tyF c).bind λt=>vl (BZ (g1<|Cb t.t)<|AB r.m AE) λC=>
   r_isT t.ok (C.gl d) (C.bl _<|ò.mp b) (C.gl a.1.1) (C.bl _<|ò.mp g) (EB a.1.2).2.2 (EB a.1.2).1 (r.ok C).1 (Cu a.2)
  else ob (J.ox.ci.lookup c) λf h=>vl (BZ (g1<|Jz f)<|AB r.m AE) λC=>by
   obtain⟨_,i,j⟩:=C.gx.ci c f h;exact r_isC j (C.gl d) (C.bl _<|ò.mp b) (C.gl a.1.1) i (EB a.1.2).1 (r.ok C).1 (Cu a.2)
 |ϊ=>none
def eSet(D:Dc)(J:Gm)(p:Pos)(e:Expr)(pos:Pos)(d:C1 J.nm "len"=true)(c:J.bl.contains "len"=true):Option<|ER J<|.Call (.Name "len" p) [e] [] pos:=match e with
 |.Call (.Name x f) [a] [] g=>if h:x="set" then gd (C1 J.nm "set" && J.bl.contains "set" && EU a) λb=>(D.e J a).bind λr=>vl (BZ (g1 JX)<|AB r.m AE) λC=>by
   rw[Ä,Ä]at b;subst h;exact r_unq C.calm (C.gl d) (C.bl _<|ò.mp c) (C.gl b.1.1) (C.bl _<|ò.mp b.1.2) (r.ok C).1 (IH b.2)
  else none
 |ϊ=>none
def eKys(D:Dc)(J:Gm)(p:Pos)(e:Expr)(pos:Pos)(f:DE "list"=true)(d:C1 J.nm "list"=true)(g:J.bl.contains "list"=true):Option<|ER J<|.Call (.Name "list" p) [e] [] pos:=if h:YW e=true then (D.e J e).bind λr=>vl (DF (BZ (g1 C9)<|AB r.m AE)<|Gb r.m) λC=>by
  have c:EU e=true:=by cases e<;>first|rfl|cases h
  have a:=λenv=>IH (env:=env) c;have b:=ò.mp g;exact Py (VZ aG (C.gl d) (C.bl _ b) ń (VY (r.ok C).1 VS (a _)) (EB f).2.2 (EB f).1 (a _) rfl)<|r_kys C.calm (C.gl d) (C.bl _ b) (r.ok C).1 (a _)
 else none
def eFn1(J:Gm)(f:Str)(p:Pos)(e:Expr)(es:kC)(pos:Pos)(a:AR J<|e::es)(g:DE f=true)(c:C1 J.nm f=true):Option<|ER J<|.Call (.Name f p) (e::es) [] pos:=
 ob (J.fns.lookup f) λF b=>vl (AS F.g a.m) λC=>by
  obtain⟨d,⟨D⟩⟩:=C.fs f F b;exact znb D C.room C.ps (a.ok C) d (C.gl c) (EB g).1 (Cu<|a.st e (Í ..)) (GU λx h=>a.st x<|Ì e h)
def eFn(J:Gm)(f:Str)(p:Pos)(e:Expr)(es:kC)(pos:Pos)(a:AR J<|e::es)(d:DE f=true)(c:C1 J.nm f=true):Option<|ER J<|.Call (.Name f p) (e::es) [] pos:=
 oe (J.ox.nw.lookup f) (λF i=>ob (F.2.lookup (e::es).length) λb hd=>vl (IZ F.1.g b a.m) λC=>by
   obtain⟨j,o,D,h⟩:=C.gx.nw f F.1 F.2 i;obtain⟨g,q,l,m,n⟩:=h _ _ hd;exact r_new D l m n C.room C.ps (a.ok C) j (C.gl c) (EB d).1 (Cu<|a.st e (Í ..)) (GU λx k=>a.st x<|Ì e k)) <|
 eFn1 J f p e es pos a d c
def eCal(D:Dc)(J:Gm)(f:Str)(p:Pos)(es:kC)(ks:List Keyword)(pos:Pos):Option<|ER J<|.Call (.Name f p) es ks pos:=match es,ks with
 |e::es,[]=>gd (DE f && C1 J.nm f) λb=>
  have b:DE f=true/\C1 J.nm f=true:=by
   rw[Ä]at b;exact b
  if c:J.bl.contains f=true then
   (if d : f = "isinstance" then (match f, d, b, c with
    |_,rfl,b,c=>eIs D J p e es pos b.2 c) else
   match es with
   |[]=>
    (if d : f = "len" then (match f, d, b, c with
     |_,rfl,b,c=>(eSet D J p e pos b.2 c).orElse λϊ=>(D.a J [e]).bind λa=>Ma a b.1 b.2 c) else
    if d:f="list" then (match f,d,b,c with
     |_,rfl,b,c=>
      (eKys D J p e pos b.1 b.2 c).orElse λϊ=>(D.a J [e]).bind λa=>Ma a b.1 b.2 c) else
    (D.a J [e]).bind λa=>Ma a b.1 b.2 c)
   |ϊ=>(D.a J _).bind λa=>Ma a b.1 b.2 c)
  else (D.a J<|e::es).bind λa=>eFn J f p e es pos a b.1 b.2
 |ϊ,ϋ=>none
def Zt(J:Gm):(es:kC)->Option (GsR J es)
 |[]=>↑{Aw,λϊ=>{(g_nil),rfl,rfl}}|e::es=>(match e with
  |.Name x p=>gd (J.loc x) λb=>ob (ED J.N x) λi a=>(Zt J es).bind λr=>↑{AL (AD i) r.m,λ{X} {E} {ca} C=>by
   obtain⟨c,d,f⟩:=r.ok C;refine{zph (Xr C b a) c rfl,?_,?_};show(assignEach es X.env).length+1=es.length+1;rw[d];show List.findIdx? (·.1) ((false,assign (.Name x p) X.env)::assignEach es X.env)=none;rw[Ű,f]
   rfl}
  |ϊ=>none)
def dG(J:Gm):(tg:Expr)->Option (GR J tg)
 |.Name x ϊ=>gd (J.loc x) λc=>ob (ED J.N x) λi b=>↑{AD i,λC=>Xr C c b}|.Tuple a ϊ ϋ=>(Zt J a).bind λr=>↑{Au a.length r.m,λC=>g_tup C.calm (r.ok C).1 (r.ok C).2.1 (r.ok C).2.2}|ϊ=>none
def iV(D:Dc)(J:Gm)(a e:Expr):Option<|IR J a e:=gd (QK e) λh=>(D.e J e).bind λr=>if J.ox.tx then ↑{BA r.m,λC=>zn9 (r.ok C).1,h} else ↑{Io r.m,λC=>VV (r.ok C).1,h}
def Ez(C:CxOk J X E ca)(h:(C1 J.nm f && J.bl.contains f)=true):Gl X f/\X.mg f=none:=by
 rw[Ä]at h;exact{C.gl h.1,C.bl f<|ò.mp h.2}
def iRg(D:Dc)(J:Gm)(b a:Expr)(p c:Pos):Option<|IR J b<|.Call (.Name "range" p) [a] [] c:=gd (C1 J.nm "range" && J.bl.contains "range") λh=>(D.a J [a]).bind λr=>↑{Bc r.m,λC=>zgn (Ez C h).1 (Ez C h).2 (r.ok C) (Cu<|r.st a (Í ..)),rfl}
def iEn(D:Dc)(J:Gm)(b a:Expr)(p c:Pos):Option<|IR J b<|.Call (.Name "enumerate" p) [a] [] c:=match b with
 |.Tuple ..=>gd (C1 J.nm "enumerate" && J.bl.contains "enumerate") λh=>(D.a J [a]).bind λr=>if J.ox.tx then ↑{Y2 r.m,λC=>r_enX (Ez C h).1 (Ez C h).2 (r.ok C) (Cu<|r.st a (Í ..)),rfl} else
  ↑{E1 r.m,λC=>VX (Ez C h).1 (Ez C h).2 (r.ok C) (Cu<|r.st a (Í ..)),rfl}
 |ϊ=>none
def iR2(D:Dc)(J:Gm)(e a b:Expr)(p c:Pos):Option<|IR J e<|.Call (.Name "range" p) [a,b] [] c:=gd (C1 J.nm "range" && J.bl.contains "range") λh=>(D.a J [a,b]).bind λr=>↑{HZ r.m,λC=>
 have d:=λenv=>IH (env:=env) (r.st b<|Ì _ (Í ..))
 zgm (Ez C h).1 (Ez C h).2 (r.ok C) (by rw[Cu<|r.st a (Í ..),d]) (d _),rfl}
def iZp(D:Dc)(J:Gm)(e a b:Expr)(p c:Pos):Option<|IR J e<|.Call (.Name "zip" p) [a,b] [] c:=match e with
 |.Tuple ..=>gd (C1 J.nm "zip" && J.bl.contains "zip") λh=>(D.a J [a,b]).bind λr=>↑{HY r.m,λC=>
   have d:=λenv=>IH (env:=env) (r.st b<|Ì _ (Í ..))
   r_zip (Ez C h).1 (Ez C h).2 (r.ok C) (by rw[Cu<|r.st a (Í ..),d]) (d _),rfl}
 |ϊ=>none
def iE1(D:Dc)(J:Gm)(b a:Expr)(p c:Pos)(k:Keyword):Option<|IR J b<|.Call (.Name "enumerate" p) [a] [k] c:=match b,k with
 |.Tuple ..,{↑y,.Constant (.int i) e f,kp}=>if d:y="start"/\i=1 then gd (C1 J.nm "enumerate" && J.bl.contains "enumerate") λh=>(D.a J [a]).bind λr=>↑{Gh r.m,λC=>by
   obtain⟨rfl,rfl⟩:=d;exact r_en1 (Ez C h).1 (Ez C h).2 (r.ok C) (Cu<|r.st a (Í ..)),rfl} else none
 |ϊ,ϋ=>none
def dI(D:Dc)(J:Gm)(d e:Expr):Option<|IR J d e:=match e with
 |.Call (.Name f p) g i c=>(match g,i with
  |[a],[]=>if h:f="range" then (match f,h with|_,rfl=>iRg D J d a p c) else
   if h:f="enumerate" then (match f,h with|_,rfl=>iEn D J d a p c) else
   iV D J d _
  |[a,b],[]=>
   if h:f="range" then (match f,h with|_,rfl=>iR2 D J d a b p c) else
   if h:f="zip" then (match f,h with|_,rfl=>iZp D J d a b p c) else
   iV D J d _
  |[a],[k]=>if h:f="enumerate" then (match f,h with|_,rfl=>iE1 D J d a p c k) else none
  |ϊ,ϋ=>iV D J d _)
 |e=>iV D J d e
def dC(D:Dc)(J:Gm)(k d e:Expr)(l:kC)(a:Scope):Option<|LR J k d e l a:=
 gd (KZ J a<|E8 d++Ee a.names) λm=>ob (KR J.N<|Ee a.names) λb p=>(dI D J d e).bind λf=>(dG (J.blk a<|E8 d++Ee a.names) d).bind λj=>(D.e (J.blk a<|E8 d++Ee a.names) k).bind λi=>match l with
  |[]=>↑{BJ (E8 d).length b f.m j.m (mC<|.bl true) i.m,λ{X} {E} {ca} C=>{b,f.m,j.m,_,i.m,rfl,aS C m p,f.ok C,λh cl A s₀ H₀ ex o n=>
    have g:=aU C m cl A s₀ H₀ ex o (E':=h) n
    {j.ok g,λr s O H Q I q=>zjk r s O H Q I<|OC (K:=X.K) (E:=h) (ca:=ca) q,(i.ok g).1},Ri f.ns}}
  |[c]=>gd (Fy c) λhk=>(D.e (J.blk a<|E8 d++Ee a.names) c).bind λrt=>↑{BJ (E8 d).length b f.m j.m rt.m i.m,λ{X} {E} {ca} C=>{b,f.m,j.m,rt.m,i.m,rfl,aS C m p,f.ok C,λh cl A s₀ H₀ ex o n=>
    have g:=aU C m cl A s₀ H₀ ex o (E':=h) n
    {j.ok g,zjj<|rt.t hk g,(i.ok g).1},Ri f.ns}}
  |ϊ=>none
def eLC(D:Dc)(J:Gm)(d:Expr)(c:List Comprehension)(a:Scope)(pos:Pos):Option<|ER J<|.ListComp d c a pos:=match c with
 |[{l,e,f,0}]=>(dC D J d l e f a).bind λr=>vl r.m λC=>by
  obtain⟨g,m,b,mt,me,h,B,j,i,k⟩:=r.ok C;rw[h];exact r_lcV B (cq:=λX=>X.calm=true) (λϊ ϊ ϊ ϊ ϊ ϊ ϊ ϊ ϊ=>C.calm) (Vc j) C.ps C.fr i k
 |ϊ=>none
def eIf(D:Dc)(J:Gm)(c a b:Expr)(pos:Pos):Option<|ER J<|.IfExp c a b pos:=gd (Fy c) λh=>(D.e J c).bind λf=>(D.e J a).bind λd=>(D.e J b).bind λe=>↑{EZ f.m d.m e.m,λC=>{r_ife (f.t h C) (d.ok C).1 (e.ok C).1,λz=>by cases z}}
def dEs(D:Dc)(J:Gm):(e:Expr)->Option (ER J e)
 |.Constant c k d=>eCst J c k d|.Name x d=>eNam J x d|.Attribute o f d=>gd (G0 o) λh=>(D.e J o).bind λr=>SN r h J.ox.cl λϊ h=>h|.Call f j s c=>(match f with
  |.Attribute o f v=>eAtt D J o f v j s c|.Name f p=>eCal D J f p j s c|ϊ=>none)
 |.Compare a q bs d=>eCmp D J a q bs d|.BinOp a m b d=>(opF m).bind λg=>(D.e J a).bind λt=>(D.e J b).bind λu=>vl (BZ (g2 g.g)<|AB t.m<|AB u.m AE) λC=>r_bin g.ok (t.ok C).1 (u.ok C).1|.UnaryOp m a d=>eUn D J m a d|.BoolOp m w d=>(D.b J m w).bind λr=>↑{r.m,λC=>{(r.ok C).1,λϊ=>(r.ok C).2.pt}}|.IfExp c a b d=>eIf D J c a b d|.List j d=>(D.o J j).bind λr=>vl (BG r.m) λC=>r_lst (r.ok C)|.Tuple j k d=>(D.a J j).bind λr=>vl (BM r.m) λC=>r_tup (r.ok C)|.Subscript a k d=>eSub D J a k d|.ListComp n l i d=>eLC D J n l i d|ϊ=>none
def dAs(D:Dc)(J:Gm):(es:kC)->Option (AR J es)
 |[]=>↑{AE,λϊ=>VS,λϊ h=>(by cases h),λϊ=>rfl}|e::es=>gd (EU e) λh=>(D.e J e).bind λr=>(D.a J es).bind λa=>↑{AB r.m a.m,λC=>VY (r.ok C).1 (a.ok C) (Cu h),λx b=>(Î.mp b).elim (λz=>z▸h) (a.st x),λz=>by cases z}
def dOs(D:Dc)(J:Gm):(es:kC)->Option (OR J es)
 |[]=>↑{AE,λϊ=>zn5}|e::es=>gd (EU e) λh=>(D.e J e).bind λr=>(D.o J es).bind λa=>↑{Ah r.m a.m,λC=>zjf (r.ok C).1 (a.ok C) (Cu h)}
def dBs(D:Dc)(J:Gm)(d:BoolOp):(es:kC)->Option (BR J d es)
 |[]=>none|[a]=>gd (Fy a) λh=>(D.e J a).bind λr=>↑{r.m,λC=>{r_one (r.ok C).1,by
   cases d with
   |And=>exact zjd (r.t h C)|Or=>exact zjc<|r.t h C}}
 |a::b::es=>gd (Fy a) λh=>(D.e J a).bind λr=>(D.b J d<|b::es).bind λc=>match d,c with
  |.And,c=>↑{Bz r.m c.m,λC=>{r_and (r.ok C).1 (c.ok C).1,zn1 (r.t h C) (c.ok C).2}}|.Or,c=>↑{BH r.m c.m,λC=>{r_or (r.ok C).1 (c.ok C).1,r_wor (r.t h C) (c.ok C).2}}
def pkB:kE:=["len","isinstance","all","any","abs","min","max","int"]
def isLC:Expr->Bool
 |.ListComp ..=>true|ϊ=>false
def Bq:Nat->kE->Expr->kE
 |0,ϊ,ϋ=>[]|n+1,pk,e=>
  let g:=λ(x:Expr)=>match x with
   |.Name ϊ ϋ=>[]|x=>Bq n pk x
  match e with
  |.Name x ϊ=>[x]|.BinOp a ϊ b ϋ=>Bq n pk a++Bq n pk b|.UnaryOp ϊ a ϋ=>Bq n pk a|.BoolOp ϊ o ϋ=>o.flatMap (Bq n pk)|.Compare a ϊ bs ϋ=>g a++bs.flatMap g|.IfExp c a b ϊ=>Bq n pk c++Bq n pk a++Bq n pk b|.Call (.Name f ϊ) d [] ϋ=>if pkB.contains f || pk.contains f then d.flatMap g else d.flatMap (Bq n pk)
  |.Call (.Attribute ϊ ϋ ό) d [] ύ=>d.flatMap λa=>if isLC a then Bq n pk a else []
  |.Subscript a k ϊ=>(match k with
   |.Slice m l ϊ ϋ=>Bq n pk a++(match m with|some e=>Bq n pk e|none=>[])++(match l with|some e=>Bq n pk e|none=>[])
   |ϊ=>g a++Bq n pk k)
  |.List j ϊ=>j.flatMap (Bq n pk)|.Tuple j ϊ ϋ=>j.flatMap (Bq n pk)|.ListComp _ [{_,i,_,_}] h _=>Bq n pk i++Ee h.names|ϊ=>[]
def Tw(pk:kE):Stmt->kE
 |.Expr (.Call (.Attribute (.Name ϊ ϋ) ό ύ) [e] [] ώ) Ϗ=>Bq 40 pk e|.Expr e ϊ=>Bq 40 pk e|.Return (↑(.Name ϊ ϋ)) ό=>[]|.Return ↑e ϊ=>Bq 40 pk e|.Assign [.Subscript (.Subscript ϊ k ϋ) j ό] e ύ=>Bq 40 pk k++Bq 40 pk j++Bq 40 pk e|.Assign [.Subscript ϊ k ϋ] e ό=>Bq 40 pk k++Bq 40 pk e|.Assign [ϊ] e ϋ=>Bq 40 pk e|.If c ϊ ϋ ό=>Bq 40 pk c|.For ϊ it ϋ ό ύ=>Bq 40 pk it|.While c ϊ ϋ ό=>Bq 40 pk c|ϊ=>[]
def YU:Stmt->Bool
 |.If ..=>true|ϊ=>false
def isAsg:Stmt->Bool
 |.Assign [.Name ..] ..=>true|.Expr (.Call (.Attribute (.Name ..) f ϊ) [ϋ] [] ό) ύ=>f == "extend"|ϊ=>false
def mvN:Stmt->Option Str
 |.Assign [.Name ..] (.List [ϊ,ϋ,.Name y ό] ύ) ώ=>↑y|ϊ=>none
def frzs(J:Gm)(s:Stmt):kG:=((if YU s then J.ox.gt++Tw J.pk s else Tw J.pk s).filter λx=>J.ow.contains x && !((isAsg s || YU s) && (J.mv.contains x || (J.ox.fo.contains x && mvN s == ↑x)))).eraseDups.filterMap (ED J.N)
def subN:Expr->kE
 |.Call ϊ a ϋ ό=>a.filterMap fun
  |.Subscript (.Name x ϊ) ϋ ό=>↑x|ϊ=>none
 |ϊ=>[]
def Js(J:Gm)(e:Expr):kG:=((Bq 40 J.pk e++subN e).filter λx=>J.ow.contains x && J.mv.contains x).eraseDups.filterMap (ED J.N)
def Ib(l:kG)(m:AJ):AJ:=l.foldr EY m
def Lh{X:Cx}{E:L2.St->XK}{ca:Str->Value}{m:AJ}{e:Expr}(a:PE X e<|tM X.K E ca m):∀l,PE X e<|tM X.K E ca<|Ib l m
 |[]=>a|i::r=>zn7<|Lh a r
def Uo{X:Cx}{E:L2.St->XK}{ca:Str->Value}{m:AJ}{st:Stmt}{j:Nat}(a:PS X st<|GS (tM X.K E ca m)<|GG j):∀l,PS X st<|GS (tM X.K E ca<|Ib l m)<|GG j
 |[]=>a|i::r=>zmp<|Uo a r
def Rh(l:kG)(m:AH):AH:=l.foldr (λi m=>AF (EM i) m) m
def LP(J:Gm)(x:Str)(px:Pos):Expr->Bool
 |.ListComp ϊ ϋ a p=>J.nm.lookup x == ↑.local && px.line == p.line && !(a.names.any λ(n,k)=>n == x && (k == .local || k == .cell))|ϊ=>false
def U1(J:Gm)(x:Str):Bool:=J.nm.lookup x == ↑.cell
def II(J:Gm)(x:Str)(i:Nat)(m:AJ):AH:=if J.ow.contains x then CY i m else AQ m (AD i)
def Cw(c:Str)(ms:Ar):AH:=λY=>match ms Y with
 |some (.v a ϊ)=>if a.length<=Bj then ↑(.xc c Y) else none
 |some (.x c)=>↑(.xc c Y)|none=>none
def Lo(J:Gm)(x y:Str)(px c:Pos)(a b:Expr):Bool:=
 J.nm.lookup x == ↑.local && J.nm.lookup y == ↑.local && px.line == c.line && !(x == y) && EU a && EU b && !(foldedForSure 8 a && foldedForSure 8 b) && !(constantsAlone 8 a && constantsAlone 8 b) && DE x && DE y
section
variable {X:Cx}{E:L2.St->XK}{ca:Str->Value}{J:Gm}{mu:Bool}
def Of{Ba}(h:B9 X Ba<|tS X.K E ca mu w):∀l ,B9 X Ba<|tS X.K E ca mu<|Rh l w
 |[]=>h|i::r=>s_frz<|Of h r
def OF(h:Gg e=false):swapsWith e t l env=pure false:=by
 cases e<;>first|rfl|cases h
def aQ{env:Env}(h:env.scope.kind=.function):env.blockKind=.function:=by
 unfold Env.blockKind;rw[h];rfl
def zgc(C:CxOk J X E ca){p px:Pos}{x:Str}{l:Nat}(h:LP J x px (.ListComp elt gens scope p)=true):swapsWith (.ListComp elt gens scope p) (↑(.Name x px)) l X.env=pure true:=by
 have e:swapsWith (.ListComp elt gens scope p) (↑(.Name x px)) l X.env=pure (X.env.blockKind == .function && X.env.kindOf x == ↑.local && px.line == p.line && !(scope.names.any λ(n,k)=>n == x && (k == .local || k == .cell))):=rfl;rw[e];unfold LP at h
 erw[Ä]at h;have k:X.env.kindOf x=↑.local:=by
  show X.env.scope.names.lookup x=↑.local;rw[C.nm];exact eq_of_beq h.1.1
 rw[aQ C.kd,k,h.1.2,h.2];rfl
def zir(C:CxOk J X E ca){px}(h:U1 J x=true):swapsWith e (↑(.Name x px)) l X.env=pure false:=by
 have k:X.env.kindOf x=↑.cell:=by
  show X.env.scope.names.lookup x=↑.cell;rw[C.nm];exact eq_of_beq h
 have c:(↑NameKind.cell == ↑NameKind.local)=false:=rfl;cases e<;>first|rfl|(unfold swapsWith;erw[k,c,Bool.and_false,Ŭ])
def zdc(C:CxOk J X E ca){px py pt p2}(h:Lo J x y px py a b=true):swappedStores [.Tuple [.Name x px,.Name y py] kt pt] (.Tuple [a,b] k2 p2) X.env=pure (↑[x,y]):=by
 unfold Lo at h;erw[Ä,ō,đ]at h;let(((((((((g,i),j),c),k),l),m),n),_),_):=h
 have o:X.env.kindOf x=↑.local:=by
  show X.env.scope.names.lookup x=↑.local;rw[C.nm];exact g
 have p:X.env.kindOf y=↑.local:=by
  show X.env.scope.names.lookup y=↑.local;rw[C.nm];exact i
 have d:[x,y].eraseDups=[x,y]:=by
  have:(y == x)=false:=by
   rw[ļ]at c ⊢;exact Ë c
  simp[List.eraseDups_cons,this,c]
 have e:(if (X.env.kindOf x == ↑NameKind.local && px.line == px.line)=true then ↑x else none)=↑x:=by rw[o,í,í];rfl
 have f:(if (X.env.kindOf y == ↑NameKind.local && py.line == px.line)=true then ↑y else none)=↑y:=by rw[p,í,<- j,í];rfl
 unfold swappedStores;dsimp only[List.length,List.any,List.all,List.filterMap,List.head?,Option.map,Option.getD,Expr.pos];erw[e,f,d];refine(if_neg ?_).trans ((if_neg ?_).trans ((if_neg ?_).trans ((if_neg ?_).trans (if_neg ?_))));rw[aQ C.kd];decide
 .intro z;rw[Bool.or_false,Ď]at z
  rcases z with z|z
  .cases a<;>first|(cases k;done)|(cases z;done)
  .cases b<;>first|(cases l;done)|(cases z;done)
 show ¬ ((2 != 2 || 2 != 2)=true);decide;rw[ű,m];exact õ;rw[ű,n];exact õ
def LY(h:Gg e=false):swapsWithSole [t] e l env=pure false:=OF h
def OH(h:HV k=false)(v):assign (.Subscript o k pos) env v=(do
   let ov <- holding [v]<|eval o env;let iv <- holding [v,ov] (eval k env)
   standAt pos
   holding [v,ov,iv] (setItem ov iv v)
   release [v,ov,iv] []):=by
 cases k<;>first|rfl|cases h
def s_rse(C:CxOk J X E ca)(g:J.ox.nr=false)(i:Fw c=none)(s:c∈J.ex)(t:C1 J.nm c=true)(u:DE c=true)(o:PA X (e::es)<|CA X.K E ca ms)(m:∀x∈e::es,EU x=true) :
  PS X (.Raise (↑(.Call (.Name c p) (e::es) [] cpos)) none pos) (tS X.K E ca mu<|Cw c ms):=by
 let(T,n,f):=C.ex c s;let(w,z,A):=EB u;refine PS.weak (zgs T f C.calm (C.md g) o (C.gl t) w (Cu<|m e (Í ..))<|GU m) λD O H h=>?_
 let(F,Y,R,S,q):=h;refine{F,Y,R,S,?_};unfold Cw at q;cases l:ms Y with
 |none=>erw[l]at q<;>symm|some r=>
  erw[l]at q;cases r with
  |x c=>exact λa d e=>q a d O R e.stp0 (S.ext e)|v y b=>
   intro a d xs k rs;by_cases j:y.length<=Bj;erw[j,Å]at q;refine{by rw[<- rs.1,<- GB];exact j,?_};have:=(q a d O R k.stp0<|S.ext k).plain i;rw[n]at this;exact this;erw[j,Ã]at q<;>symm
end
def bJ{px pos}(f:J.loc x=true)(d:ED J.N x=↑i)(C:CxOk J X E ca)(b:PE X e<|tM X.K E ca m)(c:∀l,swapsWith e (↑(.Name x px)) l X.env=pure false) :
  PS X (.Assign [.Name x px] e pos) (tS X.K E ca mu<|II J x i m):=by
 let(g1,g2,a):=C.loc f d;unfold II;split;exact zmo C.nodup g1 g2 b (c _) a;exact zmk C.nodup g1 g2 b (c _) a
def aLC(D:Dc)(J:Gm)(x:Str)(i:Nat)(px pos:Pos)(t:ED J.N x=↑i):(e:Expr)->Option (SR J<|.Assign [.Name x px] e pos)
 |.ListComp f j a p=>gd (LP J x px<|.ListComp f j a p) λl=>(match j,l with
  |[{n,d,k,0}],l=>(dC D J f n d k a).bind λr=>↑{
   II J x i (Ib (Js J<|.ListComp f [{n,d,k,0}] a p) r.m)
   ,λ{X} {E} {ca} C=>by
   have v:X.env.scope.names.lookup x=↑.local:=by
    unfold LP at l;erw[Ä]at l;rw[C.nm];exact eq_of_beq l.1.1
   have q:X.N[i]?=↑x:=by rw[C.N];exact HU t
   obtain⟨o,w,b,mt,me,h,B,m,s,u⟩:=r.ok C;rw[h];have c:=r_lcS (pos2:=pos) B C.calm m C.ps C.fr s u C.nodup q v<|zgc C l;have c:=Uo c<|Js J<|.ListComp f [{n,d,k,0}] a p;unfold II;split
   exact PS.weak c λD O H h=>UK h
   exact PS.weak c λD O H h=>Nz (g:=GG i) (λϊ ϊ ϊ ϊ z=>Y8 z) h}
  |ϊ,ϋ=>none)
 |ϊ=>none
def aNm(D:Dc)(J:Gm)(x:Str)(px:Pos)(e:Expr)(pos:Pos):Option<|SR J<|.Assign [.Name x px] e pos:=gd (J.loc x) λb=>ob (ED J.N x) λi a=>
 if c:Gg e=false then (D.e J e).bind λr=>↑{II J x i<|Ib (Js J e) r.m,λC=>bJ b a C (Lh (r.ok C).1 _) λϊ=>OF c}
 else if d:U1 J x=true then (D.e J e).bind λr=>↑{II J x i<|Ib (Js J e) r.m,λC=>bJ b a C (Lh (r.ok C).1 _) λϊ=>zir C d}
 else aLC D J x i px pos a e
def aPar(D:Dc)(J:Gm)(x y:Str)(px h:Pos)(n:Nat)(pt:Pos)(a b:Expr)(k2:Nat)(o pos:Pos):Option<|SR J<|.Assign [.Tuple [.Name x px,.Name y h] n pt] (.Tuple [a,b] k2 o) pos:=gd (Lo J x y px h a b) λg=>ob (ED J.N x) λi l=>ob (ED J.N y) λj m=>(D.a J [a,b]).bind λr=>↑{J5 i j r.m,λ{X} {E} {ca} C=>by
 have c:=g;unfold Lo at c;erw[Ä,ō,đ]at c;obtain⟨⟨⟨⟨⟨⟨⟨⟨⟨g1,g2⟩,p⟩,k⟩,_⟩,_⟩,_⟩,_⟩,_⟩,_⟩:=c;have f:X.N[i]?=↑x:=by rw[C.N];exact HU l
 have d:X.N[j]?=↑y:=by rw[C.N];exact HU m
 have e:i≠j:=λz=>by
  subst z;rw[f]at d;cases d;simp at k
 exact s_par C.calm C.nodup f d e (by rw[C.nm];exact g1) (by rw[C.nm];exact g2) (r.ok C) (zdc C g) rfl}
def aTup(D:Dc)(J:Gm)(ts:kC)(b:Nat)(pt:Pos)(e:Expr)(pos:Pos):Option<|SR J<|.Assign [.Tuple ts b pt] e pos:=gd (!(zpd e || Gg e)) λd=>(dG J<|.Tuple ts b pt).bind λc=>(D.e J e).bind λr=>↑{AQ r.m c.m,λC=>by
 have a:=Dn d;rw[ć]at a;refine zml (r.ok C).1 (c.ok C) (LY a.2) ?_ rfl;have f:=a.1;cases e<;>first|rfl|cases f}
def aTp(D:Dc)(J:Gm)(ts:kC)(c:Nat)(pt:Pos)(e:Expr)(pos:Pos):Option<|SR J<|.Assign [.Tuple ts c pt] e pos:=
 match ts,e with
 |[.Name x px,.Name y g],.Tuple [a,b] d f=>aPar D J x y px g c pt a b d f pos|ts,e=>
 aTup D J ts c pt e pos
def aSto(D:Dc)(J:Gm)(x:Str)(b:Pos)(j:Expr)(g:Pos)(e:Expr)(pos:Pos):Option<|SR J<|.Assign [.Subscript (.Name x b) j g] e pos:=gd (!(HV j || Gg e)) λd=>ob (J.var x) λi f=>(D.e J j).bind λc=>(D.e J e).bind λr=>↑{HG i c.m r.m,λC=>by
 have a:=Dn d;rw[ć]at a;obtain⟨h,k,l,m⟩:=C.var (pos:=b) f;refine s_sto h k l m (r.ok C).1 (c.ok C).1 (LY a.2) ?_ (OH a.1);cases e<;>rfl}
def aSt2(D:Dc)(J:Gm)(x:Str)(c:Pos)(b:Expr)(h:Pos)(j:Expr)(k:Pos)(e:Expr)(pos:Pos):Option<|SR J<|.Assign [.Subscript (.Subscript (.Name x c) b h) j k] e pos:=gd (!(HV b || HV j || Gg e)) λf=>ob (J.var x) λi g=>(D.e J b).bind λr0=>(D.e J j).bind λd=>(D.e J e).bind λr=>↑{Ft i r0.m d.m r.m,λC=>by
 have a:=Dn f;rw[ć,ć]at a;obtain⟨l,m,n,o⟩:=C.var (pos:=c) g;refine zmj l m n o (r.ok C).1 (r0.ok C).1 (d.ok C).1 (QC a.1.1) (LY a.2) ?_ (OH a.1.2);cases e<;>rfl}
def RU{fs:kE}(h:fs.findIdx? (· == f)=↑j):f∈fs/\fs[j]?=↑f:=by
 let(a,b,_):=ĝ.mp h;have e:fs[j]?=↑f:=by rw[Á a];exact congrArg some<|eq_of_beq b
 exact{ì e,e}
def aDpf(D:Dc)(J:Gm)(x f:Str)(d p:Pos)(j:Expr)(q:Pos)(e:Expr)(pos:Pos):Option<|SR J<|.Assign [.Subscript (.Attribute (.Name x d) f p) j q] e pos:=gd (!(HV j || Gg e)) λh=>ob J.ox.sf λc l=>ob (J.var x) λi k=>ob (c.2.findIdx? (· == f)) λm b=>(D.e J j).bind λg=>(D.e J e).bind λr=>↑{J6 c.1 c.2 m i g.m r.m,λC=>by
 have a:=Dn h;rw[ć]at a;obtain⟨s,t,u,v⟩:=C.var (pos:=d) k;obtain⟨n,o⟩:=C.gx.sf c.1 c.2 l;refine s_dpf (by have:=C.room.units;lia) n (o f (RU b).1) b s t u v (r.ok C).1 (g.ok C).1 (LY a.2) ?_ (OH a.1)
 cases e<;>rfl}
def Z2(j:J.ox.sf=↑c)(h:J.var x=↑i)(b:c.2.findIdx? (· == f)=↑jj)(d:(!((c.2.take jj).contains f || !(decide (jj<900))))=true)(C:CxOk J X E ca)(g:PE X e<|tM X.K E ca m) :
  PS X (.Assign [.Attribute (.Name x p1) f p2] e pos) (tS X.K E ca J.mu<|EN c.1 c.2 jj i m):=by
 have a:=Dn d;rw[ć,Bool.not_eq_false',ë]at a;let(c1,c2):=a;let(n,o,p,q):=C.var (pos:=p1) h;let(k,l):=C.gx.sf c.1 c.2 j;exact zmq k (l f (RU b).1) (RU b).2 c1 c2 n o p q g (by cases e<;>rfl)
def aFl(D:Dc)(J:Gm)(x f:Str)(j k:Pos)(e:Expr)(pos:Pos):Option<|SR J<|.Assign [.Attribute (.Name x j) f k] e pos:=ob J.ox.sf λc h=>ob (J.var x) λi d=>ob (c.2.findIdx? (· == f)) λb g=>gd (!((c.2.take b).contains f || !(decide (b<900)))) λa=>match e,a with
 |.Dict [] [] p,a=>↑{EN c.1 c.2 b i ML,λC=>Z2 h d g a C zna}|e,a=>(D.e J e).bind λr=>↑{EN c.1 c.2 b i r.m,λC=>Z2 h d g a C (r.ok C).1}
def aSub(D:Dc)(J:Gm)(a j:Expr)(c:Pos)(e:Expr)(pos:Pos):Option<|SR J<|.Assign [.Subscript a j c] e pos:=match a with
 |.Name x b=>aSto D J x b j c e pos|.Subscript (.Name x b) g d=>aSt2 D J x b g d j c e pos|.Attribute (.Name x b) f d=>aDpf D J x f b d j c e pos|ϊ=>none
def dAsg(D:Dc)(J:Gm)(ts:kC)(e:Expr)(pos:Pos):Option<|SR J<|.Assign ts e pos:=match ts with
 |[t]=>(match t with
  |.Name x px=>aNm D J x px e pos|.Tuple ts b pt=>aTp D J ts b pt e pos|.Subscript a j g=>aSub D J a j g e pos|.Attribute o f d=>(match o with
   |.Name x c=>aFl D J x f c d e pos|ϊ=>none)
  |ϊ=>none)
 |ϊ=>none
def Te(D:Dc)(J:Gm)(e:Expr)(pos:Pos):Option<|SR J<|.Expr e pos:=gd (!(Gg e)) λa=>(D.e J e).bind λr=>↑{HH r.m,λC=>s_exp (r.ok C).1 (OF<|Dn a)}
def xApp(D:Dc)(J:Gm)(x:Str)(p:Pos)(f:Str)(b:Pos)(a:Expr)(c pos:Pos):Option<|SR J<|.Expr (.Call (.Attribute (.Name x p) f b) [a] [] c) pos:=gd (EU a) λk=>gd (b.endLine == c.line) λl=>ob (J.var x) λi m=>(D.e J a).bind λr=>
 if d:f="append" then ↑{Cg i r.m,λC=>by
  subst d;obtain⟨e,g,h,j⟩:=C.var (pos:=p) m;exact s_app e g h j (r.ok C).1 (IH k) l} else
 if d:f="extend" then ↑{Fu i<|Ib (Js J a) r.m,λC=>by
  subst d;obtain⟨e,g,h,j⟩:=C.var (pos:=p) m;exact s_ext e g h j (Lh (r.ok C).1 _) (IH k) l} else
 Te D J _ pos
def dX(D:Dc)(J:Gm)(e:Expr)(pos:Pos):Option<|SR J<|.Expr e pos:=
 match e with
 |.Call (.Attribute (.Name x p) f b) [a] [] c=>xApp D J x p f b a c pos|e=>Te D J e pos
def xRet(D:Dc)(J:Gm)(o:Option Expr)(pos:Pos):Option<|SR J<|.Return o pos:=
 gd (!J.mu) λa=>match o with
 |none=>↑{Pd,λC=>by rw[Dn a];exact zmm}|some e=>(D.e J e).bind λr=>↑{AW r.m,λC=>by rw[Dn a];exact s_ret (r.ok C).1}
def xRse(D:Dc)(J:Gm)(a b:Option Expr)(pos:Pos):Option<|SR J<|.Raise a b pos:=match a,b with
 |some (.Call (.Name c p) (e::d) [] k),none=>gd (!(J.ox.nr)) λg=>gd ((Fw c).isNone) λf=>gd (J.ex.contains c) λh=>gd (C1 J.nm c) λi=>gd (DE c) λj=>(D.a J<|e::d).bind λr=>↑{Cw c r.m,λC=>s_rse C (Dn g) (Option.isNone_iff_eq_none.mp f) (ò.mp h) i j (r.ok C) r.st}|ϊ,ϋ=>none
def xFor(D:Dc)(J:Gm)(tg it:Expr)(body a:kD)(pos:Pos):Option<|SR J<|.For tg it body a pos:=
 match a with
 |[]=>gd (!(J.ox.nr)) λh=>(dI D J tg it).bind λb=>(dG J tg).bind λc=>(D.q J body).bind λr=>↑{BN b.m c.m r.m,λC=>s_for (C.po<|Dn h) C.calm (b.ok C) (c.ok C) (r.ok C)<|Ri b.ns}|ϊ=>none
def xWh(D:Dc)(J:Gm)(c:Expr)(body a:kD)(pos:Pos):Option<|SR J<|.While c body a pos:=match a with
 |[]=>gd (!(J.ox.nr)) λh=>gd (Fy c) λhk=>(D.e J c).bind λb=>(D.q J body).bind λr=>↑{Fs b.m r.m,λC=>s_wh (C.po<|Dn h) (b.t hk C)<|r.ok C}|ϊ=>none
def xIf(D:Dc)(J:Gm)(c:Expr)(a b:kD)(pos:Pos):Option<|SR J<|.If c a b pos:=
 gd (Fy c) λh=>(D.e J c).bind λf=>(D.q J a).bind λd=>(D.q J b).bind λe=>↑{A8 f.m d.m e.m,λC=>s_if (f.t h C) (d.ok C)<|e.ok C}
structure CxS(J:Gm)(X:Cx)(ca:Str->Value):Prop where
 N:X.N=J.N
 nd:J.N.Nodup
 nm:X.env.scope.names=J.nm
 rm:Room J.lv (Vo X.A)
 bl:∀b∈J.bl,X.mg b=none
 gx:GxOk J.ox J.lv X.prog X.w X.K X.mg X.base ca
set_option tactic.hygienic true in
def CxS.var(C:CxS J X ca)(h:J.var x=↑i):X.N[i]?=↑x/\E5 X.env.scope x/\(x == "__debug__")=false/\(x == "__classdict__")=false:=by
 unfold Gm.var at h;split at h;rename_i a;rw[Ä]at a;let(b,c,d):=EB a.1;exact{by rw[C.N];exact HU h,Ts (by rw[C.nm];exact a.2),b,c}
 cases h
def CxS.gl(C:CxS J X ca)(h:C1 J.nm x=true):Gl X x:=by
 show X.env.scope.names.lookup x=↑.globalImplicit;rw[C.nm];exact eq_of_beq h
def xTry(D:Dc)(J:Gm)(body:kD)(b:List ExceptHandler)(a BD:kD)(pos:Pos):Option<|SR J<|.Try body b a BD pos:=match b,a,BD with
 |ϊ,ϋ,ό=>none
def dSt(D:Dc)(J:Gm):(s:Stmt)->Option (SR J s)
 |.Pass ϊ=>↑{Aa,λϊ=>zmn}|.Break ϊ=>↑{L8,λϊ=>zj5}|.Continue ϊ=>↑{Us,λϊ=>zdf}|.Return o d=>xRet D J o d|.Expr e d=>dX D J e d|.Assign j e d=>dAsg D J j e d|.If c a b d=>xIf D J c a b d|.For i it f g d=>xFor D J i it f g d|.While c f g d=>xWh D J c f g d|.Raise a b d=>xRse D J a b d|.Try f h g BD d=>xTry D J f h g BD d|ϊ=>none
def dSq(D:Dc)(J:Gm):(ss:kD)->Option (QR J ss)
 |[]=>↑{Aa,λϊ=>s_nil}|[s]=>(match D.s J s with
  |some r=>↑{Rh (frzs J s) r.m,λC=>Of (Ul<|r.ok C) _}|none=>if J.ox.no then ↑{L7,λϊ=>Ul Um} else none)
 |s::a::r=>(D.q J<|a::r).bind λrs=>match D.s J s with
  |some q=>↑{Rh (frzs J s)<|AF q.m rs.m,λC=>Of (Up (q.ok C)<|rs.ok C) _}|none=>if J.ox.no then ↑{AF L7 rs.m,λC=>Up Um<|rs.ok C} else none
def Hg:Nat->Dc
 |0=>{λϊ ϊ=>none,λϊ ϊ=>none,λϊ ϊ=>none,λϊ ϊ ϊ=>none,λϊ ϊ=>none,λϊ ϊ=>none}|n+1=>{dEs<|Hg n,dAs<|Hg n,dOs<|Hg n,dBs<|Hg n,dSt<|Hg n,dSq<|Hg n}
def Mb(n:Nat)(J:Gm)(ss:kD):Option<|AH:=((Hg n).q J ss).map QR.m
structure GoodS(ca:Str->Value)(n:Nat):Prop where
 ss:∀{J:Gm} {X:Cx} {E:L2.St->XK} {st:kD} {m:AH},CxOk J X E ca->Mb n J st=↑m->B9 X st (tS X.K E ca J.mu m)
theorem Y5(ca)(n):GoodS ca n:={λC h=>by
 let(r,_,rfl):=Ø.mp h;exact r.ok C}
end Pu
end
namespace Pu
open PySem PySem.Spec PyProof.Rows L2 Zw Zx
theorem X9:True:=trivial
def L9(n:Nat)(u:AH)(ts:kL):Option Ru:=match u (ts.map some++List.replicate (n - ts.length) none) with
 |some (.rt t)=>↑(.ok t)|some (.nx ϊ)=>↑(.ok .non)|some (.xc c ϊ)=>↑(.exc c)|ϊ=>none
def A9(k n:Nat)(u:AH)(ts:kL):Option Ru:=if ts.length=k then L9 n u ts else none
theorem OI(c:∀i a,¬ R i a)(s:Stp F H (tot R) F' H' σ'):Ext F H F' H' σ' where
 hh:=λb u e=>s.kp b u (λ⟨i,z⟩=>c i b z) e
 ff:=s.ff
 fh:=s.fh
 nb:=λb z=>(s.nw b z).elim (λ⟨i,w⟩=>absurd w<|c i b) id
 nf:=λb u e=>(s.nf b u e).elim .inl λz=>z.elim (λ⟨i,w⟩=>absurd w<|c i b) .inr
def zgd{K}(fh:A3 F H)(r:Ae K F ts vs):StR K F H (start N vs) (ts.map some++List.replicate (N.length - ts.length) none)<|λϊ=>R0:=by
 have g:=r.1;refine{fh,by simp[L2.start,g],λi t e=>?_,λϊ ϊ z=>z.elim,λϊ ϊ ϊ ϊ z=>z.elim};unfold L2.start;by_cases f:i<ts.length;rw[ÿ (by simpa using f),È]at e;let(j,b,c):=Ø.mp e;cases c;have a:i<vs.length:=by lia
 refine{vs[i],?_,(r.2 i t vs[i] b<|Á a).any};rw[ÿ (by simpa using a),È,Á a];rfl;rw[ğ (by simp;lia)]at e;let(h,d):=Ð.mp e;simp at d
def zmt{K}{N ps:kE}(h:Br K ca (A9 ps.length N.length u) vs H Q E):tS K (λϊ=>E) ca false u { nx:=λϊ H'=>Q .non H',rt:=Q} (start N vs) H:=by
 let(g,d,fh,r,q):=h;refine{g,_,_,zgd fh r,?_};unfold A9 at q;by_cases e:d.length=ps.length;erw[e,Å]at q;unfold L9 at q;cases f:u (d.map some++List.replicate (N.length - d.length) none) with
 |none=>erw[f]at q<;>symm|some o=>
  erw[f]at q;cases o with
  |nx Y=>exact λa b i j s1 k=>q a b .non R0 ((OI (λϊ ϊ z=>z) s1).mono λϊ z=>z.elim) .non|rt t=>exact λa b x B s1 r1=>q a b x B (OI (λϊ ϊ z=>z) s1) r1|bk Y=>symm|ct Y=>symm|xc c Y=>exact λa b i j s1 k=>q a b<|(OI (λϊ ϊ z=>z) s1).mono λϊ z=>z.elim
 erw[e,Ã]at q<;>symm
def Ym{K}{st:Stmt}{f:Addr}{J:Gm}(F:FunD K x qual st f fd)(S:FnScope N ps<|CP st)
  (d:J.N=N) (t:J.nm=(CP st).names) (j:∀x∈J.ce,J.nm.lookup x=↑.cell) (a:J.lv=k) (i:∀b∈J.bl,mg b=none)
  (l:∀f F,J.fns.lookup f=↑F->F.lv<=k/\Nonempty (DefX P w K mg base F.lv f F.ps<|Br K ca F.g)) (hex:∀c∈J.ex,∃T:ECls K mg c,ca c=.ref T.C/\EF K T.C=↑none)
  (o:∀f F,J.mus.lookup f=↑F->F.lv<=k/\Nonempty (DefX P w K mg base F.lv f F.ps<|Fp K ca F.g)) (p:J.mu=false) (m:GxOk J.ox k P w K mg base ca) (B:Mb n J (FE st)=↑u):FnOk P w K mg base (DO P w) (k+1) f fd ps<|Br K ca<|A9 ps.length N.length u:=by
 refine Vn F S (λL H Q E h=>?_) λg A outer s H L Q E z h=>?_;let(M,I,_,r,q):=h;unfold A9 at q;by_cases v:I.length=ps.length;rw[<- r.1,v];grind
 have C:CxOk J (FG (DO P w) P w K mg base N qual (CP st) f g A outer s H E) (λϊ=>E) ca:=by
  refine{d.symm,by rw[d];exact S.nd,t.symm,S.kind,rfl,by rw[a];exact z,λy D=>{rfl,j y D},i,Vi,λϊ=>PassesOwn.leaving,λϊ=>Xd,X9,λf F e=>by rw[a];exact l f F e,hex,λf F e=>by rw[a];exact o f F e,by rw[a];exact m,λϊ=>{(rfl),rfl},{_,_,rfl,rfl}}
 have G:=(Y5 ca n).ss C B;rw[p]at G;refine{_,G,?_};exact zmt h
def runM(k n:Nat)(u:AH)(ts:kL):Option Ru:=if ts.length=k then (match u (ts.map some++List.replicate (n - ts.length) none) with
 |some (.rt t)=>↑(.ok t)|some (.nx Y)=>(match VB .non Y with
  |some (.rt t)=>↑(.ok t)|ϊ=>none)
 |some (.xc c ϊ)=>↑(.exc c)|ϊ=>none) else none
def ze9{K}(fh:A3 F H)(r0:Rp K F H t0 x0 A)(r:Ae K F ts vs):StR K F H (start N<|x0::vs) ((t0::ts).map some++List.replicate (N.length - (t0::ts).length) none) (λi=>if i=0 then A else R0):=by
 have o:=r.1;refine{fh,by simp[L2.start,o],λi t e=>?_,λi a z=>?_,λi j a c g h=>?_};unfold L2.start;by_cases b:i<(t0::ts).length;rw[ÿ (by simpa using b),È]at e;let(q,f,k):=Ø.mp e;cases k;cases i with
 |zero=>cases f;exact{x0,by simp,r0}|succ i=>
  have m:i<ts.length:=by simpa using b
  have d:i<vs.length:=by lia
  refine{vs[i],?_,(r.2 i t vs[i] (by simpa using f)<|Á d).any};rw[ÿ (by simpa using d),È,Ŀ,Á d];rfl
 rw[ğ (by simp at b ⊢;lia)]at e;let(p,l):=Ð.mp e;simp at l;by_cases b:i=0;subst b;exact{(t0),rfl};erw[b,Ã]at z;exact z.elim;by_cases b:i=0;have n:¬ j=0:=λz=>c<|b.trans z.symm
 erw[n,Ã]at h;exact h;erw[b,Ã]at g;exact g
def zim:tot (λi=>if i=0 then A else R0)=A:=funext λa=>propext {λ⟨i,z⟩=>by
 by_cases b:i=0;grind
 erw[b]at z;exact z.elim,λz=>{0,by simpa using z}}
def Bp{α:Type}{P:α->Prop}:∀x∈([]:List α),P x:=λϊ h=>by cases h
def B8{α:Type}{P:α->Prop}{a:α}{l:List α}(h:P a)(r:∀x∈l,P x):∀x∈a::l,P x:=λx b=>by
 obtain rfl|b:=Î.mp b
 exact h;exact r x b
def JW{P:k9->Prop}(h:P []):∀us:k9,us.length=0->P us:=λus e=>by
 cases us with
 |nil=>exact h|cons a r=>cases e
def Di{P:k9->Prop}{k:Nat}(h:∀a us,us.length=k->P (a::us)):∀us:k9,us.length=k+1->P us:=λus e=>by
 cases us with
 |nil=>cases e|cons a r=>exact h a r<|ð e
def CF{P:k9->Prop}(h:∀a,P [a]):∀us:k9,us.length=1->P us:=Di λa=>JW<|h a
def Ct{P:k9->Prop}(h:∀a b,P [a,b]):∀us:k9,us.length=2->P us:=Di λa=>Di λb=>JW<|h a b
def Fb{P:k9->Prop}(h:∀a b c,P [a,b,c]):∀us:k9,us.length=3->P us:=Di λa=>Di λb=>Di λc=>JW<|h a b c
def GQ{P:k9->Prop}(h:∀a b c d,P [a,b,c,d]):∀us:k9,us.length=4->P us:=Di λa=>Di λb=>Di λc=>Di λd=>JW<|h a b c d
def us6{P:k9->Prop}(h:∀a b c d e f,P [a,b,c,d,e,f]):∀us:k9,us.length=6->P us:=Di λa=>Di λb=>Di λc=>Di λd=>Di λe=>Di λf=>JW<|h a b c d e f
section
variable {P:Program}{w:World}{K:k6}{mg:Str->Option Value}{base:Heap}{ca:Str->Value}{k:Nat}
def Ag:∀f F,([]:List<|Str×Fn).lookup f=↑F->F.lv<=k/\Nonempty (DefX P w K mg base F.lv f F.ps<|Br K ca F.g):=λϊ ϊ h=>by cases h
def zhw{x:Str}{a:Fn}{l:List<|Str×Fn}(hk:a.lv<=k)(D:DefX P w K mg base a.lv x a.ps<|Br K ca a.g)(r:∀f F,l.lookup f=↑F->F.lv<=k/\Nonempty (DefX P w K mg base F.lv f F.ps<|Br K ca F.g)) :
  ∀f F,((x,a)::l).lookup f=↑F->F.lv<=k/\Nonempty (DefX P w K mg base F.lv f F.ps<|Br K ca F.g):=λf F h=>by
 rw[ç]at h;cases b:f == x with
 |true=>rw[b]at h;cases h;rw[eq_of_beq b];exact{hk,{(D)}}|false=>rw[b]at h;exact r f F h
def QO:∀f F,([]:List<|Str×Fn).lookup f=↑F->F.lv<=k/\Nonempty (DefX P w K mg base F.lv f F.ps<|Fp K ca F.g):=λϊ ϊ h=>by cases h
def LX(K:k6):Sp:=λc H Q ϊ=>∃(a:Addr) (ns:kF),c=[.ref a]/\GJ K H a (ns.map V.int)/\ns.length<=63/\∀b,Q (.bl true) b
def GJ.of{K:k6}{H:Hp}{a:Addr}{xs:kK}(b:NW H)(h:Ab K H a xs):GJ K H a xs:=by
 rcases h with (h|h)|h;rcases b a with z|⟨o,c,z⟩<;>rw[h]at z<;>cases z;exact .inl h;exact .inr h
def Bw(ns:kF):T:=.nd false .rl<|ns.map T.int
def Uz{F:Hp}:∀ns:kF,Ae K F (ns.map T.int)<|ns.map V.int
 |[]=>.nil|n::r=>.cons (H:=F) (.int n)<|Uz r
def zp0{R:kL->Option Ru}{f:Addr}{fd:FuncData}(F:FnOk P w K mg base (DO P w) k f fd ["_law_script"]<|Br K ca R)(h:∀ns:kF,ns.length<=63->R [Bw ns]=↑(.ok<|.bl true)):FnOk P w K mg base F8 k f fd ["_law_script"]<|LX K:=by
 refine{λt H Q E d=>?_,λA outer s H b p t Q E n j l o d=>?_};let(a,ns,rfl,_):=d;rfl;let(a,ns,rfl,m,c,q):=d;refine ý (F.run A outer s H b p _ Q E0 n j l o {H,[Bw ns],.refl _,.cons (H:=H) (Ae.of_node (k:=.rl) m<|Uz ns) .nil,?_}) λr x g=>?_;rw[h ns c];intro u i z C e r;rw[r.bl_inv];exact q i;cases r with
 |error v=>let(_,_,_,_,_,_,_,_,_,_,_,_,z):=g;exact z.elim
 |ok fl=>cases fl<;>exact g
end
def GX(C:Addr)(fs:kE)(k n:Nat)(u:AH)(p:Addr)(ts:kL):Option Ru:=if ts.length+1=k then (match u ((T.oob p C fs []::ts).map some++List.replicate (n - (ts.length+1)) none) with
 |some (.nx Y)=>(match Fx Y 0 C fs with
  |some (q,l)=>if q=p then ↑(.ok<|.obj (.ins C fs)<|BP l) else none
  |none=>none)
 |some (.xc c ϊ)=>↑(.exc c)|ϊ=>none) else none
open Classical in
def El(C:Addr)(fs:kE)(k n:Nat)(u:AH)(ts:kL):Option Ru:=if h:∃r,∀p,GX C fs k n u p ts=↑r then ↑h.choose else none
def Uw{C:Addr}{fs:kE}{k n:Nat}{u:AH}{ts:kL}{r:Ru}(h:∀p,GX C fs k n u p ts=↑r):El C fs k n u ts=↑r:=by
 have a:∃r,∀p,GX C fs k n u p ts=↑r:={(r),h};unfold El;rw[dif_pos a];have e:=(a.choose_spec 0).symm.trans (h 0);exact e
set_option tactic.hygienic true in
def Ux{C:Addr}{fs:kE}{k n:Nat}{u:AH}{ts:kL}{r:Ru}(h:El C fs k n u ts=↑r)(p:Addr):GX C fs k n u p ts=↑r:=by
 unfold El at h;split at h;rename_i a;cases h;exact a.choose_spec p;cases h
def zpi{P:Program}{w:World}{K:k6}{mg:Str->Option Value}{base:Heap}{ca:Str->Value}{x v:Str}{st:Stmt}{f:Addr}{fd:FuncData}{N ps:kE}{k n:Nat}{J:Gm}{u:AH}{C:Addr}{fs:kE}(F:FunD K x v st f fd)(S:FnScope N ps<|CP st)
  (R:J.N=N) (hnm:J.nm=(CP st).names) (hce:∀x∈J.ce,J.nm.lookup x=↑.cell) (g:J.lv=k) (Z:∀b∈J.bl,mg b=none)
  (hfs:∀f F,J.fns.lookup f=↑F->F.lv<=k/\Nonempty (DefX P w K mg base F.lv f F.ps<|Br K ca F.g)) (hex:∀c∈J.ex,∃T:ECls K mg c,ca c=.ref T.C/\EF K T.C=↑none)
  (hms:∀f F,J.mus.lookup f=↑F->F.lv<=k/\Nonempty (DefX P w K mg base F.lv f F.ps<|Fp K ca F.g)) (hmu:J.mu=false) (hgx:GxOk J.ox k P w K mg base ca) (hu:Mb n J (FE st)=↑u):FnOk P w K mg base (DO P w) (k+1) f fd ps<|J3 K ca C<|El C fs ps.length N.length u:=by
 refine Vn F S (λvs H Q E h=>?_) λX A outer s H vs Q E hr h=>?_;let(W,p,dx,m,vs',_,rfl,_,_,r,q):=h;cases I:El C fs ps.length N.length u m with
 |none=>rw[I]at q;symm|some rr=>
  have d:=Ux I 0;unfold GX at d;by_cases O:m.length+1=ps.length;rw[Þ,<- r.1,O];rw[if_neg O]at d;cases d
 have CC:CxOk J (FG (DO P w) P w K mg base N v (CP st) f X A outer s H E) (λϊ=>E) ca:=by
  refine{R.symm,by rw[R];exact S.nd,hnm.symm,S.kind,rfl,by rw[g];exact hr,λy hy=>{rfl,hce y hy},Z,Vi,λϊ=>PassesOwn.leaving,λϊ=>Xd,X9,λf F e=>by rw[g];exact hfs f F e,hex,λf F e=>by rw[g];exact hms f F e,by rw[g];exact hgx,λϊ=>{(rfl),rfl},{_,_,rfl,rfl}}
 have G:=(Y5 ca n).ss CC hu;rw[hmu]at G;refine{_,G,?_};let(W,p,dx,m,vs',fh,rfl,fp,hp,r,q):=h;have r0:Rp K W H (.oob p C fs []) (.ref p) (λa=>a=p\/∃j:Nat,R0 a):=.oob (xs:=[]) (λϊ=>R0) fp (by rw[List.zip_nil_right];exact hp) rfl (λi t x h=>by simp at h) (λϊ ϊ ϊ ϊ z=>z.elim) (λϊ z=>z)<|λϊ ϊ z=>z.elim
 have hA:(λa=>a=p\/∃j:Nat,R0 a)=λa=>a=p:=funext λa=>propext {λz=>z.elim id λ⟨_,w⟩=>w.elim,λz=>.inl z};refine{W,_,_,ze9 fh r0 r,?_};unfold pS;rw[zim,hA];cases I:El C fs ps.length N.length u m with
 |none=>rw[I]at q;symm|some rr=>
  rw[I]at q;have d:=Ux I p;unfold GX at d
  by_cases O:m.length+1=ps.length;rw[if_pos O]at d;have el:(T.oob p C fs []::m).length=m.length+1:=rfl;rw[el];cases ho:u ((T.oob p C fs []::m).map some++List.replicate (N.length - (m.length+1)) none) with
  |none=>rw[ho]at d;cases d|some o=>
   rw[ho]at d;cases o with
   |nx Y=>
    simp only at d;intro U D O1 V s1 L;cases B:Fx Y 0 C fs with
    |none=>rw[B]at d;cases d|some ql=>
     let(q0,l):=ql;rw[B]at d;simp only at d;by_cases hq:q0=p;rw[if_pos hq]at d;subst hq;cases d;have M:=QI B;have S2:=L.frz M;let(y,ey,ry):=L.rep 0 _ M;let(dx2,xs2,Rr,rfl,hA2,fp2,hp2,ro,dp):=ry.oob_inv;have n1:∀a,V 0 a->U a=none:=λa z=>(L.dom z).1
     have r2:=ry.share (H':=D) (FD (H:=D) n1) λa u z q=>by rw[E2 z];exact q
     simp only at q;refine q (frz U D<|V 0) D {s1.ff.trans<|FD n1,Iu L.fh,s1.kp,λb z=>z.elim,λb u e=>?_} r2;by_cases hb:V 0 b;exact(s1.nw b {0,hb}).elim (λz=>.inr<|.inl z) λz=>.inr<|.inr z
     rw[FC hb]at e;exact s1.nf b u e;rw[if_neg hq]at d;cases d
   |rt t=>cases d|bk Y=>cases d|ct Y=>cases d|xc c Y=>cases d;simp only at q;exact λU D O1 V s1 L=>q U D<|s1.mono λϊ z=>z.elim
  rw[if_neg O]at d;cases d
def DZ{κ α:Type} [BEq κ]{P:κ->α->Prop}:∀y b,([]:List<|κ×α).lookup y=↑b->P y b:=λϊ ϊ h=>by cases h
def Ey{κ α:Type} [BEq κ] [LawfulBEq κ]{P:κ->α->Prop}{x:κ}{a:α}{l:List<|κ×α}(h:P x a)(r:∀y b,l.lookup y=↑b->P y b):∀y b,((x,a)::l).lookup y=↑b->P y b:=λy b e=>by
 rw[ç]at e;cases c:y == x with
 |true=>rw[c]at e;cases e;rw[eq_of_beq c];exact h|false=>rw[c]at e;exact r y b e
def Pl{K:k6}{F:Hp}:∀ys:kE,Ae K F (ys.map T.str)<|ys.map V.str
 |[]=>.nil|y::r=>.cons (H:=F) (.str y)<|Pl r
def XI{P:Str->Fn->List (Nat×kL)->Prop}:∀x F ds,([]:List<|Str×Fn×List (Nat×kL)).lookup x=↑(F,ds)->P x F ds:=λϊ ϊ ϊ h=>by cases h
def XJ{P:Str->Fn->List (Nat×kL)->Prop}{l:List<|Str×Fn×List (Nat×kL)}{b:Str}{c:Fn}{d:List<|Nat×kL}(h:P b c d)(r:∀x F ds,l.lookup x=↑(F,ds)->P x F ds):∀x F ds,((b,c,d)::l).lookup x=↑(F,ds)->P x F ds:=λx F ds e=>by
 rw[ç]at e;cases a:x == b with
 |true=>rw[a]at e;cases e;rw[eq_of_beq a];exact h|false=>rw[a]at e;exact r x F ds e
def Zf(K:k6)(C:Addr):=(KL K C,W.subIn K (.ref C)<|.ref C,(W.clsIn K C).isSome,W.typeIn K<|.ref C,W.findIn K (.ref C) "__getattribute__",W.findIn K (.ref C) "__getattr__",W.findIn K (.ref C) "__class__",W.mroIn K C<|.type "object",W.mroIn K C<|.type "BaseException")
def He{K:k6}{mg:Str->Option Value}{x:Str}(g:W.specialIn K (.builtin "object.__class__") "__get__"=↑(↑(.builtin "getset_descriptor.__get__"))/\W.takesIn K (.builtin "object.__class__")=↑true)(C:Addr)(m:mg x=↑(.ref C))(h:Zf K C=(true,↑true,true,↑(.type "type"),↑(↑(.builtin "BaseException.__getattribute__")),↑none,↑(↑(.builtin "object.__class__")),↑true,↑true)):ECls K mg x:={C,m,by
 unfold Zf at h;erw[Prod.mk.injEq,Ł]at h;obtain⟨a,b,c,d,e,f,i,j,k⟩:=h;exact{(a),b,c,d,e,f,i,j,k,g.1,g.2}}
theorem Af{G:Gx}{lv:Nat}{P:Program}{w:World}{K:k6}{mg:Str->Option Value}{base:Heap}{ca:Str->Value}
  (co:∀x t,G.co.lookup x=↑t->∃u v,mg x=↑u/\A6 v u/\∀F:Hp,Rp K F F t v R0:=by exact DZ)
  (cl:∀c∈G.cl,Cls K c.2.1/\∀f∈c.2.2,Cd K c.2.1 f:=by exact Bp)
  (mt:∀c∈G.mt,c.2.2.2.lv<=lv/\Nonempty (MetX P w K mg base c.2.1 c.1 c.2.2.2.lv c.2.2.2.ps<|Br K ca c.2.2.2.g):=by exact Bp)
  (nw:∀x F ds,G.nw.lookup x=↑(F,ds)->F.lv+1<=lv/\∃(C:Addr) (D:NewX P w K mg base x C F.lv F.ps<|J3 K ca C F.g),∀k dts,ds.lookup k=↑dts->∃dvs us,C6 K D.fd F.ps us/\A4 dvs us/\∀H:Hp,Ae K H dts dvs:=by exact XI)
  (sf:∀C fs,G.sf=↑(C,fs)->Cls K C/\∀f∈fs,Cd K C f:=by exact(λϊ ϊ h=>by cases h))
  (xs:∀W cs,G.xs.lookup W=↑cs->∃T:ECls K mg W,∀c C,cs.lookup c=↑C->ca c=.ref C/\PySem.W.subIn K (.ref C) (.ref T.C)=↑true:=by exact DZ)
  (sb:∀D tb,G.sb.lookup D=↑tb->∃A:Addr,mg D=↑(.ref A)/\∀C b,tb.lookup C=↑b->ExcK K C/\PySem.W.kitOne K (.ref C) (.ref A)=↑b:=by exact DZ)
  (sv:∀D tb,G.sv.lookup D=↑tb->mg D=none/\∃t,bootBuiltins D=↑(.type t)/\∀C b,tb.lookup C=↑b->ExcK K C/\PySem.W.kitOne K (.ref C) (.type t)=↑b:=by exact DZ)
  (ci:∀x tb,G.ci.lookup x=↑tb->∃D:Addr,mg x=↑(.ref D)/\(∀C b,tb.lookup C=↑b->ICls K C/\PySem.W.kitOne K (.ref C) (.ref D)=↑b)/\(LK.all λa=>PySem.W.kitOne K (.type a) (.ref D) == ↑false)=true:=by exact DZ)
  (x2:∀W1 W2 cs,(W1,W2,cs)∈G.x2->∃(T1:ECls K mg W1) (T2:ECls K mg W2),∀c C,cs.lookup c=↑C->ca c=.ref C/\PySem.W.subIn K (.ref C) (.ref T1.C)=↑false/\PySem.W.subIn K (.ref C) (.ref T2.C)=↑true:=by exact(λϊ ϊ ϊ h=>by cases h))
  (wd:∀x F,G.wd.lookup x=↑F->F.lv<=lv/\∃p,F.ps=[p]/\Nonempty (DefS P w K mg base F.lv x p<|Br K ca F.g):=by exact DZ)
  (ti:∀C∈G.ti,TiOk K C:=by exact Bp)
  (dn:∀x y,G.dn.lookup x=↑y->y.1.lv<=lv/\∃(D:DefX P w K mg base y.1.lv x y.1.ps<|Br K ca y.1.g) (dvs:kK),DefsX K D.fd y.1.ps dvs/\∀H:Hp,Ae K H y.2 dvs:=by exact DZ)
  (rn:True:=trivial)
  : GxOk G lv P w K mg base ca:={(co),cl,mt,nw,sf,xs,sb,sv,ci,x2,wd,ti,dn,rn}
theorem scM{N ps:kE}{a:Scope}(h:(a.kind=.function/\a.isCoroutine=false/\a.isGenerator=false)/\N.Nodup/\N.take ps.length=ps/\(∀x∈ps,a.names.lookup x=↑.local\/a.names.lookup x=↑.cell)/\∀y∈a.names,y.2≠.free):FnScope N ps a:={(h.1.1),h.1.2.1,h.1.2.2,h.2.1,h.2.2.1,h.2.2.2.1,h.2.2.2.2}
class Qx (P:outParam Program) (w:outParam World) (K:outParam k6) (mg:outParam<|Str->Option Value) (base:outParam Heap) (ca:outParam<|Str->Value):Prop where
  c:∀(x:Str) (u:Value),W.nsIn K mainGlobals x=↑↑u->mg x=↑u
  n:∀x:Str,W.nsIn K mainGlobals x=↑none->mg x=none
structure Ck(J:Gm)(f:Fn)(st:Stmt)(u:AH):Prop where
 s:FnScope J.N f.ps<|CP st:=by exact scM (by decide +kernel)
 k:Mb 200 J (FE st)=↑u:=by ext
 n:J.nm=(CP st).names:=by rfl
def A2{P:Program}{w:World}{K:k6}{mg:Str->Option Value}{base:Heap}{ca:Str->Value}{k:Nat}{x:Str}{a:Fn}{l:List<|Str×Fn}(D:DefX P w K mg base a.lv x a.ps<|Br K ca a.g)(r:∀f F,l.lookup f=↑F->F.lv<=k/\Nonempty (DefX P w K mg base F.lv f F.ps<|Br K ca F.g))(hk:a.lv<=k:=by decide) :
  ∀f F,((x,a)::l).lookup f=↑F->F.lv<=k/\Nonempty (DefX P w K mg base F.lv f F.ps<|Br K ca F.g):=zhw hk D r
abbrev gF(x a:Str)(s:Stmt)(d:Value)(m:Str)(t c:Nat)(y:Value):FuncData:=W.fnOf x a (Iy s) (FE s) (CP s) d .none .none (.str m t) none (.ref c) y
def fO(a b:Str)(s:Stmt)(d:Value)(m:Str)(t c:Nat)(y:Value):Obj:={(.type "function"),none,(.func<|gF a b s d m t c y),Array.mk []}
def gO(a:Str)(s:Stmt)(m:Str)(t c:Nat):Obj:=fO a a s .none m t c .none
def XU(K:k6)(b:Str):Bool:=match W.nsIn K mainGlobals b with
 |some none=>true|ϊ=>false
def GZ(K:k6)(x:Str)(a:Addr):Bool:=match W.nsIn K mainGlobals x with
 |some (↑(.ref b))=>b == a|ϊ=>false
def Iz(K:k6)(b:Str)(a c:Nat)(J:Gm)(f:Fn):Bool:=W.codeIn K (.ref c) b && W.keepIn K (.ref a) && J.bl.all (XU K) && J.ce.all (λx=>J.nm.lookup x == ↑.cell) && !J.mu && (J.lv+1 == f.lv)
structure Chk(K:k6)(mg:Str->Option Value)(qual:Str)(a c:Nat)(J:Gm)(f:Fn):Prop where
 c:W.codeIn K (.ref c) qual=true
 k:W.keepIn K (.ref a)=true
 b:∀b∈J.bl,mg b=none
 e:∀x∈J.ce,J.nm.lookup x=↑.cell
 m:J.mu=false
 l:J.lv+1=f.lv
def zpt{P:Program}{w:World}{K:k6}{mg:Str->Option Value}{base:Heap}{ca:Str->Value} [q:Qx P w K mg base ca]{d:Str}{a c:Nat}{J:Gm}{f:Fn}(h:Iz K d a c J f=true):Chk K mg d a c J f:=by
 unfold Iz at h;erw[Ä,Ú]at h;let(((((e,g),i),j),k),l):=h;refine{e,g,λb m=>q.n b ?_,λx n=>eq_of_beq<|j x n,Dn k,eq_of_beq l}
 have:=i b m;unfold XU at this;split at this;assumption;cases this
set_option tactic.hygienic true in
def VC{P:Program}{w:World}{K:k6}{mg:Str->Option Value}{base:Heap}{ca:Str->Value} [q:Qx P w K mg base ca]{x:Str}{a:Addr}(h:GZ K x a=true):mg x=↑(.ref a):=by
 unfold GZ at h;split at h;rename_i b e;rw[<- eq_of_beq h];exact q.c _ _ e;cases h
structure AY(P:Program)(w:World)(K:k6)(mg:Str->Option Value)(base:Heap)(ca:Str->Value)(x qual:Str)(st:Stmt)(d:Value)(mo:Str)(t c:Nat)(y:Value)(J:Gm)(f:Fn)(V:Params->Obj)(a:Addr):Prop where
 fs:∀g F,J.fns.lookup g=↑F->F.lv<=J.lv/\Nonempty (DefX P w K mg base F.lv g F.ps<|Br K ca F.g)
 gx:GxOk J.ox J.lv P w K mg base ca
 ex:∀c∈J.ex,∃T:ECls K mg c,ca c=.ref T.C/\EF K T.C=↑none
 ms:∀g F,J.mus.lookup g=↑F->F.lv<=J.lv/\Nonempty (DefX P w K mg base F.lv g F.ps<|Fp K ca F.g)
 h:Chk K mg qual a c J f
 F:FunD K x qual st a<|gF x qual st d mo t c y
section
variable {P:Program}{w:World}{K:k6}{mg:Str->Option Value}{base:Heap}{ca:Str->Value} [q:Qx P w K mg base ca]{x mo qual:Str}{st:Stmt}{t c:Nat}{d y:Value}{J:Gm}{f:Fn}{u:AH}{V:Params->Obj}{a C:Addr}{fs:kE}
theorem Sz(b:∀g F,J.fns.lookup g=↑F->F.lv<=J.lv/\Nonempty (DefX P w K mg base F.lv g F.ps<|Br K ca F.g))(e:GxOk J.ox J.lv P w K mg base ca)(hex:∀c∈J.ex,∃T:ECls K mg c,ca c=.ref T.C/\EF K T.C=↑none)(i:∀g F,J.mus.lookup g=↑F->F.lv<=J.lv/\Nonempty (DefX P w K mg base F.lv g F.ps<|Fp K ca F.g))
  (j:V w.params=fO x qual st d mo t c y) (l:K.lookup a=↑(V w.params)) (h:Iz K qual a c J f=true):AY P w K mg base ca x qual st d mo t c y J f V a:=
 have h:=zpt h
 {b,e,hex,i,h,zlb (l.trans<|congrArg some j) h.c h.k}
def Aj(e:∀g F,J.fns.lookup g=↑F->F.lv<=J.lv/\Nonempty (DefX P w K mg base F.lv g F.ps<|Br K ca F.g))(i:GxOk J.ox J.lv P w K mg base ca)(hex:∀c∈J.ex,∃T:ECls K mg c,ca c=.ref T.C/\EF K T.C=↑none:=by exact Bp)(j:∀g F,J.mus.lookup g=↑F->F.lv<=J.lv/\Nonempty (DefX P w K mg base F.lv g F.ps<|Fp K ca F.g):=by exact QO)
  (n:V w.params=fO x x st d mo t c y:=by exact rfl) (l:K.lookup a=↑(V w.params):=by ext) (h:Iz K x a c J f=true:=by ext) (m:GZ K x a=true:=by ext) (k:f.g=A9 f.ps.length J.N.length u:=by rfl)
  (b:C6 K (gF x x st d mo t c y) f.ps []):AY P w K mg base ca x x st d mo t c y J f V a/\GZ K x a=true/\f.g=A9 f.ps.length J.N.length u/\C6 K (gF x x st d mo t c y) f.ps []:={Sz e i hex j n l h,m,k,b}
def Hi(e:∀g F,J.fns.lookup g=↑F->F.lv<=J.lv/\Nonempty (DefX P w K mg base F.lv g F.ps<|Br K ca F.g))(i:GxOk J.ox J.lv P w K mg base ca)(hex:∀c∈J.ex,∃T:ECls K mg c,ca c=.ref T.C/\EF K T.C=↑none:=by exact Bp)(j:∀g F,J.mus.lookup g=↑F->F.lv<=J.lv/\Nonempty (DefX P w K mg base F.lv g F.ps<|Fp K ca F.g):=by exact QO)
  (m:V w.params=fO x qual st d mo t c y:=by exact rfl) (l:K.lookup a=↑(V w.params):=by ext) (h:Iz K qual a c J f=true:=by ext) (me:Meth K C x a:=by exact{by ext,by ext,by ext}) (k:f.g=A9 f.ps.length J.N.length u:=by rfl)
  (b:C6 K (gF x qual st d mo t c y) f.ps []):AY P w K mg base ca x qual st d mo t c y J f V a/\Meth K C x a/\f.g=A9 f.ps.length J.N.length u/\C6 K (gF x qual st d mo t c y) f.ps []:={Sz e i hex j m l h,me,k,b}
def bG{z:Str}(b:∀g F,J.fns.lookup g=↑F->F.lv<=J.lv/\Nonempty (DefX P w K mg base F.lv g F.ps<|Br K ca F.g))(e:GxOk J.ox J.lv P w K mg base ca)(hex:∀c∈J.ex,∃T:ECls K mg c,ca c=.ref T.C/\EF K T.C=↑none:=by exact Bp)(i:∀g F,J.mus.lookup g=↑F->F.lv<=J.lv/\Nonempty (DefX P w K mg base F.lv g F.ps<|Fp K ca F.g):=by exact QO)
  (k:V w.params=fO x qual st d mo t c y:=by exact rfl) (l:K.lookup a=↑(V w.params):=by ext) (h:Iz K qual a c J f=true:=by ext) (m:GZ K z C=true:=by ext) (ma:Mk K C a:=by exact{by ext,by ext,by ext,by ext}) (j:f.g=El C fs f.ps.length J.N.length u:=by rfl):AY P w K mg base ca x qual st d mo t c y J f V a/\GZ K z C=true/\Mk K C a/\f.g=El C fs f.ps.length J.N.length u:={Sz b e hex i k l h,m,ma,j}
def Ai(V:Params->Obj)(a:Addr)(S:Ck J f st u)(A:AY P w K mg base ca x x st d mo t c y J f V a/\GZ K x a=true/\f.g=A9 f.ps.length J.N.length u/\C6 K (gF x x st d mo t c y) f.ps []):DefX P w K mg base f.lv x f.ps<|Br K ca f.g:=
 {a,_,by rw[A.2.2.1,<- A.1.h.l];exact Ym A.1.F S.s rfl S.n A.1.h.e rfl A.1.h.b A.1.fs A.1.ex A.1.ms A.1.h.m A.1.gx S.k,VC A.2.1,A.1.h.k,A.2.2.2}
def Hf(V:Params->Obj)(a:Addr)(S:Ck J f st u)(cl:Cls K C)(A:AY P w K mg base ca x qual st d mo t c y J f V a/\Meth K C x a/\f.g=A9 f.ps.length J.N.length u/\C6 K (gF x qual st d mo t c y) f.ps []):MetX P w K mg base C x f.lv f.ps<|Br K ca f.g:=
 {a,_,cl,A.2.1,by rw[A.2.2.1,<- A.1.h.l];exact Ym A.1.F S.s rfl S.n A.1.h.e rfl A.1.h.b A.1.fs A.1.ex A.1.ms A.1.h.m A.1.gx S.k,A.2.2.2}
def Zo(z:Str)(C:Addr)(fs:kE)(V:Params->Obj)(a:Addr)(S:Ck J f st u)(A:AY P w K mg base ca x qual st d mo t c y J f V a/\GZ K z C=true/\Mk K C a/\f.g=El C fs f.ps.length J.N.length u):NewX P w K mg base z C f.lv f.ps<|J3 K ca C f.g:=
 {a,gF x qual st d mo t c y,VC A.2.1,A.2.2.1,by rw[A.2.2.2,<- A.1.h.l];exact zpi A.1.F S.s rfl S.n A.1.h.e rfl A.1.h.b A.1.fs A.1.ex A.1.ms A.1.h.m A.1.gx S.k}
end
def Fi:AM (x::l) 0=↑x:=by
 have:AM (x::l) 0=↑x:=CW rfl;exact this
def F6:AM (x::y::l) 1=↑y:=by
 have:AM (x::y::l) 1=↑y:=CW rfl;exact this
def K0:AM (x::y::z::l) 2=↑z:=by
 have:AM (x::y::z::l) 2=↑z:=CW rfl;exact this
abbrev fr(a b:Int):T:=.tup [.int a,.int b]
section
variable {b:T->AN->Option AN}{body:AH}{mc:AJ}
def Ef(I:Nat->AN->Prop)(j:I 0 Y)(p:∀i t Y,ts[i]?=↑t->I i Y->∃τ1,b t Y=↑τ1/\∃τ2,body τ1=↑(.nx τ2)/\I (i+1) τ2):∃Y',Ao b body ts Y=↑(.nx Y')/\I ts.length Y':=by
 have e:∀(l:kL) (k:Nat) (Y:AN),ts.drop k=l->k<=ts.length->I k Y->∃Y',Ao b body l Y=↑(.nx Y')/\I ts.length Y':=by
  intro l
  induction l with
  |nil=>
   intro k Y hd hk c
   have:k=ts.length:=by
    have:=congrArg List.length hd;simp at this;lia
   subst this;exact{(Y),rfl,c}
  |cons t l q=>
   intro k Y hd hk c
   have a:k<ts.length:=by
    have:=congrArg List.length hd;simp at this;lia
   rw[ô a]at hd;injection hd with m n;let(τ1,f,τ2,g,d):=p k t Y (by rw[Á a,m]) c;let(Y',h,o):=q (k+1) τ2 n a d;exact{Y',by unfold Ao;erw[f,g];exact h,o}
 exact e ts 0 Y rfl (ù _) j
def zfc(I:Nat->AN->Prop)(d:T->Prop)(n:I 0 Y)(r:∀i t Y,ts[i]?=↑t->I i Y->∃τ1,b t Y=↑τ1/\((∃τ2,(body τ1=↑(.nx τ2)\/body τ1=↑(.ct τ2))/\I (i+1) τ2)\/∃v,body τ1=↑(.rt v)/\d v)) :
  (∃Y',Ao b body ts Y=↑(.nx Y')/\I ts.length Y')\/∃v,Ao b body ts Y=↑(.rt v)/\d v:=by
 have m:∀(l:kL) (k:Nat) (Y:AN),ts.drop k=l->k<=ts.length->I k Y->(∃Y',Ao b body l Y=↑(.nx Y')/\I ts.length Y')\/∃v,Ao b body l Y=↑(.rt v)/\d v:=by
  intro l
  induction l with
  |nil=>
   intro k Y hd hk h
   have:k=ts.length:=by
    have:=congrArg List.length hd;simp at this;lia
   subst this;exact .inl {(Y),rfl,h}
  |cons t l u=>
   intro k Y hd hk h
   have c:k<ts.length:=by
    have:=congrArg List.length hd;simp at this;lia
   rw[ô c]at hd;injection hd with o p;let(τ1,e,q):=r k t Y (by rw[Á c,o]) h;rcases q with ⟨τ2,a,j⟩|⟨v,a,s⟩;rcases u (k+1) τ2 p c j with ⟨Y',f,g⟩|⟨v,f,g⟩;refine .inl {Y',?_,g};unfold Ao;rcases a with a|a<;>erw[e,a]<;>exact f;refine .inr {v,?_,g};unfold Ao;rcases a with a|a<;>erw[e,a]<;>exact f;exact .inr {v,by unfold Ao;erw[e,a],s}
 exact m ts 0 Y rfl (ù _) n
def zj6(I:AN->Prop)(μ:AN->Nat)(i:I Y)(k:∀Y,I Y->(∃bb,mc Y=↑(.v (.bl true) bb)/\∃τ2,body Y=↑(.nx τ2)/\I τ2/\μ τ2<μ Y)\/∃bb,mc Y=↑(.v (.bl false) bb)) :
  ∃Y',Fs mc body Y=↑(.nx Y')/\I Y'/\∃bb,mc Y'=↑(.v (.bl false) bb):=by
 have c:∀(n:Nat) (Y:AN),μ Y<n->I Y->∃Y',DI mc body n Y=↑(.nx Y')/\I Y'/\∃bb,mc Y'=↑(.v (.bl false) bb):=by
  intro n
  induction n with
  |zero=>intro Y h;exact absurd h (Nat.not_lt_zero _)|succ n l=>
   intro Y o d;rcases k Y d with ⟨bb,a,τ2,f,b,m⟩|⟨bb,a⟩;let(Y',g,j):=l τ2 (by lia) b;exact{Y',by unfold DI;erw[a,f];exact g,j};exact{Y,by unfold DI;erw[a],d,bb,a}
 let(Y',e,h):=c (μ Y+1) Y (Ĕ _) i;exact{Y',zmr e,h}
def Ie(I:Nat->AN->Prop)(f )(j:I 0 Y)(o:∀i t Y,ts[i]?=↑t->I i Y->∃τ1,b t Y=↑τ1/\me τ1=↑(.v (f i) false)/\I (i+1) τ1) :
  Bs b (mC<|.bl true) me ts Y=↑((List.range ts.length).map f):=by
 have d:∀(l ) (k ) (Y ),ts.drop k=l->k<=ts.length->I k Y->Bs b (mC<|.bl true) me l Y=↑((List.range' k l.length).map f):=by
  intro l
  induction l with
  |nil=>intro k Y _ _ _;rfl|cons t l p=>
   intro k Y hd hk n
   have a:k<ts.length:=by
    grind
   rw[ô a]at hd;injection hd with q m;let(τ1,e,g,c):=o k t Y (by grind) n;have h:=p (k+1) τ1 m a c;unfold Bs;erw[e,mC,g,h];rfl
 have:=d ts 0 Y rfl (ù _) j;rw[this,<- List.range_eq_range']
end
def EV{i j:Int}(h:EO j=true):Bl i j=true:=by unfold Bl;grind
def G7{i j:Int}(h:EO i=true):Bl i j=true:=by unfold Bl;grind
def zkl(a:Bx i=true)(b:Bx j=true):Bl i j=true:=by unfold Bl;grind
def DJ(a:-(2 ^ 64)<i)(b:i<2 ^ 64):EO i=true:=@decide_eq_true _ (Classical.propDecidable _) {(a),b}
def CZ(a:-(10 ^ 70)<i)(b:i<10 ^ 70):Bx i=true:=@decide_eq_true _ (Classical.propDecidable _) {(a),b}
def fm{i j:Int}(h:0<j):i.fmod j=i % j:=Int.fmod_eq_emod_of_nonneg i<|by lia
def fd{i j:Int}(h:0<j):i.fdiv j=i / j:=Ŝ i<|by lia
def Dx{i j:Int}:Aq (.int i) (.int j)=↑(.bl<|i == j):=by
 rfl
def Fz{i j:Int}:CH (.int i) (.int j)=↑(.bl<|!(i == j)):=by
 rfl
mutual
noncomputable def Dq:PyData->Bool
 |.bool ϊ=>false|.dict ϊ=>false|.list xs=>G6 xs|.tuple xs=>G6 xs|ϊ=>true
noncomputable def G6:List PyData->Bool
 |[]=>true|x::xs=>Dq x && G6 xs
end
mutual
theorem Z9:∀d d':PyData,Dq d=true->Dq d'=true->(PyData.eqv d d'=true ↔ d=d')
 |.none,d',ϊ,a=>by cases d'<;>simp[PyData.eqv,Dq]at a ⊢|.int i,d',ϊ,a=>by cases d'<;>simp[PyData.eqv,Dq]at a ⊢|.str x,d',ϊ,a=>by cases d'<;>simp[PyData.eqv,Dq]at a ⊢|.bool ϊ,ϋ,h,ό=>by simp[Dq]at h|.dict ϊ,ϋ,h,ό=>by simp[Dq]at h|.list xs,d',h,a=>by
  cases d' with
  |list b=>
   have:=SH xs b (by simpa[Dq] using h)<|by simpa[Dq] using a
   erw[PyData.eqv];rw[this];simp
  |_=>simp[PyData.eqv,Dq]at a ⊢
 |.tuple xs,d',h,a=>by
  cases d' with
  |tuple b=>
   have:=SH xs b (by simpa[Dq] using h)<|by simpa[Dq] using a
   erw[PyData.eqv];rw[this];simp
  |_=>simp[PyData.eqv,Dq]at a ⊢
theorem SH:∀xs ys:List PyData,G6 xs=true->G6 ys=true->(PyData.eqvAll xs ys=true ↔ xs=ys)
 |[],[],ϊ,ϋ=>by simp[PyData.eqvAll]|[],ϊ::ϋ,ό,ύ=>by simp[PyData.eqvAll]|ϊ::ϋ,[],ό,ύ=>by simp[PyData.eqvAll]|x::xs,y::ys,a,b=>by
  erw[G6,Ä]at a b;have c:=Z9 x y a.1 b.1;have d:=SH xs ys a.2 b.2;erw[PyData.eqvAll,Ä,c,d,List.cons.injEq]
end
structure Fit(t:T)(n:Nat):Prop where
 fit:E3 t=true
 nb:Dq t.data=true
 dep:t.data.depth<=n
theorem Fit.int(i)(n):Fit (.int i) n:={rfl,rfl,by simp[T.data,PyData.depth]}
theorem Fit.non(n:Nat):Fit .non n:={rfl,rfl,by simp[T.data,PyData.depth]}
def Z3:∀{l} {n},(∀t∈l,Fit t n)->(Er l=true/\PyData.canLayAll0 (Bn l)=true)/\G6 (Bn l)=true/\PyData.depthAll (Bn l)<=n
 |[],n,ϊ=>{{(rfl),rfl},rfl,ù _}|t::r,n,h=>by
  let(a,c,f):=h t (Í ..);let((b,g1),g2,e):=Z3 λx d=>h x<|Ì _ d
  unfold E3 at a;rw[Ä]at a;refine{{by rw[Er,a.1,b];rfl,by rw[Bn,PyData.canLayAll0,a.2,g1];rfl},by rw[Bn,G6,c,g2];rfl,?_};rw[Bn,PyData.depthAll];lia
def Fit.nd(h:∀t∈l,Fit t n):Fit (.nd o k l)<|n+1:=by
 let(g1,g2,a):=Z3 h;cases k<;>exact{by simpa[E3,T.data,T.pln,PyData.canLay0] using g1,by simpa[T.data,Dq] using g2,by simpa[T.data,PyData.depth] using a}
theorem Fit.tup{l:kL}{n:Nat}(h:∀t∈l,Fit t n):Fit (.tup l)<|n+1:=Fit.nd h
theorem Fit.mono(h:Fit t n)(a:n<=m):Fit t m:={h.fit,h.nb,Û h.dep a}
theorem Fit.fr(a b):Fit (Pu.fr a b) 1:=Fit.tup λt c=>by
 erw[Î,ĉ,Ě]at c;rcases c with rfl|rfl<;>exact Fit.int _ _
open Classical in
def Za{t u:T}{n m:Nat}(h:Fit t n)(a:Fit u m)(b:n<=60):Aq t u=↑(.bl<|decide (t.data=u.data))/\CH t u=↑(.bl<|!decide (t.data=u.data)):=by
 have ok:Gn t u=true:=by
  unfold Gn;rw[h.fit,a.fit,É (by have:=h.dep;lia)];rfl
 have e:Iw t u=decide (t.data=u.data):=by
  unfold Iw;rw[ŏ,Z9 _ _ h.nb a.nb];simp
 unfold Aq CH;rw[if_pos ok,if_pos ok,e];exact{(rfl),rfl}
def zlg(h:Fit t n)(b:n<=60)(e:t.data=u.data)(a:Fit u n):Aq t u=↑(.bl true)/\CH t u=↑(.bl false):=by
 have:=Za h a b;grind
def ID:∀ns:kF,BP (ns.map T.int)=ns.map T.int
 |[]=>rfl|n::r=>by rw[Õ,BP,ID r];rfl
def J4:∀ns:kF,AV (ns.map T.int)=true
 |[]=>rfl|n::r=>by rw[Õ,AV,J4 r];rfl
def Ug(ns):(Bw ns).share=Bw ns:=by unfold Bw;rw[T.share,ID]
def Uh(ns):(Bw ns).sh=true:=by unfold Bw;rw[T.sh,J4];rfl
def Hj{x:α}(a:0<=k)(h:l[k.toNat]?=↑x):AM l k=↑x:=by
 have:AM l ((k.toNat:Nat):Int)=↑x:=CW h;rwa[Int.toNat_of_nonneg a]at this
def SS(f:α->β)(l)(lo hi):B0 (l.map f) lo hi=(B0 l lo hi).map f:=by
 unfold B0;simp
def zll(l:List α)(lo hi):(B0 l lo hi).length<=l.length:=by
 unfold B0;rw[Ă,Ŏ];exact Û (Nat.min_le_right ..) (Nat.sub_le ..)
def zgy(l:kF):BP (l.map T.int)=l.map T.int:=ID l
end Pu
namespace Zm
end Zm
namespace Db
open PySem
def QN(a b):((a &&& b) % 2=1) ↔ (a % 2=1/\b % 2=1):=Nat.and_mod_two_eq_one
def Jf(a:Nat):(a:Int) % 2=1 ↔ a % 2=1:=by lia
def Je(a:Nat):(Int.negSucc a) % 2=1 ↔ ¬ a % 2=1:=by lia
def Vq(a c:Nat):((a:Int) - c) % 2=1 ↔ ¬ (a % 2=1 ↔ c % 2=1):=by lia
def band_odd(x y):Builtin.bitAnd x y % 2=1 ↔ (x % 2=1/\y % 2=1):=by
 have d:∀a:Nat,Builtin.bitNot (Int.negSucc a)=(a:Int):=λa=>by
  unfold Builtin.bitNot;lia
 cases x with
 |ofNat a=>
  cases y with
  |ofNat b=>show((a &&& b:Nat):Int) % 2=1 ↔ ((a:Int) % 2=1/\(b:Int) % 2=1);rw[Jf,Jf,Jf,QN]|negSucc b=>show((a:Int) - ((a &&& (Builtin.bitNot<|Int.negSucc b).toNat:Nat):Int)) % 2=1 ↔ ((a:Int) % 2=1/\(Int.negSucc b) % 2=1);rw[d,á,Vq,Jf,Je,QN];exact{λh=>{Classical.byContradiction λz=>h {λq=>absurd q z,λq=>q.1},λz=>h {λq=>{(q),z},λq=>q.1}},λh z=>h.2 (z.mp h.1).2}
 |negSucc a=>
  cases y with
  |ofNat b=>show((b:Int) - ((b &&& (Builtin.bitNot<|Int.negSucc a).toNat:Nat):Int)) % 2=1 ↔ ((Int.negSucc a) % 2=1/\(b:Int) % 2=1);rw[d,á,Vq,Jf,Je,QN];exact{λh=>{λz=>h {λq=>{(q),z},λq=>q.1},Classical.byContradiction λz=>h {λq=>absurd q z,λq=>q.1}},λh z=>h.1 (z.mp h.2).2}|negSucc b=>
   show(Builtin.bitNot (((Builtin.bitNot<|Int.negSucc a).toNat ||| (Builtin.bitNot<|Int.negSucc b).toNat:Nat):Int)) % 2=1 ↔ _
   have nb:∀c:Nat,Builtin.bitNot (c:Int)=Int.negSucc c:=λc=>by
    unfold Builtin.bitNot;lia
   rw[d,d,á,á,nb,Je,Je,Je,Nat.or_mod_two_eq_one];exact not_or
def band_one(x):Builtin.bitAnd x 1=x % 2:=by
 cases x with
 |ofNat a=>
  show((a &&& 1:Nat):Int)=(a:Int) % 2;rw[Nat.and_one_is_mod];rfl
 |negSucc a=>
  show((1:Nat):Int) - (((1:Nat) &&& (Builtin.bitNot<|Int.negSucc a).toNat:Nat):Int)=_;rw[show Builtin.bitNot (Int.negSucc a)=a by unfold Builtin.bitNot;lia,á,Nat.and_comm,Nat.and_one_is_mod];lia
def bor_one(x y):Builtin.bitAnd (Builtin.bitOr x y) 1=max (x % 2) (y % 2):=by
 rw[band_one];have h:=band_odd (Builtin.bitNot x)<|Builtin.bitNot y;unfold Builtin.bitOr;change Builtin.bitAnd (Builtin.bitNot x) (Builtin.bitNot y)=c
 have nb:∀z:Int,Builtin.bitNot z % 2=1 - z % 2:=λz=>by
  unfold Builtin.bitNot;lia
 rw[nb,nb]at h;rw[nb];rcases Ĺ x with e|e<;>rcases Ĺ y with f|f<;>rw[e,f]at h ⊢<;>rcases Ĺ c with g|g<;>rw[g]at h ⊢<;>revert h<;>decide
def bs(a b:Int):Int:=2 * (a / 2+b / 2)+min (a % 2) (b % 2)
def bs_eq(a b:Int):a+b - max (a % 2) (b % 2)=bs a b:=by unfold bs;lia
def zpu(a:Int):bs a 1=a:=by unfold bs;lia
def zog(a:Int):bs 1 a=a:=by unfold bs;lia
def zlr(a b:Int):bs a b=bs b a:=by unfold bs;lia
def Xa(a b:Int):min (a % 2) (b % 2)=0\/min (a % 2) (b % 2)=1:=by
 rcases Ĺ a with e|e<;>rcases Ĺ b with f|f<;>rw[e,f]<;>decide
def aN(a b:Int):bs a b / 2=a / 2+b / 2:=by
 have h:=Xa a b;unfold bs;change a / 2+b / 2=k;change min (a % 2) (b % 2)=m;lia
def aM(a b:Int):bs a b % 2=min (a % 2) (b % 2):=by
 have h:=Xa a b;unfold bs;change a / 2+b / 2=k;change min (a % 2) (b % 2)=m;lia
def zif(a b c):bs (bs a b) c=bs a (bs b c):=by
 show 2 * (bs a b / 2+c / 2)+min (bs a b % 2) (c % 2)=2 * (a / 2+bs b c / 2)+min (a % 2) (bs b c % 2);rw[aN,aN,aM,aM,Int.add_assoc,Int.min_assoc]
def zlq(h:a<=a')(c:b<=b'):bs a b<=bs a' b':=by unfold bs;lia
abbrev B:=kA
def le:B->B->Prop
 |ϊ,none=>True|none,↑ϊ=>False|some a,↑b=>a<=b
def add:B->B->B
 |some a,↑b=>↑(bs a b)|ϊ,ϋ=>none
def mn:B->B->B
 |none,b=>b|some a,none=>↑a|some a,↑b=>↑(min a b)
def le_refl(a:B):le a a:=by cases a<;>simp[le]
def le_trans(h:le a b)(d:le b c):le a c:=by
 cases a<;>cases b<;>cases c<;>simp_all [le];lia
def RO(h:le a b)(c:le b a):a=b:=by
 cases a<;>cases b<;>simp_all [le];lia
def EJ(h:le a b)(e:le c d):le (add a c)<|add b d:=by
 cases a<;>cases b<;>cases c<;>cases d<;>simp_all [le,add];exact zlq h e
def add_comm(a b:B):add a b=add b a:=by
 cases a<;>cases b<;>simp[add,zlr]
def add_assoc(a b c):add (add a b) c=add a (add b c):=by
 cases a<;>cases b<;>cases c<;>simp[add,zif]
def bN(a:B):add a ↑1=a:=by cases a<;>simp[add,zpu]
def Lw(a:B):add ↑1 a=a:=by cases a<;>simp[add,zog]
def mn_le(a b:B):le (mn a b) a:=by
 cases a<;>cases b<;>simp[le,mn];lia
def mn_le'(a b:B):le (mn a b) b:=by
 cases a<;>cases b<;>simp[le,mn];lia
def YA(h:le a b)(d:le a c):le a<|mn b c:=by
 cases a<;>cases b<;>cases c<;>simp_all [le,mn];lia
def QP{a b:B}(h:le a b):mn a b=a:=RO (mn_le a b)<|YA (le_refl a) h
def IQ(a b):mn a b=a\/mn a b=b:=by
 cases a<;>cases b<;>simp[mn];lia
abbrev Z:=Nat->Nat->B
def free(i j:Nat):B:=if i=0\/i=j then ↑1 else none
def z0(f:Z):Z:=λi j=>mn (f i j)<|free i j
def stp(f:Z)(k:Nat):Z:=λi j=>mn (f i j)<|add (f i k)<|f k j
def fw(f:Z):Nat->Z
 |0=>z0 f|k+1=>stp (fw f k) k
def Brk(n:Nat)(f:Z):Prop:=∃i,i<n/\¬ le ↑1 (f i i)
def Sound(n:Nat)(f:Z):Prop:=∀k,k<n->¬ Brk n (fw f k)
def diag_le(f)(i):∀k,le (fw f k i i) ↑1
 |0=>by
  have h:=mn_le' (f i i)<|free i i;have e:free i i=↑1:=if_pos<|.inr rfl;rw[e]at h;show le (mn (f i i)<|free i i) _
  grind
 |k+1=>le_trans (mn_le _ _)<|diag_le f i k
def fw_le(f)(i j):∀k,le (fw f k i j)<|f i j
 |0=>mn_le _ _|k+1=>le_trans (mn_le _ _)<|fw_le f i j k
def Yb(f)(i j):∀k,le (fw f k i j)<|z0 f i j
 |0=>le_refl _|k+1=>le_trans (mn_le _ _)<|Yb f i j k
def SO(h:¬ Brk n (fw f k))(b:i<n):fw f k i i=↑1:=by
 refine RO (diag_le f i k) ?_;cases Classical.em (le ↑1<|fw f k i i) with
 |inl a=>exact a|inr a=>exact(h {(i),b,a}).elim
def tri(h:Sound n f):∀k,k<=n->∀i j l,l<k->i<n->j<n->le (fw f k i j) (add (fw f k i l)<|fw f k l j)
 |0,ϊ,ϋ,ό,l,s,ύ,ώ=>by lia|k+1,hk,i,j,l,s,p,q=>by
  have o:=SO (h k<|by lia)<|show k<n by lia
  have inv:=tri h k<|by lia
  show le (stp (fw f k) k i j)<|add (stp (fw f k) k i l)<|stp (fw f k) k l j;generalize t:fw f k=g at *
  by_cases e:l=k;subst e;have c:stp g l i l=g i l:=by unfold stp;rw[o,bN];exact QP<|le_refl _
  have d:stp g l l j=g l j:=by unfold stp;rw[o,Lw];exact QP<|le_refl _
  rw[c,d];exact mn_le' _ _;have lk:l<k:=by lia
  have r:le (stp g k i j)<|g i j:=mn_le _ _;have m:le (stp g k i j)<|add (g i k)<|g k j:=mn_le' _ _
  rcases IQ (g i l) (add (g i k)<|g k l) with c|c<;>rcases IQ (g l j) (add (g l k)<|g k j) with d|d;have:stp g k i l=g i l:=c;have a:stp g k l j=g l j:=d;rw[this,a];exact le_trans r<|inv i j l lk p q
  have b:stp g k i l=g i l:=c;have a:stp g k l j=add (g l k) (g k j):=d;rw[b,a,<- add_assoc];exact le_trans m<|EJ (inv i k l lk p<|by lia)<|le_refl _
  have b:stp g k i l=add (g i k) (g k l):=c;have a:stp g k l j=g l j:=d;rw[b,a,add_assoc];exact le_trans m<|EJ (le_refl _)<|inv k j l lk (by lia) q
  have b:stp g k i l=add (g i k) (g k l):=c;have a:stp g k l j=add (g l k) (g k j):=d;rw[b,a,add_assoc,<- add_assoc<|g k l];refine le_trans m<|EJ (le_refl _) ?_;have:=EJ (inv k k l lk (by lia)<|by lia)<|le_refl<|g k j
  rw[o,Lw]at this;exact this
structure Nar(n:Nat)(f:Z):Prop where
 diag:∀i,i<n->f i i=↑1
 row:∀j,j<n->le (f 0 j) ↑1
 tri:∀i j l,i<n->j<n->l<n->le (f i j) (add (f i l)<|f l j)
def nar(h:Sound n f):Nar n<|fw f n:=by
 have t:=tri h n<|Ç n;refine{λi a=>?_,λj b=>?_,λi j l a b d=>t i j l d a b}
 refine RO (diag_le f i n) ?_;cases n with
 |zero=>lia|succ m=>
  have c:=SO (h m<|by lia)<|show m<m+1 by lia
  have g:=SO (h m<|by lia) a;refine YA (by rw[g];exact le_refl _) ?_;by_cases e:i=m;subst e;rw[c];exact le_refl _;have:=Db.tri h m (by lia) m m i (by lia) (by lia)<|by lia
  rw[c,add_comm]at this;exact this
 refine le_trans (Yb f 0 j n) ?_;have:=mn_le' (f 0 j)<|free 0 j;exact this
def sat(D:Int):B->Int->Prop
 |none,ϊ=>True|some c,d=>d<=c / 2 * D - 1+c % 2
set_option tactic.hygienic true in
def zj3(h:sat D a d)(g:sat D b e):sat D (add a b)<|d+e:=by
 cases a<;>cases b<;>erw[sat,add]at *;rename_i a b;have c:bs a b / 2=a / 2+b / 2:=by unfold bs;lia
 have f:bs a b % 2=min (a % 2) (b % 2):=by unfold bs;lia
 rw[c,f,Int.add_mul];lia
set_option tactic.hygienic true in
def sat_le(c:0<D)(h:sat D a d)(e:le a b):sat D b d:=by
 cases a<;>cases b<;>erw[sat,le]at *;rename_i a b;rcases Œ (a / 2) (b / 2) with q|q;have:(a / 2+1) * D<=b / 2 * D:=ž (by lia)<|by lia
 grind;grind
def sat_mn(h:sat D a d)(c:sat D b d):sat D (mn a b) d:=by
 rcases IQ a b with e|e<;>rw[e]<;>assumption
def Lie(n:Nat)(D:Int)(X:Nat->Int)(f:Z):Prop:=∀i j,i<n->j<n->sat D (f i j) (X i - X j)
def lie_fw(d:X 0=0)(e:∀i,i<n->0<=X i)(h:Lie n D X f):∀k,k<=n->Lie n D X (fw f k)
 |0,ϊ,i,j,a,b=>by
  refine sat_mn (h i j a b) ?_;unfold free;split;erw[sat];grind;trivial
 |k+1,hk,i,j,a,b=>by
  have c:=lie_fw d e h k<|by lia
  refine sat_mn (c i j a b) ?_;have:=zj3 (c i k a<|by lia)<|c k j (by lia) b
  grind
def lie_sound(m:0<D)(b:X 0=0)(d:∀i,i<n->0<=X i)(h:Lie n D X f):Sound n f:=by
 intro k hk ⟨i,a,g⟩;have q:=lie_fw b d h k (by lia) i i a a
 refine g ?_;cases e:fw f k i i with
 |none=>trivial|some c=>
  rw[e]at q;erw[sat,le]at *;rcases Œ (c / 2) 0 with j|j;have:c / 2 * D<=-1 * D:=ž (by lia)<|by lia
  lia;rcases Œ 0 (c / 2) with l|l;lia;grind
def satB(D:Int)(c:B)(d:Int):Bool:=match c with
 |none=>true|some c=>decide (d<=c / 2 * D - 1+c % 2)
def satB_iff:satB D c d=true ↔ sat D c d:=by
 cases c<;>simp[satB,sat]
end Db
namespace Db
end Db
namespace Dv
open Db
def ins(f:Z)(a b:Nat)(e:B):Z:=λi j=>mn (f i j)<|add (f i a)<|add e<|f b j
def zl5{n:Nat}{f:Z}(h:Nar n f){a b:Nat}{e:B}(m:a<n)(o:b<n)(r:le ↑1<|add (f b a) e):Nar n<|ins f a b e:=by
 have one:∀x y z:B,le ↑1 z->le (add x y) (add (add x z) y):=λx y z s=>by
  have:=EJ (EJ (le_refl x) s)<|le_refl y
  rwa[bN]at this
 refine{λi c=>?_,λj d=>le_trans (mn_le _ _)<|h.row j d,λi j l c d g=>?_};show mn (f i i) _=_;rw[h.diag i c];refine QP ?_;have t:=h.tri b a i o m c;refine le_trans r ?_;have k:=EJ t<|le_refl e;refine le_trans k ?_;rw[add_comm e,<- add_assoc,add_comm<|f b i];exact le_refl _
 have m1:le (ins f a b e i j)<|f i j:=mn_le _ _;have m2:le (ins f a b e i j)<|add (f i a)<|add e<|f b j:=mn_le' _ _;have u:ins f a b e i l=f i l\/ins f a b e i l=add (f i a) (add e<|f b l):=IQ _ _;have v:ins f a b e l j=f l j\/ins f a b e l j=add (f l a) (add e<|f b j):=IQ _ _
 rcases u with p|p<;>rcases v with q|q<;>rw[p,q];exact le_trans m1<|h.tri i j l c d g
 refine le_trans m2 ?_;rw[<- add_assoc<|f i l];exact EJ (h.tri i a l c m g)<|le_refl _
 refine le_trans m2 ?_;rw[add_assoc,add_assoc];exact EJ (le_refl _)<|EJ (le_refl _)<|h.tri b j l o d g
 refine le_trans m2 ?_;rw[add_assoc,add_assoc];refine EJ (le_refl _) ?_;have t:=h.tri b a l o m g;have w:le ↑1<|add (add (f b l)<|f l a) e:=le_trans r<|EJ t<|le_refl e;have k:=EJ (le_refl e)<|EJ w<|le_refl<|f b j;rw[Lw]at k;refine le_trans k ?_;rw[add_assoc,add_assoc];exact le_refl _
def nm(c:Int):Int:=c / 2
def low(f:Z)(j:Nat):Int:=match f 0 j with
 |some c=>-(c / 2)|none=>0
def cl(f:Z):Z:=λi j=>(f i j).map λc=>2 * (c / 2)+1
abbrev Lim:=Nat×Nat×Int
def Ok(L:List Lim)(w:Nat->Int):Prop:=∀x∈L,w x.1 - w x.2.1<=x.2.2
def pt(v:Nat->Int)(j:Nat)(a:Int):Nat->Int:=λk=>if k=j then a else v k
def rz:List Lim->(Nat->Int)->Bool->(Nat->Int)×Bool
 |[],v,b=>(v,b)|(i,j,m)::L,v,b=>if v j<v i - m then rz L (pt v j<|v i - m) true else rz L v b
def rz_ok:∀(L:List Lim) (v:Nat->Int),Ok L v->rz L v false=(v,false)
 |[],ϊ,ϋ=>rfl|(i,j,m)::L,v,h=>by
  have b:=h (i,j,m) (Í ..);unfold rz;rw[if_neg (by simp only at b;lia)];exact rz_ok L v λx a=>h x<|Ì _ a
def tn(L:List Lim):Nat->(Nat->Int)->Option (Nat->Int)
 |0,ϊ=>none|t+1,v=>if (rz L v false).2 then tn L t (rz L v false).1 else ↑(rz L v false).1
def sm(n:Nat)(w:Nat->Int):Int:=((List.range n).map w).sum
def In(n:Nat)(L:List Lim):Prop:=∀x∈L,x.1<n/\x.2.1<n
section
variable {n:Nat}{L:List Lim}{w:Nat->Int}(hi:In n L)(ho:Ok L w)(hn:∀k,0<=w k)(hm:∀w',Ok L w'->(∀k,0<=w' k)->sm n w<=sm n w')
include hi ho hn hm
end
end Dv
namespace Dm
open Db
def ev(c:Int):Bool:=decide (c % 2=0)
end Dm
namespace Df
open Db Dv
def zof{a b:B}(c:le ↑1 a)(d:le ↑1 b):le ↑1<|add a b:=by
 have:=EJ c d;rwa[Lw]at this
structure St(n:Nat)(f:Z)(u l:Nat->B):Prop where
 nar:Nar n f
 c1:∀i,0<i->i<n->le ↑1 (add (f 0 i)<|u i)
 c2:∀i,0<i->i<n->le ↑1 (add (l i)<|f i 0)
 c3:∀i j,0<i->0<j->i<n->j<n->le ↑1 (add (l i)<|add (f i j)<|u j)
def St.low{n:Nat}{f:Z}{u l:Nat->B}(s:St n f u l){c:Nat}(b:0<c)(a:c<n):Nar n (ins f 0 c<|l c)/\∀i,0<i->i<n->le ↑1 (add (l i)<|ins f 0 c (l c) i 0):=by
 have k:=s.c2 c b a;rw[add_comm]at k;refine{zl5 s.nar (by lia) a k,λi g d=>?_}
 have h:le ↑1<|add (l i)<|add (f i 0)<|add (l c)<|f c 0:=by
  have:=zof (s.c2 i g d)<|s.c2 c b a
  rwa[add_assoc]at this
 show le _<|add _<|mn _ _
 rcases IQ (f i 0) (add (f i 0)<|add (l c)<|f c 0) with e|e;rw[e];exact s.c2 i g d;rw[e];exact h
def Sm(D:Int)(m:B)(x:Int):Prop:=match m with
 |none=>True|some m=>x<=m * D
def smB(D:Int)(m:B)(x:Int):Bool:=match m with
 |none=>true|some m=>decide (x<=m * D)
def ll(D:Int)(M:Nat->B)(X:Nat->Int)(i:Nat):B:=if smB D (M i) (X i) then ↑(1 - 2 * X i) else (M i).map λm=>0 - 2 * m * D
end Df
namespace Dk
open Db Dv
def put(f:Z)(a b:Nat)(c:Int):Z:=λi j=>if i=a/\j=b then mn (f a b) ↑c else f i j
def leB(a b:B):Bool:=match a,b with
 |ϊ,none=>true|none,↑ϊ=>false|some a,↑b=>decide (a<=b)
def met:List Lim->Z->Option Z
 |[],f=>↑f|x::L,f=>if leB ↑1 (add (f x.2.1 x.1) ↑x.2.2) then met L (ins f x.1 x.2.1 ↑x.2.2) else none
end Dk
namespace Pu
open PySem PySem.Spec PyProof.Rows L2 Zw Zx
def mT(n:Nat)(g:Nat->T):kL:=(List.range n).map g
def nl0:((0:Nat):Int)=0:=rfl
def nl1:((1:Nat):Int)=1:=rfl
def nl2:((2:Nat):Int)=2:=rfl
def nl3:((3:Nat):Int)=3:=rfl
def nl4:((4:Nat):Int)=4:=rfl
def nl5:((5:Nat):Int)=5:=rfl
def nl6:((6:Nat):Int)=6:=rfl
def nl7:((7:Nat):Int)=7:=rfl
def nl8:((8:Nat):Int)=8:=rfl
def nl9:((9:Nat):Int)=9:=rfl
def zou{k:Nat}(h:k<=100000):(k<=Bj)=True:=eq_true (by unfold Bj;lia)
def zot{k:Nat}(h:k<100000):(k<Bj)=True:=eq_true (by unfold Bj;lia)
section
variable {n:Nat}{g h:Nat->T}
def BQ:(mT n g).length=n:=by simp[mT]
def Eu{i:Nat}(a:i<n):(mT n g)[i]?=↑(g i):=by simp[mT,a]
def Ga(e:(mT n g)[i]?=↑t):i<n/\t=g i:=by
 have a:i<n:=by
  rcases Nat.lt_or_ge i n with q|q;exact q;rw[ā (by rw[BQ];exact q)]at e;cases e
 rw[Eu a]at e;exact{a,by injection e with e;exact e.symm}
def EX(a:l.length=n)(h:∀i,i<n->l[i]?=↑(g i)):l=mT n g:=by
 refine List.ext_getElem? λi=>?_;rcases Nat.lt_or_ge i n with q|q;rw[h i q,Eu q];rw[ā (by lia),ā (by rw[BQ];exact q)]
def EC(e:∀i,i<n->g i=h i):mT n g=mT n h:=EX BQ λi a=>by rw[Eu a,e i a]
def BO{k:Nat}(a:k<n):AM (mT n g) (k:Int)=↑(g k):=CW<|Eu a
def Xi(b:t∈mT n g):∃i,i<n/\t=g i:=by
 let(i,a,e):=Ò.mp b;exact{i,è.mp a,e.symm}
def IE:BP (mT n g)=mT n λi=>(g i).share:=by
 rw[FO];unfold mT;rw[û];rfl
def CU(e:∀i,(g i).sh=true):AV (mT n g)=true:=by
 rw[DV,Ú];intro t a;obtain⟨i,-,rfl⟩:=Xi a;exact e i
def IF(xs:Nat->Int):AV (mT n λi=>.int<|xs i)=true:=CU λϊ=>rfl
def zix(u w:Nat->Int):AV (mT n λi=>.nd false .tup [.int<|u i,.int<|w i])=true:=CU λϊ=>rfl
def IY:mT n g++[g n]=mT (n+1) g:=by
 unfold mT;rw[List.range_succ,â];rfl
def Xh{α:Type}(t:α->T)(xs:Nat->α)(r):mT n (λj=>t<|xs j)++[t r]=mT (n+1) λj=>t (if j=n then r else xs j):=by
 rw[<- IY,if_pos rfl,EC (g:=λj=>t (if j=n then r else xs j)) (h:=λj=>t<|xs j) λj a=>by rw[if_neg<|by lia]]
def Zc:∀(l) (k i:Nat) (t),l[i]?=↑t->(E4 k l)[i]?=↑(.tup [.int (k+i:Nat),t])
 |[],ϊ,ϋ,ό,e=>by simp at e|x::r,k,0,t,e=>by
  simp at e;subst e;rfl
 |x::r,k,i+1,t,e=>by
  rw[E4,Ŀ];have:=Zc r (k+1) i t<|by simpa using e
  rw[this,show k+1+i=k+(i+1) by lia]
def Zb:∀(l) (k),(E4 k l).length=l.length
 |[],ϊ=>rfl|x::r,k=>by rw[E4,Þ,Þ,Zb r]
def SI:E4 0 (mT n g)=mT n λi=>.tup [.int i,g i]:=by
 refine EX (by rw[Zb,BQ]) λi a=>?_;rw[Zc _ _ _ _<|Eu a,Nat.zero_add]
def zlv:Gv (mT n g) (mT n h)=mT n λi=>.tup [g i,h i]:=by
 refine EX (by simp[Gv,BQ]) λi a=>?_;unfold Gv;rw[List.getElem?_zipWith,Eu a,Eu a]
theorem zgk(a:Int):BW a n=mT n λi=>.int<|a+(i:Int):=rfl
def Ci:BW 0 n=mT n λi=>.int (i:Int):=by
 rw[zgk];simp
def consT(x:T)(g:Nat->T):Nat->T
 |0=>x|i+1=>g i
def zln(x):x::mT n g=mT (n+1) (consT x g):=by
 refine EX (by rw[Þ,BQ]) λi a=>?_;cases i with
 |zero=>rfl|succ i=>rw[Ŀ,Eu<|by lia];rfl
theorem mT_of(l)(d):l=mT l.length λi=>l.getD i d:=EX rfl λi a=>by
 rw[Ö,Á a];rfl
theorem IW:(mT n g).set i v=mT n λj=>if j=i then v else g j:=EX (by simp[BQ]) λj a=>by
 rw[List.getElem?_set,BQ];by_cases e:i=j;subst e;simp[a];erw[e,Ã];rw[Eu a,if_neg<|λq=>e q.symm]
theorem Xj(o)(k)(e:∀i,i<n->Fit (g i) d):Fit (.nd o k<|mT n g)<|d+1:=Fit.nd λt b=>by
 let(i,a,rfl):=Xi b;exact e i a
variable {b:T->AN->Option AN}{body:AH}{me:AJ}{Y:AN}
def FY(I:Nat->AN->Prop)(a:I 0 Y)(f:∀i Y,i<n->I i Y->∃τ1,b (g i) Y=↑τ1/\∃τ2,body τ1=↑(.nx τ2)/\I (i+1) τ2):∃Y',Ao b body (mT n g) Y=↑(.nx Y')/\I n Y':=by
 have:=Ef I a λi t Y e c=>by
  let(d,rfl):=Ga e;exact f i Y d c
 rwa[BQ]at this
def zlc(p:Nat->Prop)(v )(I:Nat->AN->Prop)(o:I 0 Y)
  (s:∀i Y,i<n->(∀j,j<i->p j)->I i Y->∃τ1,b (g i) Y=↑τ1/\((p i/\∃τ2,(body τ1=↑(.nx τ2)\/body τ1=↑(.ct τ2))/\I (i+1) τ2)\/(¬ p i/\body τ1=↑(.rt v)))) :
  ((∀i,i<n->p i)/\∃Y',Ao b body (mT n g) Y=↑(.nx Y')/\I n Y')\/((∃i,i<n/\¬ p i)/\Ao b body (mT n g) Y=↑(.rt v)):=by
 have:=zfc (b:=b) (body:=body) (ts:=mT n g) (Y:=Y) (λi Y=>(∀j,j<i->p j)/\I i Y) (λw=>w=v/\∃i,i<n/\¬ p i) {λj k=>by lia,o} λi t Y e d=>by
  let(h,rfl):=Ga e;let(τ1,m,q):=s i Y h d.1 d.2;refine{τ1,m,?_}
  rcases q with ⟨f,τ2,a,l⟩|⟨f,a⟩;refine .inl {τ2,a,λj k=>?_,l};rcases Nat.lt_succ_iff_lt_or_eq.mp k with q|rfl;exact d.1 j q;exact f;exact .inr {(v),a,rfl,i,h,f}
 rw[BQ]at this;rcases this with ⟨Y',e,r,c⟩|⟨w,e,rfl,c⟩;exact .inl {(r),Y',e,c};exact .inr {(c),e}
def Du{cs:AN}(d:∀i,i<n->me (↑(g i)::cs)=↑(.v (f i) false)):Bs (AD 0) (mC<|.bl true) me (mT n g) (x::cs)=↑(mT n f):=by
 have:=Ie (b:=AD 0) (ts:=mT n g) (λϊ Y=>∃y,Y=y::cs) f {(x),rfl} λi t Y e a=>by
  let(c,rfl):=Ga e;let(y,rfl):=a;exact{↑(g i)::cs,by simp[AD],d i c,_,rfl}
 rw[this,BQ];rfl
def Ge{u w f:Nat->T}  {cs:AN}(d:∀i,i<n->me (↑(u i)::↑(w i)::cs)=↑(.v (f i) false)):Bs (Au 2<|AL (AD 0)<|AL (AD 1) Aw) (mC<|.bl true) me (mT n λi=>.tup [u i,w i]) (x::y::cs)=↑(mT n f):=by
 have:=Ie (b:=Au 2<|AL (AD 0)<|AL (AD 1) Aw) (ts:=mT n λi=>.tup [u i,w i]) (λϊ Y=>∃x y,Y=x::y::cs) f {(x),y,rfl} λi t Y e a=>by
  let(c,rfl):=Ga e;let(x,y,rfl):=a;exact{↑(u i)::↑(w i)::cs,by rfl,d i c,_,_,rfl}
 rw[this,BQ];rfl
end
def bT:Db.B->T
 |none=>.non|some i=>.int i
def bE:bT none=.non:=rfl
def bD(i:Int):bT ↑i=.int i:=rfl
abbrev rT(n:Nat)(f:Nat->Db.B):T:=.lst<|mT n λj=>bT<|f j
abbrev zT(n:Nat)(f:Db.Z):T:=.lst<|mT n λi=>rT n<|f i
def EH(b:Db.B):(bT b).sh=true:=by cases b<;>rfl
def Sy(b:Db.B):(bT b).share=bT b:=by cases b<;>rfl
def zpx(b):Fit (bT b) 0:=by cases b<;>first|exact Fit.non 0|exact Fit.int _ 0
theorem znd(n:Nat)(f:Nat->Db.B):Fit (rT n f) 1:=Xj _ _ λi ϊ=>zpx _
theorem zT_fit(n:Nat)(f:Db.Z):Fit (zT n f) 2:=Xj _ _ λi ϊ=>znd n _
def Hh(p):GI (mT n λi=>.bl<|p i)=↑((List.range n).map p):=by
 unfold mT;generalize List.range n=l
 induction l with
 |nil=>rfl|cons x r a=>erw[Õ,GI,a]
def zpz(p):EI (.nd o .lst<|mT n λi=>.bl<|p i)=↑(.bl<|(List.range n).all p):=by
 unfold EI;erw[Hh];simp
def Lj(n)(f):(rT n f).share=rT n f:=by
 unfold T.share;rw[IE];erw[Sy]
def Pz(n)(f):(rT n f).sh=true:=by
 unfold T.sh;rw[CU λi=>EH _];rfl
def zg5(n)(f):(zT n f).share=zT n f:=by
 unfold T.share;rw[IE];erw[Lj]
def JS(n)(f):(zT n f).sh=true:=by
 unfold T.sh;rw[CU λi=>Pz n _];rfl
def Dl{n:Nat}(h:n<=100000):Bh n=true:=@decide_eq_true _ (Classical.propDecidable _) {by lia,by lia}
def IB:∀ys ,Dz (ys.map T.str)=↑ys
 |[]=>rfl|y::r=>by
  show(match Dz (r.map T.str) with|some l=>↑(y::l)|none=>none)=_;rw[IB r]
def AX:∀ys:kE,BP (ys.map T.str)=ys.map T.str
 |[]=>rfl|y::r=>by
  show T.str y::BP (r.map T.str)=_;rw[AX r];rfl
def AU:∀ys:kE,AV (ys.map T.str)=true
 |[]=>rfl|y::r=>by
  show(true && AV (r.map T.str))=true;rw[AU r];rfl
def CI(ys:kE):Prop:=∀y∈ys,PyData.strOk y=true
def Vb:∀ys:kE,Er (ys.map T.str)=true
 |[]=>rfl|y::r=>by
  show(true && Er (r.map T.str))=true;rw[Vb r];rfl
def YD:∀{ys},CI ys->PyData.canLayAll0 (Bn<|ys.map T.str)=true/\PyData.depthAll (Bn<|ys.map T.str)=0
 |[],ϊ=>{(rfl),rfl}|y::r,h=>by
  let(a,b):=YD λx d=>h x<|Ì _ d
  have c:=h y (Í ..);rw[Õ,Bn,PyData.canLayAll0,PyData.depthAll,a,b,T.data,PyData.canLay0,c,PyData.depth];simp
def KN(a:PyData.strOk x=true)(b:PyData.strOk y=true):Aq (.str x) (.str y)=↑(.bl<|decide (x=y)):=by
 have e:(x == y)=decide (x=y):=by rfl
 unfold Aq Gn E3 Iw;erw[T.data,T.pln,PyData.canLay0,PyData.depth,PyData.eqv,a,b,e];simp
theorem Fit.str(h:PyData.strOk x=true)(n):Fit (.str x) n:={by unfold E3;rw[T.data,PyData.canLay0,h];rfl,rfl,by simp[T.data,PyData.depth]}
def bL(x):∀ys:kE,((Bn<|ys.map T.str).any λy=>PyData.eqv y<|.str x)=decide (x∈ys)
 |[]=>by rfl|y::r=>by
  have e:(y == x)=decide (x=y):=by grind
  rw[Õ,Bn,List.any_cons,bL x r,T.data,PyData.eqv,e,ŏ,Ď,ë,ë,ë,Î]
def Il(h:CI ys)(c:PyData.strOk x=true):EG (.str x) (.nd o k<|ys.map T.str)=↑(.bl<|decide (x∈ys)):=by
 have ok:Im (.str x) (ys.map T.str)=true:=by
  let(a,b):=YD h;unfold Im E3;rw[Vb,a,b,T.data,PyData.canLay0,c];rfl
 unfold EG;simp only;rw[if_pos ok];unfold R8;rw[T.data,bL]
def low_mul{t b D L:Int}(f:0<b)(h:L * b=t * D):L * Zm.lb t b=Zm.lt t b * D:=by
 have c:=Zm.lt_mul (t:=t)<|show b≠0 by lia
 have d:=Zm.lb_mul (t:=t)<|show b≠0 by lia
 have e:=Zm.gd_pos (a:=t)<|show b≠0 by lia
 change Zm.lt t b=T1;change Zm.lb t b=B1;change Zm.gd t b=G;refine ŝ (show G≠0 by lia) ?_;rw[ö L,d,ö T1,ø D G,<- ö T1,c];exact h
end Pu
namespace Tx
open PySem PySem.NumText
abbrev cs(x:Str):kG:=x.cps.toList
def dg(n:Nat):Str:=Str.ofString<|toString ((n:Nat):Int)
section
variable {x y:Str}{c:Nat}(hA:∀k,(cs x)[k]?=↑c->StrLaws.At x y x.length k)
include hA
end
end Tx
namespace Hd
open PySem PySem.W PySem.Calls PyProof.Rows
def KD(st:SharedT->Thread->Option (SharedT×Thread))(ok:Thread->Bool):Nat->SharedT->Thread->Option SharedT
 |0=>λϊ ϊ=>none|n+1=>λs t=>bif through t then ↑s else bif ok t then (st s t).elim none λx=>KD st ok n x.1 x.2 else none
def zl8(n):∀(s) (t) (r),
  KD (stepT (denote tb) p w) (stepOk m ann) n s t=↑r->topRun tb p w m ann n s.abs t=↑r.abs:=by
 induction n with
 |zero=>intro s t r h;exact nomatch h
 |succ n d=>
  intro s t r h;rw[KD]at h;dsimp only at h;rw[topRun];cases a:through t with
  |true=>rw[a]at h;cases h;rfl|false=>
   rw[a]at h;cases b:stepOk m ann t with
   |false=>rw[b]at h;exact nomatch h
   |true=>
    rw[b]at h;cases c:stepT (denote tb) p w s t with
    |none=>rw[c]at h;exact nomatch h
    |some x=>rw[c]at h;rw[stepT_spec (s':=x.1) (t':=x.2) c];exact d _ _ _ h
def L3(p q:Program)(loose:kE)(Xt:Shared->Bool){α:Type}(Yf:Shared->α)(h:Heap)(s:Shared):=
 ((staticsOk (importedModules p.main.body) h s.heap && namesBound p s.heap && gensDone s && laidKept h s.heap),openSeen q loose (importedModules p.main.body) Xt true s,Yf s)
theorem zkw{Ya:World->α}{N M m:Nat}{bt:Params->BT}{l:Params->Life}{st:World->SharedT->Thread->Option (SharedT×Thread)}(d:∀w,stepT (denote treeTable) p w=st w)(hok:stepOk m ann=ok)
  (e:opening p=plainProg p.main.scope.names) (o:Nat.ble 600 N=true) (f:∀s,fenceModules? p s=↑s) (n:Nat.ble M N=true)
  (u:∀P,absHeap (bt P) m (l P)=boot_heap P) (v:∀P,(boot_heap P).isNs mainGlobals=true) (x:∀P,(boot_heap P).objs.size=m) (t:∀P,(boot_heap P).nsMap mainGlobals "__annotations__"=ann)
  (h:∀(w ) (os ),(KD (st w) ok M {bt w.params,m,l w.params,Array.mk [],boot_drawn,boot_toks,os}<|topStub p).map (λs=>L3 p q loose Xt Yf (boot_heap w.params) s.abs)=↑(true,openGood q loose,Ya w)) :
  LeftO p q loose Xt Yf Ya N true:=λw=>by
 let((A,z,y,B,os),c,i):=Ø.mp<|boot_open e o f w;erw[Prod.mk.injEq]at i;let(rfl,rfl,rfl,rfl):=i;let(T,g,j):=Ø.mp<|h w os;rw[<- d,<- hok]at g;have r:=topRun_mono (N - M) _ _ _ _<|zl8 _ _ _ _ g;rw[Nat.add_sub_cancel'<|Nat.le_of_ble_eq_true n]at r;have a:=congrArg Prod.fst j;have b:=congrArg Prod.snd j;erw[L3]at a b;erw[SharedT.abs,u]at r a b
 have k:topFrom treeTable p w N {boot_heap w.params,Array.mk [],boot_drawn,boot_toks,os}=↑T.abs:=by
  erw[topFrom,v,x,t,r];erw[ĵ];rw[a];rfl
 show((fencedOpening treeTable p w N).bind (topFrom treeTable p w N)).map _=_;rw[c];show(topFrom treeTable p w N _).map _=_;rw[k];exact congrArg some b
def en(P:Params)(x:String)(k:Nat)(v:Value):DictEntry:={PyData.keyHash P<|Str.ofString x,.str (Str.ofString x) k,v}
def bt(P:Params):BT:=((boot_heap P).objs.toList.foldl (λ(x:BT×Nat) o=>(x.1.ins x.2 o,x.2+1)) (BT.nil,0)).1
def bt_ok(P:Params):absHeap (bt P) 11 (boot_heap P).life=boot_heap P:=by ext
def zpy(P):(boot_heap P).nsMap mainGlobals "__annotations__"=↑(.ref 6):=by ext
def ns_ok(P:Params):(boot_heap P).isNs mainGlobals=true:=by ext
def sz_ok(P:Params):(boot_heap P).objs.size=11:=by ext
abbrev go(p:Program)(M:Nat)(w:World)(os:OsState):Option SharedT:=
 KD (Fast.tw10156331382660048174 (Fast.tw11892475500146522536 Fast.tw14364793385576792824) p w) (Fast.tw6613529449190102663 11<|↑(.ref 6)) M {bt w.params,11,(boot_heap w.params).life,Array.mk [],boot_drawn,boot_toks,os} (topStub p)
abbrev xt(r:RowW)(q:Program)(s:Shared):Bool:=xlAt q [] s && recOk r.records s
theorem zkx{Ya:World->α}(N M:Nat)
  (e:opening p=plainProg p.main.scope.names) (b:Nat.ble 600 N=true) (f:∀s,fenceModules? p s=↑s) (a:Nat.ble M N=true)
  (h:∀(w ) (os ),(go p M w os).map (λs=>L3 p q loose (xt r q) Yf (boot_heap w.params) s.abs)=↑(true,openGood q loose,Ya w)):LeftO p q loose (xt r q) Yf Ya N true:=
 zkw
  (λw=>by rw[Fast.te10156331382660048174,Fast.te11892475500146522536,Fast.te14364793385576792824]) (by rw[Fast.te6613529449190102663]) e b f a bt_ok ns_ok sz_ok zpy h
end Hd
set_option maxHeartbeats 4200000
namespace Zl
open PySem L2 Zw Zx Pu
noncomputable section
local macro_rules
  |`(tactic| simp![$as,*])=>do let y<-"mI mJ A9 L9 KJ GH AF AQ CY EM A8 AW Pd VB runM mMut HH Aa L8 BN Cg Fu HG Ft J5 Cw ET Lq AA mC AE AB Ah BZ m1 m2 AS EZ BI Bz BH AG Ed FR BG BM BJ BD g1 g2 AD Aw AL Au blk Md Io Bc HZ E1 Gh HY Mr Mq Hk Mp Ik Ak DQ BY BB Bt Eb KY FZ Ek BV Ec Bk T.isN T.isB Ap C9 Mt Ji Ly H9 HW č KA EI K1 Cb LL UB Hx LQ T.share BP T.sh AV T.flat Fi F6 K0 Õ Ő Þ Č List.replicate ċ Ũ Α List.getElem?_cons_zero Ŀ List.getElem?_nil List.set_cons_zero List.set_cons_succ ŧ nl0 nl1 nl2 nl3 nl4 nl5 nl6 nl7 nl8 nl9 Int.reduceBEq Nat.reduceBEq Nat.reduceAdd Nat.reduceSub Nat.reduceLT Nat.reduceLeDiff if_true if_false ite_true ite_false reduceIte Bool.not_true Bool.not_false ű Bool.true_and Bool.and_false Ŭ Bool.or_true Bool.true_or Bool.or_false Bool.false_or Bool.false_xor Bool.true_xor ġ ſ decide_true decide_false Î ĉ or_false or_true true_or and_true true_and and_self String.reduceEq String.reduceBEq beq_self_eq_true ne_eq not_false_eq_true not_true_eq_false zou zot EH Sy BQ IE Int.reduceLT Int.reduceAdd á IF zix CU implies_true forall_const bE bD Int.reduceEq Int.reduceNe RZ DN CN Ds DF IZ EN Fx J6 Jd ML Fg FV BA HQ Jn isXT L7 Kd.isLst".splitOn.mapM (λx=>do`(Lean.Parser.Tactic.simpLemma|$(Lean.mkCIdent (<-Lean.Macro.resolveGlobalName x.toName).head!.1):ident));`(tactic| simp only[$(⟨(Lean.Syntax.SepArray.ofElems (sep:=",") (y.toArray.map (·.raw)++as.elemsAndSeps.getSepElems)).elemsAndSeps⟩),*])
abbrev mI(i:Int):=mC<|.int i
abbrev mJ(i:Nat):=AB<|AA i
def AO(i:Nat):Stmt:=PySem.Challenge.pw_zonewalk_k52_good_times.main.body.getD i<|.Pass {0,0,0,0}
def zpr(s:Stmt)(j:Nat):Stmt:=match s with
 |.ClassDef ϊ ϋ ό a ύ ώ Ϗ ϐ ϑ ϒ ϓ=>a.getD j (.Pass {0,0,0,0})|ϊ=>.Pass {0,0,0,0}
def DM(i j:Nat):Stmt:=zpr (AO i) j
abbrev BX:Addr:=201
def Bb:kE:=["start","end","guard","noughts","sign"]
abbrev Av:Addr:=255
def Az:kE:=["watch_names","stays","door_list"]
def Ii:T:=(.nd false .rt [(.str "<"),(.str "<="),(.str ">"),(.str ">="),(.str "=")])
def MR:T:=(.nd false .rt [(.str "<"),(.str "<=")])
def MS:T:=(.int 7)
def MU:T:=(.int 64)
def MV:T:=(.int 200)
def Ij:T:=(.int 200)
def SQ:List<|Addr×Bool:=[(201,true),(255,false)]
abbrev Pa:Stmt:=AO 53
def RD:AH:=
 (AF (A8 (m2 (BV λi j=>decide (i<j)) (AA 1)<|m1 Ap<|AA 0) (AW<|AG (AA 0)<|AA 1) Aa)
 (AW<|mI 0))
def Eh:kL->Option Ru:=A9 2 2 RD
abbrev X1(s:Stmt):kE:=((CP s).names.filter λx=>x.2 == .local || x.2 == .cell).map (·.1)
abbrev fA(k n:Nat)(s:Stmt)(R:kL->Option Ru):Fn:={k,(X1 s).take n,R}
abbrev SF:=fA 1 2 Pa Eh
abbrev gA(s:Stmt)(k:Nat)(fs:List<|Str×Fn)(bl:kE)(ow:kE:=[])(ex:kE:=[])(ox:Gx:=DC)(mu:=false)(mc:List<|Str×Fn:=[])(mv:kE:=[])(dc:kE:=[])(N:=X1 s):Gm:={N,(CP s).names,N.filter λx=>(CP s).names.lookup x == ↑.cell,k,fs,bl,ex,ow,["_law_holds"],mu,mc,mv,dc,ox}
abbrev zcy:Gm:=gA Pa 0 [] ["len"]
theorem zd8:Ck zcy SF Pa RD:={}
def KQ(ns:kF){k:Int}(c:0<=k):Eh [Bw ns,.int k]=↑(.ok<|.int<|ns.getD k.toNat 0):=by
 unfold Eh RD;by_cases h:k<ns.length;have b:AM (ns.map T.int) k=↑(.int<|ns.getD k.toNat 0):=Hj c<|by simp_all
 have a:decide (k<(ns.map T.int).length)=true:=by simpa using h
 simp![Bw,ID,J4,a,b]
 have a:decide (k<(ns.map T.int).length)=false:=by simpa using h
 have e:ns.getD k.toNat 0=0:=by
  simp_all
 simp![Bw,ID,J4,a,e]
abbrev Oo:Stmt:=AO 32
def Qj:AH:=
 (AW<|m2 Aq (m1 JX<|AA 0)<|m1 Ap<|AA 0)
def JI:kL->Option Ru:=A9 1 1 Qj
abbrev M7:=fA 1 1 Oo JI
abbrev zbj:Gm:=gA Oo 0 [] ["len","set"]
theorem zbq:Ck zbj M7 Oo Qj:={}
def Xb{val:Nat->L2.Key}{n:Nat}(h:∀i j,i<n->j<n->val i=val j->i=j):∀k,k<=n->(met val k).length=k/\∀x∈met val k,∃i,i<k/\x=val i
 |0,ϊ=>{rfl,λx a=>by cases a}|k+1,hk=>by
  let(d,b):=Xb h k<|by lia
  have f:val k∉met val k:=λz=>by
   let(i,c,e):=b _ z;have:=h k i (by lia) (by lia) e
   lia
  have e:met val (k+1)=met val k++[val k]:=by
   conv=>lhs;unfold met
   lia
  rw[e];refine{by simp_all,λx a=>?_};rcases å.mp a with q|q;let(i,c,e):=b x q;exact{i,by lia,e};exact{k,by lia,Ô.mp q}
def zm1{ys:kE}(h:ys.Nodup):Nu ys=ys.length:=by
 refine(Xb (λi j b c e=>?_) ys.length<|Ç _).1;have a:=Sum.inr.inj e;rw[Ö,Ö,Á b,Á c]at a;exact(ĥ h).mp a
def Nv{ys:kE}(h:ys.Nodup)(a:ys.length<1000):JI [.lst<|ys.map T.str]=↑(.ok<|.bl true):=by
 have e:(ys.length == ys.length)=true:=í _;unfold JI Qj
 simp![JX,AX,IB,a,zm1 h,Dx,e,À]
abbrev O6:Stmt:=AO 23
def Q7:AH:=
 (AW<|Fg FV FV (mC<|.str "a") (AA 0)<|mC<|.str "z")
def K8:kL->Option Ru:=A9 1 1 Q7
abbrev Rt:=fA 1 1 O6 K8
abbrev za4:Gm:=gA O6 0 [] []
theorem za7:Ck za4 Rt O6 Q7:={}
def Ue{c:Nat}(f:97<=c)(g:c<=122):K8 [.str {#[c]}]=↑(.ok<|.bl true):=by
 have a:((Str.ofString "a").cps.toList)=[97]:=by rfl
 have b:((Str.ofString "z").cps.toList)=[122]:=by rfl
 have d:@decide (#[c].toList<(Str.ofString "a").cps.toList) (Classical.propDecidable _)=false:=@decide_eq_false _ (Classical.propDecidable _) (by
  rw[a];rw[List.cons_lt_cons_iff]
  simp_all)
 have e:@decide ((Str.ofString "z").cps.toList < #[c].toList) (Classical.propDecidable _)=false:=@decide_eq_false _ (Classical.propDecidable _) (by
  rw[b];rw[List.cons_lt_cons_iff]
  simp_all)
 unfold K8 Q7
 simp![d,e]
abbrev Oa:Stmt:=AO 24
def Sg:AJ:=
 (AS K8<|mJ 0 AE)
def Q9:AH:=
 (AW<|Bz (Fg FV FV (mI 1) (m1 Ap<|AA 0)<|mI 8)<|m1 EI<|BJ 1 [] (BA<|AA 0) (AD 0) (mC<|.bl true) Sg)
def K9:kL->Option Ru:=A9 1 1 Q9
abbrev Rv:=fA 2 1 Oa K9
abbrev zdn:Gm:=gA Oa 1 [("is_small_letter",Rt)] ["len","all"]
theorem zdx:Ck zdn Rv Oa Q9:={}
def FI(x:Str):Prop:=∀i,i<x.cps.size->97<=x.cps.getD i 0/\x.cps.getD i 0<=122
def Ui(x:Str):GV x=mT x.cps.size λi=>.str {#[x.cps.getD i 0]}:=by
 refine EX (by simp[GV]) λi a=>?_;unfold GV;simp_all
def XZ{x:Str}(h:FI x)(j:1<=x.cps.size)(k:x.cps.size<=8):K9 [.str x]=↑(.ok<|.bl true):=by
 have l1:x.cps.size<=100000:=by lia
 have e:=Du (n:=x.cps.size) (me:=Sg) (x:=none) (cs:=[]) (g:=λi=>.str {#[x.cps.getD i 0]}) (f:=λϊ=>.bl true) λi a=>by
  unfold Sg
  simp![Ue (h i a).1 (h i a).2]
 have c:decide (1<=(x.length:Int))=true:=É (by show 1<=(x.cps.size:Int);lia);have d:decide ((x.length:Int)<=8)=true:=É (by show(x.cps.size:Int)<=8;lia)
 have ll:x.length<=Bj:=by
  lia
 have b:((List.range x.cps.size).map λϊ=>true).all id=true:=by simp
 unfold K9 Q9
 simp![Ui,e,l1,c,d,ll,Hh,b]
abbrev O5:Stmt:=AO 25
def Q6:AH:=
 (AW<|Bz (m1 (Cb "str")<|AA 0)<|BH (m2 Aq (AA 0)<|mC<|.str "/")<|AS K9<|mJ 0 AE)
def K7:kL->Option Ru:=A9 1 1 Q6
abbrev Ro:=fA 3 1 O5 K7
abbrev zae:Gm:=gA O5 2 [("is_name",Rv)] ["isinstance","str"]
theorem zaj:Ck zae Ro O5 Q6:={}
def LZ{x:Str}(h:FI x):PyData.strOk x=true:=by
 unfold PyData.strOk;rw[Array.all_eq_true];intro i a;have:=(h i a).2;rw[Array.getD_eq_getD_getElem?,ŀ a]at this;rw[ë]
 lia
def JA(x:Str):Prop:=x=Str.ofString "/"\/(FI x/\1<=x.cps.size/\x.cps.size<=8)
def OL:PyData.strOk (Str.ofString "/")=true:=by decide +kernel
def Ks{x:Str}(h:JA x):PyData.strOk x=true:=by
 rcases h with rfl|h;exact OL;exact LZ h.1
def Th{x:Str}(h:JA x):K7 [.str x]=↑(.ok<|.bl true):=by
 have e:=KN (Ks h) OL;unfold K7 Q6;by_cases q:x=Str.ofString "/";rw[É q]at e
 simp![e]
 rw[Ù q]at e;have en:=XZ (h.resolve_left q).1 (h.resolve_left q).2.1 (h.resolve_left q).2.2
 simp![e,en]
abbrev Oh:Stmt:=AO 31
def Sj:AJ:=
 (AS K7<|mJ 0 AE)
def Qe:AH:=
 (AF (A8 (BH (BI<|m1 (Cb "list")<|AA 0)<|m2 (BV λi j=>decide (j<i)) (m1 Ap<|AA 0)<|mC MS) (Cw "BadMachine"<|AB (mC<|.str "a machine's watches are a list of at most seven") AE) Aa)
 (A8 (BH (BI<|m1 EI<|BJ 1 [] (BA<|AA 0) (AD 0) (mC<|.bl true) Sj)<|BI<|AS JI<|mJ 0 AE) (Cw "BadMachine"<|AB (mC<|.str "a machine's watches are unlike names") AE) Aa))
def NG:kL->Option Ru:=A9 1 1 Qe
abbrev Yx:=fA 4 1 Oh NG
abbrev zaa:Gx:={ DC with co:=[("MOST_WATCHES",MS)] }
abbrev zaf:Gm:=gA Oh 3 [("is_watch_name",Ro),("are_unlike",M7)] ["isinstance","list","len","all"] (ex:=["BadMachine"]) (ox:=zaa)
theorem zak:Ck zaf Yx Oh Qe:={}
theorem LS(ws:kE):ws.map T.str=mT ws.length λi=>.str<|ws.getD i Str.empty:=EX (by simp_all) λi a=>by
 simp_all
def cw_ok{ws:kE}(h:∀x∈ws,JA x)(hd:ws.Nodup)(j:ws.length<=7):NG [.lst<|ws.map T.str]=↑(.ok .non):=by
 have a:=Du (n:=ws.length) (me:=Sj) (x:=none) (cs:=[]) (g:=λi=>.str<|ws.getD i Str.empty) (f:=λϊ=>.bl true) λi e=>by
  have d:ws.getD i Str.empty∈ws:=by
   simp_all
  unfold Sj
  simp![Th<|h _ d]
 rw[<- LS]at a;have l1:ws.length<=100000:=by lia
 have c:decide (7<(ws.length:Int))=false:=Ù<|by lia
 have b:((List.range ws.length).map λϊ=>true).all id=true:=by simp
 have un:=Nv hd<|by lia
 unfold NG Qe MS
 simp![AX,AU,À,a,l1,c,Hh,b,un]
abbrev O8:Stmt:=AO 26
def Sf:AJ:=
 (BH (m2 Aq (AA 0)<|mC<|.str "/")<|AS K8<|mJ 0 AE)
def Q8:AH:=
 (AF (A8 (BH (BI<|m1 (Cb "str")<|AA 0)<|BI<|Fg FV FV (mI 1) (m1 Ap<|AA 0)<|mI 60) (AW<|mC<|.bl false) Aa)
 (AW<|m1 EI<|BJ 1 [] (BA<|AA 0) (AD 0) (mC<|.bl true) Sf))
def NB:kL->Option Ru:=A9 1 1 Q8
abbrev Ys:=fA 2 1 O8 NB
abbrev zar:Gm:=gA O8 1 [("is_small_letter",Rt)] ["isinstance","str","len","all"]
theorem zav:Ck zar Ys O8 Q8:={}
def rn_ok{x:Str}(h:FI x)(r:1<=x.cps.size)(s:x.cps.size<=60):NB [.str x]=↑(.ok<|.bl true):=by
 have l1:x.cps.size<=100000:=by lia
 have o:=Du (n:=x.cps.size) (me:=Sf) (x:=none) (cs:=[]) (g:=λi=>.str {#[x.cps.getD i 0]}) (f:=λϊ=>.bl true) λi a=>by
  have p:PyData.strOk (Str.mk #[x.cps.getD i 0])=true:=LZ λj l=>by
   have m:j<1:=l;have e:j=0:=by lia
   subst e;exact h i a
  have e:=KN p OL
  have n:¬ (Str.mk #[x.cps.getD i 0]=Str.ofString "/"):=λq=>by
   have b:(Str.ofString "/").cps=#[47]:=by decide +kernel
   have c:#[x.cps.getD i 0]=(Str.ofString "/").cps:=congrArg Str.cps q;rw[b]at c;have:=(h i a).1;have t:x.cps.getD i 0=47:=by simpa using c
   lia
  rw[Ù n]at e;unfold Sf
  simp![e,Ue (h i a).1 (h i a).2]
 have b:decide ((1:Int)<=(x.length:Int))=true:=É (by show(1:Int)<=((x.cps.size:Nat):Int);lia);have k:decide ((x.length:Int)<=60)=true:=É (by show((x.cps.size:Nat):Int)<=60;lia);have ll:x.length<=100000:=l1;have d:((List.range x.cps.size).map λϊ=>true).all id=true:=by simp
 unfold NB Q8
 simp![Ui,o,l1,b,k,ll,Hh,d]
abbrev O4:Stmt:=AO 7
def Xe:AH:=
 (AW<|Bz (m1 (Cb "int")<|AA 0)<|BI<|m1 (Cb "bool")<|AA 0)
def NA:kL->Option Ru:=A9 1 1 Xe
abbrev Rn:=fA 1 1 O4 NA
abbrev zcu:Gm:=gA O4 0 [] ["isinstance","int","bool"]
theorem zd4:Ck zcu Rn O4 Xe:={}
def ze6(i:Int):NA [.int i]=↑(.ok<|.bl true):=by rfl
abbrev O9:Stmt:=AO 16
def Xf:AH:=
 (AW<|Bz (AS NA<|mJ 0 AE)<|m2 (BV λi j=>decide (j<=i)) (AA 0)<|mI 0)
def TM:kL->Option Ru:=A9 1 1 Xf
abbrev Yt:=fA 2 1 O9 TM
abbrev zc6:Gm:=gA O9 1 [("is_whole",Rn)] []
theorem zcg:Ck zc6 Yt O9 Xf:={}
def zkg(i:Int):TM [.int i]=↑(.ok<|.bl<|decide (0<=i)):=by
 rfl
abbrev Oc:Stmt:=AO 15
def Qa:AH:=
 (AF (A8 (BH (BI<|m1 (Cb "tuple")<|AA 0)<|m2 CH (m1 Ap<|AA 0)<|mI 3) (AW<|mC<|.bl false) Aa)
 (AW<|Bz (m2 EG (AG (AA 0)<|mI 0)<|AA 1)<|Bz (m2 EG (AG (AA 0)<|mI 1)<|AA 2)<|AS TM<|AB (AG (AA 0)<|mI 2) AE))
def NC:kL->Option Ru:=A9 3 3 Qa
abbrev Yu:=fA 3 3 Oc NC
abbrev zdo:Gm:=gA Oc 2 [("is_number",Yt)] ["isinstance","tuple","len"]
theorem zdy:Ck zdo Yu Oc Qa:={}
def B5:kE:=["<","<=",">",">=","="]
def To:CI B5:=by unfold CI;decide +kernel
abbrev Od:Stmt:=AO 17
def Sh:AJ:=
 (AS NC<|mJ 0<|mJ 1<|mJ 2 AE)
def Qb:AH:=
 (AW<|Bz (m1 (Cb "list")<|AA 0)<|m1 EI<|BJ 1 [1,2] (BA<|AA 0) (AD 0) (mC<|.bl true) Sh)
def JH:kL->Option Ru:=A9 3 3 Qb
abbrev M6:=fA 4 3 Od JH
abbrev zcv:Gm:=gA Od 3 [("is_look",Yu)] ["isinstance","list","all"]
theorem zd5:Ck zcv M6 Od Qb:={}
abbrev Oi:Stmt:=AO 33
def Nd:AH:=
 (AF (A8 (BH (BI<|m1 (Cb "tuple")<|AA 2)<|m2 CH (m1 Ap<|AA 2)<|mI 2) (Cw "BadMachine"<|AB (mC<|.str "a room is a tuple of a name and a stay") AE) Aa)
 (A8 (BH (BI<|AS NB<|AB (AG (AA 2)<|mI 0) AE)<|BI<|AS JH<|AB (AG (AA 2)<|mI 1)<|mJ 1<|AB (mC MR) AE) (Cw "BadMachine"<|AB (mC<|.str "a room has a name, and a stay of the machine's watches") AE) Aa))
def Sk:AJ:=
 (AG (AA 0)<|mI 0)
def Qf:AH:=
 (AF (A8 (BH (BI<|m1 (Cb "list")<|AA 0)<|m2 Aq (m1 Ap<|AA 0)<|mI 0) (Cw "BadMachine"<|AB (mC<|.str "a machine's rooms are a list of one or more") AE) Aa)
 (AF (BN (BA<|AA 0) (AD 2) Nd)
 (A8 (BI<|AS JI<|AB (BJ 1 [] (BA<|AA 0) (AD 0) (mC<|.bl true) Sk) AE) (Cw "BadMachine"<|AB (mC<|.str "no two rooms have one name") AE) Aa)))
def NH:kL->Option Ru:=A9 2 3 Qf
abbrev Yy:=fA 5 2 Oi NH
abbrev zb0:Gx:={ DC with co:=[("STAY_WORDS",MR)] }
abbrev zb5:Gm:=gA Oi 4 [("is_room_name",Ys),("is_guard",M6),("are_unlike",M7)] ["isinstance","list","len","tuple"] (ex:=["BadMachine"]) (ox:=zb0) (N:=["rooms","watches","room"])
theorem zbb:Ck zb5 Yy Oi Qf:={}
def Ax(ws wd:kE)(l:kL):Prop:=∀t∈l,∃x y n,t=.tup [.str x,.str y,.int n]/\x∈ws/\y∈wd/\0<=n
def Ax.sh{ws wd:kE}{l:kL}(h:Ax ws wd l):AV l=true:=by
 rw[DV,Ú];intro t a;let(x,y,n,rfl,_):=h t a
 rfl
theorem Ax.more{ws vs wd:kE}{l:kL}(h:Ax ws wd l)(d:∀x∈ws,x∈vs):Ax vs wd l:=λt f=>by
 let(x,y,n,e,a,b,c):=h t f;exact{x,y,n,e,d x a,b,c}
abbrev Ju(wd:kE):T:=.nd false .rt<|wd.map T.str
def zks{ws wd:kE}(h:CI ws)(hd:CI wd){t:T}(g:∃x y n,t=.tup [.str x,.str y,.int n]/\x∈ws/\y∈wd/\0<=n):NC [t,.lst<|ws.map T.str,Ju wd]=↑(.ok<|.bl true):=by
 let(x,y,n,rfl,d,e,f):=g;have a:=Il (o:=false) (k:=.lst) h<|h x d;have b:=Il (o:=false) (k:=.rt) hd<|hd y e;have c:=zkg n;rw[É d]at a;rw[É e]at b;rw[É f]at c;unfold NC Qa
 simp![Fz,AX,AU,a,b,c]
def Ra{ws wd:kE}(h:CI ws)(hd:CI wd){l:kL}(o:l.length<=1000)(hk:Ax ws wd l):JH [.lst l,.lst<|ws.map T.str,Ju wd]=↑(.ok<|.bl true):=by
 have b:=hk.sh;have k:=AK l b;have j:=mT_of l .non
 have sg:∀i,(l.getD i .non).sh=true:=λi=>by
  by_cases a:i<l.length;rw[Ö,Á a];rw[DV,Ú]at b;exact b _<|Ï a
  rw[Ö,ā<|by lia];rfl
 have c:=Du (n:=l.length) (me:=Sh) (x:=none) (cs:=[↑(.lst<|ws.map T.str),↑(Ju wd)]) (g:=λi=>l.getD i .non) (f:=λϊ=>.bl true) λi a=>by
  have m:l.getD i .non∈l:=by
   rw[Ö,Á a];exact Ï a
  have e:=zks h hd<|hk _ m;unfold Sh
  simp![AX,AU,e,Cf _<|sg i,sg i]
 rw[<- j]at c;have l1:l.length<=100000:=by lia
 have d:((List.range l.length).map λϊ=>true).all id=true:=by simp
 unfold JH Qb
 simp![AX,AU,b,k,l1,c,Hh,d]
def DR:kE:=["<","<="]
def zp7:MR=Ju DR:=rfl
def YJ:Ii=Ju B5:=rfl
def st_tx:CI DR:=by unfold CI;decide +kernel
structure RsOk(ws:kE)(rs:List<|Str×kL):Prop where
 l1:1<=rs.length
 l64:rs.length<=64
 nm:∀r∈rs,FI r.1/\1<=r.1.cps.size/\r.1.cps.size<=60
 nd:(rs.map (·.1)).Nodup
 lk:∀r∈rs,Ax ws DR r.2/\r.2.length<=1000
abbrev B7(r:Str×kL):T:=.tup [.str r.1,.lst r.2]
abbrev C7(rs:List<|Str×kL):T:=.lst<|rs.map B7
def FQ{ws:kE}{rs:List<|Str×kL}(h:RsOk ws rs):AV (rs.map B7)=true:=by
 rw[DV,Ú];intro t b;let(r,a,rfl):=Ò.mp b;have:=(h.lk r a).1.sh;show((!false) && (true && (((!false) && AV r.2) && true)))=true
 lia
def zlm{ws:kE}(v:CI ws){rs:List<|Str×kL}(h:RsOk ws rs):NH [C7 rs,.lst<|ws.map T.str]=↑(.ok .non):=by
 have sr:=FQ h;have p:=AK _ sr;have s:=h.l1;have u:=h.l64;have en:(((rs.map B7).length:Int) == 0)=false:=by rw[ļ,À];lia
 let(Y,e,y,rfl):=Ef (b:=AD 2) (body:=Nd) (ts:=rs.map B7) (Y:=[↑(C7 rs),↑(.lst<|ws.map T.str),none]) (λi Y=>∃y,Y=[↑(C7 rs),↑(.lst<|ws.map T.str),y]) {_,rfl} λi t Y a d=>by
  let(y,rfl):=d;let(r,j,rfl):=Ò.mp<|ì a;let(x,z,A):=h.nm r j;let(c,w):=h.lk r j;have l:=rn_ok x z A;have m:=Ra v st_tx w c;have g:=c.sh;refine{[↑(C7 rs),↑(.lst<|ws.map T.str),↑(B7 r)],by simp![],[↑(C7 rs),↑(.lst<|ws.map T.str),↑(B7 r)],?_,_,rfl}
  unfold Nd
  simp![zp7,Fz,AX,AU,l,m,g,AK _ g]
 have k:=Ie (b:=AD 0) (me:=Sk) (ts:=rs.map B7) (Y:=[none]) (λϊ Y=>∃y,Y=[y]) (λi=>.str ((rs.map (·.1)).getD i Str.empty)) {(none),rfl} λi t Y a d=>by
  let(y,rfl):=d;have f:i<rs.length:=by simpa using (Ð.mp a).1
  rw[È,Á f]at a;have q:t=B7 rs[i]:=(Ü a).symm;subst q;have c:=(h.lk rs[i]<|Ï f).1.sh;have n:(rs.map (·.1)).getD i Str.empty=rs[i].1:=by simp[f]
  refine{[↑(B7 rs[i])],by simp![],?_,_,rfl};rw[n];unfold Sk
  simp![c]
 have o:(List.range (rs.map B7).length).map (λi=>T.str ((rs.map (·.1)).getD i Str.empty))=(rs.map (·.1)).map T.str:=by
  rw[LS (rs.map (·.1)),À,À];rfl
 rw[o]at k;have un:=Nv h.nd (by rw[À];lia)
 have ll:(rs.map B7).length<=100000:=by rw[À];lia
 unfold NH Qf
 simp![Dx,AX,AU,sr,p,en,e,k,un,ll]
abbrev Oq:Stmt:=AO 35
def Sn:AJ:=
 (AS K7<|mJ 0 AE)
def Sl:AJ:=
 (m2 EG (AA 0)<|AA 1)
def Qk:AH:=
 (AF (A8 (BH (BI<|m1 (Cb "list")<|AA 0)<|BI<|m1 EI<|BJ 1 [] (BA<|AA 0) (AD 0) (mC<|.bl true) Sn) (AW<|mC<|.bl false) Aa)
 (AW<|Bz (AS JI<|mJ 0 AE)<|m1 EI<|BJ 1 [1] (BA<|AA 0) (AD 0) (mC<|.bl true) Sl))
def NJ:kL->Option Ru:=A9 2 2 Qk
abbrev ZC:=fA 4 2 Oq NJ
abbrev zb7:Gm:=gA Oq 3 [("is_watch_name",Ro),("are_unlike",M7)] ["isinstance","list","all"]
theorem zbd:Ck zb7 ZC Oq Qk:={}
def zok{ws ns:kE}(c:∀x∈ws,JA x)(b:∀x∈ns,x∈ws)(hd:ns.Nodup)(l:ns.length<=100):NJ [.lst<|ns.map T.str,.lst<|ws.map T.str]=↑(.ok<|.bl true):=by
 have tw :=λx j=>Ks<|c x j
 have mem:∀i,i<ns.length->ns.getD i Str.empty∈ns:=λi a=>by
  simp_all
 have d:=Du (n:=ns.length) (me:=Sn) (x:=none) (cs:=[]) (g:=λi=>.str<|ns.getD i Str.empty) (f:=λϊ=>.bl true) λi a=>by
  unfold Sn
  simp![Th<|c _<|b _<|mem i a]
 have Ge:=Du (me:=Sl) (x:=none) (cs:=[↑(.lst<|ws.map T.str)]) (g:=λi=>.str<|ns.getD i Str.empty) (f:=λϊ=>.bl true) λi a=>by
  have e:=Il (o:=false) (k:=.lst) tw<|tw _<|b _<|mem i a;rw[É<|b _<|mem i a]at e;unfold Sl
  simp![AX,AU,e]
 rw[<- LS]at d Ge;have l1:ns.length<=100000:=by lia
 have h:((List.range ns.length).map λϊ=>true).all id=true:=by simp
 have un:=Nv hd<|by lia
 unfold NJ Qk
 simp![AX,AU,À,d,Ge,l1,Hh,h,un]
abbrev O7:Stmt:=AO 27
def MB:AH:=
 (AF (A8 (BI<|m1 (Cb "str")<|AA 0) (AW<|mC<|.bl false) Aa)
 (AW<|BH (m2 Aq (AA 0)<|mC<|.str "")<|Bz (m2 EG (AG (AA 0)<|m1 Ec<|mI 1)<|BM<|AB (mC<|.str "!")<|AB (mC<|.str "?") AE)<|AS K9<|AB (DF (Ed (AA 0) none<|↑(m1 Ec<|mI 1))<|Ew (AA 0) none<|↑(m1 Ec<|mI 1)) AE))
def JG:kL->Option Ru:=A9 1 1 MB
abbrev Yr:=fA 3 1 O7 JG
abbrev zdm:Gm:=gA O7 2 [("is_name",Rv)] ["isinstance","str"]
theorem zdw:Ck zdm Yr O7 MB:={}
def TH(z:Str):Prop:=z=Str.ofString ""\/z=Str.ofString "go!"\/z=Str.ofString "cut!"
def zmf{z:Str}(h:TH z):PyData.strOk z=true:=by
 rcases h with rfl|rfl|rfl<;>decide +kernel
def zmg{z:Str}(h:TH z):JG [.str z]=↑(.ok<|.bl true):=by
 have d:PyData.strOk (Str.ofString "")=true:=by decide +kernel
 have sm:∀x:Str,(x.cps.all λc=>decide (97<=c) && decide (c<=122))=true->FI x:=λx q i p=>by
  simp_all
 have o:EG (.str<|Str.mk #[33]) (.tup [.str<|Str.ofString "!",.str<|Str.ofString "?"])=↑(.bl true):=by ext
 have a:∀z y:Str,PyData.strOk z=true->z≠Str.ofString ""->z.length<=100000->AM z.cps.toList (-1)=↑33->Txt.slice z none (↑(-1))=y->FI y->1<=y.cps.size->y.cps.size<=8->JG [.str z]=↑(.ok<|.bl true):=by
  intro z y n b l k m f g j;have e:=KN n d;rw[Ù b]at e;have en:=XZ f g j;unfold JG MB
  simp![e,l,k,o,Ew,m,en,show(-(1:Int))=-1 from rfl]
 rcases h with rfl|rfl|rfl;have e:=KN d d;rw[É rfl]at e;unfold JG MB
 simp![e]
 exact a _ (Str.ofString "go") (by decide +kernel) (by decide +kernel) (by decide +kernel) (by decide +kernel) (by decide +kernel) (sm _<|by decide +kernel) (by decide +kernel)<|by decide +kernel
 exact a _ (Str.ofString "cut") (by decide +kernel) (by decide +kernel) (by decide +kernel) (by decide +kernel) (by decide +kernel) (sm _<|by decide +kernel) (by decide +kernel)<|by decide +kernel
abbrev Oj:Stmt:=AO 34
def Nf:AH:=
 (AF (A8 (BI<|m1 (Jz SQ)<|AA 3) (Cw "BadMachine"<|AB (mC<|.str "a machine's doors are doors") AE) Aa)
 (AF (A8 (BH (m2 HL (CN BX Bb 0<|AA 3)<|AA 1)<|m2 HL (CN BX Bb 1<|AA 3)<|AA 1) (Cw "BadMachine"<|AB (mC<|.str "a door leads from one room of the machine to another") AE) Aa)
 (AF (A8 (BI<|AS JH<|AB (CN BX Bb 2<|AA 3)<|mJ 2<|AB (mC Ii) AE) (Cw "BadMachine"<|AB (mC<|.str "a door's guard is one of the machine's watches") AE) Aa)
 (A8 (BH (BI<|AS NJ<|AB (CN BX Bb 3<|AA 3)<|mJ 2 AE)<|BI<|AS JG<|AB (CN BX Bb 4<|AA 3) AE) (Cw "BadMachine"<|AB (mC<|.str "a door sets watches of the machine, each once, and has at most one sign") AE) Aa))))
def Qg:AH:=
 (AF (A8 (BI<|m1 (Cb "list")<|AA 0) (Cw "BadMachine"<|AB (mC<|.str "a machine's doors are a list") AE) Aa)
 (BN (BA<|AA 0) (AD 3) Nf))
def NI:kL->Option Ru:=A9 3 4 Qg
abbrev Yz:=fA 5 3 Oj NI
abbrev zb1:Gx:={ DC with co:=[("WORDS",Ii)],cl:=[("Door",BX,Bb)],ci:=[("Door",SQ)] }
abbrev zb6:Gm:=gA Oj 4 [("is_guard",M6),("are_noughts",ZC),("is_sign",Yr)] ["isinstance","list"] (ex:=["BadMachine"]) (ox:=zb1)
theorem zbc:Ck zb6 Yz Oj Qg:={}
structure Dr where
 s:Str
 e:Str
 g:kL
 n:kE
 z:Str
abbrev kI:=List Dr
abbrev Ad(d:Dr):T:=.obj (.ins BX Bb) [.str d.s,.str d.e,.lst d.g,.lst<|d.n.map T.str,.str d.z]
structure DrOk(ws ns:kE)(d:Dr):Prop where
 s:d.s∈ns
 e:d.e∈ns
 g:Ax ws B5 d.g
 gl:d.g.length<=1000
 n:∀x∈d.n,x∈ws
 nd:d.n.Nodup
 nl:d.n.length<=100
 z:TH d.z
theorem DrOk.more{ws vs ns:kE}{d:Dr}(h:DrOk ws ns d)(a:∀x∈ws,x∈vs):DrOk vs ns d:={h.s,h.e,h.g.more a,h.gl,λx b=>a x<|h.n x b,h.nd,h.nl,h.z}
def KO{ws ns:kE}{d:Dr}(h:DrOk ws ns d):(Ad d).sh=true:=by
 have:=h.g.sh
 simp![this,AU]
def XQ{ys:kE}{x:Str}{o:Bool}{k:Kd}(h:CI ys)(a:PyData.strOk x=true):HL (.str x) (.nd o k<|ys.map T.str)=↑(.bl<|!decide (x∈ys)):=by
 have e:=Il (o:=o) (k:=k) h a;unfold EG at e;unfold HL;lia
def zlo{ws ns:kE}(j:∀x∈ws,JA x)(a:CI ns){ds:kI}(h:∀d∈ds,DrOk ws ns d):NI [.lst<|ds.map Ad,.lst<|ns.map T.str,.lst<|ws.map T.str]=↑(.ok .non):=by
 have tw:CI ws:=λx u=>Ks<|j x u
 have sd:AV (ds.map Ad)=true:=by
  rw[DV,Ú];intro t s;let(d,hd,rfl):=Ò.mp s;exact KO<|h d hd
 have p:=AK _ sd
 let(Y,e,y,rfl):=Ef (b:=AD 3) (body:=Nf) (ts:=ds.map Ad) (Y:=[↑(.lst<|ds.map Ad),↑(.lst<|ns.map T.str),↑(.lst<|ws.map T.str),none]) (λi Y=>∃y,Y=[↑(.lst<|ds.map Ad),↑(.lst<|ns.map T.str),↑(.lst<|ws.map T.str),y]) {_,rfl} λi t Y q r=>by
  let(y,rfl):=r;let(d,hd,rfl):=Ò.mp<|ì q;have k:=h d hd;have c:=XQ (o:=false) (k:=.lst) a<|a _ k.s;have f:=XQ (o:=false) (k:=.lst) a<|a _ k.e;rw[É k.s]at c;rw[É k.e]at f;have l:=Ra tw To k.gl k.g;have m:=zok j k.n k.nd k.nl;have n:=zmg k.z;have g:=k.g.sh;refine{[↑(.lst<|ds.map Ad),↑(.lst<|ns.map T.str),↑(.lst<|ws.map T.str),↑(Ad d)],by simp![],[↑(.lst<|ds.map Ad),↑(.lst<|ns.map T.str),↑(.lst<|ws.map T.str),↑(Ad d)],?_,_,rfl}
  have v:List.lookup BX SQ=↑true:=by decide +kernel
  unfold Nf
  simp![YJ,Jz,v,č,AX,AU,c,f,l,m,n,g,AK _ g]
 unfold NI Qg
 simp![AX,AU,sd,p,e]
abbrev Uq:Stmt:=DM 30 0
def So:AJ:=
 (AA 0)
def Ng:AH:=
 (J6 Av Az 1 0 (AA 4)<|m1 C9<|AA 5)
def Qo:AH:=
 (AF (HH<|AS NG<|mJ 1 AE)
 (AF (HH<|AS NH<|mJ 2<|mJ 1 AE)
 (AF (HH<|AS NI<|mJ 3<|AB (BJ 2 [] (BA<|AA 2) (Au 2<|AL (AD 0)<|AL (AD 1) Aw) (mC<|.bl true) So)<|mJ 1 AE)
 (AF (A8 (BH (m2 (BV λi j=>decide (j<i)) (m1 Ap<|AA 2)<|mC MU)<|m2 (BV λi j=>decide (j<i)) (m1 Ap<|AA 3)<|mC MV) (Cw "TooMany"<|AB (mC<|.str "a machine has at most 64 rooms and at most 200 doors") AE) Aa)
 (AF (EN Av Az 0 0<|m1 C9<|AA 1)
 (AF (EN Av Az 1 0 ML)
 (AF (BN (BA<|AA 2) (Au 2<|AL (AD 4)<|AL (AD 5) Aw) Ng)
 (EN Av Az 2 0<|m1 C9<|AA 3))))))))
def TN:kL->Option Ru:=El Av Az 4 6 Qo
abbrev Rz:Fn:={6,["self","watches","rooms","doors"],TN}
abbrev zaq:Gx:={ DC with co:=[("MOST_ROOMS",MU),("MOST_DOORS",MV)],sf:=↑(Av,Az) }
abbrev zat:Gm:=gA Uq 5 [("check_watches",Yx),("check_rooms",Yy),("check_doors",Yz)] ["len","list"] (ex:=["TooMany"]) (ox:=zaq) (N:=["self","watches","rooms","doors","name","stay"])
theorem zax:Ck zat Rz Uq Qo:={}
structure Mc where
 ws:kE
 rs:List (Str×kL)
 ds:kI
abbrev kJ:=List Mc
abbrev EW(M:Mc):T:=.obj (.ins Av Az) [.lst<|M.ws.map T.str,.obj (.sdc (M.rs.map (·.1)))<|M.rs.map λr=>.lst r.2,.lst<|M.ds.map Ad]
structure McOk(M:Mc):Prop where
 w:∀x∈M.ws,JA x
 wd:M.ws.Nodup
 wl:M.ws.length<=7
 r:RsOk M.ws M.rs
 d:∀d∈M.ds,DrOk M.ws (M.rs.map (·.1)) d
 dl:M.ds.length<=200
theorem McOk.tw{M:Mc}(h:McOk M):CI M.ws:=λx a=>Ks<|h.w x a
theorem McOk.tn{M:Mc}(h:McOk M):CI (M.rs.map (·.1)):=λx b=>by
 let(r,a,rfl):=Ò.mp b;exact LZ (h.r.nm r a).1
def McOk.sd{M:Mc}(h:McOk M):AV (M.ds.map Ad)=true:=by
 rw[DV,Ú];intro t a;let(d,hd,rfl):=Ò.mp a;exact KO<|h.d d hd
def McOk.ss{M:Mc}(h:McOk M):AV (M.rs.map λr=>T.lst r.2)=true:=by
 rw[DV,Ú];intro t b;let(r,a,rfl):=Ò.mp b;show((!false) && AV r.2)=true;rw[(h.r.lk r a).1.sh]
 rfl
def McOk.sh{M:Mc}(h:McOk M):(EW M).sh=true:=by
 simp![AU,h.ss,h.sd]
def zko{M:Mc}(h:McOk M):TN [.lst<|M.ws.map T.str,C7 M.rs,.lst<|M.ds.map Ad]=↑(.ok<|EW M):=by
 have w:=cw_ok h.w h.wd h.wl;have v:=zlm h.tw h.r;have cd:=zlo h.w h.tn h.d;have sr:=FQ h.r;have D:=AK _ sr;have sd:=h.sd;have A:=AK _ sd;have a:=h.r.l1;have F:=h.r.l64;have o:=h.dl
 have u:=Ie (b:=Au 2<|AL (AD 0)<|AL (AD 1) Aw) (me:=So) (ts:=M.rs.map B7) (Y:=[none,none]) (λϊ Y=>∃x y,Y=[x,y]) (λi=>.str ((M.rs.map (·.1)).getD i Str.empty)) {(none),none,rfl} λi t Y a k=>by
  let(x,y,rfl):=k;have c:i<M.rs.length:=by simpa using (Ð.mp a).1
  rw[È,Á c]at a;have f:t=B7 M.rs[i]:=(Ü a).symm;subst f;have B:(M.rs.map (·.1)).getD i Str.empty=M.rs[i].1:=by simp[c]
  refine{[↑(.str M.rs[i].1),↑(.lst M.rs[i].2)],by simp![],?_,_,_,rfl};rw[B];unfold So
  simp![]
 have C:(List.range (M.rs.map B7).length).map (λi=>T.str ((M.rs.map (·.1)).getD i Str.empty))=(M.rs.map (·.1)).map T.str:=by
  rw[LS (M.rs.map (·.1)),À,À];rfl
 rw[C]at u;have ll:(M.rs.map B7).length<=100000:=by rw[À];lia
 have g1:decide ((64:Int)<((M.rs.map B7).length:Int))=false:=Ù (by rw[À];lia);have g2:decide ((200:Int)<((M.ds.map Ad).length:Int))=false:=Ù (by rw[À];lia);refine Uw λp=>?_
 let(Y,e,x,y,rfl):=Ef (b:=Au 2<|AL (AD 4)<|AL (AD 5) Aw) (body:=Ng) (ts:=M.rs.map B7) (Y:=[↑(.oob p Av Az [.own<|M.ws.map T.str,.osd [] []]),↑(.lst<|M.ws.map T.str),↑(C7 M.rs),↑(.lst<|M.ds.map Ad),none,none])
  (λi Y=>∃x y,Y=[↑(.oob p Av Az [.own<|M.ws.map T.str,.osd ((M.rs.take i).map (·.1))<|(M.rs.take i).map λr=>.lst r.2]),↑(.lst<|M.ws.map T.str),↑(C7 M.rs),↑(.lst<|M.ds.map Ad),x,y]) {none,none,by rw[List.take_zero];rfl} λi t Y a k=>by
  let(x,y,rfl):=k;have c:i<M.rs.length:=by simpa using (Ð.mp a).1
  rw[È,Á c]at a;have f:t=B7 M.rs[i]:=(Ü a).symm;subst f;have s:=(h.r.lk _<|Ï c).1.sh
  have m:M.rs[i].1∉(M.rs.take i).map (·.1):=λq=>by
   rw[List.map_take]at q;let(j,G,n):=ņ.mp q;rw[Ă,À]at G;have l:=h.r.nd;rw[List.getElem_take]at n;have z:(M.rs.map (·.1))[j]'(by rw[À];lia)=(M.rs.map (·.1))[i]'(by rw[À];exact c):=by rw[n,Ķ]
   have:=(ĥ l).mp z;lia
  have d:((M.rs.take i).map (·.1)).length<100000:=by
   rw[À,Ă];lia
  have g:M.rs.take (i+1)=M.rs.take i++[M.rs[i]]:=by rw[Ş]
  refine{[↑(.oob p Av Az [.own<|M.ws.map T.str,.osd ((M.rs.take i).map (·.1))<|(M.rs.take i).map λr=>.lst r.2]),↑(.lst<|M.ws.map T.str),↑(C7 M.rs),↑(.lst<|M.ds.map Ad),↑(.str M.rs[i].1),↑(.lst M.rs[i].2)],by simp![],[↑(.oob p Av Az [.own<|M.ws.map T.str,.osd ((M.rs.take<|i+1).map (·.1))<|(M.rs.take<|i+1).map λr=>.lst r.2]),↑(.lst<|M.ws.map T.str),↑(C7 M.rs),↑(.lst<|M.ds.map Ad),↑(.str M.rs[i].1),↑(.lst M.rs[i].2)],?_,_,_,rfl};rw[g,â,â];unfold Ng
  simp![s,AK _ s,m,d]
 rw[À,Ŷ]at e;have E:=AK _ h.ss;unfold GX Qo MU MV
 simp![AX,AU,w,v,cd,sr,D,sd,A,u,ll,g1,g2,e,E]
def Yd{α A:Type}{b:T->AN->Option AN}{body:AH}(f:α->T)(S:List A->AN->Prop)(g:α->List A)(N:Nat):∀(L:List α) (a:List A) (Y:AN),S a Y->a.length+(L.flatMap g).length<=N->(∀x∈L,∀a Y,S a Y->a.length+(g x).length<=N->∃τ1,b (f x) Y=↑τ1/\∃τ2,body τ1=↑(.nx τ2)/\S (a++g x) τ2)->∃Y',Ao b body (L.map f) Y=↑(.nx Y')/\S (a++L.flatMap g) Y'
 |[],a,Y,h,ϊ,ϋ=>{Y,rfl,by simp_all}|x::L,a,Y,h,i,c=>by
  rw[List.flatMap_cons,à]at i;let(τ1,k,τ2,l,d):=c x (Í ..) a Y h<|by lia
  let(Y',e,m):=Yd f S g N L (a++g x) τ2 d (by rw[à];lia) λy j=>c y<|Ì _ j
  refine{Y',?_,by simp_all};rw[Õ];unfold Ao;lia
def Ea{α:Type}{f:α->T}{L:List α}(h:∀x∈L,(f x).sh=true):AV (L.map f)=true:=by
 rw[DV,Ú];intro t a;let(x,b,rfl):=Ò.mp a;exact h x b
def sq{f g:AH}{Y Y':AN}{r:Option Out}(h:f Y=↑(.nx Y'))(a:g Y'=r):AF f g Y=r:=by
 unfold AF;lia
def Mc.nm(M:Mc):kE:=M.rs.map (·.1)
def zop{α:Type}(l:List α)(c:l≠[])(i:Int):∃x∈l,AM l (i.fmod (l.length:Int))=↑x:=by
 have e:0<l.length:=List.length_pos_iff.mpr c;have b:=Ā i<|show(0:Int)<(l.length:Int) by lia
 have d:=Ĉ i<|show(0:Int)<(l.length:Int) by lia
 have a:(i.fmod (l.length:Int)).toNat<l.length:=by lia
 exact{l[(i.fmod (l.length:Int)).toNat],Ï a,Hj b<|Á a}
def Mn{α:Type}(f:α->T){l:List α}{i:Int}{x:α}(h:AM l i=↑x):AM (l.map f) i=↑(f x):=by
 unfold AM at h ⊢;cases a:CV l.length i with
 |none=>simp_all|some j=>simp_all
def zov{α:Type}{l:List α}(h:l≠[]):((l.length:Nat):Int)≠0:=λz=>h<|List.length_eq_zero_iff.mp<|Int.ofNat.inj z
def SK:PyData.strOk (Str.ofString "")=true:=by decide +kernel
def BF(M:Mc):T:=EW M
def G9{M:Mc}(h:McOk M):(BF M).sh=true:=h.sh
def Fo{f g:AH}{Y:AN}{r:Option Out}(h:f Y=↑(.nx Y))(a:g Y=r):AF f g Y=r:=sq h a
def sr{f g:AH}{Y:AN}{t:T}(h:f Y=↑(.rt t)):AF f g Y=↑(.rt t):=by
 unfold AF;rw[h]
def Jj(M:Mc):DN Av Az (BF M)=↑[.lst<|M.ws.map T.str,.obj (.sdc (M.rs.map (·.1)))<|M.rs.map λr=>.lst r.2,.lst<|M.ds.map Ad]:=(show DN Av Az (EW M)=(if Av=Av/\Az=Az then ↑[.lst<|M.ws.map T.str,.obj (.sdc (M.rs.map (·.1)))<|M.rs.map λr=>.lst r.2,.lst<|M.ds.map Ad] else none) from rfl).trans (if_pos {(rfl),rfl})
abbrev OV:Stmt:=AO 28
def QZ:AH:=
 (AW<|EZ (m1 (Cb "list")<|AA 0) (m1 C9<|AA 0)<|AA 0)
def K6:kL->Option Ru:=A9 1 1 QZ
abbrev Yl:=fA 1 1 OV K6
abbrev zcs:Gm:=gA OV 0 [] ["isinstance","list"]
theorem zd2:Ck zcs Yl OV QZ:={}
def Vr(l:kL)(h:AV l=true):K6 [.lst l]=↑(.ok<|.own l):=by
 unfold K6 QZ
 simp![h,AK _ h]
abbrev Ur:Stmt:=DM 29 0
def RF:AH:=
 (AF (EN BX Bb 0 0<|AA 1)
 (AF (EN BX Bb 1 0<|AA 2)
 (AF (EN BX Bb 2 0<|AS K6<|mJ 3 AE)
 (AF (EN BX Bb 3 0<|AS K6<|mJ 4 AE)
 (EN BX Bb 4 0<|AA 5)))))
def TR:kL->Option Ru:=El BX Bb 6 6 RF
abbrev SG:Fn:={2,["self","start","end","guard","noughts","sign"],TR}
abbrev zc0:Gx:={ DC with sf:=↑(BX,Bb) }
abbrev zc9:Gm:=gA Ur 1 [("own_copy",Yl)] [] (ox:=zc0)
theorem zcj:Ck zc9 SG Ur RF:={}
def di_ok{ws ns:kE}{d:Dr}(h:DrOk ws ns d):TR [.str d.s,.str d.e,.lst d.g,.lst<|d.n.map T.str,.str d.z]=↑(.ok<|Ad d):=by
 have a:=h.g.sh;have b:=Vr d.g a;have c:=Vr (d.n.map T.str)<|AU _;refine Uw λp=>?_
 unfold GX RF
 simp![b,c,a,AK _ a,AX,AU]
abbrev PY:Stmt:=AO 61
def Nm:AH:=
 (Cg 1<|IZ TR []<|AB (AG (AG (AA 3)<|AA 5)<|mI 0)<|AB (AG (AG (AA 3)<|AA 6)<|mI 0)<|AB (m1 C9<|AA 7)<|AB (m1 C9<|AA 8)<|mJ 9 AE)
def Ss:AJ:=
 (BM<|mJ 0<|AB (m1 C9<|AA 1) AE)
def Qz:AH:=
 (AF (AQ (AA 0)<|Au 3<|AL (AD 2)<|AL (AD 3)<|AL (AD 4) Aw)
 (AF (CY 1<|BG AE)
 (AF (BN (BA<|AA 4) (Au 5<|AL (AD 5)<|AL (AD 6)<|AL (AD 7)<|AL (AD 8)<|AL (AD 9) Aw) Nm)
 (AF (EM 1)<|AW<|IZ TN []<|AB (m1 C9<|AA 2)<|AB (BJ 2 [] (BA<|AA 3) (Au 2<|AL (AD 0)<|AL (AD 1) Aw) (mC<|.bl true) Ss)<|mJ 1 AE))))
def Kh:kL->Option Ru:=A9 1 10 Qz
abbrev ZQ:=fA 8 1 PY Kh
abbrev zhh:Gx:={ DC with nw:=[("Door",SG,[(5,[])]),("Machine",Rz,[(3,[])])] }
abbrev zhq:Gm:=gA PY 7 [] ["list"] ["_law_built"] (ox:=zhh) (N:=["_law_spec","_law_built","_law_watches","_law_rooms","_law_doors","_law_begin","_law_end","_law_guard_here","_law_noughts","_law_sign"])
theorem zi6:Ck zhq ZQ PY Qz:={}
structure Sd where
 b:Nat
 e:Nat
 g:kL
 n:kE
 z:Str
abbrev BU(d:Sd):T:=.tup [.int (d.b:Int),.int (d.e:Int),.lst d.g,.lst<|d.n.map T.str,.str d.z]
abbrev BE(ws:kE)(rs:List<|Str×kL)(dd:List Sd):T:=.tup [.lst<|ws.map T.str,C7 rs,.lst<|dd.map BU]
def De(rs:List<|Str×kL)(d:Sd):Dr:={(rs.getD d.b (Str.empty,[])).1,(rs.getD d.e (Str.empty,[])).1,d.g,d.n,d.z}
structure SpOk(ws:kE)(rs:List<|Str×kL)(dd:List Sd):Prop where
 r:RsOk ws rs
 b:∀d∈dd,d.b<rs.length/\d.e<rs.length
 d:∀d∈dd,DrOk ws (rs.map (·.1)) (De rs d)
 l:dd.length<=100
def SpOk.sd{ws:kE}{rs:List<|Str×kL}{dd:List Sd}(h:SpOk ws rs dd):AV (dd.map BU)=true:=by
 rw[DV,Ú];intro t b;let(d,hd,rfl):=Ò.mp b;have a:AV d.g=true:=(h.d d hd).g.sh
 simp![a,AU]
def J8{rs:List<|Str×kL}{i:Nat}(h:i<rs.length):AM (rs.map B7) (i:Int)=↑(.tup [.str (rs.getD i (Str.empty,[])).1,.lst (rs.getD i (Str.empty,[])).2]):=CW (by
 rw[È,Ö,Á h]
 rfl)
def made_ok{ws:kE}{rs:List<|Str×kL}{dd:List Sd}(h:SpOk ws rs dd)(w:McOk {ws,rs,dd.map<|De rs}):Kh [BE ws rs dd]=↑(.ok<|EW {ws,rs,dd.map<|De rs}):=by
 have sr:=FQ h.r;have G:=AK _ sr;have sd:=h.sd;have D:=AK _ sd;have K:=h.l
 let(Y,e,m,o,p,q,r,rfl):=Ef (b:=Au 5<|AL (AD 5)<|AL (AD 6)<|AL (AD 7)<|AL (AD 8)<|AL (AD 9) Aw) (body:=Nm) (ts:=dd.map BU) (Y:=[↑(BE ws rs dd),↑(.own []),↑(.lst<|ws.map T.str),↑(C7 rs),↑(.lst<|dd.map BU),none,none,none,none,none])
  (λi Y=>∃m o p q r,Y=[↑(BE ws rs dd),↑(.own<|((dd.take i).map (De rs)).map Ad),↑(.lst<|ws.map T.str),↑(C7 rs),↑(.lst<|dd.map BU),m,o,p,q,r]) {none,none,none,none,none,by rw[List.take_zero];rfl} λi t Y c l=>by
  let(m,o,p,q,r,rfl):=l;have a:i<dd.length:=by simpa using (Ð.mp c).1
  rw[È,Á a]at c;have f:t=BU dd[i]:=(Ü c).symm;subst f;have s:=h.b _<|Ï a;have hd:=h.d _<|Ï a;have d:=J8 s.1;have I:=J8 s.2;have z:=di_ok hd;have u:AV dd[i].g=true:=hd.g.sh
  have H:∀j,AV (rs.getD j (Str.empty,[])).2=true:=λj=>by
   by_cases v:j<rs.length;rw[Ö,Á v];exact(h.r.lk _<|Ï v).1.sh;rw[Ö,ā<|by lia];rfl
  have ll:(((dd.take i).map (De rs)).map Ad).length<100000:=by
   rw[À,À,Ă];lia
  have k:dd.take (i+1)=dd.take i++[dd[i]]:=by rw[Ş]
  refine{[↑(BE ws rs dd),↑(.own<|((dd.take i).map (De rs)).map Ad),↑(.lst<|ws.map T.str),↑(C7 rs),↑(.lst<|dd.map BU),↑(.int (dd[i].b:Int)),↑(.int (dd[i].e:Int)),↑(.lst dd[i].g),↑(.lst<|dd[i].n.map T.str),↑(.str dd[i].z)],by simp![],[↑(BE ws rs dd),↑(.own<|((dd.take<|i+1).map (De rs)).map Ad),↑(.lst<|ws.map T.str),↑(C7 rs),↑(.lst<|dd.map BU),↑(.int (dd[i].b:Int)),↑(.int (dd[i].e:Int)),↑(.lst dd[i].g),↑(.lst<|dd[i].n.map T.str),↑(.str dd[i].z)],?_,_,_,_,_,_,rfl};rw[k,â,â];unfold De at z;unfold Nm
  simp![sr,d,I,H,u,AK _ u,AX,AU,z,ll]
  rfl
 rw[À,Ŷ]at e
 have A:=Ie (b:=Au 2<|AL (AD 0)<|AL (AD 1) Aw) (me:=Ss) (ts:=rs.map B7) (Y:=[none,none]) (λϊ Y=>∃x y,Y=[x,y]) (λi=>B7<|rs.getD i (Str.empty,[])) {(none),none,rfl} λi t Y c l=>by
  let(x,y,rfl):=l;have a:i<rs.length:=by simpa using (Ð.mp c).1
  rw[È,Á a]at c;have f:t=B7 rs[i]:=(Ü c).symm;subst f;have d:=(h.r.lk _<|Ï a).1.sh;have E:rs.getD i (Str.empty,[])=rs[i]:=by simp[a]
  refine{[↑(.str rs[i].1),↑(.lst rs[i].2)],by simp![],?_,_,_,rfl};rw[E];unfold Ss
  simp![d,AK _ d]
 have F:(List.range (rs.map B7).length).map (λi=>B7<|rs.getD i (Str.empty,[]))=rs.map B7:=by
  rw[À];refine(EX (n:=rs.length) (g:=λi=>B7<|rs.getD i (Str.empty,[])) (by rw[À]) λi a=>?_).symm;rw[È,Ö,Á a];rfl
 rw[F]at A
 have ll:(rs.map B7).length<=100000:=by
  have:=h.r.l64;rw[À];lia
 have J:=zko w;have B:=w.sd;have C:=AK _ B;unfold Kh Qz
 simp![AX,AU,sr,G,sd,D,e,B,C,A,ll,J]
abbrev PV:Stmt:=AO 55
def Sr:AJ:=
 (AG (AA 2)<|m2 BB (m2 Bt (AA 1)<|m2 Ak (mI 6720)<|m2 BY (mI 31)<|AA 0)<|mI 26)
def LG:AH:=
 (AF (CY 7<|BJ 1 [0,2] (Bc<|mJ 3 AE) (AD 0) (mC<|.bl true) Sr)
 (AF (HG 7 (AA 4)<|AG (AA 2)<|m2 BB (m2 Ak (m2 Bt (AA 0)<|mI 6720)<|AA 6)<|mI 26)
 (Cg 5<|Jl (mC<|.str "")<|AA 7)))
def Qy:AH:=
 (AF (AQ (mC<|.str "abcdefghijklmnopqrstuvwxyz")<|AD 2)
 (AF (AQ (m2 Ak (mI 1)<|m2 BB (AA 0)<|mI 8)<|AD 3)
 (AF (AQ (m2 BB (m2 BB (m2 Bt (AA 0)<|mI 8)<|mI 840)<|AA 3)<|AD 4)
 (AF (CY 5<|BG AE)
 (AF (BN (Bc<|mJ 1 AE) (AD 6) LG)
 (AW<|AA 5))))))
def Kg:kL->Option Ru:=A9 2 8 Qy
abbrev ZO:=fA 1 2 PV Kg
abbrev zf7:Gm:=gA PV 0 [] ["range"] ["_law_word","_law_names_here"]
theorem zfm:Ck zf7 ZO PV Qy:={}
def Cn(c:Int):Nat:=(1+c.fmod 8).toNat
def G5(c:Int):Nat:=(((c.fdiv 8).fmod 840).fmod (1+c.fmod 8)).toNat
def Jh(c:Int):1<=Cn c/\Cn c<=8/\(1+c.fmod 8)=(Cn c:Int)/\((c.fdiv 8).fmod 840).fmod (1+c.fmod 8)=(G5 c:Int)/\G5 c<Cn c:=by
 have e:=Ā c<|show(0:Int)<8 by decide
 have g:=Ĉ c<|show(0:Int)<8 by decide
 have d:0<1+c.fmod 8:=by lia
 have f:=Ā ((c.fdiv 8).fmod 840) d;have h:=Ĉ ((c.fdiv 8).fmod 840) d;unfold Cn G5;change ((c.fdiv 8).fmod 840).fmod (1+c.fmod 8)=b;change c.fmod 8=a;refine{?_,?_,?_,?_,?_}<;>lia
def HS(c:Int)(j:Nat):Int:=(c.fdiv<|6720+31 * (j:Int)).fmod 26
def GA(c:Int)(k:Nat):Int:=(c.fdiv 6720+(k:Int)).fmod 26
def FT(c:Int)(k j:Nat):Nat:=if j=G5 c then 97+(GA c k).toNat else 97+(HS c j).toNat
def Cj(c:Int)(k:Nat):Str:={((List.range<|Cn c).map (FT c k)).toArray}
def HR(c:Int)(k j:Nat):(0<=HS c j/\HS c j<26)/\0<=GA c k/\GA c k<26:={{Ā _ (by decide),Ĉ _<|by decide},Ā _ (by decide),Ĉ _<|by decide}
def abc:(Str.ofString "abcdefghijklmnopqrstuvwxyz").cps.toList=(List.range 26).map (97 + ·):=by rfl
def bP{i:Int}(a:0<=i)(b:i<26):AM (Str.ofString "abcdefghijklmnopqrstuvwxyz").cps.toList i=↑(97+i.toNat):=by
 rw[abc];refine Hj a ?_;rw[È,ū<|by lia];rfl
def bO:(Str.ofString "abcdefghijklmnopqrstuvwxyz").length<=100000:=by decide +kernel
def YM:∀cs:kG,Str.join (Str.ofString "") (cs.map λc=>{#[c]})={(cs.toArray)}
 |[]=>rfl|[c]=>rfl|c::d::r=>by
  have a:=YM<|d::r;rw[Õ]at a;show Str.mk #[c]++Str.ofString ""++Str.join (Str.ofString "") ({#[d]}::r.map λc=>{#[c]})=_
  rw[a];have b:(Str.ofString "").cps=#[]:=by rfl
  show Str.mk ((#[c]++(Str.ofString "").cps)++(d::r).toArray)=Str.mk _;rw[b];simp
def zhb(cs:kG):Txt.join (Str.ofString "") (cs.map λc=>{#[c]})={(cs.toArray)}:=(eq_of_beq<|PyProof.Rows.join_plain_closes _ _).trans (YM cs)
def QL(c:Int)(k:Nat):(Cj c k).cps.size=Cn c:=by
 unfold Cj;simp
def X0{c:Int}{k i:Nat}(h:i<Cn c):(Cj c k).cps.getD i 0=FT c k i:=by
 unfold Cj;simp_all
theorem XY(c:Int)(k:Nat):FI<|Cj c k:=λi a=>by
 rw[QL]at a;rw[X0 a];let(b,d):=HR c k i;unfold FT
 lia
def zon{c:Int}{j k:Nat}(b:j<20)(hk:k<20)(h:Cj c j=Cj c k):j=k:=by
 let(d,f,ne,g,nl):=Jh c;have e:=congrArg (λs:Str=>s.cps.getD (G5 c) 0) h
 erw[X0 nl]at e;unfold FT at e;have s1:=(HR c j 0).2;have i:=(HR c k 0).2;have a:GA c j=GA c k:=by lia
 unfold GA at a;lia
def w5_ok{c:Int}{k m:Nat}(hk:k<20){l:kL}(A:l.length<1000){x7:kH}:∃y7,LG [↑(.int c),↑(.int m),↑(.str "abcdefghijklmnopqrstuvwxyz"),↑(.int<|1+c.fmod 8),↑(.int<|((c.fdiv 8).fmod 840).fmod (1+c.fmod 8)),↑(.own l),↑(.int k),x7]
  = ↑(.nx [↑(.int c),↑(.int m),↑(.str "abcdefghijklmnopqrstuvwxyz"),↑(.int<|1+c.fmod 8),↑(.int<|((c.fdiv 8).fmod 840).fmod (1+c.fmod 8)),↑(.own<|l++[.str<|Cj c k]),↑(.int k),y7]):=by
 let(B,C,ne,y,nl):=Jh c
 have v:=Du (n:=Cn c) (me:=Sr) (x:=none) (cs:=[↑(.int c),↑(.str "abcdefghijklmnopqrstuvwxyz")]) (g:=λi=>.int (i:Int)) (f:=λj=>.str {#[97+(HS c j).toNat]}) λj s=>by
  have m1:Bl 31 (j:Int)=true:=G7<|DJ (by decide)<|by decide
  have w:(6720+31 * (j:Int)=0)=False:=ą<|by lia
  have z:Bx (6720+31 * (j:Int))=true:=CZ (by lia)<|by lia
  have h:AM (Str.ofString "abcdefghijklmnopqrstuvwxyz").cps.toList ((c.fdiv<|6720+31 * (j:Int)).fmod 26)=↑(97+(HS c j).toNat):=bP (HR c 0 j).1.1 (HR c 0 j).1.2;unfold Sr
  simp![m1,w,z,h,bO]
 have ok:Bh (1+c.fmod 8)=true:=@decide_eq_true _ (Classical.propDecidable _) {by lia,by lia};have p:BW 0 (1+c.fmod 8).toNat=mT (Cn c) λi=>.int (i:Int):=Ci;have eb:AM (Str.ofString "abcdefghijklmnopqrstuvwxyz").cps.toList ((c.fdiv 6720+(k:Int)).fmod 26)=↑(97+(GA c k).toNat):=bP (HR c k 0).2.1 (HR c k 0).2.2;have s1:Bx 6720=true:=CZ (by decide)<|by decide
 have u:Cn c<=100000:=by lia
 have ex:CV (Cn c) (((c.fdiv 8).fmod 840).fmod (1+c.fmod 8))=↑(G5 c):=by
  rw[y];unfold CV;rw[if_pos (by lia),if_pos (by lia),á]
 have q:Dz (mT (Cn c) λj=>if j=G5 c then T.str {#[97+(GA c k).toNat]} else .str {#[97+(HS c j).toNat]})=↑(((List.range<|Cn c).map (FT c k)).map λc=>{#[c]}):=by
  rw[<- IB,û,û];refine congrArg Dz ?_;unfold mT;refine Ň λj s=>?_;show _=T.str {#[FT c k j]};unfold FT;split<;>rfl
 have o:=zhb<|(List.range<|Cn c).map (FT c k)
 have b:(((((List.range<|Cn c).map (FT c k)).map λc=>Str.mk #[c])).map (·.length)).sum+((((List.range<|Cn c).map (FT c k)).map λc=>Str.mk #[c])).length * (Str.ofString "").length<=100000:=by
  have e:(Str.ofString "").length=0:=by decide +kernel
  rw[e,Nat.mul_zero,Nat.add_zero,û]
  have:∀l:kG,(l.map ((·.length) ∘ λc=>Str.mk #[c])).sum=l.length:=by
   intro l
   induction l with
   |nil=>rfl|cons a r t=>rw[Õ,List.sum_cons,t,Þ];show 1+r.length=r.length+1;lia
  rw[this];simp;lia
 have ll:l.length<100000:=by lia
 have d:Str.mk ((List.range<|Cn c).map (FT c k)).toArray=Cj c k:=rfl;unfold LG;refine{↑(.own (mT (Cn c) λj=>if j=G5 c then T.str {#[97+(GA c k).toNat]} else .str {#[97+(HS c j).toNat]})),?_}
 simp![ok,p,v,u,eb,s1,bO,ex,IW,Jl,q,b,o,ll,d]
def X3(c:Int){m:Nat}(q:m<20):Kg [.int c,.int m]=↑(.ok<|.own<|mT m λk=>.str<|Cj c k):=by
 let(Y,e,s,u,rfl):=Ef (b:=AD 6) (body:=LG) (ts:=mT m λi=>.int (i:Int)) (Y:=[↑(.int c),↑(.int m),↑(.str "abcdefghijklmnopqrstuvwxyz"),↑(.int<|1+c.fmod 8),↑(.int<|((c.fdiv 8).fmod 840).fmod (1+c.fmod 8)),↑(.own []),none,none])
  (λi Y=>∃f a,Y=[↑(.int c),↑(.int m),↑(.str "abcdefghijklmnopqrstuvwxyz"),↑(.int<|1+c.fmod 8),↑(.int<|((c.fdiv 8).fmod 840).fmod (1+c.fmod 8)),↑(.own<|mT i λk=>.str<|Cj c k),f,a]) {none,none,by rfl} λi t Y n o=>by
   let(p,rfl):=Ga n;let(f,a,rfl):=o;let(r,d):=w5_ok (c:=c) (k:=i) (m:=m) (by lia) (l:=mT i λk=>.str<|Cj c k) (by rw[BQ];lia) (x7:=a)
   rw[IY (g:=λk=>.str<|Cj c k)]at d;exact{_,by simp![],_,d,_,_,rfl}
 rw[BQ]at e;have ok:Bh (m:Int)=true:=@decide_eq_true _ (Classical.propDecidable _) {by lia,by lia}
 have h:BW 0 m=mT m λi=>.int (i:Int):=Ci;have j:(1+c.fmod 8=0)=False:=ą<|by lia
 have s1:Bx 8=true:=CZ (by decide)<|by decide
 unfold Kg Qy
 simp![ok,h,e,j,s1]
abbrev PC:Stmt:=AO 54
def Nj:AH:=
 (AF (Cg 2<|m2 BB (AA 5)<|m2 Eb (mI 10)<|mI 45)
 (AQ (m2 Bt (AA 5)<|m2 Eb (mI 10)<|mI 45)<|AD 5))
def Ni:AH:=
 (AF (AQ (m2 BB (m2 Ak (m2 Ak (m2 BY (AA 3)<|AA 3)<|m2 BY (mI 48271)<|AA 3)<|AA 4)<|m2 Ak (m2 Eb (mI 10)<|mI 18)<|mI 9)<|AD 3)
 (Cg 2<|AA 3))
def MD:AH:=
 (AF (CY 2<|BG AE)
 (AF (A8 (m2 (BV λi j=>decide (j<=i)) (AA 0)<|m2 Eb (mI 10)<|mI 30) (AF (AQ (m2 DQ (AA 0)<|m2 Eb (mI 10)<|mI 30)<|AD 5)
 (AF (BN (Bc<|mJ 1 AE) (AD 4) Nj)
 (AW<|AA 2))) Aa)
 (AF (AQ (m2 Ak (m2 BB (AA 0)<|m2 Ak (m2 Eb (mI 10)<|mI 18)<|mI 9)<|mI 48271)<|AD 3)
 (AF (BN (Bc<|AB (m2 Ak (AA 1)<|mI 2) AE) (AD 4) Ni)
 (AF (EM 2)<|AW<|DF (Ed (AA 2) (↑(mI 2)) none)<|Ew (AA 2) (↑(mI 2)) none)))))
def FJ:kL->Option Ru:=A9 2 6 MD
abbrev KH:=fA 1 2 PC FJ
abbrev zdq:Gm:=gA PC 0 [] ["range"] ["_law_found"] (N:=["_law_cell","_law_many","_law_found","_law_number_here","_law_k","_law_rest"])
theorem ze0:Ck zdq KH PC MD:={}
def LW(c:Int){m:Nat}(A:m<=1000):∃xs:Nat->Int,FJ [.int c,.int m]=↑(.ok<|.own<|mT m λi=>.int<|xs i):=by
 have e:(0:Int)<=30/\(30:Int)<=1000000/\EO 10=true:={by decide,by decide,DJ (by decide)<|by decide};have q:(0:Int)<=45/\(45:Int)<=1000000/\EO 10=true:={by decide,by decide,DJ (by decide)<|by decide};have d:(0:Int)<=18/\(18:Int)<=1000000/\EO 10=true:={by decide,by decide,DJ (by decide)<|by decide};have t:Bx (10 ^ 45)=true:=CZ (by decide)<|by decide
 have u:((10:Int) ^ 45≠0)=True:=by simp
 have l:((10:Int) ^ 18+9≠0)=True:=by simp
 have s:(45:Int).toNat=45:=rfl;have k:(30:Int).toNat=30:=rfl;have f:(18:Int).toNat=18:=rfl
 by_cases h:(10:Int) ^ 30<=c
 have a:=FY (b:=AD 4) (body:=Nj) (n:=m) (g:=λi=>.int (i:Int)) (Y:=[↑(.int c),↑(.int m),↑(.own []),none,none,↑(.int<|c - 10 ^ 30)])
  (λi Y=>∃(xs:Nat->Int) (x:kH) (r:Int),Y=[↑(.int c),↑(.int m),↑(.own<|mT i λi=>.int<|xs i),none,x,↑(.int r)])
  {λϊ=>0,none,_,rfl} (by
   rintro i Y v ⟨xs,x,r,rfl⟩;refine{_,by simp![];rfl,?_};have l1:i<100000:=by lia
   refine{_,by unfold Nj;simp![q,t,u,s,l1];rfl,λj=>if j=i then r.fmod (10 ^ 45) else xs j,↑(.int (i:Int)),r.fdiv<|10 ^ 45,?_}
   rw[Xh T.int])
 let(w,o,xs,x,r,rfl):=a;refine{xs,?_};have p:Bh (m:Int)=true:=Dl<|by lia
 unfold FJ MD
 simp![e,k,h,p,Ci,o]
 have a:=FY (b:=AD 4) (body:=Ni) (n:=m+2) (g:=λi=>.int (i:Int)) (Y:=[↑(.int c),↑(.int m),↑(.own []),↑(.int<|c.fmod (10 ^ 18+9)+48271),none,none])
  (λi Y=>∃(xs:Nat->Int) (x:kH) (r:Int),0<=r/\r<2 * 10 ^ 18/\Y=[↑(.int c),↑(.int m),↑(.own<|mT i λi=>.int<|xs i),↑(.int r),x,none])
  {λϊ=>0,none,_,by rw[fm<|by decide];lia,by rw[fm<|by decide];lia,rfl} (by
   rintro i Y v ⟨xs,x,r,r0,r1,rfl⟩;refine{_,by simp![];rfl,?_};have l1:i<100000:=by lia
   have m1:Bl r r=true:=zkl (CZ (by lia)<|by lia)<|CZ (by lia)<|by lia
   have m2:Bl 48271 r=true:=G7<|DJ (by decide)<|by decide
   refine{_,by unfold Ni;simp![d,l,f,l1,m1,m2];rfl,λj=>if j=i then (r * r+48271 * r+i).fmod (10 ^ 18+9) else xs j,↑(.int (i:Int)),(r * r+48271 * r+i).fmod (10 ^ 18+9),by rw[fm<|by decide];lia,by rw[fm<|by decide];lia,?_}
   rw[Xh T.int])
 obtain⟨w,o,xs,x,r,-,-,rfl⟩:=a;refine{λi=>xs<|i+2,?_};have p:Bh ((m:Int)+2)=true:=Dl (n:=m+2)<|by lia
 have o2:((m:Int)+2).toNat=m+2:=by lia
 have ct:B0 (mT (m+2) λi=>.int<|xs i) ↑2 none=mT m λi=>.int<|xs<|i+2:=by
  unfold B0;have y:HT.sIx (mT (m+2) λi=>T.int<|xs i).length 0 ↑2=2:=by rw[BQ];simp[HT.sIx]
  have z:HT.sIx (mT (m+2) λi=>T.int<|xs i).length (mT (m+2) λi=>T.int<|xs i).length none=m+2:=by rw[BQ];rfl
  rw[y,z];refine EX (by simp[BQ]) λi v=>?_;rw[List.getElem?_take_of_lt (by lia),ŋ,Eu (by lia),Ŕ]
 unfold FJ MD
 simp![e,k,h,d,f,l,p,o2,Ci,o,ct]
abbrev PN:Stmt:=AO 56
def IU:AH:=
 (AW<|m2 Ak (m2 BY (AA 1)<|m2 BB (AA 0)<|mI 7)<|AG (BG<|Ah (mI 0)<|Ah (mI 0)<|Ah (mI 0)<|Ah (m2 Ak (mI 1)<|m2 BB (m2 Bt (AA 0)<|mI 28)<|mI 3) AE)<|m2 BB (m2 Bt (AA 0)<|mI 7)<|mI 4)
def Gq:kL->Option Ru:=A9 2 2 IU
abbrev SD:=fA 1 2 PN Gq
abbrev zdr:Gm:=gA PN 0 [] []
theorem ze1:Ck zdr SD PN IU:={}
def XM(x u:Int)(f:0<=u):∃n,0<=n/\Gq [.int x,.int u]=↑(.ok<|.int n):=by
 have e:0<=x.fmod 7/\x.fmod 7<7:=by
  rw[fm<|by decide];lia
 have g:0<=(x.fdiv 28).fmod 3:=by
  rw[fm (j:=3)<|by decide];lia
 have m1:Bl u (x.fmod 7)=true:=EV<|DJ (by lia)<|by lia
 have a:Bx 28=true:=CZ (by decide)<|by decide
 have b:Bx 7=true:=CZ (by decide)<|by decide
 have h:0<=u * x.fmod 7:=Int.mul_nonneg f e.1
 have c:∀{x y z v:T} {l:kL},AM (x::y::z::v::l) (3:Int)=↑v:=by
  intro x y z v l;have:AM (x::y::z::v::l) ((3:Nat):Int)=↑v:=CW rfl;exact this
 have d:(x.fdiv 7).fmod 4=0\/(x.fdiv 7).fmod 4=1\/(x.fdiv 7).fmod 4=2\/(x.fdiv 7).fmod 4=3:=by
  rw[fm (j:=4)<|by decide];lia
 rcases d with q|q|q|q;exact{u * x.fmod 7+0,by lia,by unfold Gq IU;simp![m1,a,b,q]};exact{u * x.fmod 7+0,by lia,by unfold Gq IU;simp![m1,a,b,q]};exact{u * x.fmod 7+0,by lia,by unfold Gq IU;simp![m1,a,b,q]};exact{u * x.fmod 7+(1+(x.fdiv 28).fmod 3),by lia,by unfold Gq IU;simp![m1,a,b,q,c]}
abbrev P5:Stmt:=AO 57
def Hw:AH:=
 (A8 (m2 CH (AA 2)<|BG AE) (AF (AQ (AG (BG<|Ah (mC<|.str "<")<|Ah (mC<|.str "<=")<|Ah (mC<|.str ">")<|Ah (mC<|.str ">=")<|Ah (mC<|.str ">=")<|Ah (mC<|.str "=") AE)<|m2 BB (m2 Bt (AG (AA 0)<|m2 Ak (mI 1)<|m2 BY (mI 2)<|AA 4)<|mI 8)<|mI 6)<|AD 5)
 (Cg 3<|BM<|AB (AG (AA 2)<|m2 BB (AG (AA 0)<|m2 Ak (mI 1)<|m2 BY (mI 2)<|AA 4)<|m1 Ap<|AA 2)<|mJ 5<|AB (AS Gq<|AB (AG (AA 0)<|m2 Ak (mI 2)<|m2 BY (mI 2)<|AA 4)<|mJ 1 AE) AE)) Aa)
def IV:AH:=
 (AF (CY 3<|BG AE)
 (AF (BN (Bc<|AB (AG (BG<|Ah (mI 0)<|Ah (mI 1)<|Ah (mI 1)<|Ah (mI 2) AE)<|m2 BB (AG (AA 0)<|mI 0)<|mI 4) AE) (AD 4) Hw)
 (AW<|AA 3)))
def Gr:kL->Option Ru:=A9 3 6 IV
abbrev SE:=fA 2 3 P5 Gr
abbrev zfa:Gm:=gA P5 1 [("_law_number",SD)] ["range","len"] ["_law_guard_here"]
theorem zfp:Ck zfa SE P5 IV:={}
def X2{ws:kE}(h:CI ws):CH (.lst<|ws.map T.str) (.lst [])=↑(.bl<|!ws.isEmpty):=by
 have c:Fit (.lst<|ws.map T.str) 1:=Fit.nd λt b=>by
  let(x,f,rfl):=Ò.mp b;exact Fit.str (h x f) _
 have d:Fit (.lst []) 1:=Fit.nd λt b=>by cases b
 have e:=(Za c d<|by decide).2;rw[e];cases ws with
 |nil=>simp_all|cons a r=>simp[T.data,Bn]
def JT:kE:=["<","<=",">",">=",">=","="]
def zlz:∀y∈JT,y∈B5:=by decide +kernel
def J2{ys:kE}{i:Int}(b:0<=i)(c:i<ys.length):AM (ys.map T.str) i=↑(.str<|ys.getD i.toNat Str.empty)/\ys.getD i.toNat Str.empty∈ys:=by
 have a:i.toNat<ys.length:=by lia
 rw[Ö,Á a];exact{Hj b (by rw[È,Á a];rfl),Ï a}
def G8(x:Int){n:Nat}(h:1<=n):0<=x.fmod n/\x.fmod n<(n:Int):=by
 rw[fm<|by lia];exact{Int.emod_nonneg _ (by lia),Int.emod_lt_of_pos _<|by lia}
def zla{xs:Nat->Int}{u:Int}(v:0<=u){ws:kE}(w:CI ws){l:kL}(h:Ax ws B5 l){k:Nat}(hk:k<2)(z:l.length<=k){x5:kH}:∃l' y5,Hw [↑(.lst<|mT 5 λi=>.int<|xs i),↑(.int u),↑(.lst<|ws.map T.str),↑(.own l),↑(.int k),x5]
  = ↑(.nx [↑(.lst<|mT 5 λi=>.int<|xs i),↑(.int u),↑(.lst<|ws.map T.str),↑(.own l'),↑(.int k),y5])/\Ax ws B5 l'/\l'.length<=k+1:=by
 have en:=X2 w;cases b:ws.isEmpty with
 |true=>
  rw[b]at en;refine{l,x5,?_,h,by lia};unfold Hw
  simp![AX,AU,en]
 |false=>
  rw[b]at en
  have s:1<=ws.length:=by
   cases ws with
   |nil=>cases b|cons a r=>simp
  have m2:Bl 2 (k:Int)=true:=G7<|DJ (by decide)<|by decide
  have m:AM (mT 5 λi=>T.int<|xs i) (1+2 * (k:Int))=↑(.int<|xs<|1+2 * k):=by
   have:=BO (n:=5) (g:=λi=>T.int<|xs i) (k:=1+2 * k)<|by lia
   simpa using this
  have o:AM (mT 5 λi=>T.int<|xs i) (2+2 * (k:Int))=↑(.int<|xs<|2+2 * k):=by
   have:=BO (n:=5) (g:=λi=>T.int<|xs i) (k:=2+2 * k)<|by lia
   simpa using this
  have f:=G8 ((xs<|1+2 * k).fdiv 8) (n:=6)<|by decide
  let(p,q):=J2 (ys:=JT) f.1 f.2;have d:AM [T.str<|Str.ofString "<",.str<|Str.ofString "<=",.str<|Str.ofString ">",.str<|Str.ofString ">=",.str<|Str.ofString ">=",.str<|Str.ofString "="] (((xs<|1+2 * k).fdiv 8).fmod 6)=↑(.str<|JT.getD (((xs<|1+2 * k).fdiv 8).fmod 6).toNat Str.empty):=p;have j:=G8 (xs<|1+2 * k) s;let(c1,c2):=J2 (ys:=ws) j.1 j.2;let(n,x,e):=XM (xs<|2+2 * k) u v;have y:Bx 8=true:=CZ (by decide)<|by decide
  have nw:((ws.length:Int)=0)=False:=ą<|by lia
  have ll:l.length<100000:=by lia
  refine{l++[.tup [.str<|ws.getD ((xs<|1+2 * k).fmod ws.length).toNat Str.empty,.str<|JT.getD (((xs<|1+2 * k).fdiv 8).fmod 6).toNat Str.empty,.int n]],↑(.str<|JT.getD (((xs<|1+2 * k).fdiv 8).fmod 6).toNat Str.empty),?_,λt c=>?_,by rw[à,Þ,Č];lia};unfold Hw
  simp![AX,AU,À,en,m2,m,o,d,c1,e,y,nw,ll]
  rcases å.mp c with c|c;exact h t c;rw[Ô.mp c];exact{_,_,_,rfl,c2,zlz _ q,x}
def Y7{xs:Nat->Int}{u:Int}(w:0<=u){ws:kE}(A:CI ws):∃l,Gr [.lst<|mT 5 λi=>.int<|xs i,.int u,.lst<|ws.map T.str]=↑(.ok<|.own l)/\Ax ws B5 l/\l.length<=2:=by
 have go:∀n:Nat,n<=2->∃l d c,Ao (AD 4) Hw (mT n λi=>.int (i:Int)) [↑(.lst<|mT 5 λi=>.int<|xs i),↑(.int u),↑(.lst<|ws.map T.str),↑(.own []),none,none]=↑(.nx [↑(.lst<|mT 5 λi=>.int<|xs i),↑(.int u),↑(.lst<|ws.map T.str),↑(.own l),d,c])/\Ax ws B5 l/\l.length<=n:=λn K=>by
  let(Y,e,l,d,c,rfl,a,f):=Ef (b:=AD 4) (body:=Hw) (ts:=mT n λi=>.int (i:Int)) (Y:=[↑(.lst<|mT 5 λi=>.int<|xs i),↑(.int u),↑(.lst<|ws.map T.str),↑(.own []),none,none])
   (λi Y=>∃l d c,Y=[↑(.lst<|mT 5 λi=>.int<|xs i),↑(.int u),↑(.lst<|ws.map T.str),↑(.own l),d,c]/\Ax ws B5 l/\l.length<=i) {[],none,none,rfl,λt s=>(by cases s),ù _} λi t Y a f=>by
    let(J,rfl):=Ga a;let(l,d,c,rfl,B,C):=f;let(F,I,p,D,E):=zla (xs:=xs) w A B (k:=i) (by lia) C (x5:=c)
    exact{_,by simp![],_,p,F,_,_,rfl,D,E}
  rw[BQ]at f;exact{(l),d,c,e,a,f}
 have r:(xs 0).fmod 4=0\/(xs 0).fmod 4=1\/(xs 0).fmod 4=2\/(xs 0).fmod 4=3:=by
  rw[fm (j:=4)<|by decide];lia
 have h:AM (mT 5 λi=>T.int<|xs i) 0=↑(.int<|xs 0):=BO (n:=5) (g:=λi=>T.int<|xs i) (k:=0)<|by lia
 have o:∀{x y z v:T} {l:kL},AM (x::y::z::v::l) (3:Int)=↑v:=by
  intro x y z v l;have:AM (x::y::z::v::l) ((3:Nat):Int)=↑v:=CW rfl;exact this
 have G:Bh 0=true:=@decide_eq_true _ (Classical.propDecidable _) {by decide,by decide};have m:Bh 1=true:=@decide_eq_true _ (Classical.propDecidable _) {by decide,by decide};have o2:Bh 2=true:=@decide_eq_true _ (Classical.propDecidable _) {by decide,by decide};have r0:BW 0 (0:Int).toNat=mT 0 λi=>.int (i:Int):=Ci;have r1:BW 0 (1:Int).toNat=mT 1 λi=>.int (i:Int):=Ci;have H:BW 0 (2:Int).toNat=mT 2 λi=>.int (i:Int):=Ci;rcases r with q|q|q|q;let(l,d,c,e,a,f):=go 0<|by decide
 exact{l,by unfold Gr IV;simp![AX,AU,h,q,G,r0,e],a,by lia};let(l,d,c,e,a,f):=go 1<|by decide
 exact{l,by unfold Gr IV;simp![AX,AU,h,q,m,r1,e],a,by lia};let(l,d,c,e,a,f):=go 1<|by decide
 exact{l,by unfold Gr IV;simp![AX,AU,h,q,m,r1,e],a,by lia};let(l,d,c,e,a,f):=go 2<|by decide
 exact{l,by unfold Gr IV;simp![AX,AU,h,q,o,o2,H,e],a,by lia}
abbrev P7:Stmt:=AO 59
def R6:AJ:=
 (m2 Aq (m2 BB (m2 Bt (m2 Bt (AG (AA 2)<|mI 7)<|m2 Eb (mI 2)<|mI 4)<|m2 Ak (AA 0)<|mI 1)<|mI 2)<|mI 1)
def Sv:AJ:=
 (AG (AA 1)<|AA 0)
def RB:AH:=
 (AF (AQ (AS FJ<|mJ 0<|AB (mI 9) AE)<|AD 4)
 (AF (AQ (BJ 1 [2,4] (Bc<|AB (m1 Ap<|AA 2) AE) (AD 0) R6 Sv)<|AD 5)
 (AF (AQ (AG (BG<|Ah (mC<|.str "")<|Ah (mC<|.str "")<|Ah (mC<|.str "")<|Ah (mC<|.str "go!") AE)<|m2 BY (m2 Bt (m2 BB (AG (AA 4)<|mI 8)<|mI 16)<|mI 12)<|m2 BB (m2 Bt (AG (AA 4)<|mI 8)<|mI 16)<|mI 4)<|AD 6)
 (AW<|BM<|AB (m2 BB (AG (AA 4)<|mI 0)<|AA 3)<|AB (m2 BB (AG (AA 4)<|mI 1)<|AA 3)<|AB (AS Gr<|AB (DF (Ed (AA 4) (↑(mI 2))<|↑(mI 7))<|Ew (AA 4) (↑(mI 2))<|↑(mI 7))<|mJ 1<|mJ 2 AE)<|mJ 5<|mJ 6 AE))))
def JM:kL->Option Ru:=A9 4 7 RB
abbrev ZW:=fA 3 4 P7 JM
abbrev zht:Gm:=gA P7 2 [("_law_stream",KH),("_law_guard",SE)] ["range","len"]
theorem zi9:Ck zht ZW P7 RB:={}
def MO{mt me:AJ}{cs:AN}{f:Nat->T}{p:Nat->Bool}:∀{l:kG} {x:kH},(∀i∈l,(∃b,mt (↑(.int (i:Int))::cs)=↑(.v (.bl<|p i) b))/\me (↑(.int (i:Int))::cs)=↑(.v (f i) false))->Bs (AD 0) mt me (l.map λi:Nat=>T.int (i:Int)) (x::cs)=↑((l.filter p).map f)
 |[],ϊ,ϋ=>rfl|i::r,x,h=>by
  let((b,c),d):=h i (Í ..);have g:=MO (x:=↑(.int (i:Int))) λj a=>h j<|Ì _ a
  unfold Bs;have eb:AD 0 (T.int (i:Int)) (x::cs)=↑(↑(.int (i:Int))::cs):=by simp[AD]
  cases e:p i with
  |true=>simp_all|false=>simp_all
def pN(y:Int)(i:Nat):Bool:=((y.fdiv 16).fdiv ((i:Int)+1)).fmod 2 == 1
def TJ(z:Str):Prop:=z=Str.ofString ""\/z=Str.ofString "go!"
abbrev Mv(ws:kE)(n:Nat)(d:Sd):Prop:=d.b<n/\d.e<n/\Ax ws B5 d.g/\d.g.length<=2/\(∀x∈d.n,x∈ws)/\d.n.Nodup/\d.n.length<=7/\TJ d.z
def zlj(c:Int){u:Int}(hu:0<=u){ws:kE}(hw:CI ws)(hd:ws.Nodup)(h7:ws.length<=7){m:Nat}(K:1<=m):∃d:Sd,JM [.int c,.int u,.lst<|ws.map T.str,.int m]=↑(.ok<|BU d)/\Mv ws m d:=by
 let(xs,A):=LW c (m:=9)<|by decide
 let(g,U,g1,g2):=Y7 (xs:=λi=>xs<|i+2) hu hw;have gs:=g1.sh;have w:∀k:Nat,k<9->AM (mT 9 λi=>T.int<|xs i) (k:Int)=↑(.int<|xs k):=λk hk=>BO hk
 have x0:=w 0<|by decide
 have x1:=w 1<|by decide
 have x7:AM (mT 9 λi=>T.int<|xs i) 7=↑(.int<|xs 7):=w 7<|by decide
 have x8:=w 8<|by decide
 have Q:B0 (mT 9 λi=>T.int<|xs i) ↑2 ↑7=mT 5 λi=>.int<|xs<|i+2:=by
  have R:HT.sIx 9 0 ↑2=2:=by decide
  have S:HT.sIx 9 9 ↑7=7:=by decide
  unfold B0;rw[BQ,R,S];refine EX (by rw[Ă,Ŏ,BQ];rfl) λi r=>?_;rw[List.getElem?_take,if_pos (by lia),ŋ,Eu (by lia),Ŕ]
 have t:=MO (mt:=R6) (me:=Sv) (cs:=[↑(.lst<|ws.map T.str),↑(.lst<|mT 9 λi=>.int<|xs i)]) (f:=λi=>.str<|ws.getD i Str.empty) (p:=pN<|xs 7) (l:=List.range ws.length) (x:=none) λi r=>by
  have Z:=è.mp r;have I:((2:Int) ^ (4:Int).toNat)=16:=rfl;have t4:(0:Int)<=4/\(4:Int)<=1000000/\EO 2=true:={by decide,by decide,DJ (by decide)<|by decide}
  have o:Bx 16=true:=CZ (by decide)<|by decide
  have si:Bx ((i:Int)+1)=true:=CZ (Int.lt_of_lt_of_le (b:=0) (by decide +kernel)<|by lia)<|Int.lt_trans (b:=9) (by lia)<|by decide +kernel
  have ni:((i:Int)+1=0)=False:=ą<|by lia
  have P:AM (ws.map T.str) (i:Int)=↑(.str<|ws.getD i Str.empty):=by
   have:=(J2 (ys:=ws) (i:=(i:Int)) (by lia)<|by lia).1;rwa[á]at this
  have s9:AV (mT 9 λi=>T.int<|xs i)=true:=IF _;constructor;refine{false,?_};unfold R6 pN
  simp![x7,I,t4,o,si,ni,Dx]
  unfold Sv
  simp![AU,P]
 have lm:(List.range ws.length).map (λi:Nat=>T.int (i:Int))=mT ws.length λi=>.int (i:Int):=rfl;rw[lm]at t
 have fs:((List.range ws.length).filter (pN<|xs 7)).map (λi=>T.str<|ws.getD i Str.empty)=(((List.range ws.length).filter (pN<|xs 7)).map λi=>ws.getD i Str.empty).map T.str:=by
  rw[û];rfl
 rw[fs]at t;have h:∀i∈(List.range ws.length).filter (pN<|xs 7),i<ws.length:=λi r=>è.mp (ķ.mp r).1
 have L:∀x∈((List.range ws.length).filter (pN<|xs 7)).map (λi=>ws.getD i Str.empty),x∈ws:=λx hx=>by
  let(i,r,rfl):=Ò.mp hx;have:=h i r;rw[Ö,Á this];exact Ï this
 have M:(((List.range ws.length).filter (pN<|xs 7)).map λi=>ws.getD i Str.empty).Nodup:=by
  rw[List.nodup_iff_pairwise_ne,List.pairwise_map];refine List.Pairwise.imp_of_mem ?_<|List.Pairwise.filter _<|List.nodup_range (n:=ws.length);intro a b X Y B e;have J:=h a X;have W:=h b Y;rw[Ö,Á J,Ö,Á W]at e;exact B<|(ĥ hd).mp e
 have N:(((List.range ws.length).filter (pN<|xs 7)).map λi=>ws.getD i Str.empty).length<=7:=by
  rw[À];have:=List.length_filter_le (pN<|xs 7)<|List.range ws.length;rw[Ċ]at this
  lia
 generalize ((List.range ws.length).filter (pN<|xs 7)).map (λi=>ws.getD i Str.empty)=ns at t L M N
 have m16:0<=(xs 8).fmod 16/\(xs 8).fmod 16<16:=by
  rw[fm<|by decide];lia
 have C:((xs 8).fmod 16).fdiv 12=0\/((xs 8).fmod 16).fdiv 12=1:=by
  rw[fd<|by decide];lia
 have D:((xs 8).fdiv 16).fmod 4=0\/((xs 8).fdiv 16).fmod 4=1\/((xs 8).fdiv 16).fmod 4=2\/((xs 8).fdiv 16).fmod 4=3:=by
  rw[fm (j:=4)<|by decide];lia
 have O:∀{x y z v:T} {l:kL},AM (x::y::z::v::l) (3:Int)=↑v:=by
  intro x y z v l;have:AM (x::y::z::v::l) ((3:Nat):Int)=↑v:=CW rfl;exact this
 have sg:∃z,TJ z/\AM [T.str<|Str.ofString "",.str<|Str.ofString "",.str<|Str.ofString "",.str<|Str.ofString "go!"] (((xs 8).fmod 16).fdiv 12 * ((xs 8).fdiv 16).fmod 4)=↑(.str z):=by
  rcases C with q|q<;>rcases D with p|p|p|p<;>rw[q,p];exact{_,.inl rfl,Fi};exact{_,.inl rfl,Fi};exact{_,.inl rfl,Fi};exact{_,.inl rfl,Fi};exact{_,.inl rfl,Fi};exact{_,.inl rfl,F6};exact{_,.inl rfl,K0};exact{_,.inr rfl,O}
 let(z,z1,z2):=sg;have mz:Bl (((xs 8).fmod 16).fdiv 12) (((xs 8).fdiv 16).fmod 4)=true:=EV<|DJ (by rcases D with p|p|p|p<;>lia) (by rcases D with p|p|p|p<;>lia)
 have o:Bx 16=true:=CZ (by decide)<|by decide
 have E:Bx 12=true:=CZ (by decide)<|by decide
 have h0:=G8 (xs 0) K;have J:=G8 (xs 1) K;have nm:((m:Int)=0)=False:=ą<|by lia
 have ok:Bh (ws.length:Int)=true:=Dl<|by lia
 have V:BW 0 ws.length=mT ws.length λi=>.int (i:Int):=Ci;have l7:ws.length<=100000:=by lia
 refine{{((xs 0).fmod m).toNat,((xs 1).fmod m).toNat,g,ns,z},?_,by show _<m;lia,by show _<m;lia,g1,g2,L,M,N,z1};have t0:(((xs 0).fmod m).toNat:Int)=(xs 0).fmod m:=by lia
 have t1:(((xs 1).fmod m).toNat:Int)=(xs 1).fmod m:=by lia
 have F:AM (mT 9 λi=>T.int<|xs i) 0=↑(.int<|xs 0):=x0;have G:AM (mT 9 λi=>T.int<|xs i) 1=↑(.int<|xs 1):=x1;have H:AM (mT 9 λi=>T.int<|xs i) 8=↑(.int<|xs 8):=x8;have s:FJ [.int c,.int 9]=↑(.ok<|.own<|mT 9 λi=>.int<|xs i):=A;show JM [.int c,.int u,.lst<|ws.map T.str,.int m]=↑(.ok<|.tup [.int (((xs 0).fmod m).toNat:Int),.int (((xs 1).fmod m).toNat:Int),.lst g,.lst<|ns.map T.str,.str z]);unfold JM RB
 simp![AX,AU,À,s,ok,V,l7,t,F,G,H,o,E,mz,z2,Q,U,gs,AK _ gs,nm,t0,t1]
abbrev PF:Stmt:=AO 58
def Ht:AH:=
 (A8 (m2 CH (AA 2)<|BG AE) (AF (AQ (m2 Ak (AS Gq<|AB (AG (AA 0)<|m2 Ak (mI 2)<|m2 BY (mI 2)<|AA 4)<|mJ 1 AE)<|m2 BY (AA 1)<|m2 DQ (mI 1)<|m2 Bt (m2 BB (m2 Bt (AG (AA 0)<|mI 0)<|mI 4)<|mI 16)<|mI 15)<|AD 5)
 (Cg 3<|BM<|AB (AG (AA 2)<|m2 BB (AG (AA 0)<|m2 Ak (mI 1)<|m2 BY (mI 2)<|AA 4)<|m1 Ap<|AA 2)<|AB (AG (BG<|Ah (mC<|.str "<")<|Ah (mC<|.str "<=") AE)<|m2 BB (m2 Bt (AG (AA 0)<|m2 Ak (mI 1)<|m2 BY (mI 2)<|AA 4)<|mI 8)<|mI 2)<|mJ 5 AE)) Aa)
def IS:AH:=
 (AF (CY 3<|BG AE)
 (AF (BN (Bc<|AB (AG (BG<|Ah (mI 0)<|Ah (mI 0)<|Ah (mI 1)<|Ah (mI 2) AE)<|m2 BB (AG (AA 0)<|mI 0)<|mI 4) AE) (AD 4) Ht)
 (AW<|AA 3)))
def Hn:kL->Option Ru:=A9 3 6 IS
abbrev ZJ:=fA 2 3 PF Hn
abbrev zhm:Gm:=gA PF 1 [("_law_number",SD)] ["range","len"] ["_law_stay_here"]
theorem zi2:Ck zhm ZJ PF IS:={}
def ziq{xs:Nat->Int}{u:Int}(q:0<=u){ws:kE}(A:CI ws){l:kL}(o:Ax ws DR l){k:Nat}(hk:k<2)(E:l.length<=k){x5:kH}:∃l' y5,Ht [↑(.lst<|mT 5 λi=>.int<|xs i),↑(.int u),↑(.lst<|ws.map T.str),↑(.own l),↑(.int k),x5]
  = ↑(.nx [↑(.lst<|mT 5 λi=>.int<|xs i),↑(.int u),↑(.lst<|ws.map T.str),↑(.own l'),↑(.int k),y5])/\Ax ws DR l'/\l'.length<=k+1:=by
 have en:=X2 A;cases b:ws.isEmpty with
 |true=>
  rw[b]at en;refine{l,x5,?_,o,by lia};unfold Ht
  simp![AX,AU,en]
 |false=>
  rw[b]at en
  have z:1<=ws.length:=by
   cases ws with
   |nil=>cases b|cons a r=>simp
  have m2:Bl 2 (k:Int)=true:=G7<|DJ (by decide)<|by decide
  have s:AM (mT 5 λi=>T.int<|xs i) 0=↑(.int<|xs 0):=BO (n:=5) (g:=λi=>T.int<|xs i) (k:=0)<|by lia
  have v:AM (mT 5 λi=>T.int<|xs i) (1+2 * (k:Int))=↑(.int<|xs<|1+2 * k):=by
   have:=BO (n:=5) (g:=λi=>T.int<|xs i) (k:=1+2 * k)<|by lia
   simpa using this
  have w:AM (mT 5 λi=>T.int<|xs i) (2+2 * (k:Int))=↑(.int<|xs<|2+2 * k):=by
   have:=BO (n:=5) (g:=λi=>T.int<|xs i) (k:=2+2 * k)<|by lia
   simpa using this
  have m:=G8 ((xs<|1+2 * k).fdiv 8) (n:=2)<|by decide
  let(x,y):=J2 (ys:=DR) m.1 m.2;have d:AM [T.str<|Str.ofString "<",.str<|Str.ofString "<="] (((xs<|1+2 * k).fdiv 8).fmod 2)=↑(.str<|DR.getD (((xs<|1+2 * k).fdiv 8).fmod 2).toNat Str.empty):=x;have p:=G8 (xs<|1+2 * k) z;let(c1,c2):=J2 (ys:=ws) p.1 p.2;let(n,F,e):=XM (xs<|2+2 * k) u q;have D:Bx 8=true:=CZ (by decide)<|by decide
  have C:Bx 4=true:=CZ (by decide)<|by decide
  have h:Bx 15=true:=CZ (by decide)<|by decide
  have nw:((ws.length:Int)=0)=False:=ą<|by lia
  have ll:l.length<100000:=by lia
  have f:0<=1 - (((xs 0).fdiv 4).fmod 16).fdiv 15/\1 - (((xs 0).fdiv 4).fmod 16).fdiv 15<=1:=by
   rw[fm (j:=16) (by decide),fd (j:=15)<|by decide];lia
  have mu:Bl u (1 - (((xs 0).fdiv 4).fmod 16).fdiv 15)=true:=EV<|DJ (by lia)<|by lia
  have B:0<=u * (1 - (((xs 0).fdiv 4).fmod 16).fdiv 15):=Int.mul_nonneg q f.1;refine{l++[.tup [.str<|ws.getD ((xs<|1+2 * k).fmod ws.length).toNat Str.empty,.str<|DR.getD (((xs<|1+2 * k).fdiv 8).fmod 2).toNat Str.empty,.int<|n+u * (1 - (((xs 0).fdiv 4).fmod 16).fdiv 15)]],↑(.int<|n+u * (1 - (((xs 0).fdiv 4).fmod 16).fdiv 15)),?_,λt c=>?_,by rw[à,Þ,Č];lia};unfold Ht
  simp![AX,AU,À,en,m2,s,v,w,d,c1,e,D,C,h,nw,ll,mu]
  rcases å.mp c with c|c;exact o t c;rw[Ô.mp c];exact{_,_,_,rfl,c2,y,by lia}
def sy_ex{xs:Nat->Int}{u:Int}(w:0<=u){ws:kE}(A:CI ws):∃l,Hn [.lst<|mT 5 λi=>.int<|xs i,.int u,.lst<|ws.map T.str]=↑(.ok<|.own l)/\Ax ws DR l/\l.length<=2:=by
 have go:∀n:Nat,n<=2->∃l d c,Ao (AD 4) Ht (mT n λi=>.int (i:Int)) [↑(.lst<|mT 5 λi=>.int<|xs i),↑(.int u),↑(.lst<|ws.map T.str),↑(.own []),none,none]=↑(.nx [↑(.lst<|mT 5 λi=>.int<|xs i),↑(.int u),↑(.lst<|ws.map T.str),↑(.own l),d,c])/\Ax ws DR l/\l.length<=n:=λn K=>by
  let(Y,e,l,d,c,rfl,a,f):=Ef (b:=AD 4) (body:=Ht) (ts:=mT n λi=>.int (i:Int)) (Y:=[↑(.lst<|mT 5 λi=>.int<|xs i),↑(.int u),↑(.lst<|ws.map T.str),↑(.own []),none,none])
   (λi Y=>∃l d c,Y=[↑(.lst<|mT 5 λi=>.int<|xs i),↑(.int u),↑(.lst<|ws.map T.str),↑(.own l),d,c]/\Ax ws DR l/\l.length<=i) {[],none,none,rfl,λt s=>(by cases s),ù _} λi t Y a f=>by
    let(J,rfl):=Ga a;let(l,d,c,rfl,B,C):=f;let(F,I,p,D,E):=ziq (xs:=xs) w A B (k:=i) (by lia) C (x5:=c)
    exact{_,by simp![],_,p,F,_,_,rfl,D,E}
  rw[BQ]at f;exact{(l),d,c,e,a,f}
 have r:(xs 0).fmod 4=0\/(xs 0).fmod 4=1\/(xs 0).fmod 4=2\/(xs 0).fmod 4=3:=by
  rw[fm (j:=4)<|by decide];lia
 have h:AM (mT 5 λi=>T.int<|xs i) 0=↑(.int<|xs 0):=BO (n:=5) (g:=λi=>T.int<|xs i) (k:=0)<|by lia
 have o:∀{x y z v:T} {l:kL},AM (x::y::z::v::l) (3:Int)=↑v:=by
  intro x y z v l;have:AM (x::y::z::v::l) ((3:Nat):Int)=↑v:=CW rfl;exact this
 have m:Bh 0=true:=@decide_eq_true _ (Classical.propDecidable _) {by decide,by decide};have G:Bh 1=true:=@decide_eq_true _ (Classical.propDecidable _) {by decide,by decide};have o2:Bh 2=true:=@decide_eq_true _ (Classical.propDecidable _) {by decide,by decide};have r0:BW 0 (0:Int).toNat=mT 0 λi=>.int (i:Int):=Ci;have r1:BW 0 (1:Int).toNat=mT 1 λi=>.int (i:Int):=Ci;have H:BW 0 (2:Int).toNat=mT 2 λi=>.int (i:Int):=Ci;rcases r with q|q|q|q;let(l,d,c,e,a,f):=go 0<|by decide
 exact{l,by unfold Hn IS;simp![AX,AU,h,q,m,r0,e],a,by lia};let(l,d,c,e,a,f):=go 0<|by decide
 exact{l,by unfold Hn IS;simp![AX,AU,h,q,m,r0,e],a,by lia};let(l,d,c,e,a,f):=go 1<|by decide
 exact{l,by unfold Hn IS;simp![AX,AU,h,q,G,r1,e],a,by lia};let(l,d,c,e,a,f):=go 2<|by decide
 exact{l,by unfold Hn IS;simp![AX,AU,h,q,o,o2,H,e],a,by lia}
abbrev PZ:Stmt:=AO 60
def Nn:AH:=
 (AF (AQ (AS FJ<|AB (m2 Ak (AS Eh<|mJ 0<|AB (m2 Ak (mI 2)<|AA 7) AE)<|AA 7)<|AB (mI 5) AE)<|AD 9)
 (Cg 6<|BM<|AB (AG (AA 5)<|AA 7)<|AB (AS Hn<|mJ 9<|mJ 3<|mJ 4 AE) AE))
def Su:AJ:=
 (AS JM<|mJ 0<|mJ 2<|mJ 3<|AB (m1 Ap<|AA 1) AE)
def RA:AH:=
 (AF (AQ (AS Eh<|mJ 0<|AB (mI 0) AE)<|AD 1)
 (AF (AQ (AS Eh<|mJ 0<|AB (mI 1) AE)<|AD 2)
 (AF (AQ (m2 Ak (mI 1)<|m2 BB (m2 Bt (AA 1)<|mI 4)<|AG (BG<|Ah (mI 1)<|Ah (mI 3)<|Ah (m2 Eb (mI 10)<|mI 15)<|Ah (m2 Eb (mI 10)<|mI 40) AE)<|m2 BB (AA 1)<|mI 4)<|AD 3)
 (AF (AQ (AS Kg<|AB (m2 Bt (AA 1)<|mI 16)<|AB (AG (BG<|Ah (mI 0)<|Ah (mI 1)<|Ah (mI 1)<|Ah (mI 2)<|Ah (mI 2)<|Ah (mI 2) AE)<|m2 BB (AA 2)<|mI 6) AE)<|AD 4)
 (AF (AQ (AS Kg<|AB (m2 Bt (AA 2)<|mI 24)<|AB (m2 Ak (mI 1)<|m2 BB (m2 Bt (AA 2)<|mI 6)<|mI 4) AE)<|AD 5)
 (AF (CY 6<|BG AE)
 (AF (BN (Bc<|AB (m1 Ap<|AA 5) AE) (AD 7) Nn)
 (AF (AQ (BJ 1 [5,3,4] (BA<|DF (Ed (AA 0) (↑(mI 6))<|↑(mI 12))<|Ew (AA 0) (↑(mI 6))<|↑(mI 12)) (AD 0) (mC<|.bl true) Su)<|AD 8)
 (AF (EM 6)<|AW<|BM<|mJ 4<|mJ 6<|mJ 8 AE)))))))))
def NR:kL->Option Ru:=A9 1 10 RA
abbrev ZR:=fA 4 1 PZ NR
abbrev zcw:Gm:=gA PZ 3 [("_law_cell_at",SF),("_law_names",ZO),("_law_stream",KH),("_law_stay",ZJ),("_law_door",ZW)] ["range","len"] ["_law_rooms"] (N:=["_law_script","_law_first","_law_second","_law_unit","_law_watches","_law_names_here","_law_rooms","_law_k","_law_doors","_law_xs"])
theorem zd6:Ck zcw ZR PZ RA:={}
structure DrwOk(ws:kE)(rs:List<|Str×kL)(dd:List Sd)(sz:Nat):Prop where
 w:∀x∈ws,FI x/\1<=x.cps.size/\x.cps.size<=8
 wd:ws.Nodup
 wl:ws.length<=2
 r1:1<=rs.length
 r4:rs.length<=4
 rn:∀r∈rs,FI r.1/\r.1.cps.size=sz
 sz:1<=sz/\sz<=8
 rd:(rs.map (·.1)).Nodup
 rl:∀r∈rs,Ax ws DR r.2/\r.2.length<=2
 dl:dd.length<=100
 d:∀d∈dd,Mv ws rs.length d
def zom(c:Int)(m:Nat):(mT m λk=>.str<|Cj c k)=((List.range m).map (Cj c)).map T.str:=by
 rw[û];rfl
def XX(c:Int){m:Nat}(j:m<20):((List.range m).map (Cj c)).Nodup:=by
 rw[List.nodup_iff_pairwise_ne,List.pairwise_map];refine List.Pairwise.imp_of_mem ?_<|List.nodup_range (n:=m);intro a b f g d e;have h:=è.mp f;have i:=è.mp g;exact d<|zon (by lia) (by lia) e
def zdl(ns:kF)(h:ns.length<=63):∃ws rs dd sz,NR [Bw ns]=↑(.ok<|BE ws rs dd)/\DrwOk ws rs dd sz:=by
 have c0:Eh [Bw ns,.int 0]=↑(.ok<|.int<|ns.getD 0 0):=KQ ns (k:=0)<|by decide
 have c1:Eh [Bw ns,.int 1]=↑(.ok<|.int<|ns.getD 1 0):=KQ ns (k:=1)<|by decide
 have ck:∀k:Nat,Eh [Bw ns,.int<|2+(k:Int)]=↑(.ok<|.int<|ns.getD (2+(k:Int)).toNat 0):=λk=>KQ ns<|by lia
 generalize ns.getD 0 0=x at c0;generalize ns.getD 1 0=y at c1;have a3 {x y z v:T} {l:kL}:AM (x::y::z::v::l) (3:Int)=↑v:=CW (j:=3) rfl;have a4 {x y z v w:T} {l:kL}:AM (x::y::z::v::w::l) (4:Int)=↑w:=CW (j:=4) rfl;have a5 {x y z v w t:T} {l:kL}:AM (x::y::z::v::w::t::l) (5:Int)=↑t:=CW (j:=5) rfl
 have q4:x.fmod 4=0\/x.fmod 4=1\/x.fmod 4=2\/x.fmod 4=3:=by
  rw[fm (j:=4)<|by decide];lia
 have eu:∃q:Int,0<q/\AM [T.int 1,.int 3,.int<|10 ^ 15,.int<|10 ^ 40] (x.fmod 4)=↑(.int q):=by
  rcases q4 with p|p|p|p<;>rw[p];exact{_,by decide,Fi};exact{_,by decide,F6};exact{_,by decide,K0};exact{_,by decide,a3}
 let(q,q0,eq):=eu
 have q6:y.fmod 6=0\/y.fmod 6=1\/y.fmod 6=2\/y.fmod 6=3\/y.fmod 6=4\/y.fmod 6=5:=by
  rw[fm (j:=6)<|by decide];lia
 have ew:∃m:Nat,m<=2/\AM [T.int 0,.int 1,.int 1,.int 2,.int 2,.int 2] (y.fmod 6)=↑(.int (m:Int)):=by
  rcases q6 with p|p|p|p|p|p<;>rw[p];exact{0,by decide,Fi};exact{1,by decide,F6};exact{1,by decide,K0};exact{2,by decide,a3};exact{2,by decide,a4};exact{2,by decide,a5}
 let(m,m2,em):=ew
 have en:∃n:Nat,1<=n/\n<=4/\1+(y.fdiv 6).fmod 4=(n:Int):=by
  refine{(1+(y.fdiv 6).fmod 4).toNat,?_};rw[fm (j:=4)<|by decide];lia
 let(n,n1,n4,en):=en
 have u0:0<=1+(x.fdiv 4).fmod q:=by
  rw[fm (j:=q) q0];have:=Int.emod_nonneg (x.fdiv 4)<|show q≠0 by lia
  lia
 have nw:=X3 (x.fdiv 16) (m:=m)<|by lia
 have V:=X3 (y.fdiv 24) (m:=n)<|by lia
 rw[zom]at nw V
 have A:∀z∈(List.range m).map (Cj<|x.fdiv 16),FI z/\1<=z.cps.size/\z.cps.size<=8:=λz J=>by
  let(k,_,rfl):=Ò.mp J;have:=Jh<|x.fdiv 16;rw[QL];exact{XY _ _,this.1,this.2.1}
 have C:=XX (x.fdiv 16) (m:=m)<|by lia
 have wln:((List.range m).map (Cj<|x.fdiv 16)).length=m:=by simp
 generalize (List.range m).map (Cj<|x.fdiv 16)=ws at nw A C wln;have tw:CI ws:=λz J=>LZ (A z J).1
 have L:∀z∈(List.range n).map (Cj<|y.fdiv 24),FI z/\z.cps.size=Cn (y.fdiv 24):=λz J=>by
  let(k,_,rfl):=Ò.mp J;exact{XY _ _,QL _ _}
 have K:=XX (y.fdiv 24) (m:=n)<|by lia
 have B:((List.range n).map (Cj<|y.fdiv 24)).length=n:=by simp
 generalize (List.range n).map (Cj<|y.fdiv 24)=zs at V L K B;generalize hu:1+(x.fdiv 4).fmod q=u at u0
 let(Y,e,rs,x7,M,rfl,o,I):=Ef (b:=AD 7) (body:=Nn) (ts:=mT n λi=>.int (i:Int)) (Y:=[↑(Bw ns),↑(.int x),↑(.int y),↑(.int u),↑(.lst<|ws.map T.str),↑(.lst<|zs.map T.str),↑(.own []),none,none,none])
  (λi Y=>∃(rs:List<|Str×kL) (x7 M:kH),Y=[↑(Bw ns),↑(.int x),↑(.int y),↑(.int u),↑(.lst<|ws.map T.str),↑(.lst<|zs.map T.str),↑(.own<|rs.map B7),x7,none,M]/\rs.map (·.1)=zs.take i/\∀r∈rs,Ax ws DR r.2/\r.2.length<=2) {[],none,none,rfl,by simp,λr a=>by cases a} λi t Y E P=>by
   let(G,rfl):=Ga E;let(rs,x7,M,rfl,k1,k2):=P;let(xs,es):=LW (ns.getD (2+(i:Int)).toNat 0+(i:Int)) (m:=5)<|by decide
   have O:FJ [.int<|ns.getD (2+(i:Int)).toNat 0+(i:Int),.int 5]=↑(.ok<|.own<|mT 5 λi=>.int<|xs i):=es;let(l,el,l1,l2):=sy_ex (xs:=xs) u0 tw;have ls:=l1.sh
   have lr:(rs.map B7).length<100000:=by
    have:=congrArg List.length k1;rw[À,Ă]at this;rw[À];lia
   have H:i<zs.length:=by lia
   have ai:AM (zs.map T.str) (i:Int)=↑(.str zs[i]):=CW (by rw[È,Á H];rfl);have s5:AV (mT 5 λi=>T.int<|xs i)=true:=IF _;refine{[↑(Bw ns),↑(.int x),↑(.int y),↑(.int u),↑(.lst<|ws.map T.str),↑(.lst<|zs.map T.str),↑(.own<|rs.map B7),↑(.int (i:Int)),none,M],by simp![],[↑(Bw ns),↑(.int x),↑(.int y),↑(.int u),↑(.lst<|ws.map T.str),↑(.lst<|zs.map T.str),↑(.own<|(rs++[(zs[i],l)]).map B7),↑(.int (i:Int)),none,↑(.lst<|mT 5 λi=>.int<|xs i)],?_,rs++[(zs[i],l)],_,_,rfl,?_,λr a=>?_};rw[â];unfold Nn
   simp![Ug,Uh,ck i,O,AX,AU,ai,el,ls,AK _ ls,lr]
   rw[â,k1,<- Ş H];rfl;rcases å.mp a with a|a;exact k2 r a;rw[Ô.mp a];exact{(l1),l2}
 rw[BQ,<- B,Ŷ]at o;have S:1<=zs.length:=by lia
 have Q:∀c:Int,∃d:Sd,JM [.int c,.int u,.lst<|ws.map T.str,.int zs.length]=↑(.ok<|BU d)/\Mv ws zs.length d:=λc=>zlj c u0 tw C (by lia) S;let(f,hf):=Classical.axiomOfChoice Q;have cl:=zll ns ↑6 ↑12;have cm:B0 (ns.map T.int) ↑6 ↑12=(B0 ns ↑6 ↑12).map T.int:=SS _ _ _ _;generalize B0 ns ↑6 ↑12=ks at cl cm
 have U:=Ie (b:=AD 0) (me:=Su) (ts:=ks.map T.int) (Y:=[none,↑(.lst<|zs.map T.str),↑(.int u),↑(.lst<|ws.map T.str)]) (λϊ Y=>∃x,Y=[x,↑(.lst<|zs.map T.str),↑(.int u),↑(.lst<|ws.map T.str)]) (λi=>BU<|f<|ks.getD i 0) {(none),rfl} λi t Y E P=>by
  let(x,rfl):=P;have G:i<ks.length:=by simpa using (Ð.mp E).1
  rw[È,Á G]at E
  have et:t=.int (ks.getD i 0):=by
   rw[Ö,Á G];exact(Ü E).symm
  subst et;have N:=(hf<|ks.getD i 0).1;refine{[↑(.int<|ks.getD i 0),↑(.lst<|zs.map T.str),↑(.int u),↑(.lst<|ws.map T.str)],by simp![],?_,_,rfl}
  unfold Su
  simp![AX,AU,À,N]
 have ee:(List.range (ks.map T.int).length).map (λi=>BU<|f<|ks.getD i 0)=(ks.map f).map BU:=by
  rw[À];refine(EX (n:=ks.length) (g:=λi=>BU<|f<|ks.getD i 0) (by simp) λi G=>?_).symm;rw[È,È,Ö,Á G];rfl
 rw[ee]at U
 have s:∀d∈ks.map f,Mv ws zs.length d:=λd hd=>by
  let(c,_,rfl):=Ò.mp hd;exact(hf c).2
 have F:(ks.map f).length<=100:=by
  rw[À];lia
 generalize ks.map f=dd at U s F;have zl:rs.length=zs.length:=by rw[<- o,À]
 have D:DrwOk ws rs dd<|Cn<|y.fdiv 24:=by
  refine{A,C,by lia,by lia,by lia,λr a=>L _<|o▸ň a,{(Jh _).1,(Jh _).2.1},by rw[o];exact K,I,F,λd hd=>?_};rw[zl];exact s d hd
 refine{ws,rs,dd,_,?_,D}
 have sr:AV (rs.map B7)=true:=by
  rw[DV,Ú];intro t R;let(r,a,rfl):=Ò.mp R;have:=(I r a).1.sh
  simp![this]
 have er:=AK _ sr
 have sd:AV (dd.map BU)=true:=by
  rw[DV,Ú];intro t R;let(d,hd,rfl):=Ò.mp R;have:=(s d hd).2.2.1.sh
  simp![this,AU]
 have N:=AK _ sd;have s4:Bx 4=true:=CZ (by decide)<|by decide
 have W:Bx 16=true:=CZ (by decide)<|by decide
 have X:Bx 24=true:=CZ (by decide)<|by decide
 have s6:Bx 6=true:=CZ (by decide)<|by decide
 have z15:((10:Int) ^ (15:Int).toNat)=10 ^ 15:=rfl;have z40:((10:Int) ^ (40:Int).toNat)=10 ^ 40:=rfl;have Z:(0:Int)<=15/\(15:Int)<=1000000/\EO 10=true:={by decide,by decide,DJ (by decide)<|by decide}
 have t40:(0:Int)<=40/\(40:Int)<=1000000/\EO 10=true:={by decide,by decide,DJ (by decide)<|by decide};have nq:(q=0)=False:=ą<|by lia
 have ok:Bh (zs.length:Int)=true:=Dl<|by lia
 have rg:BW 0 zs.length=mT n λi=>.int (i:Int):=by rw[B];exact Ci
 have kl:ks.length<=100000:=by lia
 unfold Bw at *;unfold NR RA
 simp![ID,J4,c0,c1,s4,W,X,s6,z15,z40,Z,t40,eq,nq,hu,em,nw,en,V,AX,AU,À,ok,rg,e,cm,U,kl,sr,er,sd,N,zgy]
abbrev Ot:Stmt:=DM 30 1
def Ql:AH:=
 (AW<|DF (m1 C9<|CN Av Az 0<|AA 0)<|Gb<|CN Av Az 0<|AA 0)
def JJ:kL->Option Ru:=A9 1 1 Ql
abbrev Rw:=fA 1 1 Ot JJ
abbrev za3:Gx:={ DC with cl:=[("Machine",Av,Az)] }
abbrev za5:Gm:=gA Ot 0 [] ["list"] (ox:=za3)
theorem za8:Ck za5 Rw Ot Ql:={}
def X5{M:Mc}(h:McOk M):JJ [EW M]=↑(.ok<|.own<|M.ws.map T.str):=by
 unfold JJ Ql
 simp![AX,AU,h.ss,h.sd,AK _ h.ss,AK _ h.sd]
abbrev Ou:Stmt:=DM 30 5
def Qm:AH:=
 (AW<|m2 Ak (HQ (CN Av Az 0<|AA 0)<|AA 1)<|mI 1)
def JK:kL->Option Ru:=A9 2 2 Qm
abbrev Rx:=fA 1 2 Ou JK
abbrev za0:Gx:={ DC with cl:=[("Machine",Av,Az)] }
abbrev za1:Gm:=gA Ou 0 [] [] (ox:=za0)
theorem za2:Ck za1 Rx Ou Qm:={}
def X8{M:Mc}(h:McOk M){x:Str}{j:Nat}(e:C0 M.ws x=↑j):JK [EW M,.str x]=↑(.ok<|.int<|(j:Int)+1):=by
 have l1:M.ws.length<1000000:=by have:=h.wl;lia
 unfold JK Qm
 simp![AX,AU,IB,h.ss,h.sd,AK _ h.ss,AK _ h.sd,e,l1]
abbrev OU:Stmt:=AO 36
def S9:AJ:=
 (BM<|AB (Ds Av Az JK (AA 3)<|mJ 0 AE)<|mJ 1<|mJ 2 AE)
def QY:AH:=
 (AF (AQ (Ds Av Az JJ (AA 0) AE)<|AD 2)
 (AF (A8 (BI<|AS JH<|mJ 1<|mJ 2<|AB (mC Ii) AE) (Cw "NoMark"<|AB (mC<|.str "a guard is a list of looks at the machine's watches") AE) Aa)
 (AW<|BJ 3 [0] (BA<|AA 1) (Au 3<|AL (AD 0)<|AL (AD 1)<|AL (AD 2) Aw) (mC<|.bl true) S9)))
def GK:kL->Option Ru:=A9 2 3 QY
abbrev Rj:=fA 5 2 OU GK
abbrev zf1:Gx:={ DC with co:=[("WORDS",Ii)],mt:=[("watches",Av,Az,Rw),("watch_number",Av,Az,Rx)] }
abbrev zf2:Gm:=gA OU 4 [("is_guard",M6)] [] (ex:=["NoMark"]) (ox:=zf1)
theorem zfh:Ck zf2 Rj OU QY:={}
def DG:T->Str
 |.nd ϊ ϋ (.str x::ό)=>x|ϊ=>Str.empty
def DA:T->Str
 |.nd ϊ ϋ (ό::.str y::ύ)=>y|ϊ=>Str.empty
def Bi:T->Int
 |.nd ϊ ϋ (ό::ύ::.int n::ώ)=>n|ϊ=>0
def Gc{ws wd:kE}{t:T}(h:∃x y n,t=.tup [.str x,.str y,.int n]/\x∈ws/\y∈wd/\0<=n):t=.tup [.str<|DG t,.str<|DA t,.int<|Bi t]/\DG t∈ws/\DA t∈wd/\0<=Bi t:=by
 let(x,y,n,rfl,a,b,c):=h;exact{(rfl),a,b,c}
def Fv(ws:kE)(t:T):T:=.tup [.int<|((C0 ws<|DG t).getD 0:Int)+1,.str<|DA t,.int<|Bi t]
def HX{ws:kE}{x:Str}(h:x∈ws):∃j,C0 ws x=↑j/\∃hj:j<ws.length,ws[j]=x:=by
 unfold C0;cases e:List.findIdx? (λy=>@decide (y=x) (Classical.propDecidable _)) ws with
 |none=>have:=List.findIdx?_eq_none_iff.mp e x h;simp at this|some j=>
  let(a,b,_):=ĝ.mp e;lia
def Ic{α:Type}{b:T->AN->Option AN}{me:AJ}(f g:α->T)(I:AN->Prop):∀(L:List α) (Y:AN),I Y->(∀x∈L,∀Y,I Y->∃τ1,b (f x) Y=↑τ1/\me τ1=↑(.v (g x) false)/\I τ1)->Bs b (mC<|.bl true) me (L.map f) Y=↑(L.map g)
 |[],ϊ,ϋ,ό=>rfl|x::L,Y,h,a=>by
  let(τ1,e,i,c):=a x (Í ..) Y h;have k:=Ic f g I L τ1 c λu d=>a u<|Ì _ d
  have j:mC (.bl true) τ1=↑(.v (.bl true) false):=rfl;rw[Õ,Õ];unfold Bs;lia
def QD{M:Mc}(h:McOk M){l:kL}{wd:kE}(f:Ax M.ws wd l)(u:∀y∈wd,y∈B5)(s:l.length<=1000):GK [EW M,.lst l]=↑(.ok<|.own<|l.map<|Fv M.ws):=by
 have a:Ax M.ws B5 l:=λt c=>by
  let(x,y,n,e,m,o,p):=f t c;exact{x,y,n,e,m,u y o,p}
 have r:=Ra h.tw To s a;have g:=f.sh;have k:=AK _ g
 have i:=Ic (b:=Au 3<|AL (AD 0)<|AL (AD 1)<|AL (AD 2) Aw) (me:=S9) (λt:T=>t) (Fv M.ws) (λY=>∃x y z,Y=[x,y,z,↑(EW M)]) l [none,none,none,↑(EW M)] {(none),none,none,rfl} λt c Y q=>by
  let(x,y,z,rfl):=q;let(v,w,B,C):=Gc<|a t c;let(j,d,_):=HX w;have en:=X8 h d;refine{[↑(.str<|DG t),↑(.str<|DA t),↑(.int<|Bi t),↑(EW M)],by rw[v];simp![DG,DA,Bi],?_,_,_,_,rfl}
  unfold S9 Fv;rw[d]
  simp![AX,AU,h.ss,h.sd,AK _ h.ss,AK _ h.sd,en,ŷ]
 rw[List.map_id']at i;have A:=X5 h;have l1:l.length<=100000:=by lia
 unfold GK QY
 simp![YJ,AX,AU,h.ss,h.sd,AK _ h.ss,AK _ h.sd,A,g,k,r,l1,i]
abbrev Ow:Stmt:=DM 30 2
def Xg:AH:=
 (AW<|DF (m1 C9<|CN Av Az 1<|AA 0)<|Gb<|CN Av Az 1<|AA 0)
def JL:kL->Option Ru:=A9 1 1 Xg
abbrev Ry:=fA 1 1 Ow JL
abbrev zab:Gx:={ DC with cl:=[("Machine",Av,Az)] }
abbrev zag:Gm:=gA Ow 0 [] ["list"] (ox:=zab)
theorem zal:Ck zag Ry Ow Xg:={}
def X6{M:Mc}(h:McOk M):JL [EW M]=↑(.ok (.own ((M.rs.map (·.1)).map T.str))):=by
 rfl
abbrev Ov:Stmt:=DM 30 4
def Qn:AH:=
 (AW<|m1 C9<|Jm (CN Av Az 1<|AA 0)<|AA 1)
def Kb:kL->Option Ru:=A9 2 2 Qn
abbrev ZD:=fA 1 2 Ov Kb
abbrev zap:Gx:={ DC with cl:=[("Machine",Av,Az)] }
abbrev zas:Gm:=gA Ov 0 [] ["list"] (ox:=zap)
theorem zaw:Ck zas ZD Ov Qn:={}
def Y1{ws:kE}(hd:ws.Nodup){i:Nat}(a:i<ws.length):C0 ws ws[i]=↑i:=by
 unfold C0;rw[ĝ];refine{a,@decide_eq_true _ (Classical.propDecidable _) rfl,λj b q=>?_};have:=@of_decide_eq_true _ (Classical.propDecidable _) q;have:=(ĥ hd).mp this
 lia
def zkn{M:Mc}(h:McOk M){i:Nat}(b:i<M.rs.length):Kb [EW M,.str M.rs[i].1]=↑(.ok<|.own M.rs[i].2):=by
 have e:=Y1 h.r.nd (i:=i)<|by simp_all
 rw[Ķ]at e;have a:(M.rs.map λr=>T.lst r.2)[i]?=↑(.lst M.rs[i].2):=by simp_all
 have k:=(h.r.lk _<|Ï b).1.sh;unfold Kb Qn
 simp![Jm,AX,AU,h.ss,h.sd,AK _ h.ss,AK _ h.sd,e,a,k,AK _ k]
abbrev Ox:Stmt:=DM 30 3
def Qp:AH:=
 (AW<|DF (m1 C9<|CN Av Az 2<|AA 0)<|Gb<|CN Av Az 2<|AA 0)
def Kc:kL->Option Ru:=A9 1 1 Qp
abbrev ZE:=fA 1 1 Ox Kc
abbrev zac:Gx:={ DC with cl:=[("Machine",Av,Az)] }
abbrev zah:Gm:=gA Ox 0 [] ["list"] (ox:=zac)
theorem zam:Ck zah ZE Ox Qp:={}
def zkq{M:Mc}(h:McOk M):Kc [EW M]=↑(.ok<|.own<|M.ds.map Ad):=by
 unfold Kc Qp
 simp![AX,AU,h.ss,h.sd,AK _ h.ss,AK _ h.sd]
abbrev Pc:Stmt:=DM 29 1
def RG:AH:=
 (AW<|DF (m1 C9<|CN BX Bb 2<|AA 0)<|Gb<|CN BX Bb 2<|AA 0)
def NV:kL->Option Ru:=A9 1 1 RG
abbrev ZZ:=fA 1 1 Pc NV
abbrev zc1:Gx:={ DC with cl:=[("Door",BX,Bb)] }
abbrev zca:Gm:=gA Pc 0 [] ["list"] (ox:=zc1)
theorem zck:Ck zca ZZ Pc RG:={}
def zlk{d:Dr}(h:AV d.g=true):NV [Ad d]=↑(.ok<|.own d.g):=by
 unfold NV RG
 simp![AX,AU,h,AK _ h]
abbrev Pb:Stmt:=DM 29 2
def RE:AH:=
 (AW<|DF (m1 C9<|CN BX Bb 3<|AA 0)<|Gb<|CN BX Bb 3<|AA 0)
def NU:kL->Option Ru:=A9 1 1 RE
abbrev ZY:=fA 1 1 Pb NU
abbrev zbz:Gx:={ DC with cl:=[("Door",BX,Bb)] }
abbrev zc8:Gm:=gA Pb 0 [] ["list"] (ox:=zbz)
theorem zci:Ck zc8 ZY Pb RE:={}
def zli{d:Dr}(h:AV d.g=true):NU [Ad d]=↑(.ok<|.own<|d.n.map T.str):=by
 unfold NU RE
 simp![AX,AU,h,AK _ h]
abbrev Om:Stmt:=AO 9
def Qi:AH:=
 (AW<|m2 Ak (m2 BY (mI 2)<|AA 0)<|mI 1)
def GL:kL->Option Ru:=A9 1 1 Qi
abbrev KG:=fA 1 1 Om GL
abbrev zdp:Gm:=gA Om 0 [] []
theorem zdz:Ck zdp KG Om Qi:={}
def bM(i:Int):GL [.int i]=↑(.ok<|.int<|2 * i+1):=by
 have m:Bl 2 i=true:=G7<|DJ (by decide)<|by decide
 unfold GL Qi
 simp![m]
def Ms:GL [.int 0]=↑(.ok<|.int 1):=bM 0
abbrev Ol:Stmt:=AO 10
def Qh:AH:=
 (AW<|m2 BY (mI 2)<|AA 0)
def Ka:kL->Option Ru:=A9 1 1 Qh
abbrev ZA:=fA 1 1 Ol Ka
abbrev zhj:Gm:=gA Ol 0 [] []
theorem zhz:Ck zhj ZA Ol Qh:={}
def bl_ok(i:Int):Ka [.int i]=↑(.ok<|.int<|2 * i):=by
 have m:Bl 2 i=true:=G7<|DJ (by decide)<|by decide
 unfold Ka Qh
 simp![m]
abbrev OY:Stmt:=AO 11
def Q2:AH:=
 (AF (A8 (m2 (Bk false) (AA 0)<|mC .non) (AW<|AA 1) Aa)
 (AF (A8 (m2 (Bk false) (AA 1)<|mC .non) (AW<|AA 0) Aa)
 (AW<|m2 Ji (AA 0)<|AA 1)))
def JE:kL->Option Ru:=A9 2 2 Q2
abbrev Rl:=fA 1 2 OY JE
abbrev zct:Gm:=gA OY 0 [] ["min"]
theorem zd3:Ck zct Rl OY Q2:={}
def XN(a b:Db.B):JE [bT a,bT b]=↑(.ok<|bT<|Db.mn a b):=by
 unfold JE Q2;cases a with
 |none=>rfl|some a=>
  cases b with
  |none=>rfl|some b=>
   simp![Db.mn]
   lia
abbrev Og:Stmt:=AO 40
def Qd:AH:=
 (AF (A8 (BH (m2 Aq (AA 0)<|mI 0)<|m2 Aq (AA 0)<|AA 1) (AW<|AS GL<|AB (mI 0) AE) Aa)
 (AW<|mC .non))
def NF:kL->Option Ru:=A9 2 2 Qd
abbrev Yw:=fA 2 2 Og NF
abbrev zbi:Gm:=gA Og 1 [("at_most",KG)] []
theorem zbp:Ck zbi Yw Og Qd:={}
def fb_ok(i j:Nat):NF [.int i,.int j]=↑(.ok<|bT<|Db.free i j):=by
 unfold NF Qd;by_cases b:i=0;subst b
 simp![Dx,Ms,Db.free]
 by_cases h:i=j;subst h;have a:((i:Int) == 0)=false:=by lia
 simp![Dx,a,Ms,Db.free]
 have a:((i:Int) == 0)=false:=by lia
 have c:((i:Int) == (j:Int))=false:=by simp;lia
 simp![Dx,a,c,Db.free,b,h]
abbrev OO:Stmt:=AO 43
def N9:AH:=
 (A8 (m2 (Bk false) (AA 5)<|mC .non) (Cg 3<|AA 4) (AF (AQ (m2 DQ (m2 Ak (AA 1)<|AA 5)<|m2 FZ (m2 KY (AA 1)<|AA 5)<|mI 1)<|AD 6)
 (Cg 3<|EZ (BH (m2 (Bk false) (AA 4)<|mC .non)<|m2 (BV λi j=>decide (i<j)) (AA 6)<|AA 4) (AA 6)<|AA 4)))
def QU:AH:=
 (AF (CY 3<|BG AE)
 (AF (BN (HY<|mJ 0<|mJ 2 AE) (Au 2<|AL (AD 4)<|AL (AD 5) Aw) N9)
 (AW<|AA 3)))
def Mw:kL->Option Ru:=A9 3 7 QU
abbrev Yh:=fA 1 3 OO Mw
abbrev zcr:Gm:=gA OO 0 [] ["zip"] ["told"]
theorem zd1:Ck zcr Yh OO QU:={}
def ro_ok{n:Nat}(p:n<=100000)(r s:Nat->Db.B)(c:Int):Mw [rT n r,.int c,rT n s]=↑(.ok<|.own<|mT n λj=>bT<|Db.mn (r j)<|Db.add ↑c<|s j):=by
 have d:=FY (b:=Au 2<|AL (AD 4)<|AL (AD 5) Aw) (body:=N9) (n:=n) (g:=λi=>.tup [bT<|r i,bT<|s i]) (Y:=[↑(rT n r),↑(.int c),↑(rT n s),↑(.own []),none,none,none])
  (λi Y=>∃x y z,Y=[↑(rT n r),↑(.int c),↑(rT n s),↑(.own<|mT i λj=>bT<|Db.mn (r j)<|Db.add ↑c<|s j),x,y,z])
  {(none),none,none,rfl} (by
   rintro i Y l ⟨x,y,z,rfl⟩;have l1:i<100000:=by lia
   refine{_,by simp![];rfl,?_};unfold N9;cases e:s i with
   |none=>
    refine{_,by simp![l1];rfl,↑(bT<|r i),↑.non,z,?_};rw[<- IY,e];cases r i<;>rfl
   |some m=>
    have a:c+m - Builtin.bitAnd (Builtin.bitOr c m) 1=Db.bs c m:=by rw[Db.bor_one,Db.bs_eq]
    cases f:r i with
    |none=>
     refine{_,by simp![a,l1];rfl,↑.non,↑(.int m),↑(.int<|Db.bs c m),?_};rw[<- IY,e,f];rfl
    |some o=>
     by_cases h:Db.bs c m<o;refine{_,by simp![a,h,l1];rfl,↑(.int o),↑(.int m),↑(.int<|Db.bs c m),?_};rw[<- IY,e,f];rw[show Db.mn ↑o (Db.add ↑c ↑m)=↑(Db.bs c m) by show ↑(min _ _)=_;rw[show min o (Db.bs c m)=Db.bs c m by lia]];rfl;refine{_,by simp![a,h,l1];rfl,↑(.int o),↑(.int m),↑(.int<|Db.bs c m),?_};rw[<- IY,e,f];rw[show Db.mn ↑o (Db.add ↑c ↑m)=↑o by show ↑(min _ _)=_;rw[show min o (Db.bs c m)=o by lia]]
     rfl)
 let(k,a,x,y,z,rfl):=d;unfold Mw QU
 simp![zlv,a]
abbrev Oe:Stmt:=AO 42
def Si:AJ:=
 (m2 (BV λi j=>decide (i<j)) (AG (AA 1)<|AA 0)<|AS GL<|AB (mI 0) AE)
def Qc:AH:=
 (AW<|m1 K1<|BJ 2 [] (E1<|mJ 0 AE) (Au 2<|AL (AD 0)<|AL (AD 1) Aw) (mC<|.bl true) Si)
def ND:kL->Option Ru:=A9 1 1 Qc
abbrev Yv:=fA 2 1 Oe ND
abbrev zc7:Gm:=gA Oe 1 [("at_most",KG)] ["any","enumerate"]
theorem zch:Ck zc7 Yv Oe Qc:={}
def zpv{n:Nat}{f:Db.Z}(e:n<=100000){d:Nat->Int}(hd:∀i,i<n->f i i=↑(d i)):ND [zT n f]=↑(.ok<|.bl<|(List.range n).any λi=>decide (d i<1)):=by
 have b:=Ge (n:=n) (me:=Si) (x:=none) (y:=none) (cs:=[]) (u:=λi=>.int (i:Int)) (w:=λi=>rT n<|f i) (f:=λi=>.bl<|decide (d i<1)) λi a=>by
  unfold Si
  simp![Pz,Lj,BO a,hd i a,Ms]
 unfold ND Qc;have c:n<=100000:=by lia
 simp![zg5,JS,Lj,Pz,E1,SI,b,c,Hh,List.any_map,Function.comp_def,id_eq]
abbrev OX:Stmt:=AO 41
def Se:AJ:=
 (AS JE<|mJ 1<|AB (AS NF<|mJ 2<|mJ 0 AE) AE)
def Me:AJ:=
 (BJ 2 [0] (E1<|mJ 1 AE) (Au 2<|AL (AD 0)<|AL (AD 1) Aw) (mC<|.bl true) Se)
def Sb:AJ:=
 (EZ (m2 (Bk false) (AG (AA 0)<|AA 1)<|mC .non) (AA 0)<|AS Mw<|mJ 0<|AB (AG (AA 0)<|AA 1)<|mJ 2 AE)
def JU:AH:=
 (AF (A8 (AS ND<|mJ 1 AE) (AW<|mC .non) Aa)
 (AF (AQ (AG (AA 1)<|AA 2)<|AD 3)
 (AQ (BJ 1 [2,3] (BA<|AA 1) (AD 0) (mC<|.bl true) Sb)<|AD 1)))
def Q1:AH:=
 (AF (AQ (BJ 2 [] (E1<|mJ 0 AE) (Au 2<|AL (AD 0)<|AL (AD 1) Aw) (mC<|.bl true) Me)<|AD 1)
 (AF (BN (Bc<|AB (m1 Ap<|AA 1) AE) (AD 2) JU)
 (AW<|AA 1)))
def Hm:kL->Option Ru:=A9 1 4 Q1
abbrev Yo:=fA 3 1 OX Hm
abbrev zc3:Gm:=gA OX 2 [("narrower",Rl),("free_bound",Yw),("is_broken",Yv),("row_over",Yh)] ["enumerate","range","len"]
theorem zcd:Ck zc3 Yo OX Q1:={}
def VA{n:Nat}{f:Db.Z}{d:Nat->Int}(hd:∀i,i<n->f i i=↑(d i)):((List.range n).any λi=>decide (d i<1))=true ↔ Db.Brk n f:=by
 rw[ŵ];constructor;rintro⟨i,a,h⟩;have a:=è.mp a;refine{i,a,?_};rw[hd i a];erw[Db.le]
 lia;rintro⟨i,a,h⟩;refine{i,è.mpr a,É ?_};rw[hd i a]at h;erw[Db.le]at h;lia
def zfd(f:Db.Z)(k i:Nat):∃d,Db.fw f k i i=↑d:=by
 have:=Db.diag_le f i k;cases h:Db.fw f k i i with
 |none=>rw[h]at this;exact this.elim|some d=>lia
def zoh{n:Nat}(p:n<=100000)(f:Db.Z):(Db.Sound n f->Hm [zT n f]=↑(.ok<|zT n<|Db.fw f n))/\(¬ Db.Sound n f->Hm [zT n f]=↑(.ok .non)):=by
 have l1:n<=100000:=by lia
 have in1:∀i,i<n->Me [↑(.int (i:Int)),↑(rT n<|f i)]=↑(.v (.own<|mT n λj=>bT<|Db.z0 f i j) false):=λi o=>by
  have s:=Ge (n:=n) (me:=Se) (x:=none) (y:=none) (cs:=[↑(.int (i:Int))]) (u:=λj=>.int (j:Int)) (w:=λj=>bT<|f i j) (f:=λj=>bT<|Db.z0 f i j) λj A=>by
   unfold Se
   simp![fb_ok,XN]
   rfl
  unfold Me
  simp![E1,SI,s,l1]
 have v:=Ge (n:=n) (me:=Me) (x:=none) (y:=none) (cs:=[]) (u:=λi=>.int (i:Int)) (w:=λi=>rT n<|f i) (f:=λi=>.own<|mT n λj=>bT<|Db.z0 f i j) in1
 have l:=zlc (b:=AD 2) (body:=JU) (n:=n) (g:=λi=>.int (i:Int)) (Y:=[↑(zT n f),↑(zT n<|Db.fw f 0),none,none]) (λk=>¬ Db.Brk n (Db.fw f k)) .non
  (λk Y=>∃x y,Y=[↑(zT n f),↑(zT n<|Db.fw f k),x,y]) {(none),none,rfl} (by
   rintro k Y hk - ⟨x,y,rfl⟩;refine{_,by simp![];rfl,?_}
   have hd:∀i,i<n->Db.fw f k i i=↑((Db.fw f k i i).getD 0):=λi ϊ=>by
    let(d,e):=zfd f k i;rw[e];rfl
   have m:=zpv p hd;by_cases a:Db.Brk n<|Db.fw f k
   right;refine{λq=>q a,?_};rw[(VA hd).mpr a]at m;unfold JU
   simp![m]
   left;refine{a,?_}
   have B:((List.range n).any λi=>decide ((Db.fw f k i i).getD 0<1))=false:=by
    cases q:((List.range n).any λi=>decide ((Db.fw f k i i).getD 0<1)) with
    |false=>rfl|true=>exact absurd ((VA hd).mp q) a
   rw[B]at m;generalize E:Db.fw f k=g at *
   have s:=Du (n:=n) (me:=Sb) (x:=none) (cs:=[↑(.int (k:Int)),↑(rT n<|g k)]) (g:=λi=>rT n<|g i) (f:=λi=>match g i k with|none=>rT n (g i)|some c=>.own<|mT n λj=>bT<|Db.mn (g i j)<|Db.add ↑c<|g k j) λi o=>by
    unfold Sb;cases e:g i k with
    |none=>simp![BO hk,e]|some c=>simp![BO hk,e,ro_ok p]
   have C:(mT n λi=>(match g i k with|none=>rT n (g i)|some c=>T.own<|mT n λj=>bT<|Db.mn (g i j)<|Db.add ↑c<|g k j).share)=mT n λi=>rT n<|Db.stp g k i:=EC λi o=>by
    cases e:g i k with
    |none=>
     erw[Lj];unfold rT;rw[EC λj A=>?_];unfold Db.stp;rw[e];cases g i j<;>rfl
    |some c=>
     simp![]
     rw[EC λj A=>?_];unfold Db.stp;rw[e]
   refine{[↑(zT n f),↑(zT n<|Db.stp g k),↑(.int (k:Int)),↑(rT n<|g k)],.inl ?_,↑(.int (k:Int)),↑(rT n<|g k),?_};unfold JU
   simp![m,BO hk,s,l1]
   rw[C]
   rw[show Db.fw f (k+1)=Db.stp g k by rw[<- E];rfl])
 have F:Bh (n:Int)=true:=Dl p
 have st:∀r,Ao (AD 2) JU (mT n λi=>.int (i:Int)) [↑(zT n f),↑(zT n<|Db.fw f 0),none,none]=r->Hm [zT n f]=(match (match r with|some (.nx z)=>AW (AA 1) z|r=>r) with
   |some (.rt t)=>↑(Ru.ok t)|some (.nx ϊ)=>↑(.ok .non)|some (.xc c ϊ)=>↑(.exc c)|ϊ=>none):=by
  rintro _ rfl;unfold Hm Q1
  simp![E1,SI,v,l1,F,Ci]
  rfl
 rcases l with ⟨D,z,e,x,y,rfl⟩|⟨⟨i,o,a⟩,e⟩;refine{λϊ=>?_,λh=>absurd (λk hk=>D k hk) h};rw[st _ e]
 simp![]
 refine{λh=>absurd (h i o) a,λϊ=>?_};rw[st _ e]
abbrev O0:Stmt:=AO 18
def Q4:AH:=
 (AF (CY 4<|BG AE)
 (AF (A8 (m2 Aq (AA 2)<|mC<|.str "<") (Cg 4<|BM<|mJ 0<|mJ 1<|AB (AS Ka<|mJ 3 AE) AE) Aa)
 (AF (A8 (BH (m2 Aq (AA 2)<|mC<|.str "<=")<|m2 Aq (AA 2)<|mC<|.str "=") (Cg 4<|BM<|mJ 0<|mJ 1<|AB (AS GL<|mJ 3 AE) AE) Aa)
 (AF (A8 (m2 Aq (AA 2)<|mC<|.str ">") (Cg 4<|BM<|mJ 1<|mJ 0<|AB (AS Ka<|AB (m1 Ec<|AA 3) AE) AE) Aa)
 (AF (A8 (BH (m2 Aq (AA 2)<|mC<|.str ">=")<|m2 Aq (AA 2)<|mC<|.str "=") (Cg 4<|BM<|mJ 1<|mJ 0<|AB (AS GL<|AB (m1 Ec<|AA 3) AE) AE) Aa)
 (AW<|AA 4))))))
def My:kL->Option Ru:=A9 4 5 Q4
abbrev Yp:=fA 2 4 O0 My
abbrev zb4:Gm:=gA O0 1 [("below",ZA),("at_most",KG)] [] ["bounds"]
theorem zba:Ck zb4 Yp O0 Q4:={}
def Ei:Nat->Str
 |0=>"<"|1=>"<="|2=>">"|3=>">="|ϊ=>"="
def N8{w:Nat}(h:w<5):Aq (.str<|Ei w) (.str "<")=↑(.bl<|w == 0)/\Aq (.str<|Ei w) (.str "<=")=↑(.bl<|w == 1)/\Aq (.str<|Ei w) (.str ">")=↑(.bl<|w == 2)/\Aq (.str<|Ei w) (.str ">=")=↑(.bl<|w == 3)/\Aq (.str<|Ei w) (.str "=")=↑(.bl<|w == 4):=by
 have:w=0\/w=1\/w=2\/w=3\/w=4:=by lia
 rcases this with rfl|rfl|rfl|rfl|rfl<;>refine⟨?_,?_,?_,?_,?_⟩<;>ext
abbrev Dt(l:Nat×Nat×Int):T:=.tup [.int (l.1:Nat),.str<|Ei l.2.1,.int l.2.2]
def Look(m:Nat)(l:Nat×Nat×Int):Prop:=0<l.1/\l.1<m+1/\l.2.1<5
abbrev BC(x:Dv.Lim):T:=.tup [.int (x.1:Nat),.int (x.2.1:Nat),.int x.2.2]
def D0(i j:Nat):Nat->Int->List Dv.Lim
 |0,n=>[(i,j,2 * n)]|1,n=>[(i,j,2 * n+1)]|2,n=>[(j,i,2 * -n)]|3,n=>[(j,i,2 * -n+1)]|ϊ,n=>[(i,j,2 * n+1),(j,i,2 * -n+1)]
def zoy{i j w:Nat}{n:Int}(a:w<5):My [.int (i:Nat),.int (j:Nat),.str<|Ei w,.int n]=↑(.ok<|.own<|(D0 i j w n).map BC):=by
 let(b,s1,c,d,e):=N8 a;have:w=0\/w=1\/w=2\/w=3\/w=4:=by lia
 unfold My Q4;rcases this with rfl|rfl|rfl|rfl|rfl<;>simp![b,s1,c,d,e,bl_ok,bM,D0]
def zkz(i j w:Nat)(n:Int):(D0 i j w n).length<=2:=by
 unfold D0;split<;>simp
theorem zoz{i j w N:Nat}{n:Int}(b:i<N)(c:j<N):Dv.In N<|D0 i j w n:=λx a=>by
 unfold D0 at a;split at a<;>erw[Î,ĉ]at a
 all_goals lia
abbrev OW:Stmt:=AO 38
def Sa:AJ:=
 (Ds Av Az JK (AA 1)<|mJ 0 AE)
def Q0:AH:=
 (AW<|BJ 1 [0] (BA<|Ds BX Bb NU (AA 1) AE) (AD 0) (mC<|.bl true) Sa)
def Mx:kL->Option Ru:=A9 2 2 Q0
abbrev Yn:=fA 2 2 OW Mx
abbrev za9:Gx:={ DC with mt:=[("sets",BX,Bb,ZY),("watch_number",Av,Az,Rx)] }
abbrev zad:Gm:=gA OW 1 [] [] (ox:=za9)
theorem zai:Ck zad Yn OW Q0:={}
def An(ws ns:kE):kG:=ns.map λx=>(C0 ws x).getD 0+1
abbrev IM(l:kG):kL:=l.map λp:Nat=>T.int (p:Int)
def zoo(l:kG):AV (IM l)=true:=Ea λϊ ϊ=>rfl
def np_ok{M:Mc}(h:McOk M){d:Dr}(hd:d∈M.ds):Mx [BF M,Ad d]=↑(.ok<|.own<|IM<|An M.ws d.n):=by
 have D:=h.d d hd;have sg:=D.g.sh;have sm:=G9 h;have a:=zli sg
 have i:=Ic (b:=AD 0) (me:=Sa) T.str (λx=>.int ((C0 M.ws x).getD 0+1:Nat)) (λY=>∃x,Y=[x,↑(BF M)]) d.n [none,↑(BF M)] {(none),rfl} λx g Y f=>by
  let(y,rfl):=f;let(j,c,_):=HX<|D.n x g;have en:JK [BF M,.str x]=↑(.ok<|.int<|j+1):=X8 h c;refine{[↑(.str x),↑(BF M)],by simp![],?_,_,rfl}
  unfold Sa;rw[c]
  simp![-DN,Jj,sm,Cf _ sm,en,ŷ,Int.natCast_add]
 have e:IM (An M.ws d.n)=d.n.map λx=>.int ((C0 M.ws x).getD 0+1:Nat):=by
  unfold IM An;simp_all
 have nl:d.n.length<=100000:=by have:=D.nl;lia
 rw[e];unfold Mx Q0
 simp![sm,Cf _ sm,a,sg,AK _ sg,AU,AX,À,nl,i]
def oT(n:Nat):Option Db.Z->T
 |none=>.non|some f=>zT n f
def Vs(n:Nat)(o:Option Db.Z):(oT n o).sh=true:=by
 cases o with
 |none=>rfl|some f=>exact JS n f
def Vt(n:Nat)(o:Option Db.Z)(b:Bool):Bk b (oT n o) .non=↑(.bl<|b != o.isNone):=by
 cases o<;>cases b<;>rfl
abbrev NY(m:Nat)(L:List<|Nat×Nat×Int):Prop:=∀l∈L,Look m l
open Classical in
def By(n:Nat)(f:Db.Z):Option Db.Z:=if Db.Sound n f then ↑(Db.fw f n) else none
def zoj{n:Nat}(c:n<=100000)(f:Db.Z):Hm [zT n f]=↑(.ok<|oT n<|By n f):=by
 let(a,b):=zoh c f;unfold By;split;exact a ‹_›;exact b ‹_›
def zkh{n:Nat}{f g:Db.Z}(e:By n f=↑g):Db.Nar n g:=by
 unfold By at e;split at e;cases e;exact Db.nar ‹_›;cases e
def MM(L:List<|Nat×Nat×Int):AV (L.map Dt)=true:=Ea λϊ ϊ=>rfl
def DD(y:Str):Nat:=if y=Str.ofString "<" then 0 else if y=Str.ofString "<=" then 1 else if y=Str.ofString ">" then 2 else if y=Str.ofString ">=" then 3 else 4
def Ku:∀y∈B5,Ei (DD y)=y/\DD y<5:=by decide +kernel
def A7(ws:kE)(t:T):Nat×Nat×Int:=((C0 ws<|DG t).getD 0+1,DD<|DA t,Bi t)
def QB{ws:kE}{l:kL}(h:Ax ws B5 l):l.map (Fv ws)=(l.map<|A7 ws).map Dt:=by
 rw[û];refine Ň λt a=>?_;let(c,d,b,e):=Gc<|h t a;show Fv ws t=Dt (A7 ws t);unfold Fv A7;rw[show Dt ((C0 ws<|DG t).getD 0+1,DD<|DA t,Bi t)=.tup [.int (((C0 ws<|DG t).getD 0+1:Nat):Int),.str<|Ei<|DD<|DA t,.int<|Bi t] from rfl,(Ku _ b).1]
 rfl
theorem Jc{ws:kE}{l:kL}(h:Ax ws B5 l):NY ws.length<|l.map<|A7 ws:=λx c=>by
 let(t,b,rfl):=Ò.mp c;let(g,d,e,i):=Gc<|h t b;let(j,a,f,_):=HX d;refine{Nat.succ_pos _,?_,(Ku _ e).2};show(C0 ws<|DG t).getD 0+1<_;rw[a,ŷ]
 lia
theorem Ax.wd{ws:kE}{l:kL}(h:Ax ws DR l):Ax ws B5 l:=λt c=>by
 let(x,y,n,e,a,d,b):=h t c;refine{x,y,n,e,a,?_,b};revert y;have:∀y∈DR,y∈B5:=by decide +kernel
 exact λy ϊ h=>this y h
def Z4{α:Type}{x:Str}{v:α}:∀{rs:List<|Str×α},(rs.map (·.1)).Nodup->(x,v)∈rs->rs.find? (λq=>decide (q.1=x))=↑(x,v)
 |[],ϊ,h=>by cases h|a::l,nd,h=>by
  rw[Õ,ĸ]at nd;rcases Î.mp h with rfl|h;simp_all;rw[List.find?_cons_of_neg λz=>nd.1 ?_];exact Z4 nd.2 h;simp_all
def DS(ws:kE)(rs:List<|Str×kL)(x:Str):List<|Nat×Nat×Int:=(((rs.find? λq=>decide (q.1=x)).map (·.2)).getD []).map (A7 ws)
def U8{ws:kE}{rs:List<|Str×kL}(nd:(rs.map (·.1)).Nodup){r:Str×kL}(h:r∈rs):DS ws rs r.1=r.2.map (A7 ws):=by
 unfold DS;rw[Z4 (v:=r.2) nd h];rfl
def U6{M:Mc}(h:McOk M)(x:Str):NY M.ws.length<|DS M.ws M.rs x:=by
 unfold DS;cases e:M.rs.find? λq=>decide (q.1=x) with
 |none=>simp_all|some r=>exact Jc (h.r.lk r<|List.mem_of_find?_eq_some e).1.wd
abbrev OQ:Stmt:=AO 46
def Kv:AH:=
 (AF (A8 (BH (BI<|AS NA<|mJ 5 AE)<|BI<|Fg FV (BV λi j=>decide (i<j)) (mI 0) (AA 5)<|m1 Ap<|AA 2) (Cw "NoRoad"<|AB (mC<|.str "a road goes through doors of the machine") AE) Aa)
 (AF (AQ (AG (AA 2)<|AA 5)<|AD 6)
 (AF (A8 (BH (m2 CH (CN BX Bb 4<|AA 6)<|mC<|.str "")<|m2 CH (CN BX Bb 0<|AA 6)<|AA 3) (Cw "NoRoad"<|AB (mC<|.str "a road goes on from where it is, and through no door with a sign") AE) Aa)
 (AF (AQ (CN BX Bb 1<|AA 6)<|AD 3)
 (Cg 4<|AA 6)))))
def QW:AH:=
 (AF (A8 (BH (BI<|m1 (Cb "list")<|AA 1)<|m2 (BV λi j=>decide (j<i)) (m1 Ap<|AA 1)<|mC Ij) (Cw "NoRoad"<|AB (mC<|.str "a road is a list of at most two hundred doors' numbers") AE) Aa)
 (AF (AQ (Ds Av Az Kc (AA 0) AE)<|AD 2)
 (AF (AQ (AG (Ds Av Az JL (AA 0) AE)<|mI 0)<|AD 3)
 (AF (CY 4<|BG AE)
 (AF (BN (BA<|AA 1) (AD 5) Kv)
 (AW<|AA 4))))))
def JC:kL->Option Ru:=A9 2 7 QW
abbrev Yj:=fA 2 2 OQ JC
abbrev zbg:Gx:={ DC with co:=[("MOST_ROAD_DOORS",Ij)],cl:=[("Door",BX,Bb)],mt:=[("doors",Av,Az,ZE),("rooms",Av,Az,Ry)] }
abbrev zbh:Gm:=gA OQ 1 [("is_whole",Rn)] ["isinstance","list","len"] ["told"] (ex:=["NoRoad"]) (ox:=zbg)
theorem zbo:Ck zbh Yj OQ QW:={}
abbrev RN(x:Dv.Lim):T:=.tup [.int (x.1:Nat),.int (x.2.1:Nat),.int x.2.2]
def Xv:∀L:List Dv.Lim,BP (L.map RN)=L.map RN
 |[]=>rfl|x::L=>by rw[Õ,BP,Xv L];rfl
def Xw:∀L:List Dv.Lim,AV (L.map RN)=true
 |[]=>rfl|x::L=>by rw[Õ,AV,Xw L];rfl
def C8(M:Mc):Str->kF->Option (kI)
 |ϊ,[]=>↑[]|x,k::r=>if 0<=k then (match M.ds[k.toNat]? with
  |some d=>if d.z=Str.empty/\d.s=x then (C8 M d.e r).map (d::·) else none
  |none=>none) else none
def Fd(M:Mc):Str:=((M.rs.map (·.1))[0]?).getD Str.empty
def ES(M:Mc)(ks:kF):Option<|kI:=if ks.length<=200 then C8 M (Fd M) ks else none
def La:Option (kI)->Ru
 |some l=>.ok (.own<|l.map Ad)|none=>.exc "NoRoad"
def Pp{M:Mc}:∀{ks:kF} {x:Str} {l:kI},C8 M x ks=↑l->(∀d∈l,d∈M.ds)/\l.length=ks.length
 |[],x,l,h=>by
  cases h;simp_all
 |k::r,x,l,h=>by
  unfold C8 at h;by_cases c:0<=k;rw[if_pos c]at h;cases hd:M.ds[k.toNat]? with
  |none=>lia|some d=>
   rw[hd]at h;simp only at h;by_cases f:d.z=Str.empty/\d.s=x;rw[if_pos f]at h;let(j,e,rfl):=Ø.mp h;let(g,i):=Pp e;refine{λb a=>?_,by simp_all}
   rcases Î.mp a with rfl|a;exact ì hd;exact g b a;lia
  lia
def QM{x y:Str}(a:PyData.strOk x=true)(b:PyData.strOk y=true):CH (.str x) (.str y)=↑(.bl<|!decide (x=y)):=by
 have e:(x == y)=decide (x=y):=by rfl
 unfold CH Gn E3 Iw;erw[T.data,PyData.canLay0,a,b];rfl
def Gk{b:T->AN->Option AN}{body:AH}{t:T}{ts:kL}{Y τ1 a:AN}(c:b t Y=↑τ1)(d:body τ1=↑(.nx a)):Ao b body (t::ts) Y=Ao b body ts a:=by
 conv=>lhs;unfold Ao
 lia
def fg_xc{b:T->AN->Option AN}{body:AH}{t:T}{ts:kL}{Y τ1 a:AN}{c:Str}(d:b t Y=↑τ1)(e:body τ1=↑(.xc c a)):Ao b body (t::ts) Y=↑(.xc c a):=by
 conv=>lhs;unfold Ao
 lia
def Em(M:Mc)(x:Str)(k:Int):Option Dr:=if 0<=k then (match M.ds[k.toNat]? with
 |some d=>if d.z=Str.empty/\d.s=x then ↑d else none
 |none=>none) else none
def zj9{M:Mc}{x:Str}{k:Int}{d:Dr}(h:Em M x k=↑d):d∈M.ds:=by
 unfold Em at h;split at h;split at h;split at h;cases h;exact ì<|by assumption
 cases h;cases h;cases h
def Ja(M:Mc)(x:Str)(k:Int)(r:kF):C8 M x (k::r)=(Em M x k).bind λd=>(C8 M d.e r).map (d::·):=by
 conv=>lhs;unfold C8
 unfold Em;by_cases a:0<=k;rw[if_pos a,if_pos a];cases M.ds[k.toNat]? with
 |none=>rfl|some d=>
  simp only;by_cases b:d.z=Str.empty/\d.s=x;simp_all;rw[if_neg b,if_neg b];rfl
 rw[if_neg a,if_neg a];rfl
def zj8{M:Mc}(h:McOk M)(R:T)(x:Str)(u:PyData.strOk x=true)(A:kL)(r:A.length<100000)(k:Int)(x6:kH):∃Y',Kv [↑(BF M),↑R,↑(.lst<|M.ds.map Ad),↑(.str x),↑(.own A),↑(.int k),x6]=↑(match Em M x k with
   |some d=>.nx [↑(BF M),↑R,↑(.lst<|M.ds.map Ad),↑(.str d.e),↑(.own<|A++[Ad d]),↑(.int k),↑(Ad d)]|none=>.xc "NoRoad" Y'):=by
 have sd:=h.sd;have i:=AK _ sd;have j:=ze6 k;have f:(M.ds.map Ad).length=M.ds.length:=À ..;unfold Kv Em
 by_cases l:0<=k;rw[if_pos l];have c:decide (0<=k)=true:=É l
 by_cases s:k<(M.ds.length:Int);have hk:k.toNat<M.ds.length:=by lia
 have hd:=Á hk;have D:=h.d _<|Ï hk;have p:=KO D;have t:=Cf _ p;have gs:=D.g.sh;have q:AM (M.ds.map Ad) k=↑(Ad M.ds[k.toNat]):=Mn Ad<|Hj l hd;have e:=QM (zmf D.z) SK;have n:=QM (h.tn _ D.s) u;have g:decide (k<(M.ds.length:Int))=true:=É s;rw[hd];change M.ds.map Ad=DT;change M.ds[k.toNat]=d
 by_cases m:d.z=Str.empty;by_cases o:d.s=x;refine{[],?_};erw[if_pos<|And.intro m o];have a:(!decide (d.z=Str.ofString ""))=false:=by rw[É (show d.z=Str.ofString "" from m)];rfl
 have b:(!decide (d.s=x))=false:=by rw[É o];rfl
 rw[a]at e;rw[b]at n
 simp![j,f,sd,i,c,g,q,e,n,gs,AK _ gs,AX,AU,r]
 refine{[↑(BF M),↑R,↑(.lst DT),↑(.str x),↑(.own A),↑(.int k),↑(Ad d)],?_};erw[if_neg (show ¬ (d.z=Str.empty/\d.s=x) from λz=>o z.2)];have a:(!decide (d.z=Str.ofString ""))=false:=by rw[É (show d.z=Str.ofString "" from m)];rfl
 have b:(!decide (d.s=x))=true:=by rw[Ù o];rfl
 rw[a]at e;rw[b]at n
 simp![j,f,sd,i,c,g,q,e,n,gs,AK _ gs,AX,AU,r]
 refine{[↑(BF M),↑R,↑(.lst DT),↑(.str x),↑(.own A),↑(.int k),↑(Ad d)],?_};erw[if_neg (show ¬ (d.z=Str.empty/\d.s=x) from λz=>m z.1)];have a:(!decide (d.z=Str.ofString ""))=true:=by rw[Ù (show ¬ d.z=Str.ofString "" from m)];rfl
 rw[a]at e
 simp![j,f,sd,i,c,g,q,e,gs,AK _ gs,AX,AU,r]
 have hd:M.ds[k.toNat]?=none:=ā<|by lia
 have g:decide (k<(M.ds.length:Int))=false:=Ù s;rw[hd];change M.ds.map Ad=DT;refine{[↑(BF M),↑R,↑(.lst DT),↑(.str x),↑(.own A),↑(.int k),x6],?_}
 simp![j,f,sd,i,c,g]
 rw[if_neg l];have c:decide (0<=k)=false:=Ù l;change M.ds.map Ad=DT;refine{[↑(BF M),↑R,↑(.lst DT),↑(.str x),↑(.own A),↑(.int k),x6],?_}
 simp![j,f,sd,i,c]
def VE{M:Mc}(h:McOk M)(R:T):∀(ks:kF) (x:Str) (a:kI) (x5 x6:kH),PyData.strOk x=true->a.length+ks.length<=200 ->
  ∃Y',Ao (AD 5) Kv (ks.map T.int) [↑(BF M),↑R,↑(.lst<|M.ds.map Ad),↑(.str x),↑(.own<|a.map Ad),x5,x6]=↑(match C8 M x ks with
   |some ϊ=>.nx Y'|none=>.xc "NoRoad" Y')/\∀l,C8 M x ks=↑l->∃y3 y5 y6,Y'=[↑(BF M),↑R,↑(.lst<|M.ds.map Ad),y3,↑(.own<|(a++l).map Ad),y5,y6]
 |[],x,a,x5,x6,i,g=>{[↑(BF M),↑R,↑(.lst<|M.ds.map Ad),↑(.str x),↑(.own<|a.map Ad),x5,x6],rfl,λl e=>by
   cases e;exact{_,_,_,by rw[ċ]}}
 |k::r,x,a,x5,x6,i,g=>by
  rw[Þ]at g;let(f,b):=zj8 h R x i (a.map Ad) (by rw[À];lia) k x6
  rw[Ja,Õ];cases c:Em M x k with
  |none=>rw[c]at b;exact{f,fg_xc (by simp![]) b,λl e=>by cases e}|some d=>
   rw[c]at b;let(Y',j,n):=VE h R r d.e (a++[d]) (↑(.int k)) (↑(Ad d)) (h.tn _ (h.d d<|zj9 c).e) (by rw[à,ı];lia)
   rw[â]at j;refine{Y',(Gk (by simp![]) b).trans (j.trans ?_),λl e=>?_};erw[ĵ];cases C8 M d.e r<;>rfl;erw[ĵ]at e;let(o,m,rfl):=Ø.mp e
   simp_all
def Dw:∀ks:kF,BP (ks.map T.int)=ks.map T.int
 |[]=>rfl|k::r=>by rw[Õ,BP,Dw r];rfl
def Dd:∀ks:kF,AV (ks.map T.int)=true
 |[]=>rfl|k::r=>by rw[Õ,AV,Dd r];rfl
def X7{M:Mc}(h:McOk M):AM ((M.rs.map (·.1)).map T.str) 0=↑(.str<|Fd M):=by
 have a:=h.r.l1;have e:(M.rs.map (·.1))[0]?=↑(M.rs[0]'(by lia)).1:=by rw[È,Á<|by lia];rfl
 refine Hj (by decide) ?_;show((M.rs.map (·.1)).map T.str)[0]?=_;unfold Fd;rw[È,e];rfl
def VH{M:Mc}(h:McOk M):Fd M∈M.rs.map (·.1):=by
 have a:=h.r.l1;unfold Fd;rw[Á (show 0<(M.rs.map (·.1)).length by rw[À];lia)];exact Ï _
def rd_ok{M:Mc}(h:McOk M)(ks:kF):JC [BF M,.lst<|ks.map T.int]=↑(La<|ES M ks):=by
 have sm:=G9 h;have e:=Cf _ sm;have sd:=h.sd;have j:=AK _ sd;have md:Kc [BF M]=↑(.ok<|.own<|M.ds.map Ad):=zkq h;have k:JL [BF M]=↑(.ok (.own ((M.rs.map (·.1)).map T.str))):=X6 h;have ma:=X7 h;have i:=Dd ks;have d:=Dw ks;have b:=Jj M;unfold JC QW ES
 by_cases f:ks.length<=200;rw[if_pos f];let(n,c,m):=VE h (.lst<|ks.map T.int) ks (Fd M) [] none none (h.tn _<|VH h)<|by simpa using f
 have a:decide ((200:Int)<((ks.map T.int).length:Int))=false:=Ù (by rw[À];lia);rw[Ő]at c;change ks.map T.int=KT;cases g:C8 M (Fd M) ks with
 |none=>
  rw[g]at c;change M.ds.map Ad=DT
  simp![-DN,b,Ij,i,d,sm,e,a,md,k,ma,sd,j,AX,AU,c,La]
 |some l=>
  rw[g]at c;let(o,p,q,rfl):=m l g;change M.ds.map Ad=DT
  simp![-DN,b,Ij,i,d,sm,e,a,md,k,ma,sd,j,AX,AU,c,La]
 rw[if_neg f];have a:decide ((200:Int)<((ks.map T.int).length:Int))=true:=É (by rw[À];lia)
 change ks.map T.int=KT
 simp![-DN,b,Ij,i,d,sm,e,a,La]
abbrev O3:Stmt:=AO 47
def Q5:AH:=
 (AW<|EZ (m2 Aq (m1 Ap<|AA 1)<|mI 0) (AG (Ds Av Az JL (AA 0) AE)<|mI 0)<|CN BX Bb 1<|AG (AA 1)<|m1 Ec<|mI 1)
def Mz:kL->Option Ru:=A9 2 2 Q5
abbrev Yq:=fA 2 2 O3 Mz
abbrev zby:Gx:={ DC with cl:=[("Door",BX,Bb)],mt:=[("rooms",Av,Az,Ry)] }
abbrev zc5:Gm:=gA O3 1 [] ["len"] (ox:=zby)
theorem zcf:Ck zc5 Yq O3 Q5:={}
def Cc(M:Mc)(l:kI):Str:=match l.getLast? with
 |some d=>d.e|none=>Fd M
def Zj{M:Mc}(h:McOk M){l:kI}(a:∀d∈l,d∈M.ds):AV (l.map Ad)=true:=Ea λd hd=>KO<|h.d d<|a d hd
def zpl{M:Mc}(h:McOk M){l:kI}(a:∀d∈l,d∈M.ds):Cc M l∈M.rs.map (·.1):=by
 unfold Cc;cases e:l.getLast? with
 |none=>exact VH h|some d=>exact(h.d d<|a d<|List.mem_of_getLast? e).e
def bH{α:Type}{l:List α}{d:α}(e:l.getLast?=↑d):AM l (-1)=↑d:=by
 have b:0<l.length:=by
  cases l with
  |nil=>cases e|cons a r=>simp
 unfold AM CV;rw[if_neg (by decide),if_pos (by lia),ĵ,<- e,List.getLast?_eq_getElem?]
 congr 1
 lia
def lr_ok{M:Mc}(h:McOk M){l:kI}(g:∀d∈l,d∈M.ds):Mz [BF M,.lst<|l.map Ad]=↑(.ok<|.str<|Cc M l):=by
 have sm:=G9 h;have f:=Cf _ sm;have k:JL [BF M]=↑(.ok (.own ((M.rs.map (·.1)).map T.str))):=X6 h;have ma:=X7 h;have b:=Jj M;have i:=Zj h g;have c:=AK _ i;unfold Mz Q5 Cc;cases e:l.getLast? with
 |none=>
  have:l=[]:=List.getLast?_eq_none_iff.mp e;subst this
  simp![-DN,b,Dx,sm,f,k,ma,AX,AU]
 |some d=>
  have hd:=g d<|List.mem_of_getLast? e;have gs:=(h.d d hd).g.sh
  have m:0<l.length:=by
   cases l with
   |nil=>cases e|cons a r=>simp
  have ne:(((l.map Ad).length:Int) == 0)=false:=by rw[ļ,À];lia
  have j:AM (l.map Ad) (-1)=↑(Ad d):=Mn Ad<|bH e;change l.map Ad=LT
  simp![-DN,b,Dx,sm,f,ne,j,i,c,gs,AK _ gs,AX,AU]
abbrev OZ:Stmt:=AO 48
def Nc:AH:=
 (Fu 3<|AS My<|mJ 1<|AB (AG (AA 2)<|AA 4)<|mJ 5<|mJ 6 AE)
def Q3:AH:=
 (AF (CY 3<|BG AE)
 (AF (BN (BA<|AA 0) (Au 3<|AL (AD 4)<|AL (AD 5)<|AL (AD 6) Aw) Nc)
 (AW<|AA 3)))
def JF:kL->Option Ru:=A9 3 7 Q3
abbrev Rm:=fA 3 3 OZ JF
abbrev zc4:Gm:=gA OZ 2 [("look_bounds",Yp)] [] ["bounds"]
theorem zce:Ck zc4 Rm OZ Q3:={}
abbrev CK(n:Nat)(sa:Nat->Nat):kL:=mT n λp=>.int ((sa p:Nat):Int)
abbrev IJ(l:kL):T:=.nd false .rl l
def Bm(L:List<|Nat×Nat×Int)(t:Nat)(sa:Nat->Nat):List Dv.Lim:=L.flatMap λl=>D0 t (sa l.1) l.2.1 l.2.2
def Gd:∀(L:List<|Nat×Nat×Int) (t:Nat) (sa:Nat->Nat),(Bm L t sa).length<=2 * L.length
 |[],ϊ,ϋ=>Ç _|l::L,t,sa=>by
  have b:=zkz t (sa l.1) l.2.1 l.2.2;have a:=Gd L t sa;unfold Bm at a ⊢;rw[List.flatMap_cons,à,Þ]
  lia
def MP(L:List Dv.Lim):AV (L.map BC)=true:=Xw L
def Ig(L:List Dv.Lim):BP (L.map BC)=L.map BC:=Xv L
def L5(n:Nat)(sa:Nat->Nat):AV (CK n sa)=true:=IF _
def RL{m:Nat}{L:List<|Nat×Nat×Int}(v:NY m L)(B:L.length<=1000)(t:Nat)(sa:Nat->Nat):JF [.lst<|L.map Dt,.int (t:Int),IJ<|CK (m+1) sa]=↑(.ok<|.own<|(Bm L t sa).map BC):=by
 have o:=MM L;have d:=AK _ o;have ss:=L5 (m+1) sa;have c:=AK _ ss;have w:=Gd L t sa
 let(Y,e,g,h,k,rfl):=Yd (b:=Au 3<|AL (AD 4)<|AL (AD 5)<|AL (AD 6) Aw) (body:=Nc) Dt (λ(a:List Dv.Lim) Y=>∃g h k,Y=[↑(.lst<|L.map Dt),↑(.int (t:Int)),↑(IJ<|CK (m+1) sa),↑(.own<|a.map BC),g,h,k]) (λl=>D0 t (sa l.1) l.2.1 l.2.2) 2000 L []
  [↑(.lst<|L.map Dt),↑(.int (t:Int)),↑(IJ<|CK (m+1) sa),↑(.own []),none,none,none] {(none),none,none,rfl} (by unfold Bm at w;erw[Č];lia) λl f a Y x A=>by
   let(g,h,k,rfl):=x;let(z,s,u):=v l f;have p:AM (CK (m+1) sa) (l.1:Int)=↑(.int (sa l.1:Int)):=BO s;have q:=zoy (i:=t) (j:=sa l.1) (n:=l.2.2) u
   have r:(a.map BC).length+((D0 t (sa l.1) l.2.1 l.2.2).map BC).length<=100000:=by
    rw[À,À];lia
   have y:=Ig<|D0 t (sa l.1) l.2.1 l.2.2;refine{[↑(.lst<|L.map Dt),↑(.int (t:Int)),↑(IJ<|CK (m+1) sa),↑(.own<|a.map BC),↑(.int (l.1:Int)),↑(.str<|Ei l.2.1),↑(.int l.2.2)],by simp![],[↑(.lst<|L.map Dt),↑(.int (t:Int)),↑(IJ<|CK (m+1) sa),↑(.own<|(a++D0 t (sa l.1) l.2.1 l.2.2).map BC),↑(.int (l.1:Int)),↑(.str<|Ei l.2.1),↑(.int l.2.2)],?_,_,_,_,rfl}
   rw[â];change L.map Dt=LT;change CK (m+1) sa=ST;change (D0 t (sa l.1) l.2.1 l.2.2).map BC=BT;change a.map BC=AT;unfold Nc
   simp![ss,c,p,q,r,y]
 rw[Ũ]at e;have eb:(Bm L t sa).map BC=(L.flatMap λl=>D0 t (sa l.1) l.2.1 l.2.2).map BC:=rfl
 have sb:=MP<|L.flatMap λl=>D0 t (sa l.1) l.2.1 l.2.2
 rw[eb];change L.map Dt=LT;change CK (m+1) sa=ST;change (L.flatMap λl=>D0 t (sa l.1) l.2.1 l.2.2).map BC=BT;unfold JF Q3
 simp![o,d,ss,c,e,sb]
theorem RM{m N:Nat}{L:List<|Nat×Nat×Int}(b:NY m L){t:Nat}{sa:Nat->Nat}(e:t<N)(d:∀p,p<m+1->sa p<N):Dv.In N<|Bm L t sa:=λx a=>by
 let(l,c,a):=Ÿ.mp a;exact zoz e (d _ (b l c).2.1) x a
abbrev ON:Stmt:=AO 49
def QS:AH:=
 (AF (AQ (AS GK<|mJ 0<|AB (Ds Av Az Kb (AA 0)<|mJ 1 AE) AE)<|AD 4)
 (AW<|m2 Ak (BG<|Ah (BM<|AB (m2 DQ (AA 2)<|mI 1)<|mJ 2<|AB (AS GL<|AB (mI 0) AE) AE) AE)<|AS JF<|mJ 4<|mJ 2<|mJ 3 AE))
def K4:kL->Option Ru:=A9 4 5 QS
abbrev Yg:=fA 6 4 ON K4
abbrev zay:Gx:={ DC with mt:=[("stay",Av,Az,ZD)] }
abbrev zb2:Gm:=gA ON 5 [("placed",Rj),("at_most",KG),("looked_at",Rm)] [] (ox:=zay)
theorem zb8:Ck zb2 Yg ON QS:={}
def Bu(M:Mc)(x:Str)(t:Nat)(sa:Nat->Nat):List Dv.Lim:=(t - 1,t,1)::Bm (DS M.ws M.rs x) t sa
structure Sh1(M:Mc):Prop where
 r:∀r∈M.rs,r.2.length<=100
 d:∀d∈M.ds,d.g.length<=100
def U7{M:Mc}(s:Sh1 M)(x:Str):(DS M.ws M.rs x).length<=100:=by
 unfold DS;rw[À];cases e:M.rs.find? λq=>decide (q.1=x) with
 |none=>simp_all|some r=>exact s.r r<|List.mem_of_find?_eq_some e
def Kr{M:Mc}(s:Sh1 M)(x:Str)(t:Nat)(sa:Nat->Nat):(Bu M x t sa).length<=201:=by
 have a:=Gd (DS M.ws M.rs x) t sa;have b:=U7 s x;unfold Bu;rw[Þ]
 lia
def Tf{M:Mc}(h:McOk M)(s:Sh1 M){x:Str}(v:x∈M.rs.map (·.1)){t:Nat}(y:1<=t)(sa:Nat->Nat):K4 [BF M,.str x,.int (t:Int),IJ<|CK (M.ws.length+1) sa]=↑(.ok<|.own<|(Bu M x t sa).map BC):=by
 have sm:=G9 h;have q:=Cf _ sm;let(i,f,k):=ņ.mp v;rw[À]at f;rw[Ķ]at k;subst k;have l:=Ï f;have hk:=(h.r.lk _ l);have o:Kb [BF M,.str M.rs[i].1]=↑(.ok<|.own M.rs[i].2):=zkn h f;have j:GK [BF M,.lst M.rs[i].2]=↑(.ok<|.own<|M.rs[i].2.map (Fv M.ws)):=QD h hk.1.wd (λϊ z=>z) hk.2
 rw[QB hk.1.wd,<- U8 h.r.nd l]at j;have u:=U6 h M.rs[i].1;have A:=U7 s M.rs[i].1;have p:=RL u (by lia) t sa
 have n:=MM<|DS M.ws M.rs M.rs[i].1;have d:=AK _ n;have m:=hk.1.sh;have c:=AK _ m;have ss:=L5 (M.ws.length+1) sa;have e:=AK _ ss;have sb:=MP<|Bm (DS M.ws M.rs M.rs[i].1) t sa;have b:=AK _ sb;have g:=Jj M
 have w:((Bm (DS M.ws M.rs M.rs[i].1) t sa).map BC).length<=99999:=by
  have:=Gd (DS M.ws M.rs M.rs[i].1) t sa;rw[À];lia
 have r:((t:Int) - 1)=((t - 1:Nat):Int):=by lia
 unfold Bu;rw[Õ,show BC (t - 1,t,1)=.tup [.int ((t - 1:Nat):Int),.int (t:Int),.int 1] from rfl,<- r];change (DS M.ws M.rs M.rs[i].1).map Dt=LT;change (Bm (DS M.ws M.rs M.rs[i].1) t sa).map BC=BT;change CK (M.ws.length+1) sa=ST;change M.rs[i].2=KT;change M.rs[i].1=x;have a:1+BT.length<=100000:=by lia
 unfold K4 QS
 simp![-DN,g,sm,q,o,m,c,j,n,d,ss,e,p,sb,b,Ms,a]
theorem Tg{M:Mc}(h:McOk M){N t:Nat}{x:Str}{sa:Nat->Nat}(c:t<N)(b:∀p,p<M.ws.length+1->sa p<N):Dv.In N<|Bu M x t sa:=λy a=>by
 rcases Î.mp a with rfl|a;lia;exact RM (U6 h x) c b y a
abbrev OS:Stmt:=AO 50
def S8:AJ:=
 (mI 0)
def Nb:AH:=
 (HG 5 (AA 10)<|AA 8)
def Kw:AH:=
 (AF (Fu 6<|EY 5<|AS K4<|mJ 0<|AB (CN BX Bb 0<|AA 9)<|mJ 8<|mJ 5 AE)
 (AF (Fu 6<|EY 5<|AS JF<|AB (AS GK<|mJ 0<|AB (Ds BX Bb NV (AA 9) AE) AE)<|mJ 8<|mJ 5 AE)
 (BN (BA<|AS Mx<|mJ 0<|mJ 9 AE) (AD 10) Nb)))
def QX:AH:=
 (AF (AQ (AS JC<|mJ 0<|mJ 1 AE)<|AD 3)
 (AF (AQ (AS GK<|mJ 0<|mJ 2 AE)<|AD 4)
 (AF (CY 5<|BJ 1 [] (Bc<|AB (m2 Ak (m1 Ap<|Ds Av Az JJ (AA 0) AE)<|mI 1) AE) (AD 0) (mC<|.bl true) S8)
 (AF (CY 6<|BG AE)
 (AF (BN (Gh<|mJ 3 AE) (Au 2<|AL (AD 8)<|AL (AD 9) Aw) Kw)
 (AF (AQ (m2 Ak (m1 Ap<|AA 3)<|mI 1)<|AD 7)
 (AF (Fu 6<|EY 5<|AS K4<|mJ 0<|AB (AS Mz<|mJ 0<|mJ 3 AE)<|mJ 7<|mJ 5 AE)
 (AF (Fu 6<|EY 5<|AS JF<|mJ 4<|mJ 7<|mJ 5 AE)
 (AW<|AA 6)))))))))
def JD:kL->Option Ru:=A9 3 11 QX
abbrev Yk:=fA 7 3 OS JD
abbrev zaz:Gx:={ DC with cl:=[("Door",BX,Bb)],mt:=[("watches",Av,Az,Rw),("asks",BX,Bb,ZZ)] }
abbrev zb3:Gm:=gA OS 6 [("road_doors",Yj),("placed",Rj),("waited_till",Yg),("looked_at",Rm),("nought_places",Yn),("last_room",Yq)] ["range","len","enumerate"] ["bounds","set_at"] (ox:=zaz) (mv:=["set_at"]) (N:=["machine","road","guard","doors","looks","set_at","bounds","end","time","door","place"])
theorem zb9:Ck zb3 Yk OS QX:={}
def Bv(ps:kG)(t:Nat)(sa:Nat->Nat):Nat->Nat:=λp=>if p∈ps then t else sa p
def zge(p:Nat)(ps:kG)(t:Nat)(sa:Nat->Nat):Bv (p::ps) t sa=Bv ps t (Bv [p] t sa):=by
 funext q;unfold Bv;by_cases a:q∈ps<;>by_cases b:q=p<;>simp[a]
def zmi{n p:Nat}(t:Nat)(sa:Nat->Nat):(CK n sa).set p (.int (t:Int))=CK n (Bv [p] t sa):=by
 rw[IW];refine EC λk hk=>?_;unfold Bv;by_cases e:k=p<;>simp[e]
def VJ{n t:Nat}{a0 a1 a2 a3 a4 a6 a7 a9:kH}:∀(ps:kG) (sa:Nat->Nat) (x:kH),(∀p∈ps,p<n)->∃y,Ao (AD 10) Nb (IM ps) [a0,a1,a2,a3,a4,↑(.own<|CK n sa),a6,a7,↑(.int (t:Int)),a9,x]=↑(.nx [a0,a1,a2,a3,a4,↑(.own<|CK n<|Bv ps t sa),a6,a7,↑(.int (t:Int)),a9,y])
 |[],sa,x,ϊ=>{x,by
   rfl}
 |p::ps,sa,x,h=>by
  let(y,e):=VJ ps (Bv [p] t sa) (↑(.int (p:Int))) λq a=>h q<|Ì _ a
  have c:=h p (Í ..)
  have b:CV (CK n sa).length (p:Int)=↑p:=by
   rw[BQ];unfold CV;simp;lia
  have st:=zmi (n:=n) (p:=p) t sa;refine{y,?_};rw[zge];refine(Gk (τ1:=[a0,a1,a2,a3,a4,↑(.own<|CK n sa),a6,a7,↑(.int (t:Int)),a9,↑(.int (p:Int))]) (by rfl) ?_).trans e;rw[<- st];unfold Nb;change CK n sa=ST
  simp![b]
def CM(M:Mc):kI->Nat->(Nat->Nat)->List Dv.Lim×(Nat->Nat)
 |[],ϊ,sa=>([],sa)|d::r,t,sa=>((Bu M d.s t sa++Bm (d.g.map<|A7 M.ws) t sa)++(CM M r (t+1)<|Bv (An M.ws d.n) t sa).1,(CM M r (t+1)<|Bv (An M.ws d.n) t sa).2)
def np_lt{M:Mc}(h:McOk M){d:Dr}(hd:d∈M.ds):∀p∈An M.ws d.n,1<=p/\p<M.ws.length+1:=λp a=>by
 let(x,b,rfl):=Ò.mp a;let(j,c,e,_):=HX<|(h.d d hd).n x b
 simp_all
def Jg:∀B:List Dv.Lim,Et (B.map BC)=true
 |[]=>rfl|b::B=>by
  rw[Õ,Et,Jg B];rfl
def Xu{n:Nat}{sa:Nat->Nat}:FU (CK n sa)=true/\GC (CK n sa)=CK n sa:=by
 have:∀l:kG,FU (l.map λp=>T.int ((sa p:Nat):Int))=true/\GC (l.map λp=>T.int ((sa p:Nat):Int))=l.map λp=>T.int ((sa p:Nat):Int):=λl=>by
  induction l with
  |nil=>exact{(rfl),rfl}|cons a r b=>exact{by rw[Õ,FU,b.1];rfl,by rw[Õ,GC,b.2];rfl}
 exact this<|List.range n
abbrev rS(M:Mc)(R G DT LT:T)(sa:Nat->Nat)(B:List Dv.Lim)(x7 a b x10:kH):AN:=[↑(BF M),↑R,↑G,↑DT,↑LT,↑(.own<|CK (M.ws.length+1) sa),↑(.own<|B.map BC),x7,a,b,x10]
def zja{M:Mc}(h:McOk M)(s:Sh1 M){d:Dr}(hd:d∈M.ds){t:Nat}(y:1<=t)(sa:Nat->Nat)(R G DT LT:T)(B:List Dv.Lim)(F:B.length<=90000)(x7 x10:kH) :
  ∃y10,Kw (rS M R G DT LT sa B x7 (↑(.int (t:Int))) (↑(Ad d)) x10) =
   ↑(.nx<|rS M R G DT LT (Bv (An M.ws d.n) t sa) (B++(Bu M d.s t sa++Bm (d.g.map<|A7 M.ws) t sa)) x7 (↑(.int (t:Int))) (↑(Ad d)) y10):=by
 have D:=h.d d hd;have sm:=G9 h;have e:=Cf _ sm;have gs:=D.g.sh;have a:=AK _ gs;have c:=KO D;have v:=Cf _ c;have o:=Tf h s D.s y sa;have k:GK [BF M,.lst d.g]=↑(.ok<|.own<|d.g.map<|Fv M.ws):=QD h D.g (λϊ z=>z) D.gl
 rw[QB D.g]at k;have q:=RL (Jc D.g) (by have:=D.gl;rw[À];lia) t sa
 have r:=np_ok h hd;have u:=zlk (d:=d) gs;let(l1,l2):=Xu (n:=M.ws.length+1) (sa:=sa);have ss:=L5 (M.ws.length+1) sa;have b:=AK _ ss;have A:=Jg<|Bu M d.s t sa;have C:=Jg<|Bm (d.g.map<|A7 M.ws) t sa;have i:=Ig<|Bu M d.s t sa;have j:=Ig<|Bm (d.g.map<|A7 M.ws) t sa;have H:=Kr s d.s t sa;have E:=Gd (d.g.map<|A7 M.ws) t sa;have I:=s.d d hd;rw[À]at E;have c1:(B.map BC).length+((Bu M d.s t sa).map BC).length<=100000:=by rw[À,À];lia
 have c2:(B.map BC++(Bu M d.s t sa).map BC).length+((Bm (d.g.map<|A7 M.ws) t sa).map BC).length<=100000:=by rw[à,À,À,À];lia
 have l:=MM<|d.g.map<|A7 M.ws;have f:=AK _ l;have m:=zoo<|An M.ws d.n;have g:=AK _ m;let(y10,w):=VJ (n:=M.ws.length+1) (t:=t) (a0:=↑(BF M)) (a1:=↑R) (a2:=↑G) (a3:=↑DT) (a4:=↑LT) (a6:=↑(.own<|(B++(Bu M d.s t sa++Bm (d.g.map<|A7 M.ws) t sa)).map BC)) (a7:=x7) (a9:=↑(Ad d)) (An M.ws d.n) sa x10 λp x=>(np_lt h hd p x).2
 refine{y10,?_};unfold rS;rw[<- w,â,â];unfold Kw;change IM (An M.ws d.n)=NT;change (d.g.map<|A7 M.ws).map Dt=KT;change (Bu M d.s t sa).map BC=WT;change (Bm (d.g.map<|A7 M.ws) t sa).map BC=QT;change CK (M.ws.length+1) sa=ST;change B.map BC=BT;exact sq (by simp![EY,MW,T.lnd,T.lend,T.noR,l1,l2,sm,e,gs,a,AX,AU,ss,b,o,A,i,c1];rfl)<|sq (by simp![EY,MW,T.lnd,T.lend,T.noR,l1,l2,sm,e,gs,a,AX,AU,ss,b,u,k,l,f,q,C,j,c2,Ĥ];rfl)<|by simp![sm,e,gs,a,AX,AU,r,m,g]
def VL{M:Mc}(s:Sh1 M):∀(ds:kI) (t:Nat) (sa:Nat->Nat),(∀d∈ds,d∈M.ds)->(CM M ds t sa).1.length<=401 * ds.length
 |[],ϊ,ϋ,ό=>Ç _|d::r,t,sa,h=>by
  have i:=VL s r (t+1) (Bv (An M.ws d.n) t sa) λx a=>h x<|Ì _ a
  have c:=Kr s d.s t sa;have b:=Gd (d.g.map<|A7 M.ws) t sa;have e:=s.d d<|h d (Í ..);rw[À]at b;show((Bu M d.s t sa++Bm (d.g.map<|A7 M.ws) t sa)++(CM M r (t+1)<|Bv (An M.ws d.n) t sa).1).length<=_;rw[à,à,Þ]
  lia
def VI{M:Mc}(h:McOk M)(s:Sh1 M){R G DT LT:T}{x7:kH}:∀(ds:kI) (t:Nat) (sa:Nat->Nat) (B:List Dv.Lim) (x8 x9 x10:kH),(∀d∈ds,d∈M.ds)->1<=t->B.length+401 * ds.length<=90000 ->
  ∃y8 y9 y10,Ao (Au 2<|AL (AD 8)<|AL (AD 9) Aw) Kw (E4 t<|ds.map Ad) (rS M R G DT LT sa B x7 x8 x9 x10) =
   ↑(.nx<|rS M R G DT LT (CM M ds t sa).2 (B++(CM M ds t sa).1) x7 y8 y9 y10)
 |[],t,sa,B,x8,x9,x10,ϊ,ϋ,ό=>{x8,x9,x10,by
   rw[show(CM M [] t sa).1=[] from rfl,ċ]
   rfl}
 |d::r,t,sa,B,x8,x9,x10,hd,g,f=>by
  rw[Þ]at f;have a:=hd d (Í ..);let(y10,e):=zja h s a g sa R G DT LT B (by lia) x7 x10
  have m:=Kr s d.s t sa;have j:=Gd (d.g.map<|A7 M.ws) t sa;have n:=s.d d a;rw[À]at j;let(k,l,b,c):=VI h s r (t+1) (Bv (An M.ws d.n) t sa) (B++(Bu M d.s t sa++Bm (d.g.map<|A7 M.ws) t sa)) (↑(.int (t:Int))) (↑(Ad d)) y10 (λx i=>hd x<|Ì _ i) (by lia) (by rw[à,à];lia)
  refine{k,l,b,(Gk rfl e).trans (c.trans ?_)};rw[Ĥ B];rfl
def Cy(M:Mc)(ds:kI)(g:List<|Nat×Nat×Int):List Dv.Lim:=(CM M ds 1 λϊ=>0).1++(Bu M (Cc M ds) (ds.length+1) (CM M ds 1 λϊ=>0).2++Bm g (ds.length+1) (CM M ds 1 λϊ=>0).2)
def Pj(M:Mc)(g:kL):Option (kI)->Ru
 |some l=>.ok (.own<|(Cy M l<|g.map<|A7 M.ws).map BC)|none=>.exc "NoRoad"
def Le{M:Mc}{ks:kF}{l:kI}(e:ES M ks=↑l):(∀d∈l,d∈M.ds)/\l.length=ks.length/\ks.length<=200:=by
 unfold ES at e;split at e;exact{(Pp e).1,(Pp e).2,by assumption};cases e
def rb_ok{M:Mc}(h:McOk M)(s:Sh1 M)(ks:kF){g:kL}(j:Ax M.ws B5 g)(gl:g.length<=100):JD [BF M,.lst<|ks.map T.int,.lst g]=↑(Pj M g<|ES M ks):=by
 have sm:=G9 h;have y:=Cf _ sm;have A:=Dd ks;have w:=Dw ks;have sg:=j.sh;have v:=AK _ sg;have b:=Jj M;have d:=rd_ok h ks;unfold JD QX;cases e:ES M ks with
 |none=>
  rw[e]at d;have a:JC [BF M,.lst<|ks.map T.int]=↑(.exc "NoRoad"):=d;change ks.map T.int=KT
  simp![-DN,b,A,w,sg,v,sm,y,a,Pj]
 |some l=>
  rw[e]at d;let(c,Q,O):=Le e;have a:JC [BF M,.lst<|ks.map T.int]=↑(.ok<|.own<|l.map Ad):=d;have C:=Zj h c;have o:=AK _ C;have u:GK [BF M,.lst g]=↑(.ok<|.own<|g.map<|Fv M.ws):=QD h j (λϊ z=>z)<|by lia
  rw[QB j]at u;have I:JJ [BF M]=↑(.ok<|.own<|M.ws.map T.str):=X5 h;have B:=MM<|g.map<|A7 M.ws;have m:=AK _ B;have wl:=h.wl;have ok:Bh ((M.ws.length:Int)+1)=true:=Dl (n:=M.ws.length+1)<|by lia
  have H:Bs (AD 0) (mC<|.bl true) S8 (BW 0<|M.ws.length+1) [none]=↑(CK (M.ws.length+1) λϊ=>0):=by
   rw[show BW 0 (M.ws.length+1)=mT (M.ws.length+1) λi=>.int (i:Int) from Ci];exact Du (n:=M.ws.length+1) (me:=S8) (x:=none) (cs:=[]) (g:=λi=>.int (i:Int)) (f:=λϊ=>.int ((0:Nat):Int)) λi P=>rfl
  let(S,U,L,k):=VI h s (R:=.lst<|ks.map T.int) (G:=.lst g) (DT:=.lst<|l.map Ad) (LT:=.lst<|(g.map<|A7 M.ws).map Dt) (x7:=none) l 1 (λϊ=>0) [] none none none c (Ç _) (by erw[Č];lia);have D:=lr_ok h c;have z0:=VL s l 1 (λϊ=>0) c
  unfold rS at k;rw[Ũ,Ő]at k;rw[show Pj M g ↑l=.ok (.own<|((CM M l 1 λϊ=>0).1++(Bu M (Cc M l) (l.length+1) (CM M l 1 λϊ=>0).2++Bm (g.map<|A7 M.ws) (l.length+1) (CM M l 1 λϊ=>0).2)).map BC) from rfl];change (CM M l 1 λϊ=>0).1=BL;change (CM M l 1 λϊ=>0).2=sa;have sb:=MP<|BL++(Bu M (Cc M l) (l.length+1) sa++Bm (g.map<|A7 M.ws) (l.length+1) sa);rw[â,â]at sb ⊢;have E:=Tf h s (zpl h c) (t:=l.length+1) (by lia) sa
  have F:=RL (Jc j) (by rw[À];lia) (l.length+1) sa;let(l1,l2):=Xu (n:=M.ws.length+1) (sa:=sa);have ss:=L5 (M.ws.length+1) sa;have p:=AK _ ss;have J:=Jg<|Bu M (Cc M l) (l.length+1) sa;have K:=Jg<|Bm (g.map<|A7 M.ws) (l.length+1) sa;have q:=Ig<|Bu M (Cc M l) (l.length+1) sa;have r:=Ig<|Bm (g.map<|A7 M.ws) (l.length+1) sa;have V:=Kr s (Cc M l) (l.length+1) sa;have N:=Gd (g.map<|A7 M.ws) (l.length+1) sa;rw[À]at N;have c1:(BL.map BC).length+((Bu M (Cc M l) (l.length+1) sa).map BC).length<=100000:=by rw[À,À];lia
  have c2:(BL.map BC++(Bu M (Cc M l) (l.length+1) sa).map BC).length+((Bm (g.map<|A7 M.ws) (l.length+1) sa).map BC).length<=100000:=by rw[à,À,À,À];lia
  have rl:(BW 0<|M.ws.length+1).length<=100000:=by unfold BW;rw[À,Ċ];lia
  have en:(((l.map Ad).length:Int)+1)=((l.length+1:Nat):Int):=by rw[À];lia
  have tn:((M.ws.length:Int)+1).toNat=M.ws.length+1:=by lia
  change (g.map<|A7 M.ws).map Dt=LT;change (Bu M (Cc M l) (l.length+1) sa).map BC=WT;change (Bm (g.map<|A7 M.ws) (l.length+1) sa).map BC=QT;change BL.map BC=BT;change CK (M.ws.length+1) sa=ST;change CK (M.ws.length+1) (λϊ=>0)=S0;change l.map Ad=DL;change Cc M l=xe;change ks.map T.int=KT
  simp![-DN,b,EY,MW,T.lnd,T.lend,T.noR,A,w,sg,v,sm,y,a,C,o,u,B,m,I,AX,AU,À,ok,tn,H,rl,k,en,D,l1,l2,ss,p,E,J,q,c1,F,K,r,c2,Ĥ,sb]
def zmc{ps:kG}{t N:Nat}{sa:Nat->Nat}(b:t<N)(a:∀p,sa p<N):∀p,Bv ps t sa p<N:=λp=>by
 unfold Bv;split;exact b;exact a p
def VM{M:Mc}(h:McOk M){N:Nat}:∀(ds:kI) (t:Nat) (sa:Nat->Nat),(∀d∈ds,d∈M.ds)->t+ds.length<=N->(∀p,sa p<N)->Dv.In N (CM M ds t sa).1/\∀p,(CM M ds t sa).2 p<N
 |[],ϊ,ϋ,ό,ύ,b=>{λx a=>(by cases a),b}|d::r,t,sa,hd,c,b=>by
  rw[Þ]at c;have i:=VM h r (t+1) (Bv (An M.ws d.n) t sa) (λx a=>hd x<|Ì _ a) (by lia)<|zmc (by lia) b
  refine{λx a=>?_,i.2};rcases å.mp a with a|a;rcases å.mp a with a|a;exact Tg h (by lia) (λp ϊ=>b p) x a;exact RM (Jc (h.d d<|hd d (Í ..)).g) (by lia) (λp ϊ=>b p) x a;exact i.1 x a
theorem VN{M:Mc}(h:McOk M){ds:kI}(hd:∀d∈ds,d∈M.ds){g:kL}(e:Ax M.ws B5 g):Dv.In (ds.length+2)<|Cy M ds<|g.map<|A7 M.ws:=λx a=>by
 let(c,b):=VM h (N:=ds.length+2) ds 1 (λϊ=>0) hd (by lia) λϊ=>by lia
 rcases å.mp a with a|a;exact c x a;rcases å.mp a with a|a;exact Tg h (by lia) (λp ϊ=>b p) x a;exact RM (Jc e) (by lia) (λp ϊ=>b p) x a
abbrev OP:Stmt:=AO 51
def S7:AJ:=
 (mC .non)
def KS:AJ:=
 (BJ 1 [] (Bc<|mJ 1 AE) (AD 0) (mC<|.bl true) S7)
def Na:AH:=
 (Ft 5 (AA 6) (AA 7)<|AS JE<|AB (AG (AG (AA 5)<|AA 6)<|AA 7)<|mJ 8 AE)
def QV:AH:=
 (AF (AQ (AS JD<|mJ 0<|mJ 1<|mJ 2 AE)<|AD 3)
 (AF (AQ (m2 Ak (m1 Ap<|AA 1)<|mI 2)<|AD 4)
 (AF (CY 5<|BJ 1 [4] (Bc<|mJ 4 AE) (AD 0) (mC<|.bl true) KS)
 (AF (BN (BA<|AA 3) (Au 3<|AL (AD 6)<|AL (AD 7)<|AL (AD 8) Aw) Na)
 (AF (EM 5)<|AW<|AS Hm<|mJ 5 AE)))))
def K5:kL->Option Ru:=A9 3 9 QV
abbrev Yi:=fA 8 3 OP K5
abbrev zc2:Gm:=gA OP 7 [("road_bounds",Yk),("narrower",Rl),("narrowest",Yo)] ["len","range"] ["rows"]
theorem zcc:Ck zc2 Yi OP QV:={}
abbrev oZ(n:Nat)(f:Db.Z):kL:=mT n λi=>.own<|mT n λj=>bT<|f i j
def zkf{n:Nat}{f:Db.Z}{a b:Nat}{c:Db.B}:(oZ n f).set a (.own<|(mT n λj=>bT<|f a j).set b (bT c))=oZ n λi j=>if i=a/\j=b then c else f i j:=by
 rw[IW,IW];refine EC λi d=>?_;by_cases e:i=a;subst e;rw[if_pos rfl,EC λj g=>?_];lia;simp_all
def zh3{n:Nat}{g:Db.Z}:BP (oZ n g)=mT n λi=>rT n<|g i:=by
 rw[IE];refine EC λi a=>?_;rw[T.share,IE];erw[Sy]
def FL(f:Db.Z)(x:Dv.Lim):Db.Z:=λi j=>if i=x.1/\j=x.2.1 then Db.mn (f x.1 x.2.1) ↑x.2.2 else f i j
def F9(f:Db.Z)(L:List Dv.Lim):Db.Z:=L.foldl FL f
def RV{n i:Nat}(h:i<n):CV n (i:Int)=↑i:=by unfold CV;simp;lia
def Ut{n:Nat}{a0 a1 a2 a3 a4:kH}:∀(L:List Dv.Lim) (f:Db.Z) (x6 x7 x8:kH),Dv.In n L ->
  ∃y6 y7 y8,Ao (Au 3<|AL (AD 6)<|AL (AD 7)<|AL (AD 8) Aw) Na (L.map BC) [a0,a1,a2,a3,a4,↑(.own<|oZ n f),x6,x7,x8]=↑(.nx [a0,a1,a2,a3,a4,↑(.own<|oZ n<|F9 f L),y6,y7,y8])
 |[],f,x6,x7,x8,ϊ=>{(x6),x7,x8,rfl}|(i,j,c)::L,f,x6,x7,x8,d=>by
  let(g,h):=d (i,j,c) (Í ..);let(y6,y7,y8,e):=Ut L (FL f (i,j,c)) (↑(.int (i:Nat))) (↑(.int (j:Nat))) (↑(.int c)) λx m=>d x<|Ì _ m
  refine{y6,y7,y8,(Gk (τ1:=[a0,a1,a2,a3,a4,↑(.own<|oZ n f),↑(.int (i:Nat)),↑(.int (j:Nat)),↑(.int c)]) (by simp![]) ?_).trans e};have p:CV (oZ n f).length (i:Int)=↑i:=by rw[BQ];exact RV g
  have r:CV (mT n λj=>bT<|f i j).length (j:Int)=↑j:=by rw[BQ];exact RV h
  have g1:(oZ n f)[i]?=↑(.own<|mT n λj=>bT<|f i j):=Eu g;have a1:AM (oZ n f) (i:Int)=↑(.own<|mT n λj=>bT<|f i j):=CW g1;have a2:AM (mT n λj=>bT<|f i j) (j:Int)=↑(bT<|f i j):=BO h;have nr:JE [bT<|f i j,.int c]=↑(.ok<|bT<|Db.mn (f i j) ↑c):=XN (f i j) ↑c;have st:=zkf (n:=n) (f:=f) (a:=i) (b:=j) (c:=Db.mn (f i j) ↑c);rw[show oZ n (FL f (i,j,c))=oZ n λk l=>if k=i/\l=j then Db.mn (f i j) ↑c else f k l from rfl,<- st]
  change Db.mn (f i j) ↑c=o;change oZ n f=OT;change (mT n λj=>bT<|f i j)=RT;change f i j=q;unfold Na;cases q<;>cases o<;>erw[bE,bD]at nr a2<;>simp![p,r,g1,a1,a2,nr,sr]
def Bf(M:Mc)(l:kI)(g:kL):Db.Z:=F9 (λϊ ϊ=>none)<|Cy M l<|g.map<|A7 M.ws
def J7(M:Mc)(g:kL):Option (kI)->Ru
 |some l=>.ok (oT (l.length+2)<|By (l.length+2)<|Bf M l g)|none=>.exc "NoRoad"
def rz_ok{M:Mc}(h:McOk M)(s:Sh1 M)(ks:kF){g:kL}(o:Ax M.ws B5 g)(gl:g.length<=100):K5 [BF M,.lst<|ks.map T.int,.lst g]=↑(J7 M g<|ES M ks):=by
 have sm:=G9 h;have w:=Cf _ sm;have D:=Dd ks;have v:=Dw ks;have sg:=o.sh;have u:=AK _ sg;have d:=rb_ok h s ks o gl;unfold K5 QV;cases e:ES M ks with
 |none=>
  rw[e]at d;have a:JD [BF M,.lst<|ks.map T.int,.lst g]=↑(.exc "NoRoad"):=d;change ks.map T.int=KT
  simp![D,v,sg,u,sm,w,a,J7]
 |some l=>
  rw[e]at d;let(F,A,H):=Le e;have a:JD [BF M,.lst<|ks.map T.int,.lst g]=↑(.ok<|.own<|(Cy M l<|g.map<|A7 M.ws).map BC):=d;have sb:=MP<|Cy M l<|g.map<|A7 M.ws;have m:=Ig<|Cy M l<|g.map<|A7 M.ws;have y:=VN h F o;rw[A]at y;rw[show J7 M g ↑l=.ok (oT (ks.length+2)<|By (ks.length+2)<|Bf M l g) by unfold J7;erw[A]]
  have b:=zoj (n:=ks.length+2) (by lia)<|Bf M l g
  have E:(.lst (BP<|oZ (ks.length+2)<|Bf M l g):T)=zT (ks.length+2) (Bf M l g):=by
   rw[IE];refine congrArg T.lst<|EC λi z=>?_
   show T.lst (BP<|mT (ks.length+2) λj=>bT<|Bf M l g i j)=_;rw[AK _<|CU λϊ=>EH _]
  have en:(((ks.map T.int).length:Int)+2)=((ks.length+2:Nat):Int):=by rw[À];lia
  have ok:Bh ((ks.length+2:Nat):Int)=true:=Dl<|by lia
  have tn:(((ks.length+2:Nat):Int)).toNat=ks.length+2:=by lia
  have C:BW 0 (ks.length+2)=mT (ks.length+2) λi=>.int (i:Int):=Ci;have B:(mT (ks.length+2) λi=>T.int (i:Int)).length<=100000:=by rw[BQ];lia
  have q:Bs (AD 0) (mC<|.bl true) S7 (mT (ks.length+2) λi=>.int (i:Int)) [none]=↑(mT (ks.length+2) λj=>bT none):=Du (n:=ks.length+2) (me:=S7) (x:=none) (cs:=[]) (g:=λi=>.int (i:Int)) (f:=λϊ=>bT none) λi z=>rfl
  have p:∀i:Nat,KS [↑(.int (i:Int)),↑(.int ((ks.length+2:Nat):Int))]=↑(.v (.own<|mT (ks.length+2) λj=>bT none) false):=λi=>by
   change (mT (ks.length+2) λj=>bT none)=NT;change (mT (ks.length+2) λi=>T.int (i:Int))=IT;unfold KS
   simp![ok,tn,C,q,B]
  have r:Bs (AD 0) (mC<|.bl true) KS (mT (ks.length+2) λi=>.int (i:Int)) [none,↑(.int ((ks.length+2:Nat):Int))]=↑(oZ (ks.length+2) λϊ ϊ=>none):=Du (n:=ks.length+2) (me:=KS) (x:=none) (cs:=[↑(.int ((ks.length+2:Nat):Int))]) (g:=λi=>.int (i:Int)) (f:=λϊ=>.own<|mT (ks.length+2) λj=>bT none) λi z=>p i;let(I,J,K,t):=Ut (n:=ks.length+2) (a0:=↑(BF M)) (a1:=↑(.lst<|ks.map T.int)) (a2:=↑(.lst g)) (a3:=↑(.lst<|(Cy M l<|g.map<|A7 M.ws).map BC)) (a4:=↑(.int ((ks.length+2:Nat):Int))) (Cy M l<|g.map<|A7 M.ws) (λϊ ϊ=>none) none none none y;rw[show F9 (λϊ ϊ=>none) (Cy M l<|g.map<|A7 M.ws)=Bf M l g from rfl]at t;rw[<- E]at b;have c:=Fq<|oZ (ks.length+2)<|Bf M l g;have k:=AK _ c;have G:=Vs (ks.length+2)<|By (ks.length+2)<|Bf M l g;change oT (ks.length+2) (By (ks.length+2)<|Bf M l g)=OT;change oZ (ks.length+2) (Bf M l g)=ZT;change (oZ (ks.length+2) λϊ ϊ=>none)=Z0
  change (mT (ks.length+2) λi=>T.int (i:Int))=IT;change (Cy M l<|g.map<|A7 M.ws).map BC=BT;change ks.map T.int=KT
  simp![D,v,sg,u,sm,w,a,sb,m,en,ok,tn,C,r,B,t,c,k,b,G]
abbrev PL:Stmt:=AO 68
def R5:AJ:=
 (Bz (m2 Aq (AG (AG (AA 1)<|AA 0)<|mI 0)<|AA 2)<|m2 Aq (AG (AG (AA 1)<|AA 0)<|mI 4)<|mC<|.str "")
def Sq:AJ:=
 (AA 0)
def LB:AH:=
 (AF (AQ (BJ 1 [7,2] (Bc<|AB (m1 Ap<|AA 7) AE) (AD 0) R5 Sq)<|AD 8)
 (AF (A8 (m2 GH (AA 8)<|BG AE) L8 Aa)
 (AF (Cg 3<|AG (AA 8)<|m2 BB (AA 4)<|m1 Ap<|AA 8)
 (AQ (AG (AG (AA 7)<|AG (AA 3)<|m1 Ec<|mI 1)<|mI 1)<|AD 2))))
def Qu:AH:=
 (AF (AQ (AA 0)<|Au 3<|AL (AD 5)<|AL (AD 6)<|AL (AD 7) Aw)
 (AF (AQ (mI 0)<|AD 2)
 (AF (CY 3<|BG AE)
 (AF (BN (BA<|AA 1) (AD 4) LB)
 (AF (EM 3)<|AW<|BM<|mJ 3<|mJ 2 AE)))))
def NN:kL->Option Ru:=A9 2 9 Qu
abbrev ZL:=fA 1 2 PL NN
abbrev zhn:Gm:=gA PL 0 [] ["range","len"] ["_law_road_here"] (N:=["_law_spec","_law_cells","_law_room","_law_road_here","_law_cell","_law_watches","_law_rooms","_law_doors","_law_ways"])
theorem zi3:Ck zhn ZL PL Qu:={}
def A5(ws:kE)(rs:List<|Str×kL)(dd:List Sd):Mc:={ws,rs,dd.map<|De rs}
structure SpK(ws:kE)(rs:List<|Str×kL)(dd:List Sd):Prop where
 sp:SpOk ws rs dd
 mc:McOk (A5 ws rs dd)
 s1:Sh1 (A5 ws rs dd)
 z:∀d∈dd,TJ d.z
 w2:ws.length<=2
 g2:∀d∈dd,d.g.length<=2
 l2:∀r∈rs,r.2.length<=2
def zpm{ws:kE}{rs:List<|Str×kL}{dd:List Sd}{sz:Nat}(D:DrwOk ws rs dd sz):SpK ws rs dd:=by
 have i:RsOk ws rs:={D.r1,by have:=D.r4;lia,λr a=>by
  have:=D.rn r a;have:=D.sz
  lia,D.rd,λr a=>{(D.rl r a).1,by have:=(D.rl r a).2;lia}}
 have c:∀d∈dd,DrOk ws (rs.map (·.1))<|De rs d:=λd hd=>by
  let(g,h,j,o,k,l,p,m):=D.d d hd;refine{?_,?_,j,by show d.g.length<=1000;lia,k,l,by show d.n.length<=100;lia,?_};show(rs.getD d.b (Str.empty,[])).1∈_;rw[Ö,Á g];exact ň<|Ï g
  show(rs.getD d.e (Str.empty,[])).1∈_;rw[Ö,Á h];exact ň<|Ï h
  rcases m with e|e;exact .inl e;exact .inr<|.inl e
 have wl:=D.wl;have dl:=D.dl;refine{{i,λd hd=>{(D.d d hd).1,(D.d d hd).2.1},c,D.dl},{λx n=>.inr<|D.w x n,D.wd,by show ws.length<=7;lia,i,λd hd=>?_,by show(dd.map _).length<=200;rw[À];lia},{λr a=>by have:=(D.rl r a).2;lia,λd hd=>?_},λd hd=>(D.d d hd).2.2.2.2.2.2.2,wl,λd hd=>(D.d d hd).2.2.2.1,λr a=>(D.rl r a).2}
 let(f,b,rfl):=Ò.mp hd;exact c f b;let(f,b,rfl):=Ò.mp hd;have:=(D.d f b).2.2.2.1
 lia
def Cs(dd:List Sd)(r:Nat)(k:Int):Option Nat:=if 0<=k then (match dd[k.toNat]? with
 |some d=>if d.z=Str.empty/\d.b=r then ↑d.e else none
 |none=>none) else none
def CJ(dd:List Sd):Nat->kF->Option Nat
 |r,[]=>↑r|r,k::a=>(Cs dd r k).bind λe=>CJ dd e a
def Ti{dd:List Sd}:∀(ks:kF) (r:Nat) (js:kF),CJ dd r (ks++js)=(CJ dd r ks).bind λe=>CJ dd e js
 |[],r,js=>rfl|k::ks,r,js=>by
  show(Cs dd r k).bind (λe=>CJ dd e<|ks++js)=((Cs dd r k).bind λe=>CJ dd e ks).bind _;cases Cs dd r k with
  |none=>rfl|some e=>exact Ti ks e js
def Am(rs:List<|Str×kL)(r:Nat):Str:=(rs.getD r (Str.empty,[])).1
def zki{rs:List<|Str×kL}(nd:(rs.map (·.1)).Nodup){i j:Nat}(b:i<rs.length)(c:j<rs.length)(e:Am rs i=Am rs j):i=j:=by
 unfold Am at e;have a:(rs.map (·.1))[i]'(by simp_all)=(rs.map (·.1))[j]'(by simp_all):=by simp_all
 exact(ĥ nd).mp a
set_option tactic.hygienic true in
def Hs{ws:kE}{rs:List<|Str×kL}{dd:List Sd}(h:SpK ws rs dd){r:Nat}{k:Int}{e:Nat}(q:Cs dd r k=↑e):e<rs.length/\0<=k/\k<(dd.length:Int)/\∃d,dd[k.toNat]?=↑d/\d.z=Str.empty/\d.b=r/\d.e=e:=by
 unfold Cs at q;split at q;split at q;rename_i b _ d hd;split at q;rename_i a;cases q;have:=(Ð.mp hd).1;exact{(h.sp.b d<|ì hd).2,b,by lia,d,hd,a.1,a.2,rfl}
 cases q;cases q;cases q
def zn0{ws:kE}{rs:List<|Str×kL}{dd:List Sd}(h:SpK ws rs dd){r:Nat}(e:r<rs.length)(k:Int):(Em (A5 ws rs dd) (Am rs r) k).map (·.e)=(Cs dd r k).map (Am rs):=by
 unfold Em Cs;by_cases b:0<=k;rw[if_pos b,if_pos b];show Option.map _ (match (dd.map<|De rs)[k.toNat]? with|some d=>_|none=>_)=_
 rw[È];cases hd:dd[k.toNat]? with
 |none=>rfl|some d=>
  have c:=h.sp.b d<|ì hd;show Option.map (·.e) (if d.z=Str.empty/\Am rs d.b=Am rs r then ↑(De rs d) else none)=_
  by_cases a:d.z=Str.empty/\d.b=r;rw[if_pos {a.1,by rw[a.2]}];erw[if_pos a];rfl;rw[if_neg λz=>a {z.1,zki h.sp.r.nd c.1 e z.2}];erw[if_neg a];rfl
 rw[if_neg b,if_neg b];rfl
def VG{ws:kE}{rs:List<|Str×kL}{dd:List Sd}(h:SpK ws rs dd):∀(ks:kF) {r:Nat},r<rs.length->(C8 (A5 ws rs dd) (Am rs r) ks).map (λl=>(l.getLast?.map (·.e)).getD (Am rs r))=(CJ dd r ks).map (Am rs)
 |[],r,ϊ=>rfl|k::ks,r,c=>by
  rw[Ja];show _=Option.map _ ((Cs dd r k).bind λe=>CJ dd e ks)
  have a:=zn0 h c k;cases q:Cs dd r k with
  |none=>simp_all|some e=>
   rw[q]at a;cases f:Em (A5 ws rs dd) (Am rs r) k with
   |none=>simp_all|some d=>
    rw[f]at a;have b:d.e=Am rs e:=Ü a;have i:=VG h ks (Hs h q).1;rw[<- b]at i;erw[ĵ];rw[<- i,Option.map_map];refine congrFun (congrArg Option.map<|funext λl=>?_) _
    show((d::l).getLast?.map (·.e)).getD (Am rs r)=(l.getLast?.map (·.e)).getD d.e;rw[List.getLast?_cons];cases l.getLast?<;>rfl
def Pw{ws:kE}{rs:List<|Str×kL}{dd:List Sd}(h:SpK ws rs dd):Fd (A5 ws rs dd)=Am rs 0:=by
 have a:=h.sp.r.l1;unfold Fd Am;show((rs.map (·.1))[0]?).getD _=_;rw[È,Ö,Á<|by lia]
 rfl
def Kt(dd:List Sd)(ks:kF):Option Nat:=if ks.length<=200 then CJ dd 0 ks else none
def zmz{ws:kE}{rs:List<|Str×kL}{dd:List Sd}(h:SpK ws rs dd)(ks:kF):(ES (A5 ws rs dd) ks).map (Cc<|A5 ws rs dd)=(Kt dd ks).map (Am rs):=by
 unfold ES Kt;by_cases a:ks.length<=200;rw[if_pos a,if_pos a,Pw h,<- VG h ks (by have:=h.sp.r.l1;lia)];refine congrFun (congrArg Option.map<|funext λl=>?_) _;unfold Cc;rw[Pw h];cases l.getLast?<;>rfl;rw[if_neg a,if_neg a];rfl
def zlf:GH (.lst []) (.lst [])=↑(.bl true):=by ext
def E7(dd:List Sd)(r:Nat):kG:=(List.range dd.length).filter λk=>(Cs dd r (k:Int)).isSome
def OM{dd:List Sd}{k:Nat}(hk:k<dd.length):AM (dd.map BU) (k:Int)=↑(BU dd[k]):=CW<|by simp_all
def Tj{dd:List Sd}{k r:Nat}(hk:k<dd.length):Cs dd r (k:Int)=if dd[k].z=Str.empty/\dd[k].b=r then ↑dd[k].e else none:=by
 unfold Cs;simp_all
def zij{ws:kE}{rs:List<|Str×kL}{dd:List Sd}(h:SpK ws rs dd)(r:Nat){x:kH}:Bs (AD 0) R5 Sq (BW 0 dd.length) [x,↑(.lst<|dd.map BU),↑(.int (r:Int))]=↑((E7 dd r).map λk:Nat=>T.int (k:Int)):=by
 rw[show BW 0 dd.length=mT dd.length λi=>.int (i:Int) from Ci];refine MO (f:=λk:Nat=>T.int (k:Int)) (p:=λk=>(Cs dd r (k:Int)).isSome) λk hk=>?_;have a:=è.mp hk;have sd:=h.sp.sd;have m:=OM a;have gs:AV dd[k].g=true:=(h.sp.d _<|Ï a).g.sh
 have o:PyData.strOk dd[k].z=true:=by
  rcases h.z _ (Ï a) with e|e<;>rw[e]<;>decide +kernel
 have c:=KN o SK
 have j:∀{x y z v w:T} {l:kL},AM (x::y::z::v::w::l) (4:Int)=↑w:=by
  intro x y z v w l;have:AM (x::y::z::v::w::l) ((4:Nat):Int)=↑w:=CW rfl;exact this
 rw[Tj a];change dd[k]=d;change dd.map BU=DT;unfold R5 Sq;refine{{false,?_},by simp![]};by_cases n:d.b=r;have b:((d.b:Int) == (r:Int))=true:=by rw[n];simp
 by_cases g:d.z=Str.empty;rw[É (show d.z=Str.ofString "" from g)]at c;rw[if_pos {(g),n}]
 simp![sd,m,Dx,b,j,c,gs,AU,AX,AK _ gs,Ů]
 rw[Ù (show ¬ d.z=Str.ofString "" from g)]at c;rw[if_neg λz=>g z.1]
 simp![sd,m,Dx,b,j,c,gs,AU,AX,AK _ gs,Option.isSome_none]
 have b:((d.b:Int) == (r:Int))=false:=by rw[ļ];lia
 rw[if_neg λz=>n z.2]
 simp![sd,m,Dx,b,j,gs,AU,AX,AK _ gs,Option.isSome_none]
def fg_bk{b:T->AN->Option AN}{body:AH}{t:T}{ts:kL}{Y τ1 a:AN}(c:b t Y=↑τ1)(d:body τ1=↑(.bk a)):Ao b body (t::ts) Y=↑(.nx a):=by
 conv=>lhs;unfold Ao
 lia
def Xl{ws:kE}{rs:List<|Str×kL}{dd:List Sd}(h:SpK ws rs dd){a0 a1 a5 a6:kH}:∀(cs:kF) (ks:kF) (r:Nat) (x4 x8:kH),CJ dd 0 ks=↑r->ks.length+cs.length<=1000 ->
  ∃(ks':kF) (r':Nat) (y4 y8:kH),Ao (AD 4) LB (cs.map T.int) [a0,a1,↑(.int (r:Int)),↑(.own<|ks.map T.int),x4,a5,a6,↑(.lst<|dd.map BU),x8]=↑(.nx [a0,a1,↑(.int (r':Int)),↑(.own<|ks'.map T.int),y4,a5,a6,↑(.lst<|dd.map BU),y8])/\CJ dd 0 ks'=↑r'/\ks'.length<=ks.length+cs.length
 |[],ks,r,x4,x8,hk,ϊ=>{ks,r,x4,x8,rfl,hk,Ç _}|c::cs,ks,r,x4,x8,hk,z=>by
  rw[Þ]at z;have g:=zij h r (x:=none);have sd:=h.sp.sd;have s:=AK _ sd;have dl:=h.sp.l;have ok:Bh (dd.length:Int)=true:=Dl<|by lia
  have ll:(BW 0 dd.length).length<=100000:=by unfold BW;rw[À,Ċ];lia
  have t:(dd.map BU).length=dd.length:=À ..;rw[Õ];cases f:E7 dd r with
  |nil=>
   rw[f]at g;refine{ks,r,↑(.int c),↑(.lst []),fg_bk (τ1:=[a0,a1,↑(.int (r:Int)),↑(.own<|ks.map T.int),↑(.int c),a5,a6,↑(.lst<|dd.map BU),x8]) (by simp![]) ?_,hk,by lia};rw[Ő]at g;have j:=zlf;change dd.map BU=DT;change ks.map T.int=KT;unfold LB
   simp![-GH,sd,s,t,ok,á,g,ll,j]
  |cons F G=>
   let(k,p,q):=zop (E7 dd r) (by rw[f];simp) c;have b:=ķ.mp p;have a:k<dd.length:=è.mp b.1;let(e,u):=Ł.mp b.2;have hd:=u.symm.trans<|Tj (r:=r) a
   have o:dd[k].e=e:=by
    split at hd;exact(Ü hd).symm;cases hd
   let(ks',r',y4,y8,A,B,C):=Xl h cs (ks++[(k:Int)]) e (↑(.int c)) (↑(.lst ((E7 dd r).map λk:Nat=>T.int (k:Int)))) (by
    rw[Ti,hk];show(Cs dd r (k:Int)).bind _=_;rw[u]
    rfl) (by rw[à,ı];lia)
   refine{ks',r',y4,y8,(Gk (τ1:=[a0,a1,↑(.int (r:Int)),↑(.own<|ks.map T.int),↑(.int c),a5,a6,↑(.lst<|dd.map BU),x8]) (by simp![]) ?_).trans A,B,by rw[à,ı]at C;rw[Þ];lia};have i:AM ((E7 dd r).map λk:Nat=>T.int (k:Int)) (c.fmod ((E7 dd r).length:Int))=↑(.int (k:Int)):=Mn (λk:Nat=>T.int (k:Int)) q;have v:AV ((E7 dd r).map λk:Nat=>T.int (k:Int))=true:=Ea λϊ ϊ=>rfl;have m:=AK _ v;have nl:((E7 dd r).length:Int)≠0:=zov (by rw[f];simp)
   have n:((E7 dd r).map λk:Nat=>T.int (k:Int)).length=(E7 dd r).length:=À ..;have j:GH (.lst ((E7 dd r).map λk:Nat=>T.int (k:Int))) (.lst [])=↑(.bl false):=by rw[f];rfl
   have D:(ks.map T.int).length<100000:=by rw[À];lia
   have w:AM (ks.map T.int++[.int (k:Int)]) (-1)=↑(.int (k:Int)):=bH<|by simp
   have y:=OM a;have gs:AV dd[k].g=true:=(h.sp.d _<|Ï a).g.sh;have l:(.int (dd[k].e:Int):T)=.int (e:Int):=by rw[o]
   rw[â];have E:=Dd ks;change dd[k]=d;change ((E7 dd r).map λk:Nat=>T.int (k:Int))=WT
   change dd.map BU=DT;change ks.map T.int=KT;change (E7 dd r).length=wl;unfold LB
   simp![-GH,sd,s,t,ok,á,g,ll,j,v,m,n,nl,i,D,w,y,gs,AU,l,E]
def zos{ws:kE}{rs:List<|Str×kL}{dd:List Sd}(h:SpK ws rs dd){cs:kF}(k:cs.length<=100):∃(ks:kF) (r:Nat),NN [BE ws rs dd,.lst<|cs.map T.int]=↑(.ok<|.tup [.lst<|ks.map T.int,.int (r:Int)])/\CJ dd 0 ks=↑r/\ks.length<=cs.length:=by
 have sr:=FQ h.sp.r;have g:=AK _ sr;have sd:=h.sp.sd;have d:=AK _ sd;have i:=Dd cs;have c:=Dw cs;let(ks,r,l,m,e,a,b):=Xl h (a0:=↑(BE ws rs dd)) (a1:=↑(.lst<|cs.map T.int)) (a5:=↑(.lst<|ws.map T.str)) (a6:=↑(C7 rs)) cs [] 0 none none rfl (by erw[Č];lia)
 refine{ks,r,?_,a,by simpa using b};have j:=Dd ks;have f:=Dw ks;rw[Ő,show((0:Nat):Int)=0 from rfl]at e;unfold NN Qu
 simp![AX,AU,sr,g,sd,d,i,c,e,j,f]
abbrev P9:Stmt:=AO 64
def JZ:AJ:=
 (m2 CH (AA 1)<|mI 0)
def Np:AH:=
 (J5 0 1<|mJ 1<|AB (m2 BB (AA 0)<|AA 1) AE)
def RC:AH:=
 (AF (Fs JZ Np)
 (AW<|AA 0))
def NS:kL->Option Ru:=A9 2 2 RC
abbrev ZX:=fA 1 2 P9 NS
abbrev zcx:Gm:=gA P9 0 [] []
theorem zd7:Ck zcx ZX P9 RC:={}
def zky(a:Int){b:Int}(q:0<b):NS [.int a,.int b]=↑(.ok<|.int<|Zm.gd a b):=by
 have d:=zj6 (mc:=JZ) (body:=Np)
  (λY=>∃(g l:Int),Y=[↑(.int g),↑(.int l)]/\Zm.gd g l=Zm.gd a b/\0<=l/\(l=0->0<g))
  (λY=>match Y with|[ϊ,↑(.int l)]=>l.natAbs|ϊ=>0)
  {_,_,rfl,rfl,by lia,λz=>by lia} (by
   rintro Y ⟨g,l,rfl,e,k,i⟩;by_cases f:l=0;right;exact{false,by unfold JZ;simp![Fz,f]}
   left;exact{false,by unfold JZ;simp![Fz];simp[f],[↑(.int l),↑(.int<|g.fmod l)],by unfold Np;simp![f],{_,_,rfl,Zm.gd_turn e,Ā g (by lia),λϊ=>by lia},Zm.fmod_less g f})
 let(m,j,(g,l,rfl,e,k,i),n,o):=d
 have c:l=0:=by
  have p:JZ [↑(.int g),↑(.int l)]=↑(.v (.bl<|!(l == 0)) false):=by rfl
  lia
 unfold NS RC;have h:=Zm.gd_end e c;have:=i c;rw[if_neg<|by lia]at h
 rw[<- h]
 simp![j]
abbrev PM:Stmt:=AO 65
def Qv:AH:=
 (AF (AQ (m2 Ak (m2 BY (AG (AA 0)<|mI 0)<|AG (AA 1)<|mI 1)<|m2 BY (AG (AA 1)<|mI 0)<|AG (AA 0)<|mI 1)<|AD 2)
 (AF (AQ (m2 BY (AG (AA 0)<|mI 1)<|AG (AA 1)<|mI 1)<|AD 3)
 (AF (AQ (AS NS<|mJ 2<|mJ 3 AE)<|AD 4)
 (AW<|BM<|AB (m2 Bt (AA 2)<|AA 4)<|AB (m2 Bt (AA 3)<|AA 4) AE))))
def E6:kL->Option Ru:=A9 2 5 Qv
abbrev Hc:=fA 2 2 PM E6
abbrev zho:Gm:=gA PM 1 [("_law_divisor",ZX)] []
theorem zi4:Ck zho Hc PM Qv:={}
def RH{t b u c:Int}(p:0<b)(r:0<c)(h:t * c=u * b):Zm.lt t b=Zm.lt u c/\Zm.lb t b=Zm.lb u c:=by
 have d:b≠0:=by lia
 have f:c≠0:=by lia
 have g1:=Zm.gd_low (t:=t) d;have g2:=Zm.gd_low (t:=u) f;have A:=Zm.lb_pos (t:=t) p;have B:=Zm.lb_pos (t:=u) r;have s:=Zm.gd_pos (a:=t) d;have v:=Zm.gd_pos (a:=u) f;have l:=Zm.lt_mul (t:=t) d;have m:=Zm.lb_mul (t:=t) d;have n:=Zm.lt_mul (t:=u) f;have o:=Zm.lb_mul (t:=u) f;change Zm.lt t b=x;change Zm.lb t b=y;change Zm.lt u c=z;change Zm.lb u c=w;change Zm.gd t b=g;change Zm.gd u c=k
 have e :=by
  have q :=by
   rw[<- l,<- m,<- n,<- o]at h
   calc (x * w) * (g * k)=x * g * (w * k):=by erw[ö,ē,ø]
    _=z * k * (y * g):=h
    _=(z * y) * (g * k):=by erw[ö,ē,ø]
  exact ŝ (Int.ne_of_gt<|ü s v) q
 unfold Zm.gd at g1 g2;have g1:Int.gcd x y=1:=by lia
 have g2:Int.gcd z w=1:=by lia
 have i :=by
  have:y ∣ x * w:={z,by rw[e,ø]};have:=Int.dvd_gcd_mul_iff_dvd_mul.mpr this;rw[Int.gcd_comm,g1]at this;simpa using this
 have j :=by
  have:w ∣ z * y:={x,by rw[<- e,ø]};have:=Int.dvd_gcd_mul_iff_dvd_mul.mpr this;rw[Int.gcd_comm,g2]at this;simpa using this
 have C:y=w:=by
  have:=Int.le_of_dvd B i;have:=Int.le_of_dvd A j
  lia
 subst C;exact{ŝ (by lia) e,rfl}
abbrev Ay(P v:Int):T:=fr (Zm.lt v P)<|Zm.lb v P
structure Bo(P:Int):Prop where
 p:0<P
 l:P<2 ^ 63
def Bo.s(h:Bo P):EO P=true:=DJ (by have:=h.p;lia) (by have:=h.l;lia)
theorem Bo.lb(h:Bo P)(v:Int):Bo<|Zm.lb v P:={Zm.lb_pos h.p,by have:=Zm.lb_le (t:=v) h.p;have:=h.l;lia}
def Hb{P:Int}(h:0<P):Ay P 0=fr 0 1:=by
 let(a,b):=RH (t:=0) (b:=P) (u:=0) (c:=1) h (by decide)<|by simp
 unfold Ay;rw[b];rfl
def Xn{a b c d:Int}(e:Bo b)(hd:Bo d):E6 [fr a b,fr c d]=↑(.ok<|fr (Zm.lt (a * d+c * b)<|b * d)<|Zm.lb (a * d+c * b)<|b * d):=by
 have f:0<b * d:=ü e.p hd.p;have k:b * d<10 ^ 70:=ŭ (Int.mul_le_mul (ħ e.l) (ħ hd.l) (ħ hd.p)<|by lia)<|by lia
 have g:0<Zm.gd (a * d+c * b) (b * d):=Zm.gd_pos<|by lia
 have g1:Zm.gd (a * d+c * b) (b * d)<=b * d:=Zm.gd_le f;have gs:Bx (Zm.gd (a * d+c * b)<|b * d)=true:=CZ (Int.lt_trans (by lia:(-(10 ^ 70):Int)<0) g)<|ŭ g1 k
 have j:(Zm.gd (a * d+c * b) (b * d)≠0)=True:=eq_true<|by lia
 have m1:Bl a d=true:=EV hd.s;have m2:Bl c b=true:=EV e.s;have i:Bl b d=true:=EV hd.s;have h:=zky (a * d+c * b) f;unfold E6 Qv
 simp![m1,m2,i,h,gs,j]
 rfl
def Jo{P v w a b:Int}(h:Bo P)(d:Bo b)(e:a * P=w * b):E6 [Ay P v,fr a b]=↑(.ok<|Ay P<|v+w):=by
 have l:=Xn (a:=Zm.lt v P) (c:=a) (h.lb v) d;have f:P≠0:=by have:=h.p;lia
 have g:=Zm.lt_mul (t:=v) f;have i:=Zm.lb_mul (t:=v) f
 have j:Zm.lt v P * P=v * Zm.lb v P:=by
  calc Zm.lt v P * P=Zm.lt v P * (Zm.lb v P * Zm.gd v P):=by rw[i]
   _=(Zm.lt v P * Zm.gd v P) * Zm.lb v P:=by erw[ö,ē,ø]
   _=v * Zm.lb v P:=by rw[g]
 have k:=RH (t:=Zm.lt v P * b+a * Zm.lb v P) (b:=Zm.lb v P * b) (u:=v+w) (c:=P) (ü (h.lb v).p d.p) h.p (by
  change Zm.lt v P=x;change Zm.lb v P=y
  calc (x * b+a * y) * P=(x * P) * b+(a * P) * y:=by lia
   _=(v * y) * b+(w * b) * y:=by rw[j,e]
   _=(v+w) * (y * b):=by lia)
 simp_all
abbrev P4:Stmt:=AO 63
def LH:AH:=
 (AF (AQ (AG (AA 2)<|HQ (AA 1)<|AA 3)<|Au 2<|AL (AD 7)<|AL (AD 8) Aw)
 (AF (AQ (m2 DQ (AA 7)<|m2 BY (AA 5)<|AA 8)<|AD 6)
 (AF (A8 (BH (Bz (m2 Aq (AA 4)<|mC<|.str "<")<|m2 (BV λi j=>decide (j<=i)) (AA 6)<|mI 0)<|Bz (m2 Aq (AA 4)<|mC<|.str "<=")<|m2 (BV λi j=>decide (j<i)) (AA 6)<|mI 0) (AW<|mC<|.bl false) Aa)
 (A8 (BH (Bz (m2 Aq (AA 4)<|mC<|.str ">")<|m2 (BV λi j=>decide (i<=j)) (AA 6)<|mI 0)<|BH (Bz (m2 Aq (AA 4)<|mC<|.str ">=")<|m2 (BV λi j=>decide (i<j)) (AA 6)<|mI 0)<|Bz (m2 Aq (AA 4)<|mC<|.str "=")<|m2 CH (AA 6)<|mI 0) (AW<|mC<|.bl false) Aa))))
def MK:AH:=
 (AF (BN (BA<|AA 0) (Au 3<|AL (AD 3)<|AL (AD 4)<|AL (AD 5) Aw) LH)
 (AW<|mC<|.bl true))
def FK:kL->Option Ru:=A9 3 9 MK
abbrev M8:=fA 1 3 P4 FK
abbrev zf9:Gm:=gA P4 0 [] [] (N:=["_law_looks","_law_watches","_law_values","_law_watch","_law_word","_law_number_here","_law_left","_law_top","_law_bottom"])
theorem zfo:Ck zf9 M8 P4 MK:={}
def Z5{b:T->AN->Option AN}{body:AH}{t u:T}{ts:kL}{Y τ1:AN}(a:b t Y=↑τ1)(c:body τ1=↑(.rt u)):Ao b body (t::ts) Y=↑(.rt u):=by
 conv=>lhs;unfold Ao
 lia
def HI{k n:Nat}{u:AH}{ts:kL}{t:T}(hk:ts.length=k)(h:u (ts.map some++List.replicate (n - ts.length) none)=↑(.rt t)):A9 k n u ts=↑(.ok t):=by
 unfold A9 L9;lia
def M5{α:Type}{b:T->AN->Option AN}{body:AH}(f:α->T)(p:α->Bool)(a:T)(I:AN->Prop):∀(L:List α) (Y:AN),I Y->(∀x∈L,∀Y,I Y->∃τ1,b (f x) Y=↑τ1/\(p x=true->∃τ2,body τ1=↑(.nx τ2)/\I τ2)/\(p x=false->body τ1=↑(.rt a)))->(L.all p=true->∃Y',Ao b body (L.map f) Y=↑(.nx Y')/\I Y')/\(L.all p=false->Ao b body (L.map f) Y=↑(.rt a))
 |[],Y,h,ϊ=>{λϊ=>{(Y),rfl,h},λz=>by cases z}|x::L,Y,h,c=>by
  let(τ1,d,g,l):=c x (Í ..) Y h;rw[Õ,List.all_cons];unfold Ao;rw[d];cases i:p x with
  |false=>lia|true=>let(τ2,e,k):=g i;erw[e];exact M5 f p a I L τ2 k λy j=>c y<|Ì _ j
abbrev AI(m:Nat)(P:Int)(x:Nat->Int):kL:=mT m λj=>Ay P<|x<|j+1
def Cm(m:Nat)(P:Int)(x:Nat->Int):AV (AI m P x)=true:=CU λϊ=>rfl
def DB(P x:Int)(w:Nat)(n:Int):Bool:=match w with
 |0=>decide (x<n * P)|1=>decide (x<=n * P)|2=>decide (n * P<x)|3=>decide (n * P<=x)|ϊ=>decide (x=n * P)
def BK(P:Int)(L:List<|Nat×Nat×Int)(x:Nat->Int):Bool:=L.all λl=>DB P (x l.1) l.2.1 l.2.2
def zj0{P v n:Int}(h:0<P):(0<=Zm.lt v P - n * Zm.lb v P ↔ n * P<=v)/\(0<Zm.lt v P - n * Zm.lb v P ↔ n * P<v)/\(Zm.lt v P - n * Zm.lb v P<=0 ↔ v<=n * P)/\(Zm.lt v P - n * Zm.lb v P<0 ↔ v<n * P)/\(Zm.lt v P - n * Zm.lb v P=0 ↔ v=n * P):=by
 have b:P≠0:=by lia
 have d:=Zm.lt_mul (t:=v) b;have f:=Zm.lb_mul (t:=v) b;have g:=Zm.gd_pos (a:=v) b;have e:(Zm.lt v P - n * Zm.lb v P) * Zm.gd v P=v - n * P:=by rw[Ė,ö,d,f]
 clear d f;change Zm.lt v P - n * Zm.lb v P=l;change Zm.gd v P=k
 have q:(0<l/\0<l * k)\/(l=0/\l * k=0)\/(l<0/\l * k<0):=by
  rcases Ŵ l 0 with c|c|c;exact .inr<|.inr {c,Ġ c g}
  exact .inr<|.inl {c,by rw[c,ĕ]}
  exact .inl {c,ü c g}
 have i:v=n * P+l * k:=by lia
 clear e;change l * k=m;change n * P=x;subst i;refine{?_,?_,?_,?_,?_}<;>lia
def zer{P:Int}(h:Bo P){ws:kE}(wl:ws.length<=7)(x:Nat->Int){t:T}(s:∃x y n,t=.tup [.str x,.str y,.int n]/\x∈ws/\y∈B5/\0<=n)(a0:kH)(x6 x7 E:kH) :
  ∃y6 y7 y8,LH [a0,↑(.lst<|ws.map T.str),↑(.lst<|AI ws.length P x),↑(.str<|DG t),↑(.str<|DA t),↑(.int<|Bi t),x6,x7,E]=↑(if DB P (x (A7 ws t).1) (A7 ws t).2.1 (A7 ws t).2.2=true then .nx [a0,↑(.lst<|ws.map T.str),↑(.lst<|AI ws.length P x),↑(.str<|DG t),↑(.str<|DA t),↑(.int<|Bi t),y6,y7,y8] else .rt (.bl false)):=by
 let(H,A,B,I):=Gc s;let(j,m,r,_):=HX A;have i:=Cm ws.length P x;have o:AM (AI ws.length P x) (j:Int)=↑(fr (Zm.lt (x<|j+1) P)<|Zm.lb (x<|j+1) P):=BO r;have p:A7 ws t=(j+1,DD<|DA t,Bi t):=by unfold A7;rw[m];rfl
 let(C,D):=Ku _ B;let(d,s1,e,f,g):=N8 D;rw[C]at d s1 e f g;rw[p];have m1:Bl (Bi t) (Zm.lb (x<|j+1) P)=true:=EV (h.lb _).s;have k:ws.length<1000000:=by lia
 let(c1,c2,c3,F,G):=zj0 (v:=x<|j+1) (n:=Bi t) h.p;show ∃y6 y7 y8,_=↑(if DB P (x<|j+1) (DD<|DA t) (Bi t)=true then _ else _)
 change AI ws.length P x=VT;change DG t=X;generalize DA t=τ at *;change Bi t=n;change x (j+1)=v;change DD τ=w;refine{↑(.int<|Zm.lt v P - n * Zm.lb v P),↑(.int<|Zm.lt v P),↑(.int<|Zm.lb v P),?_};change Zm.lt v P=a;change Zm.lb v P=b;unfold LH;refine sq (by simp![AX,AU,i,IB,m,k,o];rfl) ?_;refine sq (by simp![m1];rfl) ?_;change a - n * b=l;have u:w=0\/w=1\/w=2\/w=3\/w=4:=by lia
 rcases u with rfl|rfl|rfl|rfl|rfl;by_cases z:v<n * P;have c:decide (0<=l)=false:=Ù<|by lia
 rw[if_pos (show DB P v 0 n=true from É z)]
 simp![d,s1,e,f,g,c]
 have c:decide (0<=l)=true:=É<|by lia
 rw[if_neg (show ¬ DB P v 0 n=true from λq=>z<|ñ q)]
 simp![d,s1,e,f,g,c]
 by_cases z:v<=n * P;have c:decide (0<l)=false:=Ù<|by lia
 rw[if_pos (show DB P v 1 n=true from É z)]
 simp![d,s1,e,f,g,c]
 have c:decide (0<l)=true:=É<|by lia
 rw[if_neg (show ¬ DB P v 1 n=true from λq=>z<|ñ q)]
 simp![d,s1,e,f,g,c]
 by_cases z:n * P<v;have c:decide (l<=0)=false:=Ù<|by lia
 rw[if_pos (show DB P v 2 n=true from É z)]
 simp![d,s1,e,f,g,c]
 have c:decide (l<=0)=true:=É<|by lia
 rw[if_neg (show ¬ DB P v 2 n=true from λq=>z<|ñ q)]
 simp![d,s1,e,f,g,c]
 by_cases z:n * P<=v;have c:decide (l<0)=false:=Ù<|by lia
 rw[if_pos (show DB P v 3 n=true from É z)]
 simp![d,s1,e,f,g,c]
 have c:decide (l<0)=true:=É<|by lia
 rw[if_neg (show ¬ DB P v 3 n=true from λq=>z<|ñ q)]
 simp![d,s1,e,f,g,c]
 by_cases z:v=n * P;have c:(l == 0)=true:=by rw[đ];lia
 rw[if_pos (show DB P v 4 n=true from É z)]
 simp![d,s1,e,f,g,c,Fz]
 have c:(l == 0)=false:=by rw[ļ];lia
 rw[if_neg (show ¬ DB P v 4 n=true from λq=>z<|ñ q)]
 simp![d,s1,e,f,g,c,Fz]
def KC{P:Int}(h:Bo P){ws:kE}(wl:ws.length<=7)(x:Nat->Int){l:kL}(j:Ax ws B5 l):FK [.lst l,.lst<|ws.map T.str,.lst<|AI ws.length P x]=↑(.ok<|.bl<|BK P (l.map<|A7 ws) x):=by
 have a:=Cm ws.length P x;have ev:=AK _ a;have k:=j.sh;have c:=AK _ k
 have i:=M5 (b:=Au 3<|AL (AD 3)<|AL (AD 4)<|AL (AD 5) Aw) (body:=LH) (λt:T=>t) (λt=>DB P (x (A7 ws t).1) (A7 ws t).2.1 (A7 ws t).2.2) (.bl false) (λY=>∃m n o d f g,Y=[↑(.lst l),↑(.lst<|ws.map T.str),↑(.lst<|AI ws.length P x),m,n,o,d,f,g]) l
  [↑(.lst l),↑(.lst<|ws.map T.str),↑(.lst<|AI ws.length P x),none,none,none,none,none,none] {(none),none,none,none,none,none,rfl} λt r Y u=>by
   let(m,n,o,d,f,g,rfl):=u;let(v,y,z,A):=Gc<|j t r;let(B,C,D,e):=zer h wl x (j t r) (↑(.lst l)) d f g;refine{[↑(.lst l),↑(.lst<|ws.map T.str),↑(.lst<|AI ws.length P x),↑(.str<|DG t),↑(.str<|DA t),↑(.int<|Bi t),d,f,g],by rw[v];simp![DG,DA,Bi],λq=>?_,λq=>?_}
   rw[if_pos q]at e;exact{_,e,_,_,_,_,_,_,rfl};rw[if_neg (by rw[q];exact õ)]at e;exact e
 have s:BK P (l.map<|A7 ws) x=l.all λt=>DB P (x (A7 ws t).1) (A7 ws t).2.1 (A7 ws t).2.2:=by
  unfold BK;rw[List.all_map];rfl
 rw[s];rw[List.map_id']at i;cases p:l.all λt=>DB P (x (A7 ws t).1) (A7 ws t).2.1 (A7 ws t).2.2 with
 |true=>
  let(w,e,m,n,o,d,f,g,rfl):=i.1 p;change AI ws.length P x=VT;unfold FK MK
  simp![AX,AU,a,ev,k,c,e]
 |false=>
  have e:=i.2 p;change AI ws.length P x=VT;unfold FK MK
  simp![AX,AU,a,ev,k,c,e]
abbrev PH:Stmt:=AO 67
def Mi:AJ:=
 (BM<|AB (mI 0)<|AB (mI 1) AE)
def MF:AH:=
 (AF (AQ (BM<|AB (mI 0)<|AB (BJ 1 [] (BA<|AG (AA 0)<|mI 0) (AD 0) (mC<|.bl true) Mi) AE)<|AD 1)
 (AF (A8 (BI<|AS FK<|AB (AG (AG (AG (AA 0)<|mI 1)<|mI 0)<|mI 1)<|AB (AG (AA 0)<|mI 0)<|AB (AG (AA 1)<|mI 1) AE) (AW<|mC .non) Aa)
 (AW<|AA 1)))
def Ke:kL->Option Ru:=A9 1 2 MF
abbrev ZK:=fA 2 1 PH Ke
abbrev zf5:Gm:=gA PH 1 [("_law_holds",M8)] []
theorem zfk:Ck zf5 ZK PH MF:={}
abbrev IG(P:Int)(m r:Nat)(x:Nat->Int):T:=.tup [.int (r:Int),.lst<|AI m P x]
def DX(P:Int)(m:Nat):Option (Nat×(Nat->Int))->T
 |some s=>IG P m s.1 s.2|none=>.non
def CQ(ws:kE)(rs:List<|Str×kL)(r:Nat):List<|Nat×Nat×Int:=(rs.getD r (Str.empty,[])).2.map (A7 ws)
def Pk{ws:kE}{rs:List<|Str×kL}(h:RsOk ws rs)(r:Nat):Ax ws B5 (rs.getD r (Str.empty,[])).2:=by
 by_cases a:r<rs.length;rw[Ö,Á a];exact(h.lk _<|Ï a).1.wd;rw[Ö,ā<|by lia];exact λt b=>by cases b
def Cv(P:Int)(ws:kE)(rs:List<|Str×kL):Option<|Nat×(Nat->Int):=if BK P (CQ ws rs 0) (λϊ=>0)=true then ↑(0,λϊ=>0) else none
def zdd{P:Int}(h:Bo P){ws:kE}{rs:List<|Str×kL}{dd:List Sd}(K:SpK ws rs dd):Ke [BE ws rs dd]=↑(.ok<|DX P ws.length<|Cv P ws rs):=by
 have d:=FQ K.sp.r;have f:=AK _ d;have sd:=K.sp.sd;have e:=AK _ sd;have w2:=K.w2;have r1:=K.sp.r.l1;have j:=Pk K.sp.r 0;have gs:=j.sh;have c:=KC h (by lia:ws.length<=7) (λϊ=>0) j
 have l:AM (rs.map B7) 0=↑(.tup [.str (rs.getD 0 (Str.empty,[])).1,.lst (rs.getD 0 (Str.empty,[])).2]):=J8 (i:=0)<|by lia
 have a:=Cm ws.length P λϊ=>0;have ev:=AK _ a
 have k:Bs (AD 0) (mC<|.bl true) Mi (ws.map T.str) [none]=↑(AI ws.length P λϊ=>0):=by
  have:=Ic (b:=AD 0) (me:=Mi) T.str (λϊ=>Ay P 0) (λY=>∃y,Y=[y]) ws [none] {(none),rfl} λx o Y m=>by
   let(y,rfl):=m;refine{[↑(.str x)],by simp![],?_,_,rfl};rw[Hb h.p];unfold Mi
   simp![]
  rw[this];refine congrArg some<|EX (À _) λi n=>?_
  rw[È,Á n];rfl
 have ll:ws.length<=100000:=by lia
 have s1:Cv P ws rs=if BK P (CQ ws rs 0) (λϊ=>0)=true then ↑(0,λϊ=>0) else none:=rfl
 rw[s1];change FK [.lst (rs.getD 0 (Str.empty,[])).2,.lst<|ws.map T.str,.lst<|AI ws.length P λϊ=>0]=↑(.ok<|.bl<|BK P (CQ ws rs 0) λϊ=>0) at c;change (rs.getD 0 (Str.empty,[])).2=GT;cases g:BK P (CQ ws rs 0) λϊ=>0 with
 |true=>
  rw[g]at c;erw[Å];show _=↑(Ru.ok<|.tup [.int ((0:Nat):Int),.lst<|AI ws.length P λϊ=>0])
  rw[show((0:Nat):Int)=0 from rfl];change (AI ws.length P λϊ=>0)=VT;unfold Ke MF
  simp![AX,AU,d,f,sd,e,k,À,ll,a,ev,l,gs,AK _ gs,c]
 |false=>
  rw[g]at c;erw[ġ,Ã];show _=↑(Ru.ok .non);change (AI ws.length P λϊ=>0)=VT
  unfold Ke MF
  simp![AX,AU,d,f,sd,e,k,À,ll,a,ev,l,gs,AK _ gs,c]
abbrev PD:Stmt:=AO 66
def Mh:AJ:=
 (AS E6<|mJ 0<|mJ 1 AE)
def LA:AH:=
 (A8 (m2 EG (AG (AA 6)<|AA 5)<|AA 13) (HG 4 (AA 5)<|BM<|AB (mI 0)<|AB (mI 1) AE) Aa)
def ME:AH:=
 (AF (AQ (AA 0)<|Au 3<|AL (AD 6)<|AL (AD 7)<|AL (AD 8) Aw)
 (AF (AQ (AA 1)<|Au 2<|AL (AD 9)<|AL (AD 4) Aw)
 (AF (EM 4) (AF (CY 4<|BJ 1 [2] (BA<|AA 4) (AD 0) (mC<|.bl true) Mh)
 (AF (A8 (BI<|AS FK<|AB (AG (AG (AA 7)<|AA 9)<|mI 1)<|mJ 6<|mJ 4 AE) (AW<|mC .non) Aa)
 (AF (A8 (m2 (Bk false) (AA 3)<|mC .non) (AF (EM 4)<|AW<|BM<|mJ 9<|mJ 4 AE) Aa)
 (AF (AQ (AG (AA 8)<|AA 3)<|Au 5<|AL (AD 10)<|AL (AD 11)<|AL (AD 12)<|AL (AD 13)<|AL (AD 14) Aw)
 (AF (A8 (BH (m2 CH (AA 10)<|AA 9)<|BH (m2 CH (AA 14)<|mC<|.str "")<|BI<|AS FK<|mJ 12<|mJ 6<|mJ 4 AE) (AW<|mC .non) Aa)
 (AF (BN (Bc<|AB (m1 Ap<|AA 6) AE) (AD 5) LA)
 (AF (A8 (BI<|AS FK<|AB (AG (AG (AA 7)<|AA 11)<|mI 1)<|mJ 6<|mJ 4 AE) (AW<|mC .non) Aa)
 (AF (EM 4)<|AW<|BM<|mJ 11<|mJ 4 AE)))))))))))
def TQ:kL->Option Ru:=A9 4 15 ME
abbrev ZI:=fA 3 4 PD TQ
abbrev zhl:Gm:=gA PD 2 [("_law_plus",Hc),("_law_holds",M8)] ["range","len"] ["_law_values"] (N:=["_law_spec","_law_stand","_law_wait","_law_number_here","_law_values","_law_k","_law_watches","_law_rooms","_law_doors","_law_room","_law_begin","_law_end","_law_guard_here","_law_noughts","_law_sign"])
theorem zi1:Ck zhl ZI PD ME:={}
def DU(P:Int)(ws:kE)(rs:List<|Str×kL)(dd:List Sd)(s:Nat×(Nat->Int))(w:Int)(k:Option Nat):Option<|Nat×(Nat->Int):=
 if BK P (CQ ws rs s.1) (λp=>s.2 p+w)=true then (match k with
  |none=>↑(s.1,λp=>s.2 p+w)|some k=>(match dd[k]? with
   |some d=>if d.b=s.1/\d.z=Str.empty/\BK P (d.g.map<|A7 ws) (λp=>s.2 p+w)=true/\BK P (CQ ws rs d.e) (λp=>if p∈An ws d.n then 0 else s.2 p+w)=true then ↑(d.e,λp=>if p∈An ws d.n then 0 else s.2 p+w) else none
   |none=>none)) else none
def XO{ws:kE}(nd:ws.Nodup){ns:kE}(b:∀x∈ns,x∈ws){j:Nat}(a:j<ws.length):ws[j]∈ns ↔ j+1∈An ws ns:=by
 unfold An;rw[Ò];constructor;intro h;refine{ws[j],h,?_};rw[Y1 nd a];rfl;rintro⟨x,c,e⟩;let(i,d,f,ex):=HX<|b x c
 simp_all
def zK(k:Nat)(ps:kG)(y:Nat->Int):Nat->Int:=λp=>if p∈ps/\p<=k then 0 else y p
def ziu{P:Int}(h:Bo P){ws:kE}(tw:CI ws)(nd:ws.Nodup)(wl:ws.length<=2){ns:kE}(f:∀x∈ns,x∈ws)(y:Nat->Int){a0 a1 a2 a3 a7 a8 a9 a10 a11 a12 a14:kH}{x5:kH} :
  ∃y5,Ao (AD 5) LA (mT ws.length λi=>.int (i:Int)) [a0,a1,a2,a3,↑(.own<|AI ws.length P y),x5,↑(.lst<|ws.map T.str),a7,a8,a9,a10,a11,a12,↑(.lst<|ns.map T.str),a14] =
   ↑(.nx [a0,a1,a2,a3,↑(.own (AI ws.length P λp=>if p∈An ws ns then 0 else y p)),y5,↑(.lst<|ws.map T.str),a7,a8,a9,a10,a11,a12,↑(.lst<|ns.map T.str),a14]):=by
 have a:=FY (b:=AD 5) (body:=LA) (n:=ws.length) (g:=λi=>.int (i:Int)) (Y:=[a0,a1,a2,a3,↑(.own<|AI ws.length P y),x5,↑(.lst<|ws.map T.str),a7,a8,a9,a10,a11,a12,↑(.lst<|ns.map T.str),a14])
  (λk Y=>∃y5,Y=[a0,a1,a2,a3,↑(.own<|AI ws.length P<|zK k (An ws ns) y),y5,↑(.lst<|ws.map T.str),a7,a8,a9,a10,a11,a12,↑(.lst<|ns.map T.str),a14])
  {x5,by
   rw[show AI ws.length P (zK 0 (An ws ns) y)=AI ws.length P y from EC λi ϊ=>by
    unfold zK
    rw[if_neg<|by lia]]} (by
   rintro k Y hk ⟨y5,rfl⟩;refine{[a0,a1,a2,a3,↑(.own<|AI ws.length P<|zK k (An ws ns) y),↑(.int (k:Int)),↑(.lst<|ws.map T.str),a7,a8,a9,a10,a11,a12,↑(.lst<|ns.map T.str),a14],by simp![],[a0,a1,a2,a3,↑(.own<|AI ws.length P<|zK (k+1) (An ws ns) y),↑(.int (k:Int)),↑(.lst<|ws.map T.str),a7,a8,a9,a10,a11,a12,↑(.lst<|ns.map T.str),a14],?_,_,rfl};have l:AM (ws.map T.str) (k:Int)=↑(.str ws[k]):=CW (by rw[È,Á hk];rfl);have tn:CI ns:=λx q=>tw x<|f x q
   have c:=Il (o:=false) (k:=.lst) tn<|tw _<|Ï hk;have r:CV (AI ws.length P<|zK k (An ws ns) y).length (k:Int)=↑k:=by rw[BQ];exact RV hk
   have z0:fr 0 1=Ay P 0:=(Hb h.p).symm;unfold LA;by_cases m:ws[k]∈ns;rw[É m]at c
   have st:(AI ws.length P<|zK k (An ws ns) y).set k (fr 0 1)=AI ws.length P (zK (k+1) (An ws ns) y):=by
    rw[z0];unfold AI;rw[IW];refine EC λj d=>?_;have:=XO nd f d;unfold zK;grind
   rw[<- st];change AI ws.length P (zK k (An ws ns) y)=VT
   simp![AX,AU,l,c,r]
   rw[Ù m]at c
   have st:AI ws.length P (zK k (An ws ns) y)=AI ws.length P (zK (k+1) (An ws ns) y):=EC λj d=>by
    have:=XO nd f d;unfold zK;grind
   rw[<- st];change AI ws.length P (zK k (An ws ns) y)=VT
   simp![AX,AU,l,c])
 let(s,e,y5,rfl):=a;refine{y5,e.trans ?_}
 rw[show AI ws.length P (zK ws.length (An ws ns) y)=AI ws.length P (λp=>if p∈An ws ns then 0 else y p) from EC λj d=>by
  unfold zK
  grind]
def Ca:Option Nat->T
 |some k=>.int (k:Int)|none=>.non
def ze8{P:Int}(h:Bo P){ws:kE}{rs:List<|Str×kL}{dd:List Sd}(K:SpK ws rs dd){r:Nat}(Z:r<rs.length)(x:Nat->Int){w a b:Int}(Y:Bo b)(e:a * P=w * b){k:Option Nat}(hk:∀i∈k,i<dd.length):TQ [BE ws rs dd,IG P ws.length r x,fr a b,Ca k]=↑(.ok<|DX P ws.length<|DU P ws rs dd (r,x) w k):=by
 have C:=FQ K.sp.r;have D:=AK _ C;have sd:=K.sp.sd;have M:=AK _ sd;have w2:=K.w2;have U:=Pk K.sp.r r;have gs:=U.sh;have t:=Cm ws.length P x;have y:=AK _ t;have l:=Cm ws.length P λp=>x p+w
 have m:=AK _ l
 have lc:Bs (AD 0) (mC<|.bl true) Mh (AI ws.length P x) [none,↑(fr a b)]=↑(AI ws.length P λp=>x p+w):=Du (n:=ws.length) (me:=Mh) (x:=none) (cs:=[↑(fr a b)]) (g:=λj=>Ay P<|x<|j+1) (f:=λj=>Ay P<|x (j+1)+w) λj hj=>by
  unfold Mh
  simp![Jo (v:=x<|j+1) h Y e]
 have ll:(AI ws.length P x).length<=100000:=by rw[BQ];lia
 have V:=J8 Z;have O:FK [.lst (rs.getD r (Str.empty,[])).2,.lst<|ws.map T.str,.lst<|AI ws.length P λp=>x p+w]=↑(.ok<|.bl<|BK P (CQ ws rs r) λp=>x p+w):=KC h (by lia:ws.length<=7) (λp=>x p+w) U
 have oU:DX P ws.length (↑(r,λp=>x p+w))=.tup [.int (r:Int),.lst<|AI ws.length P λp=>x p+w]:=rfl;have L:DX P ws.length none=.non:=rfl;refine HI rfl ?_;show ME [↑(BE ws rs dd),↑(.tup [.int (r:Int),.lst<|AI ws.length P x]),↑(fr a b),↑(Ca k),none,none,none,none,none,none,none,none,none,none,none]=_;unfold DU ME;dsimp only;change (rs.getD r (Str.empty,[])).2=GT;change (rs.getD r (Str.empty,[])).1=GN;generalize X:(AI ws.length P λp=>x p+w)=VU at *
 change AI ws.length P x=VT;change BK P (CQ ws rs r) (λp=>x p+w)=B;refine sq (by simp![AX,AU,C,D,sd,M];rfl)<|sq (by simp![t,y];rfl)<|Fo (by simp![t,y])<|sq (by simp![t,y,lc,ll];rfl) ?_
 cases B with
 |false=>exact sr (by simp![AX,AU,C,D,V,gs,AK _ gs,l,m,O,Ã,ġ,L])|true=>
  refine Fo (by simp![AX,AU,C,D,V,gs,AK _ gs,l,m,O]) ?_;rw[if_pos rfl];cases k with
  |none=>exact sr (by simp![Ca,l,m,oU])|some k=>
   have o:=hk k rfl;have R:=K.sp.d _<|Ï o;have S:Ax ws B5 dd[k].g:=R.g;have q:=S.sh;have u:=AK _ q;have W:=OM o
   have tz:PyData.strOk dd[k].z=true:=by
    rcases K.z _ (Ï o) with e|e<;>rw[e]<;>decide +kernel
   have J:=QM tz SK;have H:=KC h (by lia:ws.length<=7) (λp=>x p+w) S
   have G:=J8 (K.sp.b _<|Ï o).2;have F:=Pk K.sp.r dd[k].e;have s:=F.sh;have Q:FK [.lst (rs.getD dd[k].e (Str.empty,[])).2,.lst<|ws.map T.str,.lst (AI ws.length P λp=>if p∈An ws dd[k].n then 0 else x p+w)]=↑(.ok<|.bl (BK P (CQ ws rs dd[k].e) λp=>if p∈An ws dd[k].n then 0 else x p+w)):=KC h (by lia:ws.length<=7) (λp=>if p∈An ws dd[k].n then 0 else x p+w) F
   let(y5,N):=ziu (ws:=ws) (ns:=dd[k].n) h K.mc.tw K.mc.wd w2 R.n (λp=>x p+w) (a0:=↑(BE ws rs dd)) (a1:=↑(.tup [.int (r:Int),.lst VT])) (a2:=↑(fr a b)) (a3:=↑(.int (k:Int))) (a7:=↑(C7 rs)) (a8:=↑(.lst<|dd.map BU)) (a9:=↑(.int (r:Int))) (a10:=↑(.int (dd[k].b:Int))) (a11:=↑(.int (dd[k].e:Int))) (a12:=↑(.lst dd[k].g)) (a14:=↑(.str dd[k].z)) (x5:=none);have A:=Cm ws.length P λp=>if p∈An ws dd[k].n then 0 else x p+w
   have E:=AK _ A;have oW:DX P ws.length (↑(dd[k].e,λp=>if p∈An ws dd[k].n then 0 else x p+w))=.tup [.int (dd[k].e:Int),.lst (AI ws.length P λp=>if p∈An ws dd[k].n then 0 else x p+w)]:=rfl
   have ok:Bh (ws.length:Int)=true:=Dl<|by lia
   have rg:BW 0 ws.length=mT ws.length λi=>.int (i:Int):=Ci;erw[Á o];rw[X]at H N;change dd[k]=d;change (AI ws.length P λp=>if p∈An ws d.n then 0 else x p+w)=VW;change (rs.getD d.e (Str.empty,[])).2=G2;change (rs.getD d.e (Str.empty,[])).1=N2;refine Fo (by simp![Ca])<|sq (by simp![Ca,sd,M,W,q,u,AX,AU];rfl) ?_
   have I:(!((d.b:Int) == (r:Int)))=!decide (d.b=r):=by grind
   by_cases c:d.b=r/\d.z=Str.empty/\BK P (d.g.map<|A7 ws) (λp=>x p+w)=true;let(c1,c2,c3):=c;rw[c3]at H;rw[É c1]at I;rw[É (show d.z=Str.ofString "" from c2)]at J;refine Fo (by simp![Fz,I,J,q,u,AX,AU,l,m,H])<|sq (by simp![AX,AU,À,ok,á,rg,N];rfl) ?_
   change BK P (CQ ws rs d.e) (λp=>if p∈An ws d.n then 0 else x p+w)=B2;cases B2 with
   |true=>
    rw[if_pos {(c1),c2,c3,rfl}]
    simp![AX,AU,C,D,G,s,AK _ s,A,E,Q,oW]
   |false=>
    rw[if_neg λz=>õ z.2.2.2];exact sr<|by simp![AX,AU,C,D,G,s,AK _ s,A,E,Q,L]
   rw[if_neg λz=>c {(z.1),z.2.1,z.2.2.1}];refine sr ?_;have c:¬ (decide (d.b=r)=true/\decide (d.z=Str.ofString "")=true/\BK P (d.g.map<|A7 ws) (λp=>x p+w)=true):=λz=>c {ñ z.1,ñ z.2.1,z.2.2}
   change BK P (d.g.map<|A7 ws) (λp=>x p+w)=B1;change decide (d.z=Str.ofString "")=B2;change decide (d.b=r)=B3
   cases B1<;>cases B2<;>cases B3<;>first
    |exact absurd ⟨rfl,rfl,rfl⟩ c
    |simp![Fz,I,J,q,u,AX,AU,l,m,H,L]
abbrev PK:Stmt:=AO 62
def aL:AJ:=
 (AA 2)
def Tr:AH:=
 (AQ (BZ H9<|AB (m2 Ak (BG<|Ah (AA 1) AE)<|BJ 3 [] (BA<|AA 3) (Au 3<|AL (AD 0)<|AL (AD 1)<|AL (AD 2) Aw) (mC<|.bl true) aL) AE)<|AD 1)
def aH:AJ:=
 (AA 2)
def Tq:AH:=
 (AQ (BZ H9<|AB (m2 Ak (BG<|Ah (AA 1) AE)<|BJ 3 [] (BA<|AA 6) (Au 3<|AL (AD 0)<|AL (AD 1)<|AL (AD 2) Aw) (mC<|.bl true) aH) AE)<|AD 1)
def Qt:AH:=
 (AF (AQ (mI 1)<|AD 1)
 (AF (BN (BA<|AG (AA 0)<|mI 1) (Au 2<|AL (AD 2)<|AL (AD 3) Aw) Tr)
 (AF (BN (BA<|AG (AA 0)<|mI 2) (Au 5<|AL (AD 4)<|AL (AD 5)<|AL (AD 6)<|AL (AD 7)<|AL (AD 8) Aw) Tq)
 (AW<|AA 1))))
def Kf:kL->Option Ru:=A9 1 9 Qt
abbrev SA:=fA 1 1 PK Kf
abbrev zf6:Gm:=gA PK 0 [] ["max"]
theorem zfl:Ck zf6 SA PK Qt:={}
def YX:∀ns:kF,HW (ns.map T.int)=↑ns
 |[]=>rfl|i::r=>by
  rw[Õ];unfold HW;rw[YX r];rfl
def zoq{ns:kF}(h:∀x∈ns,0<=x):0<=Lz ns:=by
 unfold Lz;rw[Ö];cases e:ns[argBest (λi j=>decide (ns.getD i 0 > ns.getD j 0))<|ns.length - 1]? with
 |none=>simp_all|some y=>exact h y<|ì e
def X4{ws wd:kE}{l:kL}(d:Ax ws wd l)(v:l.length<=1000){a:Int}(a0:0<=a){j:Nat}{me:AJ}(e:∀x y z,me [x,y,↑(.int z)]=↑(.v (.int z) false)){Y:AN}(p:Y[1]?=↑(↑(.int a)))(r:Y[j]?=↑(↑(.lst l)))(c:1<Y.length) :
  ∃b,0<=b/\AQ (BZ H9<|AB (m2 Ak (BG<|Ah (AA 1) AE)<|BJ 3 [] (BA<|AA j) (Au 3<|AL (AD 0)<|AL (AD 1)<|AL (AD 2) Aw) (mC<|.bl true) me) AE) (AD 1) Y=↑(.nx<|Y.set 1<|↑(.int b)):=by
 have h:=Ic (b:=Au 3<|AL (AD 0)<|AL (AD 1)<|AL (AD 2) Aw) (me:=me) (λt:T=>t) (λt=>.int<|Bi t) (λY=>∃x y z,Y=[x,y,z]) l [none,none,none] {(none),none,none,rfl} λt f Y q=>by
  let(x,y,z,rfl):=q;let(s,w,A,B):=Gc<|d t f;refine{[↑(.str<|DG t),↑(.str<|DA t),↑(.int<|Bi t)],by rw[s];simp![DG,DA,Bi],e _ _ _,_,_,_,rfl}
 rw[List.map_id']at h;have k:=d.sh;have o:=AK _ k
 have u:∀x∈a::l.map Bi,0<=x:=λx g=>by
  rcases Î.mp g with rfl|g;exact a0;let(t,f,rfl):=Ò.mp g;exact(Gc<|d t f).2.2.2
 have n:HW (l.map λt=>T.int<|Bi t)=↑(l.map Bi):=by
  have:=YX<|l.map Bi;rw[û]at this;exact this
 have l1:l.length<=100000:=by lia
 have l2:1+l.length<=100000:=by lia
 have i:AV (l.map λt=>T.int<|Bi t)=true:=Ea λϊ ϊ=>rfl;have m:=AK _ i;refine{Lz<|a::l.map Bi,zoq u,?_}
 simp![p,r,k,o,l1,h,À,l2,i,m,c,n]
def Uk{ws:kE}{rs:List<|Str×kL}{dd:List Sd}(sr:AV (rs.map B7)=true)(sd:AV (dd.map BU)=true)(z:∀r∈rs,Ax ws DR r.2/\r.2.length<=2)(hd:∀d∈dd,Ax ws B5 d.g/\d.g.length<=2):∃m,0<=m/\Kf [BE ws rs dd]=↑(.ok<|.int m):=by
 have y:=AK _ sr;have x:=AK _ sd
 let(Y,e,m,x2,a,rfl,c):=Ef (b:=Au 2<|AL (AD 2)<|AL (AD 3) Aw) (body:=Tr) (ts:=rs.map B7) (Y:=[↑(BE ws rs dd),↑(.int 1),none,none,none,none,none,none,none])
  (λϊ Y=>∃m x2 a,Y=[↑(BE ws rs dd),↑(.int m),x2,a,none,none,none,none,none]/\0<=m) {1,none,none,rfl,by decide} λi t Y g h=>by
  let(m,x2,a,rfl,c):=h;let(r,l,rfl):=Ò.mp<|ì g;let(n,A):=z r l;let(b,f,eb):=X4 n (by lia) c (j:=3) (me:=aL) (λϊ ϊ ϊ=>rfl) (Y:=[↑(BE ws rs dd),↑(.int m),↑(.str r.1),↑(.lst r.2),none,none,none,none,none]) rfl rfl<|by simp
  exact{_,by simp![],_,eb,b,_,_,rfl,f}
 let(Y,w,m2,p,q,s,u,v,rfl,o):=Ef (b:=Au 5<|AL (AD 4)<|AL (AD 5)<|AL (AD 6)<|AL (AD 7)<|AL (AD 8) Aw) (body:=Tq) (ts:=dd.map BU) (Y:=[↑(BE ws rs dd),↑(.int m),x2,a,none,none,none,none,none])
  (λϊ Y=>∃m p q s u v,Y=[↑(BE ws rs dd),↑(.int m),x2,a,p,q,s,u,v]/\0<=m) {(m),none,none,none,none,none,rfl,c} λi t Y g h=>by
  let(m,p,q,s,u,v,rfl,c):=h;let(d,k,rfl):=Ò.mp<|ì g;let(n,A):=hd d k;let(b,f,eb):=X4 n (by lia) c (j:=6) (me:=aH) (λϊ ϊ ϊ=>rfl) (Y:=[↑(BE ws rs dd),↑(.int m),x2,a,↑(.int (d.b:Int)),↑(.int (d.e:Int)),↑(.lst d.g),↑(.lst<|d.n.map T.str),↑(.str d.z)]) rfl rfl<|by simp
  exact{_,by simp![],_,eb,b,_,_,_,_,_,rfl,f}
 refine{m2,o,?_};unfold Kf Qt
 simp![AX,AU,sr,y,sd,x,e,w]
abbrev PQ:Stmt:=AO 69
def LC:AH:=
 (AF (AQ (AG (AA 2)<|HQ (AA 1)<|AA 5)<|Au 2<|AL (AD 9)<|AL (AD 10) Aw)
 (AF (AQ (BM<|AB (m2 DQ (m2 BY (AA 7)<|AA 10)<|AA 9)<|mJ 10 AE)<|AD 8)
 (AF (A8 (m2 Aq (AA 6)<|mC<|.str ">") (AQ (AS E6<|mJ 8<|mJ 3 AE)<|AD 8) Aa)
 (A8 (Bz (m2 EG (AA 6)<|BM<|AB (mC<|.str ">")<|AB (mC<|.str ">=")<|AB (mC<|.str "=") AE)<|m2 (BV λi j=>decide (j<i)) (m2 BY (AG (AA 8)<|mI 0)<|AG (AA 4)<|mI 1)<|m2 BY (AG (AA 4)<|mI 0)<|AG (AA 8)<|mI 1) (AQ (AA 8)<|AD 4) Aa))))
def Qw:AH:=
 (AF (AQ (BM<|AB (mI 0)<|AB (mI 1) AE)<|AD 4)
 (AF (BN (BA<|AA 0) (Au 3<|AL (AD 5)<|AL (AD 6)<|AL (AD 7) Aw) LC)
 (AW<|AA 4)))
def NO:kL->Option Ru:=A9 4 11 Qw
abbrev ZM:=fA 3 4 PQ NO
abbrev zhp:Gm:=gA PQ 2 [("_law_plus",Hc)] [] (N:=["_law_looks","_law_watches","_law_values","_law_little","_law_need_here","_law_watch","_law_word","_law_number_here","_law_least","_law_top","_law_bottom"])
theorem zi5:Ck zhp ZM PQ Qw:={}
def Xm{P v w a b c d:Int}(h:Bo P)(e:Bo b)(hd:Bo d)(f:a * P=v * b)(g:c * P=w * d):E6 [fr a b,fr c d]=↑(.ok<|Ay P<|v+w):=by
 have i:=Xn (a:=a) (c:=c) e hd
 have k:=RH (t:=a * d+c * b) (b:=b * d) (u:=v+w) (c:=P) (ü e.p hd.p) h.p (by
  calc (a * d+c * b) * P=(a * P) * d+(c * P) * b:=by lia
   _=(v * b) * d+(w * d) * b:=by rw[f,g]
   _=(v+w) * (b * d):=by lia)
 lia
def low_mul{P v:Int}(h:0<P):Zm.lt v P * P=v * Zm.lb v P:=by
 have a:P≠0:=by lia
 have b:=Zm.lt_mul (t:=v) a;have c:=Zm.lb_mul (t:=v) a
 calc Zm.lt v P * P=Zm.lt v P * (Zm.lb v P * Zm.gd v P):=by rw[c]
  _=(Zm.lt v P * Zm.gd v P) * Zm.lb v P:=by erw[ö,ē,ø]
  _=v * Zm.lb v P:=by rw[b]
structure FP(P a b w:Int):Prop where
 o:Bo b
 e:a * P=w * b
theorem FP.low{P:Int}(h:Bo P)(v:Int):FP P (Zm.lt v P) (Zm.lb v P) v:={h.lb v,low_mul h.p}
def in3{w:Nat}(h:w<5):EG (.str<|Ei w) (.tup [.str ">",.str ">=",.str "="])=↑(.bl<|decide (2<=w)):=by
 have:w=0\/w=1\/w=2\/w=3\/w=4:=by lia
 rcases this with rfl|rfl|rfl|rfl|rfl<;>ext
def zkk{P:Int}(h:Bo P){ws:kE}(wl:ws.length<=7)(x:Nat->Int){g:kL}(Q:Ax ws B5 g){c d u:Int}(R:FP P c d u):∃a b w,NO [.lst g,.lst<|ws.map T.str,.lst<|AI ws.length P x,fr c d]=↑(.ok<|fr a b)/\FP P a b w:=by
 have m:=Cm ws.length P x;have ev:=AK _ m;have sg:=Q.sh;have eg:=AK _ sg;have M:ws.length<1000000:=by lia
 have H:∀j:Nat,j<ws.length->AM (AI ws.length P x) (j:Int)=↑(fr (Zm.lt (x<|j+1) P)<|Zm.lb (x<|j+1) P):=λj J=>BO J;change AI ws.length P x=VT;let S (v:T) (A C D o r f:kH):AN:=[↑(.lst g),↑(.lst<|ws.map T.str),↑(.lst VT),↑(fr c d),↑v,A,C,D,o,r,f]
 let(Y,e,a,b,w,A,C,D,o,r,f,rfl,E):=Ef (b:=Au 3<|AL (AD 5)<|AL (AD 6)<|AL (AD 7) Aw) (body:=LC) (ts:=g) (Y:=S (fr 0 1) none none none none none none)
  (λϊ Y=>∃a b w A C D o r f,Y=S (fr a b) A C D o r f/\FP P a b w) {0,1,0,none,none,none,none,none,none,rfl,{{by decide,by decide +kernel},by rw[ĕ,ĕ]}} λi t Y I s=>by
   let(a,b,w,A,C,D,o,r,f,rfl,E):=s;let(k1,k2,k3,k4):=Gc<|Q t<|ì I;let(j,ej,J,_):=HX k2;have H:=H j J;let(q1,V):=Ku _ k3;let(_,_,L,_,_):=N8 V;have y:=in3 V;rw[q1]at L y;have K:=FP.low h<|x<|j+1
   have G:FP P (Bi t * Zm.lb (x<|j+1) P - Zm.lt (x<|j+1) P) (Zm.lb (x<|j+1) P)<|Bi t * P - x (j+1):={K.o,by
    have:=K.e;change Zm.lt (x<|j+1) P=p;change Zm.lb (x<|j+1) P=q;rw[Ė,Ė,this];erw[ö,ē,ø]}
   have u1:Bl (Bi t) (Zm.lb (x<|j+1) P)=true:=EV K.o.s;refine{S (fr a b) (↑(.str<|DG t)) (↑(.str<|DA t)) (↑(.int<|Bi t)) o r f,by rw[k1];simp![S,DG,DA,Bi],?_};change DG t=X;generalize DA t=τ at *;change Bi t=n;change n * P - x (j+1)=w1;change Zm.lt (x<|j+1) P=p;change Zm.lb (x<|j+1) P=q
   let(k,l,w2,N,r2):∃k l w2,FP P k l w2/\A8 (m2 Aq (AA 6)<|mC<|.str ">") (AQ (AS E6<|mJ 8<|mJ 3 AE)<|AD 8) Aa (S (fr a b) (↑(.str X)) (↑(.str τ)) (↑(.int n)) (↑(fr (n * q - p) q)) (↑(.int p))<|↑(.int q))=↑(.nx<|S (fr a b) (↑(.str X)) (↑(.str τ)) (↑(.int n)) (↑(fr k l)) (↑(.int p))<|↑(.int q)):=by
    by_cases U:DD τ=2;exact{_,_,_,FP.low h<|w1+u,by simp![S,L,U,í,Xm h G.o R.o G.e R.e]};exact{_,_,_,G,by simp![S,L,beq_eq_false_iff_ne.mpr U]}
   have W:Bl k b=true:=EV E.o.s;have Z:Bl a l=true:=EV N.o.s
   have BD (v:T) (I:decide (2<=DD τ)=true/\a * l<k * b->fr k l=v) (s:¬ (decide (2<=DD τ)=true/\a * l<k * b)->fr a b=v):LC (S (fr a b) (↑(.str X)) (↑(.str τ)) (↑(.int n)) o r f)=↑(.nx<|S v (↑(.str X)) (↑(.str τ)) (↑(.int n)) (↑(fr k l)) (↑(.int p))<|↑(.int q)):=by
    unfold LC;refine sq (by simp![S,AX,AU,m,IB,ej,M,H];rfl)<|sq (by simp![S,u1])<|sq r2 ?_
    change decide (2<=DD τ)=B;by_cases F:a * l<k * b<;>cases B;rw[<- s<|by simp]
    simp![S,y]
    rw[<- I {(rfl),F}]
    simp![S,y,W,Z,F,Ľ]
    rw[<- s<|by simp]
    simp![S,y]
    rw[<- s λz=>F z.2]
    simp![S,y,W,Z,F,ľ]
   by_cases O:decide (2<=DD τ)=true/\a * l<k * b;exact{_,BD _ (λϊ=>rfl)<|λz=>absurd O z,k,l,w2,_,_,_,_,_,_,rfl,N};exact{_,BD _ (λz=>absurd z O)<|λϊ=>rfl,a,b,w,_,_,_,_,_,_,rfl,E}
 refine{a,b,w,?_,E};unfold NO Qw
 simp![S,AX,AU,m,ev,sg,eg,e]
abbrev Oz:Stmt:=AO 70
def Mf:AJ:=
 (BM<|AB (mI 0)<|AB (mI 1) AE)
def Mg:AJ:=
 (AS E6<|mJ 0<|mJ 1 AE)
def KU:AJ:=
 (AG (BG<|Ah (AG (AA 4)<|AA 0)<|Ah (BM<|AB (mI 0)<|AB (mI 1) AE) AE)<|m1 KA<|m2 EG (AG (AA 5)<|AA 0)<|AG (AG (AA 1)<|AG (AA 3)<|AA 2)<|mI 3)
def Kz:AH:=
 (AF (AQ (AA 2)<|AD 11)
 (AF (A8 (m2 (BV λi j=>decide (i<j)) (AA 7)<|m1 Ap<|AA 1) (AQ (AG (AG (AA 10)<|AG (AA 1)<|AA 7)<|mI 2)<|AD 11) Aa)
 (AF (AQ (m2 BY (mI 5)<|AA 7)<|AD 12)
 (AF (A8 (m2 (BV λi j=>decide (i<j)) (AA 7)<|m1 Ap<|AA 3) (AQ (AG (AA 3)<|AA 7)<|AD 12) Aa)
 (AF (AQ (AS FJ<|mJ 12<|AB (mI 3) AE)<|AD 13)
 (AF (AQ (AS NO<|mJ 11<|mJ 8<|mJ 5<|AB (BM<|AB (mI 1)<|AB (m2 Ak (mI 1)<|m2 BB (AG (AA 13)<|mI 0)<|mI 3) AE) AE)<|AD 14)
 (AF (A8 (m2 Aq (m2 BB (AG (AA 13)<|mI 1)<|mI 3)<|mI 0) (AQ (AS E6<|mJ 14<|AB (BM<|AB (AG (BG<|Ah (mI 1)<|Ah (m2 BB (AG (AA 13)<|mI 2)<|m2 Ak (mI 1)<|AA 4) AE)<|m2 BB (m2 Bt (AG (AA 13)<|mI 1)<|mI 3)<|mI 2)<|AB (m2 Ak (mI 1)<|m2 BB (m2 Bt (AG (AA 13)<|mI 0)<|mI 3)<|mI 3) AE) AE)<|AD 14) Aa)
 (AF (Cg 6<|AA 14)
 (AF (AQ (BJ 1 [14] (BA<|AA 5) (AD 0) (mC<|.bl true) Mg)<|AD 5)
 (A8 (m2 (BV λi j=>decide (i<j)) (AA 7)<|m1 Ap<|AA 1) (AQ (BJ 1 [10,7,1,5,8] (Bc<|AB (m1 Ap<|AA 8) AE) (AD 0) (mC<|.bl true) KU)<|AD 5) Aa))))))))))
def Qs:AH:=
 (AF (AQ (AA 0)<|Au 3<|AL (AD 8)<|AL (AD 9)<|AL (AD 10) Aw)
 (AF (AQ (AS Kf<|mJ 0 AE)<|AD 4)
 (AF (AQ (BJ 1 [] (BA<|AA 8) (AD 0) (mC<|.bl true) Mf)<|AD 5)
 (AF (CY 6<|BG AE)
 (AF (BN (Bc<|AB (m2 Ak (m1 Ap<|AA 1)<|mI 1) AE) (AD 7) Kz)
 (AW<|AA 6))))))
def NL:kL->Option Ru:=A9 4 15 Qs
abbrev ZG:=fA 4 4 Oz NL
abbrev zf4:Gm:=gA Oz 3 [("_law_scale",SA),("_law_stream",KH),("_law_need",ZM),("_law_plus",Hc)] ["range","len","int"] ["_law_waits_here"] (N:=["_law_spec","_law_road_here","_law_guard_here","_law_cells","_law_scale_here","_law_values","_law_waits_here","_law_k","_law_watches","_law_rooms","_law_doors","_law_looks","_law_cell","_law_xs","_law_wait"])
theorem zfj:Ck zf4 ZG Oz Qs:={}
abbrev fw(t:Int×Int):T:=fr t.1 t.2
abbrev wq(A B C D:T)(c:Int)(V W:kL)(k:Int)(X τ Z:T)(x11 x12 a b:kH):AN:=[↑A,↑B,↑C,↑D,↑(.int c),↑(.lst V),↑(.own W),↑(.int k),↑X,↑τ,↑Z,x11,x12,a,b]
theorem Eg:Bo 6:={by decide,by decide +kernel}
theorem Sw{d:Int}(a:1<=d)(b:d<=3):Bo d:={by lia,by lia}
def Gj{c d:Int}(a:1<=d)(b:d<=3):∃w,FP 6 c d w:=by
 have:d=1\/d=2\/d=3:=by lia
 rcases this with rfl|rfl|rfl;exact{c * 6,Sw (by decide) (by decide),by lia};exact{c * 3,Sw (by decide) (by decide),by lia};exact{c * 2,Sw (by decide) (by decide),by lia}
def Xk(i:Int):1<=1+i.fmod 3/\1+i.fmod 3<=3:=by
 lia
def zd9{ws:kE}{rs:List<|Str×kL}{dd:List Sd}(K:SpK ws rs dd){ks:kF}(hks:∀k∈ks,0<=k/\k<(dd.length:Int)){g:kL}(hg:Ax ws B5 g)(cs:kF){I:Int}(s0:0<=I)(x:Nat->Int)(W:List<|Int×Int)(hW:W.length<=1000)(k:Nat)(y11 G s u:kH) :
  ∃(x':Nat->Int) (t:Int×Int) (w:Int) (z11 z12 z13 z14:kH),Kz (wq (BE ws rs dd) (.lst<|ks.map T.int) (.lst g) (.lst<|cs.map T.int) I (AI ws.length 6 x) (W.map fw) (k:Int) (.lst<|ws.map T.str) (C7 rs) (.lst<|dd.map BU) y11 G s u) =
   ↑(.nx<|wq (BE ws rs dd) (.lst<|ks.map T.int) (.lst g) (.lst<|cs.map T.int) I (AI ws.length 6 x') ((W++[t]).map fw) (k:Int) (.lst<|ws.map T.str) (C7 rs) (.lst<|dd.map BU) z11 z12 z13 z14)/\FP 6 t.1 t.2 w:=by
 have sd:=K.sp.sd;have ed:=AK _ sd;have w2:=K.w2;have tw:CI ws:=K.mc.tw;have sg:=hg.sh;have Y:=AK _ sg;have J:=Dd ks;have X:=Dw ks;have N:=Dd cs;have ec:=Dw cs;have B:(ks.map T.int).length=ks.length:=À ..;have He:(cs.map T.int).length=cs.length:=À ..;have hc:∀h:k<cs.length,AM (cs.map T.int) (k:Int)=↑(.int cs[k]):=λhk=>CW (by rw[È,Á hk];rfl)
 let(d,hd):∃d:Sd,k<ks.length->d∈dd/\∃j,AM (ks.map T.int) (k:Int)=↑(.int j)/\AM (dd.map BU) j=↑(BU d):=by
  by_cases hk:k<ks.length;have H:=hks _<|Ï hk;have hl:ks[k].toNat<dd.length:=by lia
  exact{dd[ks[k].toNat],λϊ=>{Ï hl,_,CW (by rw[È,Á hk];rfl),Mn BU<|Hj H.1<|Á hl}};exact{{0,0,[],[],Str.empty},λz=>absurd z hk}
 have D:k<ks.length->Ax ws B5 d.g:=λhk=>(K.sp.d d (hd hk).1).g;have dn:k<ks.length->∀z∈d.n,z∈ws:=λhk=>(K.sp.d d (hd hk).1).n;generalize BE ws rs dd=A;generalize C7 rs=RT;change ks.map T.int=KT;change cs.map T.int=CT;change dd.map BU=DT;let S (V W:kL) (a b c d:kH):=wq A (.lst KT) (.lst g) (.lst CT) I V W (k:Int) (.lst<|ws.map T.str) RT (.lst DT) a b c d
 let(L,hL,r2):∃L:kL,Ax ws B5 L/\∀V e,A8 (m2 (BV λi j=>decide (i<j)) (AA 7)<|m1 Ap<|AA 1) (AQ (AG (AG (AA 10)<|AG (AA 1)<|AA 7)<|mI 2)<|AD 11) Aa (S V e (↑(.lst g)) G s u)=↑(.nx<|S V e (↑(.lst L)) G s u):=by
  by_cases hk:k<ks.length;let(_,j,Q,R):=hd hk;have dg:=(D hk).sh;exact{d.g,D hk,λV e=>by simp![S,J,X,B,Ī.mpr hk,Ľ,sd,Q,R,dg,AK _ dg,AU]}
  exact{g,hg,λV e=>by simp![S,J,X,B,Ī,hk,ľ]}
 let(c,r4):∃c:Int,∀V e,A8 (m2 (BV λi j=>decide (i<j)) (AA 7)<|m1 Ap<|AA 3) (AQ (AG (AA 3)<|AA 7)<|AD 12) Aa (S V e (↑(.lst L)) (↑(.int<|5 * (k:Int))) s u)=↑(.nx<|S V e (↑(.lst L)) (↑(.int c)) s u):=by
  by_cases hk:k<cs.length;exact{cs[k],λV e=>by simp![S,N,ec,He,Ī.mpr hk,Ľ,hc hk]};exact{5 * (k:Int),λV e=>by simp![S,N,ec,He,Ī,hk,ľ]}
 let(xs,es):=LW c (m:=3)<|by decide
 have Z:FJ [.int c,.int 3]=↑(.ok<|.own<|mT 3 λi=>.int<|xs i):=es;have O:AV (mT 3 λi=>T.int<|xs i)=true:=IF _;have ex:=AK _ O;have x0:AM (mT 3 λi=>T.int<|xs i) 0=↑(.int<|xs 0):=BO (k:=0)<|by decide
 have x1:AM (mT 3 λi=>T.int<|xs i) 1=↑(.int<|xs 1):=BO (k:=1)<|by decide
 have x2:AM (mT 3 λi=>T.int<|xs i) 2=↑(.int<|xs 2):=BO (k:=2)<|by decide
 change (mT 3 λi=>T.int<|xs i)=XT;have q0:=Xk<|xs 0;let(wl,hwl):=Gj (c:=1) q0.1 q0.2;let(a,b,w,en,hF):=zkk Eg (by lia:ws.length<=7) x hL hwl
 have F:=Cm ws.length 6 x;have ev:=AK _ F;have sL:=hL.sh;have eL:=AK _ sL;have s3:Bx 3=true:=CZ (by decide)<|by decide
 obtain⟨t,q,hT,r7⟩:∃(t:Int×Int) (q:Int),FP 6 t.1 t.2 q/\∀V e,A8 (m2 Aq (m2 BB (AG (AA 13)<|mI 1)<|mI 3)<|mI 0) (AQ (AS E6<|mJ 14<|AB (BM<|AB (AG (BG<|Ah (mI 1)<|Ah (m2 BB (AG (AA 13)<|mI 2)<|m2 Ak (mI 1)<|AA 4) AE)<|m2 BB (m2 Bt (AG (AA 13)<|mI 1)<|mI 3)<|mI 2)<|AB (m2 Ak (mI 1)<|m2 BB (m2 Bt (AG (AA 13)<|mI 0)<|mI 3)<|mI 3) AE) AE)<|AD 14) Aa
   (S V e (↑(.lst L)) (↑(.int c)) (↑(.lst XT))<|↑(fr a b))=↑(.nx<|S V e (↑(.lst L)) (↑(.int c)) (↑(.lst XT))<|↑(fw t)):=by
  by_cases h3:(xs 1).fmod 3=0;have q1:=Xk<|(xs 0).fdiv 3
  let(m,em):∃m:Int,AM [T.int 1,.int<|(xs 2).fmod (1+I)] (((xs 1).fdiv 3).fmod 2)=↑(.int m):=by
   have h0:=Ā ((xs 1).fdiv 3)<|show(0:Int)<2 by decide
   have h1:=Ĉ ((xs 1).fdiv 3)<|show(0:Int)<2 by decide
   have:((xs 1).fdiv 3).fmod 2=0\/((xs 1).fdiv 3).fmod 2=1:=by lia
   rcases this with z|z<;>rw[z];exact{1,Fi};exact{_,F6}
  let(wm,M):=Gj (c:=m) q1.1 q1.2;have nz:((1+I)=0)=False:=ą<|by lia
  exact{(Zm.lt (w+wm) 6,Zm.lb (w+wm) 6),_,FP.low Eg<|w+wm,λV e=>by simp![S,O,x0,x1,x2,h3,Dx,í,nz,s3,em,Xm Eg hF.o M.o hF.e M.e]};exact{(a,b),w,hF,λV e=>by simp![S,O,x1,beq_eq_false_iff_ne.mpr h3,Dx]}
 have lc:Bs (AD 0) (mC<|.bl true) Mg (AI ws.length 6 x) [none,↑(fw t)]=↑(AI ws.length 6 λp=>x p+q):=Du (n:=ws.length) (me:=Mg) (x:=none) (cs:=[↑(fw t)]) (g:=λj=>Ay 6<|x<|j+1) (f:=λj=>Ay 6<|x (j+1)+q) λj E=>by
  unfold Mg
  simp![Jo (v:=x<|j+1) Eg hT.o hT.e]
 have ll:(AI ws.length 6 x).length<=100000:=by rw[BQ];lia
 have lW:(W.map fw).length<100000:=by rw[À];lia
 have r:=Cm ws.length 6 λp=>x p+q;have C:=AK _ r;have U:∀j,j<ws.length->AM (AI ws.length 6 λp=>x p+q) (j:Int)=↑(Ay 6<|x (j+1)+q):=λj E=>BO E
 let(x',r10):∃x':Nat->Int,∀e z11 z12 z13,A8 (m2 (BV λi j=>decide (i<j)) (AA 7)<|m1 Ap<|AA 1) (AQ (BJ 1 [10,7,1,5,8] (Bc<|AB (m1 Ap<|AA 8) AE) (AD 0) (mC<|.bl true) KU)<|AD 5) Aa (S (AI ws.length 6 λp=>x p+q) e z11 z12 z13<|↑(fw t))=↑(.nx<|S (AI ws.length 6 x') e z11 z12 z13<|↑(fw t)):=by
  by_cases hk:k<ks.length;let(_,i,Q,R):=hd hk;have dg:=(D hk).sh;have ok:Bh (ws.length:Int)=true:=Dl<|by lia
  have rg:BW 0 ws.length=mT ws.length λi=>.int (i:Int):=Ci;have a3 {x y z v:T} {l:kL}:AM (x::y::z::v::l) (3:Int)=↑v:=CW (j:=3) rfl;let f (p:Nat):=if ws.getD (p - 1) Str.empty∈d.n then 0 else x p+q
  have lwl:ws.length<=100000:=by lia
  change (AI ws.length 6 λp=>x p+q)=VU
  have Ge:Bs (AD 0) (mC<|.bl true) KU (mT ws.length λi=>.int (i:Int)) [none,↑(.lst DT),↑(.int (k:Int)),↑(.lst KT),↑(.lst VU),↑(.lst<|ws.map T.str)]=↑(AI ws.length 6 f):=Du (n:=ws.length) (me:=KU) (x:=none) (g:=λi=>.int (i:Int)) (f:=λj=>Ay 6<|f<|j+1) λj E=>by
   have aw:AM (ws.map T.str) (j:Int)=↑(.str ws[j]):=CW (by rw[È,Á E];rfl);have ei:=Il (o:=false) (k:=.lst) (λz hz=>tw z<|dn hk z hz)<|tw _<|Ï E
   have Y:f (j+1)=if ws[j]∈d.n then 0 else x (j+1)+q:=by erw[f];rw[Ō,Ö,Á E];rfl
   have U:=U j E;rw[Y];unfold KU;by_cases H:ws[j]∈d.n;rw[if_pos H,Hb<|by decide]
   simp![AX,AU,aw,U,ei,H,Ľ,J,sd,Q,R,a3,dg,r,C]
   rw[if_neg H]
   simp![AX,AU,aw,U,ei,H,ľ,J,sd,Q,R,a3,dg,r,C]
  have P:=Cm ws.length 6 f;refine{f,λe z11 z12 z13=>?_};change AI ws.length 6 f=V3
  simp![S,J,X,B,Ī.mpr hk,Ľ,AX,AU,À,ok,á,rg,Ge,lwl,r,C,sd,ed,P,AK _ P]
  exact{λp=>x p+q,λe z11 z12 z13=>by simp![S,J,X,B,Ī,hk,ľ]}
 refine{x',t,q,↑(.lst L),↑(.int c),↑(.lst XT),↑(fw t),?_,hT};have m5:Bl 5 (k:Int)=true:=G7<|DJ (by decide)<|by decide
 rw[â];unfold Kz;change W.map fw=WT;change (AI ws.length 6 λp=>x p+q)=VU;change AI ws.length 6 x=VT;refine sq (by simp![sg,Y];rfl)<|sq (r2 _ _)<|sq (by simp![S,m5];rfl)<|sq (r4 _ _)<|sq (by simp![S,Z,O,ex];rfl)<|sq (by simp![sL,eL,AX,AU,F,ev,O,x0,en];rfl)<|sq (r7 _ _)<|sq (by simp![S,lW];rfl)<|sq (by simp![F,ev,lc,ll,r,C];rfl)<|r10 _ _ _ _
def zg7{ws:kE}{rs:List<|Str×kL}{dd:List Sd}(K:SpK ws rs dd){ks:kF}(hl:ks.length<=10)(v:∀k∈ks,0<=k/\k<(dd.length:Int)){g:kL}(H:Ax ws B5 g)(cs:kF):∃W:List (Int×Int),NL [BE ws rs dd,.lst<|ks.map T.int,.lst g,.lst<|cs.map T.int]=↑(.ok<|.own<|W.map fw)/\W.length=ks.length+1/\∀t∈W,∃w,FP 6 t.1 t.2 w:=by
 have z:=FQ K.sp.r;have O:=AK _ z;have sd:=K.sp.sd;have L:=AK _ sd;have w2:=K.w2;have sg:=H.sh;have M:=AK _ sg;have sk:=Dd ks;have N:=Dw ks;have B:=Dd cs;have J:=Dw cs;let(A,Z,p):=Uk (ws:=ws) (rs:=rs) (dd:=dd) z sd (λr I=>{(K.sp.r.lk r I).1,K.l2 r I}) λd hd=>{(K.sp.d d hd).g,K.g2 d hd}
 have U:Bs (AD 0) (mC<|.bl true) Mf (ws.map T.str) [none]=↑(AI ws.length 6 λϊ=>0):=by
  have:=Ic (b:=AD 0) (me:=Mf) T.str (λϊ=>Ay 6 0) (λY=>∃y,Y=[y]) ws [none] {(none),rfl} λx hx Y P=>by
   let(y,rfl):=P;refine{[↑(.str x)],by simp![],?_,_,rfl};rw[Hb<|by decide];unfold Mf
   simp![]
  rw[this];refine congrArg some<|EX (À _) λi R=>?_
  rw[È,Á R];rfl
 have l:=FY (b:=AD 7) (body:=Kz) (n:=ks.length+1) (g:=λi=>.int (i:Int)) (Y:=[↑(BE ws rs dd),↑(.lst<|ks.map T.int),↑(.lst g),↑(.lst<|cs.map T.int),↑(.int A),↑(.lst<|AI ws.length 6 λϊ=>0),↑(.own []),none,↑(.lst<|ws.map T.str),↑(C7 rs),↑(.lst<|dd.map BU),none,none,none,none])
  (λk Y=>∃(x:Nat->Int) (W:List<|Int×Int) (C a c f h:kH),Y=[↑(BE ws rs dd),↑(.lst<|ks.map T.int),↑(.lst g),↑(.lst<|cs.map T.int),↑(.int A),↑(.lst<|AI ws.length 6 x),↑(.own<|W.map fw),C,↑(.lst<|ws.map T.str),↑(C7 rs),↑(.lst<|dd.map BU),a,c,f,h]/\W.length=k/\∀t∈W,∃w,FP 6 t.1 t.2 w)
  {λϊ=>0,[],none,none,none,none,none,rfl,rfl,λt S=>by cases S} (by
   rintro k Y hk ⟨x,W,C,a,c,f,h,rfl,s,q⟩;let(x',t,w,D,E,F,G,e,Q):=zd9 K v H cs Z x W (by lia) k a c f h
   refine{wq (BE ws rs dd) (.lst<|ks.map T.int) (.lst g) (.lst<|cs.map T.int) A (AI ws.length 6 x) (W.map fw) (k:Int) (.lst<|ws.map T.str) (C7 rs) (.lst<|dd.map BU) a c f h,?_,_,e,x',W++[t],↑(.int (k:Int)),D,E,F,G,rfl,by rw[à,s];rfl,λu j=>?_};generalize AI ws.length 6 x=VT;generalize W.map fw=WT
   simp![]
   rcases å.mp j with j|j;exact q u j
   rw[Ô.mp j];exact{(w),Q})
 let(Y',e,x,W,C,a,c,f,h,rfl,s,q):=l;refine{W,?_,s,q};have sW:AV (W.map fw)=true:=Ea λϊ ϊ=>rfl
 have ok:Bh ((ks.length:Int)+1)=true:=Dl (n:=ks.length+1)<|by lia
 have tn:((ks.length:Int)+1).toNat=ks.length+1:=by lia
 have X:BW 0 (ks.length+1)=mT (ks.length+1) λi=>.int (i:Int):=Ci;have V:ws.length<=100000:=by lia
 have m:=Cm ws.length 6 λϊ=>0;have ev:=AK _ m;have o:(ks.map T.int).length=ks.length:=À ..;change (AI ws.length 6 λϊ=>0)=V0
 change AI ws.length 6 x=VT;change W.map fw=WT;change ks.map T.int=KT;change cs.map T.int=CT;unfold NL Qs
 simp![AX,AU,z,O,sd,L,sk,N,sg,M,B,J,p,U,À,V,m,ev,o,ok,tn,X,e,sW]
abbrev P6:Stmt:=AO 71
def Fl:AH:=
 (AF (A8 (BH (m2 (Bk false) (AA 4)<|mC .non)<|m2 (BV λi j=>decide (i<j)) (AG (AG (AA 3)<|AA 6)<|mI 0)<|mI 0) (AW<|mC<|.bl false) Aa)
 (AQ (AS TQ<|mJ 0<|mJ 4<|AB (AG (AA 3)<|AA 6)<|AB (AG (AA 5)<|AA 6) AE)<|AD 4))
def Jk:AH:=
 (AF (AQ (AS Ke<|mJ 0 AE)<|AD 4)
 (AF (AQ (m2 Ak (m1 C9<|AA 1)<|BG<|Ah (mC .non) AE)<|AD 5)
 (AF (BN (Bc<|AB (m1 Ap<|AA 5) AE) (AD 6) Fl)
 (AW<|Bz (m2 (Bk true) (AA 4)<|mC .non)<|AS FK<|mJ 2<|AB (AG (AA 0)<|mI 0)<|AB (AG (AA 4)<|mI 1) AE))))
def Ho:kL->Option Ru:=A9 4 7 Jk
abbrev ZV:=fA 4 4 P6 Ho
abbrev zhs:Gm:=gA P6 3 [("_law_start",ZK),("_law_step",ZI),("_law_holds",M8)] ["list","range","len"]
theorem zi8:Ck zhs ZV P6 Jk:={}
def Dj(P:Int)(ws:kE)(rs:List<|Str×kL)(dd:List Sd):Option (Nat×(Nat->Int))->List (Int×Option Nat)->Option (Nat×(Nat->Int))
 |s,[]=>s|none,ϊ=>none|some s,x::r=>Dj P ws rs dd (DU P ws rs dd s x.1 x.2) r
def Lc{P:Int}{ws:kE}{rs:List<|Str×kL}{dd:List Sd}:∀l,Dj P ws rs dd none l=none
 |[]=>rfl|ϊ::ϋ=>rfl
set_option tactic.hygienic true in
def ziv{P:Int}{ws:kE}{rs:List<|Str×kL}{dd:List Sd}(K:SpK ws rs dd){s s':Nat×(Nat->Int)}{w:Int}{k:Option Nat}(a:s.1<rs.length)(e:DU P ws rs dd s w k=↑s'):s'.1<rs.length:=by
 unfold DU at e;split at e;split at e;lia;split at e;rename_i d hd;split at e;cases e;exact(K.sp.b d<|ì hd).2;cases e;cases e;cases e
def QH(P:Int)(m:Nat)(s:Option<|Nat×(Nat->Int)):(DX P m s).sh=true:=by
 cases s with
 |none=>rfl|some s=>
  show((!false) && (true && (((!false) && AV (AI m P s.2)) && true)))=true;rw[Cm];rfl
def IC(W:List<|Int×Int)(w:Int×Int->Int)(ks:kF):List<|Int×Option Nat:=(W.map w).zip (ks.map (λk=>↑k.toNat)++[none])
abbrev gS(A:T)(a1 a2:kH)(W D:kL)(s:T)(x:kH):AN:=[↑A,a1,a2,↑(.lst W),↑s,↑(.lst D),x]
def Y4{P:Int}(h:Bo P){ws:kE}{rs:List<|Str×kL}{dd:List Sd}(K:SpK ws rs dd){W:List<|Int×Int}{w:Int×Int->Int}(y:∀t∈W,FP P t.1 t.2<|w t){D:List<|Option Nat}(u:∀k∈D,∀i∈k,i<dd.length)(R:W.length=D.length){a1 a2:kH} :
  ∀(n:Nat) (i:Nat) (s:Option<|Nat×(Nat->Int)) (x6:kH),i+n=D.length->(∀st∈s,st.1<rs.length) ->
   ((∃y6,Ao (AD 6) Fl ((List.range' i n).map λj:Nat=>T.int (j:Int)) (gS (BE ws rs dd) a1 a2 (W.map fw) (D.map Ca) (DX P ws.length s) x6)=↑(.nx<|gS (BE ws rs dd) a1 a2 (W.map fw) (D.map Ca) (DX P ws.length<|Dj P ws rs dd s<|((W.drop i).map w).zip (D.drop i)) y6))/\(n=0\/s≠none)/\∀t∈W.drop i,0<=t.1) \/
   Ao (AD 6) Fl ((List.range' i n).map λj:Nat=>T.int (j:Int)) (gS (BE ws rs dd) a1 a2 (W.map fw) (D.map Ca) (DX P ws.length s) x6)=↑(.rt<|.bl false)/\(Dj P ws rs dd s (((W.drop i).map w).zip (D.drop i))=none\/∃t∈W.drop i,t.1<0)
 |0,i,s,x6,Q,A=>.inl {{x6,by
   have I:W.drop i=[]:=List.drop_eq_nil_of_le<|by lia
   rw[I]
   cases s<;>rfl},.inl rfl,λt f=>by
    rw[List.drop_eq_nil_of_le<|by lia]at f
    cases f}
 |n+1,i,s,x6,Q,A=>by
  have C:=FQ K.sp.r;have O:=AK _ C;have sd:=K.sp.sd;have L:=AK _ sd;have d:i<D.length:=by lia
  have a:i<W.length:=by lia
  have q:AM (W.map fw) (i:Int)=↑(fr W[i].1 W[i].2):=CW (by rw[È,Á a];rfl);have G:AM (D.map Ca) (i:Int)=↑(Ca D[i]):=CW (by rw[È,Á d];rfl);have v:=y _<|Ï a;have hk:=u _<|Ï d;have B:(Ca D[i]).sh=true:=by cases D[i]<;>rfl
  have M:=Cf _ B;have E:AV (W.map fw)=true:=Ea λϊ ϊ=>rfl
  have U:AV (D.map Ca)=true:=Ea λk ϊ=>by cases k<;>rfl
  rw[List.range'_succ,Õ];cases s with
  |none=>
   refine .inr {Z5 rfl ?_,.inl<|Lc _};show Fl [_,_,_,_,↑.non,_,_]=_;unfold Fl
   simp![]
  |some st=>
   let(r,x):=st;have z:r<rs.length:=A _ rfl;have m:=Cm ws.length P x;have p:=AK _ m;have stp:=ze8 h K z x v.o v.e hk;have F:=QH P ws.length<|DU P ws rs dd (r,x) (w W[i]) D[i];have N:=Cf _ F
   by_cases c:W[i].1<0;have o:decide (W[i].1<0)=true:=É c;refine .inr {Z5 rfl ?_,.inr {W[i],by rw[ô a];exact .head _,c}};show Fl [_,_,_,_,↑(.tup [_,.lst<|AI ws.length P x]),_,_]=_;change AI ws.length P x=VT;change W[i].1=wa;change W[i].2=wb;change W.map fw=WT;unfold Fl
   simp![E,q,o]
   have o:decide (W[i].1<0)=false:=Ù c
   have g:Fl (gS (BE ws rs dd) a1 a2 (W.map fw) (D.map Ca) (IG P ws.length r x)<|↑(.int (i:Int)))=↑(.nx<|gS (BE ws rs dd) a1 a2 (W.map fw) (D.map Ca) (DX P ws.length<|DU P ws rs dd (r,x) (w W[i]) D[i])<|↑(.int (i:Int))):=by
    change DX P ws.length (DU P ws rs dd (r,x) (w W[i]) D[i])=OT;unfold IG at *;change AI ws.length P x=VT;change Ca D[i]=KT;change W[i].1=wa;change W[i].2=wb;change W.map fw=WT;change D.map Ca=DT;unfold Fl
    simp![E,q,o,U,G,B,M,AX,AU,C,O,sd,L,m,p,stp,F,N]
   have step:=Gk (b:=AD 6) (t:=.int (i:Int)) (ts:=(List.range' (i+1) n).map λj:Nat=>T.int (j:Int)) (Y:=gS (BE ws rs dd) a1 a2 (W.map fw) (D.map Ca) (IG P ws.length r x) x6) rfl g;have S:=Y4 h K y u R (a1:=a1) (a2:=a2) n (i+1) (DU P ws rs dd (r,x) (w W[i]) D[i]) (↑(.int (i:Int))) (by lia) λV H=>ziv K z H;rw[show DX P ws.length (↑(r,x))=IG P ws.length r x from rfl];rcases S with ⟨⟨y6,e⟩,_,J⟩|⟨e,l⟩;refine .inl {{y6,?_},.inr (by simp),λt f=>?_};rw[step,e,ô a,ô d];rfl;rw[ô a]at f;rcases Î.mp f with rfl|f;lia;exact J t f;refine .inr {step.trans e,?_};rw[ô a,ô d];rcases l with l|⟨t,f,l⟩;exact .inl l;exact .inr {t,.tail _ f,l}
def zl7{P:Int}(h:Bo P){ws:kE}{rs:List<|Str×kL}{dd:List Sd}(K:SpK ws rs dd){ks:kF}(hl:ks.length<=100)(f:∀k∈ks,0<=k/\k<(dd.length:Int)){g:kL}(M:Ax ws B5 g){W:List<|Int×Int}{w:Int×Int->Int}(S:∀t∈W,FP P t.1 t.2<|w t)(hn:W.length=ks.length+1) :
  ∃b:Bool,Ho [BE ws rs dd,.lst<|ks.map T.int,.lst g,.lst<|W.map fw]=↑(.ok<|.bl b)/\(b=true ↔ (∀t∈W,0<=t.1)/\∃s,Dj P ws rs dd (Cv P ws rs) (IC W w ks)=↑s/\BK P (g.map<|A7 ws) s.2=true):=by
 have n:=FQ K.sp.r;have F:=AK _ n;have sd:=K.sp.sd;have A:=AK _ sd;have w2:=K.w2;have sg:=M.sh;have B:=AK _ sg;have L:=Dd ks;have C:=Dw ks;have p:AV (W.map fw)=true:=Ea λϊ ϊ=>rfl
 have y:=AK _ p;have st:=zdd h K;have u:=QH P ws.length<|Cv P ws rs;have E:=Cf _ u
 have X:∀s∈Cv P ws rs,s.1<rs.length:=λs e=>by
  unfold Cv at e;split at e;cases e;have:=K.sp.r.l1
  lia;cases e
 let(D,c):∃D:List (Option Nat),D=ks.map (λk=>↑k.toNat)++[none]:={_,rfl};have R:D.length=ks.length+1:=by rw[c,à,À];rfl
 have d:D.map Ca=ks.map T.int++[.non]:=by
  rw[c,â,û];refine congrArg (·++[T.non])<|Ň λk hk=>?_
  show T.int ((k.toNat:Nat):Int)=.int k;rw[Int.toNat_of_nonneg (f k hk).1]
 have Q:∀k∈D,∀i∈k,i<dd.length:=λk hk i I=>by
  rw[c]at hk;rcases å.mp hk with hk|hk;let(q,V,rfl):=Ò.mp hk;cases I;have:=f q V
  lia;rw[Ô.mp hk]at I;cases I
 have ok:Bh ((D.map Ca).length:Int)=true:=Dl (by rw[À];lia)
 have J:BW 0 (D.map Ca).length=(List.range' 0 (D.map Ca).length).map λj:Nat=>T.int (j:Int):=by
  rw[<- List.range_eq_range'];exact Ci
 have o:AV (D.map Ca)=true:=Ea λk ϊ=>by cases k<;>rfl
 have v:=AK _ o;have l1:(ks.map T.int).length+1<=100000:=by rw[À];lia
 have lk:(ks.map T.int).length<=100000:=by lia
 have a:=Y4 h K S Q (by lia) (a1:=↑(.lst<|ks.map T.int)) (a2:=↑(.lst g)) (D.map Ca).length 0 (Cv P ws rs) none (by rw[À];lia) X;rw[List.drop_zero,List.drop_zero]at a;have G:((W.map w).zip D)=IC W w ks:=by unfold IC;rw[c]
 rw[G]at a;rcases a with ⟨⟨y6,e⟩,_,O⟩|⟨e,m⟩;have Z:=QH P ws.length<|Dj P ws rs dd (Cv P ws rs)<|IC W w ks;cases N:Dj P ws rs dd (Cv P ws rs) (IC W w ks) with
 |none=>
  rw[N]at e;refine{false,?_,(λz=>by cases z),λ⟨_,s,z,_⟩=>by cases z};rw[show DX P ws.length none=.non from rfl]at e;change DX P ws.length (Cv P ws rs)=OT;rw[d]at *;change ks.map T.int=KT;change W.map fw=WT;unfold Ho Jk
  simp![AX,AU,n,F,sd,A,L,C,sg,B,p,y,st,u,E,lk,l1,o,v,ok,á,J,e]
 |some s=>
  rw[N]at e;let(r,x):=s;have U:=KC h (by lia:ws.length<=7) x M
  have l:=Cm ws.length P x;have H:=AK _ l;refine{BK P (g.map<|A7 ws) x,?_,(λz=>{O,_,rfl,z}),λ⟨_,s,z,q⟩=>by cases z;exact q}
  rw[show DX P ws.length (↑(r,x))=.tup [.int (r:Int),.lst<|AI ws.length P x] from rfl]at e;change DX P ws.length (Cv P ws rs)=OT;change BK P (g.map<|A7 ws) x=bb;rw[d]at *;change ks.map T.int=KT;change W.map fw=WT;change AI ws.length P x=VT;unfold Ho Jk;cases bb<;>simp![AX,AU,n,F,sd,A,L,C,sg,B,p,y,st,u,E,lk,l1,o,v,ok,á,J,e,l,H,U]
 refine{false,?_,(λz=>by cases z),λ⟨q,s,z,_⟩=>by
  rcases m with m|⟨t,Y,m⟩;rw[m]at z;cases z;have:=q t Y
  lia}
 change DX P ws.length (Cv P ws rs)=OT;rw[d]at *;change ks.map T.int=KT;change W.map fw=WT;unfold Ho Jk
 simp![AX,AU,n,F,sd,A,L,C,sg,B,p,y,st,u,E,lk,l1,o,v,ok,á,J,e]
abbrev Oy:Stmt:=AO 72
def Qq:AH:=
 (AW<|Bz (m1 (Cb "int")<|AA 0)<|BI<|m1 (Cb "bool")<|AA 0)
def NK:kL->Option Ru:=A9 1 1 Qq
abbrev ZF:=fA 1 1 Oy NK
abbrev zf3:Gm:=gA Oy 0 [] ["isinstance","int","bool"]
theorem zfi:Ck zf3 ZF Oy Qq:={}
def zg6(d:Int):NK [.int d]=↑(.ok<|.bl true):=by
 unfold NK Qq
 simp![]
def Jb(m:Nat)(a:Nat->Db.B):(rT m a).sh=true:=by
 have:AV (mT m λi=>bT<|a i)=true:=CU λi=>EH _;show((!false) && AV (mT m λi=>bT<|a i))=true;rw[this];rfl
theorem zT_fit(n:Nat)(f:Db.Z):Fit (zT n f) 2:=Fit.nd λt a=>by
 let(i,_,rfl):=Ò.mp a
 exact Fit.nd λt a=>by
  let(j,_,rfl):=Ò.mp a;cases f i j with
  |none=>exact Fit.non _|some d=>exact Fit.int _ _
def Ta(n:Nat)(f:Db.Z):Aq (zT n f) (zT n f)=↑(.bl true):=(zlg (n:=2) (zT_fit n f) (by decide) rfl<|zT_fit n f).1
abbrev P0:Stmt:=AO 73
def Hu:AH:=
 (AF (AQ (AG (AG (AA 0)<|AA 3)<|AA 4)<|AD 5)
 (A8 (m2 (Bk true) (AA 5)<|mC .non) (AF (AQ (m2 DQ (m2 BY (AG (AG (AA 2)<|AA 3)<|mI 0)<|AG (AG (AA 2)<|AA 4)<|mI 1)<|m2 BY (AG (AG (AA 2)<|AA 4)<|mI 0)<|AG (AG (AA 2)<|AA 3)<|mI 1)<|AD 6)
 (AF (AQ (m2 DQ (AA 6)<|m2 BY (m2 BY (m2 Ek (AA 5)<|mI 1)<|AG (AG (AA 2)<|AA 3)<|mI 1)<|AG (AG (AA 2)<|AA 4)<|mI 1)<|AD 6)
 (A8 (BH (m2 (BV λi j=>decide (j<i)) (AA 6)<|mI 0)<|Bz (m2 Aq (AA 6)<|mI 0)<|m2 Aq (m2 FZ (AA 5)<|mI 1)<|mI 0) (AW<|mC<|.bl false) Aa))) Aa))
def Hv:AH:=
 (BN (Bc<|AB (m1 Ap<|AA 2) AE) (AD 4) Hu)
def MI:AH:=
 (AF (AQ (m2 Ak (BG<|Ah (BM<|AB (mI 0)<|AB (mI 1) AE) AE)<|AA 1)<|AD 2)
 (AF (BN (Bc<|AB (m1 Ap<|AA 2) AE) (AD 3) Hv)
 (AW<|mC<|.bl true)))
def Ki:kL->Option Ru:=A9 2 7 MI
abbrev ZS:=fA 1 2 P0 Ki
abbrev zhr:Gm:=gA P0 0 [] ["range","len"]
theorem zi7:Ck zhr ZS P0 MI:={}
def ziz{P u v d:Int}(h:0<P):(0<Zm.lt u P * Zm.lb v P - Zm.lt v P * Zm.lb u P - d * Zm.lb u P * Zm.lb v P ↔ d * P<u - v)/\(Zm.lt u P * Zm.lb v P - Zm.lt v P * Zm.lb u P - d * Zm.lb u P * Zm.lb v P=0 ↔ u - v=d * P):=by
 have j:=low_mul (v:=u) h;have m:=low_mul (v:=v) h;have p:=Zm.lb_pos (t:=u) h;have r:=Zm.lb_pos (t:=v) h;change Zm.lt u P=a;change Zm.lb u P=b;change Zm.lt v P=c;change Zm.lb v P=e
 have k:(a * e - c * b - d * b * e) * P=(u - v - d * P) * (b * e):=by
  calc (a * e - c * b - d * b * e) * P=(a * P) * e - (c * P) * b - d * P * (b * e):=by rw[Ė,Ė];erw[ö,ē,ø]
   _=(u * b) * e - (v * e) * b - d * P * (b * e):=by rw[j,m]
   _=(u - v - d * P) * (b * e):=by rw[Ė,Ė];erw[ö,ē,ø]
 have q:=ü p r;change a * e - c * b - d * b * e=l;change b * e=n;have o:u - v=u - v - d * P+d * P:=by lia
 rw[o];change u - v - d * P=w;change d * P=y
 have s1:(0<l ↔ 0<w)/\(l=0 ↔ w=0):=by
  rcases Ŵ l 0 with z|z|z<;>rcases Ŵ w 0 with f|f|f
  all_goals first
   |(refine⟨⟨λq=>?_,λq=>?_⟩,⟨λq=>?_,λq=>?_⟩⟩<;>lia)
   |exfalso
  have:=Ġ z h;rw[k,f,ĕ]at this;lia;have i:=Ġ z h;have g:=ü f q
  lia;have g:=Ġ f q;rw[<- k,z,ĕ]at g;lia;have g:=ü f q;rw[<- k,z,ĕ]at g;lia;have i:=ü z h;have g:=Ġ f q
  lia;have i:=ü z h;rw[k,f,ĕ]at i;lia
 lia
def zX(x:Nat->Int):Nat->Int:=λi=>if i=0 then 0 else x i
def Ia(n:Nat)(P:Int)(X:Nat->Int)(f:Db.Z):Bool:=(List.range n).all λi=>(List.range n).all λj=>Db.satB P (f i j)<|X i - X j
def zku{n:Nat}{P:Int}{X:Nat->Int}{f:Db.Z}(h:Db.Lie n P X f):Ia n P X f=true:=Ú.mpr λi a=>Ú.mpr λj b=>Db.satB_iff.mpr<|h i j (è.mp a)<|è.mp b
def zet{P:Int}(h:Bo P){n:Nat}{f:Db.Z}(X:Nat->Int){i j:Nat}(B:i<n)(C:j<n)(a1 x5 x6:kH):∃y5 y6,Hu [↑(zT n f),a1,↑(.lst<|mT n λi=>Ay P<|X i),↑(.int (i:Int)),↑(.int (j:Int)),x5,x6]=↑(if Db.satB P (f i j) (X i - X j)=true then .nx [↑(zT n f),a1,↑(.lst<|mT n λi=>Ay P<|X i),↑(.int (i:Int)),↑(.int (j:Int)),y5,y6] else .rt (.bl false)):=by
 have F:AV (mT n λi=>rT n<|f i)=true:=CU λi=>Jb n<|f i
 have s:AM (mT n λi=>rT n<|f i) (i:Int)=↑(.lst<|mT n λj=>bT<|f i j):=BO B;have D:AV (mT n λj=>bT<|f i j)=true:=CU λj=>EH _;have m:AM (mT n λj=>bT<|f i j) (j:Int)=↑(bT<|f i j):=BO C;have E:AV (mT n λi=>Ay P<|X i)=true:=CU λϊ=>rfl;have q:AM (mT n λi=>Ay P<|X i) (i:Int)=↑(fr (Zm.lt (X i) P)<|Zm.lb (X i) P):=BO B;have r:AM (mT n λi=>Ay P<|X i) (j:Int)=↑(fr (Zm.lt (X j) P)<|Zm.lb (X j) P):=BO C;have t:=h.lb<|X i;have w:=h.lb<|X j;unfold zT;change (mT n λi=>rT n<|f i)=ZT
 change (mT n λj=>bT<|f i j)=RT;change (mT n λi=>Ay P<|X i)=VT;cases A:f i j with
 |none=>
  rw[A]at m;have g:AM RT (j:Int)=↑.non:=m;refine{↑.non,x6,?_};rw[if_pos (show Db.satB P none (X i - X j)=true from rfl)];unfold Hu
  simp![F,s,D,g]
 |some d=>
  rw[A]at m;have g:AM RT (j:Int)=↑(.int d):=m;let(H,I):=ziz (u:=X i) (v:=X j) (d:=d / 2) h.p;have x:=Db.band_one d;have J:(0:Int)<=1:=by decide
  have G:d / 2 ^ (1:Int).toNat=d / 2:=rfl;change Zm.lt (X i) P=a;change Zm.lb (X i) P=b;change Zm.lt (X j) P=c;change Zm.lb (X j) P=e;have K:Bl a e=true:=EV w.s;have L:Bl c b=true:=EV t.s;have M:Bl (d / 2) b=true:=EV t.s;have N:Bl (d / 2 * b) e=true:=EV w.s;refine{↑(.int d),↑(.int<|a * e - c * b - d / 2 * b * e),?_}
  have hh:(Db.satB P ↑d (X i - X j)=true) ↔ ¬ (0<a * e - c * b - d / 2 * b * e\/a * e - c * b - d / 2 * b * e=0/\d % 2=0):=by
   unfold Db.satB;rw[decide_eq_true_iff,H,I];change d / 2 * P=y;lia
  unfold Hu;refine sq (by simp![F,s,D,g];rfl) ?_
  have st:AF (AQ (m2 DQ (m2 BY (AG (AG (AA 2)<|AA 3)<|mI 0)<|AG (AG (AA 2)<|AA 4)<|mI 1)<|m2 BY (AG (AG (AA 2)<|AA 4)<|mI 0)<|AG (AG (AA 2)<|AA 3)<|mI 1)<|AD 6)
    (AF (AQ (m2 DQ (AA 6)<|m2 BY (m2 BY (m2 Ek (AA 5)<|mI 1)<|AG (AG (AA 2)<|AA 3)<|mI 1)<|AG (AG (AA 2)<|AA 4)<|mI 1)<|AD 6)
    (A8 (BH (m2 (BV λi j=>decide (j<i)) (AA 6)<|mI 0)<|Bz (m2 Aq (AA 6)<|mI 0)<|m2 Aq (m2 FZ (AA 5)<|mI 1)<|mI 0) (AW<|mC<|.bl false) Aa)) [↑(.lst ZT),a1,↑(.lst VT),↑(.int (i:Int)),↑(.int (j:Int)),↑(.int d),x6]=↑(if Db.satB P ↑d (X i - X j)=true then .nx [↑(.lst ZT),a1,↑(.lst VT),↑(.int (i:Int)),↑(.int (j:Int)),↑(.int d),↑(.int<|a * e - c * b - d / 2 * b * e)] else .rt (.bl false)):=by
   refine sq (by simp![E,q,r,K,L];rfl)<|sq (by simp![Ek,J,E,q,r,G,M,N];rfl) ?_
   change a * e - c * b - d / 2 * b * e=l;by_cases c1:0<l;have k:decide (0<l)=true:=É c1;rw[if_neg (by rw[hh];exact λz=>z<|.inl c1)]
   simp![k]
   have k:decide (0<l)=false:=Ù c1;by_cases c2:l=0;have o:(l == 0)=true:=beq_iff_eq.mpr c2;by_cases c3:d % 2=0;have p:(d % 2 == 0)=true:=beq_iff_eq.mpr c3;rw[if_neg (by rw[hh];exact λz=>z<|.inr {(c2),c3})]
   simp![k,o,p,Dx,x]
   have p:(d % 2 == 0)=false:=beq_eq_false_iff_ne.mpr c3;rw[if_pos (by rw[hh];exact λz=>z.elim c1 λz=>c3 z.2)]
   simp![k,o,p,Dx,x]
   have o:(l == 0)=false:=beq_eq_false_iff_ne.mpr c2;rw[if_pos (by rw[hh];exact λz=>z.elim c1 λz=>c2 z.1)]
   simp![k,o,Dx]
  rw[<- st]
  simp![]
def zkt{P:Int}(h:Bo P){m:Nat}(H:m<=100)(f:Db.Z)(x:Nat->Int):Ki [zT (m+1) f,.lst<|AI m P x]=↑(.ok<|.bl<|Ia (m+1) P (zX x) f):=by
 have s:=Cm m P x;have v:=AK _ s;have F:=JS (m+1) f;have G:=Cf _ F
 have C:fr 0 1::AI m P x=mT (m+1) λi=>Ay P<|zX x i:=by
  unfold AI;rw[zln];refine EC λi y=>?_;cases i with
  |zero=>exact(Hb h.p).symm|succ i=>rfl
 have E:(AI m P x).length=m:=BQ;have l1:1+m<=100000:=by lia
 let S (t g a d:kH):AN:=[↑(zT (m+1) f),↑(.lst<|AI m P x),↑(.lst<|mT (m+1) λi=>Ay P<|zX x i),t,g,a,d];have k (i:Nat) (y:i<m+1):=M5 (b:=AD 4) (body:=Hu) (λj:Nat=>T.int (j:Int)) (λj=>Db.satB P (f i j)<|zX x i - zX x j) (.bl false) (λY=>∃g a d,Y=S (↑(.int (i:Int))) g a d)<|List.range<|m+1
 have ok:Bh ((m+1:Nat):Int)=true:=Dl<|by lia
 have B:BW 0 (m+1)=(List.range<|m+1).map λj:Nat=>T.int (j:Int):=Ci;have l:AV (mT (m+1) λi=>Ay P<|zX x i)=true:=CU λϊ=>rfl;have n:=AK _ l;have r:(mT (m+1) λi=>Ay P<|zX x i).length=m+1:=BQ
 have outer:=M5 (b:=AD 3) (body:=Hv) (λi:Nat=>T.int (i:Int)) (λi=>(List.range<|m+1).all λj=>Db.satB P (f i j)<|zX x i - zX x j) (.bl false) (λY=>∃t g a d,Y=S t g a d) (List.range<|m+1) (S none none none none) {(none),none,none,none,rfl} λi y Y w=>by
  let(t,g,a,d,rfl):=w;have p:=è.mp y;refine{S (↑(.int (i:Int))) g a d,rfl,?_}
  have q:=k i p (S (↑(.int (i:Int))) g a d) {(g),a,d,rfl} λj D Y w=>by
   let(g,a,d,rfl):=w;let(I,J,e):=zet h (f:=f) (zX x) p (è.mp D) (↑(.lst<|AI m P x)) a d;refine{S (↑(.int (i:Int))) (↑(.int (j:Int))) a d,rfl,λz=>?_,λz=>?_}
   rw[if_pos z]at e;exact{_,e,_,_,_,rfl};rw[if_neg (by rw[z];exact õ)]at e;exact e
  have head:∀o,Ao (AD 4) Hu ((List.range<|m+1).map λj:Nat=>T.int (j:Int)) (S (↑(.int (i:Int))) g a d)=↑o->Hv (S (↑(.int (i:Int))) g a d)=↑o:=λo u=>by
   unfold Hv;rw[<- B]at u;change AI m P x=VT;change (mT (m+1) λi=>Ay P<|zX x i)=WT
   simp![S,l,n,r,ok,á]
   exact u
  refine{λz=>?_,λz=>head _<|q.2 z};let(A,e,g,a,d,rfl):=q.1 z;exact{_,head _ e,_,_,_,_,rfl}
 rw[<- B]at outer;unfold Ki;refine HI rfl ?_;show MI [↑(zT (m+1) f),↑(.lst<|AI m P x),none,none,none,none,none]=_;unfold MI;refine sq (Y':=S none none none none) ?_ ?_
 show _=↑(Out.nx [_,_,↑(.lst<|mT (m+1) λi=>Ay P<|zX x i),_,_,_,_]);rw[<- C];change AI m P x=VT
 simp![s,v,E,l1]
 show _=↑(Out.rt<|.bl<|(List.range<|m+1).all λi=>(List.range<|m+1).all λj=>Db.satB P (f i j)<|zX x i - zX x j)
 have head:∀o,Ao (AD 3) Hv (BW 0<|m+1) (S none none none none)=↑o->BN (Bc<|AB (m1 Ap<|AA 2) AE) (AD 3) Hv (S none none none none)=↑o:=λo u=>by
  change AI m P x=VT;change (mT (m+1) λi=>Ay P<|zX x i)=WT
  simp![S,l,n,r,ok,á]
  exact u
 cases c:(List.range<|m+1).all λi=>(List.range<|m+1).all λj=>Db.satB P (f i j) (zX x i - zX x j) with
 |true=>
  let(A,e,t,g,a,d,rfl):=outer.1 c;refine sq (head _ e) ?_
  simp![]
 |false=>exact sr<|head _<|outer.2 c
abbrev PU:Stmt:=AO 74
def LD:AH:=
 (AF (A8 (BH (m2 (Bk false) (AG (AG (AA 0)<|AA 2)<|AA 2)<|mC .non)<|m2 (BV λi j=>decide (j<i)) (AG (AG (AA 0)<|AA 2)<|AA 2)<|mI 1) (Ft 0 (AA 2) (AA 2)<|mI 1) Aa)
 (A8 (BH (m2 (Bk false) (AG (AG (AA 0)<|mI 0)<|AA 2)<|mC .non)<|m2 (BV λi j=>decide (j<i)) (AG (AG (AA 0)<|mI 0)<|AA 2)<|mI 1) (Ft 0 (mI 0) (AA 2)<|mI 1) Aa))
def LF:AH:=
 (AF (AQ (AG (AG (AA 0)<|AA 3)<|AA 5)<|AD 6)
 (A8 (Bz (m2 (Bk true) (AA 4)<|mC .non)<|m2 (Bk true) (AA 6)<|mC .non) (AF (AQ (m2 Ak (m2 BY (mI 2)<|m2 Ak (m2 Ek (AA 4)<|mI 1)<|m2 Ek (AA 6)<|mI 1)<|m2 FZ (m2 FZ (AA 4)<|AA 6)<|mI 1)<|AD 7)
 (A8 (BH (m2 (Bk false) (AG (AG (AA 0)<|AA 2)<|AA 5)<|mC .non)<|m2 (BV λi j=>decide (i<j)) (AA 7)<|AG (AG (AA 0)<|AA 2)<|AA 5) (Ft 0 (AA 2) (AA 5)<|AA 7) Aa)) Aa))
def Nk:AH:=
 (AF (AQ (AG (AG (AA 0)<|AA 2)<|AA 3)<|AD 4)
 (BN (Bc<|mJ 1 AE) (AD 5) LF))
def Nl:AH:=
 (BN (Bc<|mJ 1 AE) (AD 2) Nk)
def MY:AJ:=
 (m2 (BV λi j=>decide (i<j)) (AG (AG (AA 1)<|AA 0)<|AA 0)<|mI 1)
def Mj:AJ:=
 (AA 0)
def MG:AH:=
 (AF (AQ (m1 Ap<|AA 0)<|AD 1)
 (AF (BN (Bc<|mJ 1 AE) (AD 2) LD)
 (AF (BN (Bc<|mJ 1 AE) (AD 3) Nl)
 (AF (A8 (m2 CH (BJ 1 [0] (Bc<|mJ 1 AE) (AD 0) MY Mj)<|BG AE) (AW<|mC .non) Aa)
 (AW<|AA 0)))))
def NP:kL->Option Ru:=A9 1 8 MG
abbrev ZN:=fA 1 1 PU NP
abbrev zds:Gm:=gA PU 0 [] ["len","range"] (N:=["_law_rows","_law_many","_law_i","_law_k","_law_one","_law_j","_law_other","_law_way"])
theorem ze2:Ck zds ZN PU MG:={}
def zig(a b:Int):Builtin.bitAnd (Builtin.bitAnd a b) 1=min (a % 2) (b % 2):=by
 rw[Db.band_one];have:=Db.band_odd a b;change Builtin.bitAnd a b=c
 lia
def zek{n:Nat}{f:Db.Z}(h:Db.Nar n f){i:Nat}(b:i<n){a1 a3 a4 a5 a6 a7:kH}:LD [↑(zT n f),a1,↑(.int (i:Int)),a3,a4,a5,a6,a7]=↑(.nx [↑(zT n f),a1,↑(.int (i:Int)),a3,a4,a5,a6,a7]):=by
 have o:AV (mT n λi=>rT n<|f i)=true:=CU λi=>Jb n<|f i
 have q:AM (mT n λi=>rT n<|f i) (i:Int)=↑(.lst<|mT n λj=>bT<|f i j):=BO b;have p:AM (mT n λi=>rT n<|f i) 0=↑(.lst<|mT n λj=>bT<|f 0 j):=BO (k:=0)<|by lia
 have u:AV (mT n λj=>bT<|f i j)=true:=CU λj=>EH _;have t:AV (mT n λj=>bT<|f 0 j)=true:=CU λj=>EH _;have g:AM (mT n λj=>bT<|f i j) (i:Int)=↑(bT<|f i i):=BO b;have l:AM (mT n λj=>bT<|f 0 j) (i:Int)=↑(bT<|f 0 i):=BO b;have a:=h.row i b;rw[h.diag i b]at g;have c:AM (mT n λj=>bT<|f i j) (i:Int)=↑(.int 1):=g
 cases m:f 0 i with
 |none=>rw[m]at a;exact a.elim|some d=>
  rw[m]at a l;have a:d<=1:=a;have e:AM (mT n λj=>bT<|f 0 j) (i:Int)=↑(.int d):=l
  have r:decide ((1:Int)<d)=false:=Ù<|by lia
  have s:decide ((1:Int)<1)=false:=rfl;unfold zT;change (mT n λi=>rT n<|f i)=ZT;change (mT n λj=>bT<|f i j)=RT;change (mT n λj=>bT<|f 0 j)=R0;unfold LD;refine Fo (by simp![o,q,u,c,s]) ?_
  simp![o,p,t,e,r]
def zej{n:Nat}{f:Db.Z}(h:Db.Nar n f){i j k:Nat}(q:i<n)(o:j<n)(hk:k<n){a1 x6 x7:kH}:∃y6 y7,LF [↑(zT n f),a1,↑(.int (i:Int)),↑(.int (k:Int)),↑(bT<|f i k),↑(.int (j:Int)),x6,x7]=↑(.nx [↑(zT n f),a1,↑(.int (i:Int)),↑(.int (k:Int)),↑(bT<|f i k),↑(.int (j:Int)),y6,y7]):=by
 have e:AV (mT n λi=>rT n<|f i)=true:=CU λi=>Jb n<|f i
 have g:AM (mT n λi=>rT n<|f i) (k:Int)=↑(.lst<|mT n λj=>bT<|f k j):=BO hk;have s:AM (mT n λi=>rT n<|f i) (i:Int)=↑(.lst<|mT n λj=>bT<|f i j):=BO q;have p:AV (mT n λj=>bT<|f k j)=true:=CU λj=>EH _;have E:AV (mT n λj=>bT<|f i j)=true:=CU λj=>EH _;have m:AM (mT n λj=>bT<|f k j) (j:Int)=↑(bT<|f k j):=BO o;have u:AM (mT n λj=>bT<|f i j) (j:Int)=↑(bT<|f i j):=BO o;have t:=h.tri i j k q o hk;unfold zT;change (mT n λi=>rT n<|f i)=ZT;change (mT n λj=>bT<|f k j)=KT;change (mT n λj=>bT<|f i j)=IT;change f i k=A;change f k j=B;change f i j=C;unfold LF;cases A with
 |none=>
  have r:=EH B;have z:=Cf _ r;refine{↑(bT B),x7,?_};show AF _ _ [_,_,_,_,↑T.non,_,_,_]=↑(.nx [_,_,_,_,↑T.non,_,_,_]);change bT B=BT;refine sq (by simp![e,g,p,m,r,z];rfl) ?_
  simp![]
 |some a=>
  cases B with
  |none=>
   have d:AM KT (j:Int)=↑.non:=m;refine{↑.non,x7,?_};show AF _ _ [_,_,_,_,↑(T.int a),_,_,_]=↑(.nx [_,_,_,_,↑(T.int a),_,_,_]);refine sq (by simp![e,g,p,d];rfl) ?_
   simp![]
  |some b=>
   have d:AM KT (j:Int)=↑(.int b):=m;cases C with
   |none=>exact t.elim|some c=>
    have l:AM IT (j:Int)=↑(.int c):=u;have t:c<=Db.bs a b:=t;have D:(0:Int)<=1:=by decide
    have x:a / 2 ^ (1:Int).toNat=a / 2:=rfl;have y:b / 2 ^ (1:Int).toNat=b / 2:=rfl;have F:Bl 2 (a / 2+b / 2)=true:=G7<|DJ (by decide)<|by decide
    have v:=zig a b;have eb:2 * (a / 2+b / 2)+min (a % 2) (b % 2)=Db.bs a b:=by unfold Db.bs;rfl
    have w:decide (Db.bs a b<c)=false:=Ù<|by lia
    refine{↑(.int b),↑(.int<|Db.bs a b),?_};show AF _ _ [_,_,_,_,↑(T.int a),_,_,_]=↑(.nx [_,_,_,_,↑(T.int a),_,_,_]);refine sq (by simp![e,g,p,d];rfl) ?_
    have st:AF (AQ (m2 Ak (m2 BY (mI 2)<|m2 Ak (m2 Ek (AA 4)<|mI 1)<|m2 Ek (AA 6)<|mI 1)<|m2 FZ (m2 FZ (AA 4)<|AA 6)<|mI 1)<|AD 7)
     (A8 (BH (m2 (Bk false) (AG (AG (AA 0)<|AA 2)<|AA 5)<|mC .non)<|m2 (BV λi j=>decide (i<j)) (AA 7)<|AG (AG (AA 0)<|AA 2)<|AA 5) (Ft 0 (AA 2) (AA 5)<|AA 7) Aa) [↑(.lst ZT),a1,↑(.int (i:Int)),↑(.int (k:Int)),↑(.int a),↑(.int (j:Int)),↑(.int b),x7]=↑(.nx [↑(.lst ZT),a1,↑(.int (i:Int)),↑(.int (k:Int)),↑(.int a),↑(.int (j:Int)),↑(.int b),↑(.int<|Db.bs a b)]):=by
     refine sq (by simp![Ek,D,x,y,F,v,eb];rfl) ?_
     simp![e,s,E,l,w]
    rw[<- st]
    simp![]
def zoi{n:Nat}(R:n<=1000){f:Db.Z}(h:Db.Nar n f):NP [zT n f]=↑(.ok<|zT n f):=by
 have d:AV (mT n λi=>rT n<|f i)=true:=CU λi=>Jb n<|f i
 have t:=AK _ d;have G:(mT n λi=>rT n<|f i).length=n:=BQ
 have ok:Bh (n:Int)=true:=Dl<|by lia
 have m:BW 0 n=mT n λi=>.int (i:Int):=Ci;let S (x2 K L M w A:kH):AN:=[↑(zT n f),↑(.int (n:Int)),x2,K,L,M,w,A]
 let(P,r,x2,rfl):=FY (b:=AD 2) (body:=LD) (n:=n) (g:=λi=>.int (i:Int)) (Y:=S none none none none none none) (λϊ Y=>∃x2,Y=S x2 none none none none none) {(none),rfl} (by
  rintro i Y a ⟨x2,rfl⟩;exact{_,rfl,_,zek h a,_,rfl})
 let(Q,c,y,rfl):=FY (b:=AD 3) (body:=Nl) (n:=n) (g:=λi=>.int (i:Int)) (Y:=S x2 none none none none none) (λϊ Y=>∃y:Nat->kH,Y=S (y 2) (y 3) (y 4) (y 5) (y 6) (y 7)) {λi=>if i=2 then x2 else none,rfl} (by
  rintro k Y hk ⟨y,rfl⟩;refine{S (y 2) (↑(.int (k:Int))) (y 4) (y 5) (y 6)<|y 7,rfl,?_}
  let(Y,e,z,rfl):=FY (b:=AD 2) (body:=Nk) (n:=n) (g:=λi=>.int (i:Int)) (Y:=S (y 2) (↑(.int (k:Int))) (y 4) (y 5) (y 6)<|y 7) (λϊ Y=>∃y:Nat->kH,Y=S (y 2) (↑(.int (k:Int))) (y 4) (y 5) (y 6) (y 7)) {(y),rfl} (by
   rintro i Y a ⟨y,rfl⟩;refine{S (↑(.int (i:Int))) (↑(.int (k:Int))) (y 4) (y 5) (y 6)<|y 7,rfl,?_}
   let(Y,e,z,rfl):=FY (b:=AD 5) (body:=LF) (n:=n) (g:=λi=>.int (i:Int)) (Y:=S (↑(.int (i:Int))) (↑(.int (k:Int))) (↑(bT<|f i k)) (y 5) (y 6)<|y 7) (λϊ Y=>∃y:Nat->kH,Y=S (↑(.int (i:Int))) (↑(.int (k:Int))) (↑(bT<|f i k)) (y 5) (y 6) (y 7)) {(y),rfl} (by
    rintro j Y F ⟨y,rfl⟩;let(N,O,e):=zej h a F hk (a1:=↑(.int (n:Int))) (x6:=y 6) (x7:=y 7);exact{_,rfl,_,e,λq=>if q=5 then ↑(.int (j:Int)) else if q=6 then N else O,rfl})
   refine{_,?_,λq=>if q=2 then ↑(.int (i:Int)) else if q=4 then ↑(bT<|f i k) else z q,rfl};have B:AM (mT n λi=>rT n<|f i) (i:Int)=↑(.lst<|mT n λj=>bT<|f i j):=BO a;have I:AV (mT n λj=>bT<|f i j)=true:=CU λj=>EH _;have D:AM (mT n λj=>bT<|f i j) (k:Int)=↑(bT<|f i k):=BO hk;have v:=EH<|f i k;have E:=Cf _ v;rw[<- m]at e;unfold Nk;refine sq (Y':=S (↑(.int (i:Int))) (↑(.int (k:Int))) (↑(bT<|f i k)) (y 5) (y 6)<|y 7) ?_ ?_
   unfold S zT;change (mT n λi=>rT n<|f i)=ZT;change (mT n λj=>bT<|f i j)=IT;change bT (f i k)=BT
   simp![d,B,I,D,v,E]
   unfold S at e ⊢;change zT n f=ZT;change bT (f i k)=BT
   simp![ok,á]
   exact e)
  refine{_,?_,λq=>if q=3 then ↑(.int (k:Int)) else z q,rfl};rw[<- m]at e;unfold Nl;unfold S at e ⊢;change zT n f=ZT
  simp![ok,á]
  exact e)
 have u:Bs (AD 0) MY Mj (BW 0 n) [none,↑(zT n f)]=↑[]:=by
  have:=MO (f:=λk:Nat=>T.int (k:Int)) (p:=λϊ=>false) (mt:=MY) (me:=Mj) (cs:=[↑(zT n f)]) (l:=List.range n) (x:=none) λi a=>by
   have a:=è.mp a;have C:AM (mT n λi=>rT n<|f i) (i:Int)=↑(.lst<|mT n λj=>bT<|f i j):=BO a
   have J:AV (mT n λj=>bT<|f i j)=true:=CU λj=>EH _;have s:AM (mT n λj=>bT<|f i j) (i:Int)=↑(bT<|f i i):=BO a;rw[h.diag i a]at s;have o:AM (mT n λj=>bT<|f i j) (i:Int)=↑(.int 1):=s
   have c:decide ((1:Int)<1)=false:=rfl;unfold zT;change (mT n λi=>rT n<|f i)=ZT;change (mT n λj=>bT<|f i j)=RT;unfold MY Mj;exact{{false,by simp![d,C,J,o,c]},by simp![]}
  rw[m];refine this.trans ?_;rw[List.filter_eq_nil_iff.mpr λϊ ϊ=>by simp];rfl
 have ll:(BW 0 n).length<=100000:=by unfold BW;rw[À,Ċ];lia
 have H:CH (.lst []) (.lst [])=↑(.bl false):=by ext
 rw[<- m]at r c;unfold NP;refine HI rfl ?_;show MG [↑(.lst<|mT n λi=>rT n<|f i),none,none,none,none,none,none,none]=↑(.rt<|.lst<|mT n λi=>rT n<|f i)
 unfold S zT at r c;unfold zT at u;unfold MG;change (mT n λi=>rT n<|f i)=ZT;refine sq (by simp![t,G];rfl)<|sq (by simp![ok,á];exact r)<|sq (by simp![ok,á];exact c)<|Fo (by simp![ok,á,d,t,u,ll,H]) ?_
 simp![d]
abbrev P1:Stmt:=AO 77
def Ml:AJ:=
 (BH (m2 (Bk false) (AA 0)<|mC .non)<|AS NK<|mJ 0 AE)
def JV:AH:=
 (AF (A8 (BH (BI<|m1 (Cb "list")<|AA 2)<|m2 CH (m1 Ap<|AA 2)<|m2 Ak (AA 1)<|mI 2) (AW<|mC<|.bl false) Aa)
 (A8 (BI<|m1 EI<|BJ 1 [] (BA<|AA 2) (AD 0) (mC<|.bl true) Ml) (AW<|mC<|.bl false) Aa))
def KW:AJ:=
 (m1 C9<|AA 0)
def MJ:AH:=
 (AF (A8 (BH (BI<|m1 (Cb "list")<|AA 0)<|m2 CH (m1 Ap<|AA 0)<|m2 Ak (AA 1)<|mI 2) (AW<|mC<|.bl false) Aa)
 (AF (BN (BA<|AA 0) (AD 2) JV)
 (AW<|m2 Aq (AS NP<|AB (BJ 1 [] (BA<|AA 0) (AD 0) (mC<|.bl true) KW) AE)<|AA 0)))
def Kj:kL->Option Ru:=A9 2 3 MJ
abbrev ZU:=fA 2 2 P1 Kj
abbrev zbk:Gm:=gA P1 1 [("_law_whole",ZF),("_law_narrow",ZN)] ["isinstance","list","len","all"] (N:=["_law_zone","_law_many","_law_row"])
theorem zbr:Ck zbk ZU P1 MJ:={}
def zpc{m:Nat}(D:m<=500){f:Db.Z}(h:Db.Nar (m+2) f):Kj [zT (m+2) f,.int (m:Int)]=↑(.ok<|.bl true):=by
 have o:AV (mT (m+2) λi=>rT (m+2)<|f i)=true:=CU λi=>Jb (m+2)<|f i
 have p:=AK _ o;have t:(mT (m+2) λi=>rT (m+2)<|f i).length=m+2:=BQ
 have c:(mT (m+2) λi=>rT (m+2)<|f i).length<=100000:=by rw[t];lia
 have u:CH (.int ((m+2:Nat):Int)) (.int<|(m:Int)+2)=↑(.bl false):=by
  rw[Fz];simp
 have nr:=zoi (n:=m+2) (by lia) h;have s:=Ta (m+2) f
 have row (i:Nat):JV [↑(zT (m+2) f),↑(.int (m:Int)),↑(rT (m+2)<|f i)]=↑(.nx [↑(zT (m+2) f),↑(.int (m:Int)),↑(rT (m+2)<|f i)]):=by
  have a:AV (mT (m+2) λj=>bT<|f i j)=true:=CU λj=>EH _;have k:=AK _ a;have l:(mT (m+2) λj=>bT<|f i j).length=m+2:=BQ
  have q:(mT (m+2) λj=>bT<|f i j).length<=100000:=by rw[l];lia
  have r:Bs (AD 0) (mC<|.bl true) Ml (mT (m+2) λj=>bT<|f i j) [none]=↑(mT (m+2) λϊ=>.bl true):=Du (n:=m+2) (me:=Ml) (x:=none) (cs:=[]) (g:=λj=>bT<|f i j) (f:=λϊ=>.bl true) λj C=>by
   unfold Ml;cases f i j with
   |none=>
    show BH _ _ [↑T.non]=_
    simp![]
   |some d=>
    show BH _ _ [↑(T.int d)]=_
    simp![zg6 d]
  have v:EI (.lst<|mT (m+2) λϊ=>T.bl true)=↑(.bl true):=by
   rw[zpz λϊ=>true];simp
  have A:AV (mT (m+2) λϊ=>T.bl true)=true:=CU λϊ=>rfl;have w:=AK _ A;show JV [_,_,↑(.lst<|mT (m+2) λj=>bT<|f i j)]=↑(.nx [_,_,↑(.lst<|mT (m+2) λj=>bT<|f i j)])
  change zT (m+2) f=ZT;change (mT (m+2) λj=>bT<|f i j)=RT;change (mT (m+2) λϊ=>T.bl true)=BT;unfold JV;refine Fo (by simp![a,k,l,u]) ?_
  simp![-EI,a,k,q,r,v,w]
 let(B,e,x2,rfl):=FY (b:=AD 2) (body:=JV) (n:=m+2) (g:=λi=>rT (m+2)<|f i) (Y:=[↑(zT (m+2) f),↑(.int (m:Int)),none]) (λϊ Y=>∃x2,Y=[↑(zT (m+2) f),↑(.int (m:Int)),x2]) {(none),rfl} (by
  rintro i Y z ⟨x2,rfl⟩;exact{_,rfl,_,row i,_,rfl})
 have r:Bs (AD 0) (mC<|.bl true) KW (mT (m+2) λi=>rT (m+2)<|f i) [none]=↑(oZ (m+2) f):=Du (n:=m+2) (me:=KW) (x:=none) (cs:=[]) (g:=λi=>rT (m+2)<|f i) (f:=λi=>.own<|mT (m+2) λj=>bT<|f i j) λi z=>by
  have a:AV (mT (m+2) λj=>bT<|f i j)=true:=CU λj=>EH _;have k:=AK _ a;have l:(mT (m+2) λj=>bT<|f i j).length<=100000:=by rw[BQ];lia
  show KW [↑(.lst<|mT (m+2) λj=>bT<|f i j)]=_;change (mT (m+2) λj=>bT<|f i j)=RT;unfold KW
  simp![a,k,l]
 have y:BP (oZ (m+2) f)=mT (m+2) λi=>rT (m+2)<|f i:=zh3
 unfold Kj;refine HI rfl ?_;show MJ [↑(.lst<|mT (m+2) λi=>rT (m+2)<|f i),↑(.int (m:Int)),none]=_
 unfold zT at e nr s;unfold MJ;change (mT (m+2) λi=>rT (m+2)<|f i)=ZT;change oZ (m+2) f=OT;refine Fo (by simp![o,p,t,u])<|sq (by simp![o,p,c];exact e) ?_
 simp![o,p,c,r,y,nr,s]
abbrev PB:Stmt:=AO 75
def Nh:AH:=
 (AF (AQ (AS E6<|mJ 2<|mJ 3 AE)<|AD 2)
 (Cg 1<|AA 2))
def MC:AH:=
 (AF (CY 1<|BG AE)
 (AF (AQ (BM<|AB (mI 0)<|AB (mI 1) AE)<|AD 2)
 (AF (BN (BA<|AA 0) (AD 3) Nh)
 (AW<|AA 1))))
def NM:kL->Option Ru:=A9 1 4 MC
abbrev ZH:=fA 3 1 PB NM
abbrev zhk:Gm:=gA PB 2 [("_law_plus",Hc)] [] ["_law_times"]
theorem zi0:Ck zhk ZH PB MC:={}
def C4(P:Int)(X:Nat->Int)(b:Dv.Lim):Prop:=X b.1 - X b.2.1<=b.2.2 / 2 * P - 1+b.2.2 % 2
def YC{P:Int}{X:Nat->Int}{t s w:Nat}{n:Int}:(∀b∈D0 t s w n,C4 P X b) ↔ DB P (X t - X s) w n=true:=by
 have e:(2 * n) / 2=n:=by lia
 have a:(2 * n+1) / 2=n:=by lia
 have f:(2 * -n) / 2=-n:=by lia
 have c:(2 * -n+1) / 2=-n:=by lia
 have m1:(2 * n) % 2=0:=by lia
 have m2:(2 * n+1) % 2=1:=by lia
 have g:(2 * -n) % 2=0:=by lia
 have d:(2 * -n+1) % 2=1:=by lia
 have en:-n * P=-(n * P):=Int.neg_mul ..;unfold D0 DB;split;erw[Ô,forall_eq,C4,e,m1,ë];lia;erw[Ô,forall_eq,C4,a,m2,ë];lia;erw[Ô,forall_eq,C4,f,g,en,ë];lia;erw[Ô,forall_eq,C4,c,d,en,ë];lia;erw[Î,ĉ,Ě,forall_eq_or_imp,forall_eq,C4,a,m2,c,d,en,ë];lia
def Jp{P:Int}{X:Nat->Int}{L:List<|Nat×Nat×Int}{t:Nat}{sa:Nat->Nat}:(∀b∈Bm L t sa,C4 P X b) ↔ BK P L (λp=>X t - X (sa p))=true:=by
 unfold Bm BK;rw[Ú];constructor;intro h l c;exact YC.mp λb a=>h b<|Ÿ.mpr {(l),c,a}
 intro h b a;let(l,c,a):=Ÿ.mp a;exact YC.mpr (h l c) b a
def Hr{P:Int}{X:Nat->Int}{M:Mc}{x:Str}{t:Nat}{sa:Nat->Nat}:(∀b∈Bu M x t sa,C4 P X b) ↔ X (t - 1)<=X t/\BK P (DS M.ws M.rs x) (λp=>X t - X (sa p))=true:=by
 rw[<- Jp];unfold Bu
 have:C4 P X (t - 1,t,1) ↔ X (t - 1)<=X t:=by
  show X (t - 1) - X t<=1 / 2 * P - 1+1 % 2 ↔ _;lia
 simp_all
def OE{ws:kE}{rs:List<|Str×kL}{dd:List Sd}(K:SpK ws rs dd){r:Nat}(a:r<rs.length):DS (A5 ws rs dd).ws (A5 ws rs dd).rs (Am rs r)=CQ ws rs r:=by
 have e:Am rs r=rs[r].1:=by unfold Am;simp_all
 have:=U8 (ws:=ws) K.sp.r.nd<|Ï a;show DS ws rs (Am rs r)=_;unfold CQ
 simp_all
def U0{P:Int}{ws:kE}{rs:List<|Str×kL}{dd:List Sd}(K:SpK ws rs dd){r:Nat}(g:r<rs.length){x y:Nat->Int}(f:∀p,x p<=y p)(h:BK P (CQ ws rs r) y=true):BK P (CQ ws rs r) x=true:=by
 unfold BK at h ⊢;rw[Ú]at h ⊢;intro l d;have i:=h l d;unfold CQ at d;rw[Ö,Á g]at d;let(t,k,rfl):=Ò.mp d;let(a,b,n,rfl,_,j,_):=(K.sp.r.lk _<|Ï g).1 t k
 have m:DD b=0\/DD b=1:=by
  have:∀y∈DR,DD y=0\/DD y=1:=by decide +kernel
  exact this b j
 have o:=f (A7 ws<|.tup [.str a,.str b,.int n]).1;show DB P (x (A7 ws<|.tup [.str a,.str b,.int n]).1) (DD b) n=true;have c:DB P (y (A7 ws<|.tup [.str a,.str b,.int n]).1) (DD b) n=true:=i
 rcases m with e|e<;>rw[e]at c ⊢;have:=ñ c;exact É<|by lia
 have:=ñ c;exact É<|by lia
def Fm(X:Nat->Int):Nat->kF->List (Int×Option Nat)
 |t,[]=>[(X t - X (t - 1),none)]|t,k::r=>(X t - X (t - 1),↑k.toNat)::Fm X (t+1) r
def Pt{ws:kE}{rs:List<|Str×kL}{dd:List Sd}(K:SpK ws rs dd){r e:Nat}{k:Int}(h:Cs dd r k=↑e):∃d,dd[k.toNat]?=↑d/\d.z=Str.empty/\d.b=r/\d.e=e/\Em (A5 ws rs dd) (Am rs r) k=↑(De rs d):=by
 let(g,a,i,d,hd,f,b,c):=Hs K h;refine{d,hd,f,b,c,?_};unfold Em;rw[if_pos a];show(match (dd.map<|De rs)[k.toNat]? with|some d=>_|none=>_)=_
 rw[È,hd];show(if d.z=Str.empty/\Am rs d.b=Am rs r then ↑(De rs d) else none)=_
 lia
def En(M:Mc)(l:kI)(t:Nat)(sa:Nat->Nat)(x:Str):List Dv.Lim:=(CM M l t sa).1++Bu M x (t+l.length) (CM M l t sa).2
def zjb{M:Mc}{t:Nat}{sa:Nat->Nat}{x:Str}:En M [] t sa x=Bu M x t sa:=rfl
def Lf{M:Mc}{d:Dr}{l:kI}{t:Nat}{sa:Nat->Nat}{x:Str}:En M (d::l) t sa x=(Bu M d.s t sa++Bm (d.g.map<|A7 M.ws) t sa)++En M l (t+1) (Bv (An M.ws d.n) t sa) x:=by
 unfold En;rw[show(CM M (d::l) t sa).1=(Bu M d.s t sa++Bm (d.g.map<|A7 M.ws) t sa)++(CM M l (t+1)<|Bv (An M.ws d.n) t sa).1 from rfl,show(CM M (d::l) t sa).2=(CM M l (t+1)<|Bv (An M.ws d.n) t sa).2 from rfl,Ĥ,Þ,show t+(l.length+1)=t+1+l.length by lia]
theorem zlx(X:Nat->Int)(t:Nat)(sa:Nat->Nat):(λp=>(X (t - 1) - X (sa p))+(X t - X (t - 1)))=λp=>X t - X (sa p):=funext λp=>by lia
theorem zly(X:Nat->Int)(t:Nat)(sa:Nat->Nat)(ps:kG):(λp=>if p∈ps then 0 else (X (t - 1) - X (sa p))+(X t - X (t - 1)))=λp=>X t - X (Bv ps t sa p):=funext λp=>by
 unfold Bv;lia
def Ub{P:Int}{ws:kE}{rs:List<|Str×kL}{dd:List Sd}{X:Nat->Int}{r t:Nat}{sa:Nat->Nat}:DU P ws rs dd (r,λp=>X (t - 1) - X (sa p)) (X t - X (t - 1)) none=if BK P (CQ ws rs r) (λp=>X t - X (sa p))=true then ↑(r,λp=>X t - X (sa p)) else none:=by
 unfold DU;lia
def Ua{P:Int}{ws:kE}{rs:List<|Str×kL}{dd:List Sd}{X:Nat->Int}{r t k:Nat}{sa:Nat->Nat}{d:Sd}(hd:dd[k]?=↑d):DU P ws rs dd (r,λp=>X (t - 1) - X (sa p)) (X t - X (t - 1)) ↑k=if BK P (CQ ws rs r) (λp=>X t - X (sa p))=true then (if d.b=r/\d.z=Str.empty/\BK P (d.g.map<|A7 ws) (λp=>X t - X (sa p))=true/\BK P (CQ ws rs d.e) (λp=>X t - X (Bv (An ws d.n) t sa p))=true then ↑(d.e,λp=>X t - X (Bv (An ws d.n) t sa p)) else none) else none:=by
 unfold DU;erw[hd,zlx,zly]
def M9{P:Int}{X:Nat->Int}{ws:kE}{rs:List<|Str×kL}{dd:List Sd}(K:SpK ws rs dd){ks:kF}{r e t:Nat}{sa:Nat->Nat}(m:r<rs.length)(hk:CJ dd r ks=↑e){l:kI}(f:C8 (A5 ws rs dd) (Am rs r) ks=↑l)(a:∀b∈En (A5 ws rs dd) l t sa (Am rs e),C4 P X b):X (t - 1)<=X t/\BK P (CQ ws rs r) (λp=>X t - X (sa p))=true:=by
 rw[<- OE K m];cases ks with
 |nil=>cases hk;cases f;exact Hr.mp a|cons k ks=>
  let(o,h,s):=Ń.mp (show(Cs dd r k).bind (λe=>CJ dd e ks)=↑e from hk);let(d,hd,u,c,i,g):=Pt K h;rw[Ja,g]at f;let(v,j,rfl):=Ø.mp f;rw[Lf]at a;have n:(De rs d).s=Am rs r:=by show Am rs d.b=_;rw[c]
  rw[n]at a;exact Hr.mp λb q=>a b<|î _<|î _ q
def Uu{P:Int}{X:Nat->Int}{ws:kE}{rs:List<|Str×kL}{dd:List Sd}(K:SpK ws rs dd):∀(ks:kF) {r e t:Nat} {sa:Nat->Nat},1<=t->r<rs.length->CJ dd r ks=↑e->∀{l:kI},C8 (A5 ws rs dd) (Am rs r) ks=↑l->(∀b∈En (A5 ws rs dd) l t sa (Am rs e),C4 P X b) ->
  Dj P ws rs dd (↑(r,λp=>X (t - 1) - X (sa p))) (Fm X t ks)=↑(e,λp=>X (t+l.length) - X ((CM (A5 ws rs dd) l t sa).2 p))
 |[],r,e,t,sa,B,s,hk,l,g,f=>by
  have fs:=M9 K s hk g f;cases hk;cases g;show Dj P ws rs dd (DU P ws rs dd _ _ none) []=_;rw[Ub,if_pos fs.2]
  rfl
 |k::ks,r,e,t,sa,B,s,hk,l,g,f=>by
  have fs:=M9 K s hk g f;let(w,x,y):=Ń.mp (show(Cs dd r k).bind (λe=>CJ dd e ks)=↑e from hk)
  let(d,hd,C,n,a,u):=Pt K x;rw[Ja,u]at g;let(m,o,rfl):=Ø.mp g;rw[Lf]at f;have c:=(Hs K x).1;have A:BK P (d.g.map<|A7 ws) (λp=>X t - X (sa p))=true:=Jp.mp λb q=>f b<|î _<|ß _ q
  have i:∀b∈En (A5 ws rs dd) m (t+1) (Bv (An ws d.n) t sa) (Am rs e),C4 P X b:=λb q=>f b<|ß _ q
  have j:C8 (A5 ws rs dd) (Am rs w) ks=↑m:=by
   rw[<- a];exact o
  have h:=M9 K c y j i
  have v:BK P (CQ ws rs d.e) (λp=>X t - X (Bv (An ws d.n) t sa p))=true:=by
   rw[a];refine U0 K c (λp=>?_) h.2;have:=h.1;rw[Ō]at this;show X t - _<=X (t+1) - _
   lia
  show Dj P ws rs dd (DU P ws rs dd _ _ ↑k.toNat) (Fm X (t+1) ks)=_;rw[Ua hd,if_pos fs.2,if_pos {(n),C,A,v},a];have z:=Uu K ks (r:=w) (e:=e) (t:=t+1) (sa:=Bv (An ws d.n) t sa) (by lia) c y j i
  rw[Ō]at z;rw[z,Þ,show t+(m.length+1)=t+1+m.length by lia];rfl
def Uv{P:Int}{X:Nat->Int}(i:∀t,X t<=X (t+1)){ws:kE}{rs:List<|Str×kL}{dd:List Sd}(K:SpK ws rs dd):∀(ks:kF) {r e t:Nat} {sa:Nat->Nat},1<=t->r<rs.length->CJ dd r ks=↑e->∀{l:kI} {s:Nat×(Nat->Int)},C8 (A5 ws rs dd) (Am rs r) ks=↑l->Dj P ws rs dd (↑(r,λp=>X (t - 1) - X (sa p))) (Fm X t ks)=↑s ->
  (∀b∈En (A5 ws rs dd) l t sa (Am rs e),C4 P X b)/\s.2=λp=>X (t+l.length) - X ((CM (A5 ws rs dd) l t sa).2 p)
 |[],r,e,t,sa,B,q,hk,l,s,h,a=>by
  cases hk;cases h
  have w:X (t - 1)<=X t:=by
   have:=i<|t - 1
   rwa[show t - 1+1=t by lia]at this
  change Dj P ws rs dd (DU P ws rs dd _ _ none) []=_ at a;rw[Ub]at a;by_cases c:BK P (CQ ws rs r) (λp=>X t - X (sa p))=true;rw[if_pos c]at a;cases a;rw[zjb,Hr,OE K q];exact{{(w),c},rfl};rw[if_neg c]at a;cases a
 |k::ks,r,e,t,sa,B,q,hk,l,s,h,a=>by
  have w:X (t - 1)<=X t:=by
   have:=i<|t - 1
   rwa[show t - 1+1=t by lia]at this
  let(y,z,A):=Ń.mp (show(Cs dd r k).bind (λe=>CJ dd e ks)=↑e from hk);let(d,hd,E,j,g,u):=Pt K z;rw[Ja,u]at h;let(x,n,rfl):=Ø.mp h;have m:=(Hs K z).1
  change Dj P ws rs dd (DU P ws rs dd _ _ ↑k.toNat) (Fm X (t+1) ks)=_ at a;rw[Ua hd]at a;by_cases c:BK P (CQ ws rs r) (λp=>X t - X (sa p))=true;rw[if_pos c]at a;by_cases c2:d.b=r/\d.z=Str.empty/\BK P (d.g.map<|A7 ws) (λp=>X t - X (sa p))=true/\BK P (CQ ws rs d.e) (λp=>X t - X (Bv (An ws d.n) t sa p))=true;rw[if_pos c2,g]at a
  have o:C8 (A5 ws rs dd) (Am rs y) ks=↑x:=by
   rw[<- g];exact n
  let(C,D):=Uv i K ks (r:=y) (e:=e) (t:=t+1) (sa:=Bv (An ws d.n) t sa) (by lia) m A o (by rw[Ō];exact a);refine{λb f=>?_,?_};rw[Lf]at f;rcases å.mp f with f|f;rcases å.mp f with f|f;refine Hr.mpr {w,?_} b f;have v:(De rs d).s=Am rs r:=by show Am rs d.b=_;rw[j]
  rw[v,OE K q];exact c;exact Jp.mpr c2.2.2.1 b f;exact C b f;rw[D,Þ,show t+(x.length+1)=t+1+x.length by lia];rfl;rw[if_neg c2,Lc]at a;cases a;rw[if_neg c,Lc]at a;cases a
set_option tactic.hygienic true in
def zlw(f:Db.Z)(x:Dv.Lim)(i j:Nat):Db.le (FL f x i j)<|f i j:=by
 unfold FL;split;rename_i h;rw[h.1,h.2];exact Db.mn_le _ _;exact Db.le_refl _
def Tc:∀(L:List Dv.Lim) (f:Db.Z) (i j:Nat),Db.le (F9 f L i j)<|f i j
 |[],f,i,j=>Db.le_refl _|x::L,f,i,j=>Db.le_trans (Tc L (FL f x) i j)<|zlw f x i j
def Td:∀(L:List Dv.Lim) (f:Db.Z) {x:Dv.Lim},x∈L->Db.le (F9 f L x.1 x.2.1) ↑x.2.2
 |y::L,f,x,h=>by
  rcases Î.mp h with rfl|h;refine Db.le_trans (Tc L (FL f x) _ _) ?_;unfold FL;rw[if_pos {(rfl),rfl}];exact Db.mn_le' _ _;exact Td L (FL f y) h
set_option tactic.hygienic true in
def N5{P:Int}{X:Nat->Int}:∀(L:List Dv.Lim) (f:Db.Z),(∀b∈L,C4 P X b)->(∀i j,Db.sat P (f i j)<|X i - X j)->∀i j,Db.sat P (F9 f L i j)<|X i - X j
 |[],f,ϊ,a,i,j=>a i j|x::L,f,d,a,i,j=>N5 L (FL f x) (λb c=>d b<|Ì _ c) (λi j=>by
   unfold FL;split;rename_i h;rw[h.1,h.2];exact Db.sat_mn (a _ _)<|d x (Í ..)
   exact a i j) i j
theorem ze5{N:Nat}{B:List Dv.Lim}{P:Int}(c:0<P){X:Nat->Int}(a:X 0=0)(d:∀i,0<=X i)(e:∀b∈B,C4 P X b):Db.Sound N<|F9 (λϊ ϊ=>none) B:=
 Db.lie_sound c a (λi ϊ=>d i) λi j ϊ ϊ=>N5 B (λϊ ϊ=>none) e (λϊ ϊ=>trivial) i j
def Al(ws:kF)(t:Nat):Int:=(ws.take t).sum
def Hy(ws:kF){t:Nat}(h:t<ws.length):Al ws (t+1) - Al ws t=ws[t]:=by
 unfold Al;rw[List.take_succ_eq_append_getElem h,List.sum_append];simp;lia
def zga{ws:kF}(h:∀w∈ws,0<=w)(t:Nat):Al ws t<=Al ws (t+1):=by
 by_cases a:t<ws.length;have:=Hy ws a;have:=h _<|Ï a
 lia;unfold Al;rw[İ (by lia),İ<|by lia];lia
def OJ{X:Nat->Int}:∀(ks:kF) (ws:kF) (t:Nat),ws.length=ks.length+1->(∀i,(hi:i<ws.length)->X (t+i) - X (t+i - 1)=ws[i])->ws.zip (ks.map (λk=>↑k.toNat)++[none])=Fm X t ks
 |[],ws,t,a,h=>by
  match ws,a with
  |[w],ϊ=>
   have:=h 0<|by simp
   erw[Nat.add_zero]at this;simp[Fm,this]
 |k::ks,ws,t,a,h=>by
  match ws,a with
  |w::ws,a=>
   have b:=h 0<|by simp
   erw[Nat.add_zero,List.getElem_cons_zero]at b
   have c:=OJ ks ws (t+1) (by simpa using a) λi hi=>by
    have:=h (i+1) (by simp;lia);rw[show t+1+i=t+(i+1) by lia];exact this
   rw[Õ,Α,Ĵ,c,Fm,b]
def zj7{ws:kE}{rs:List<|Str×kL}{dd:List Sd}(K:SpK ws rs dd){ks:kF}{r:Nat}(d:ks.length<=200)(e:CJ dd 0 ks=↑r):∃l,ES (A5 ws rs dd) ks=↑l/\C8 (A5 ws rs dd) (Am rs 0) ks=↑l/\Cc (A5 ws rs dd) l=Am rs r/\l.length=ks.length:=by
 have b:=zmz K ks;rw[show Kt dd ks=↑r by unfold Kt;lia]at b;let(l,a,c):=Ø.mp b;refine{l,a,?_,c,(Le a).2.1};unfold ES at a;rw[if_pos d,Pw K]at a;exact a
def Lg{ws:kE}{rs:List<|Str×kL}{dd:List Sd}{l:kI}{r:Nat}(e:Cc (A5 ws rs dd) l=Am rs r)(g:List<|Nat×Nat×Int):Cy (A5 ws rs dd) l g=En (A5 ws rs dd) l 1 (λϊ=>0) (Am rs r)++Bm g (l.length+1) (CM (A5 ws rs dd) l 1 λϊ=>0).2:=by
 unfold Cy En;rw[e,Ĥ,Ŕ 1 l.length]
def N6{ws:kE}{rs:List<|Str×kL}{dd:List Sd}(K:SpK ws rs dd):∀{ks:kF} {r e:Nat},CJ dd r ks=↑e->∀k∈ks,0<=k/\k<(dd.length:Int)
 |[],ϊ,ϋ,ό,k,hk=>by cases hk|q::ks,r,e,h,k,hk=>by
  let(c,a,b):=Ń.mp (show(Cs dd r q).bind (λe=>CJ dd e ks)=↑e from h);rcases Î.mp hk with rfl|hk;exact{(Hs K a).2.1,(Hs K a).2.2.1};exact N6 K b k hk
def zmd{P:Int}{ws:kE}{rs:List<|Str×kL}(h:BK P (CQ ws rs 0) (λϊ=>0)=true):Cv P ws rs=↑(0,λϊ=>0):=by
 unfold Cv;rw[if_pos h]
def zhi{P:Int}(B:Bo P){ws:kE}{rs:List<|Str×kL}{dd:List Sd}(K:SpK ws rs dd){ks:kF}{r:Nat}(C:ks.length<=200)(z:CJ dd 0 ks=↑r){l:kI}(h:C8 (A5 ws rs dd) (Am rs 0) ks=↑l)(j:Cc (A5 ws rs dd) l=Am rs r)(A:l.length=ks.length){g:List<|Nat×Nat×Int}{w:kF}(v:∀x∈w,0<=x)(wl:w.length=ks.length+1){s:Nat×(Nat->Int)}(d:Dj P ws rs dd (Cv P ws rs) (w.zip<|ks.map (λk=>↑k.toNat)++[none])=↑s)(o:BK P g s.2=true):∀b∈Cy (A5 ws rs dd) l g,C4 P (Al w) b:=by
 have y:=OJ (X:=Al w) ks w 1 wl λi u=>by
  have:=Hy w u;lia
 rw[y]at d;have r1:=K.sp.r.l1
 have e:Cv P ws rs=↑(0,λϊ=>0):=by
  cases c:Cv P ws rs with
  |none=>rw[c,Lc]at d;cases d|some q=>
   unfold Cv at c;lia
 have f:(λp=>Al w (1 - 1) - Al w ((λ_:Nat=>0) p))=λ_:Nat=>(0:Int):=funext λp=>Int.sub_self _;rw[e,<- f]at d;let(m,n):=Uv (zga v) K ks (t:=1) (sa:=λϊ=>0) (Ç _) (by lia) z h d
 intro b a;rw[Lg j]at a;rcases å.mp a with a|a;exact m b a;rw[n]at o;refine Jp.mpr ?_ b a;lia
def zj2{P:Int}{ws:kE}{rs:List<|Str×kL}{dd:List Sd}(K:SpK ws rs dd){ks:kF}{r:Nat}(f:CJ dd 0 ks=↑r){l:kI}(d:C8 (A5 ws rs dd) (Am rs 0) ks=↑l)(i:Cc (A5 ws rs dd) l=Am rs r){g:List<|Nat×Nat×Int}{X:Nat->Int}(c:∀b∈Cy (A5 ws rs dd) l g,C4 P X b):∃x,Dj P ws rs dd (Cv P ws rs) (Fm X 1 ks)=↑(r,x)/\BK P g x=true:=by
 rw[Lg i]at c;have a:∀b∈En (A5 ws rs dd) l 1 (λϊ=>0) (Am rs r),C4 P X b:=λb q=>c b<|î _ q
 have r1:=K.sp.r.l1;have fs:=M9 K (by lia:0<rs.length) f d a
 have h:(λp=>X (1 - 1) - X ((λ_:Nat=>0) p))=λ_:Nat=>(0:Int):=funext λp=>Int.sub_self _
 have st:BK P (CQ ws rs 0) (λϊ=>0)=true:=U0 K (by lia) (λp=>by
  lia) fs.2
 have e:=Uu K ks (t:=1) (sa:=λϊ=>0) (Ç _) (by lia) f d a;rw[h]at e;refine{_,by rw[zmd st];exact e,?_};refine Jp.mp λb q=>c b<|ß _ ?_
 lia
def Px{P:Int}{X:Nat->Int}{M:Mc}{x:Str}:∀(l:kI) (t:Nat) (sa:Nat->Nat),(∀b∈En M l t sa x,C4 P X b)->∀i,t<=i->i<=t+l.length->X (i - 1)<=X i
 |[],t,sa,h,i,c,a=>by
  have:i=t:=by simp at a;lia
  subst this;exact(Hr.mp h).1
 |d::l,t,sa,h,i,c,a=>by
  rw[Lf]at h;by_cases e:i=t;subst e;exact(Hr.mp λb q=>h b<|î _<|î _ q).1;exact Px l (t+1) _ (λb q=>h b<|ß _ q) i (by lia) (by rw[Þ]at a;lia)
def zis{W:List<|Int×Int}{w:Int×Int->Int}(n:∀t∈W,FP 6 t.1 t.2<|w t)(q:W.length<=1000):NM [.lst<|W.map fw]=↑(.ok<|.own<|AI W.length 6<|Al<|W.map w):=by
 have h:AV (W.map fw)=true:=Ea λϊ ϊ=>rfl;have k:=AK _ h;have o:(W.map fw).length<=100000:=by rw[À];lia
 let S (i:Nat) (a:kH):AN:=[↑(.lst<|W.map fw),↑(.own<|AI i 6<|Al<|W.map w),↑(Ay 6<|Al (W.map w) i),a]
 let(Y,e,a,rfl):=Ef (b:=AD 3) (body:=Nh) (ts:=W.map fw) (Y:=S 0 none) (λi Y=>∃a,Y=S i a) {(none),rfl} λi t Y c m=>by
  let(a,rfl):=m;have d:i<W.length:=by simpa using (Ð.mp c).1
  rw[È,Á d]at c;have l:t=fw W[i]:=(Ü c).symm;subst l;have f:=n _<|Ï d;have j:=Hy (W.map w) (t:=i) (by rw[À];exact d)
  rw[Ķ]at j;have g:=Jo (v:=Al (W.map w) i) Eg f.o f.e;rw[show Al (W.map w) i+w W[i]=Al (W.map w) (i+1) by lia]at g
  have ev:AI (i+1) 6 (Al<|W.map w)=AI i 6 (Al<|W.map w)++[Ay 6<|Al (W.map w)<|i+1]:=by
   show(List.range<|i+1).map _=(List.range i).map _++_;rw[List.range_succ,â];rfl
  have lv:(AI i 6<|Al<|W.map w).length<100000:=by rw[BQ];lia
  refine{S i<|↑(fw W[i]),rfl,S (i+1)<|↑(fw W[i]),?_,_,rfl};unfold S;rw[ev];change AI i 6 (Al<|W.map w)=VT;change W.map fw=WT;unfold Nh;refine sq (by simp![g];rfl) ?_
  simp![lv]
 rw[À]at e
 have z0:S 0 none=[↑(.lst<|W.map fw),↑(.own []),↑(fr 0 1),none]:=by
  unfold S;rw[show Al (W.map w) 0=0 from rfl,Hb<|by decide];rfl
 rw[z0]at e;have p:=Cm W.length 6<|Al<|W.map w;unfold NM;refine HI rfl ?_;show MC [↑(.lst<|W.map fw),none,none,none]=_;unfold S at e;unfold MC;change AI W.length 6 (Al<|W.map w)=VT;change W.map fw=WT;refine sq (by simp![];rfl)<|sq (by simp![];rfl)<|sq (by simp![h,k,o];exact e) ?_
 simp![p]
abbrev PX:Stmt:=AO 76
def MH:AH:=
 (AF (AQ (m2 BB (AA 1)<|m1 Ap<|AA 0)<|AD 2)
 (AF (AQ (AG (BG<|Ah (BM<|AB (mI 1)<|AB (mI 3) AE)<|Ah (BM<|AB (m1 Ec<|mI 1)<|AB (mI 3) AE)<|Ah (BM<|AB (mI 1)<|AB (mI 1) AE)<|Ah (BM<|AB (m1 Ec<|mI 1)<|AB (mI 1) AE) AE)<|m2 BB (m2 Bt (AA 1)<|mI 9)<|mI 4)<|AD 3)
 (AF (AQ (AS E6<|AB (AG (AA 0)<|AA 2)<|mJ 3 AE)<|AD 4)
 (AF (A8 (m2 (BV λi j=>decide (i<j)) (AG (AA 4)<|mI 0)<|mI 0) (AQ (BM<|AB (mI 0)<|AB (mI 1) AE)<|AD 4) Aa)
 (AW<|m2 Ak (m2 Ak (DF (Ed (AA 0) none<|↑(AA 2))<|Ew (AA 0) none<|↑(AA 2))<|BG<|Ah (AA 4) AE)<|DF (Ed (AA 0) (↑(m2 Ak (AA 2)<|mI 1)) none)<|Ew (AA 0) (↑(m2 Ak (AA 2)<|mI 1)) none)))))
def NQ:kL->Option Ru:=A9 2 5 MH
abbrev ZP:=fA 3 2 PX NQ
abbrev zf8:Gm:=gA PX 2 [("_law_plus",Hc)] ["len"]
theorem zfn:Ck zf8 ZP PX MH:={}
def zh5{n:Nat}(E:1<=n)(N:n<=1000)(X:Nat->Int)(c:Int):∃X':Nat->Int,NQ [.lst<|AI n 6 X,.int c]=↑(.ok<|.own<|AI n 6 X')/\X' 0=X 0:=by
 have e:=Cm n 6 X;have f:=AK _ e;have h:(AI n 6 X).length=n:=BQ;have J:((n:Int)=0)=False:=ą<|by lia
 let(o,p):=G8 c E;let(j,A,k):∃j:Nat,c.fmod (n:Int)=(j:Int)/\j<n:={(c.fmod n).toNat,by lia,by lia}
 have w:AM (AI n 6 X) (j:Int)=↑(Ay 6<|X<|j+1):=BO k;have L:Bx 9=true:=CZ (by decide)<|by decide
 let(a,b,v,r,B):∃a b v:Int,FP 6 a b v/\AM [fr 1 3,fr (-1) 3,fr 1 1,fr (-1) 1] ((c.fdiv 9).fmod 4)=↑(fr a b):=by
  let(o,p):=G8 (c.fdiv 9) (n:=4)<|by decide
  have o:0<=(c.fdiv 9).fmod 4:=o;have p:(c.fdiv 9).fmod 4<4:=p;have:(c.fdiv 9).fmod 4=0\/(c.fdiv 9).fmod 4=1\/(c.fdiv 9).fmod 4=2\/(c.fdiv 9).fmod 4=3:=by lia
  rcases this with z|z|z|z<;>rw[z];let(v,g):=Gj (c:=1) (d:=3) (by decide)<|by decide
  exact{_,_,v,g,Fi};let(v,g):=Gj (c:=-1) (d:=3) (by decide)<|by decide
  exact{_,_,v,g,F6};let(v,g):=Gj (c:=1) (d:=1) (by decide)<|by decide
  exact{_,_,v,g,K0};let(v,g):=Gj (c:=-1) (d:=1) (by decide)<|by decide
  exact{_,_,v,g,CW (j:=3) rfl}
 have K:=Jo (v:=X<|j+1) Eg r.o r.e
 let(u,r4):∃u:Int,∀x2 l,A8 (m2 (BV λi j=>decide (i<j)) (AG (AA 4)<|mI 0)<|mI 0) (AQ (BM<|AB (mI 0)<|AB (mI 1) AE)<|AD 4) Aa [↑(.lst<|AI n 6 X),↑(.int c),x2,l,↑(Ay 6<|X (j+1)+v)]=↑(.nx [↑(.lst<|AI n 6 X),↑(.int c),x2,l,↑(Ay 6 u)]):=by
  change AI n 6 X=VT;by_cases z:Zm.lt (X (j+1)+v) 6<0;have m:decide (Zm.lt (X (j+1)+v) 6<0)=true:=É z;refine{0,λx2 l=>?_};rw[Hb<|by decide]
  simp![m]
  have m:decide (Zm.lt (X (j+1)+v) 6<0)=false:=Ù z;exact{X (j+1)+v,λx2 l=>by simp![m]}
 have l1:(AI n 6 X).length<100000:=by lia
 refine{λi=>if i=j+1 then u else X i,?_,if_neg<|by lia}
 have c1:B0 (AI n 6 X) none (↑(j:Int))=(AI n 6 X).take j:=by
  unfold B0;rw[HT.sIx_none,HT.sIx_nat,List.drop_zero,Nat.sub_zero,h,Nat.min_eq_left<|Ĩ k]
 have c2:B0 (AI n 6 X) (↑((j:Int)+1)) none=(AI n 6 X).drop (j+1):=by
  unfold B0;rw[show(j:Int)+1=((j+1:Nat):Int) from rfl,HT.sIx_none,HT.sIx_nat,h,Nat.min_eq_left k];exact İ (by rw[Ŏ,h];exact Ç _)
 have x:(AI n 6 X).take j++[Ay 6 u]++(AI n 6 X).drop (j+1)=AI n 6 λi=>if i=j+1 then u else X i:=by
  have:(AI n 6 X).set j (Ay 6 u)=AI n 6 λi=>if i=j+1 then u else X i:=by
   unfold AI;rw[IW];refine EC λi M=>?_;show(if i=j then Ay 6 u else Ay 6 (X<|i+1))=Ay 6 (if i+1=j+1 then u else X (i+1));by_cases z:i=j;rw[if_pos z,if_pos<|by lia];rw[if_neg z,if_neg<|by lia]
  rw[<- this,List.set_eq_take_append_cons_drop,if_pos (by rw[h];exact k),Ĥ];rfl
 have s1:AV ((AI n 6 X).take j)=true:=by
  rw[DV,Ú]at e ⊢;exact λt q=>e t<|List.mem_of_mem_take q
 have s:AV ((AI n 6 X).drop (j+1))=true:=by
  rw[DV,Ú]at e ⊢;exact λt q=>e t<|List.mem_of_mem_drop q
 have C:=AK _ s1;have D:=AK _ s;have l2:((AI n 6 X).take j).length=j:=by rw[Ă,h];lia
 have I:((AI n 6 X).drop (j+1)).length=n - (j+1):=by rw[Ŏ,h]
 rw[<- x];unfold NQ;refine HI rfl ?_;show MH [↑(.lst<|AI n 6 X),↑(.int c),none,none,none]=_;unfold MH;have F:((AI n 6 X).take j).length+1<=100000:=by lia
 have G:((AI n 6 X).take j++[Ay 6 u]).length+((AI n 6 X).drop (j+1)).length<=100000:=by
  rw[à,l2,I];show j+1+_<=_
  lia
 have H:((AI n 6 X).take j).length+1+((AI n 6 X).drop (j+1)).length<=100000:=by lia
 have sf:AV ((AI n 6 X).take j++[Ay 6 u])=true:=by
  rw[DV,List.all_append,<- DV,s1];rfl
 have y:=AK _ sf;change (AI n 6 X).take j=V1;change (AI n 6 X).drop (j+1)=V2;change AI n 6 X=VT;refine sq (by simp![e,f,h,J,A];rfl)<|sq (by simp![L,B];rfl)<|sq (by simp![e,f,w,K];rfl)<|sq (r4 _ _) ?_
 simp![e,f,c1,c2,s1,C,s,D,F,G,H,sf,y,à,Þ,Č]
abbrev L6:Stmt:=AO 78
def Kx:AH:=
 (Cg 10<|AS E6<|AB (AG (AA 7)<|AA 11)<|AB (BM<|AB (m2 DQ (mI 0)<|AG (AG (AA 7)<|m2 DQ (AA 11)<|mI 1)<|mI 0)<|AB (AG (AG (AA 7)<|m2 DQ (AA 11)<|mI 1)<|mI 1) AE) AE)
def Ky:AH:=
 (AF (CY 10<|BG<|Ah (AG (AA 7)<|mI 0) AE)
 (AF (BN (HZ<|AB (mI 1)<|AB (m1 Ap<|AA 7) AE) (AD 11) Kx)
 (AF (AQ (Bz (m2 (Bk true) (AA 5)<|mC .non)<|AS Ki<|mJ 5<|mJ 7 AE)<|AD 12)
 (AF (EM 10)<|A8 (m2 CH (AA 12)<|AS Ho<|mJ 1<|mJ 8<|mJ 3<|mJ 10 AE) (AW<|mC<|.bl false) Aa))))
def MA:AH:=
 (AF (AQ (AS NR<|mJ 0 AE)<|AD 1)
 (AF (AQ (AS Kh<|mJ 1 AE)<|AD 2)
 (AF (AQ (AS NN<|mJ 1<|AB (DF (Ed (AA 0) (↑(mI 12))<|↑(mI 20))<|Ew (AA 0) (↑(mI 12))<|↑(mI 20)) AE)<|Au 2<|AL (AD 8)<|AL (AD 9) Aw)
 (AF (AQ (AS Gr<|AB (AS FJ<|AB (AS Eh<|mJ 0<|AB (mI 20) AE)<|AB (mI 5) AE)<|AB (m2 Ak (m2 Bt (AS Kf<|mJ 1 AE)<|mI 4)<|mI 1)<|AB (AG (AA 1)<|mI 0) AE)<|AD 3)
 (AF (AQ (AS NL<|mJ 1<|mJ 8<|mJ 3<|AB (DF (Ed (AA 0) (↑(mI 21))<|↑(mI 30))<|Ew (AA 0) (↑(mI 21))<|↑(mI 30)) AE)<|AD 4)
 (AF (AQ (AS K5<|mJ 2<|AB (m1 C9<|AA 8)<|AB (m1 C9<|AA 3) AE)<|AD 5)
 (AF (A8 (Bz (m2 (Bk true) (AA 5)<|mC .non)<|BI<|AS Kj<|mJ 5<|AB (m1 Ap<|AA 8) AE) (AW<|mC<|.bl false) Aa)
 (AF (AQ (AS NM<|mJ 4 AE)<|AD 6)
 (AF (BN (BA<|BG<|Ah (AA 6)<|Ah (AS NQ<|mJ 6<|AB (AS Eh<|mJ 0<|AB (mI 30) AE) AE) AE) (AD 7) Ky)
 (AW<|m2 Aq (AS K5<|mJ 2<|mJ 8<|mJ 3 AE)<|AA 5))))))))))
def bQ:kL->Option Ru:=A9 1 13 MA
abbrev zpj:=fA 9 1 L6 bQ
abbrev zpg:Gm:=gA L6 8 [("_law_machine",ZR),("_law_made",ZQ),("_law_road",ZL),("_law_guard",SE),("_law_stream",KH),("_law_cell_at",SF),("_law_scale",SA),("_law_waits",ZG),("road_zone",Yi),("_law_is_narrow",ZU),("_law_sums",ZH),("_law_moved",ZP),("_law_plus",Hc),("_law_lies",ZS),("_law_good",ZV)] ["list","len","range"] ["_law_steps"] (N:=["_law_script","_law_spec","_law_machine_here","_law_guard_here","_law_waits_here","_law_zone","_law_times","_law_some","_law_road_here","_law_room","_law_steps","_law_k","_law_lies_here"])
theorem zps:Ck zpg zpj L6 MA:={}
def zpp{ws:kE}{rs:List<|Str×kL}{dd:List Sd}(K:SpK ws rs dd){ks:kF}{r:Nat}(o:ks.length<=200)(j:CJ dd 0 ks=↑r){l:kI}(f:C8 (A5 ws rs dd) (Am rs 0) ks=↑l)(a:Cc (A5 ws rs dd) l=Am rs r)(m:l.length=ks.length){g:List<|Nat×Nat×Int}{w:kF}(wl:w.length=ks.length+1) :
  ((∀x∈w,0<=x)/\∃s,Dj 6 ws rs dd (Cv 6 ws rs) (w.zip<|ks.map (λk=>↑k.toNat)++[none])=↑s/\BK 6 g s.2=true) ↔ ∀b∈Cy (A5 ws rs dd) l g,C4 6 (Al w) b:=by
 constructor;rintro⟨c,s,d,n⟩;exact zhi Eg K o j f a m c wl d n;intro h;let(x,c,d):=zj2 K j f a h
 have t:=OJ (X:=Al w) ks w 1 wl λi e=>by
  have:=Hy w e;rw[Ŕ 1 i];exact this
 rw[t];refine{λy p=>?_,_,c,d};let(i,e,rfl):=ņ.mp p;rw[Lg a]at h;have:=Px l 1 (λϊ=>0) (λb q=>h b<|î _ q) (i+1) (by lia)<|by lia
 have u:=Hy w e;have:Al w i<=Al w (i+1):=this
 lia
def lie52{N:Nat}{B:List Dv.Lim}(e:Dv.In N B){X:Nat->Int}(g:X 0=0)(f:(∀b∈B,C4 6 X b)->∀i,0<=X i):(∀b∈B,C4 6 X b) ↔ Db.Lie N 6 X (Db.fw (F9 (λϊ ϊ=>none) B) N):=by
 constructor;intro h;exact Db.lie_fw g (λi ϊ=>f h i) (λi j ϊ ϊ=>N5 B (λϊ ϊ=>none) h (λϊ ϊ=>trivial) i j) N<|Ç _
 intro h b a;let(c,d):=e b a;have:=Db.sat_le (by decide) (Db.sat_le (by decide) (h b.1 b.2.1 c d)<|Db.fw_le _ _ _ N)<|Td B (λϊ ϊ=>none) a
 exact this
def zh7{n:Nat}{P:Int}{X:Nat->Int}{f:Db.Z}:Ia n P X f=true ↔ Db.Lie n P X f:=by
 refine{λh i j a b=>?_,zku};have:=Ú.mp (Ú.mp h i<|è.mpr a) j<|è.mpr b;exact Db.satB_iff.mp this
def v6(t:Int×Int):Int:=t.1 * 6 / t.2
def Nt{t:Int×Int}{w:Int}(h:FP 6 t.1 t.2 w):v6 t=w:=by
 unfold v6;rw[h.e];exact Int.mul_ediv_cancel _<|Int.ne_of_gt h.o.p
def DP(X:Nat->Int)(n:Nat):kF:=(List.range n).map λi=>X (i+1) - X i
def CB(X:Nat->Int)(n:Nat):List<|Int×Int:=(List.range n).map λi=>(Zm.lt (X (i+1) - X i) 6,Zm.lb (X (i+1) - X i) 6)
def OK(X:Nat->Int)(n:Nat):∀t∈CB X n,FP 6 t.1 t.2<|v6 t:=λt a=>by
 let(i,_,rfl):=Ò.mp a;have h:=FP.low Eg<|X (i+1) - X i;rw[Nt h];exact h
def U9(X:Nat->Int)(n:Nat):(CB X n).map v6=DP X n:=by
 unfold CB DP;rw[û];exact Ň λi ϊ=>Nt<|FP.low Eg<|X (i+1) - X i
def UG{X:Nat->Int}(a:X 0=0)(n:Nat):∀i,i<=n->Al (DP X n) i=X i
 |0,ϊ=>a.symm|i+1,h=>by
  have b:i<(DP X n).length:=by unfold DP;rw[À,Ċ];lia
  have c:=Hy (DP X n) b;have d:=UG a n i<|by lia
  have e:(DP X n)[i]=X (i+1) - X i:=(Ķ _).trans (by rw[List.getElem_range]);lia
abbrev FW(a0 A a2:kH)(g:kL)(a4 a5 a6:kH)(V KT:kL)(a9 x10 x11 x12:kH):AN:=[a0,A,a2,↑(.lst g),a4,a5,a6,↑(.lst V),↑(.lst KT),a9,x10,x11,x12]
def zit{n:Nat}(r:1<=n)(q:n<=1000){X:Nat->Int}(o:X 0=0){a0 A a2 a4 a5 a6 a9 x11 x12:kH}{g KT:kL}:∃y11,Ao (AD 11) Kx (BW 1<|n - 1) (FW a0 A a2 g a4 a5 a6 (AI n 6 X) KT a9 (↑(.own [Ay 6<|X 1])) x11 x12)=↑(.nx<|FW a0 A a2 g a4 a5 a6 (AI n 6 X) KT a9 (↑(.own<|(CB X n).map fw)) y11 x12):=by
 have c:=Cm n 6 X;have f:=AK _ c
 have l:∀i,(CB X<|i+1).map fw=(CB X i).map fw++[Ay 6<|X (i+1) - X i]:=λi=>by
  unfold CB;rw[List.range_succ,â,â];rfl
 let(Y,e,y11,rfl):=FY (b:=AD 11) (body:=Kx) (n:=n - 1) (g:=λi=>.int<|1+(i:Int)) (Y:=FW a0 A a2 g a4 a5 a6 (AI n 6 X) KT a9 (↑(.own<|(CB X 1).map fw)) x11 x12) (λi Y=>∃y11,Y=FW a0 A a2 g a4 a5 a6 (AI n 6 X) KT a9 (↑(.own<|(CB X<|i+1).map fw)) y11 x12) {(x11),rfl} (by
  rintro i Y p ⟨y11,rfl⟩
  have k:AM (AI n 6 X) (1+(i:Int))=↑(Ay 6<|X<|i+2):=by
   rw[show(1:Int)+(i:Int)=((i+1:Nat):Int) by lia];exact BO<|by lia
  have d:AM (AI n 6 X) (1+(i:Int) - 1)=↑(fr (Zm.lt (X<|i+1) 6)<|Zm.lb (X<|i+1) 6):=by
   rw[show(1:Int)+(i:Int) - 1=(i:Int) by lia];exact BO<|by lia
  have h:=FP.low Eg<|X<|i+1
  have j:=Jo (v:=X<|i+2) (w:=-X (i+1)) (a:=0 - Zm.lt (X<|i+1) 6) Eg h.o (by
   have:=h.e;rw[Int.zero_sub,Int.neg_mul,Int.neg_mul,this])
  rw[show X (i+2) + -X (i+1)=X (i+1+1) - X (i+1) by rw[<- Int.sub_eq_add_neg]]at j
  have ll:((CB X<|i+1).map fw).length<100000:=by
   unfold CB;rw[À,À,Ċ];lia
  refine{FW a0 A a2 g a4 a5 a6 (AI n 6 X) KT a9 (↑(.own<|(CB X<|i+1).map fw)) (↑(.int<|1+(i:Int))) x12,rfl,FW a0 A a2 g a4 a5 a6 (AI n 6 X) KT a9 (↑(.own<|(CB X<|i+1+1).map fw)) (↑(.int<|1+(i:Int))) x12,?_,_,rfl};rw[l<|i+1];change (CB X<|i+1).map fw=ST;change AI n 6 X=VT;unfold Kx
  simp![c,f,k,d,j,ll])
 refine{y11,?_}
 have m:(CB X 1).map fw=[Ay 6<|X 1]:=by
  show [Ay 6<|X 1 - X 0]=_;rw[o,Int.sub_zero]
 rw[m,show n - 1+1=n by lia]at e;exact e
def UE{w:kF}(h:∀i,1<=i->i<=w.length->Al w (i - 1)<=Al w i):∀i,0<=Al w i
 |0=>Int.le_refl _|i+1=>by
  have a:=UE h i;by_cases z:i+1<=w.length;have:=h (i+1) (by lia) z;have:Al w i<=Al w (i+1):=this;lia
  have e:Al w (i+1)=Al w i:=by
   unfold Al;rw[İ (by lia),İ<|by lia]
  lia
set_option tactic.hygienic true in
def zmh{ws:kE}{rs:List<|Str×kL}{dd:List Sd}(K:SpK ws rs dd){ks:kF}{r:Nat}(E:ks.length<=100)(y:CJ dd 0 ks=↑r){l:kI}(a1:ES (A5 ws rs dd) ks=↑l)(a2:C8 (A5 ws rs dd) (Am rs 0) ks=↑l)(a3:Cc (A5 ws rs dd) l=Am rs r)(a4:l.length=ks.length){g:kL}(v:Ax ws B5 g){X:Nat->Int}(A:X 0=0) :
  ∃b:Bool,Ho [BE ws rs dd,.lst<|ks.map T.int,.lst g,.lst<|(CB X<|ks.length+1).map fw]=↑(.ok<|.bl b)/\b=(match By (ks.length+2) (Bf (A5 ws rs dd) l g) with
   |some f=>Ia (ks.length+2) 6 (zX X) f|none=>false):=by
 have G:(CB X<|ks.length+1).length=ks.length+1:=by unfold CB;rw[À,Ċ]
 have H:(DP X<|ks.length+1).length=ks.length+1:=by unfold DP;rw[À,Ċ]
 let(b,e,C):=zl7 Eg K E (N6 K y) v (OK X<|ks.length+1) G;refine{b,e,?_};have c:=zpp K (by lia:ks.length<=200) y a2 a3 a4 (g:=g.map<|A7 ws) H
 have B:Dv.In (ks.length+2)<|Cy (A5 ws rs dd) l<|g.map<|A7 ws:=by
  rw[<- a4];exact VN K.mc (Le a1).1 (show Ax (A5 ws rs dd).ws B5 g from v)
 have d:b=true ↔ ∀q∈Cy (A5 ws rs dd) l (g.map<|A7 ws),C4 6 (Al<|DP X<|ks.length+1) q:=by
  rw[C,<- c];unfold IC;rw[U9]
  have:(∀t∈CB X (ks.length+1),0<=t.1) ↔ ∀x∈DP X (ks.length+1),0<=x:=by
   rw[<- U9];constructor;intro h x D;let(t,m,rfl):=Ò.mp D;have a:=OK X (ks.length+1) t m;have:=h t m
   by_cases z:0<=v6 t;exact z;exfalso;have p:v6 t * t.2<0:=Ġ (by lia) a.o.p;have u:=a.e;lia;intro h t m;have a:=OK X (ks.length+1) t m;have:=h _<|ň m
   by_cases z:0<=t.1;exact z;exfalso;have p:=Int.mul_nonneg this<|ħ a.o.p;have u:=a.e
   lia
  rw[this]
 have w:(∀q∈Cy (A5 ws rs dd) l (g.map<|A7 ws),C4 6 (Al<|DP X<|ks.length+1) q)->∀i,0<=Al (DP X<|ks.length+1) i:=λh=>UE λi p u=>by
  rw[Lg a3]at h;exact Px l 1 (λϊ=>0) (λb q=>h b<|î _ q) i p<|by lia
 have F:=lie52 B (X:=Al<|DP X<|ks.length+1) rfl w
 have I:∀f,Db.Lie (ks.length+2) 6 (Al<|DP X<|ks.length+1) f ↔ Db.Lie (ks.length+2) 6 (zX X) f:=λf=>by
  have ex:∀i,i<ks.length+2->Al (DP X<|ks.length+1) i=zX X i:=λi k=>by
   rw[UG A (ks.length+1) i<|by lia];unfold zX;split;rename_i z;rw[z];exact A;rfl
  constructor<;>intro h i j k n;rw[<- ex i k,<- ex j n];exact h i j k n;rw[ex i k,ex j n];exact h i j k n
 have o:Bf (A5 ws rs dd) l g=F9 (λϊ ϊ=>none) (Cy (A5 ws rs dd) l<|g.map<|A7 ws):=rfl;rw[o];unfold By;by_cases s:Db.Sound (ks.length+2)<|F9 (λϊ ϊ=>none)<|Cy (A5 ws rs dd) l<|g.map<|A7 ws
 rw[if_pos s];show b=Ia _ _ _ _;rw[ŏ,zh7,d,F,I]
 rw[if_neg s];show b=false;cases b with
 |false=>rfl|true=>
  exfalso;have h:=d.mp rfl;exact s<|ze5 (P:=6) (X:=Al<|DP X<|ks.length+1) (by decide) rfl (w h) h
def aP{ws:kE}{rs:List<|Str×kL}{dd:List Sd}(K:SpK ws rs dd){ks:kF}{r:Nat}(L:ks.length<=50)(J:CJ dd 0 ks=↑r){l:kI}(a1:ES (A5 ws rs dd) ks=↑l)(a2:C8 (A5 ws rs dd) (Am rs 0) ks=↑l)(a3:Cc (A5 ws rs dd) l=Am rs r)(a4:l.length=ks.length){g:kL}(q:Ax ws B5 g){X:Nat->Int}(w:X 0=0){b0 b2 b4 b6 b9 x10 x11 x12:kH} :
  ∃y:Nat->kH,Ky (FW b0 (↑(BE ws rs dd)) b2 g b4 (↑(oT (ks.length+2)<|By (ks.length+2)<|Bf (A5 ws rs dd) l g)) b6 (AI (ks.length+1) 6 X) (ks.map T.int) b9 x10 x11 x12)=↑(.nx<|FW b0 (↑(BE ws rs dd)) b2 g b4 (↑(oT (ks.length+2)<|By (ks.length+2)<|Bf (A5 ws rs dd) l g)) b6 (AI (ks.length+1) 6 X) (ks.map T.int) b9 (y 10) (y 11)<|y 12):=by
 let(b,B,c):=zmh K (by lia:ks.length<=100) J a1 a2 a3 a4 q w;have u:=FQ K.sp.r;have D:=AK _ u;have sd:=K.sp.sd;have z:=AK _ sd;have H:=Dd ks;have C:=Dw ks;have sg:=q.sh;have j:=AK _ sg;have a:=Cm (ks.length+1) 6 X;have d:=AK _ a;have G:(AI (ks.length+1) 6 X).length=ks.length+1:=BQ;have I:AM (AI (ks.length+1) 6 X) 0=↑(Ay 6<|X 1):=BO (k:=0)<|by lia
 have m:Bh 1=true:=Dl (n:=1)<|by lia
 have o:Bh ((ks.length+1:Nat):Int)=true:=Dl<|by lia
 have tn:(((ks.length+1:Nat):Int) - 1).toNat=ks.length+1 - 1:=by lia
 have v:AV ((CB X<|ks.length+1).map fw)=true:=Ea λϊ ϊ=>rfl;have p:=AK _ v;have nb:CH (.bl b) (.bl b)=↑(.bl false):=by cases b<;>ext
 have e:∀x10 x11,AQ (Bz (m2 (Bk true) (AA 5)<|mC .non)<|AS Ki<|mJ 5<|mJ 7 AE) (AD 12) (FW b0 (↑(BE ws rs dd)) b2 g b4 (↑(oT (ks.length+2)<|By (ks.length+2)<|Bf (A5 ws rs dd) l g)) b6 (AI (ks.length+1) 6 X) (ks.map T.int) b9 x10 x11 x12)=↑(.nx<|FW b0 (↑(BE ws rs dd)) b2 g b4 (↑(oT (ks.length+2)<|By (ks.length+2)<|Bf (A5 ws rs dd) l g)) b6 (AI (ks.length+1) 6 X) (ks.map T.int) b9 x10 x11<|↑(.bl b)):=λx10 x11=>by
  cases s:By (ks.length+2) (Bf (A5 ws rs dd) l g) with
  |none=>
   rw[s]at c;have c:b=false:=c;rw[c];show AQ _ _ [_,_,_,_,_,↑T.non,_,_,_,_,_,_,_]=↑(.nx [_,_,_,_,_,↑T.non,_,_,_,_,_,_,_]);change AI (ks.length+1) 6 X=VT;change ks.map T.int=KT
   simp![]
  |some f=>
   rw[s]at c;have c:b=Ia (ks.length+2) 6 (zX X) f:=c;have t:=zkt Eg (by lia:ks.length+1<=100) f X
   rw[<- c]at t;have sz:=JS (ks.length+2) f;have E:=Cf _ sz;have F:Bk true (zT (ks.length+2) f) .non=↑(.bl true):=Vt (ks.length+2) ↑f true;show AQ _ _ [_,_,_,_,_,↑(zT (ks.length+2) f),_,_,_,_,_,_,_]=↑(.nx [_,_,_,_,_,↑(zT (ks.length+2) f),_,_,_,_,_,_,_]);change zT (ks.length+2) f=ZT;change AI (ks.length+1) 6 X=VT;change ks.map T.int=KT
   simp![-Bk,sz,E,F,a,d,t]
 let(h,x):=zit (n:=ks.length+1) (by lia) (by lia) w (a0:=b0) (A:=↑(BE ws rs dd)) (a2:=b2) (a4:=b4) (a5:=↑(oT (ks.length+2)<|By (ks.length+2)<|Bf (A5 ws rs dd) l g)) (a6:=b6) (a9:=b9) (x11:=x11) (x12:=x12) (g:=g) (KT:=ks.map T.int);have e:=e (↑(.own<|(CB X<|ks.length+1).map fw)) h;refine{λi=>if i=10 then ↑(.lst<|(CB X<|ks.length+1).map fw) else if i=11 then h else ↑(.bl b),?_};show _=↑(Out.nx<|FW _ _ _ _ _ _ _ _ _ _ (↑(.lst<|(CB X<|ks.length+1).map fw)) h<|↑(.bl b));change oT (ks.length+2) (By (ks.length+2)<|Bf (A5 ws rs dd) l g)=OT;change AI (ks.length+1) 6 X=VT;change ks.map T.int=KT;change (CB X<|ks.length+1).map fw=ST;unfold Ky;refine sq (by simp![a,d,I];rfl)<|sq (by simp![a,d,G,m,o,tn];exact x)<|sq e<|sq (by simp![p];rfl) ?_
 simp![AX,AU,u,D,sd,z,H,C,sg,j,v,p,B,nb]
def law_true(ns:kF)(h:ns.length<=63):bQ [Bw ns]=↑(.ok<|.bl true):=by
 have F:=Uh ns;have F2:=Ug ns;have v:Eh [Bw ns,.int 20]=↑(.ok<|.int<|ns.getD (20:Int).toNat 0):=KQ ns (k:=20)<|by decide
 generalize ns.getD (20:Int).toNat 0=c at v;have x:Eh [Bw ns,.int 30]=↑(.ok<|.int<|ns.getD (30:Int).toNat 0):=KQ ns (k:=30)<|by decide
 generalize ns.getD (30:Int).toNat 0=d at x;let(ws,rs,e,sz,em,D):=zdl ns h;have K:=zpm D;have md:Kh [BE ws rs e]=↑(.ok<|BF<|A5 ws rs e):=made_ok K.sp K.mc;have q:=FQ K.sp.r;have U:=AK _ q;have sd:=K.sp.sd;have N:=AK _ sd;have sm:=G9 K.mc;have p:=Cf _ sm;have tw:CI ws:=K.mc.tw
 have hcl:(B0 ns ↑12 ↑20).length<=8:=by
  unfold B0;rw[show(↑(12:Int))=↑((12:Nat):Int) from rfl,show(↑(20:Int))=↑((20:Nat):Int) from rfl,HT.sIx_nat,HT.sIx_nat,Ă];lia
 let(a,r,er1,wk,kl):=zos K (cs:=B0 ns ↑12 ↑20)<|by lia
 have cm:B0 (ns.map T.int) ↑12 ↑20=(B0 ns ↑12 ↑20).map T.int:=SS ..;have scs:=Dd<|B0 ns ↑12 ↑20;have ecs:=Dw<|B0 ns ↑12 ↑20;have cm2:B0 (ns.map T.int) ↑21 ↑30=(B0 ns ↑21 ↑30).map T.int:=SS ..;have scs2:=Dd<|B0 ns ↑21 ↑30;have M:=Dw<|B0 ns ↑21 ↑30;have sk:=Dd a;have O:=Dw a;have lk:(a.map T.int).length<=100000:=by rw[À];lia
 have ekl:(a.map T.int).length=a.length:=À ..;let(xs,es):=LW c (m:=5)<|by decide
 have es':FJ [.int c,.int 5]=↑(.ok<|.own<|mT 5 λi=>.int<|xs i):=es;have sx:AV (mT 5 λi=>T.int<|xs i)=true:=IF _;have ex:=AK _ sx;let(sc,s0,esc):=Uk (ws:=ws) (rs:=rs) (dd:=e) q sd (λr hr=>{(K.sp.r.lk r hr).1,K.l2 r hr}) λd hd=>{(K.sp.d d hd).g,K.g2 d hd}
 have s4:Bx 4=true:=CZ (by decide)<|by decide
 have u0:0<=sc.fdiv 4+1:=by
  rw[fd<|by decide];have:=Int.ediv_nonneg s0<|show(0:Int)<=4 by decide
  lia
 let(g,eg1,Z,gl):=Y7 (xs:=xs) u0 tw;have sg:=Z.sh;have eg:=AK _ sg;have lg:g.length<=100000:=by lia
 let(l,a1,a2,a3,a4):=zj7 K (ks:=a) (by lia) wk;have hks:=N6 K wk;have rz:=rz_ok K.mc K.s1 a (show Ax (A5 ws rs e).ws B5 g from Z)<|by lia
 rw[a1,show J7 (A5 ws rs e) g ↑l=.ok (oT (l.length+2)<|By (l.length+2)<|Bf (A5 ws rs e) l g) from rfl,a4]at rz;let(W,eW,lW,hF):=zg7 K (ks:=a) (by lia) hks Z<|B0 ns ↑21 ↑30
 have hW:∀t∈W,FP 6 t.1 t.2<|v6 t:=λt ht=>by
  let(w,hw):=hF t ht;rw[Nt hw];exact hw
 have sW:AV (W.map fw)=true:=Ea λϊ ϊ=>rfl;have L:=AK _ sW;have su:=zis hW<|by lia
 rw[lW]at su;let(u,em2,x0'):=zh5 (n:=a.length+1) (by lia) (by lia) (Al<|W.map v6) d
 have s:=Cm (a.length+1) 6<|Al<|W.map v6;have V:=AK _ s;have vs2:=Cm (a.length+1) 6 u;have ev2:=AK _ vs2;have so:=Vs (a.length+2)<|By (a.length+2)<|Bf (A5 ws rs e) l g;have eo:=Cf _ so;have o:a.length<=50:=by lia
 have r7:∀A B C E G H I Γ P Q R S,A8 (Bz (m2 (Bk true) (AA 5)<|mC .non)<|BI<|AS Kj<|mJ 5<|AB (m1 Ap<|AA 8) AE) (AW<|mC<|.bl false) Aa [A,B,C,E,G,↑(oT (a.length+2)<|By (a.length+2)<|Bf (A5 ws rs e) l g),H,I,↑(.lst<|a.map T.int),Γ,P,Q,R]=↑(.nx [A,B,C,E,G,↑(oT (a.length+2)<|By (a.length+2)<|Bf (A5 ws rs e) l g),H,I,↑(.lst<|a.map T.int),Γ,P,Q,R])/\S=(S:kH):=λA B C E G H I Γ P Q R S=>by
  refine{?_,rfl};cases hz:By (a.length+2) (Bf (A5 ws rs e) l g) with
  |none=>
   show A8 _ _ _ [_,_,_,_,_,↑T.non,_,_,_,_,_,_,_]=↑(.nx [_,_,_,_,_,↑T.non,_,_,_,_,_,_,_]);change a.map T.int=KT
   simp![]
  |some f=>
   have nf:Db.Nar (a.length+2) f:=zkh hz;have isn:=zpc (m:=a.length) (by lia) nf
   have sz:=JS (a.length+2) f;have ez:=Cf _ sz;have iz:Bk true (zT (a.length+2) f) .non=↑(.bl true):=Vt (a.length+2) ↑f true;show A8 _ _ _ [_,_,_,_,_,↑(zT (a.length+2) f),_,_,_,_,_,_,_]=↑(.nx [_,_,_,_,_,↑(zT (a.length+2) f),_,_,_,_,_,_,_]);change zT (a.length+2) f=ZT;change a.map T.int=KT
   simp![-Bk,sz,ez,iz,sk,O,ekl,isn]
 have ezz:Aq (oT (a.length+2)<|By (a.length+2)<|Bf (A5 ws rs e) l g) (oT (a.length+2)<|By (a.length+2)<|Bf (A5 ws rs e) l g)=↑(.bl true):=by
  cases By (a.length+2) (Bf (A5 ws rs e) l g) with
  |none=>ext|some f=>exact Ta _ f
 let(y,e1):=aP K o wk a1 a2 a3 a4 Z (X:=Al<|W.map v6) rfl (b0:=↑(Bw ns)) (b2:=↑(BF<|A5 ws rs e)) (b4:=↑(.lst<|W.map fw)) (b6:=↑(.lst<|AI (a.length+1) 6<|Al<|W.map v6)) (b9:=↑(.int (r:Int))) (x10:=none) (x11:=none) (x12:=none);let(z,e2):=aP K o wk a1 a2 a3 a4 Z (X:=u) x0' (b0:=↑(Bw ns)) (b2:=↑(BF<|A5 ws rs e)) (b4:=↑(.lst<|W.map fw)) (b6:=↑(.lst<|AI (a.length+1) 6<|Al<|W.map v6)) (b9:=↑(.int (r:Int))) (x10:=y 10) (x11:=y 11) (x12:=y 12);have j:=(Gk (b:=AD 7) (t:=.lst<|AI (a.length+1) 6<|Al<|W.map v6) (ts:=[.lst<|AI (a.length+1) 6 u]) (Y:=[↑(Bw ns),↑(BE ws rs e),↑(BF<|A5 ws rs e),↑(.lst g),↑(.lst<|W.map fw),↑(oT (a.length+2)<|By (a.length+2)<|Bf (A5 ws rs e) l g),↑(.lst<|AI (a.length+1) 6<|Al<|W.map v6),none,↑(.lst<|a.map T.int),↑(.int (r:Int)),none,none,none]) rfl e1).trans (Gk (b:=AD 7) rfl e2);have j:Ao (AD 7) Ky [.lst<|AI (a.length+1) 6<|Al<|W.map v6,.lst<|AI (a.length+1) 6 u] [↑(Bw ns),↑(BE ws rs e),↑(BF<|A5 ws rs e),↑(.lst g),↑(.lst<|W.map fw),↑(oT (a.length+2)<|By (a.length+2)<|Bf (A5 ws rs e) l g),↑(.lst<|AI (a.length+1) 6<|Al<|W.map v6),none,↑(.lst<|a.map T.int),↑(.int (r:Int)),none,none,none]=↑(.nx [↑(Bw ns),↑(BE ws rs e),↑(BF<|A5 ws rs e),↑(.lst g),↑(.lst<|W.map fw),↑(oT (a.length+2)<|By (a.length+2)<|Bf (A5 ws rs e) l g),↑(.lst<|AI (a.length+1) 6<|Al<|W.map v6),↑(.lst<|AI (a.length+1) 6 u),↑(.lst<|a.map T.int),↑(.int (r:Int)),z 10,z 11,z 12]):=j;refine HI rfl ?_;show MA [↑(Bw ns),none,none,none,none,none,none,none,none,none,none,none,none]=_;unfold MA;unfold Bw at *;have sN:=Dd ns;have J:=Dw ns
 clear e1 e2;change ns.map T.int=NT;change (B0 ns ↑12 ↑20).map T.int=CT;change (B0 ns ↑21 ↑30).map T.int=C2;change (mT 5 λi=>T.int<|xs i)=XT;change oT (a.length+2) (By (a.length+2)<|Bf (A5 ws rs e) l g)=OT;change AI (a.length+1) 6 (Al<|W.map v6)=V1;change AI (a.length+1) 6 u=V2;change W.map fw=WT;change a.map T.int=KT;change BF (A5 ws rs e)=MT;refine sq (by simp![sN,J,em,AX,AU,q,U,sd,N];rfl)<|sq (by simp![AX,AU,q,U,sd,N,md,sm,p];rfl)<|sq (by simp![AX,AU,q,U,sd,N,sN,J,cm,scs,ecs,er1,sk,O];rfl)<|sq (by simp![AX,AU,q,U,sd,N,sN,J,v,es',sx,ex,esc,s4,eg1,sg,eg];rfl)<|sq (by simp![AX,AU,q,U,sd,N,sk,O,sg,eg,sN,J,cm2,scs2,M,eW,sW,L];rfl)<|sq (by simp![sm,p,sk,O,lk,sg,eg,lg,rz,so,eo];rfl)<|Fo (r7 _ _ _ _ _ _ _ _ _ _ _ none).1 (sq (by simp![sW,L,su,s,V];rfl)<|sq (by simp![s,V,sN,J,x,em2,vs2,ev2];exact j) ?_)
 simp![sm,p,sk,O,sg,eg,rz,so,eo,ezz]
end
end Zl
namespace Zl
open PySem PySem.W L2 Zw Zx Pu Hd
abbrev pw:Program:=PySem.Challenge.pw_zonewalk_k52_good_times
abbrev Pg:OpenLaw:=PySem.Challenge.rw_zonewalk_k52_good_times
abbrev md:String:="__module__"
abbrev fl:String:="__firstlineno__"
abbrev sa:String:="__static_attributes__"
abbrev dc:String:="__doc__"
abbrev cf:Str:="/claim/cut.py"
def tO(l:k9):Obj:={(.type "tuple"),none,(.seq (Array.mk l) 0),Array.mk []}
def dO(l:List DictEntry)(n:Nat):Obj:={(.type "dict"),none,(.dict (Array.mk l) n),Array.mk []}
def eb:k9:=[(.type "ValueError"),(.type "Exception"),(.type "BaseException"),(.type "object")]
def yO(a:Str)(b c:k9)(n:Addr)(d:k9)(r e f:Nat)(w:String):Obj:={(.type "type"),none,(.cls {a,b,c,n,a,true,[],d,false,none,false}),Array.mk [(↑(.ref r)),none,(↑(.str a e)),(↑(.str a f)),(↑(.builtin w)),(↑(.bool true))]}
def cP(a:Str)(c:Nat)(b:Str)(d e:Nat)(r n k:Int)(r1:Nat)(z:Int)(g h i j l:Value)(x y:Int)(f:Nat):Obj:={(.type "code"),none,(.fields<|Array.mk [(.str a c),(.str b d),(.str cf e),(.int r 0),(.int n 0),(.int 0 0),(.int 0 0),(.int k 0),(.ref r1),(.bool true),(.int z 0),g,h,i,j,l,(.int x 0),(.int y 0),(.str cf f)]),Array.mk []}
def cL(a b:Str)(t r n q x:Nat):Obj:=cP a t b (t+1) (t+2) r n 3 q 181 (.ref<|q+1) .none (.ref<|q+2) (.ref<|q+3) (.ref<|q+4) x r<|x+1
def cN(a:Str):=cL a a
def cM(a b:Str)(t r n q:Nat):Obj:=cP a t b (t+1) (t+2) r n 3 q 181 (.ref<|q+1) .none .none .none (.ref<|q+2) ((t+3:Nat):Int) r<|t+4
def o2(P:Params):Obj:={.none,none,(.dict (Array.mk []) 0),Array.mk []}
def o3(P:Params):Obj:=dO [en P "__name__" 165<|.str "law_zonewalk_k52_good_times" 659,en P "__doc__" 166 .none,en P "__package__" 167 .none,en P "__loader__" 168<|.builtin "__main__.__loader__#opaque",en P "__spec__" 169 .none,en P "__annotations__" 170<|.ref 6,en P "__builtins__" 171<|.ref 4,en P "__file__" 173<|.str "/claim/cut.py" 172,en P "__cached__" 174 .none,en P "WalkError" 206<|.ref 24,en P "BadMachine" 222<|.ref 37,en P "TooMany" 238<|.ref 49,en P "NoMark" 254<|.ref 61,en P "NoRoad" 270<|.ref 73,en P "is_whole" 279<|.ref 82,en P "at_most" 288<|.ref 89,en P "below" 295<|.ref 96,en P "narrower" 303<|.ref 103,en P "WORDS" 311<|.ref 104,en P "STAY_WORDS" 314<|.ref 105,en P "is_look" 323<|.ref 112,en P "is_number" 330<|.ref 119,en P "is_guard" 336<|.ref 124,en P "look_bounds" 347<|.ref 131,en P "MOST_WATCHES" 351<|.int 7 350,en P "MOST_ROOMS" 353<|.int 64 352,en P "MOST_DOORS" 355<|.int 200 354,en P "is_small_letter" 362<|.ref 138,en P "is_name" 368<|.ref 143,en P "is_watch_name" 375<|.ref 150,en P "is_room_name" 381<|.ref 155,en P "is_sign" 388<|.ref 162,en P "own_copy" 395<|.ref 169,en P "Door" 447<|.ref 201,en P "Machine" 513<|.ref 255,en P "check_watches" 519<|.ref 264,en P "are_unlike" 526<|.ref 271,en P "check_rooms" 532<|.ref 276,en P "check_doors" 542<|.ref 283,en P "are_noughts" 548<|.ref 288,en P "placed" 554<|.ref 293,en P "nought_places" 562<|.ref 298,en P "free_bound" 572<|.ref 305,en P "narrowest" 578<|.ref 310,en P "is_broken" 584<|.ref 315,en P "row_over" 597<|.ref 322,en P "MOST_ROAD_DOORS" 601<|.int 200 600,en P "road_doors" 614<|.ref 329,en P "last_room" 622<|.ref 336,en P "looked_at" 635<|.ref 343,en P "waited_till" 646<|.ref 350,en P "road_bounds" 652<|.ref 355,en P "road_zone" 658<|.ref 360,en P "_law_cell_at" 668<|.ref 367,en P "_law_stream" 680<|.ref 374,en P "_law_names" 686<|.ref 379,en P "_law_number" 694<|.ref 386,en P "_law_guard" 706<|.ref 393,en P "_law_stay" 718<|.ref 400,en P "_law_door" 724<|.ref 405,en P "_law_machine" 730<|.ref 410,en P "_law_made" 736<|.ref 415,en P "_law_scale" 742<|.ref 420,en P "_law_holds" 757<|.ref 427,en P "_law_divisor" 765<|.ref 434,en P "_law_plus" 776<|.ref 441,en P "_law_step" 782<|.ref 446,en P "_law_start" 788<|.ref 451,en P "_law_road" 794<|.ref 456,en P "_law_need" 811<|.ref 463,en P "_law_waits" 817<|.ref 468,en P "_law_good" 830<|.ref 475,en P "_law_whole" 837<|.ref 482,en P "_law_lies" 850<|.ref 489,en P "_law_narrow" 856<|.ref 494,en P "_law_sums" 866<|.ref 501,en P "_law_moved" 877<|.ref 508,en P "_law_is_narrow" 883<|.ref 513,en P "law" 902<|.ref 520] 79
def o15(P:Params):Obj:=tO [(.type "ValueError")]
def o22(P:Params):Obj:=tO []
def o23(P:Params):Obj:=dO [en P md 196<|.str "zonewalk.errors" 187,en P fl 200<|.int 2 199,en P sa 201<|.ref 22,en P "__weakref__" 203<|.ref 25,en P dc 204 .none] 3
def o24(P:Params):Obj:=yO "WalkError" [(.type "ValueError")] ([(.ref 24)]++eb) 23 [(.ref 37),(.ref 49),(.ref 61),(.ref 73)] 15 189 197 "ValueError.__new__"
def o25(P:Params):Obj:={(.type "getset_descriptor"),none,(.fields<|Array.mk [(.str "__weakref__" 202),(.ref 24),(.builtin "ExceptionGroup.__weakref__"),.none]),Array.mk []}
def o28(P:Params):Obj:=tO [(.ref 24)]
def o35(P:Params):Obj:=tO []
def o36(P:Params):Obj:=dO [en P md 214<|.str "zonewalk.errors" 187,en P fl 218<|.int 4 217,en P sa 219<|.ref 35,en P dc 220 .none] 2
def o37(P:Params):Obj:=yO "BadMachine" [(.ref 24)] ([(.ref 37),(.ref 24)]++eb) 36 [] 28 207 215 "ValueError.__new__"
def o40(P:Params):Obj:=tO [(.ref 24)]
def o47(P:Params):Obj:=tO []
def o48(P:Params):Obj:=dO [en P md 230<|.str "zonewalk.errors" 187,en P fl 234<|.int 6 233,en P sa 235<|.ref 47,en P dc 236 .none] 2
def o49(P:Params):Obj:=yO "TooMany" [(.ref 24)] ([(.ref 49),(.ref 24)]++eb) 48 [] 40 223 231 "ValueError.__new__"
def o52(P:Params):Obj:=tO [(.ref 24)]
def o59(P:Params):Obj:=tO []
def o60(P:Params):Obj:=dO [en P md 246<|.str "zonewalk.errors" 187,en P fl 250<|.int 8 249,en P sa 251<|.ref 59,en P dc 252 .none] 2
def o61(P:Params):Obj:=yO "NoMark" [(.ref 24)] ([(.ref 61),(.ref 24)]++eb) 60 [] 52 239 247 "ValueError.__new__"
def o64(P:Params):Obj:=tO [(.ref 24)]
def o71(P:Params):Obj:=tO []
def o72(P:Params):Obj:=dO [en P md 262<|.str "zonewalk.errors" 187,en P fl 266<|.int 10 265,en P sa 267<|.ref 71,en P dc 268 .none] 2
def o73(P:Params):Obj:=yO "NoRoad" [(.ref 24)] ([(.ref 73),(.ref 24)]++eb) 72 [] 64 255 263 "ValueError.__new__"
def o81(_:Params):=cN "is_whole" 273 13 1 76 277
def gO1(a:Str)(s:Stmt)(c:Nat):=gO a s "zonewalk.fractions" 271 c
def Vw(_:Params):=gO1 "is_whole" (AO 7) 81
def o88(_:Params):=cN "at_most" 282 16 1 83 286
def Rf(a:Str)(s:Stmt)(c:Nat):=gO a s "zonewalk.bounds" 280 c
def Vv(_:Params):=Rf "at_most" (AO 9) 88
def o95(_:Params):=cN "below" 289 18 1 90 293
def Vu(_:Params):=Rf "below" (AO 10) 95
def o102(_:Params):=cN "narrower" 296 20 2 97 301
def XH(_:Params):=Rf "narrower" (AO 11) 102
def XG(P:Params):Obj:=tO [(.str "<" 306),(.str "<=" 307),(.str ">" 308),(.str ">=" 309),(.str "=" 310)]
def XF(P:Params):Obj:=tO [(.str "<" 312),(.str "<=" 313)]
def o111(_:Params):=cN "is_look" 315 29 3 106 321
def M4(a:Str)(s:Stmt)(c:Nat):=gO a s "zonewalk.looks" 304 c
def XD(_:Params):=M4 "is_look" (AO 15) 111
def o118(_:Params):=cN "is_number" 324 33 1 113 328
def XC(_:Params):=M4 "is_number" (AO 16) 118
def o123(P:Params):Obj:=cM "is_guard" "is_guard" 331 35 3 120
def XB(_:Params):=M4 "is_guard" (AO 17) 123
def o130(_:Params):=cN "look_bounds" 337 37 4 125 345
def XA(_:Params):=M4 "look_bounds" (AO 18) 130
def o137(_:Params):=cN "is_small_letter" 356 52 1 132 360
def FA(a:Str)(s:Stmt)(c:Nat):=gO a s "zonewalk.machines" 348 c
def Wz(_:Params):=FA "is_small_letter" (AO 23) 137
def o142(P:Params):Obj:=cM "is_name" "is_name" 363 54 1 139
def Wy(_:Params):=FA "is_name" (AO 24) 142
def o149(_:Params):=cN "is_watch_name" 369 56 1 144 373
def Wx(_:Params):=FA "is_watch_name" (AO 25) 149
def o154(P:Params):Obj:=cM "is_room_name" "is_room_name" 376 58 1 151
def Ww(_:Params):=FA "is_room_name" (AO 26) 154
def o161(_:Params):=cN "is_sign" 382 62 1 156 386
def Wv(_:Params):=FA "is_sign" (AO 27) 161
def o168(_:Params):=cN "own_copy" 389 66 1 163 393
def Wu(_:Params):=FA "own_copy" (AO 28) 168
def Wt(P:Params):Obj:=tO [(.str "" 408)]
def o183(P:Params):Obj:=cL "__init__" "Door.__init__" 409 70 6 178 418
def Ws(_:Params):=fO "__init__" "Door.__init__" (DM 29 0) (.ref 177) "zonewalk.machines" 348 183 .none
def o190(P:Params):Obj:=cL "asks" "Door.asks" 421 77 1 185 425
def Wq(_:Params):=fO "asks" "Door.asks" (DM 29 1) .none "zonewalk.machines" 348 190 .none
def o197(P:Params):Obj:=cL "sets" "Door.sets" 428 80 1 192 432
def Wp(_:Params):=fO "sets" "Door.sets" (DM 29 2) .none "zonewalk.machines" 348 197 .none
def o199(P:Params):Obj:=tO [(.str "end" 435),(.str "guard" 436),(.str "noughts" 437),(.str "sign" 438),(.str "start" 439)]
def o200(P:Params):Obj:=dO [en P md 403<|.str "zonewalk.machines" 348,en P fl 407<|.int 68 406,en P "__init__" 420<|.ref 184,en P "asks" 427<|.ref 191,en P "sets" 434<|.ref 198,en P sa 440<|.ref 199,en P "__dict__" 442<|.ref 202,en P "__weakref__" 444<|.ref 203,en P dc 445 .none] 4
def o201(P:Params):Obj:={(.type "type"),none,(.cls {"Door",[(.type "object")],[(.ref 201),(.type "object")],200,"Door",true,[],[],false,none,false}),Array.mk [none,none,(↑(.str "Door" 396)),(↑(.str "Door" 404)),(↑(.builtin "object.__new__")),(↑(.bool true))]}
def o202(P:Params):Obj:={(.type "getset_descriptor"),none,(.fields<|Array.mk [(.str "__dict__" 441),(.ref 201),(.builtin "function.__dict__"),(.builtin "function.__dict__#set")]),Array.mk []}
def o203(P:Params):Obj:={(.type "getset_descriptor"),none,(.fields<|Array.mk [(.str "__weakref__" 443),(.ref 201),(.builtin "ExceptionGroup.__weakref__"),.none]),Array.mk []}
def o216(P:Params):Obj:=cM "__init__" "Machine.__init__" 460 84 4 213
def Wo(_:Params):=fO "__init__" "Machine.__init__" (DM 30 0) .none "zonewalk.machines" 348 216 .none
def o223(P:Params):Obj:=cL "watches" "Machine.watches" 466 96 1 218 470
def Wn(_:Params):=fO "watches" "Machine.watches" (DM 30 1) .none "zonewalk.machines" 348 223 .none
def o230(P:Params):Obj:=cL "rooms" "Machine.rooms" 473 99 1 225 477
def Wm(_:Params):=fO "rooms" "Machine.rooms" (DM 30 2) .none "zonewalk.machines" 348 230 .none
def o237(P:Params):Obj:=cL "doors" "Machine.doors" 480 102 1 232 484
def Wl(_:Params):=fO "doors" "Machine.doors" (DM 30 3) .none "zonewalk.machines" 348 237 .none
def o244(P:Params):Obj:=cL "stay" "Machine.stay" 487 105 2 239 492
def Wk(_:Params):=fO "stay" "Machine.stay" (DM 30 4) .none "zonewalk.machines" 348 244 .none
def o251(P:Params):Obj:=cL "watch_number" "Machine.watch_number" 495 108 2 246 500
def Wj(_:Params):=fO "watch_number" "Machine.watch_number" (DM 30 5) .none "zonewalk.machines" 348 251 .none
def o253(P:Params):Obj:=tO [(.str "door_list" 503),(.str "stays" 504),(.str "watch_names" 505)]
def o254(P:Params):Obj:=dO [en P md 455<|.str "zonewalk.machines" 348,en P fl 459<|.int 82 458,en P "__init__" 465<|.ref 217,en P "watches" 472<|.ref 224,en P "rooms" 479<|.ref 231,en P "doors" 486<|.ref 238,en P "stay" 494<|.ref 245,en P "watch_number" 502<|.ref 252,en P sa 506<|.ref 253,en P "__dict__" 508<|.ref 256,en P "__weakref__" 510<|.ref 257,en P dc 511 .none] 4
def o255(P:Params):Obj:={(.type "type"),none,(.cls {"Machine",[(.type "object")],[(.ref 255),(.type "object")],254,"Machine",true,[],[],false,none,false}),Array.mk [none,none,(↑(.str "Machine" 448)),(↑(.str "Machine" 456)),(↑(.builtin "object.__new__")),(↑(.bool true))]}
def o256(P:Params):Obj:={(.type "getset_descriptor"),none,(.fields<|Array.mk [(.str "__dict__" 507),(.ref 255),(.builtin "function.__dict__"),(.builtin "function.__dict__#set")]),Array.mk []}
def o257(P:Params):Obj:={(.type "getset_descriptor"),none,(.fields<|Array.mk [(.str "__weakref__" 509),(.ref 255),(.builtin "ExceptionGroup.__weakref__"),.none]),Array.mk []}
def o263(P:Params):Obj:=cM "check_watches" "check_watches" 514 110 1 260
def Wi(_:Params):=FA "check_watches" (AO 31) 263
def o270(_:Params):=cN "are_unlike" 520 115 1 265 524
def Wh(_:Params):=FA "are_unlike" (AO 32) 270
def o275(P:Params):Obj:=cM "check_rooms" "check_rooms" 527 117 2 272
def Wg(_:Params):=FA "check_rooms" (AO 33) 275
def o282(_:Params):=cN "check_doors" 533 127 3 277 540
def Wf(_:Params):=FA "check_doors" (AO 34) 282
def o287(P:Params):Obj:=cM "are_noughts" "are_noughts" 543 139 2 284
def We(_:Params):=FA "are_noughts" (AO 35) 287
def o292(P:Params):Obj:=cM "placed" "placed" 549 143 2 289
def Wd(_:Params):=FA "placed" (AO 36) 292
def o297(P:Params):Obj:=cM "nought_places" "nought_places" 557 149 2 294
def gO5(a:Str)(s:Stmt)(c:Nat):=gO a s "zonewalk.plans" 555 c
def Wc(_:Params):=gO5 "nought_places" (AO 38) 297
def o304(_:Params):=cN "free_bound" 565 152 2 299 570
def M3(a:Str)(s:Stmt)(c:Nat):=gO a s "zonewalk.zones" 563 c
def Wb(_:Params):=M3 "free_bound" (AO 40) 304
def o309(P:Params):Obj:=cM "narrowest" "narrowest" 573 156 1 306
def Wa(_:Params):=M3 "narrowest" (AO 41) 309
def o314(P:Params):Obj:=cM "is_broken" "is_broken" 579 164 1 311
def W9(_:Params):=M3 "is_broken" (AO 42) 314
def o321(_:Params):=cN "row_over" 585 166 3 316 595
def W8(_:Params):=M3 "row_over" (AO 43) 321
def o328(_:Params):=cN "road_doors" 602 177 2 323 612
def Ir(a:Str)(s:Stmt)(c:Nat):=gO a s "zonewalk.roads" 598 c
def W7(_:Params):=Ir "road_doors" (AO 46) 328
def o335(_:Params):=cN "last_room" 615 192 2 330 620
def W6(_:Params):=Ir "last_room" (AO 47) 335
def o342(_:Params):=cN "looked_at" 623 194 3 337 633
def W5(_:Params):=Ir "looked_at" (AO 48) 342
def o349(_:Params):=cN "waited_till" 636 199 4 344 644
def W4(_:Params):=Ir "waited_till" (AO 49) 349
def o354(P:Params):Obj:=cM "road_bounds" "road_bounds" 647 202 3 351
def W3(_:Params):=Ir "road_bounds" (AO 50) 354
def o359(P:Params):Obj:=cM "road_zone" "road_zone" 653 216 3 356
def W0(_:Params):=Ir "road_zone" (AO 51) 359
def o366(_:Params):=cN "_law_cell_at" 661 224 2 361 666
def CO(a:Str)(s:Stmt)(c:Nat):=gO a s "law_zonewalk_k52_good_times" 659 c
def WZ(_:Params):=CO "_law_cell_at" (AO 53) 366
def o373(_:Params):=cN "_law_stream" 669 228 2 368 678
def WY(_:Params):=CO "_law_stream" (AO 54) 373
def o378(P:Params):Obj:=cM "_law_names" "_law_names" 681 241 2 375
def WX(_:Params):=CO "_law_names" (AO 55) 378
def o385(_:Params):=cN "_law_number" 687 251 2 380 692
def WW(_:Params):=CO "_law_number" (AO 56) 385
def o392(_:Params):=cN "_law_guard" 695 253 3 387 704
def WV(_:Params):=CO "_law_guard" (AO 57) 392
def o399(_:Params):=cN "_law_stay" 707 260 3 394 716
def WU(_:Params):=CO "_law_stay" (AO 58) 399
def o404(P:Params):Obj:=cM "_law_door" "_law_door" 719 267 4 401
def WS(_:Params):=CO "_law_door" (AO 59) 404
def o409(P:Params):Obj:=cM "_law_machine" "_law_machine" 725 272 1 406
def WR(_:Params):=CO "_law_machine" (AO 60) 409
def o414(P:Params):Obj:=cM "_law_made" "_law_made" 731 284 1 411
def WQ(_:Params):=CO "_law_made" (AO 61) 414
def o419(P:Params):Obj:=cM "_law_scale" "_law_scale" 737 290 1 416
def WO(_:Params):=CO "_law_scale" (AO 62) 419
def o426(_:Params):=cN "_law_holds" 743 297 3 421 755
def WN(_:Params):=CO "_law_holds" (AO 63) 426
def o433(_:Params):=cN "_law_divisor" 758 306 2 428 763
def WM(_:Params):=CO "_law_divisor" (AO 64) 433
def o440(_:Params):=cN "_law_plus" 766 310 2 435 774
def WL(_:Params):=CO "_law_plus" (AO 65) 440
def o445(P:Params):Obj:=cM "_law_step" "_law_step" 777 315 4 442
def WK(_:Params):=CO "_law_step" (AO 66) 445
def o450(P:Params):Obj:=cM "_law_start" "_law_start" 783 332 1 447
def WJ(_:Params):=CO "_law_start" (AO 67) 450
def o455(P:Params):Obj:=cM "_law_road" "_law_road" 789 337 2 452
def WI(_:Params):=CO "_law_road" (AO 68) 455
def o462(_:Params):=cN "_law_need" 795 348 4 457 809
def WH(_:Params):=CO "_law_need" (AO 69) 462
def o467(P:Params):Obj:=cM "_law_waits" "_law_waits" 812 358 4 464
def WG(_:Params):=CO "_law_waits" (AO 70) 467
def o474(_:Params):=cN "_law_good" 818 379 4 469 828
def WE(_:Params):=CO "_law_good" (AO 71) 474
def o481(_:Params):=cN "_law_whole" 831 387 1 476 835
def WD(_:Params):=CO "_law_whole" (AO 72) 481
def o488(_:Params):=cN "_law_lies" 838 389 2 483 848
def WC(_:Params):=CO "_law_lies" (AO 73) 488
def o493(P:Params):Obj:=cM "_law_narrow" "_law_narrow" 851 400 1 490
def WB(_:Params):=CO "_law_narrow" (AO 74) 493
def o500(_:Params):=cN "_law_sums" 857 419 1 495 864
def WA(_:Params):=CO "_law_sums" (AO 75) 500
def o507(_:Params):=cN "_law_moved" 867 426 2 502 875
def Vz(_:Params):=CO "_law_moved" (AO 76) 507
def o512(P:Params):Obj:=cM "_law_is_narrow" "_law_is_narrow" 878 433 2 509
def Vy(_:Params):=CO "_law_is_narrow" (AO 77) 512
def o519(_:Params):=cN "law" 884 442 1 514 900
def Vx(_:Params):=CO "law" (AO 78) 519
def Z8:List Addr:=[2,3,15,22,23,24,25,28,35,36,37,40,47,48,49,52,59,60,61,64,71,72,73,81,82,88,89,95,96,102,103,104,105,111,112,118,119,123,124,130,131,137,138,142,143,149,150,154,155,161,162,168,169,177,183,184,190,191,197,198,199,200,201,202,203,216,217,223,224,230,231,237,238,244,245,251,252,253,254,255,256,257,263,264,270,271,275,276,282,283,287,288,292,293,297,298,304,305,309,310,314,315,321,322,328,329,335,336,342,343,349,350,354,355,359,360,366,367,373,374,378,379,385,386,392,393,399,400,404,405,409,410,414,415,419,420,426,427,433,434,440,441,445,446,450,451,455,456,462,463,467,468,474,475,481,482,488,489,493,494,500,501,507,508,512,513,519,520]
def Iv(P:Params):Frag:=Z8.zipWith (λa o=>(a,o P)) [o2,o3,o15,o22,o23,o24,o25,o28,o35,o36,o37,o40,o47,o48,o49,o52,o59,o60,o61,o64,o71,o72,o73,o81,Vw,o88,Vv,o95,Vu,o102,XH,XG,XF,o111,XD,o118,XC,o123,XB,o130,XA,o137,Wz,o142,Wy,o149,Wx,o154,Ww,o161,Wv,o168,Wu,Wt,o183,Ws,o190,Wq,o197,Wp,o199,o200,o201,o202,o203,o216,Wo,o223,Wn,o230,Wm,o237,Wl,o244,Wk,o251,Wj,o253,o254,o255,o256,o257,o263,Wi,o270,Wh,o275,Wg,o282,Wf,o287,We,o292,Wd,o297,Wc,o304,Wb,o309,Wa,o314,W9,o321,W8,o328,W7,o335,W6,o342,W5,o349,W4,o354,W3,o359,W0,o366,WZ,o373,WY,o378,WX,o385,WW,o392,WV,o399,WU,o404,WS,o409,WR,o414,WQ,o419,WO,o426,WN,o433,WM,o440,WL,o445,WK,o450,WJ,o455,WI,o462,WH,o467,WG,o474,WE,o481,WD,o488,WC,o493,WB,o500,WA,o507,Vz,o512,Vy,o519,Vx]
def vq:Program:={ pw with main:={ (pw).main with body:=[AO 78] } }
def loo:kE:=["WalkError","BadMachine","TooMany","NoMark","NoRoad","is_whole","at_most","below","narrower","WORDS","STAY_WORDS","is_look","is_number","is_guard","look_bounds","MOST_WATCHES","MOST_ROOMS","MOST_DOORS","is_small_letter","is_name","is_watch_name","is_room_name","is_sign","own_copy","Door","Machine","check_watches","are_unlike","check_rooms","check_doors","are_noughts","placed","nought_places","free_bound","narrowest","is_broken","row_over","MOST_ROAD_DOORS","road_doors","last_room","looked_at","waited_till","road_bounds","road_zone","_law_cell_at","_law_stream","_law_names","_law_number","_law_guard","_law_stay","_law_door","_law_machine","_law_made","_law_scale","_law_holds","_law_divisor","_law_plus","_law_step","_law_start","_law_road","_law_need","_law_waits","_law_good","_law_whole","_law_lies","_law_narrow","_law_sums","_law_moved","_law_is_narrow"].map Str.ofString
abbrev hk:Hook:=kHook Iv Z8<|λϊ=>by ext
def zms(w:World)(os:OsState):(go pw 3615 w os).map (λs=>L3 pw vq loo (xt Pg.row.toRowW vq) hk.obs (boot_heap w.params) s.abs)=↑(true,openGood vq loo,hk.val w):=by ext
theorem left:LeftO pw vq loo (xt Pg.row.toRowW vq) hk.obs hk.val 7810 true:=zkx 7810 3615 (by ext) (by decide) (λs=>by ext) (by decide) zms
abbrev fr(w:World):Frag:=Iv w.params
def ca:Str->Value:=λc=>if c="BadMachine" then .ref 37 else if c="TooMany" then .ref 49 else if c="NoMark" then .ref 61 else if c="NoRoad" then .ref 73 else if c="WalkError" then .ref 24 else .none
section
variable {w:World}{mg:Str->Option Value}{base:Heap} [q:Qx pw w (fr w) mg base ca]
theorem Fh:Cls (fr w) BX:={by ext,by ext,by ext,by ext}
def HN:∀f∈Bb,Cd (fr w) BX f:=(B8 (by unfold Cd;ext)<|B8 (by unfold Cd;ext)<|B8 (by unfold Cd;ext)<|B8 (by unfold Cd;ext)<|B8 (by unfold Cd;ext) Bp)
theorem FH:Cls (fr w) Av:={by ext,by ext,by ext,by ext}
def IP:∀f∈Az,Cd (fr w) Av f:=(B8 (by unfold Cd;ext)<|B8 (by unfold Cd;ext)<|B8 (by unfold Cd;ext) Bp)
def yg:specialIn (fr w) (.builtin "object.__class__") "__get__"=↑(↑(.builtin "getset_descriptor.__get__"))/\takesIn (fr w) (.builtin "object.__class__")=↑true:={by ext,by ext}
include q
def zbt:ECls (fr w) mg "BadMachine":=He yg 37 (q.c _ _<|by ext)<|by ext
def T6:∃T:ECls (fr w) mg "BadMachine",ca "BadMachine"=.ref T.C/\EF (fr w) T.C=↑none:={zbt,by rfl,by ext}
def ze4:ECls (fr w) mg "TooMany":=He yg 49 (q.c _ _<|by ext)<|by ext
def zg2:∃T:ECls (fr w) mg "TooMany",ca "TooMany"=.ref T.C/\EF (fr w) T.C=↑none:={ze4,by rfl,by ext}
def zg4:ECls (fr w) mg "NoMark":=He yg 61 (q.c _ _<|by ext)<|by ext
def zii:∃T:ECls (fr w) mg "NoMark",ca "NoMark"=.ref T.C/\EF (fr w) T.C=↑none:={zg4,by rfl,by ext}
def zg3:ECls (fr w) mg "NoRoad":=He yg 73 (q.c _ _<|by ext)<|by ext
def zih:∃T:ECls (fr w) mg "NoRoad",ca "NoRoad"=.ref T.C/\EF (fr w) T.C=↑none:={zg3,by rfl,by ext}
def D1:=Ai WZ 367 zd8<|Aj Ag Af (b:=.all<|Ct λϊ ϊ=>rfl)
def D2:=Ai Wh 271 zbq<|Aj Ag Af (b:=.all<|CF λϊ=>rfl)
def D3:=Ai Wz 138 za7<|Aj Ag Af (b:=.all<|CF λϊ=>rfl)
def D4:=Ai Wy 143 zdx<|Aj (A2 D3 Ag) Af (b:=.all<|CF λϊ=>rfl)
def D5:=Ai Wx 150 zaj<|Aj (A2 D4 Ag) Af (b:=.all<|CF λϊ=>rfl)
def zau:∃u v,mg "MOST_WATCHES"=↑u/\A6 v u/\∀F:Hp,Rp (fr w) F F MS v R0:={(.int (7) 350),(.int 7),q.c _ _ (by ext),{_,rfl},λF=>.int _}
def D6:=Ai Wi 264 zak<|Aj (A2 D5<|A2 D2 Ag) (Af (co:=(Ey zau DZ))) (hex:=(B8 T6 Bp)) (b:=.all<|CF λϊ=>rfl)
def D7:=Ai Ww 155 zav<|Aj (A2 D3 Ag) Af (b:=.all<|CF λϊ=>rfl)
def D8:=Ai Vw 82 zd4<|Aj Ag Af (b:=.all<|CF λϊ=>rfl)
def D9:=Ai XC 119 zcg<|Aj (A2 D8 Ag) Af (b:=.all<|CF λϊ=>rfl)
def D10:=Ai XD 112 zdy<|Aj (A2 D9 Ag) Af (b:=.all<|Fb λϊ ϊ ϊ=>rfl)
def T8:=Ai XB 124 zd5<|Aj (A2 D10 Ag) Af (b:=.all<|Fb λϊ ϊ ϊ=>rfl)
def zbl:∃u v,mg "STAY_WORDS"=↑u/\A6 v u/\∀F:Hp,Rp (fr w) F F MR v R0:={_,.ref 105,q.c _ (.ref 105) (by ext),rfl,λF=>Ae.of_node (k:=.rt) (xs:=[.str "<",.str "<="]) (.inr {XF w.params,_,_,by ext,rfl,rfl,by decide,(.cons {_,rfl}<|.cons {_,rfl} .nil)})<|Pl ["<","<="]}
def D12:=Ai Wg 276 zbb<|Aj (A2 D7<|A2 T8<|A2 D2 Ag) (Af (co:=(Ey zbl DZ))) (hex:=(B8 T6 Bp)) (b:=.all<|Ct λϊ ϊ=>rfl)
def D13:=Ai We 288 zbd<|Aj (A2 D5<|A2 D2 Ag) Af (b:=.all<|Ct λϊ ϊ=>rfl)
def D14:=Ai Wv 162 zdw<|Aj (A2 D4 Ag) Af (b:=.all<|CF λϊ=>rfl)
def Zv:∃u v,mg "WORDS"=↑u/\A6 v u/\∀F:Hp,Rp (fr w) F F Ii v R0:={_,.ref 104,q.c _ (.ref 104) (by ext),rfl,λF=>Ae.of_node (k:=.rt) (xs:=[.str "<",.str "<=",.str ">",.str ">=",.str "="]) (.inr {XG w.params,_,_,by ext,rfl,rfl,by decide,(.cons {_,rfl}<|.cons {_,rfl}<|.cons {_,rfl}<|.cons {_,rfl}<|.cons {_,rfl} .nil)})<|Pl ["<","<=",">",">=","="]}
def D15:=Ai Wf 283 zbc<|Aj (A2 T8<|A2 D13<|A2 D14 Ag) (Af (co:=(Ey Zv DZ)) (cl:=(B8 {(Fh),HN} Bp)) (ci:=(Ey {201,q.c _ _ (by ext),(Ey {{Fh,by ext,by ext,by ext,by ext},by ext}<|Ey {{FH,by ext,by ext,by ext,by ext},by ext} DZ),by ext} DZ))) (hex:=(B8 T6 Bp)) (b:=.all<|Fb λϊ ϊ ϊ=>rfl)
def zbm:∃u v,mg "MOST_ROOMS"=↑u/\A6 v u/\∀F:Hp,Rp (fr w) F F MU v R0:={(.int (64) 352),(.int 64),q.c _ _ (by ext),{_,rfl},λF=>.int _}
def zbn:∃u v,mg "MOST_DOORS"=↑u/\A6 v u/\∀F:Hp,Rp (fr w) F F MV v R0:={(.int (200) 354),(.int 200),q.c _ _ (by ext),{_,rfl},λF=>.int _}
def cA:=Zo "Machine" Av Az Wo 217 zax<|bG (A2 D6<|A2 D12<|A2 D15 Ag) (Af (co:=(Ey zbm<|Ey zbn DZ)) (sf:=(λC fs h=>by cases h;exact{(FH),IP}))) (hex:=(B8 zg2 Bp))
theorem E16:C6 (fr w) (cA (w:=w) (mg:=mg) (base:=base)).fd Rz.ps []:=.all<|GQ λϊ ϊ ϊ ϊ=>rfl
def D17:=Ai Wu 169 zd2<|Aj Ag Af (b:=.all<|CF λϊ=>rfl)
def b8:=Zo "Door" BX Bb Ws 184 zcj<|bG (A2 D17 Ag)<|Af (sf:=(λC fs h=>by cases h;exact{(Fh),HN}))
theorem E18:C6 (fr w) (b8 (w:=w) (mg:=mg) (base:=base)).fd SG.ps []:=λs a X b=>us6 (P:=λa=>BindsTo s _ {a,[]}<|List.zip _<|a++_) (λϊ ϊ ϊ ϊ ϊ ϊ=>binds_K X rfl (show(fr w).lookup 177=↑(Wt w.params) by ext) rfl rfl rfl) a<|by simpa using b
def D19:=Ai WQ 415 zi6<|Aj Ag (Af (nw:=(XJ {by decide,BX,b8,(Ey {[],[],E18,.nil,λϊ=>.nil} DZ)}<|XJ {by decide,Av,cA,(Ey {[],[],E16,.nil,λϊ=>.nil} DZ)} XI))) (b:=.all<|CF λϊ=>rfl)
def D20:=Ai WX 379 zfm<|Aj Ag Af (b:=.all<|Ct λϊ ϊ=>rfl)
def N4:=Ai WY 374 ze0<|Aj Ag Af (b:=.all<|Ct λϊ ϊ=>rfl)
def b7:=Ai WW 386 ze1<|Aj Ag Af (b:=.all<|Ct λϊ ϊ=>rfl)
def b5:=Ai WV 393 zfp<|Aj (A2 b7 Ag) Af (b:=.all<|Fb λϊ ϊ ϊ=>rfl)
def D24:=Ai WS 405 zi9<|Aj (A2 N4<|A2 b5 Ag) Af (b:=.all<|GQ λϊ ϊ ϊ ϊ=>rfl)
def D25:=Ai WU 400 zi2<|Aj (A2 b7 Ag) Af (b:=.all<|Fb λϊ ϊ ϊ=>rfl)
def D26:=Ai WR 410 zd6<|Aj (A2 D1<|A2 D20<|A2 N4<|A2 D25<|A2 D24 Ag) Af (b:=.all<|CF λϊ=>rfl)
def bZ:=Hf Wn 224 za8 FH<|Hi Ag (Af (cl:=(B8 {(FH),IP} Bp))) (b:=.all<|CF λϊ=>rfl)
def bY:=Hf Wj 252 za2 FH<|Hi Ag (Af (cl:=(B8 {(FH),IP} Bp))) (b:=.all<|Ct λϊ ϊ=>rfl)
def bX:=Ai Wd 293 zfh<|Aj (A2 T8 Ag) (Af (co:=(Ey Zv DZ)) (mt:=(B8 {by decide,{(bZ)}}<|B8 {by decide,{(bY)}} Bp))) (hex:=(B8 zii Bp)) (b:=.all<|Ct λϊ ϊ=>rfl)
def bW:=Hf Wm 231 zal FH<|Hi Ag (Af (cl:=(B8 {(FH),IP} Bp))) (b:=.all<|CF λϊ=>rfl)
def D31:=Hf Wk 245 zaw FH<|Hi Ag (Af (cl:=(B8 {(FH),IP} Bp))) (b:=.all<|Ct λϊ ϊ=>rfl)
def D32:=Hf Wl 238 zam FH<|Hi Ag (Af (cl:=(B8 {(FH),IP} Bp))) (b:=.all<|CF λϊ=>rfl)
def D33:=Hf Wq 191 zck Fh<|Hi Ag (Af (cl:=(B8 {(Fh),HN} Bp))) (b:=.all<|CF λϊ=>rfl)
def D34:=Hf Wp 198 zci Fh<|Hi Ag (Af (cl:=(B8 {(Fh),HN} Bp))) (b:=.all<|CF λϊ=>rfl)
def N3:=Ai Vv 89 zdz<|Aj Ag Af (b:=.all<|CF λϊ=>rfl)
def D36:=Ai Vu 96 zhz<|Aj Ag Af (b:=.all<|CF λϊ=>rfl)
def bV:=Ai XH 103 zd3<|Aj Ag Af (b:=.all<|Ct λϊ ϊ=>rfl)
def D38:=Ai Wb 305 zbp<|Aj (A2 N3 Ag) Af (b:=.all<|Ct λϊ ϊ=>rfl)
def D39:=Ai W8 322 zd1<|Aj Ag Af (b:=.all<|Fb λϊ ϊ ϊ=>rfl)
def D40:=Ai W9 315 zch<|Aj (A2 N3 Ag) Af (b:=.all<|CF λϊ=>rfl)
def D41:=Ai Wa 310 zcd<|Aj (A2 bV<|A2 D38<|A2 D40<|A2 D39 Ag) Af (b:=.all<|CF λϊ=>rfl)
def D42:=Ai XA 131 zba<|Aj (A2 D36<|A2 N3 Ag) Af (b:=.all<|GQ λϊ ϊ ϊ ϊ=>rfl)
def D43:=Ai Wc 298 zai<|Aj Ag (Af (mt:=(B8 {by decide,{(D34)}}<|B8 {by decide,{(bY)}} Bp))) (b:=.all<|Ct λϊ ϊ=>rfl)
def za6:∃u v,mg "MOST_ROAD_DOORS"=↑u/\A6 v u/\∀F:Hp,Rp (fr w) F F Ij v R0:={(.int (200) 600),(.int 200),q.c _ _ (by ext),{_,rfl},λF=>.int _}
def D44:=Ai W7 329 zbo<|Aj (A2 D8 Ag) (Af (co:=(Ey za6 DZ)) (cl:=(B8 {(Fh),HN} Bp)) (mt:=(B8 {by decide,{(D32)}}<|B8 {by decide,{(bW)}} Bp))) (hex:=(B8 zih Bp)) (b:=.all<|Ct λϊ ϊ=>rfl)
def D45:=Ai W6 336 zcf<|Aj Ag (Af (cl:=(B8 {(Fh),HN} Bp)) (mt:=(B8 {by decide,{(bW)}} Bp))) (b:=.all<|Ct λϊ ϊ=>rfl)
def bU:=Ai W5 343 zce<|Aj (A2 D42 Ag) Af (b:=.all<|Fb λϊ ϊ ϊ=>rfl)
def D47:=Ai W4 350 zb8<|Aj (A2 bX<|A2 N3<|A2 bU Ag) (Af (mt:=(B8 {by decide,{(D31)}} Bp))) (b:=.all<|GQ λϊ ϊ ϊ ϊ=>rfl)
def D48:=Ai W3 355 zb9<|Aj (A2 D44<|A2 bX<|A2 D47<|A2 bU<|A2 D43<|A2 D45 Ag) (Af (cl:=(B8 {(Fh),HN} Bp)) (mt:=(B8 {by decide,{(bZ)}}<|B8 {by decide,{(D33)}} Bp))) (b:=.all<|Fb λϊ ϊ ϊ=>rfl)
def D49:=Ai W0 360 zcc<|Aj (A2 D48<|A2 bV<|A2 D41 Ag) Af (b:=.all<|Fb λϊ ϊ ϊ=>rfl)
def D50:=Ai WI 456 zi3<|Aj Ag Af (b:=.all<|Ct λϊ ϊ=>rfl)
def D51:=Ai WM 434 zd7<|Aj Ag Af (b:=.all<|Ct λϊ ϊ=>rfl)
def JR:=Ai WL 441 zi4<|Aj (A2 D51 Ag) Af (b:=.all<|Ct λϊ ϊ=>rfl)
def T7:=Ai WN 427 zfo<|Aj Ag Af (b:=.all<|Fb λϊ ϊ ϊ=>rfl)
def D54:=Ai WJ 451 zfk<|Aj (A2 T7 Ag) Af (b:=.all<|CF λϊ=>rfl)
def D55:=Ai WK 446 zi1<|Aj (A2 JR<|A2 T7 Ag) Af (b:=.all<|GQ λϊ ϊ ϊ ϊ=>rfl)
def bS:=Ai WO 420 zfl<|Aj Ag Af (b:=.all<|CF λϊ=>rfl)
def D57:=Ai WH 463 zi5<|Aj (A2 JR Ag) Af (b:=.all<|GQ λϊ ϊ ϊ ϊ=>rfl)
def D58:=Ai WG 468 zfj<|Aj (A2 bS<|A2 N4<|A2 D57<|A2 JR Ag) Af (b:=.all<|GQ λϊ ϊ ϊ ϊ=>rfl)
def D59:=Ai WE 475 zi8<|Aj (A2 D54<|A2 D55<|A2 T7 Ag) Af (b:=.all<|GQ λϊ ϊ ϊ ϊ=>rfl)
def D60:=Ai WD 482 zfi<|Aj Ag Af (b:=.all<|CF λϊ=>rfl)
def D61:=Ai WC 489 zi7<|Aj Ag Af (b:=.all<|Ct λϊ ϊ=>rfl)
def D62:=Ai WB 494 ze2<|Aj Ag Af (b:=.all<|CF λϊ=>rfl)
def D63:=Ai Vy 513 zbr<|Aj (A2 D60<|A2 D62 Ag) Af (b:=.all<|Ct λϊ ϊ=>rfl)
def D64:=Ai WA 501 zi0<|Aj (A2 JR Ag) Af (b:=.all<|CF λϊ=>rfl)
def D65:=Ai Vz 508 zfn<|Aj (A2 JR Ag) Af (b:=.all<|Ct λϊ ϊ=>rfl)
def D66:=Ai Vx 520 zps<|Aj (A2 D26<|A2 D19<|A2 D50<|A2 b5<|A2 N4<|A2 D1<|A2 bS<|A2 D58<|A2 D49<|A2 D63<|A2 D64<|A2 D65<|A2 JR<|A2 D61<|A2 D59 Ag) Af (b:=.all<|CF λϊ=>rfl)
end
def all_mk{w:World}{h:Heap}{mg:Str->Option Value}{b:Addr}(X:(Iv w.params).In h)(G:h.Ns mainGlobals mg)(a:mg "law"=↑(.ref b))
  : ∃fd:FuncData,(∀(s:Shared) (v:Value),BindsTo s fd {[v],[]} [("_law_script",v)])/\∀base:Heap,(Iv w.params).In base->base.Ns mainGlobals mg->FnOk pw w (Iv w.params) mg base F8 9 b fd ["_law_script"] (LX<|Iv w.params):=by
 have e:=a.symm.trans<|mg_of X G<|show nsIn (fr w) mainGlobals "law"=↑(↑(.ref 520)) by ext
 cases e;refine{gF "law" "law" L6 .none "law_zonewalk_k52_good_times" 659 519 .none,λs v=>.of_eq rfl,λbase ϊ ϊ=>?_};have q:Qx pw w (fr w) mg base ca:={λϊ ϊ e=>mg_of X G e,λϊ e=>mg_none_of X G e};exact zp0 (D66 (mg:=mg)).ok λns h=>law_true ns h
theorem walk{l:PySem.W.OpenLaw}{q:Program}{loose:kE}{XP:(Str->Option Value)->Heap->Prop}{YP:World->Heap->Prop}{d:DefRec}{K:Params->k6}(j:l.most=↑63)(b:d.params.defaults=[])
  (g:∀(w:World) (h:Heap),YP w h->(K w.params).In h)
  (F : ∀ (w : World) (mg : Str -> Option Value) (fa : Addr) (h : Heap), (K w.params).In h -> h.Ns mainGlobals mg -> mg d.name = ↑(.ref fa) ->
   ∃fd:FuncData,(∀(s:Shared) (u:Value),BindsTo s fd {[u],[]} [("_law_script",u)])/\∀base:Heap,(K w.params).In base->base.Ns mainGlobals mg->FnOk l.prog w (K w.params) mg base F8 9 fa fd ["_law_script"] (LX<|K w.params)) :
  PySem.W.WalkO q loose XP YP l.row.toRowW d [] (λf vs=>PySem.call f vs):=
 L2.walk_of (n:=63) (k:=9) (x:="_law_script") (CX:=λϊ=>F8) (sp:=λw=>LX<|K w.params) j (by decide) b {rfl,by decide,by decide} g F (λϊ ϊ a ns i c e=>{a,ns,rfl,GJ.of c e,i,λϊ=>rfl}) λϊ ϊ ϊ ϊ ϊ z=>z
end Zl
open PySem PySem.W PyProof.Rows
set_option maxRecDepth 100000 in
set_option maxHeartbeats 0 in
theorem PySem.Challenge.cw_zonewalk_k52_good_times_holds : PySem.Challenge.rw_zonewalk_k52_good_times.Holds := by
 refine holds_law Zl.said λs=>?_
 refine holds_open (q:=Zl.vq) (loose:=Zl.loo) (Xt:=Hd.xt PySem.Challenge.rw_zonewalk_k52_good_times.row.toRowW Zl.vq) (XP:=XL Zl.vq []) (Yf:=Zl.hk.obs) (Ya:=Zl.hk.val) (YP:=Zl.hk.says) Zl.left Zl.hk.of Zl.hk.keeps (λs e=>xl_of s (Bool.and_eq_true_iff.mp e).1) XL.keeps (by rfl) (by rfl) (by rfl) (λs e=>recFacts_of (Bool.and_eq_true_iff.mp e).2) (by rfl) s (by decide +kernel) ⟨rfl,rfl,rfl,rfl,rfl,by decide +kernel⟩ ?hw ?hc
 case hw=>w_witness2
 case hc=>exact Zl.walk (l:=PySem.Challenge.rw_zonewalk_k52_good_times) rfl rfl (λw h Y=>kIn_of Y) λw mg fa h X G e=>Zl.all_mk X G e
end
