import PyProof.Rows.All
import Wide.All
import OpenK.AllK
import Wide.FinOn
import Lean
import PyProof.EqAt
import PyProof.EqKinds
import PyProof.TupleCall
import PySem.Challenge.RW_zonewalk_k11_narrowest
set_option Elab.async false
set_option linter.all false
set_option maxRecDepth 100000
set_option genSizeOf false
local macro_rules
  | `(tactic| omega) => `(tactic| first
    | assumption
    | exact Nat.le_trans (by assumption) (by decide +kernel)
    | exact Nat.lt_of_lt_of_le (by assumption) (by decide +kernel)
    | exact Nat.lt_of_le_of_lt (by assumption) (by decide +kernel)
    | exact Nat.succ_pos _
    | exact Nat.lt_of_lt_of_le (by assumption) (Nat.succ_le_succ (Nat.le_trans (by assumption) (by decide +kernel)))
    | exact Nat.succ_le_succ (Nat.le_trans (by assumption) (by decide +kernel))
    | exact Nat.lt_trans (by assumption) (by assumption)
    | exact Nat.lt_of_lt_of_le (by assumption) (by assumption)
    | exact Int.lt_trans (b := 0) (by decide +kernel) (by assumption)
    | exact Int.lt_of_lt_of_le (b := 0) (by decide +kernel) (by assumption)
    | exact Int.lt_of_le_of_lt (by assumption) (by decide +kernel)
    | exact Int.le_trans (by assumption) (by decide +kernel)
    | exact Int.le_of_lt (by assumption)
    | exact Int.ne_of_gt (by assumption)
    | lia
    | fail)
namespace L2
open PySem PySem.Spec PyProof.Rows
abbrev Key := Sum Int Str
def keyIs : Key → Value → Bool
  | .inl k, v => Value.isInt k v
  | .inr x, v => Value.isStrOf x v
def keyH (w : World) : Key → Int
  | .inl k => hashInt k
  | .inr x => hashStr w x
theorem keyIs_shape : ∀ {k : Key} {v : Value}, keyIs k v = true → (∃ i t, k = Sum.inl i ∧ v = Value.int i t) ∨ (∃ x t, k = Sum.inr x ∧ v = Value.str x t)
  | .inl i, v, h => by
    obtain ⟨t, e⟩ := Value.isInt_shape (k := i) (v := v) h
    exact .inl ⟨i, t, rfl, e⟩
  | .inr x, v, h => by
    obtain ⟨t, e⟩ := Value.isStrOf_shape (x := x) (v := v) h
    exact .inr ⟨x, t, rfl, e⟩
theorem key_ll (a b : Int) : decide ((Sum.inl a : Key) = Sum.inl b) = (a == b) := by
  by_cases e : a = b
  · subst e; simp
  · have h : ¬ (Sum.inl a : Key) = Sum.inl b := fun q => e (Sum.inl.inj q)
    rw [decide_eq_false h]
    exact (beq_eq_false_iff_ne.mpr e).symm
theorem key_rr (a b : Str) : decide ((Sum.inr a : Key) = Sum.inr b) = decide (a = b) := by
  by_cases e : a = b
  · subst e; simp
  · have h : ¬ (Sum.inr a : Key) = Sum.inr b := fun q => e (Sum.inr.inj q)
    rw [decide_eq_false h, decide_eq_false e]
theorem key_lr (a : Int) (b : Str) : decide ((Sum.inl a : Key) = Sum.inr b) = false := decide_eq_false (fun q => nomatch q)
theorem key_rl (a : Str) (b : Int) : decide ((Sum.inr a : Key) = Sum.inl b) = false := decide_eq_false (fun q => nomatch q)
def mixKind (prog : Program) (w : World) : PySem.KeyKind prog w Key where
  is := keyIs
  hash := keyH w
  inj := fun v a b ha hb => by
    rcases keyIs_shape ha with ⟨i, t, rfl, rfl⟩ | ⟨x, t, rfl, rfl⟩
    · rcases keyIs_shape hb with ⟨j, u, rfl, e⟩ | ⟨y, u, rfl, e⟩
      · injection e with e1 _; rw [e1]
      · exact nomatch e
    · rcases keyIs_shape hb with ⟨j, u, rfl, e⟩ | ⟨y, u, rfl, e⟩
      · exact nomatch e
      · injection e with e1 _; rw [e1]
  byValue := fun k v h => by
    rcases keyIs_shape h with ⟨i, t, rfl, rfl⟩ | ⟨x, t, rfl, rfl⟩ <;> rfl
  pyHash := fun hv h => by
    rcases keyIs_shape hv with ⟨i, t, rfl, rfl⟩ | ⟨x, t, rfl, rfl⟩
    · exact wpAny_pyHash_int h
    · exact wpAny_pyHash_str h
  eqBool := fun hu hv h => by
    rcases keyIs_shape hu with ⟨i, t, rfl, rfl⟩ | ⟨x, t, rfl, rfl⟩
    · rcases keyIs_shape hv with ⟨j, u, rfl, rfl⟩ | ⟨y, u, rfl, rfl⟩
      · rw [key_ll] at h; exact wpAny_eqBool_int h
      · rw [key_lr] at h; exact SeqAt.EqAt.int_str i t y u _ _ _ _ h
    · rcases keyIs_shape hv with ⟨j, u, rfl, rfl⟩ | ⟨y, u, rfl, rfl⟩
      · rw [key_rl] at h; exact SeqAt.EqAt.str_int x t j u _ _ _ _ h
      · rw [key_rr] at h; exact wpAny_eqBool_str h
  «strs» := fun k x t v h => by
    rcases keyIs_shape h with ⟨i, u, rfl, e⟩ | ⟨y, u, rfl, e⟩
    · exact nomatch e
    · injection e with e1 _
      subst e1
      cases v <;> rfl
end L2
namespace L2
open PySem PySem.Spec PyProof.Rows
inductive V where
  | non | bl (b : Bool) | int (i : Int) | str (x : Str) | byt (b : Array UInt8) | flt (b : UInt64) | ref (a : Addr) | ty (n : String)
  deriving DecidableEq
def RelV : V → Value → Prop
  | .non, u => u = Value.none
  | .bl b, u => u = Value.bool b
  | .int i, u => ∃ t, u = Value.int i t
  | .str x, u => ∃ t, u = Value.str x t
  | .byt b, u => ∃ t, u = Value.bytes b t
  | .flt b, u => ∃ t, u = Value.float b t
  | .ref a, u => u = Value.ref a
  | .ty n, u => u = Value.type n
abbrev Vals : List V → List Value → Prop := Paired RelV
theorem Vals.length {xs : List V} {us : List Value} (r : Vals xs us) : xs.length = us.length := Paired.length r
theorem Vals.get : ∀ {xs : List V} {us : List Value} {i : Nat} {x : V}, Vals xs us → xs[i]? = some x → ∃ u, us[i]? = some u ∧ RelV x u
  | _, _, _, _, .nil, e => by simp at e
  | _, _, 0, _, .cons r _, e => by simp at e; subst e; exact ⟨_, rfl, r⟩
  | _, _, i + 1, x, .cons _ t, e => by
    obtain ⟨u, h1, h2⟩ := Vals.get (i := i) (x := x) t (by simpa using e)
    exact ⟨u, by simpa using h1, h2⟩
theorem Vals.set {x : V} {u : Value} (r : RelV x u) : ∀ {xs : List V} {us : List Value} (i : Nat), Vals xs us → Vals (xs.set i x) (us.set i u)
  | _, _, _, .nil => .nil
  | _, _, 0, .cons _ t => .cons r t
  | _, _, i + 1, .cons q t => .cons q (Vals.set r i t)
theorem Vals.append : ∀ {xs ys : List V} {us ws : List Value}, Vals xs us → Vals ys ws → Vals (xs ++ ys) (us ++ ws)
  | _, _, _, _, .nil, s => s
  | _, _, _, _, .cons r t, s => .cons r (Vals.append t s)
theorem Vals.take : ∀ {xs : List V} {us : List Value} (n : Nat), Vals xs us → Vals (xs.take n) (us.take n)
  | _, _, 0, _ => .nil
  | _, _, _ + 1, .nil => .nil
  | _, _, n + 1, .cons r t => .cons r (Vals.take n t)
theorem Vals.drop : ∀ {xs : List V} {us : List Value} (n : Nat), Vals xs us → Vals (xs.drop n) (us.drop n)
  | _, _, 0, r => r
  | _, _, _ + 1, .nil => .nil
  | _, _, n + 1, .cons _ t => Vals.drop n t
def RelO : Option V → Option Value → Prop
  | some v, some u => RelV v u
  | none, none => True
  | _, _ => False
def KV {κ : Type} : List (κ × V) → List (κ × Value) → Prop := Paired fun (p : κ × V) (q : κ × Value) => p.1 = q.1 ∧ RelV p.2 q.2
def kV : Key → V
  | .inl i => .int i
  | .inr x => .str x
inductive HO where
  | lst (xs : List V)
  | tup (xs : List V)
  | dK (kvs : List (Key × V)) | dT (kvs : List (List Key × V))
  | set (S : Int → Bool) (n : Nat)
  | ins (C dx : Addr) (fs : List (Str × V))
  | own (x : Addr)
  | xd (fs : List (Str × V))
  | met (f x : Addr)
  | rng (lo hi : Int)
  | frz (o : Obj) (u : HO)
  | tbl (ps : Array Value)
  | ext (φ : Heap → Prop)
abbrev Hp := Addr → Option HO
def upd (H : Hp) (a : Addr) (o : HO) : Hp := fun b => if b = a then some o else H b
theorem upd_same {H : Hp} {a : Addr} {o : HO} : upd H a o a = some o := by unfold upd; rw [if_pos rfl]
theorem upd_ne {H : Hp} {a b : Addr} {o : HO} (h : b ≠ a) : upd H a o b = H b := by unfold upd; rw [if_neg h]
theorem ne_of_none {H : Hp} {a b : Addr} {o : HO} (h : H a = some o) (h' : H b = none) : a ≠ b := by
  intro e; subst e; rw [h] at h'; cases h'
section
variable (P : Program) (w : World)
def ObjOk (H : Hp) (h : Heap) (a : Addr) : HO → Prop
  | .lst xs => xs.length ≤ sizeLine ∧ ∃ (its : List Value) (n : Nat), Vals xs its ∧ h.get? a = some { cls := .type "list", data := .seq its.toArray n }
  | .tup xs => xs.length ≤ sizeLine ∧ ∃ its : List Value, Vals xs its ∧ IsTup h a its.toArray
  | .dK kvs => kvs.length ≤ sizeLine ∧ (a == sysModules) = false ∧ ∃ vs, KV kvs vs ∧ h.DictOf (mixKind P w) a vs
  | .dT kvs => kvs.length ≤ sizeLine ∧ (a == sysModules) = false ∧ ∃ xs : List (List Key × Addr × Value),
      Paired (fun (p : List Key × V) (q : List Key × Addr × Value) => p.1 = q.1 ∧ H q.2.1 = some (.tup (p.1.map kV)) ∧ RelV p.2 q.2.2) kvs xs ∧
      ∃ o es ep, h.get? a = some o ∧ o.ExactDict ∧ o.data = .dict es ep ∧ es.toList = xs.map (entryOfKey (tupleKind (mixKind P w))) ∧ (xs.map (·.1)).Nodup
  | .set S n => h.SetOf (intKind P w) a S n
  | .ins C dx fs => H dx = some (.own a) ∧ fs.length ≤ 1000 ∧ dx ≠ a ∧ h.get? a = some (PySem.W.instObj C dx) ∧
      ∃ mA, h.Ns1 dx mA ∧ (∀ f, RelO (fs.lookup f) (mA f)) ∧ PySem.Within mA (fs.map (·.1))
  | .own _ => ∃ o, h.get? a = some o
  | .xd fs => ∃ mA, h.Ns1 a mA ∧ ∀ f, RelO (fs.lookup f) (mA f)
  | .rng lo hi => ∃ t u v, h.get? a = some { cls := .type "range", data := .fields #[.int lo t, .int hi u, .int 1 v] }
  | .frz o u => h.get? a = some o ∧ ObjOk H h a u
  | .tbl ps => h.get? a = some { cls := .none, data := .fields ps }
  | .met f x => h.get? a = some (PySem.W.methodObj (.ref f) (.ref x))
  | .ext φ => φ h ∧ (∃ o, h.get? a = some o) ∧ ∀ h1 h2 : Heap, φ h1 → (∀ o, h1.get? a = some o → h2.get? a = some o) → φ h2
def HOk (H : Hp) (h : Heap) : Prop := ∀ a o, H a = some o → ObjOk P w H h a o
end
section
variable {P : Program} {w : World} {H H' : Hp} {h h' : Heap} {a : Addr} {o : HO}
theorem ObjOk.lt (x : ObjOk P w H h a o) : a < h.objs.size := by
  cases o with
  | lst xs => obtain ⟨_, _, _, _, e⟩ := x; exact Heap.lt_size e
  | tup xs => obtain ⟨_, _, _, p⟩ := x; exact p.lt
  | dK kvs => obtain ⟨_, _, _, _, o, _, _, e, _⟩ := x; exact Heap.lt_size e
  | dT kvs => obtain ⟨_, _, _, _, o, _, _, e, _⟩ := x; exact Heap.lt_size e
  | set S n => obtain ⟨o, _, _, _, e, _⟩ := x; exact Heap.lt_size e
  | ins C dx fs => obtain ⟨_, _, _, e, _⟩ := x; exact Heap.lt_size e
  | own y => obtain ⟨_, e⟩ := x; exact Heap.lt_size e
  | xd fs => obtain ⟨_, ⟨_, _, _, e, _⟩, _⟩ := x; exact Heap.lt_size e
  | rng lo hi => obtain ⟨_, _, _, e⟩ := x; exact Heap.lt_size e
  | frz ob u => obtain ⟨e, _⟩ := x; exact Heap.lt_size e
  | tbl ps => exact Heap.lt_size (show h.get? a = some _ from x)
  | met f y => exact Heap.lt_size (show h.get? a = some _ from x)
  | ext φ => obtain ⟨_, ⟨_, e⟩, _⟩ := x; exact Heap.lt_size e
theorem Paired.mapP {α β : Type} {F G : α → β → Prop} : ∀ {l₁ : List α} {l₂ : List β}, Paired F l₁ l₂ → (∀ a b, F a b → G a b) → Paired G l₁ l₂
  | _, _, .nil, _ => .nil
  | _, _, .cons r t, f => .cons (f _ _ r) (Paired.mapP t f)
theorem ObjOk.stay (x : ObjOk P w H h a o) (k : ∀ b u, (b = a ∨ H b = some (.own a)) → h.get? b = some u → h'.get? b = some u)
    (ho : ∀ b, H b = some (.own a) → H' b = some (.own a)) (ht : ∀ b xs, H b = some (.tup xs) → H' b = some (.tup xs)) : ObjOk P w H' h' a o := by
  induction o with
  | lst xs => obtain ⟨z, its, n, r, e⟩ := x; exact ⟨z, its, n, r, k _ _ (.inl rfl) e⟩
  | tup xs => obtain ⟨z, its, r, ob, e, c⟩ := x; exact ⟨z, its, r, ob, k _ _ (.inl rfl) e, c⟩
  | dK kvs => obtain ⟨z, y, vs, r, ob, es, ep, e, c⟩ := x; exact ⟨z, y, vs, r, ob, es, ep, k _ _ (.inl rfl) e, c⟩
  | dT kvs =>
    obtain ⟨z, y, xs, r, ob, es, ep, e, c⟩ := x
    exact ⟨z, y, xs, Paired.mapP r fun p q z => ⟨z.1, ht _ _ z.2.1, z.2.2⟩, ob, es, ep, k _ _ (.inl rfl) e, c⟩
  | set S n => obtain ⟨ob, es, ep, t, e, c⟩ := x; exact ⟨ob, es, ep, t, k _ _ (.inl rfl) e, c⟩
  | ins C dx fs =>
    obtain ⟨d, z, ne, e, mA, ⟨od, es, ep, e2, c⟩, r⟩ := x
    exact ⟨ho _ d, z, ne, k _ _ (.inl rfl) e, mA, ⟨od, es, ep, k _ _ (.inr d) e2, c⟩, r⟩
  | own y => obtain ⟨ob, e⟩ := x; exact ⟨ob, k _ _ (.inl rfl) e⟩
  | xd fs => obtain ⟨mA, ⟨od, es, ep, e, c⟩, r⟩ := x; exact ⟨mA, ⟨od, es, ep, k _ _ (.inl rfl) e, c⟩, r⟩
  | rng lo hi => obtain ⟨t, u, v, e⟩ := x; exact ⟨t, u, v, k _ _ (.inl rfl) e⟩
  | frz ob u ih => obtain ⟨e, q⟩ := x; exact ⟨k _ _ (.inl rfl) e, ih q⟩
  | tbl ps =>
    have e : h.get? a = some { cls := .none, data := .fields ps } := x
    show h'.get? a = some { cls := .none, data := .fields ps }
    exact k a _ (.inl rfl) e
  | met f y =>
    have e : h.get? a = some (PySem.W.methodObj (.ref f) (.ref y)) := x
    show h'.get? a = some (PySem.W.methodObj (.ref f) (.ref y))
    exact k a _ (.inl rfl) e
  | ext φ => obtain ⟨p, ⟨o, e⟩, st⟩ := x; exact ⟨st _ _ p fun o q => k _ _ (.inl rfl) q, ⟨o, k _ _ (.inl rfl) e⟩, st⟩
theorem HOk.lt (x : HOk P w H h) (e : H a = some o) : a < h.objs.size := (x a o e).lt
theorem HOk.fresh (x : HOk P w H h) (e : h.objs.size ≤ a) : H a = none := by
  cases q : H a with
  | none => rfl
  | some u => exact absurd (Nat.lt_of_lt_of_le (x.lt q) e) (Nat.lt_irrefl _)
theorem HOk.kept (x : HOk P w H h) (k : ∀ b u, h.get? b = some u → h'.get? b = some u) : HOk P w H h' := fun a o e =>
  (x a o e).stay (fun b u _ q => k b u q) (fun _ q => q) fun _ _ q => q
theorem HOk.laid (x : HOk P w H h) (k : ∀ b u, h.get? b = some u → h'.get? b = some u) (hp : h.objs.size ≤ a) (new : ObjOk P w (upd H a o) h' a o) : HOk P w (upd H a o) h' := fun b u e => by
  have hn := x.fresh hp
  by_cases hb : b = a
  · subst hb; rw [upd_same] at e; cases e; exact new
  · rw [upd_ne hb] at e
    exact (x b u e).stay (fun c v _ q => k c v q) (fun c q => by rw [upd_ne (ne_of_none q hn)]; exact q) fun c xs q => by rw [upd_ne (ne_of_none q hn)]; exact q
end
def Rd (H : Hp) (a : Addr) (u : HO) : Prop := H a = some u ∨ ∃ o, H a = some (.frz o u)
theorem Rd.of {H : Hp} {a : Addr} {u : HO} (h : H a = some u) : Rd H a u := .inl h
theorem Rd.ok {P : Program} {w : World} {H : Hp} {h : Heap} {a : Addr} {u : HO} (r : Rd H a u) (x : HOk P w H h) : ObjOk P w H h a u := by
  rcases r with r | ⟨o, r⟩
  · exact x a u r
  · obtain ⟨_, q⟩ := x a _ r
    exact q
def Mut : Option HO → Prop
  | some (.lst _) => True
  | some (.dK _) => True
  | some (.dT _) => True
  | some (.set _ _) => True
  | some (.ins _ _ _) => True
  | some (.ext _) => True
  | _ => False
section
variable {P : Program} {w : World} {H : Hp} {h h' : Heap} {x e : Addr} {o' : HO}
theorem HOk.write (ok : HOk P w H h) (mu : Mut (H x)) (he : e = x ∨ H e = some (.own x)) (k : ∀ b u, b ≠ e → h.get? b = some u → h'.get? b = some u) (heo : ∃ u, h'.get? e = some u)
    (new : ObjOk P w (upd H x o') h' x o') : HOk P w (upd H x o') h' := fun b u q => by
  have nown : ∀ c y, H c = some (.own y) → c ≠ x := fun c y r z => by subst z; rw [r] at mu; exact mu
  have ntup : ∀ c xs, H c = some (.tup xs) → c ≠ x := fun c xs r z => by subst z; rw [r] at mu; exact mu
  by_cases hb : b = x
  · subst hb; rw [upd_same] at q; cases q; exact new
  · rw [upd_ne hb] at q
    by_cases hbe : b = e
    · have q' : H b = some (.own x) := by
        rcases he with z | z
        · exact absurd (hbe.trans z) hb
        · rw [hbe]; exact z
      rw [q] at q'; cases q'
      obtain ⟨v, hv⟩ := heo
      exact ⟨v, by rw [hbe]; exact hv⟩
    · refine (ok b u q).stay (fun c v hc r => k c v ?_ r) (fun c r => by rw [upd_ne (nown c b r)]; exact r) fun c xs r => by rw [upd_ne (ntup c xs r)]; exact r
      rcases hc with rfl | hc
      · exact hbe
      · rintro rfl
        rcases he with z | z
        · exact nown c b hc z
        · rw [hc] at z; cases z; exact hb rfl
end
structure Un (fs ex : List Addr) (H H' : Hp) (h h' : Heap) : Prop where
  keep : ∀ b o, h.get? b = some o → H b = none → b ∉ fs → b ∉ ex → h'.get? b = some o
  slot : ∀ b o, h.get? b = some o → H b = none → b ∈ fs → b ∉ ex → ∃ sl, h'.get? b = some { o with slots := sl }
  free : ∀ b o, h.get? b = some o → H b = none → b ∉ ex → H' b = none
  there : ∀ b o, h.get? b = some o → b ∉ ex → ∃ o', h'.get? b = some o'
  tups : ∀ b xs, H b = some (.tup xs) → H' b = some (.tup xs)
  frzs : ∀ b o u, H b = some (.frz o u) → H' b = some (.frz o u)
  tbls : ∀ b ps, H b = some (.tbl ps) → ∃ more, H' b = some (.tbl (ps ++ more))
section
variable {fs fs' ex ex' : List Addr} {H H1 H2 : Hp} {h h1 h2 h' : Heap} {a x e : Addr} {o : HO}
theorem Un.any (u : Un fs ex H H1 h h1) {b : Addr} {ob : Obj} (q : h.get? b = some ob) (n : H b = none) (hx : b ∉ ex) : ∃ sl, h1.get? b = some { ob with slots := sl } := by
  by_cases hb : b ∈ fs
  · exact u.slot b ob q n hb hx
  · exact ⟨ob.slots, u.keep b ob q n hb hx⟩
theorem Un.trans (a : Un fs ex H H1 h h1) (b : Un fs ex H1 H2 h1 h2) : Un fs ex H H2 h h2 where
  keep := fun c ob q n hc hx => b.keep c ob (a.keep c ob q n hc hx) (a.free c ob q n hx) hc hx
  slot := fun c ob q n hc hx => by
    obtain ⟨sl, e1⟩ := a.slot c ob q n hc hx
    obtain ⟨sl', e2⟩ := b.slot c _ e1 (a.free c ob q n hx) hc hx
    exact ⟨sl', e2⟩
  free := fun c ob q n hx => by
    obtain ⟨o', e1⟩ := a.there c ob q hx
    exact b.free c o' e1 (a.free c ob q n hx) hx
  there := fun c ob q hx => by
    obtain ⟨o', e1⟩ := a.there c ob q hx
    exact b.there c o' e1 hx
  tups := fun c xs q => b.tups c xs (a.tups c xs q)
  frzs := fun c ob xs q => b.frzs c ob xs (a.frzs c ob xs q)
  tbls := fun c ps q => by
    obtain ⟨m1, e1⟩ := a.tbls c ps q
    obtain ⟨m2, e2⟩ := b.tbls c _ e1
    exact ⟨m1 ++ m2, by rw [e2, Array.append_assoc]⟩
theorem Un.kept (k : ∀ b u, h.get? b = some u → h'.get? b = some u) : Un fs ex H H h h' :=
  ⟨fun b ob q _ _ _ => k b ob q, fun b ob q _ _ _ => ⟨ob.slots, k b ob q⟩, fun _ _ _ n _ => n, fun b ob q _ => ⟨ob, k b ob q⟩, fun _ _ q => q, fun _ _ _ q => q, fun _ ps q => ⟨#[], by rw [q]; simp⟩⟩
theorem Un.refl : Un fs ex H H h h := Un.kept fun _ _ q => q
theorem Un.laid (k : ∀ b u, h.get? b = some u → h'.get? b = some u) (hp : h.objs.size ≤ a) (hn : H a = none) : Un fs ex H (upd H a o) h h' where
  keep := fun b u q _ _ _ => k b u q
  slot := fun b u q _ _ _ => ⟨u.slots, k b u q⟩
  free := fun b u q n _ => by rw [upd_ne (Nat.ne_of_lt (Nat.lt_of_lt_of_le (Heap.lt_size q) hp))]; exact n
  there := fun b u q _ => ⟨u, k b u q⟩
  tups := fun b xs q => by rw [upd_ne (ne_of_none q hn)]; exact q
  frzs := fun b u xs q => by rw [upd_ne (ne_of_none q hn)]; exact q
  tbls := fun b ps q => ⟨#[], by rw [upd_ne (ne_of_none q hn), q]; simp⟩
theorem Un.write (mu : Mut (H x)) (he : e = x ∨ H e = some (.own x)) (k : ∀ b u, b ≠ e → h.get? b = some u → h'.get? b = some u) (heo : ∃ u, h'.get? e = some u) : Un fs ex H (upd H x o) h h' := by
  have hx : ∀ b, H b = none → b ≠ x := fun b n z => by subst z; rw [n] at mu; exact mu
  have hb : ∀ b, H b = none → b ≠ e := fun b n z => by
    subst z
    rcases he with r | r
    · exact hx b n r
    · rw [n] at r; cases r
  have hm : ∀ b u, H b = some u → ¬ Mut (some u) → b ≠ x := fun b u q nm z => by subst z; rw [q] at mu; exact nm mu
  refine ⟨fun b u q n _ _ => k b u (hb b n) q, fun b u q n _ _ => ⟨u.slots, k b u (hb b n) q⟩, fun b u q n _ => by rw [upd_ne (hx b n)]; exact n, fun b u q _ => ?_,
    fun b xs q => by rw [upd_ne (hm b _ q fun z => z)]; exact q, fun b u xs q => by rw [upd_ne (hm b _ q fun z => z)]; exact q, fun b ps q => ⟨#[], by rw [upd_ne (hm b _ q fun z => z), q]; simp⟩⟩
  by_cases hbe : b = e
  · subst hbe; exact heo
  · exact ⟨u, k b u hbe q⟩
theorem Un.mono (u : Un fs ex H H1 h h1) (hs : ∀ b ∈ fs, b ∈ fs') (hx : ∀ b ∈ ex, b ∈ ex') : Un fs' ex' H H1 h h1 :=
  ⟨fun b ob q n hb he => u.keep b ob q n (fun z => hb (hs b z)) fun z => he (hx b z), fun _ _ q n _ he => u.any q n fun z => he (hx _ z), fun b ob q n he => u.free b ob q n fun z => he (hx b z), fun b ob q he => u.there b ob q fun z => he (hx b z), u.tups, u.frzs, u.tbls⟩
end
def trk (h : Heap) (H : Hp) : List Addr := (List.range h.objs.size).filter fun a => (H a).isSome
def hidT (h : Heap) (H : Hp) : Heap := PySem.W.hideAll h (trk h H)
theorem hidT_size (h : Heap) (H : Hp) : (hidT h H).objs.size = h.objs.size := PySem.W.hideAll_size _ _
theorem hidT_get {h : Heap} {H : Hp} {b : Addr} {o : Obj} (e : h.get? b = some o) (n : H b = none) : (hidT h H).get? b = some o :=
  PySem.W.hideAll_get _ e fun hm => by
    have q : (H b).isSome = true := (List.mem_filter.mp hm).2
    rw [n] at q; simp at q
theorem of_hidT {h : Heap} {H : Hp} {b : Addr} {o : Obj} (e : (hidT h H).get? b = some o) : h.get? b = some o ∧ H b = none := by
  have e' : h.get? b = some o := PySem.W.of_hideAll (trk h H) e
  refine ⟨e', ?_⟩
  cases q : H b with
  | none => rfl
  | some x =>
    have hm : b ∈ trk h H := List.mem_filter.mpr ⟨List.mem_range.mpr (Heap.lt_size e'), by simp [q]⟩
    have z : (hidT h H).get? b = none := PySem.W.hideAll_none (trk h H) hm
    rw [z] at e; cases e
def allNews (g h : Heap) (L : Addr) : List (Addr × Obj) := (List.range h.objs.size).filterMap fun a => if a = L ∨ (g.get? a).isSome = true then none else (h.get? a).map fun o => (a, o)
def rest (g h : Heap) (L d : Addr) : List (Addr × Obj) := (allNews g h L).filter fun p => decide (p.1 ≠ d)
end L2
namespace L2
open PySem PySem.Spec PyProof.Rows
structure Mod (K : PySem.W.Frag) (mg : Str → Option Value) (base : Heap) : Prop where
  kin : K.In base
  glob : base.Ns mainGlobals mg
  blt : ∃ mb, base.Ns builtinsNs mb ∧ ∀ x : Str, x ≠ "__name__" → mb x = bootBuiltins x
  nolimit : base.NoLimit
set_option genInjectivity false in
structure Cx where
  prog : Program
  w : World
  K : PySem.W.Frag
  mg : Str → Option Value
  base : Heap
  A : Around
  N : List Str
  s₀ : Shared
  H₀ : Hp
  env : Env
  outer : List Env
  stack : List Env
  ex : List Addr
  fn : Str → Bool
  calm : Bool
  pn : List (Addr × Obj)
  xe : Value → Shared → Prop
def frs (l : List Env) : List Addr := l.filterMap (·.frame)
abbrev Cx.fs (X : Cx) : List Addr := frs X.outer
def Vis (sc : Scope) (x : Str) : Prop := sc.names.lookup x = some .local ∨ sc.names.lookup x = some .cell ∨ sc.names.lookup x = some .free
def Loc (sc : Scope) (x : Str) : Prop := sc.names.lookup x = some .local ∨ sc.names.lookup x = some .cell
def Look (env : Env) (h : Heap) (m : Str → Option Value) (x : Str) (u : Value) : Prop :=
  (env.kindOf x = some .local ∧ m x = some u) ∨ ((env.kindOf x = some .cell ∨ env.kindOf x = some .free) ∧ ∃ c, env.cells.lookup x = some c ∧ h.IsCell c (some u))
structure Cx.Ok (X : Cx) : Prop where
  mod : Mod X.K X.mg X.base
  kind : X.env.scope.kind = .function
  glob : X.env.globals = mainGlobals
  blt : X.env.builtins = builtinsNs
  above : X.s₀.heap.objs.size ≤ X.env.locals
  inj : ∀ x y c, X.env.cells.lookup x = some c → X.env.cells.lookup y = some c → x = y
  has : ∀ x, (X.env.kindOf x = some .cell ∨ X.env.kindOf x = some .free) → ∃ c, X.env.cells.lookup x = some c
  cab : ∀ x c, X.fn x = true → X.env.cells.lookup x = some c → X.s₀.heap.objs.size ≤ c
  hd : X.calm = true → X.A.handled = none
  frames : X.A.frames = some X.stack
  stk : X.stack = X.outer ∨ (X.stack = X.env :: X.outer ∧ X.env.frame = some X.env.locals)
  exf : ∀ b ∈ X.ex, b ≠ X.env.locals ∧ ∀ x c, X.env.cells.lookup x = some c → c ≠ b
  bs : ∀ b o, X.base.get? b = some o → X.s₀.heap.get? b = some o ∧ X.H₀ b = none
  bsz : X.base.objs.size ≤ X.s₀.heap.objs.size
  noex : ∀ b o, X.base.get? b = some o → b ∉ X.ex
  exfs : ∀ b ∈ X.ex, b ∉ X.fs
  funs : X.s₀.heap.FunFrames X.base X.outer
  frf : ∀ b ∈ X.fs, X.H₀ b = none
structure Inv (X : Cx) (pins : List (Addr × Obj)) (σ : List (Option V)) (H : Hp) (s : Shared) : Prop where
  ok : X.Ok
  os : s.os = X.s₀.os
  bare : AllBare s.gens
  base : Un X.fs X.ex X.H₀ H X.s₀.heap s.heap
  loc : ∃ m, s.heap.Ns X.env.locals m ∧ ∀ (i : Nat) (x : Str) (v : V), X.N[i]? = some x → σ[i]? = some (some v) → Vis X.env.scope x → ∃ u, RelV v u ∧ Look X.env s.heap m x u
  cell : ∀ x c, X.env.cells.lookup x = some c → ∃ v, s.heap.IsCell c v
  free : H X.env.locals = none
  freeC : ∀ x c, X.env.cells.lookup x = some c → H c = none
  pin : ∀ p ∈ X.pn ++ pins, s.heap.get? p.1 = some p.2 ∧ H p.1 = none ∧ p.1 ≠ X.env.locals ∧ p.1 ∉ X.fs ∧ ∀ v, p.2.data ≠ .cell v
  hok : HOk X.prog X.w H s.heap
  len : σ.length = X.N.length
section
variable {X : Cx} {pins : List (Addr × Obj)} {σ : List (Option V)} {H H' : Hp} {s : Shared} {h' : Heap}
theorem Cx.Ok.nofr (ok : X.Ok) {b : Addr} {o : Obj} (e : X.base.get? b = some o) : b ∉ X.fs := fun hb => by
  have := (ok.funs.mem hb).1
  rw [e] at this; cases this
theorem Inv.bs (I : Inv X pins σ H s) : ∀ b o, X.base.get? b = some o → s.heap.get? b = some o ∧ H b = none := fun b o e =>
  ⟨I.base.keep b o (I.ok.bs b o e).1 (I.ok.bs b o e).2 (I.ok.nofr e) (I.ok.noex b o e), I.base.free b o (I.ok.bs b o e).1 (I.ok.bs b o e).2 (I.ok.noex b o e)⟩
theorem Inv.bk (I : Inv X pins σ H s) : ∀ b o, X.base.get? b = some o → s.heap.get? b = some o := fun b o e => (I.bs b o e).1
theorem Inv.mod (I : Inv X pins σ H s) : Mod X.K X.mg X.base := I.ok.mod
theorem Inv.kIn (I : Inv X pins σ H s) : X.K.In s.heap := I.ok.mod.kin.keeps I.bk
theorem Inv.nolimit (I : Inv X pins σ H s) : s.heap.NoLimit := I.ok.mod.nolimit.keeps I.bk
theorem Inv.fr (I : Inv X pins σ H s) : ∃ m, Fr X.base X.env.locals s.heap m :=
  let ⟨m, hn, _⟩ := I.loc
  ⟨m, hn, I.bk, Nat.le_trans I.ok.bsz I.ok.above⟩
theorem Inv.lt (I : Inv X pins σ H s) : X.env.locals < s.heap.objs.size := let ⟨_, hn, _⟩ := I.loc; hn.lt
theorem Inv.sz (I : Inv X pins σ H s) : X.s₀.heap.objs.size ≤ s.heap.objs.size := Nat.le_trans I.ok.above (Nat.le_of_lt I.lt)
theorem Inv.nofs (I : Inv X pins σ H s) {a : Addr} (h : s.heap.objs.size ≤ a) : a ∉ X.fs := fun hb => by
  obtain ⟨_, o, ho, _⟩ := I.ok.funs.mem hb
  exact absurd (Nat.lt_of_lt_of_le (Heap.lt_size ho) (Nat.le_trans I.sz h)) (Nat.lt_irrefl _)
theorem Inv.cne (I : Inv X pins σ H s) : ∀ x c, X.env.cells.lookup x = some c → c ≠ X.env.locals := fun x c e z => by
  obtain ⟨v, o, ho, hd⟩ := I.cell x c e
  obtain ⟨m, ⟨o', es, ep, ho', hd', _⟩, _⟩ := I.loc
  rw [z, ho'] at ho; cases ho; rw [hd'] at hd; cases hd
theorem Inv.funs (I : Inv X pins σ H s) : s.heap.FunFrames X.base X.outer := by
  have all : ∀ (l : List Env), (∀ b ∈ frs l, b ∈ X.fs) → X.s₀.heap.FunFrames X.base l → s.heap.FunFrames X.base l := by
    intro l
    induction l with
    | nil => intro _ _; trivial
    | cons env r ih =>
      intro hs hl
      obtain ⟨hk, ⟨L, o, hf, hn, ho, hd⟩, hr⟩ := hl
      have hL : L ∈ X.fs := hs L (by unfold frs; rw [List.filterMap_cons, hf]; exact List.mem_cons_self)
      obtain ⟨sl, e⟩ := I.base.slot L o ho (I.ok.frf L hL) hL fun z => I.ok.exfs L z hL
      exact ⟨hk, ⟨L, _, hf, hn, e, hd⟩, ih (fun b hb => hs b (by unfold frs; rw [List.filterMap_cons, hf]; exact List.mem_cons_of_mem _ hb)) hr⟩
  exact all X.outer (fun _ hb => hb) I.ok.funs
theorem Inv.stack (I : Inv X pins σ H s) : s.heap.FunFrames X.base X.stack := by
  rcases I.ok.stk with e | ⟨e, hf⟩
  · rw [e]; exact I.funs
  · rw [e]
    obtain ⟨m, hn, _⟩ := I.loc
    refine .cons (by rw [I.ok.kind]; decide) hf hn ?_ I.funs
    exact Heap.get?_none_of_le (Nat.le_trans I.ok.bsz I.ok.above)
theorem Inv.stkSub (I : Inv X pins σ H s) : ∀ b ∈ frs X.stack, b ∈ X.env.locals :: X.fs := fun b hb => by
  rcases I.ok.stk with e | ⟨e, hf⟩
  · rw [e] at hb; exact List.mem_cons_of_mem _ hb
  · rw [e] at hb
    unfold frs at hb
    rw [List.filterMap_cons, hf] at hb
    exact hb
theorem Inv.stkFree (I : Inv X pins σ H s) : ∀ b ∈ frs X.stack, H b = none := fun b hb => by
  rcases List.mem_cons.mp (I.stkSub b hb) with e | hb
  · rw [e]; exact I.free
  · obtain ⟨_, o, ho, _⟩ := I.ok.funs.mem hb
    exact I.base.free b o ho (I.ok.frf b hb) fun z => I.ok.exfs b z hb
theorem Inv.step {g' : Array GenState} {t' : Nat} {d' : Drawn} {ch : List Addr} (I : Inv X pins σ H s)
    (hch : ∀ b ∈ ch, (b ∈ X.ex ∨ X.s₀.heap.objs.size ≤ b) ∧ b ≠ X.env.locals ∧ (∀ x c, X.env.cells.lookup x = some c → c ≠ b) ∧ ∀ p ∈ X.pn ++ pins, p.1 ≠ b)
    (keep : ∀ b o, b ≠ X.env.locals → b ∉ X.fs → b ∉ ch → s.heap.get? b = some o → H b = none → h'.get? b = some o)
    (slot : ∀ b o, b ≠ X.env.locals → b ∈ X.fs → b ∉ ch → s.heap.get? b = some o → H b = none → ∃ sl, h'.get? b = some { o with slots := sl }) (free : ∀ b o, b ∉ ch → s.heap.get? b = some o → H b = none → H' b = none)
    (there : ∀ b o, b ∉ ch → s.heap.get? b = some o → ∃ o', h'.get? b = some o')
    (tups : ∀ b xs, H b = some (.tup xs) → H' b = some (.tup xs)) (frzs : ∀ b o u, H b = some (.frz o u) → H' b = some (.frz o u)) (tbls : ∀ b ps, H b = some (.tbl ps) → ∃ more, H' b = some (.tbl (ps ++ more)))
    (ns : ∀ m, s.heap.Ns X.env.locals m → h'.Ns X.env.locals m) (hok : HOk X.prog X.w H' h') (hg : AllBare g') :
    Inv X pins σ H' { s with heap := h', gens := g', drawn := d', toks := t' } := by
  have neL : ∀ b o, X.s₀.heap.get? b = some o → b ≠ X.env.locals := fun b o e => Nat.ne_of_lt (Nat.lt_of_lt_of_le (Heap.lt_size e) I.ok.above)
  have neC : ∀ b o, X.s₀.heap.get? b = some o → b ∉ X.ex → b ∉ ch := fun b o e hx hb => by
    rcases (hch b hb).1 with z | z
    · exact hx z
    · exact absurd (Nat.lt_of_lt_of_le (Heap.lt_size e) z) (Nat.lt_irrefl _)
  have cellK : ∀ x c, X.env.cells.lookup x = some c → ∀ v, s.heap.IsCell c v → h'.IsCell c v := fun x c e v ⟨o, ho, hd⟩ => by
    have nch : c ∉ ch := fun z => (hch c z).2.2.1 x c e rfl
    by_cases hc : c ∈ X.fs
    · obtain ⟨sl, q⟩ := slot c o (I.cne x c e) hc nch ho (I.freeC x c e)
      exact ⟨_, q, hd⟩
    · exact ⟨o, keep c o (I.cne x c e) hc nch ho (I.freeC x c e), hd⟩
  refine ⟨I.ok, I.os, hg, ⟨fun b o e n hb hx => ?_, fun b o e n hb hx => ?_, fun b o e n hx => ?_, fun b o e hx => ?_, fun b xs e => tups b xs (I.base.tups b xs e), fun b o xs e => frzs b o xs (I.base.frzs b o xs e), fun b ps e => ?_⟩, ?_, fun x c e => ?_, ?_, fun x c e => ?_, fun p hp => ?_, hok, I.len⟩
  · exact keep b o (neL b o e) hb (neC b o e hx) (I.base.keep b o e n hb hx) (I.base.free b o e n hx)
  · obtain ⟨sl, e1⟩ := I.base.slot b o e n hb hx
    obtain ⟨sl', e2⟩ := slot b _ (neL b o e) hb (neC b o e hx) e1 (I.base.free b o e n hx)
    exact ⟨sl', e2⟩
  · obtain ⟨o', e1⟩ := I.base.there b o e hx
    exact free b o' (neC b o e hx) e1 (I.base.free b o e n hx)
  · obtain ⟨o', e1⟩ := I.base.there b o e hx
    exact there b o' (neC b o e hx) e1
  · obtain ⟨m1, e1⟩ := I.base.tbls b ps e
    obtain ⟨m2, e2⟩ := tbls b _ e1
    exact ⟨m1 ++ m2, by rw [e2, Array.append_assoc]⟩
  · obtain ⟨m, hn, hl⟩ := I.loc
    refine ⟨m, ns m hn, fun i x v e1 e2 e3 => ?_⟩
    obtain ⟨u, r, l⟩ := hl i x v e1 e2 e3
    refine ⟨u, r, ?_⟩
    rcases l with l | ⟨k, c, e, z⟩
    · exact .inl l
    · exact .inr ⟨k, c, e, cellK x c e _ z⟩
  · obtain ⟨v, z⟩ := I.cell x c e
    exact ⟨v, cellK x c e v z⟩
  · obtain ⟨m, ⟨o, _, _, ho, _⟩, _⟩ := I.loc
    exact free _ o (fun z => (hch _ z).2.1 rfl) ho I.free
  · obtain ⟨v, o, ho, hd⟩ := I.cell x c e
    exact free c o (fun z => (hch c z).2.2.1 x c e rfl) ho (I.freeC x c e)
  · obtain ⟨e, n, ne, nf, d⟩ := I.pin p hp
    have nch : p.1 ∉ ch := fun z => (hch p.1 z).2.2.2 p hp rfl
    exact ⟨keep p.1 p.2 ne nf nch e n, free p.1 p.2 nch e n, ne, nf, d⟩
theorem Inv.un {t' : Nat} (I : Inv X pins σ H s) (u : Un X.fs [] H H' s.heap h') (hok : HOk X.prog X.w H' h') : Inv X pins σ H' { s with heap := h', toks := t' } := by
  obtain ⟨m, ⟨o, es, ep, ho, r⟩, _⟩ := id I.loc
  obtain ⟨sl, hL⟩ := u.any ho I.free (by simp)
  exact I.step (g' := s.gens) (d' := s.drawn) (ch := []) (fun _ z => nomatch z) (fun b o _ hb _ e n => u.keep b o e n hb (by simp)) (fun b o _ hb _ e n => u.slot b o e n hb (by simp)) (fun b o _ e n => u.free b o e n (by simp)) (fun b o _ e => u.there b o e (by simp)) u.tups u.frzs u.tbls (fun m' hm => by
    obtain ⟨o', es', ep', ho', r'⟩ := hm
    rw [ho] at ho'; cases ho'
    exact ⟨_, es', ep', hL, r'⟩) hok I.bare
theorem Inv.call {g' : Array GenState} {t' : Nat} {d' : Drawn} {ch : List Addr} (I : Inv X pins σ H s) (u : Un (frs X.stack) ch H H' s.heap h') (hok : HOk X.prog X.w H' h') (hg : AllBare g')
    (hch : ∀ b ∈ ch, (b ∈ X.ex ∨ X.s₀.heap.objs.size ≤ b) ∧ b ≠ X.env.locals ∧ (∀ x c, X.env.cells.lookup x = some c → c ≠ b) ∧ ∀ p ∈ X.pn ++ pins, p.1 ≠ b) :
    Inv X pins σ H' { s with heap := h', gens := g', drawn := d', toks := t' } := by
  obtain ⟨m, ⟨o, es, ep, ho, r⟩, _⟩ := id I.loc
  obtain ⟨sl, hL⟩ := u.any ho I.free fun z => (hch _ z).2.1 rfl
  exact I.step (ch := ch) hch (fun b o hL hb hc e n => u.keep b o e n (fun z => (List.mem_cons.mp (I.stkSub b z)).elim hL hb) hc) (fun b o _ _ hc e n => u.any e n hc) (fun b o hc e n => u.free b o e n hc) (fun b o hc e => u.there b o e hc) u.tups u.frzs u.tbls (fun m' hm => by
    obtain ⟨o', es', ep', ho', r'⟩ := hm
    rw [ho] at ho'; cases ho'
    exact ⟨_, es', ep', hL, r'⟩) hok hg
theorem Inv.turned {t' : Nat} {it : Addr} (I : Inv X pins σ H s) (k : ∀ b o, b ≠ it → s.heap.get? b = some o → h'.get? b = some o) (hn : H it = none) (hL : it ≠ X.env.locals)
    (h1 : it ∈ X.ex ∨ X.s₀.heap.objs.size ≤ it) (h2 : ∀ x c, X.env.cells.lookup x = some c → c ≠ it) (h3 : ∀ p ∈ X.pn ++ pins, p.1 ≠ it) : Inv X pins σ H { s with heap := h', toks := t' } := by
  have nit : ∀ b u, H b = some u → b ≠ it := fun b u e z => by rw [z, hn] at e; cases e
  refine I.step (g' := s.gens) (d' := s.drawn) (ch := [it]) (fun b hb => ?_) (fun b o _ _ hc e _ => k b o (fun z => hc (by simp [z])) e) (fun b o _ _ hc e _ => ⟨o.slots, k b o (fun z => hc (by simp [z])) e⟩) (fun _ _ _ _ n => n)
    (fun b o hc e => ⟨o, k b o (fun z => hc (by simp [z])) e⟩) (fun _ _ e => e) (fun _ _ _ e => e) (fun b ps e => ⟨#[], by rw [e]; simp⟩) (fun m hm => ?_) (fun b u e => ?_) I.bare
  · have e : b = it := by simpa using hb
    subst e
    exact ⟨h1, hL, h2, h3⟩
  · obtain ⟨o, es, ep, ho, r⟩ := hm
    exact ⟨o, es, ep, k _ o (Ne.symm hL) ho, r⟩
  · refine (I.hok b u e).stay (fun c v hc q => k c v ?_ q) (fun _ q => q) fun _ _ q => q
    rcases hc with z | z
    · rw [z]; exact nit b u e
    · exact nit c _ z
theorem Inv.tok (I : Inv X pins σ H s) (t : Nat) : Inv X pins σ H { s with toks := t } := I.un (h' := s.heap) (t' := t) Un.refl I.hok
theorem Inv.kept {t' : Nat} (I : Inv X pins σ H s) (k : ∀ b u, s.heap.get? b = some u → h'.get? b = some u) : Inv X pins σ H { s with heap := h', toks := t' } := I.un (Un.kept k) (I.hok.kept k)
theorem Inv.laid {a : Addr} {o : HO} {t' : Nat} (I : Inv X pins σ H s) (k : ∀ b u, s.heap.get? b = some u → h'.get? b = some u) (hp : s.heap.objs.size ≤ a) (new : ObjOk X.prog X.w (upd H a o) h' a o) :
    Inv X pins σ (upd H a o) { s with heap := h', toks := t' } := I.un (Un.laid k hp (I.hok.fresh hp)) (I.hok.laid k hp new)
theorem Inv.write {x e : Addr} {o : HO} {t' : Nat} (I : Inv X pins σ H s) (mu : Mut (H x)) (he : e = x ∨ H e = some (.own x)) (k : ∀ b u, b ≠ e → s.heap.get? b = some u → h'.get? b = some u) (heo : ∃ u, h'.get? e = some u)
    (new : ObjOk X.prog X.w (upd H x o) h' x o) : Inv X pins σ (upd H x o) { s with heap := h', toks := t' } := I.un (Un.write mu he k heo) (I.hok.write mu he k heo new)
theorem Inv.weak {σ' : List (Option V)} (I : Inv X pins σ H s) (hl : σ'.length = σ.length) (w : ∀ (i : Nat) v, σ'[i]? = some (some v) → σ[i]? = some (some v)) : Inv X pins σ' H s :=
  ⟨I.ok, I.os, I.bare, I.base, let ⟨m, hn, hl'⟩ := I.loc; ⟨m, hn, fun i x v e1 e2 e3 => hl' i x v e1 (w i v e2) e3⟩, I.cell, I.free, I.freeC, I.pin, I.hok, hl.trans I.len⟩
theorem Inv.pins_of {pins' : List (Addr × Obj)} (I : Inv X pins σ H s) (h : ∀ p ∈ pins', s.heap.get? p.1 = some p.2 ∧ H p.1 = none ∧ p.1 ≠ X.env.locals ∧ p.1 ∉ X.fs ∧ ∀ v, p.2.data ≠ .cell v) : Inv X pins' σ H s :=
  ⟨I.ok, I.os, I.bare, I.base, I.loc, I.cell, I.free, I.freeC, fun p hp => (List.mem_append.mp hp).elim (fun z => I.pin p (List.mem_append_left _ z)) (h p), I.hok, I.len⟩
theorem nodup_ix {N : List Str} (hN : N.Nodup) {i j : Nat} {x : Str} (a : N[i]? = some x) (b : N[j]? = some x) : i = j := by
  obtain ⟨h1, e1⟩ := List.getElem?_eq_some_iff.mp a
  obtain ⟨h2, e2⟩ := List.getElem?_eq_some_iff.mp b
  exact (List.getElem_inj hN).mp (e1.trans e2.symm)
theorem store_ok2 {M : Model} {A : Around} {E : Value → Shared → Prop} {i : Nat} {x : Str} {v : V} {u : Value} {Q : Unit → Shared → Prop} (I : Inv X pins σ H s) (hN : X.N.Nodup) (hi : X.N[i]? = some x) (hx : Loc X.env.scope x) (r : RelV v u)
    (h : ∀ s', Inv X pins (σ.set i (some v)) H s' → (∃ a, Heap.SameBut a s.heap s'.heap ∧ (a = X.env.locals ∨ X.env.cells.lookup x = some a)) → Q () s') (hf : X.fn x = true ∨ X.env.scope.names.lookup x = some .local := by first | exact .inl rfl | exact .inr rfl | assumption) : wpAny M A (storeName X.env x u) Q E s := by
  obtain ⟨m, hn, hl⟩ := id I.loc
  have hcls : (X.env.scope.kind == .class || (X.env.scope.kind == .module && X.env.locals != X.env.globals)) = false := by rw [I.ok.kind]; rfl
  have hiσ : i < σ.length := by rw [I.len]; exact (List.getElem?_eq_some_iff.mp hi).1
  have cne := I.cne
  have tracked : ∀ {a : Addr} {h' : Heap}, (∃ o, s.heap.get? a = some o ∧ H a = none) → Heap.SameBut a s.heap h' → HOk X.prog X.w H h' := fun {a h'} ha hs b ob e => by
    obtain ⟨_, _, hfree⟩ := ha
    refine (I.hok b ob e).stay (fun c w' hc q => (hs.2 c ?_).trans q) (fun _ q => q) fun _ _ q => q
    rintro rfl
    rcases hc with rfl | hc
    · rw [hfree] at e; cases e
    · rw [hfree] at hc; cases hc
  rcases hx with hk | hk
  · refine wpAny_storeName_local hk hn (fun h' hn' hs => ?_) hcls
    obtain ⟨oL, _, _, hoL, _⟩ := id hn
    refine h _ ⟨I.ok, I.os, I.bare, ⟨fun b o e n hb hx => ?_, fun b o e n hb hx => ?_, I.base.free, fun b o e hx => ?_, I.base.tups, I.base.frzs, I.base.tbls⟩, ⟨_, hn', fun j y v' e1 e2 e3 => ?_⟩, fun y c e => ?_, I.free, I.freeC, fun p hp => ?_, tracked ⟨oL, hoL, I.free⟩ hs, by simpa using I.len⟩ ⟨_, hs, .inl rfl⟩
    · exact (hs.2 b (Nat.ne_of_lt (Nat.lt_of_lt_of_le (Heap.lt_size e) I.ok.above))).trans (I.base.keep b o e n hb hx)
    · obtain ⟨sl, e1⟩ := I.base.slot b o e n hb hx
      exact ⟨sl, (hs.2 b (Nat.ne_of_lt (Nat.lt_of_lt_of_le (Heap.lt_size e) I.ok.above))).trans e1⟩
    · obtain ⟨o', e1⟩ := I.base.there b o e hx
      exact ⟨o', (hs.2 b (Nat.ne_of_lt (Nat.lt_of_lt_of_le (Heap.lt_size e) I.ok.above))).trans e1⟩
    · by_cases hj : j = i
      · subst hj
        rw [hi] at e1; cases e1
        rw [List.getElem?_set_self hiσ] at e2
        cases e2
        exact ⟨u, r, .inl ⟨hk, by simp⟩⟩
      · rw [List.getElem?_set_ne (Ne.symm hj)] at e2
        obtain ⟨u', r', q⟩ := hl j y v' e1 e2 e3
        refine ⟨u', r', ?_⟩
        rcases q with ⟨k, e⟩ | ⟨k, c, e, z⟩
        · refine .inl ⟨k, ?_⟩
          have : y ≠ x := fun e => hj (nodup_ix hN e1 (e ▸ hi))
          simp [this, e]
        · exact .inr ⟨k, c, e, z.sameBut hs (cne y c e)⟩
    · obtain ⟨w', z⟩ := I.cell y c e
      exact ⟨w', z.sameBut hs (cne y c e)⟩
    · obtain ⟨e, n, ne, nf, d⟩ := I.pin p hp
      exact ⟨(hs.2 p.1 ne).trans e, n, ne, nf, d⟩
  · have hfn : X.fn x = true := by
      rcases hf with z | z
      · exact z
      · rw [z] at hk; cases hk
    obtain ⟨c, hc⟩ := I.ok.has x (.inl hk)
    obtain ⟨w', z⟩ := I.cell x c hc
    refine wpAny_storeName_cell I.ok.kind hk hc z (fun h' hc' hs => ?_)
    obtain ⟨oc, hoc, hocd⟩ := id z
    refine h { s with heap := h' } ⟨I.ok, I.os, I.bare, ⟨fun b o e n hb hx => ?_, fun b o e n hb hx => ?_, I.base.free, fun b o e hx => ?_, I.base.tups, I.base.frzs, I.base.tbls⟩, ⟨m, hn.sameBut hs (Ne.symm (cne x c hc)), fun j y v' e1 e2 e3 => ?_⟩, fun y c' e => ?_, I.free, I.freeC, fun p hp => ?_, tracked ⟨oc, hoc, I.freeC x c hc⟩ hs, by simpa using I.len⟩ ⟨c, hs, .inr hc⟩
    · exact (hs.2 b (Nat.ne_of_lt (Nat.lt_of_lt_of_le (Heap.lt_size e) (I.ok.cab x c hfn hc)))).trans (I.base.keep b o e n hb hx)
    · obtain ⟨sl, e1⟩ := I.base.slot b o e n hb hx
      exact ⟨sl, (hs.2 b (Nat.ne_of_lt (Nat.lt_of_lt_of_le (Heap.lt_size e) (I.ok.cab x c hfn hc)))).trans e1⟩
    · obtain ⟨o', e1⟩ := I.base.there b o e hx
      exact ⟨o', (hs.2 b (Nat.ne_of_lt (Nat.lt_of_lt_of_le (Heap.lt_size e) (I.ok.cab x c hfn hc)))).trans e1⟩
    · by_cases hj : j = i
      · subst hj
        rw [hi] at e1; cases e1
        rw [List.getElem?_set_self hiσ] at e2
        cases e2
        exact ⟨u, r, .inr ⟨.inl hk, c, hc, hc'⟩⟩
      · rw [List.getElem?_set_ne (Ne.symm hj)] at e2
        obtain ⟨u', r', q⟩ := hl j y v' e1 e2 e3
        refine ⟨u', r', ?_⟩
        rcases q with q | ⟨k, c', e, z'⟩
        · exact .inl q
        · refine .inr ⟨k, c', e, z'.sameBut hs ?_⟩
          rintro rfl
          exact hj (nodup_ix hN e1 (I.ok.inj _ _ _ e hc ▸ hi))
    · by_cases hcc : c' = c
      · subst hcc; exact ⟨_, hc'⟩
      · obtain ⟨w2, z2⟩ := I.cell y c' e
        exact ⟨w2, z2.sameBut hs hcc⟩
    · obtain ⟨e, n, ne, nf, d⟩ := I.pin p hp
      refine ⟨(hs.2 p.1 ?_).trans e, n, ne, nf, d⟩
      intro q
      rw [q, hoc] at e
      have q' : oc = p.2 := Option.some.inj e
      exact d w' (by rw [← q']; exact hocd)
theorem store_ok {M : Model} {A : Around} {E : Value → Shared → Prop} {i : Nat} {x : Str} {v : V} {u : Value} {Q : Unit → Shared → Prop} (I : Inv X pins σ H s) (hN : X.N.Nodup) (hi : X.N[i]? = some x) (hx : Loc X.env.scope x) (r : RelV v u)
    (h : ∀ s', Inv X pins (σ.set i (some v)) H s' → Q () s') (hf : X.fn x = true ∨ X.env.scope.names.lookup x = some .local := by first | exact .inl rfl | exact .inr rfl | assumption) : wpAny M A (storeName X.env x u) Q E s :=
  store_ok2 I hN hi hx r (fun s' I' _ => h s' I') hf
theorem Inv.call' {s' : Shared} {ch : List Addr} (I : Inv X pins σ H s) (ho : s'.os = s.os) (u : Un (frs X.stack) ch H H' s.heap s'.heap) (hok : HOk X.prog X.w H' s'.heap) (hg : AllBare s'.gens)
    (hch : ∀ b ∈ ch, (b ∈ X.ex ∨ X.s₀.heap.objs.size ≤ b) ∧ b ≠ X.env.locals ∧ (∀ x c, X.env.cells.lookup x = some c → c ≠ b) ∧ ∀ p ∈ X.pn ++ pins, p.1 ≠ b) : Inv X pins σ H' s' := by
  obtain ⟨h', g', d', t', o'⟩ := s'
  have e : o' = s.os := ho
  subst e
  exact I.call (g' := g') (t' := t') (d' := d') u hok hg hch
end
abbrev XK := Value → Option Addr → Hp → Prop
abbrev St := List (Option V)
abbrev VK := V → Hp → Prop
abbrev TE := St → Hp → VK → Prop
abbrev TT := St → Hp → (Bool → Hp → Prop) → Prop
abbrev TA := St → Hp → (List V → Hp → Prop) → Prop
structure Ends where
  nx : St → Hp → Prop
  rt : VK
  bk : St → Hp → Prop := fun _ _ => False
  ct : St → Hp → Prop := fun _ _ => False
abbrev TS := Ends → St → Hp → Prop
def EP (X : Cx) (pins : List (Addr × Obj)) (σ : St) (Q : VK) (u : Value) (s' : Shared) : Prop := ∃ v H', Inv X pins σ H' s' ∧ RelV v u ∧ Q v H'
def TP (X : Cx) (pins : List (Addr × Obj)) (σ : St) (Q : Bool → Hp → Prop) (b : Bool) (s' : Shared) : Prop := ∃ H', Inv X pins σ H' s' ∧ Q b H'
def AP (X : Cx) (pins : List (Addr × Obj)) (σ : St) (Q : List V → Hp → Prop) (us : List Value) (s' : Shared) : Prop := ∃ vs H', Inv X pins σ H' s' ∧ Vals vs us ∧ Q vs H'
def SP (X : Cx) (pins : List (Addr × Obj)) (D : Ends) (f : Flow) (s' : Shared) : Prop :=
  match f with
  | .next => ∃ σ' H', Inv X pins σ' H' s' ∧ D.nx σ' H'
  | .brk => ∃ σ' H', Inv X pins σ' H' s' ∧ D.bk σ' H'
  | .cont => ∃ σ' H', Inv X pins σ' H' s' ∧ D.ct σ' H'
  | .ret u => ∃ v σ' H', Inv X pins σ' H' s' ∧ RelV v u ∧ D.rt v H'
def PE (X : Cx) (e : Expr) (t : TE) : Prop :=
  ∀ (pins : List (Addr × Obj)) (s : Shared) (σ : St) (H : Hp) (Q : VK), Inv X pins σ H s → t σ H Q → wpAny (model X.prog X.w) X.A (eval e X.env) (EP X pins σ Q) X.xe s
def PT (X : Cx) (e : Expr) (t : TT) : Prop :=
  ∀ (pins : List (Addr × Obj)) (s : Shared) (σ : St) (H : Hp) (Q : Bool → Hp → Prop), Inv X pins σ H s → t σ H Q → wpAny (model X.prog X.w) X.A (isTrue e X.env (eval e X.env)) (TP X pins σ Q) X.xe s
def PW (X : Cx) (e : Expr) (t : TT) : Prop :=
  ∀ (whole : Sem Value) (pins : List (Addr × Obj)) (s : Shared) (σ : St) (H : Hp) (Q : Bool → Hp → Prop), Inv X pins σ H s → t σ H Q → wpAny (model X.prog X.w) X.A (isTrue e X.env whole) (TP X pins σ Q) X.xe s
theorem PW.pt {X : Cx} {e : Expr} {t : TT} (h : PW X e t) : PT X e t := h _
def PA (X : Cx) (es : List Expr) (t : TA) : Prop :=
  ∀ (pos : Pos) (pins : List (Addr × Obj)) (s : Shared) (σ : St) (H : Hp) (Q : List V → Hp → Prop), Inv X pins σ H s → t σ H Q → wpAny (model X.prog X.w) X.A (spliced (backTo pos (starEach es X.env))) (AP X pins σ Q) X.xe s
def PS (X : Cx) (st : Stmt) (t : TS) : Prop :=
  ∀ (pins : List (Addr × Obj)) (s : Shared) (σ : St) (H : Hp) (D : Ends), Inv X pins σ H s → t D σ H → wpAny (model X.prog X.w) X.A (exec st X.env) (SP X pins D) X.xe s
def PSs (X : Cx) (st : List Stmt) (t : TS) : Prop :=
  ∀ (pins : List (Addr × Obj)) (s : Shared) (σ : St) (H : Hp) (D : Ends), Inv X pins σ H s → t D σ H → wpAny (model X.prog X.w) X.A (execs st X.env) (SP X pins D) X.xe s
theorem thn {α : Type} {t : Sem α} {Q Q' : α → Shared → Prop} {M : Model} {A : Around} {E : Value → Shared → Prop} {s : Shared} (h : wpAny M A t Q E s) (hQ : ∀ a s, Q a s → Q' a s) : wpAny M A t Q' E s := wpAny_mono h hQ fun _ _ x => x
end L2
namespace L2
open PySem PySem.Spec PyProof.Rows
section
variable {X : Cx}
def tVar (i : Nat) : TE := fun σ H Q => ∃ v, σ[i]? = some (some v) ∧ Q v H
def tC (v : V) : TE := fun _ H Q => Q v H
theorem pe_var {i : Nat} {x : Str} {pos : Pos} (hN : X.N[i]? = some x) (hv : Vis X.env.scope x) (hd : (x == ("__debug__" : Str)) = false := by decide) (hcd : (x == ("__classdict__" : Str)) = false := by decide) : PE X (.Name x pos) (tVar i) := by
  intro pins s σ H Q I h
  obtain ⟨v, e, h⟩ := h
  obtain ⟨m, hn, hl⟩ := I.loc
  obtain ⟨u, r, l⟩ := hl i x v hN e hv
  have fin : EP X pins σ Q u s := ⟨v, H, I, r, h⟩
  rcases l with ⟨hk, hm⟩ | ⟨hk, c, hc, hcell⟩
  · exact wpAny_Name (wpAny_loadName_local I.ok.kind hk hn hm fin) hd
  · rcases hk with hk | hk
    · exact wpAny_Name (wpAny_loadName_cell I.ok.kind hk hc hcell fin) hd
    · exact wpAny_Name (wpAny_loadName_free I.ok.kind hk hc hcell fin hcd) hd
theorem pe_int {i j pos} : PE X (.Constant (.int i) j pos) (tC (.int i)) := fun _ _ _ H _ I h => wpAny_Constant_int ⟨.int i, H, I.tok _, ⟨_, rfl⟩, h⟩
theorem pe_bl {b j pos} : PE X (.Constant (.bool b) j pos) (tC (.bl b)) := fun _ _ _ H _ I h => Constant_bool ⟨.bl b, H, I, rfl, h⟩
theorem pe_non {j pos} : PE X (.Constant .none j pos) (tC .non) := fun _ _ _ H _ I h => Constant_none ⟨.non, H, I, rfl, h⟩
theorem pe_str {x j pos} : PE X (.Constant (.str x) j pos) (tC (.str x)) := fun _ _ _ H _ I h => Calls.Constant_str ⟨.str x, H, I.tok _, ⟨_, rfl⟩, h⟩
def Gl (X : Cx) (x : Str) : Prop := X.env.kindOf x = some .globalImplicit
theorem ld_glob {E : Value → Shared → Prop} {pins : List (Addr × Obj)} {s : Shared} {σ : St} {H : Hp} {x : Str} {u : Value} {pos : Pos} {Q : Value → Shared → Prop} (I : Inv X pins σ H s) (hg : Gl X x) (hm : X.mg x = some u) (h : Q u s)
    (hd : (x == ("__debug__" : Str)) = false := by decide) : wpAny (model X.prog X.w) X.A (eval (.Name x pos) X.env) Q E s :=
  Calls.Name_function_global I.ok.kind hg (Calls.loadGlobal_global (by rw [I.ok.glob]; exact I.mod.glob.keeps I.bk) hm h) hd
theorem ld_blt {E : Value → Shared → Prop} {pins : List (Addr × Obj)} {s : Shared} {σ : St} {H : Hp} {x : Str} {u : Value} {pos : Pos} {Q : Value → Shared → Prop} (I : Inv X pins σ H s) (hg : Gl X x) (hm : X.mg x = none) (hv : bootBuiltins x = some u) (h : Q u s)
    (hn : x ≠ "__name__" := by decide) (hd : (x == ("__debug__" : Str)) = false := by decide) : wpAny (model X.prog X.w) X.A (eval (.Name x pos) X.env) Q E s := by
  obtain ⟨mb, h1, h2⟩ := I.mod.blt
  exact Calls.Name_function_global I.ok.kind hg (Calls.loadGlobal_builtin (by rw [I.ok.glob]; exact I.mod.glob.keeps I.bk) hm (by rw [I.ok.blt]; exact h1.keeps I.bk) ((h2 x hn).trans hv) h) hd
theorem pe_bltn {x : Str} {v : V} {u : Value} {pos : Pos} (hg : Gl X x) (hm : X.mg x = none) (hv : bootBuiltins x = some u) (r : RelV v u) (hn : x ≠ "__name__" := by decide) (hd : (x == ("__debug__" : Str)) = false := by decide) : PE X (.Name x pos) (tC v) :=
  fun _ _ _ H _ I h => ld_blt I hg hm hv ⟨v, H, I, r, h⟩ hn hd
variable {a b : Expr} {ta tb : TE} {pos : Pos}
def tB (t : TE) : TT := fun σ H Q => t σ H fun x H1 => ∃ c, x = .bl c ∧ Q c H1
theorem pt_val {e : Expr} {t : TE} (h : PE X e t) (he : ∀ whole, isTrue e X.env whole = (do let v ← whole; standAt e.pos; holding [v] (truthy v)) := by intro _; rfl) : PT X e (tB t) := by
  intro pins s σ H Q I hw
  refine isTrue_plain (thn (h pins s σ H _ I hw) fun v s1 ⟨x, H1, I1, r1, q1⟩ => ?_) (he _)
  obtain ⟨d, rfl, q⟩ := q1
  cases r1
  exact wpAny_truthy_bool ⟨H1, I1, q⟩
variable {tA tB' : TT} {rest : List Expr}
def tAnd (t u : TT) : TT := fun σ H Q => t σ H fun c H1 => if c = true then u σ H1 Q else Q false H1
def tOr (t u : TT) : TT := fun σ H Q => t σ H fun c H1 => if c = true then Q true H1 else u σ H1 Q
def tNot (t : TT) : TT := fun σ H Q => t σ H fun c H1 => Q (!c) H1
theorem pw_and1 (ha : PT X a tA) : PW X (.BoolOp .And [a] pos) tA := by
  intro wh pins s σ H Q I h
  refine isTrue_and (thn (ha pins s σ H Q I h) fun c s1 e => ?_)
  cases c with
  | true => exact isTrue_and_nil e
  | false => exact e
theorem pw_or1 (ha : PT X a tA) : PW X (.BoolOp .Or [a] pos) tA := by
  intro wh pins s σ H Q I h
  refine isTrue_or (thn (ha pins s σ H Q I h) fun c s1 e => ?_)
  cases c with
  | false => exact isTrue_or_nil e
  | true => exact e
theorem pw_and (ha : PT X a tA) (hb : PW X (.BoolOp .And (b :: rest) pos) tB') : PW X (.BoolOp .And (a :: b :: rest) pos) (tAnd tA tB') := by
  intro wh pins s σ H Q I h
  refine isTrue_and (thn (ha pins s σ H _ I h) fun c s1 ⟨H1, I1, q1⟩ => ?_)
  cases c with
  | true => exact hb wh pins s1 σ H1 Q I1 q1
  | false => exact ⟨H1, I1, q1⟩
theorem pw_or (ha : PT X a tA) (hb : PW X (.BoolOp .Or (b :: rest) pos) tB') : PW X (.BoolOp .Or (a :: b :: rest) pos) (tOr tA tB') := by
  intro wh pins s σ H Q I h
  refine isTrue_or (thn (ha pins s σ H _ I h) fun c s1 ⟨H1, I1, q1⟩ => ?_)
  cases c with
  | true => exact ⟨H1, I1, q1⟩
  | false => exact hb wh pins s1 σ H1 Q I1 q1
theorem pt_not (ha : PT X a tA) : PT X (.UnaryOp .Not a pos) (tNot tA) := by
  intro pins s σ H Q I h
  exact isTrue_not (ha pins s σ H (fun c H1 => Q (!c) H1) I h)
def tAndV (ta tb : TE) : TE := fun σ H Q => ta σ H fun x H1 => ∃ c, x = .bl c ∧ if c = true then tb σ H1 Q else Q (.bl false) H1
def tOrV (ta tb : TE) : TE := fun σ H Q => ta σ H fun x H1 => ∃ c, x = .bl c ∧ if c = true then Q (.bl true) H1 else tb σ H1 Q
def tNotV (ta : TE) : TE := fun σ H Q => ta σ H fun x H1 => ∃ c, x = .bl c ∧ Q (.bl (!c)) H1
theorem pe_one {op} {t : TE} (h : PE X a t) : PE X (.BoolOp op [a] pos) t := fun pins s σ H Q I hw => BoolOp_one (h pins s σ H Q I hw)
theorem pe_and (ha : PE X a ta) (hb : PE X (.BoolOp .And (b :: rest) pos) tb) : PE X (.BoolOp .And (a :: b :: rest) pos) (tAndV ta tb) := by
  intro pins s σ H Q I h
  refine BoolOp_and (thn (ha pins s σ H _ I h) fun v s1 ⟨x, H1, I1, r1, q1⟩ => ?_)
  obtain ⟨c, rfl, q1⟩ := q1
  cases r1
  refine wpAny_truthy_bool ?_
  cases c with
  | true => exact hb pins s1 σ H1 Q I1 q1
  | false => exact ⟨.bl false, H1, I1, rfl, q1⟩
theorem pe_or (ha : PE X a ta) (hb : PE X (.BoolOp .Or (b :: rest) pos) tb) : PE X (.BoolOp .Or (a :: b :: rest) pos) (tOrV ta tb) := by
  intro pins s σ H Q I h
  refine BoolOp_or (thn (ha pins s σ H _ I h) fun v s1 ⟨x, H1, I1, r1, q1⟩ => ?_)
  obtain ⟨c, rfl, q1⟩ := q1
  cases r1
  refine wpAny_truthy_bool ?_
  cases c with
  | false => exact hb pins s1 σ H1 Q I1 q1
  | true => exact ⟨.bl true, H1, I1, rfl, q1⟩
theorem pe_not (ha : PE X a ta) : PE X (.UnaryOp .Not a pos) (tNotV ta) := by
  intro pins s σ H Q I h
  refine UnaryOp_ (thn (ha pins s σ H _ I h) fun v s1 ⟨x, H1, I1, r1, q1⟩ => ?_)
  obtain ⟨c, rfl, q1⟩ := q1
  cases r1
  exact not_of (wpAny_truthy_bool ⟨.bl (!c), H1, I1, rfl, q1⟩)
def tIf (t : TT) (ta tb : TE) : TE := fun σ H Q => t σ H fun c H1 => if c = true then ta σ H1 Q else tb σ H1 Q
theorem pe_ifExp {c : Expr} (hc : PT X c tA) (ha : PE X a ta) (hb : PE X b tb) : PE X (.IfExp c a b pos) (tIf tA ta tb) := by
  intro pins s σ H Q I h
  refine wpAny_IfExp (thn (hc pins s σ H _ I h) fun d s1 ⟨H1, I1, q1⟩ => ?_)
  cases d with
  | true => exact ha pins s1 σ H1 Q I1 q1
  | false => exact hb pins s1 σ H1 Q I1 q1
end
end L2
namespace L2
open PySem PySem.Spec PyProof.Rows
def SqL (K : PySem.W.Frag) (H : Hp) (a : Addr) (xs : List V) : Prop :=
  Rd H a (.lst xs) ∨
    ∃ (o : Obj) (its : Array Value) (n : Nat), K.lookup a = some o ∧ o.cls = .type "list" ∧ o.dict = none ∧ o.data = .seq its n ∧ its.size ≤ sizeLine ∧ Vals xs its.toList
def SqT (K : PySem.W.Frag) (H : Hp) (a : Addr) (xs : List V) : Prop :=
  Rd H a (.tup xs) ∨
    ∃ (o : Obj) (its : Array Value) (n : Nat), K.lookup a = some o ∧ o.cls = .type "tuple" ∧ o.data = .seq its n ∧ its.size ≤ sizeLine ∧ Vals xs its.toList
def absV : Value → Option V
  | .none => some .non
  | .bool b => some (.bl b)
  | .int i _ => some (.int i)
  | .str x _ => some (.str x)
  | .bytes b _ => some (.byt b)
  | .float b _ => some (.flt b)
  | .ref a => some (.ref a)
  | .type n => some (.ty n)
  | _ => none
theorem RelV.abs {x : V} {u : Value} (r : RelV x u) : absV u = some x := by
  cases x with
  | non => cases r; rfl
  | bl _ => cases r; rfl
  | int _ => obtain ⟨t, rfl⟩ := r; rfl
  | str _ => obtain ⟨t, rfl⟩ := r; rfl
  | byt _ => obtain ⟨t, rfl⟩ := r; rfl
  | flt _ => obtain ⟨t, rfl⟩ := r; rfl
  | ref _ => cases r; rfl
  | ty _ => cases r; rfl
theorem RelV.inj {x y : V} {u : Value} (r : RelV x u) (q : RelV y u) : x = y := Option.some.inj (r.abs.symm.trans q.abs)
theorem Vals.inj : ∀ {xs ys : List V} {us : List Value}, Vals xs us → Vals ys us → xs = ys
  | _, _, _, .nil, .nil => rfl
  | _, _, _, .cons r t, .cons r' t' => by rw [r.inj r', Vals.inj t t']
section
variable {X : Cx} {pins : List (Addr × Obj)} {σ : St} {H : Hp} {s : Shared} {a : Addr} {xs ys : List V}
theorem SqL.of {K : PySem.W.Frag} (h : H a = some (.lst xs)) : SqL K H a xs := .inl (.inl h)
theorem SqT.of {K : PySem.W.Frag} (h : H a = some (.tup xs)) : SqT K H a xs := .inl (.inl h)
theorem Inv.list (I : Inv X pins σ H s) (h : SqL X.K H a xs) : ∃ its : List Value, Vals xs its ∧ PlainL s.heap a its.toArray ∧ xs.length ≤ sizeLine := by
  rcases h with h | ⟨o, its, n, hk, hc, hd, hs, hz, r⟩
  · obtain ⟨z, its, n, r, e⟩ := h.ok I.hok
    exact ⟨its, r, ⟨_, n, e, rfl, rfl, rfl⟩, z⟩
  · refine ⟨its.toList, r, ⟨o, n, I.kIn a o hk, hc, hd, by simpa using hs⟩, ?_⟩
    have e := r.length
    simp only [Array.length_toList] at e
    omega
theorem Inv.tuple (I : Inv X pins σ H s) (h : SqT X.K H a xs) : ∃ its : List Value, Vals xs its ∧ IsTup s.heap a its.toArray ∧ xs.length ≤ sizeLine := by
  rcases h with h | ⟨o, its, n, hk, hc, hs, hz, r⟩
  · obtain ⟨z, its, r, p⟩ := h.ok I.hok
    exact ⟨its, r, p, z⟩
  · refine ⟨its.toList, r, ⟨o, I.kIn a o hk, hc, n, by simpa using hs⟩, ?_⟩
    have e := r.length
    simp only [Array.length_toList] at e
    omega
theorem Inv.list_inj (I : Inv X pins σ H s) (h : SqL X.K H a xs) (h' : SqL X.K H a ys) : xs = ys := by
  obtain ⟨its, r, ⟨o, n, e, _, _, d⟩, _⟩ := I.list h
  obtain ⟨its', r', ⟨o', n', e', _, _, d'⟩, _⟩ := I.list h'
  rw [e] at e'; cases e'
  rw [d] at d'
  injection d' with d1 _
  have : its = its' := by simpa using congrArg Array.toList d1
  subst this
  exact r.inj r'
theorem Inv.tuple_inj (I : Inv X pins σ H s) (h : SqT X.K H a xs) (h' : SqT X.K H a ys) : xs = ys := by
  obtain ⟨its, r, ⟨o, e, _, n, d⟩, _⟩ := I.tuple h
  obtain ⟨its', r', ⟨o', e', _, n', d'⟩, _⟩ := I.tuple h'
  rw [e] at e'; cases e'
  rw [d] at d'
  injection d' with d1 _
  have : its = its' := by simpa using congrArg Array.toList d1
  subst this
  exact r.inj r'
end
abbrev Cx.wish (X : Cx) (E : Value → Shared → Prop) : Cx := { X with xe := E }
abbrev Cx.nox (X : Cx) : Cx := X.wish fun _ _ => False
theorem Cx.Ok.wish {X : Cx} (ok : X.Ok) (E : Value → Shared → Prop) : (X.wish E).Ok :=
  ⟨ok.mod, ok.kind, ok.glob, ok.blt, ok.above, ok.inj, ok.has, ok.cab, ok.hd, ok.frames, ok.stk, ok.exf, ok.bs, ok.bsz, ok.noex, ok.exfs, ok.funs, ok.frf⟩
theorem Cx.Ok.unwish {X : Cx} {E : Value → Shared → Prop} (ok : (X.wish E).Ok) : X.Ok :=
  ⟨ok.mod, ok.kind, ok.glob, ok.blt, ok.above, ok.inj, ok.has, ok.cab, ok.hd, ok.frames, ok.stk, ok.exf, ok.bs, ok.bsz, ok.noex, ok.exfs, ok.funs, ok.frf⟩
section
variable {X : Cx} {pins : List (Addr × Obj)} {σ : St} {H : Hp} {s : Shared} {E : Value → Shared → Prop}
theorem Inv.wish (I : Inv X pins σ H s) (E : Value → Shared → Prop) : Inv (X.wish E) pins σ H s := ⟨I.ok.wish E, I.os, I.bare, I.base, I.loc, I.cell, I.free, I.freeC, I.pin, I.hok, I.len⟩
theorem Inv.unwish (I : Inv (X.wish E) pins σ H s) : Inv X pins σ H s := ⟨I.ok.unwish, I.os, I.bare, I.base, I.loc, I.cell, I.free, I.freeC, I.pin, I.hok, I.len⟩
theorem SP.unwish {D : Ends} {f : Flow} {s' : Shared} (h : SP (X.wish E) pins D f s') : SP X pins D f s' := by
  cases f with
  | next => obtain ⟨σ', H', I, q⟩ := h; exact ⟨σ', H', I.unwish, q⟩
  | brk => obtain ⟨σ', H', I, q⟩ := h; exact ⟨σ', H', I.unwish, q⟩
  | cont => obtain ⟨σ', H', I, q⟩ := h; exact ⟨σ', H', I.unwish, q⟩
  | ret u => obtain ⟨v, σ', H', I, r, q⟩ := h; exact ⟨v, σ', H', I.unwish, r, q⟩
theorem PE.nox {e : Expr} {t : TE} (h : PE X.nox e t) : PE X e t := fun pins s σ H Q I hw =>
  wpAny_mono (h pins s σ H Q (I.wish _) hw) (fun _ _ ⟨v, H', I', r, q⟩ => ⟨v, H', I'.unwish, r, q⟩) fun _ _ z => False.elim z
theorem PT.nox {e : Expr} {t : TT} (h : PT X.nox e t) : PT X e t := fun pins s σ H Q I hw =>
  wpAny_mono (h pins s σ H Q (I.wish _) hw) (fun _ _ ⟨H', I', q⟩ => ⟨H', I'.unwish, q⟩) fun _ _ z => False.elim z
theorem PSs.nox {st : List Stmt} {t : TS} (h : PSs X.nox st t) : PSs X st t := fun pins s σ H D I hw =>
  wpAny_mono (h pins s σ H D (I.wish _) hw) (fun _ _ q => q.unwish) fun _ _ z => False.elim z
end
section
variable {X : Cx} {st : Stmt} {rest : List Stmt} {t u : TS} {e : Expr} {te : TE} {pos : Pos}
def tNext : TS := fun D σ H => D.nx σ H
def tSeq (t u : TS) : TS := fun D σ H => t { D with nx := u D } σ H
theorem pss_nil : PSs X [] tNext := fun _ _ σ H _ I h => wpAny_execs_nil ⟨σ, H, I, h⟩
theorem pss_cons (h1 : PS X st t) (h2 : PSs X rest u) : PSs X (st :: rest) (tSeq t u) := by
  intro pins s σ H D I h
  refine wpAny_execs_cons (thn (h1 pins s σ H { D with nx := u D } I h) fun f s1 q => ?_)
  cases f with
  | next =>
    obtain ⟨σ', H', I', q⟩ := q
    exact h2 pins s1 σ' H' D I' q
  | ret v => exact q
  | brk => exact q
  | cont => exact q
theorem pss_one (h1 : PS X st t) : PSs X [st] t := by
  intro pins s σ H D I h
  refine wpAny_execs_cons (thn (h1 pins s σ H D I h) fun f s1 q => ?_)
  cases f with
  | next => exact wpAny_execs_nil q
  | ret v => exact q
  | brk => exact q
  | cont => exact q
def tBreak : TS := fun D σ H => D.bk σ H
def tCont : TS := fun D σ H => D.ct σ H
theorem ps_pass : PS X (.Pass pos) tNext := fun _ _ σ H _ I h => wpAny_Pass ⟨σ, H, I, h⟩
theorem ps_break : PS X (.Break pos) tBreak := fun _ _ σ H _ I h => wpAny_Break ⟨σ, H, I, h⟩
theorem ps_continue : PS X (.Continue pos) tCont := fun _ _ σ H _ I h => wpAny_Continue ⟨σ, H, I, h⟩
theorem Inv.quiet {pins : List (Addr × Obj)} {σ : St} {H : Hp} {s : Shared} (I : Inv X pins σ H s) : interactive X.env = false := by simp [interactive, I.ok.kind]
def tDrop (te : TE) : TS := fun D σ H => te σ H fun _ H1 => D.nx σ H1
theorem ps_expr (he : PE X e te) (hs : swapsWith e none pos.line X.env = pure false := by rfl) : PS X (.Expr e pos) (tDrop te) := by
  intro pins s σ H D I h
  exact wpAny_Expr_any (thn (he pins s σ H _ I h) fun v s1 ⟨x, H1, I1, r1, q1⟩ => ⟨σ, H1, I1, q1⟩) I.quiet hs
def tRet (te : TE) : TS := fun D σ H => te σ H D.rt
theorem ps_ret (he : PE X e te) : PS X (.Return (some e) pos) (tRet te) := by
  intro pins s σ H D I h
  exact wpAny_Return_some (thn (he pins s σ H _ I h) fun v s1 ⟨x, H1, I1, r1, q1⟩ => ⟨x, σ, H1, I1, r1, q1⟩)
def tRetN : TS := fun D _ H => D.rt .non H
theorem ps_retN : PS X (.Return none pos) tRetN := fun _ _ σ H _ I h => wpAny_Return_none ⟨.non, σ, H, I, rfl, h⟩
def tIfS (c : TT) (t u : TS) : TS := fun D σ H => c σ H fun b H1 => if b = true then t D σ H1 else u D σ H1
theorem ps_if {c : Expr} {a b : List Stmt} {tc : TT} (hc : PT X c tc) (ha : PSs X a t) (hb : PSs X b u) : PS X (.If c a b pos) (tIfS tc t u) := by
  intro pins s σ H D I h
  refine wpAny_If (thn (hc pins s σ H _ I h) fun d s1 ⟨H1, I1, q1⟩ => ?_)
  cases d with
  | true => exact ha pins s1 σ H1 D I1 q1
  | false => exact hb pins s1 σ H1 D I1 q1
end
abbrev TG := V → St → Hp → (St → Hp → Prop) → Prop
abbrev TGs := List V → St → Hp → (St → Hp → Prop) → Prop
def PG (X : Cx) (target : Expr) (t : TG) : Prop :=
  ∀ (pins : List (Addr × Obj)) (s : Shared) (σ : St) (H : Hp) (v : V) (u : Value) (Q : St → Hp → Prop), Inv X pins σ H s → RelV v u → t v σ H Q →
    wpAny (model X.prog X.w) X.A (assign target X.env u) (fun _ s' => ∃ σ' H', Inv X pins σ' H' s' ∧ Q σ' H') X.xe s
def PGs (X : Cx) (ts : List Expr) (t : TGs) : Prop :=
  ∀ (pins : List (Addr × Obj)) (s : Shared) (σ : St) (H : Hp) (vs : List V) (us : List Value) (Q : St → Hp → Prop), Inv X pins σ H s → Vals vs us → t vs σ H Q →
    wpAny (model X.prog X.w) X.A (assignInOrder ((assignEach ts X.env).map (·.2)) us) (fun _ s' => ∃ σ' H', Inv X pins σ' H' s' ∧ Q σ' H') X.xe s
abbrev TSet := V → V → V → Hp → (Hp → Prop) → Prop
def PSet (X : Cx) (t : TSet) : Prop :=
  ∀ (pins : List (Addr × Obj)) (s : Shared) (σ : St) (H : Hp) (o i v : V) (ov iv u : Value) (Q : Hp → Prop), Inv X pins σ H s → RelV o ov → RelV i iv → RelV v u → t o i v H Q →
    wpAny (model X.prog X.w) X.A (setItem ov iv u) (fun _ s' => ∃ H', Inv X pins σ H' s' ∧ Q H') X.xe s
section
variable {X : Cx} {pos : Pos}
def gName (i : Nat) : TG := fun v σ H Q => Q (σ.set i (some v)) H
theorem pg_name {i : Nat} {x : Str} (hN : X.N.Nodup) (hi : X.N[i]? = some x) (hx : Loc X.env.scope x) (hf : X.fn x = true ∨ X.env.scope.names.lookup x = some .local := by first | exact .inl rfl | exact .inr rfl | assumption) : PG X (.Name x pos) (gName i) := by
  intro pins s σ H v u Q I r h
  exact wpAny_assign_Name (store_ok I hN hi hx r (fun s' I' => ⟨_, H, I', h⟩) hf)
def gNil : TGs := fun vs σ H Q => vs = [] ∧ Q σ H
def gCons (t : TG) (u : TGs) : TGs := fun vs σ H Q => ∃ v r, vs = v :: r ∧ t v σ H fun σ' H' => u r σ' H' Q
theorem pgs_nil : PGs X [] gNil := by
  intro pins s σ H vs us Q I r h
  obtain ⟨e, h⟩ := h
  subst e
  cases r
  exact assignInOrder_nil ⟨σ, H, I, h⟩
theorem pgs_cons {e : Expr} {es : List Expr} {t : TG} {u : TGs} (h1 : PG X e t) (h2 : PGs X es u)
    (hs : (assignEach (e :: es) X.env).map (·.2) = assign e X.env :: (assignEach es X.env).map (·.2) := by rfl) : PGs X (e :: es) (gCons t u) := by
  intro pins s σ H vs us Q I r h
  obtain ⟨v, vr, e1, h⟩ := h
  subst e1
  cases r with
  | cons r rr =>
    rw [hs]
    refine assignInOrder_cons (thn (h1 pins s σ H _ _ _ I r h) fun _ s1 ⟨σ1, H1, I1, q1⟩ => ?_)
    exact h2 pins s1 σ1 H1 _ _ Q I1 rr q1
def gTup (K : PySem.W.Frag) (n : Nat) (t : TGs) : TG := fun v σ H Q => ∃ a xs, v = .ref a ∧ SqT K H a xs ∧ xs.length = n ∧ t xs σ H Q
theorem pg_tup {es : List Expr} {k : Nat} {t : TGs} {n : Nat} (hc : X.calm = true) (h : PGs X es t)
    (hn : (assignEach es X.env).length = n := by rfl) (hst : (assignEach es X.env).findIdx? (·.1) = none := by rfl) : PG X (.Tuple es k pos) (gTup X.K n t) := by
  intro pins s σ H v u Q I r hw
  obtain ⟨a, xs, e1, hq, hl, hw⟩ := hw
  subst e1
  cases r
  obtain ⟨its, rv, ht, hz⟩ := I.tuple hq
  refine assign_Tuple_tuple (I.ok.hd hc) ht (by simp [hn, ← hl, rv.length]) hst fun h' hx => ?_
  have I1 : Inv X pins σ H { s with heap := h' } := I.kept (t' := s.toks) fun b o e => hx b o (Nat.ne_of_lt (Heap.lt_size e)) e
  exact h pins _ σ H xs _ Q I1 (by simpa using rv) hw
def gSub (to ti : TE) (t : TSet) : TG := fun v σ H Q => to σ H fun o H1 => ti σ H1 fun i H2 => t o i v H2 fun H3 => Q σ H3
theorem pg_sub {o i : Expr} {to ti : TE} {t : TSet} (ho : PE X o to) (hi : PE X i ti) (hs : PSet X t)
    (ha : ∀ v, assign (.Subscript o i pos) X.env v = (do
      let ov ← holding [v] (eval o X.env)
      let iv ← holding [v, ov] (eval i X.env)
      standAt pos
      holding [v, ov, iv] (setItem ov iv v)
      release [v, ov, iv] []) := by intro _; rfl) : PG X (.Subscript o i pos) (gSub to ti t) := by
  intro pins s σ H v u Q I r h
  rw [ha]
  refine wpAny_bind (wpAny_holding (thn (ho pins s σ H _ I h) fun ov s1 ⟨x, H1, I1, r1, q1⟩ => ?_))
  refine wpAny_bind (wpAny_holding (thn (hi pins s1 σ H1 _ I1 q1) fun iv s2 ⟨y, H2, I2, r2, q2⟩ => ?_))
  refine wpAny_bind (wpAny_standAt (wpAny_bind (wpAny_holding (thn (hs pins s2 σ H2 x y v ov iv u _ I2 r1 r2 r q2) fun _ s3 ⟨H3, I3, q3⟩ => ?_))))
  exact wpAny_release ⟨σ, H3, I3, q3⟩
def tAsg (te : TE) (g : TG) : TS := fun D σ H => te σ H fun x H1 => g x σ H1 D.nx
theorem ps_asg {tg e : Expr} {te : TE} {g : TG} (he : PE X e te) (hg : PG X tg g) (hs : swapsWithSole [tg] e pos.line X.env = pure false := by rfl) (hw : swappedStores [tg] e X.env = pure none := by rfl)
    (h1 : (assignEach [tg] X.env).map (·.2) = [assign tg X.env] := by rfl) : PS X (.Assign [tg] e pos) (tAsg te g) := by
  intro pins s σ H D I h
  refine wpAny_Assign_stores (thn (he pins s σ H _ I h) fun v s1 ⟨x, H1, I1, r1, q1⟩ => ?_) hs hw
  rw [h1]
  exact thn (hg pins s1 σ H1 x v _ I1 r1 q1) fun _ s2 q => q
theorem ps_set {i : Nat} {x : Str} {e : Expr} {te : TE} {pos' : Pos} (hN : X.N.Nodup) (hi : X.N[i]? = some x) (hx : Loc X.env.scope x) (he : PE X e te) (hs : swapsWith e (some (.Name x pos')) pos.line X.env = pure false := by rfl) (hf : X.fn x = true ∨ X.env.scope.names.lookup x = some .local := by first | exact .inl rfl | exact .inr rfl | assumption) :
    PS X (.Assign [.Name x pos'] e pos) (tAsg te (gName i)) := by
  intro pins s σ H D I h
  refine wpAny_Assign_Name (thn (he pins s σ H _ I h) fun v s1 ⟨y, H1, I1, r1, q1⟩ => ?_) hs
  exact store_ok I1 hN hi hx r1 (fun s2 I2 => ⟨_, H1, I2, q1⟩) hf
def tPar (i j : Nat) (ta : TA) : TS := fun D σ H => ta σ H fun vs H1 => ∃ v w, vs = [v, w] ∧ D.nx ((σ.set i (some v)).set j (some w)) H1
theorem ps_par {i j : Nat} {x y : Str} {a b : Expr} {ta : TA} {px py pt : Pos} {kt k2 pt2} (hc : X.calm = true) (hN : X.N.Nodup) (hi : X.N[i]? = some x) (hj : X.N[j]? = some y) (hij : i ≠ j)
    (hx : X.env.scope.names.lookup x = some .local) (hy : X.env.scope.names.lookup y = some .local) (ha : PA X [a, b] ta)
    (hw : swappedStores [.Tuple [.Name x px, .Name y py] kt pt] (.Tuple [a, b] k2 pt2) X.env = pure (some [x, y]))
    (hs : swapsWithSole [.Tuple [.Name x px, .Name y py] kt pt] (.Tuple [a, b] k2 pt2) pos.line X.env = pure false := by rfl) :
    PS X (.Assign [.Tuple [.Name x px, .Name y py] kt pt] (.Tuple [a, b] k2 pt2) pos) (tPar i j ta) := by
  intro pins s σ H D I h
  rw [exec_Assign_arm]
  refine wpAny_bind (wpAny_standAt ?_)
  rw [hs]
  refine wpAny_bind (wpAny_pure ?_)
  rw [if_neg (by decide)]
  refine wpAny_bind (Tuple_ (thn (ha _ pins s σ H _ I h) fun us s1 ⟨vs, H1, I1, r1, q1⟩ => ?_))
  obtain ⟨v, w, e1, q1⟩ := q1
  subst e1
  obtain ⟨u1, u2, rfl, rv, rw'⟩ : ∃ u1 u2, us = [u1, u2] ∧ RelV v u1 ∧ RelV w u2 := by
    cases r1 with
    | cons p q =>
      cases q with
      | cons p' q' =>
        cases q'
        exact ⟨_, _, rfl, p, p'⟩
  refine wpAny_newObj_type ?_ (by show 2 ≤ sizeLine; decide)
  have I2 : Inv X pins σ H1 { s1 with heap := s1.heap.push { cls := .type "tuple", data := .seq [u1, u2].toArray } } := I1.kept (t' := s1.toks) fun b o e => Heap.get?_push_of_some _ e
  rw [hw]
  refine wpAny_bind (wpAny_pure ?_)
  show wpAny (model X.prog X.w) X.A (do rule "assign.swapped-stores"; let items ← unpackItems (.ref s1.heap.objs.size) 2 none; assignInOrder [fun v => bindName X.env y v, fun v => bindName X.env x v] items.reverse; pure Flow.next) _ _ _
  refine wpAny_bind (wpAny_rule (wpAny_bind (unpackItems_tuple (items := #[u1, u2]) (I.ok.hd hc) (IsTup.new s1.heap _) fun h' hx' => ?_)))
  have I3 := I2.kept (h' := h') (t' := s1.toks) fun b o e => hx' b o (Nat.ne_of_lt (Heap.lt_size e)) e
  show wpAny _ _ (assignInOrder [fun v => bindName X.env y v, fun v => bindName X.env x v] [u2, u1] >>= fun _ => pure Flow.next) _ _ _
  refine wpAny_bind (assignInOrder_cons (wpAny_bindName (store_ok I3 hN hj (.inl hy) rw' (fun s2 I4 => ?_) (.inr hy))))
  refine assignInOrder_cons (wpAny_bindName (store_ok I4 hN hi (.inl hx) rv (fun s3 I5 => assignInOrder_nil (wpAny_pure ?_)) (.inr hx)))
  rw [List.set_comm _ _ (Ne.symm hij)] at I5
  exact ⟨_, H1, I5, q1⟩
end
section
variable {X : Cx} {pos : Pos}
def tWhile (c : TT) (tb : TS) : TS := fun D σ H => ∃ W : Nat → St → Hp → Prop, (∃ m, W m σ H) ∧ ∀ m σ H, W m σ H →
  c σ H fun b H1 => if b = true then ∃ N : St → Hp → Prop, (∀ σ' H', N σ' H' → ∃ m', m' < m ∧ W m' σ' H') ∧ tb { D with nx := N, ct := N, bk := D.nx } σ H1 else D.nx σ H1
theorem ps_while {c : Expr} {body : List Stmt} {tc : TT} {tb : TS} (hp : PassesOwn (model X.prog X.w) X.A X.env X.xe) (hc : PT X c tc) (hb : PSs X body tb) : PS X (.While c body [] pos) (tWhile tc tb) := by
  intro pins s σ H D I h
  obtain ⟨W, ⟨m0, w0⟩, turn⟩ := h
  refine wpAny_While (codeAny_whileLoop (fun n s' => ∃ σ' H', Inv X pins σ' H' s' ∧ W n σ' H') ?_ m0 ⟨σ, H, I, w0⟩)
  rintro n s1 ⟨σ1, H1, I1, w1⟩
  refine wpAny_passesOwn hp (thn (hc pins s1 σ1 H1 _ I1 (turn n σ1 H1 w1)) fun b s2 ⟨H2, I2, q2⟩ => ?_)
  cases b with
  | true =>
    obtain ⟨N, hN, q2⟩ := q2
    rw [if_pos rfl]
    refine wpAny_passesOwn hp (thn (hb pins s2 σ1 H2 _ I2 q2) fun f s3 q3 => ?_)
    cases f with
    | next =>
      obtain ⟨σ3, H3, I3, n3⟩ := q3
      obtain ⟨m', hm, w3⟩ := hN σ3 H3 n3
      exact ⟨m', hm, σ3, H3, I3, w3⟩
    | cont =>
      obtain ⟨σ3, H3, I3, n3⟩ := q3
      obtain ⟨m', hm, w3⟩ := hN σ3 H3 n3
      exact ⟨m', hm, σ3, H3, I3, w3⟩
    | brk => exact q3
    | ret v => exact q3
  | false =>
    rw [if_neg Bool.false_ne_true]
    exact wpAny_execs_nil ⟨σ1, H2, I2, q2⟩
end
structure It where
  go : Nat → Hp → Prop
  yld : Nat → Hp → V → Hp → Prop
  stop : Nat → Hp → Prop
def FpOk (X : Cx) (pins : List (Addr × Obj)) (H : Hp) (b : Addr) : Prop :=
  H b = none ∧ b ≠ X.env.locals ∧ b ∉ X.fs ∧ (b ∈ X.ex ∨ X.s₀.heap.objs.size ≤ b) ∧ (∀ x c, X.env.cells.lookup x = some c → c ≠ b) ∧ ∀ p ∈ X.pn ++ pins, p.1 ≠ b
theorem Inv.fpOk {X : Cx} {pins : List (Addr × Obj)} {σ : St} {H H' : Hp} {s : Shared} {b : Addr} (I : Inv X pins σ H s) (hb : s.heap.objs.size ≤ b) (hn : H' b = none) : FpOk X pins H' b := by
  refine ⟨hn, Nat.ne_of_gt (Nat.lt_of_lt_of_le I.lt hb), I.nofs hb, .inr (Nat.le_trans I.sz hb), fun x c e z => ?_, fun p hp z => ?_⟩
  · obtain ⟨v, q⟩ := I.cell x c e
    exact absurd (Nat.lt_of_lt_of_le q.lt (by rw [z]; exact hb)) (Nat.lt_irrefl _)
  · exact absurd (Nat.lt_of_lt_of_le (Heap.lt_size (I.pin p hp).1) (by rw [z]; exact hb)) (Nat.lt_irrefl _)
structure Turn (P : Program) (w : World) (K : PySem.W.Frag) (tg : Expr) (J : It) (fp : List Addr) (it : Addr) (tn : Nat → Heap → Prop) : Prop where
  mem : it ∈ fp
  obj : ∀ i h, tn i h → ∀ b ∈ fp, ∃ o, h.get? b = some o ∧ ∀ v, o.data ≠ .cell v
  keep : ∀ i h h', tn i h → (∀ b ∈ fp, ∀ o, h.get? b = some o → h'.get? b = some o) → tn i h'
  item : ∀ (X : Cx), X.prog = P → X.w = w → X.K = K → X.calm = true → ∀ (i : Nat) (pins : List (Addr × Obj)) (s : Shared) (σ : St) (H : Hp) (E : Value → Shared → Prop), Inv X pins σ H s → (∀ b ∈ fp, FpOk X pins H b) → tn i s.heap → J.go i H →
    wpAny (model P w) X.A (pyNext (.ref it)) (fun r s1 => ∃ u, r = some u ∧
      wpAny (model P w) X.A (letOwnedTupleGo tg (.ref it) u) (fun _ s2 => ∃ x H', Inv X pins σ H' s2 ∧ RelV x u ∧ J.yld i H x H' ∧ tn (i + 1) s2.heap ∧ ∀ b ∈ fp, H' b = none) E s1) E s
  done : ∀ (X : Cx), X.prog = P → X.w = w → X.K = K → X.calm = true → ∀ (i : Nat) (pins : List (Addr × Obj)) (s : Shared) (σ : St) (H : Hp) (E : Value → Shared → Prop), Inv X pins σ H s → (∀ b ∈ fp, FpOk X pins H b) → tn i s.heap → J.stop i H →
    wpAny (model P w) X.A (pyNext (.ref it)) (fun r s1 => r = none ∧ Inv X pins σ H s1) E s
  self : ∀ (A : Around) (i : Nat) (s : Shared) (Q : Value → Shared → Prop) (E : Value → Shared → Prop), tn i s.heap → Q (.ref it) s → wpAny (model P w) A (pyIter (.ref it)) Q E s
abbrev TI := St → Hp → (It → Hp → Prop) → Prop
def PIE (X : Cx) (pins : List (Addr × Obj)) (σ : St) (tg : Expr) (R : It → Hp → Prop) (itv : Value) (s2 : Shared) : Prop :=
  ∃ (it : Addr) (fp : List Addr) (tn : Nat → Heap → Prop) (J : It) (H' : Hp), itv = .ref it ∧ Inv X pins σ H' s2 ∧ Turn X.prog X.w X.K tg J fp it tn ∧ tn 0 s2.heap ∧ (∀ b ∈ fp, FpOk X pins H' b) ∧ R J H'
def PI (X : Cx) (tg iter : Expr) (wi : TI) : Prop :=
  ∀ (pins : List (Addr × Obj)) (s : Shared) (σ : St) (H : Hp) (R : It → Hp → Prop), Inv X pins σ H s → wi σ H R →
    wpAny (model X.prog X.w) X.A (eval iter X.env) (fun v s1 => wpAny (model X.prog X.w) X.A (pyIter v) (PIE X pins σ tg R) X.xe s1) X.xe s
theorem go_of {M : Model} {A : Around} {E : Value → Shared → Prop} {s : Shared} {tg : Expr} {it : Addr} {u : Value} {o : Obj} {n : String} {vs : Array Value} {Q : Unit → Shared → Prop} (ho : s.heap.get? it = some o) (hc : o.cls = .type n) (hd : o.data = .fields vs)
    (hn : ["enumerate", "zip", "dict_itemiterator", "dict_reverseitemiterator", "odict_iterator", "itertools.zip_longest", "itertools.pairwise"].contains n = false) (hQ : Q () s) : wpAny M A (letOwnedTupleGo tg (.ref it) u) Q E s := by
  unfold letOwnedTupleGo
  cases tg <;> first
    | exact wpAny_pure hQ
    | (cases u <;> first
        | exact wpAny_pure hQ
        | (refine wpAny_bind (wpAny_load ho ?_)
           rw [hc, hd]
           show wpAny M A (if (["enumerate", "zip", "dict_itemiterator", "dict_reverseitemiterator", "odict_iterator", "itertools.zip_longest", "itertools.pairwise"].contains n && vs[0]? == some (rawInt _)) = true then _ else _) Q E s
           rw [if_neg (by intro h; rw [hn, Bool.false_and] at h; cases h)]
           exact wpAny_pure hQ))
def Itl (K : PySem.W.Frag) (a : Addr) : It :=
  ⟨fun i H => ∃ xs x, SqL K H a xs ∧ xs[i]? = some x, fun i H x H' => H' = H ∧ ∀ xs, SqL K H a xs → xs[i]? = some x, fun i H => ∃ xs, SqL K H a xs ∧ xs.length ≤ i⟩
def Itt (K : PySem.W.Frag) (a : Addr) : It :=
  ⟨fun i H => ∃ xs x, SqT K H a xs ∧ xs[i]? = some x, fun i H x H' => H' = H ∧ ∀ xs, SqT K H a xs → xs[i]? = some x, fun i H => ∃ xs, SqT K H a xs ∧ xs.length ≤ i⟩
def Itr (lo : Int) (n : Nat) : It := ⟨fun i _ => i < n, fun i H x H' => H' = H ∧ x = .int (lo + i), fun i _ => n ≤ i⟩
theorem turn_list {P : Program} {w : World} {K : PySem.W.Frag} {tg : Expr} (a it : Addr) : Turn P w K tg (Itl K a) [it] it (fun i h => h.IsListIter it a i) where
  mem := by simp
  obj := fun i h st b hb => by
    have e : b = it := by simpa using hb
    subst e
    obtain ⟨o, e, c, d⟩ := st
    exact ⟨o, e, fun v z => by rw [d] at z; cases z⟩
  keep := fun i h h' st k => st.at fun o e => k it (by simp) o e
  item := by
    intro X hP hw hK hc i pins s σ H E I hf st hg
    subst hP hw hK
    obtain ⟨xs, x, hq, hx⟩ := hg
    obtain ⟨its, rv, p, hz⟩ := I.list hq
    obtain ⟨u, hu, ru⟩ := rv.get hx
    obtain ⟨f0, f1, f2, f3, f4, f5⟩ := hf it (by simp)
    refine wpAny_pyNext_list_item st p.isList (x := u) (by simpa using hu) fun h' st' sb => ?_
    have I1 : Inv X pins σ H { s with heap := h' } := I.turned (t' := s.toks) (fun b o hb e => (sb.2 b hb).trans e) f0 f1 f3 f4 f5
    obtain ⟨o, e, c, d⟩ := id st'
    exact ⟨u, rfl, go_of (s := { s with heap := h' }) e c d (by decide) ⟨x, H, I1, ru, ⟨rfl, fun ys hy => by rw [I.list_inj hy hq]; exact hx⟩, st', fun b hb => (hf b hb).1⟩⟩
  done := by
    intro X hP hw hK hc i pins s σ H E I hf st hg
    subst hP hw hK
    obtain ⟨xs, hq, hx⟩ := hg
    obtain ⟨its, rv, p, hz⟩ := I.list hq
    obtain ⟨f0, f1, f2, f3, f4, f5⟩ := hf it (by simp)
    have hl := rv.length
    exact wpAny_pyNext_list_end (I.ok.hd hc) st p.isList (by simp; omega) fun h' eb => ⟨rfl, I.turned (t' := s.toks) (fun b o hb e => eb b o hb e) f0 f1 f3 f4 f5⟩
  self := fun _ _ _ _ _ st h => wpAny_pyIter_listiter st h
theorem turn_tuple {P : Program} {w : World} {K : PySem.W.Frag} {tg : Expr} (a it : Addr) : Turn P w K tg (Itt K a) [it] it (fun i h => h.IsTupleIter it a i) where
  mem := by simp
  obj := fun i h st b hb => by
    have e : b = it := by simpa using hb
    subst e
    obtain ⟨o, e, c, d⟩ := st
    exact ⟨o, e, fun v z => by rw [d] at z; cases z⟩
  keep := fun i h h' st k => st.at fun o e => k it (by simp) o e
  item := by
    intro X hP hw hK hc i pins s σ H E I hf st hg
    subst hP hw hK
    obtain ⟨xs, x, hq, hx⟩ := hg
    obtain ⟨its, rv, p, hz⟩ := I.tuple hq
    obtain ⟨u, hu, ru⟩ := rv.get hx
    obtain ⟨f0, f1, f2, f3, f4, f5⟩ := hf it (by simp)
    refine wpAny_pyNext_tuple_item st (show s.heap.IsTuple a its.toArray from p) (x := u) (by simpa using hu) fun h' st' sb => ?_
    have I1 : Inv X pins σ H { s with heap := h' } := I.turned (t' := s.toks) (fun b o hb e => (sb.2 b hb).trans e) f0 f1 f3 f4 f5
    obtain ⟨o, e, c, d⟩ := id st'
    exact ⟨u, rfl, go_of (s := { s with heap := h' }) e c d (by decide) ⟨x, H, I1, ru, ⟨rfl, fun ys hy => by rw [I.tuple_inj hy hq]; exact hx⟩, st', fun b hb => (hf b hb).1⟩⟩
  done := by
    intro X hP hw hK hc i pins s σ H E I hf st hg
    subst hP hw hK
    obtain ⟨xs, hq, hx⟩ := hg
    obtain ⟨its, rv, p, hz⟩ := I.tuple hq
    obtain ⟨f0, f1, f2, f3, f4, f5⟩ := hf it (by simp)
    have hl := rv.length
    exact wpAny_pyNext_tuple_end (I.ok.hd hc) st (show s.heap.IsTuple a its.toArray from p) (by simp; omega) fun h' eb => ⟨rfl, I.turned (t' := s.toks) (fun b o hb e => eb b o hb e) f0 f1 f3 f4 f5⟩
  self := fun _ _ _ _ _ st h => wpAny_pyIter_tupleiter st h
theorem turn_range {P : Program} {w : World} {K : PySem.W.Frag} {tg : Expr} (it : Addr) (lo : Int) (n : Nat) : Turn P w K tg (Itr lo n) [it] it (fun i h => IsRangeIter h it (lo + (i : Nat) * 1) ((n : Int) - (i : Nat)) 1) where
  mem := by simp
  obj := fun i h st b hb => by
    have e : b = it := by simpa using hb
    subst e
    exact ⟨_, st, fun v z => by
      have z' : Data.fields _ = Data.cell v := z
      cases z'⟩
  keep := fun i h h' st k => k it (by simp) _ st
  item := by
    intro X hP hw hK hc i pins s σ H E I hf st hg
    subst hP hw hK
    obtain ⟨f0, f1, f2, f3, f4, f5⟩ := hf it (by simp)
    have W := Walks.range (prog := X.prog) (w := X.w) (I.ok.hd hc) it lo 1 n
    refine W.item i s _ _ hg st fun v h' tk hv st' kk => ?_
    obtain ⟨t, rfl⟩ := hv
    have I1 : Inv X pins σ H { s with heap := h', toks := tk } := I.turned (fun b o hb e => kk b o (by simpa using hb) e) f0 f1 f3 f4 f5
    refine ⟨_, rfl, go_of (s := { s with heap := h', toks := tk }) (n := "range_iterator") st' rfl rfl (by decide) ⟨.int (lo + i), H, I1, ⟨t, ?_⟩, ⟨rfl, rfl⟩, st', fun b hb => (hf b hb).1⟩⟩
    rw [Int.mul_one]
  done := by
    intro X hP hw hK hc i pins s σ H E I hf st hg
    subst hP hw hK
    obtain ⟨f0, f1, f2, f3, f4, f5⟩ := hf it (by simp)
    exact wpAny_pyNext_range_end (I.ok.hd hc) st (by have : n ≤ i := hg; omega) fun h' eb => ⟨rfl, I.turned (t' := s.toks) (fun b o hb e => eb b o hb e) f0 f1 f3 f4 f5⟩
  self := fun _ _ _ _ _ st h => wpAny_pyIter_rangeiter st h
end L2
namespace L2
open PySem PySem.Spec PyProof.Rows
section
variable {X : Cx} {tg : Expr}
def iList (K : PySem.W.Frag) (tl : TE) : TI := fun σ H R => tl σ H fun x H1 => ∃ a, x = .ref a ∧ (∃ xs, SqL K H1 a xs) ∧ R (Itl K a) H1
def iTup (K : PySem.W.Frag) (tl : TE) : TI := fun σ H R => tl σ H fun x H1 => ∃ a, x = .ref a ∧ (∃ xs, SqT K H1 a xs) ∧ R (Itt K a) H1
theorem pi_list {l : Expr} {tl : TE} (hl : PE X l tl) : PI X tg l (iList X.K tl) := by
  intro pins s σ H R I h
  refine thn (hl pins s σ H _ I h) fun v s1 ⟨x, H1, I1, r1, q1⟩ => ?_
  obtain ⟨a, e, ⟨xs, hq⟩, q⟩ := q1
  subst e
  cases r1
  obtain ⟨its, rv, p, hz⟩ := I1.list hq
  refine wpAny_pyIter_list p.isList ?_
  refine ⟨s1.heap.objs.size, [s1.heap.objs.size], _, _, H1, rfl, I1.kept (t' := s1.toks) fun b o e => Heap.get?_push_of_some _ e, turn_list a _, ⟨_, Heap.get?_push_size _ rfl, rfl, rfl⟩, fun b hb => ?_, q⟩
  have e : b = s1.heap.objs.size := by simpa using hb
  subst e
  exact I1.fpOk (Nat.le_refl _) (I1.hok.fresh (Nat.le_refl _))
theorem pi_tup {l : Expr} {tl : TE} (hl : PE X l tl) : PI X tg l (iTup X.K tl) := by
  intro pins s σ H R I h
  refine thn (hl pins s σ H _ I h) fun v s1 ⟨x, H1, I1, r1, q1⟩ => ?_
  obtain ⟨a, e, ⟨xs, hq⟩, q⟩ := q1
  subst e
  cases r1
  obtain ⟨its, rv, p, hz⟩ := I1.tuple hq
  refine wpAny_pyIter_tuple (show s1.heap.IsTuple a its.toArray from p) ?_
  refine ⟨s1.heap.objs.size, [s1.heap.objs.size], _, _, H1, rfl, I1.kept (t' := s1.toks) fun b o e => Heap.get?_push_of_some _ e, turn_tuple a _, ⟨_, Heap.get?_push_size _ rfl, rfl, rfl⟩, fun b hb => ?_, q⟩
  have e : b = s1.heap.objs.size := by simpa using hb
  subst e
  exact I1.fpOk (Nat.le_refl _) (I1.hok.fresh (Nat.le_refl _))
theorem range_it {pins : List (Addr × Obj)} {σ : St} {H : Hp} {s : Shared} {R : It → Hp → Prop} {E : Value → Shared → Prop} {lo hi : Int} {t u v : Tok} {tk : Nat} (I : Inv X pins σ H s) (h1 : -(2 ^ 62) ≤ lo) (h2 : lo < 2 ^ 62) (h3 : -(2 ^ 62) ≤ hi) (h4 : hi < 2 ^ 62)
    (q : R (Itr lo (hi - lo).toNat) H) : wpAny (model X.prog X.w) X.A (pyIter (.ref s.heap.objs.size)) (PIE X pins σ tg R) E { s with heap := s.heap.push { cls := .type "range", data := .fields #[.int lo t, .int hi u, .int 1 v] }, toks := tk } := by
  refine wpAny_pyIter_range (IsRange.new ..) (small_one h1 h2 h3 h4) ?_
  have I1 : Inv X pins σ H { s with heap := s.heap.push { cls := .type "range", data := .fields #[.int lo t, .int hi u, .int 1 v] }, toks := tk } := I.kept fun b o e => Heap.get?_push_of_some _ e
  refine ⟨(s.heap.push { cls := .type "range", data := .fields #[.int lo t, .int hi u, .int 1 v] }).objs.size, [(s.heap.push { cls := .type "range", data := .fields #[.int lo t, .int hi u, .int 1 v] }).objs.size], _, _, H, rfl,
    I1.kept (t' := tk) fun b o e => Heap.get?_push_of_some _ e, turn_range _ lo (hi - lo).toNat, ?_, fun b hb => ?_, q⟩
  · have e1 : lo + ((0 : Nat) : Int) * 1 = lo := by simp
    have e2 : (((hi - lo).toNat : Nat) : Int) - ((0 : Nat) : Int) = Builtin.Range.rangeSize lo hi 1 := by rw [rangeSize_one]; split <;> omega
    show IsRangeIter _ _ (lo + ((0 : Nat) : Int) * 1) ((((hi - lo).toNat : Nat) : Int) - ((0 : Nat) : Int)) 1
    rw [e1, e2]
    exact Heap.get?_push_size _ rfl
  · have e : b = (s.heap.push { cls := .type "range", data := .fields #[.int lo t, .int hi u, .int 1 v] }).objs.size := by simpa using hb
    subst e
    exact I1.fpOk (Nat.le_refl _) (I1.hok.fresh (Nat.le_refl _))
def iRng1 (ta : TA) : TI := fun σ H R => ta σ H fun vs H1 => ∃ j : Int, vs = [.int j] ∧ -(2 ^ 62) ≤ j ∧ j < 2 ^ 62 ∧ R (Itr 0 j.toNat) H1
def iRng2 (ta : TA) : TI := fun σ H R => ta σ H fun vs H1 => ∃ i j : Int, vs = [.int i, .int j] ∧ (-(2 ^ 62) ≤ i ∧ i < 2 ^ 62 ∧ -(2 ^ 62) ≤ j ∧ j < 2 ^ 62) ∧ R (Itr i (j - i).toNat) H1
theorem pi_range1 {a : Expr} {ta : TA} {p pos : Pos} (hg : Gl X "range") (hm : X.mg "range" = none) (ha : PA X [a] ta) (hs : starEach [a] X.env = [(false, eval a X.env)] := by rfl) : PI X tg (.Call (.Name "range" p) [a] [] pos) (iRng1 ta) := by
  intro pins s σ H R I h
  refine Call_ (ld_blt I hg hm boot_range (PyProof.Rows.callWith_type1 (thn (ha pos pins s σ H _ I h) fun us s1 ⟨vs, H1, I1, r1, q1⟩ => ?_) hs rfl))
  obtain ⟨j, e, q1, q2, q⟩ := q1
  subst e
  cases r1 with
  | cons r rr =>
    cases rr
    obtain ⟨t, rfl⟩ := r
    exact call_range_1 (range_it I1 (by omega) (by omega) q1 q2 (by simpa using q))
theorem pi_range2 {a b : Expr} {ta : TA} {p pos : Pos} (hg : Gl X "range") (hm : X.mg "range" = none) (ha : PA X [a, b] ta) (hs : starEach [a, b] X.env = [(false, eval a X.env), (false, eval b X.env)] := by rfl) (hs2 : starEach [b] X.env = [(false, eval b X.env)] := by rfl) :
    PI X tg (.Call (.Name "range" p) [a, b] [] pos) (iRng2 ta) := by
  intro pins s σ H R I h
  refine Call_ (ld_blt I hg hm boot_range (PyProof.Rows.callWith_type1 (thn (ha pos pins s σ H _ I h) fun us s1 ⟨vs, H1, I1, r1, q1⟩ => ?_) (by rw [hs, hs2]) (by rw [hs2]; rfl)))
  obtain ⟨i, j, e, ⟨q1, q2, q3, q4⟩, q⟩ := q1
  subst e
  cases r1 with
  | cons r rr =>
    cases rr with
    | cons r' rr =>
      cases rr
      obtain ⟨t, rfl⟩ := r
      obtain ⟨t', rfl⟩ := r'
      exact call_range_2 (range_it I1 q1 q2 q3 q4 q)
def tFor (wi : TI) (g : TG) (tb : TS) : TS := fun D σ H => wi σ H fun J H1 => ∃ W : Nat → Nat → St → Hp → Prop, (∃ m, W 0 m σ H1) ∧ ∀ i m σ H, W i m σ H →
  (J.stop i H ∧ D.nx σ H) ∨ (J.go i H ∧ ∃ N : St → Hp → Prop, (∀ σ' H', N σ' H' → ∃ m', m' < m ∧ W (i + 1) m' σ' H') ∧ ∀ x H', J.yld i H x H' → g x σ H' fun σ2 H2 => tb { D with nx := N, ct := N, bk := D.nx } σ2 H2)
def pinsAt (fp : List Addr) (h : Heap) : List (Addr × Obj) := fp.filterMap fun b => (h.get? b).map fun o => (b, o)
theorem mem_pinsAt {fp : List Addr} {h : Heap} {b : Addr} {o : Obj} (hb : b ∈ fp) (e : h.get? b = some o) : (b, o) ∈ pinsAt fp h := List.mem_filterMap.mpr ⟨b, hb, by rw [e]; rfl⟩
theorem of_pinsAt {fp : List Addr} {h : Heap} {p : Addr × Obj} (hp : p ∈ pinsAt fp h) : p.1 ∈ fp ∧ h.get? p.1 = some p.2 := by
  obtain ⟨b, hb, e⟩ := List.mem_filterMap.mp hp
  cases q : h.get? b with
  | none => rw [q] at e; cases e
  | some o =>
    rw [q] at e
    have e' : (b, o) = p := Option.some.inj e
    subst e'
    exact ⟨hb, q⟩
theorem Inv.pinned {pins : List (Addr × Obj)} {σ : St} {H : Hp} {s : Shared} {fp : List Addr} (I : Inv X pins σ H s) (hf : ∀ b ∈ fp, FpOk X pins H b) (ho : ∀ b ∈ fp, ∃ o, s.heap.get? b = some o ∧ ∀ v, o.data ≠ .cell v) : Inv X (pins ++ pinsAt fp s.heap) σ H s :=
  I.pins_of fun p hp => (List.mem_append.mp hp).elim (fun z => I.pin p (List.mem_append_right _ z)) fun z => by
    obtain ⟨hb, e⟩ := of_pinsAt z
    obtain ⟨f0, f1, f2, _⟩ := hf p.1 hb
    obtain ⟨o, e', d⟩ := ho p.1 hb
    rw [e] at e'; cases e'
    exact ⟨e, f0, f1, f2, d⟩
theorem Inv.unpinned {pins pl : List (Addr × Obj)} {σ : St} {H : Hp} {s : Shared} (I : Inv X (pins ++ pl) σ H s) : Inv X pins σ H s := I.pins_of fun p hp => I.pin p (List.mem_append_right _ (List.mem_append_left _ hp))
theorem ps_for {iter : Expr} {body : List Stmt} {wi : TI} {g : TG} {tb : TS} {pos : Pos} (hp : PassesOwn (model X.prog X.w) X.A X.env X.xe) (hc : X.calm = true) (hi : PI X tg iter wi) (hg : PG X tg g) (hb : PSs X body tb)
    (hs : ∀ x, foldedSetIterable iter X.env x = pure x := by intro _; rfl) : PS X (.For tg iter body [] pos) (tFor wi g tb) := by
  intro pins s σ H D I h
  refine wpAny_For (thn (hi pins s σ H _ I h) fun v s1 h1 => thn h1 fun itv s2 h2 => ?_) hs
  obtain ⟨it, fp, tn, J, H2, e, I2, T, st2, f2, W, ⟨m0, w0⟩, turn⟩ := h2
  subst e
  have stat : ∀ {H' : Hp}, (∀ b ∈ fp, H' b = none) → ∀ b ∈ fp, FpOk X pins H' b := fun hn b hb => ⟨hn b hb, (f2 b hb).2⟩
  refine codeAny_forLoop_any (fun n s' => ∃ i σ' H', Inv X pins σ' H' s' ∧ tn i s'.heap ∧ (∀ b ∈ fp, H' b = none) ∧ W i n σ' H') ?_ m0 ⟨0, σ, H2, I2, st2, fun b hb => (f2 b hb).1, w0⟩
  rintro n s3 ⟨i, σ3, H3, I3, st3, fr3, w3⟩
  rcases turn i n σ3 H3 w3 with ⟨stop, qn⟩ | ⟨go, N, hN, step⟩
  · refine wpAny_passesOwn hp (thn (T.done X rfl rfl rfl hc i pins s3 σ3 H3 X.xe I3 (stat fr3) st3 stop) fun r s4 ⟨hr, I4⟩ => ?_)
    subst hr
    exact wpAny_execs_nil ⟨σ3, H3, I4, qn⟩
  · refine wpAny_passesOwn hp (thn (T.item X rfl rfl rfl hc i pins s3 σ3 H3 X.xe I3 (stat fr3) st3 go) fun r s4 ⟨u, hr, h4⟩ => ?_)
    subst hr
    refine wpAny_passesOwn hp (thn h4 fun _ s5 ⟨x, H5, I5, r5, y5, st5, fr5⟩ => ?_)
    have I5' := I5.pinned (stat fr5) (T.obj _ _ st5)
    refine wpAny_passesOwn hp (thn (hg _ s5 σ3 H5 x u _ I5' r5 (step x H5 y5)) fun _ s6 ⟨σ6, H6, I6, q6⟩ => ?_)
    refine wpAny_passesOwn hp (thn (hb _ s6 σ6 H6 _ I6 q6) fun f s7 q7 => ?_)
    have again : ∀ {σ7 : St} {H7 : Hp}, Inv X (pins ++ pinsAt fp s5.heap) σ7 H7 s7 → N σ7 H7 → ∃ m, m < n ∧ ∃ i σ' H', Inv X pins σ' H' s7 ∧ tn i s7.heap ∧ (∀ b ∈ fp, H' b = none) ∧ W i m σ' H' := fun {σ7 H7} I7 n7 => by
      obtain ⟨m', hm, w7⟩ := hN σ7 H7 n7
      refine ⟨m', hm, i + 1, σ7, H7, I7.unpinned, T.keep _ _ _ st5 fun b hb o e => (I7.pin (b, o) (List.mem_append_right _ (List.mem_append_right _ (mem_pinsAt hb e)))).1, fun b hb => ?_, w7⟩
      obtain ⟨o, e, d⟩ := T.obj _ _ st5 b hb
      exact (I7.pin (b, o) (List.mem_append_right _ (List.mem_append_right _ (mem_pinsAt hb e)))).2.1
    cases f with
    | next => obtain ⟨σ7, H7, I7, n7⟩ := q7; exact again I7 n7
    | cont => obtain ⟨σ7, H7, I7, n7⟩ := q7; exact again I7 n7
    | brk => obtain ⟨σ7, H7, I7, q7⟩ := q7; exact ⟨σ7, H7, I7.unpinned, q7⟩
    | ret v => obtain ⟨x7, σ7, H7, I7, r7, q7⟩ := q7; exact ⟨x7, σ7, H7, I7.unpinned, r7, q7⟩
end
end L2
namespace L2
open PySem PySem.Spec PyProof.Rows
abbrev R2 := V → V → Hp → VK → Prop
def OpR (X : Cx) (f : Value → Value → Sem Value) (r : R2) : Prop :=
  ∀ (pins : List (Addr × Obj)) (s : Shared) (σ : St) (H : Hp) (x y : V) (v u : Value) (Q : VK), Inv X pins σ H s → RelV x v → RelV y u → r x y H Q →
    wpAny (model X.prog X.w) X.A (f v u) (EP X pins σ Q) X.xe s
def UnR (X : Cx) (f : Value → Sem Value) (r : V → Hp → VK → Prop) : Prop :=
  ∀ (pins : List (Addr × Obj)) (s : Shared) (σ : St) (H : Hp) (x : V) (v : Value) (Q : VK), Inv X pins σ H s → RelV x v → r x H Q →
    wpAny (model X.prog X.w) X.A (f v) (EP X pins σ Q) X.xe s
def CallR (X : Cx) (f : Value) (r : List V → Hp → VK → Prop) : Prop :=
  ∀ (pins : List (Addr × Obj)) (s : Shared) (σ : St) (H : Hp) (xs : List V) (us : List Value) (Q : VK), Inv X pins σ H s → Vals xs us → r xs H Q →
    wpAny (model X.prog X.w) X.A (call f us) (EP X pins σ Q) X.xe s
def tOp (r : R2) (ta tb : TE) : TE := fun σ H Q => ta σ H fun x H1 => tb σ H1 fun y H2 => r x y H2 Q
def tUn (r : V → Hp → VK → Prop) (ta : TE) : TE := fun σ H Q => ta σ H fun x H1 => r x H1 Q
def rI (C : Int → Int → Prop) (g : Int → Int → V) : R2 := fun x y H Q => ∃ i j, x = .int i ∧ y = .int j ∧ C i j ∧ Q (g i j) H
def rI0 (g : Int → Int → V) : R2 := fun x y H Q => ∃ i j, x = .int i ∧ y = .int j ∧ Q (g i j) H
def rU (g : Int → V) : V → Hp → VK → Prop := fun x H Q => ∃ i, x = .int i ∧ Q (g i) H
section
variable {X : Cx} {a b c : Expr} {ta tb tc : TE} {pos : Pos}
theorem binT (ha : PE X a ta) (hb : PE X b tb) {pins : List (Addr × Obj)} {s : Shared} {σ : St} {H : Hp} {R : V → V → Hp → Prop} (I : Inv X pins σ H s)
    (h : ta σ H fun x H1 => tb σ H1 fun y H2 => R x y H2) {Q : Value → Shared → Prop} {f : Value → Value → Sem Value}
    (hf : ∀ v u s2 x y H2, Inv X pins σ H2 s2 → RelV x v → RelV y u → R x y H2 → wpAny (model X.prog X.w) X.A (f v u) Q X.xe s2) :
    wpAny (model X.prog X.w) X.A (eval a X.env) (fun v s₁ => wpAny (model X.prog X.w) X.A (eval b X.env) (fun u s₂ => wpAny (model X.prog X.w) X.A (f v u) Q X.xe s₂) X.xe s₁) X.xe s := by
  refine thn (ha pins s σ H _ I h) fun v s1 ⟨x, H1, I1, r1, q1⟩ => ?_
  refine thn (hb pins s1 σ H1 _ I1 q1) fun u s2 ⟨y, H2, I2, r2, q2⟩ => ?_
  exact hf v u s2 x y H2 I2 r1 r2 q2
theorem pe_op {op : Operator} {r : R2} (ho : OpR X (binaryOp op) r) (ha : PE X a ta) (hb : PE X b tb) : PE X (.BinOp a op b pos) (tOp r ta tb) := by
  intro pins s σ H Q I h
  exact wpAny_BinOp (binT ha hb I h fun v u s2 x y H2 I2 rx ry q => ho pins s2 σ H2 x y v u Q I2 rx ry q)
theorem pe_un {op : UnaryOp} {r : V → Hp → VK → Prop} (ho : UnR X (unaryOp op) r) (ha : PE X a ta) : PE X (.UnaryOp op a pos) (tUn r ta) := by
  intro pins s σ H Q I h
  exact UnaryOp_ (thn (ha pins s σ H _ I h) fun v s1 ⟨x, H1, I1, r1, q1⟩ => ho pins s1 σ H1 x v Q I1 r1 q1)
theorem opI {f : Value → Value → Sem Value} {C : Int → Int → Prop} {g : Int → Int → Int}
    (rule : ∀ (i j : Int) (t u : Tok) (s : Shared) (Q : Value → Shared → Prop) (E : Value → Shared → Prop), C i j → Q (.int (g i j) s.toks) { s with toks := s.toks + 1 } → wpAny (model X.prog X.w) X.A (f (.int i t) (.int j u)) Q E s) :
    OpR X f (rI C fun i j => .int (g i j)) := by
  intro pins s σ H x y v u Q I rx ry h
  obtain ⟨i, j, rfl, rfl, hc, q⟩ := h
  obtain ⟨t, rfl⟩ := rx
  obtain ⟨t', rfl⟩ := ry
  exact rule i j t t' s _ _ hc ⟨.int (g i j), H, I.tok _, ⟨_, rfl⟩, q⟩
theorem opI0 {f : Value → Value → Sem Value} {g : Int → Int → Int}
    (rule : ∀ (i j : Int) (t u : Tok) (s : Shared) (Q : Value → Shared → Prop) (E : Value → Shared → Prop), Q (.int (g i j) s.toks) { s with toks := s.toks + 1 } → wpAny (model X.prog X.w) X.A (f (.int i t) (.int j u)) Q E s) :
    OpR X f (rI0 fun i j => .int (g i j)) := by
  intro pins s σ H x y v u Q I rx ry h
  obtain ⟨i, j, rfl, rfl, q⟩ := h
  obtain ⟨t, rfl⟩ := rx
  obtain ⟨t', rfl⟩ := ry
  exact rule i j t t' s _ _ ⟨.int (g i j), H, I.tok _, ⟨_, rfl⟩, q⟩
theorem opB0 {f : Value → Value → Sem Value} {g : Int → Int → Bool}
    (rule : ∀ (i j : Int) (t u : Tok) (s : Shared) (Q : Value → Shared → Prop) (E : Value → Shared → Prop), Q (.bool (g i j)) s → wpAny (model X.prog X.w) X.A (f (.int i t) (.int j u)) Q E s) :
    OpR X f (rI0 fun i j => .bl (g i j)) := by
  intro pins s σ H x y v u Q I rx ry h
  obtain ⟨i, j, rfl, rfl, q⟩ := h
  obtain ⟨t, rfl⟩ := rx
  obtain ⟨t', rfl⟩ := ry
  exact rule i j t t' s _ _ ⟨.bl (g i j), H, I, rfl, q⟩
def CPow (i j : Int) : Prop := 0 ≤ j ∧ j ≤ 1000000 ∧ i.natAbs < 2 ^ 64
def CMul (i j : Int) : Prop := (-(2 ^ 64) < i ∧ i < 2 ^ 64) ∨ (-(2 ^ 64) < j ∧ j < 2 ^ 64)
theorem CMul.ok {i j : Int} (h : CMul i j) : IntMulOk i j := by
  rcases h with ⟨h1, h2⟩ | ⟨h1, h2⟩
  · exact .of_left (intBits_le_64 h1 h2)
  · exact .of_right (intBits_le_64 h1 h2)
theorem op_add : OpR X (binaryOp .Add) (rI0 fun i j => .int (i + j)) := opI0 fun _ _ _ _ _ _ _ q => add_int q
theorem op_sub : OpR X (binaryOp .Sub) (rI0 fun i j => .int (i - j)) := opI0 fun _ _ _ _ _ _ _ q => sub_int q
theorem op_mul : OpR X (binaryOp .Mult) (rI CMul fun i j => .int (i * j)) := opI fun _ _ _ _ _ _ _ hc q => mul_int q hc.ok
theorem op_modN : OpR X (binaryOp .Mod) (rI (fun _ j => j ≠ 0) fun i j => .int (i.fmod j)) := opI fun _ _ _ _ _ _ _ hc q => mod_int' hc q
theorem op_pow : OpR X (binaryOp .Pow) (rI CPow fun i j => .int (i ^ j.toNat)) := opI fun _ _ _ _ _ _ _ hc q => pow_int_small hc.1 hc.2.1 hc.2.2 q
theorem op_and : OpR X (binaryOp .BitAnd) (rI0 fun i j => .int (Builtin.bitAnd i j)) := opI0 fun _ _ _ _ _ _ _ q => and_int q
theorem op_or : OpR X (binaryOp .BitOr) (rI0 fun i j => .int (Builtin.bitOr i j)) := opI0 fun _ _ _ _ _ _ _ q => or_int q
theorem unI {f : Value → Sem Value} {g : Int → Int}
    (rule : ∀ (i : Int) (t : Tok) (s : Shared) (Q : Value → Shared → Prop) (E : Value → Shared → Prop), Q (.int (g i) s.toks) { s with toks := s.toks + 1 } → wpAny (model X.prog X.w) X.A (f (.int i t)) Q E s) :
    UnR X f (rU fun i => .int (g i)) := by
  intro pins s σ H x v Q I rx h
  obtain ⟨i, rfl, q⟩ := h
  obtain ⟨t, rfl⟩ := rx
  exact rule i t s _ _ ⟨.int (g i), H, I.tok _, ⟨_, rfl⟩, q⟩
theorem un_neg : UnR X (unaryOp .USub) (rU fun i => .int (-i)) := unI fun _ _ _ _ _ q => neg_int q
end
section
variable {X : Cx} {a b c : Expr} {ta tb tc : TE} {pos : Pos}
theorem fin_bl {pins : List (Addr × Obj)} {σ : St} {H : Hp} {s : Shared} {Q : VK} {k k' : Bool} (I : Inv X pins σ H s) (q : Q (.bl k) H) (e : k = k') : EP X pins σ Q (.bool k') s := by
  subst e
  exact ⟨.bl k, H, I, rfl, q⟩
theorem op_lt : OpR X (compareOp .Lt) (rI0 fun i j => .bl (decide (i < j))) := opB0 fun _ _ _ _ _ _ _ q => lt_int q
theorem op_le : OpR X (compareOp .LtE) (rI0 fun i j => .bl (decide (i ≤ j))) := opB0 fun _ _ _ _ _ _ _ q => le_int q
theorem op_gt : OpR X (compareOp .Gt) (rI0 fun i j => .bl (decide (j < i))) := opB0 fun _ _ _ _ _ _ _ q => gt_int q
theorem op_ge : OpR X (compareOp .GtE) (rI0 fun i j => .bl (decide (j ≤ i))) := opB0 fun _ _ _ _ _ _ _ q => ge_int q
theorem op_isN : OpR X (compareOp .Is) (fun x y H Q => y = .non ∧ Q (.bl (decide (x = .non))) H) := by
  intro pins s σ H x y v u Q I rx ry h
  obtain ⟨rfl, q⟩ := h
  cases ry
  refine is_none_gen (fin_bl I q ?_)
  cases x <;> first
    | (cases rx; rfl)
    | (obtain ⟨t, rfl⟩ := rx; rfl)
theorem op_notN : OpR X (compareOp .IsNot) (fun x y H Q => y = .non ∧ Q (.bl (!decide (x = .non))) H) := by
  intro pins s σ H x y v u Q I rx ry h
  obtain ⟨rfl, q⟩ := h
  cases ry
  refine isnot_none_gen (fin_bl I q ?_)
  cases x <;> first
    | (cases rx; rfl)
    | (obtain ⟨t, rfl⟩ := rx; rfl)
theorem OpR.or {f : Value → Value → Sem Value} {r r' : R2} (h : OpR X f r) (h' : OpR X f r') : OpR X f (fun x y H Q => r x y H Q ∨ r' x y H Q) := by
  intro pins s σ H x y v u Q I rx ry q
  rcases q with q | q
  · exact h pins s σ H x y v u Q I rx ry q
  · exact h' pins s σ H x y v u Q I rx ry q
theorem pe_cmpR {op : CmpOp} {r : R2} (ho : OpR X (compareOp op) r) (ha : PE X a ta) (hb : PE X b tb) (hm : behindInMarks op b = false) : PE X (.Compare a [op] [b] pos) (tOp r ta tb) := by
  intro pins s σ H Q I h
  exact wpAny_Compare1 (binT ha hb I h fun v u s2 x y H2 I2 rx ry q => ho pins s2 σ H2 x y v u Q I2 rx ry q) hm
def tTest (t : TE) : TT := fun σ H Q => t σ H fun x H' => ∃ k, x = .bl k ∧ Q k H'
theorem pt_cmpR {op : CmpOp} {r : R2} (ho : OpR X (compareOp op) r) (ha : PE X a ta) (hb : PE X b tb) (hm : behindInMarks op b = false) : PT X (.Compare a [op] [b] pos) (tTest (tOp r ta tb)) := by
  intro pins s σ H Q I h
  refine wpAny_isTrue_Compare1 (thn (ha pins s σ H _ I h) fun v s1 ⟨x, H1, I1, r1, q1⟩ => thn (hb pins s1 σ H1 _ I1 q1) fun u s2 ⟨y, H2, I2, r2, q2⟩ =>
    thn (ho pins s2 σ H2 x y v u _ I2 r1 r2 q2) fun c s3 ⟨z, H3, I3, r3, k, e, q3⟩ => ?_) hm
  subst e
  cases r3
  exact wpAny_truthy_bool ⟨H3, I3, q3⟩
theorem line63 : (sizeLine : Nat) < 2 ^ 63 := by rw [sizeLine_eq]; decide
theorem op_add_str : OpR X (binaryOp .Add) (fun x y H Q => ∃ i j, x = .str i ∧ y = .str j ∧ i.length + j.length ≤ sizeLine ∧ Q (.str (i ++ j)) H) := by
  intro pins s σ H x y v u Q I rx ry h
  obtain ⟨i, j, rfl, rfl, hz, q⟩ := h
  obtain ⟨t, rfl⟩ := rx
  obtain ⟨t', rfl⟩ := ry
  exact add_str (fun t' tk => ⟨.str (i ++ j), H, I.tok _, ⟨_, rfl⟩, q⟩) hz
theorem vals1 {x : V} {us : List Value} (r : Vals [x] us) : ∃ u, us = [u] ∧ RelV x u := by
  cases r with
  | cons r1 r2 => cases r2; exact ⟨_, rfl, r1⟩
theorem vals2 {x y : V} {us : List Value} (r : Vals [x, y] us) : ∃ u w', us = [u, w'] ∧ RelV x u ∧ RelV y w' := by
  cases r with
  | cons r1 r2 =>
    cases r2 with
    | cons r3 r4 => cases r4; exact ⟨_, _, rfl, r1, r3⟩
theorem call_abs : CallR X (.builtin "abs") (fun xs H Q => ∃ i, xs = [.int i] ∧ Q (.int (if i < 0 then -i else i)) H) := by
  intro pins s σ H xs us Q I r h
  obtain ⟨i, rfl, q⟩ := h
  obtain ⟨u, rfl, t, rfl⟩ := vals1 r
  exact call_abs_int fun u tk => ⟨.int (if i < 0 then -i else i), H, I.tok _, ⟨_, rfl⟩, q⟩
theorem call_min2 (hc : X.calm = true) : CallR X (.builtin "min") (fun xs H Q => ∃ i j, xs = [.int i, .int j] ∧ Q (.int (if j < i then j else i)) H) := by
  intro pins s σ H xs us Q I r h
  obtain ⟨i, j, rfl, q⟩ := h
  obtain ⟨u, w', rfl, ⟨t, rfl⟩, ⟨t', rfl⟩⟩ := vals2 r
  refine min_two_ints (I.ok.hd hc) fun h' tk k => ⟨_, H, I.kept k, ?_, q⟩
  by_cases hj : j < i
  · rw [if_pos hj, if_pos hj]; exact ⟨_, rfl⟩
  · rw [if_neg hj, if_neg hj]; exact ⟨_, rfl⟩
def LenV (K : PySem.W.Frag) (x : V) (H : Hp) (n : Nat) : Prop :=
  match x with
  | .str y => y.length ≤ sizeLine ∧ n = y.length
  | .byt y => y.size ≤ sizeLine ∧ n = y.size
  | .ref p => (∃ xs, SqL K H p xs ∧ n = xs.length) ∨ ∃ xs, SqT K H p xs ∧ n = xs.length
  | _ => False
theorem call_len : CallR X (.builtin "len") (fun xs H Q => ∃ x n, xs = [x] ∧ LenV X.K x H n ∧ Q (.int n) H) := by
  intro pins s σ H xs us Q I r h
  obtain ⟨x, n, rfl, e, q⟩ := h
  obtain ⟨u, rfl, rx⟩ := vals1 r
  have hl := line63
  have hs : sizeLine = 16777216 := sizeLine_eq
  cases x with
  | str y =>
    obtain ⟨t, rfl⟩ := rx
    obtain ⟨hy, e'⟩ : y.length ≤ sizeLine ∧ n = y.length := e
    subst e'
    exact len_str (by omega) ⟨.int _, H, I.tok _, ⟨_, rfl⟩, q⟩
  | byt y =>
    obtain ⟨t, rfl⟩ := rx
    obtain ⟨hy, e'⟩ : y.size ≤ sizeLine ∧ n = y.size := e
    subst e'
    exact PySem.W.len_bytes (by omega) ⟨.int _, H, I.tok _, ⟨_, rfl⟩, q⟩
  | ref p =>
    cases rx
    have e' : (∃ xs, SqL X.K H p xs ∧ n = xs.length) ∨ ∃ xs, SqT X.K H p xs ∧ n = xs.length := e
    rcases e' with ⟨xs, hx, e'⟩ | ⟨xs, hx, e'⟩
    · subst e'
      obtain ⟨its, r', pl, hz⟩ := I.list hx
      have hlen := r'.length
      exact Calls.call_len_list pl.isList (by simp only [List.size_toArray]; omega) ⟨.int xs.length, H, I.tok _, ⟨_, by simp only [List.size_toArray]; rw [hlen]⟩, q⟩
    · subst e'
      obtain ⟨its, r', pl, hz⟩ := I.tuple hx
      have hlen := r'.length
      exact len_tuple pl (by simp only [List.size_toArray]; omega) ⟨.int xs.length, H, I.tok _, ⟨_, by simp only [List.size_toArray]; rw [hlen]⟩, q⟩
  | _ => exact (show False from e).elim
end
end L2
namespace L2
open PySem PySem.Spec PyProof.Rows
structure ObjM (h : Heap) (x dx C : Addr) (mA : Str → Option Value) : Prop where
  obj : h.get? x = some (PySem.W.instObj C dx)
  ns : h.Ns1 dx mA
  ne : dx ≠ x
theorem lookIn_ns {h : Heap} {dx : Addr} {mA : Str → Option Value} (n : h.Ns1 dx mA) : ∃ od, h.get? dx = some od ∧ ∀ name, PySem.W.lookIn name od = some (mA name) := by
  obtain ⟨o, es, ep, ho, hd, hk, _, hm⟩ := n
  refine ⟨o, ho, fun name => ?_⟩
  have e := hm name
  unfold nsFind findBy at e
  rw [← Array.find?_toList] at e
  unfold PySem.W.lookIn
  rw [hd]
  dsimp only
  split
  · rename_i y q
    rw [q] at e
    exact congrArg some e
  · rename_i q
    rw [q] at e
    have a : es.toList.any (·.refKey) = false := by
      rw [List.any_eq_false]
      intro y hy
      obtain ⟨z, t, hkey⟩ := hk y (Array.mem_toList_iff.mp hy)
      simp [DictEntry.refKey, hkey]
    have a' : ¬ es.toList.any (·.refKey) = true := by rw [a]; exact Bool.false_ne_true
    rw [if_neg a']
    exact congrArg some e
theorem ObjM.look {h : Heap} {x dx C : Addr} {mA : Str → Option Value} (I : ObjM h x dx C mA) : ∃ od, PySem.W.InstAt h x (PySem.W.instObj C dx) C (some od) ∧ ∀ name, PySem.W.lookIn name od = some (mA name) :=
  let ⟨od, ho, hl⟩ := lookIn_ns I.ns
  ⟨od, ⟨I.obj, rfl, rfl, ho⟩, hl⟩
section
variable {prog : Program} {w : World} {A : Around} {E : Value → Shared → Prop} {s : Shared} {K : PySem.W.Frag} {x dx C f : Addr} {mA : Str → Option Value} {name : Str} {v : Value}
end
section
variable {P : Program} {w : World} {H H' : Hp} {h h' : Heap} {a C dx : Addr} {fs fs' : List (Str × V)}
theorem ins_get (hok : HOk P w H h) (e : H a = some (.ins C dx fs)) : ∃ mA, ObjM h a dx C mA ∧ (∀ f, RelO (fs.lookup f) (mA f)) ∧ PySem.Within mA (fs.map (·.1)) ∧ fs.length ≤ 1000 ∧ H dx = some (.own a) := by
  obtain ⟨d, z, ne, ob, mA, n, r, q⟩ := (show ObjOk P w H h a (.ins C dx fs) from hok a _ e)
  exact ⟨mA, ⟨ob, n, ne⟩, r, q, z, d⟩
end
structure Cls (K : PySem.W.Frag) (C : Addr) : Prop where
  pg : PySem.W.plainGet K C Str.empty = true
  hd : PySem.W.hasDictIn K C = true
  po : PySem.W.plainOver K C = true
  sa : PySem.W.findIn K (.ref C) "__setattr__" = some (some (.builtin "object.__setattr__"))
theorem Cls.get {K : PySem.W.Frag} {C : Addr} (c : Cls K C) (f : Str) : PySem.W.plainGet K C f = true := c.pg
section
variable {X : Cx} {pins : List (Addr × Obj)} {σ : St} {H : Hp} {s : Shared} {a C dx : Addr} {fs : List (Str × V)} {f : Str} {v : V} {A : Around} {E : Value → Shared → Prop}
theorem Inv.made (I : Inv X pins σ H s) : Inv X pins σ (upd (upd H s.heap.objs.size (.own (s.heap.objs.size + 1))) (s.heap.objs.size + 1) (.ins C s.heap.objs.size []))
    { s with heap := (s.heap.push PySem.W.emptyDict).push (PySem.W.instObj C s.heap.objs.size) } := by
  have e1 : (s.heap.push PySem.W.emptyDict).get? s.heap.objs.size = some PySem.W.emptyDict := Heap.get?_push_size s.heap rfl
  have e2 : ((s.heap.push PySem.W.emptyDict).push (PySem.W.instObj C s.heap.objs.size)).get? (s.heap.objs.size + 1) = some (PySem.W.instObj C s.heap.objs.size) := by
    have := Heap.get?_push_size (s.heap.push PySem.W.emptyDict) (o := PySem.W.instObj C s.heap.objs.size) rfl
    rwa [Heap.size_push] at this
  have e3 : (s.heap.push PySem.W.emptyDict).Ns s.heap.objs.size (fun _ => none) := ⟨PySem.W.emptyDict, #[], _, e1, rfl, (fun e he => absurd he (by simp)), fun _ => rfl⟩
  have I1 := I.laid (a := s.heap.objs.size) (o := .own (s.heap.objs.size + 1)) (h' := s.heap.push PySem.W.emptyDict) (t' := s.toks) (fun b u q => Heap.get?_push_of_some _ q) (Nat.le_refl _) ⟨_, e1⟩
  refine I1.laid (a := s.heap.objs.size + 1) (o := .ins C s.heap.objs.size []) (t' := s.toks) (fun b u q => Heap.get?_push_of_some _ q) (Nat.le_of_eq (Heap.size_push _ _)) ?_
  have ne : s.heap.objs.size ≠ s.heap.objs.size + 1 := Nat.ne_of_lt (Nat.lt_succ_self _)
  refine ⟨by rw [upd_ne ne, upd_same], Nat.zero_le _, ne, e2, fun _ => none, (Heap.Ns1.of_empty e3).at fun o q => Heap.get?_push_of_some _ q, fun _ => True.intro, fun y hy => absurd rfl hy⟩
end
section
variable {X : Cx} {o e value : Expr} {f : Str} {pos pos' tpos : Pos} {ta tv : TE}
end
section
variable {X : Cx} {pins : List (Addr × Obj)} {σ : St} {H : Hp} {s : Shared} {A : Around} {E : Value → Shared → Prop} {Q : Value → Shared → Prop} {c : Value} {b : Bool}
inductive TyOf (K : PySem.W.Frag) (H : Hp) : V → Value → Prop where
  | non : TyOf K H .non (.type "NoneType")
  | bl (x : Bool) : TyOf K H (.bl x) (.type "bool")
  | int (i : Int) : TyOf K H (.int i) (.type "int")
  | str (x : Str) : TyOf K H (.str x) (.type "str")
  | flt (x : UInt64) : TyOf K H (.flt x) (.type "float")
  | lst {a : Addr} {xs : List V} (e : H a = some (.lst xs)) : TyOf K H (.ref a) (.type "list")
  | frz {a : Addr} {o : Obj} {xs : List V} (e : H a = some (.frz o (.lst xs))) : TyOf K H (.ref a) (.type "list")
  | tup {a : Addr} {xs : List V} (e : H a = some (.tup xs)) : TyOf K H (.ref a) (.type "tuple")
  | dK {a : Addr} {kvs : List (Key × V)} (e : H a = some (.dK kvs)) : TyOf K H (.ref a) (.type "dict")
  | dT {a : Addr} {kvs : List (List Key × V)} (e : H a = some (.dT kvs)) : TyOf K H (.ref a) (.type "dict")
  | ins {a C dx : Addr} {fs : List (Str × V)} (e : H a = some (.ins C dx fs)) (cl : Cls K C) (ha : PySem.W.findIn K (.ref C) "__class__" = some (some (.builtin "object.__class__")))
      (hn : PySem.W.specialIn K (.builtin "object.__class__") "__get__" = some (some (.builtin "getset_descriptor.__get__"))) (htk : PySem.W.takesIn K (.builtin "object.__class__") = some true)
      (hm : PySem.W.mroIn K C (.type "object") = some true) : TyOf K H (.ref a) (.ref C)
theorem isinst_ok {x : V} {u t : Value} (I : Inv X pins σ H s) (rx : RelV x u) (ty : TyOf X.K H x t) (e : PySem.W.kitOne X.K t c = some b) (h : ∀ tk, Q (.bool b) { s with toks := tk }) :
    wpAny (model X.prog X.w) A (call (.builtin "isinstance") [u, c]) Q E s := by
  cases ty with
  | non => cases (show u = Value.none from rx); exact PySem.W.kia_one PySem.W.kitx_none I.kIn True.intro e (fun z => nomatch z) h
  | bl y => cases (show u = Value.bool y from rx); exact PySem.W.kia_one PySem.W.kitx_bool I.kIn True.intro e (fun z => nomatch z) h
  | int i => obtain ⟨t, q⟩ := (show ∃ t, u = Value.int i t from rx); cases q; exact PySem.W.kia_one PySem.W.kitx_int I.kIn True.intro e (fun z => nomatch z) h
  | str y => obtain ⟨t, q⟩ := (show ∃ t, u = Value.str y t from rx); cases q; exact PySem.W.kia_one PySem.W.kitx_str I.kIn True.intro e (fun z => nomatch z) h
  | flt y => obtain ⟨t, q⟩ := (show ∃ t, u = Value.float y t from rx); cases q; exact PySem.W.kia_one PySem.W.kitx_float I.kIn True.intro e (fun z => nomatch z) h
  | @lst a xs ea =>
    cases (show u = Value.ref a from rx)
    obtain ⟨_, _, n, _, h1⟩ := (show ObjOk X.prog X.w H s.heap a (.lst xs) from I.hok a _ ea)
    exact PySem.W.kia_one PySem.W.kitx_list I.kIn ⟨_, h1, rfl⟩ e (fun z => nomatch z) h
  | @frz a ob xs ea =>
    cases (show u = Value.ref a from rx)
    obtain ⟨_, _, _, n, _, h1⟩ := (show ObjOk X.prog X.w H s.heap a (.frz ob (.lst xs)) from I.hok a _ ea)
    exact PySem.W.kia_one PySem.W.kitx_list I.kIn ⟨_, h1, rfl⟩ e (fun z => nomatch z) h
  | @tup a xs ea =>
    cases (show u = Value.ref a from rx)
    obtain ⟨_, _, _, p⟩ := (show ObjOk X.prog X.w H s.heap a (.tup xs) from I.hok a _ ea)
    obtain ⟨o, h1, h2, _⟩ := p
    exact PySem.W.kia_one PySem.W.kitx_tuple I.kIn ⟨o, h1, h2⟩ e (fun z => nomatch z) h
  | @dK a kvs ea =>
    cases (show u = Value.ref a from rx)
    obtain ⟨_, _, vs, _, p⟩ := (show ObjOk X.prog X.w H s.heap a (.dK kvs) from I.hok a _ ea)
    obtain ⟨o, es, ep, h1, h2, _⟩ := p
    exact PySem.W.kia_one PySem.W.kitx_dict I.kIn ⟨o, h1, h2.1⟩ e (fun z => nomatch z) h
  | @dT a kvs ea =>
    cases (show u = Value.ref a from rx)
    obtain ⟨_, _, xs, _, o, es, ep, h1, h2, _⟩ := (show ObjOk X.prog X.w H s.heap a (.dT kvs) from I.hok a _ ea)
    exact PySem.W.kia_one PySem.W.kitx_dict I.kIn ⟨o, h1, h2.1⟩ e (fun z => nomatch z) h
  | @ins a C dx fs ea cl ha hn htk hm =>
    cases (show u = Value.ref a from rx)
    obtain ⟨mA, O, _⟩ := ins_get I.hok ea
    obtain ⟨od, J, _⟩ := O.look
    exact PySem.W.kia_one (PySem.W.kitx_own (cl.get _) cl.hd ha hn htk hm) I.kIn J e (fun z => nomatch z) h
end
end L2
namespace L2
open PySem PySem.Spec PyProof.Rows
structure Room (k : Nat) (A : Around) : Prop where
  hd : A.handled = none
  dp : A.depth + 3 * k + 5 < recursionLimit
  un : A.units + 16 * k + 200 < cLine
theorem Room.mono {j k : Nat} {A : Around} (r : Room k A) (h : j ≤ k) : Room j A := ⟨r.hd, by have := r.dp; omega, by have := r.un; omega⟩
theorem Room.deeper {k : Nat} {A : Around} (r : Room (k + 1) A) (env : Env) : Room k (A.deeper env) :=
  ⟨r.hd, by have := r.dp; show A.depth + 1 + 3 * k + 5 < _; omega, by have := r.un; show A.units + 3 + 16 * k + 200 < _; omega⟩
theorem Room.in1 {k : Nat} {A : Around} (r : Room (k + 1) A) : Room k A.in1 :=
  ⟨r.hd, by have := r.dp; show A.depth + 3 * k + 5 < _; omega, by have := r.un; show A.units + 1 + 16 * k + 200 < _; omega⟩
theorem Room.depth {k : Nat} {A : Around} (r : Room k A) : A.depth < recursionLimit := by have := r.dp; omega
theorem Room.units {k : Nat} {A : Around} (r : Room k A) : A.units + 64 < cLine := by have := r.un; omega
def tNil : TA := fun _ H Q => Q [] H
def tCons (ta : TE) (tr : TA) : TA := fun σ H Q => ta σ H fun x H1 => tr σ H1 fun xs H2 => Q (x :: xs) H2
section
variable {X : Cx} {e : Expr} {es : List Expr} {te : TE} {t : TA} {pos : Pos}
theorem pa_nil : PA X [] tNil := fun _ _ _ _ H Q I h => Calls.spliced_nil ⟨[], H, I, .nil, h⟩
theorem pa_cons (ha : PE X e te) (hr : PA X es t) (hs : starEach (e :: es) X.env = (false, eval e X.env) :: starEach es X.env := by rfl) : PA X (e :: es) (tCons te t) := by
  intro pos pins s σ H Q I h
  rw [hs]
  show wpAny _ _ (spliced ((false, eval e X.env) :: backTo pos (starEach es X.env))) _ _ s
  refine Calls.spliced_cons (thn (ha pins s σ H _ I h) fun u s1 ⟨x, H1, I1, r1, q1⟩ => ?_)
  exact thn (hr pos pins s1 σ H1 _ I1 q1) fun us s2 ⟨xs, H2, I2, r2, q2⟩ => ⟨x :: xs, H2, I2, .cons r1 r2, q2⟩
def tTup (t : TA) : TE := fun σ H Q => t σ H fun xs H1 => xs.length ≤ sizeLine ∧ ∀ p, H1 p = none → Q (.ref p) (upd H1 p (.tup xs))
def tLst (t : TA) : TE := fun σ H Q => t σ H fun xs H1 => xs.length ≤ sizeLine ∧ ∀ p, H1 p = none → Q (.ref p) (upd H1 p (.lst xs))
theorem pe_tup {x1} (h : PA X es t) : PE X (.Tuple es x1 pos) (tTup t) := by
  intro pins s σ H Q I hq
  refine wpAny_Tuple_spliced (thn (h pos pins s σ H _ I hq) fun us s1 ⟨xs, H1, I1, r, z, q⟩ => ⟨by rw [← r.length]; exact z, ?_⟩)
  have hf : H1 s1.heap.objs.size = none := I1.hok.fresh (Nat.le_refl _)
  refine ⟨.ref s1.heap.objs.size, upd H1 s1.heap.objs.size (.tup xs), I1.laid (t' := s1.toks) (fun b u e => Heap.get?_push_of_some _ e) (Nat.le_refl _) ?_, rfl, q _ hf⟩
  exact ⟨z, us, r, ⟨_, Heap.get?_push_size _ rfl, rfl, _, rfl⟩⟩
theorem pe_lst (h : PA X es t) : PE X (.List es pos) (tLst t) := by
  intro pins s σ H Q I hq
  refine wpAny_List_spliced (thn (h pos pins s σ H _ I hq) fun us s1 ⟨xs, H1, I1, r, z, q⟩ => ⟨by rw [← r.length]; exact z, ?_⟩)
  have hf : H1 s1.heap.objs.size = none := I1.hok.fresh (Nat.le_refl _)
  refine ⟨.ref s1.heap.objs.size, upd H1 s1.heap.objs.size (.lst xs), I1.laid (t' := s1.toks) (fun b u e => Heap.get?_push_of_some _ e) (Nat.le_refl _) ?_, rfl, q _ hf⟩
  exact ⟨z, us, 0, r, Heap.get?_push_size _ rfl⟩
end
abbrev Sp := List V → Hp → VK → XK → Prop
abbrev CXT := List Env → Hp → Shared → XK → Value → Shared → Prop
structure Env0 (P : Program) (w : World) (K : PySem.W.Frag) (mg : Str → Option Value) (base : Heap) (A : Around) (outer : List Env) (s : Shared) (H : Hp) : Prop where
  frames : A.frames = some outer
  mod : Mod K mg base
  bs : ∀ b o, base.get? b = some o → s.heap.get? b = some o ∧ H b = none
  bsz : base.objs.size ≤ s.heap.objs.size
  funs : s.heap.FunFrames base outer
  frf : ∀ b ∈ frs outer, H b = none
  hok : HOk P w H s.heap
  bare : AllBare s.gens
def CE (outer : List Env) (P : Program) (w : World) (H : Hp) (s : Shared) (Q : VK) (u : Value) (s' : Shared) : Prop :=
  ∃ v H', s'.os = s.os ∧ AllBare s'.gens ∧ Un (frs outer) [] H H' s.heap s'.heap ∧ HOk P w H' s'.heap ∧ RelV v u ∧ Q v H'
def CR (CX : CXT) (outer : List Env) (P : Program) (w : World) (H : Hp) (s : Shared) (Q : VK) (E : XK) (r : Result) (s' : Shared) : Prop :=
  match r with
  | .ok (.ret u) => CE outer P w H s Q u s'
  | .ok _ => False
  | .error e => CX outer H s E e s'
structure FnOk (P : Program) (w : World) (K : PySem.W.Frag) (mg : Str → Option Value) (base : Heap) (CX : CXT) (k : Nat) (f : Addr) (fd : FuncData) (ps : List Str) (sp : Sp) : Prop where
  len : ∀ vs H Q E, sp vs H Q E → vs.length = ps.length
  run : ∀ (A : Around) (outer : List Env) (s : Shared) (H : Hp) (args : Args) (us : List Value) (vs : List V) (Q : VK) (E : XK), Room k A → Env0 P w K mg base A outer s H → BindsTo s fd args (ps.zip us) → Vals vs us → sp vs H Q E →
    codeAny (model P w) A (.call (.ref f) args) (CR CX outer P w H s Q E) s
theorem FnOk.mono {P : Program} {w : World} {K : PySem.W.Frag} {mg : Str → Option Value} {base : Heap} {CX : CXT} {j k : Nat} {f : Addr} {fd : FuncData} {ps : List Str} {sp : Sp} (F : FnOk P w K mg base CX j f fd ps sp) (h : j ≤ k) :
    FnOk P w K mg base CX k f fd ps sp := ⟨F.len, fun A outer s H args us vs Q E hr => F.run A outer s H args us vs Q E (hr.mono h)⟩
theorem Env0.in1 {P : Program} {w : World} {K : PySem.W.Frag} {mg : Str → Option Value} {base : Heap} {A : Around} {outer : List Env} {s : Shared} {H : Hp} (e : Env0 P w K mg base A outer s H) :
    Env0 P w K mg base A.in1 outer s H := ⟨e.frames, e.mod, e.bs, e.bsz, e.funs, e.frf, e.hok, e.bare⟩
section
variable {X : Cx} {pins : List (Addr × Obj)} {σ : St} {H : Hp} {s s' : Shared}
theorem Inv.env0 (I : Inv X pins σ H s) : Env0 X.prog X.w X.K X.mg X.base X.A X.stack s H :=
  ⟨I.ok.frames, I.ok.mod, I.bs, Nat.le_trans I.ok.bsz I.sz, I.stack, I.stkFree, I.hok, I.bare⟩
theorem Inv.after {Q : VK} {u : Value} (I : Inv X pins σ H s) (h : CE X.stack X.prog X.w H s Q u s') : EP X pins σ Q u s' := by
  obtain ⟨v, H', os, bare, un, hok, r, q⟩ := h
  obtain ⟨hh, g, d, t, os'⟩ := s'
  obtain rfl : os' = s.os := os
  exact ⟨v, H', I.call (h' := hh) (g' := g) (d' := d) (t' := t) (ch := []) un hok bare (fun b z => absurd z (by simp)), r, q⟩
end
def Binds (K : PySem.W.Frag) (fd : FuncData) (ps : List Str) (ds : List Value) : Prop :=
  ∀ (s : Shared) (us : List Value), K.In s.heap → (us ++ ds).length = ps.length → BindsTo s fd ⟨us, []⟩ (ps.zip (us ++ ds))
theorem Binds.all {K : PySem.W.Frag} {fd : FuncData} {ps : List Str} (h : ∀ us : List Value, us.length = ps.length → bindArgs fd ⟨us, []⟩ = pure (ps.zip us)) : Binds K fd ps [] := fun s us _ hl => by
  rw [List.append_nil] at hl ⊢
  exact .of_eq (h us hl)
section
variable {X : Cx} {CX : CXT} {k : Nat} {f C : Addr} {fd : FuncData} {ps : List Str} {sp : Sp} {dvs : List V} {ds : List Value} {E : XK} {x m : Str} {p pos apos : Pos} {e o : Expr} {es : List Expr} {ta : TE} {t : TA}
end
section
variable {X : Cx} {CX : CXT} {k : Nat} {f C : Addr} {fd : FuncData} {ps ks : List Str} {sp : Sp} {E : XK} {x m : Str} {p pos apos kpos : Pos} {e o : Expr} {es : List Expr} {kws : List Keyword} {te ta : TE} {t tk : TA} {nm : Option Str}
variable {g : List Value → List Value → List Value} {gV : List V → List V → List V}
end
structure FnScope (N P : List Str) (sc : Scope) : Prop where
  kind : sc.kind = .function
  co : sc.isCoroutine = false
  gen : sc.isGenerator = false
  nd : N.Nodup
  pre : N.take P.length = P
  par : ∀ x ∈ P, sc.names.lookup x = some .local ∨ sc.names.lookup x = some .cell
  nofree : ∀ y ∈ sc.names, y.2 ≠ .free
theorem bindL_out {kindOf : Str → Option NameKind} {x : Str} : ∀ {binds : List (Str × Value)} {m : Str → Option Value}, (∀ v, (x, v) ∉ binds) → bindL kindOf binds m x = m x
  | [], _, _ => rfl
  | (n, v) :: r, m, h => by
    unfold bindL
    rw [bindL_out fun w hw => h w (List.mem_cons_of_mem _ hw)]
    split
    · have : x ≠ n := by rintro rfl; exact h v List.mem_cons_self
      simp [this]
    · rfl
theorem bindC_out {kindOf : Str → Option NameKind} {x : Str} : ∀ {binds : List (Str × Value)} {m : Str → Option Value}, (∀ v, (x, v) ∉ binds) → bindC kindOf binds m x = m x
  | [], _, _ => rfl
  | (n, v) :: r, m, h => by
    unfold bindC
    rw [bindC_out fun w hw => h w (List.mem_cons_of_mem _ hw)]
    split
    · rfl
    · have : x ≠ n := by rintro rfl; exact h v List.mem_cons_self
      simp [this]
theorem bindL_get {kindOf : Str → Option NameKind} {x : Str} {v : Value} : ∀ {P : List Str} {vs : List Value} {i : Nat} {m : Str → Option Value}, P.Nodup → P[i]? = some x → vs[i]? = some v → kindOf x = some .local →
    bindL kindOf (P.zip vs) m x = some v
  | [], _, _, _, _, h, _, _ => by simp at h
  | _ :: _, [], _, _, _, _, h, _ => by simp at h
  | p :: P, w :: vs, 0, m, nd, h1, h2, hk => by
    simp at h1 h2; subst h1; subst h2
    show bindL kindOf ((p, w) :: P.zip vs) m p = _
    unfold bindL
    rw [bindL_out fun v hv => (List.nodup_cons.mp nd).1 (List.of_mem_zip hv).1, if_pos hk]
    simp
  | p :: P, w :: vs, i + 1, m, nd, h1, h2, hk => by
    show bindL kindOf ((p, w) :: P.zip vs) m x = _
    unfold bindL
    exact bindL_get (i := i) (List.nodup_cons.mp nd).2 (by simpa using h1) (by simpa using h2) hk
theorem bindC_get {kindOf : Str → Option NameKind} {x : Str} {v : Value} : ∀ {P : List Str} {vs : List Value} {i : Nat} {m : Str → Option Value}, P.Nodup → P[i]? = some x → vs[i]? = some v → kindOf x ≠ some .local →
    bindC kindOf (P.zip vs) m x = some v
  | [], _, _, _, _, h, _, _ => by simp at h
  | _ :: _, [], _, _, _, _, h, _ => by simp at h
  | p :: P, w :: vs, 0, m, nd, h1, h2, hk => by
    simp at h1 h2; subst h1; subst h2
    show bindC kindOf ((p, w) :: P.zip vs) m p = _
    unfold bindC
    rw [bindC_out fun v hv => (List.nodup_cons.mp nd).1 (List.of_mem_zip hv).1, if_neg hk]
    simp
  | p :: P, w :: vs, i + 1, m, nd, h1, h2, hk => by
    show bindC kindOf ((p, w) :: P.zip vs) m x = _
    unfold bindC
    exact bindC_get (i := i) (List.nodup_cons.mp nd).2 (by simpa using h1) (by simpa using h2) hk
def start (N : List Str) (vs : List V) : St := vs.map some ++ List.replicate (N.length - vs.length) none
def cxOf (CX : CXT) (P : Program) (w : World) (K : PySem.W.Frag) (mg : Str → Option Value) (base : Heap) (N : List Str) (qual : Str) (scope : Scope) (f : Addr) (cd : Value) (A : Around) (outer : List Env) (s : Shared) (H : Hp) (E : XK) : Cx where
  prog := P
  w := w
  K := K
  mg := mg
  base := base
  A := A.deeper (envOfC qual scope s.heap.objs.size f cd)
  N := N
  s₀ := s
  H₀ := H
  env := envOfC qual scope s.heap.objs.size f cd
  outer := outer
  stack := envOfC qual scope s.heap.objs.size f cd :: outer
  ex := []
  calm := true
  fn := fun _ => true
  pn := []
  xe := fun e s' => wpAny (model P w) (A.deeper (envOfC qual scope s.heap.objs.size f cd)) (leaving (envOfC qual scope s.heap.objs.size f cd) e) (fun _ s'' => CX outer H s E e s'') (fun e' s'' => CX outer H s E e' s'') s'
theorem cell_has {sc : Scope} {n : Nat} {x : Str} (h : sc.names.lookup x = some .cell) : ∃ c, (cellsFrom n sc.names []).lookup x = some c := by
  have q := PySem.W.cellsFrom_some sc.names n [] (.inl h)
  exact Option.isSome_iff_exists.mp q
theorem inv_start {CX : CXT} {P : Program} {w : World} {K : PySem.W.Frag} {mg : Str → Option Value} {base : Heap} {N ps : List Str} {qual : Str} {scope : Scope} {f : Addr} {cd : Value} {A : Around} {outer : List Env} {s s1 : Shared} {H : Hp} {E : XK} {us : List Value} {vs : List V}
    (S : FnScope N ps scope) (hd : A.handled = none) (e0 : Env0 P w K mg base A outer s H) (hl : vs.length = ps.length) (r : Vals vs us)
    (x : InCallC s s.heap.objs.size (bindL (envOfC qual scope s.heap.objs.size f cd).kindOf (ps.zip us) fun _ => none) (cellsFrom (s.heap.objs.size + 1) scope.names []) (bindC (envOfC qual scope s.heap.objs.size f cd).kindOf (ps.zip us) fun _ => none) s1) :
    Inv (cxOf CX P w K mg base N qual scope f cd A outer s H E) [] (start N vs) H s1 := by
  have hpl : ps.length ≤ N.length := by have := congrArg List.length S.pre; rw [List.length_take] at this; omega
  obtain ⟨h1, tk, rfl, hk⟩ := x.done
  have noA : ∀ b : Addr, b ∉ (cxOf CX P w K mg base N qual scope f cd A outer s H E).ex := fun b z => absurd (show b ∈ ([] : List Addr) from z) (by simp)
  refine ⟨⟨e0.mod, S.kind, rfl, rfl, Nat.le_refl _, fun y z c h1 h2 => ?_, fun y hy => ?_, fun y c _ h => ?_, fun _ => hd, Around.frames_deeper e0.frames, .inr ⟨rfl, rfl⟩, fun b z => absurd z (noA b), e0.bs, e0.bsz, fun b _ _ => noA b, fun b z => absurd z (noA b), e0.funs, e0.frf⟩,
    rfl, e0.bare, Un.kept hk, ⟨_, x.toInCall.ns, fun i y v h1 h2 h3 => ?_⟩, fun y c h => ⟨_, x.cell y c h⟩, e0.hok.fresh (Nat.le_refl _), fun y c h => ?_, fun p hp => absurd (show p ∈ ([] : List (Addr × Obj)) from hp) (by simp), e0.hok.kept hk, ?_⟩
  · exact name_of_addr x.apart (PySem.mem_of_lookup h1) (PySem.mem_of_lookup h2)
  · have hy : scope.names.lookup y = some .cell ∨ scope.names.lookup y = some .free := hy
    rcases hy with hy | hy
    · exact cell_has hy
    · exact absurd rfl (S.nofree _ (PySem.mem_of_lookup hy))
  · exact Nat.le_of_lt (x.above y c (PySem.mem_of_lookup h))
  · have hi : i < vs.length := by
      unfold start at h2
      by_cases hi : i < vs.length
      · exact hi
      · rw [List.getElem?_append_right (by simpa using hi)] at h2
        rw [List.getElem?_replicate] at h2
        split at h2 <;> cases h2
    have ha : vs[i]? = some v := by
      unfold start at h2
      rw [List.getElem?_append_left (by simpa using hi), List.getElem?_map] at h2
      cases e : vs[i]? with
      | none => rw [e] at h2; cases h2
      | some a => rw [e] at h2; cases h2; rfl
    obtain ⟨u, hu, rv⟩ := r.get ha
    have hp : ps[i]? = some y := by
      rw [← S.pre, List.getElem?_take_of_lt (by omega)]; exact h1
    have ndP : ps.Nodup := by rw [← S.pre]; exact S.nd.sublist (List.take_sublist _ _)
    refine ⟨u, rv, ?_⟩
    rcases S.par y (List.mem_of_getElem? hp) with k | k
    · exact .inl ⟨k, bindL_get ndP hp hu k⟩
    · obtain ⟨c, e⟩ := cell_has (n := s.heap.objs.size + 1) k
      refine .inr ⟨.inl k, c, e, ?_⟩
      have q := x.cell y c e
      rw [bindC_get ndP hp hu (by show scope.names.lookup y ≠ _; rw [k]; decide)] at q
      exact q
  · exact e0.hok.fresh (Nat.le_of_lt (x.above y c (PySem.mem_of_lookup h)))
  · unfold start
    show _ = N.length
    rw [List.length_append, List.length_map, List.length_replicate]
    omega
theorem fn_of {CX : CXT} {P : Program} {w : World} {K : PySem.W.Frag} {mg : Str → Option Value} {base : Heap} {k : Nat} {f : Addr} {name qual : Str} {params : Arguments} {body : List Stmt} {scope : Scope} {dV kV doc pm cdv ct oc : Value} {an od : Option Addr}
    {osl : Array (Option Value)} {N ps : List Str} {sp : Sp} (lk : K.lookup f = some ⟨oc, od, .func (PySem.W.fnOf name qual params body scope dV kV doc pm an cdv ct), osl⟩) (hcd : PySem.W.codeIn K cdv qual = true) (S : FnScope N ps scope)
    (len : ∀ vs H Q E, sp vs H Q E → vs.length = ps.length)
    (hbody : ∀ (A : Around) (outer : List Env) (s : Shared) (H : Hp) (vs : List V) (Q : VK) (E : XK), Room k (A.deeper (envOfC qual scope s.heap.objs.size f cdv)) → sp vs H Q E →
      ∃ t, PSs (cxOf CX P w K mg base N qual scope f cdv A outer s H E) body t ∧ t { nx := fun _ H' => Q .non H', rt := Q } (start N vs) H) :
    FnOk P w K mg base CX (k + 1) f (PySem.W.fnOf name qual params body scope dV kV doc pm an cdv ct) ps sp := by
  refine ⟨len, fun A outer s H args us vs Q E hr e0 hb r hsp => ?_⟩
  have hl := len _ _ _ _ hsp
  have KX : K.In s.heap := e0.mod.kin.keeps fun b o e => (e0.bs b o e).1
  have lim : s.heap.NoLimit := e0.mod.nolimit.keeps fun b o e => (e0.bs b o e).1
  have hkind : ∀ y ∈ ps.zip us, scope.names.lookup y.1 = some .local ∨ (scope.names.lookup y.1 = some .cell ∧ ((cellsFrom (s.heap.objs.size + 1) scope.names []).lookup y.1).isSome = true) := fun ⟨n, v⟩ hy => by
    rcases S.par n (List.of_mem_zip hy).1 with q | q
    · exact .inl q
    · exact .inr ⟨q, PySem.W.cellsFrom_some _ _ _ (.inl q)⟩
  refine codeAny_call_function hr.depth (KX _ _ lk) rfl S.co S.gen rfl (PySem.W.codeRec_of KX hcd) (hb _ _ _ _ ?_)
  refine wpAny_newFunctionEnv_cells S.kind hkind fun env he s1 x => ?_
  subst he
  refine ⟨lim.keeps x.toInCall.keep, codeAny_func ?_⟩
  obtain ⟨t, ht, hq⟩ := hbody A outer s H vs Q E (hr.deeper _) hsp
  have I : Inv (cxOf CX P w K mg base N qual scope f cdv A outer s H E) [] (start N vs) H s1 := inv_start S hr.hd e0 hl r x
  refine wpAny_mono (ht [] s1 (start N vs) H _ I hq) (fun fl s' hs => ?_) fun e s' hs => hs
  have fin : ∀ {σ' : St} {H' : Hp} {v : V} {u : Value}, Inv (cxOf CX P w K mg base N qual scope f cdv A outer s H E) [] σ' H' s' → RelV v u → Q v H' → CE outer P w H s Q u s' :=
    fun {σ' H' v u} J rv q => ⟨v, H', J.os, J.bare, J.base, J.hok, rv, q⟩
  cases fl with
  | ret u =>
    obtain ⟨v, σ', H', J, rv, q⟩ := hs
    exact fin J rv q
  | next =>
    obtain ⟨σ', H', J, q⟩ := hs
    exact fin (v := V.non) (u := Value.none) J rfl q
  | brk =>
    obtain ⟨_, _, _, q⟩ := hs
    exact False.elim q
  | cont =>
    obtain ⟨_, _, _, q⟩ := hs
    exact False.elim q
end L2
namespace L2
open PySem PySem.Spec PyProof.Rows
section
variable {X : Cx} {x : Str} {p pos : Pos} {e : Expr} {es : List Expr} {t : TA} {id T : String} {r : List V → Hp → VK → Prop}
def tCB (r : List V → Hp → VK → Prop) (t : TA) : TE := fun σ H Q => t σ H fun vs H1 => r vs H1 Q
theorem pe_callB (hc : CallR X (.builtin id) r) (hg : Gl X x) (hm : X.mg x = none) (hv : bootBuiltins x = some (.builtin id)) (ha : PA X (e :: es) t) (hn : x ≠ "__name__" := by decide) (hdb : (x == ("__debug__" : Str)) = false := by decide)
    (he : starEach (e :: es) X.env = (false, eval e X.env) :: starEach es X.env := by rfl) (hpl : (backTo pos (starEach es X.env)).any (·.1) = false := by rfl) : PE X (.Call (.Name x p) (e :: es) [] pos) (tCB r t) := by
  intro pins s σ H Q I h
  refine wpAny_Call_Name_kw (ld_blt I hg hm hv ?_ hn hdb)
  exact PyProof.Rows.callWith_builtin1 (thn (ha pos pins s σ H _ I h) fun us s1 ⟨vs, H1, I1, r1, q1⟩ => hc pins s1 σ H1 vs us Q I1 r1 q1) he hpl
theorem pe_callTy (hc : CallR X (.type T) r) (hg : Gl X x) (hm : X.mg x = none) (hv : bootBuiltins x = some (.type T)) (ha : PA X (e :: es) t) (hn : x ≠ "__name__" := by decide) (hdb : (x == ("__debug__" : Str)) = false := by decide)
    (he : starEach (e :: es) X.env = (false, eval e X.env) :: starEach es X.env := by rfl) (hpl : (backTo pos (starEach es X.env)).any (·.1) = false := by rfl) : PE X (.Call (.Name x p) (e :: es) [] pos) (tCB r t) := by
  intro pins s σ H Q I h
  refine wpAny_Call_Name_kw (ld_blt I hg hm hv ?_ hn hdb)
  exact PyProof.Rows.callWith_type1 (thn (ha pos pins s σ H _ I h) fun us s1 ⟨vs, H1, I1, r1, q1⟩ => hc pins s1 σ H1 vs us Q I1 r1 q1) he hpl
end
end L2
namespace HT
open PySem PyProof.Rows
section
open PySem.SeqAt
open PySem.AutoSeq1 (wpAny_loadPart')
open PySem.MeetsSeq PySem.MeetsSeq2 PySem.MeetsSeq3
end
section
variable {prog : Program} {w : World} {A : Around} {E : Value → Shared → Prop} {s : Shared}
def sIx (n d : Nat) : Option Int → Nat
  | none => d
  | some v => if v < 0 then (v + (n : Int)).toNat else min v.toNat n
end
end HT
namespace L2
open PySem PySem.Spec PyProof.Rows
abbrev TO := St → Hp → (Option Int → Hp → Prop) → Prop
def PO (X : Cx) (e : Option Expr) (t : TO) : Prop :=
  ∀ (pins : List (Addr × Obj)) (s : Shared) (σ : St) (H : Hp) (Q : Option Int → Hp → Prop), Inv X pins σ H s → t σ H Q →
    wpAny (model X.prog X.w) X.A (evalPart e X.env) (fun u s' => ∃ o H', Inv X pins σ H' s' ∧ IsPart u o ∧ Q o H') X.xe s
def tNoPart : TO := fun _ H Q => Q none H
def tPart (t : TE) : TO := fun σ H Q => t σ H fun x H1 => ∃ i, x = .int i ∧ Q (some i) H1
section
variable {X : Cx} {e : Expr} {te : TE} {lo hi : Option Expr} {tl th : TO} {pos p2 : Pos}
theorem po_none : PO X none tNoPart := by
  intro pins s σ H Q I h
  rw [evalPart_none]
  exact wpAny_pure ⟨none, H, I, .none, h⟩
theorem po_some (h : PE X e te) : PO X (some e) (tPart te) := by
  intro pins s σ H Q I hw
  rw [evalPart_some]
  refine thn (h pins s σ H _ I hw) fun u s1 ⟨x, H1, I1, r1, q1⟩ => ?_
  obtain ⟨i, rfl, q⟩ := q1
  obtain ⟨t, rfl⟩ := r1
  exact ⟨some i, H1, I1, .int i t, q⟩
def SlR (X : Cx) (r : V → Option Int → Option Int → Hp → VK → Prop) : Prop :=
  ∀ (pins : List (Addr × Obj)) (s : Shared) (σ : St) (H : Hp) (x : V) (v vl vu : Value) (lo hi : Option Int) (sl : Addr) (Q : VK), Inv X pins σ H s → RelV x v → s.heap.IsSliceOf sl vl vu .none → IsPart vl lo → IsPart vu hi → r x lo hi H Q →
    ∃ T id, typeLookup (.type T) "__getitem__" = pure (some (.builtin id)) ∧ s.TypeIs v T ∧ wpAny (model X.prog X.w) X.A (getItem v (.ref sl)) (EP X pins σ Q) X.xe s
theorem SlR.or {r r' : V → Option Int → Option Int → Hp → VK → Prop} (h : SlR X r) (h' : SlR X r') : SlR X (fun x lo hi H Q => r x lo hi H Q ∨ r' x lo hi H Q) := by
  intro pins s σ H x v vl vu lo hi sl Q I rx hs pl pu q
  rcases q with q | q
  · exact h pins s σ H x v vl vu lo hi sl Q I rx hs pl pu q
  · exact h' pins s σ H x v vl vu lo hi sl Q I rx hs pl pu q
def tSl (r : V → Option Int → Option Int → Hp → VK → Prop) (te : TE) (tl th : TO) : TE := fun σ H Q => te σ H fun x H1 => tl σ H1 fun l H2 => th σ H2 fun u H3 => r x l u H3 Q
theorem pe_slice {r : V → Option Int → Option Int → Hp → VK → Prop} (hr : SlR X r) (he : PE X e te) (hl : PO X lo tl) (hu : PO X hi th) : PE X (.Subscript e (.Slice lo hi none p2) pos) (tSl r te tl th) := by
  intro pins s σ H Q I h
  refine Subscript_ (thn (he pins s σ H _ I h) fun v s1 ⟨x, H1, I1, r1, q1⟩ => ?_)
  refine wpAny_Slice (thn (hl pins s1 σ H1 _ I1 q1) fun vl s2 ⟨l, H2, I2, pl, q2⟩ => thn (hu pins s2 σ H2 _ I2 q2) fun vu s3 ⟨u, H3, I3, pu, q3⟩ => ?_)
  rw [evalPart_none]
  refine wpAny_pure ?_
  have I4 : Inv X pins σ H3 { s3 with heap := s3.heap.push { cls := .type "slice", data := .fields #[vl, vu, .none] } } := I3.kept (t' := s3.toks) fun b ob q => Heap.get?_push_of_some _ q
  obtain ⟨T, id, hT, ht, hg⟩ := hr pins { s3 with heap := s3.heap.push { cls := .type "slice", data := .fields #[vl, vu, .none] } } σ H3 x v vl vu l u s3.heap.objs.size Q I4 r1 (Heap.IsSliceOf.new ..) pl pu q3
  show wpAny (model X.prog X.w) X.A (subscriptTail e (.Slice lo hi none p2) v (.ref s3.heap.objs.size)) (EP X pins σ Q) X.xe { s3 with heap := s3.heap.push { cls := .type "slice", data := .fields #[vl, vu, .none] } }
  exact tail_any (ops := [.ref s3.heap.objs.size, v]) ht hT hg (by with_unfolding_all rfl)
def cutV (xs : List V) (lo hi : Option Int) : List V := (xs.drop (HT.sIx xs.length 0 lo)).take (HT.sIx xs.length xs.length hi - HT.sIx xs.length 0 lo)
theorem cutV_length (xs : List V) (lo hi : Option Int) : (cutV xs lo hi).length ≤ xs.length := by
  unfold cutV
  rw [List.length_take, List.length_drop]
  omega
end
end L2
namespace L2
open PySem PySem.Spec PyProof.Rows
def ixN (n : Nat) (i : Int) : Option Nat := if 0 ≤ i then (if i < n then some i.toNat else none) else if -(n : Int) ≤ i then some (i + n).toNat else none
def atI {α : Type} (xs : List α) (i : Int) : Option α := (ixN xs.length i).bind fun j => xs[j]?
theorem ixN_seq {n : Nat} {i : Int} {j : Nat} (h : ixN n i = some j) : seqIndex? i n = some j ∧ j < n ∧ -(n : Int) ≤ i ∧ i < n := by
  unfold ixN at h
  by_cases h0 : 0 ≤ i
  · rw [if_pos h0] at h
    by_cases h1 : i < n
    · rw [if_pos h1] at h
      have e : i.toNat = j := Option.some.inj h
      exact ⟨by rw [seqIndex_of h0 h1, e], by omega, by omega, h1⟩
    · rw [if_neg h1] at h; cases h
  · rw [if_neg h0] at h
    by_cases h1 : -(n : Int) ≤ i
    · rw [if_pos h1] at h
      have e : (i + n).toNat = j := Option.some.inj h
      exact ⟨by rw [seqIndex_neg (by omega) h1, e], by omega, h1, by omega⟩
    · rw [if_neg h1] at h; cases h
theorem atI_get {α : Type} {xs : List α} {i : Int} {v : α} (h : atI xs i = some v) : ∃ j, seqIndex? i xs.length = some j ∧ xs[j]? = some v ∧ j < xs.length ∧ -(xs.length : Int) ≤ i ∧ i < xs.length := by
  unfold atI at h
  cases e : ixN xs.length i with
  | none => rw [e] at h; cases h
  | some j =>
    rw [e] at h
    obtain ⟨h1, h2, h3, h4⟩ := ixN_seq e
    exact ⟨j, h1, h, h2, h3, h4⟩
theorem atI_nat {α : Type} {xs : List α} {j : Nat} {v : α} (h : xs[j]? = some v) : atI xs (j : Int) = some v := by
  have hj : j < xs.length := (List.getElem?_eq_some_iff.mp h).1
  have e : ixN xs.length (j : Int) = some j := by
    unfold ixN
    rw [if_pos (by omega), if_pos (by omega)]; simp
  unfold atI; rw [e]; exact h
def PlainIx (b : Expr) : Prop := ∀ o i, subscripted b false o i = operate [o, i] (getItem o i)
def IxR (X : Cx) (r : R2) : Prop :=
  ∀ (value slice : Expr) (pins : List (Addr × Obj)) (s : Shared) (σ : St) (H : Hp) (x y : V) (v u : Value) (Q : VK), Inv X pins σ H s → RelV x v → RelV y u → r x y H Q →
    subscripted slice false v u = operate [v, u] (getItem v u) → wpAny (model X.prog X.w) X.A (subscriptTail value slice v u) (EP X pins σ Q) X.xe s
def MtR (X : Cx) (id : String) (r : V → List V → Hp → VK → Prop) : Prop :=
  ∀ (pins : List (Addr × Obj)) (s : Shared) (σ : St) (H : Hp) (x : V) (xs : List V) (v : Value) (us : List Value) (Q : VK), Inv X pins σ H s → RelV x v → Vals xs us → r x xs H Q →
    wpAny (model X.prog X.w) X.A (call (.builtin id) (v :: us)) (EP X pins σ Q) X.xe s
section
variable {X : Cx} {a b : Expr} {ta tb : TE} {pos : Pos}
theorem IxR.or {r r' : R2} (h : IxR X r) (h' : IxR X r') : IxR X (fun x y H Q => r x y H Q ∨ r' x y H Q) := by
  intro value slice pins s σ H x y v u Q I rx ry q hs
  rcases q with q | q
  · exact h value slice pins s σ H x y v u Q I rx ry q hs
  · exact h' value slice pins s σ H x y v u Q I rx ry q hs
theorem MtR.or {id : String} {r r' : V → List V → Hp → VK → Prop} (h : MtR X id r) (h' : MtR X id r') : MtR X id (fun x xs H Q => r x xs H Q ∨ r' x xs H Q) := by
  intro pins s σ H x xs v us Q I rx rs q
  rcases q with q | q
  · exact h pins s σ H x xs v us Q I rx rs q
  · exact h' pins s σ H x xs v us Q I rx rs q
theorem pe_ix {r : R2} (hr : IxR X r) (ha : PE X a ta) (hb : PE X b tb) (hs : PlainIx b) : PE X (.Subscript a b pos) (tOp r ta tb) := by
  intro pins s σ H Q I h
  exact Subscript_ (binT ha hb I h fun v u s2 x y H2 I2 rx ry q => hr a b pins s2 σ H2 x y v u Q I2 rx ry q (hs _ _))
def rIxL (K : PySem.W.Frag) : R2 := fun x y H Q => ∃ p xs i v, x = .ref p ∧ y = .int i ∧ SqL K H p xs ∧ atI xs i = some v ∧ Q v H
def rIxT (K : PySem.W.Frag) : R2 := fun x y H Q => ∃ p xs i v, x = .ref p ∧ y = .int i ∧ SqT K H p xs ∧ atI xs i = some v ∧ Q v H
def rIxS : R2 := fun x y H Q => ∃ z i c, x = .str z ∧ y = .int i ∧ z.length ≤ sizeLine ∧ atI z.cps.toList i = some c ∧ Q (.str ⟨#[c]⟩) H
theorem ix_list : IxR X (rIxL X.K) := by
  intro value slice pins s σ H x y v u Q I rx ry h hs
  obtain ⟨p, xs, i, z, rfl, rfl, hq, he, q⟩ := h
  cases rx
  obtain ⟨t, rfl⟩ := ry
  obtain ⟨its, r, pl, hz⟩ := I.list hq
  obtain ⟨j, h1, h2, h3, h4, h5⟩ := atI_get he
  obtain ⟨w, ew, rw'⟩ := r.get h2
  have hl := r.length
  have hn := line63
  have fin : EP X pins σ Q w s := ⟨z, H, I, rw', q⟩
  by_cases h0 : 0 ≤ i
  · have hj : i.toNat = j := by
      rw [seqIndex_of h0 h5] at h1
      exact Option.some.inj h1
    exact item_listR pl.isList h0 (by omega) (by rw [hj]; simpa using ew) fin hs
  · have hj : (i + (its.toArray.size : Int)).toNat = j := by
      rw [seqIndex_neg (by omega) h4] at h1
      rw [List.size_toArray, ← hl]
      exact Option.some.inj h1
    exact subscriptTail_builtinR (x := w) pl.isList.typeIs slot_list_getitem.lookup
      (wpAny_getItem_list_neg (Q := fun r s' => r = w ∧ EP X pins σ Q r s') pl.isList (by omega) (by rw [List.size_toArray] <;> omega) (by omega) (by rw [hj]; simpa using ew) ⟨rfl, fin⟩) hs
theorem ix_tup : IxR X (rIxT X.K) := by
  intro value slice pins s σ H x y v u Q I rx ry h hs
  obtain ⟨p, xs, i, z, rfl, rfl, hq, he, q⟩ := h
  cases rx
  obtain ⟨t, rfl⟩ := ry
  obtain ⟨its, r, pl, hz⟩ := I.tuple hq
  obtain ⟨j, h1, h2, h3, h4, h5⟩ := atI_get he
  obtain ⟨w, ew, rw'⟩ := r.get h2
  have hl := r.length
  have hn := line63
  have fin : EP X pins σ Q w s := ⟨z, H, I, rw', q⟩
  exact subscriptTail_builtinR (x := w) pl.typeIs slot_tuple_getitem.lookup
    (getItem_tuple (j := j) (Q := fun r s' => r = w ∧ EP X pins σ Q r s') pl (by omega) (by omega) (by rw [List.size_toArray, ← hl]; exact h1) (by simpa using ew) ⟨rfl, fin⟩) hs
theorem ix_str : IxR X rIxS := by
  intro value slice pins s σ H x y v u Q I rx ry h hs
  obtain ⟨z, i, c, rfl, rfl, hz, he, q⟩ := h
  obtain ⟨t, rfl⟩ := rx
  obtain ⟨t', rfl⟩ := ry
  obtain ⟨j, h1, h2, h3, h4, h5⟩ := atI_get he
  have hl : z.cps.toList.length = z.length := by simp [Str.length]
  rw [hl] at h1 h4 h5
  have hn := line63
  exact tail_any (typeIs_str s z t) slot_str_getitem.lookup (getItem_str (c := c) (by
    have e1 : decide (i < -(2 ^ 63 : Int)) = false := decide_eq_false (by omega)
    have e2 : decide (i ≥ 2 ^ 63) = false := decide_eq_false (by omega)
    rw [e1, e2, Bool.or_false]) (by rw [h1]; simpa using h2) ⟨.str ⟨#[c]⟩, H, I.tok _, ⟨_, rfl⟩, q⟩) hs
def rIx (K : PySem.W.Frag) : R2 := fun x y H Q => rIxL K x y H Q ∨ rIxT K x y H Q ∨ rIxS x y H Q
theorem ix_seq : IxR X (rIx X.K) := ix_list.or (ix_tup.or ix_str)
theorem mapSeq_set (its : List Value) (n j : Nat) (u : Value) : Obj.mapSeq (·.setIfInBounds j u) { cls := .type "list", data := .seq its.toArray n } = { cls := .type "list", data := .seq (its.set j u).toArray n } := by
  simp [Obj.mapSeq]
theorem Inv.lst {pins : List (Addr × Obj)} {σ : St} {H : Hp} {s : Shared} {p : Addr} {xs : List V} (I : Inv X pins σ H s) (h : H p = some (.lst xs)) :
    ∃ (its : List Value) (n : Nat), Vals xs its ∧ s.heap.get? p = some { cls := .type "list", data := .seq its.toArray n } ∧ xs.length ≤ sizeLine := by
  obtain ⟨z, its, n, r, e⟩ := I.hok p _ h
  exact ⟨its, n, r, e, z⟩
theorem Inv.lstUpd {pins : List (Addr × Obj)} {σ : St} {H : Hp} {s : Shared} {p : Addr} {xs ys : List V} {its its' : List Value} {n n' : Nat} {f : Obj → Obj} (I : Inv X pins σ H s) (h : H p = some (.lst xs))
    (ho : s.heap.get? p = some { cls := .type "list", data := .seq its.toArray n }) (hf : f { cls := .type "list", data := .seq its.toArray n } = { cls := .type "list", data := .seq its'.toArray n' }) (r : Vals ys its') (hz : ys.length ≤ sizeLine) (t : Nat) :
    Inv X pins σ (upd H p (.lst ys)) { s with heap := s.heap.update p f, toks := t } := by
  have e : (s.heap.update p f).get? p = some { cls := .type "list", data := .seq its'.toArray n' } := by
    rw [Heap.get?_update_self f ho (by rw [hf] <;> rfl), hf]
  refine I.write (x := p) (e := p) (by rw [h]; trivial) (.inl rfl) (fun b u hb q => (Heap.get?_update_other _ _ (Ne.symm hb)).trans q) ⟨_, e⟩ ?_
  exact ⟨hz, its', n', r, e⟩
def rSetL : V → V → V → Hp → (Hp → Prop) → Prop := fun o i v H Q => ∃ p xs k j, o = .ref p ∧ i = .int k ∧ H p = some (.lst xs) ∧ ixN xs.length k = some j ∧ Q (upd H p (.lst (xs.set j v)))
theorem set_list : PSet X rSetL := by
  intro pins s σ H o i v ov iv u Q I ro ri rv h
  obtain ⟨p, xs, k, j, rfl, rfl, hp, hj, q⟩ := h
  cases ro
  obtain ⟨t, rfl⟩ := ri
  obtain ⟨its, n, r, ho, hz⟩ := I.lst hp
  obtain ⟨h1, h2, h3, h4⟩ := ixN_seq hj
  have hl := r.length
  have hn := line63
  have I' : Inv X pins σ (upd H p (.lst (xs.set j v))) { s with heap := s.heap.update p (Obj.mapSeq (·.setIfInBounds j u)) } :=
    I.lstUpd hp ho (mapSeq_set its n j u) (r.set rv j) (by rw [List.length_set]; exact hz) s.toks
  by_cases h0 : 0 ≤ k
  · have hk : k.toNat = j := by
      rw [seqIndex_of h0 h4] at h1
      exact Option.some.inj h1
    exact PySem.W.ki_setAt ho h0 (by omega) (by rw [List.size_toArray, ← hl]; exact h4) (by rw [hk]; exact ⟨_, I', q⟩)
  · have hk : (k + (its.toArray.size : Int)).toNat = j := by
      rw [seqIndex_neg (by omega) h3] at h1
      rw [List.size_toArray, ← hl]
      exact Option.some.inj h1
    exact PySem.W.ki_setBack ho (by omega) (by rw [List.size_toArray, ← hl]; exact h3) (by omega) (by rw [hk]; exact ⟨_, I', q⟩)
theorem slice_bounds (lo hi : Option Int) (n : Nat) : (sliceBounds lo hi none n).1 = ((HT.sIx n 0 lo : Nat) : Int) ∧ (sliceBounds lo hi none n).2.1 = ((HT.sIx n n hi : Nat) : Int) ∧ (sliceBounds lo hi none n).2.2 = 1 := by
  refine ⟨?_, ?_, rfl⟩
  · cases lo with
    | none => simp [sliceBounds, HT.sIx]
    | some i =>
      simp only [sliceBounds, HT.sIx, Option.getD_none, show (1 : Int) > 0 by decide, if_true]
      by_cases h : i < 0
      · simp only [h, if_true] <;> omega
      · simp only [h, if_false] <;> omega
  · cases hi with
    | none => simp [sliceBounds, HT.sIx]
    | some i =>
      simp only [sliceBounds, HT.sIx, Option.getD_none, show (1 : Int) > 0 by decide, if_true]
      by_cases h : i < 0
      · simp only [h, if_true] <;> omega
      · simp only [h, if_false] <;> omega
theorem slicePick_cut (its : List Value) (lo hi : Option Int) : slicePick its.toArray lo hi none = ((its.drop (HT.sIx its.length 0 lo)).take (HT.sIx its.length its.length hi - HT.sIx its.length 0 lo)).toArray := by
  obtain ⟨h1, h2, h3⟩ := slice_bounds lo hi its.toArray.size
  unfold slicePick
  rw [h1, h2, h3]
  simp only [sliceRange_one, pick_run, List.size_toArray] <;> rfl
def rSlL (K : PySem.W.Frag) : V → Option Int → Option Int → Hp → VK → Prop := fun x lo hi H Q => ∃ a xs, x = .ref a ∧ SqL K H a xs ∧ ∀ p, H p = none → Q (.ref p) (upd H p (.lst (cutV xs lo hi)))
theorem sl_list : SlR X (rSlL X.K) := by
  intro pins s σ H x v vl vu lo hi sl Q I rx hs pl pu h
  obtain ⟨a, xs, rfl, hx, q⟩ := h
  cases rx
  obtain ⟨its, r, ht, hz⟩ := I.list hx
  have hlen := r.length
  refine ⟨"list", _, slot_list_getitem.lookup, ht.isList.typeIs, ?_⟩
  refine wpAny_getItem_list_slice ht.isList hs pl pu .none (by simp) ?_ (by rw [List.size_toArray] <;> omega)
  rw [slicePick_cut, ← hlen]
  refine ⟨.ref s.heap.objs.size, _, I.laid (t' := s.toks) (o := .lst (cutV xs lo hi)) (fun b ob q => Heap.get?_push_of_some _ q) (Nat.le_refl _) ?_, rfl, q _ (I.hok.fresh (Nat.le_refl _))⟩
  exact ⟨Nat.le_trans (cutV_length xs lo hi) hz, _, 0, (r.drop (HT.sIx xs.length 0 lo)).take (HT.sIx xs.length xs.length hi - HT.sIx xs.length 0 lo), Heap.get?_push_size _ rfl⟩
theorem CallR.or {f : Value} {r r' : List V → Hp → VK → Prop} (h : CallR X f r) (h' : CallR X f r') : CallR X f (fun xs H Q => r xs H Q ∨ r' xs H Q) := by
  intro pins s σ H xs us Q I rs q
  rcases q with q | q
  · exact h pins s σ H xs us Q I rs q
  · exact h' pins s σ H xs us Q I rs q
theorem call_list_of : CallR X (.type "list") (fun xs H Q => ∃ p ys, xs = [.ref p] ∧ (SqL X.K H p ys ∨ SqT X.K H p ys) ∧ ∀ l, H l = none → Q (.ref l) (upd H l (.lst ys))) := by
  intro pins s σ H xs us Q I r h
  obtain ⟨p, ys, rfl, hq, q⟩ := h
  obtain ⟨u, rfl, rx⟩ := vals1 r
  cases rx
  have fin : ∀ (its : List Value), Vals ys its → ys.length ≤ sizeLine → ∀ (h' : Heap) (c' : Nat), (∀ b o', s.heap.get? b = some o' → h'.get? b = some o') →
      h'.get? s.heap.objs.size = some { cls := .type "list", dict := none, data := .seq its.toArray c', slots := #[] } → EP X pins σ Q (.ref s.heap.objs.size) { s with heap := h' } := fun its r' hz h' c' kp e =>
    ⟨.ref s.heap.objs.size, _, I.laid (t' := s.toks) kp (Nat.le_refl _) (show ObjOk X.prog X.w _ h' _ (.lst ys) from ⟨hz, its, c', r', e⟩), rfl, q _ (I.hok.fresh (Nat.le_refl _))⟩
  rcases hq with hq | hq
  · obtain ⟨its, r', pl, hz⟩ := I.list hq
    have hlen := r'.length
    obtain ⟨o, ho, hc, n, hd⟩ := pl.isList
    exact call_list_seq p (.inl rfl) ho hc hd (fun h' c' kp e => fin its r' hz h' c' kp e) (by simp only [List.size_toArray] <;> omega)
  · obtain ⟨its, r', pl, hz⟩ := I.tuple hq
    have hlen := r'.length
    obtain ⟨o, ho, hc, n, hd⟩ := pl
    exact call_list_seq p (.inr rfl) ho hc hd (fun h' c' kp e => fin its r' hz h' c' kp e) (by simp only [List.size_toArray] <;> omega)
def tyV (K : PySem.W.Frag) (T : String) (x : V) (H : Hp) : Prop := match x with
  | .str _ => T = "str"
  | .int _ => T = "int"
  | .ref p => (T = "list" ∧ ∃ xs, SqL K H p xs) ∨ (T = "tuple" ∧ ∃ o, K.lookup p = some o ∧ o.cls = .type "tuple" ∧ o.dict = none) ∨
      (T = "dict" ∧ ((∃ kvs, H p = some (.dK kvs)) ∨ ∃ kvs, H p = some (.dT kvs))) ∨ (T = "set" ∧ ∃ S n, H p = some (.set S n))
  | _ => False
theorem tyV_is {pins : List (Addr × Obj)} {σ : St} {H : Hp} {s : Shared} {T : String} {x : V} {v : Value} (I : Inv X pins σ H s) (r : RelV x v) (ty : tyV X.K T x H) :
    s.TypeIs v T ∧ ∀ a, v = .ref a → ∃ ob, s.heap.get? a = some ob ∧ ob.dict = none := by
  cases x with
  | str z =>
    obtain ⟨t, rfl⟩ := r
    cases (show T = "str" from ty)
    exact ⟨typeIs_str s z t, fun _ e => nomatch e⟩
  | int i =>
    obtain ⟨t, rfl⟩ := r
    cases (show T = "int" from ty)
    exact ⟨typeIs_int s i t, fun _ e => nomatch e⟩
  | ref p =>
    cases r
    rcases ty with ⟨rfl, xs, hq⟩ | ⟨rfl, o, hk, hc, hd⟩ | ⟨rfl, hk⟩ | ⟨rfl, S, n, hk⟩
    · obtain ⟨its, _, pl, _⟩ := I.list hq
      refine ⟨pl.isList.typeIs, fun a e => ?_⟩
      cases e
      obtain ⟨o, n, e, c, hd, _⟩ := pl
      exact ⟨o, e, hd⟩
    · refine ⟨⟨o, I.kIn p o hk, hc⟩, fun a e => ?_⟩
      cases e
      exact ⟨o, I.kIn _ o hk, hd⟩
    · have z : ∃ o, s.heap.get? p = some o ∧ o.ExactDict := by
        rcases hk with ⟨kvs, hk⟩ | ⟨kvs, hk⟩
        · obtain ⟨_, _, _, _, o, _, _, e, ex, _⟩ := I.hok p _ hk
          exact ⟨o, e, ex⟩
        · obtain ⟨_, _, _, _, o, _, _, e, ex, _⟩ := I.hok p _ hk
          exact ⟨o, e, ex⟩
      obtain ⟨o, e, ex⟩ := z
      refine ⟨⟨o, e, ex.1⟩, fun a e2 => ?_⟩
      cases e2
      exact ⟨o, e, ex.2.1⟩
    · obtain ⟨o, _, _, _, e, ex, _⟩ := I.hok p _ hk
      refine ⟨⟨o, e, ex.1⟩, fun a e2 => ?_⟩
      cases e2
      exact ⟨o, e, ex.2.1⟩
  | _ => exact False.elim ty
def tBM (K : PySem.W.Frag) (T : String) (r : V → List V → Hp → VK → Prop) (to : TE) (t : TA) : TE := fun σ H Q => to σ H fun x H1 => tyV K T x H1 ∧ t σ H1 fun xs H2 => r x xs H2 Q
variable {o e : Expr} {es : List Expr} {to : TE} {t : TA} {name : Str} {apos cpos : Pos} {T id : String} {r : V → List V → Hp → VK → Prop}
theorem pe_bm (pa : PlainAttrs T) (slot : Slot T name id) (hty : typeOf (.builtin id) = pure (.type "method_descriptor")) (hm : MtR X id r) (ho : PE X o to) (ha : PA X (e :: es) t)
    (hbase : attributeBase o name X.env (eval o X.env) = eval o X.env := by rfl)
    (hfew : ((backTo cpos (starEach (e :: es) X.env)).all (fun x => !x.1) && (backToKw cpos (keywordEach [] X.env)).all (fun x => x.1.isSome)
      && decide ((e :: es).length + ([] : List Keyword).length + (if ([] : List Keyword).isEmpty then 0 else 1) < 30)) = true := by rfl)
    (hline : (apos.endLine == cpos.line) = true := by rfl) (hs : starEach (e :: es) X.env = (false, eval e X.env) :: starEach es X.env := by rfl) (hplain : (backTo cpos (starEach es X.env)).any (·.1) = false := by rfl) :
    PE X (.Call (.Attribute o name apos) (e :: es) [] cpos) (tBM X.K T r to t) := by
  intro pins s σ H Q I h
  refine wpAny_Call_method_late hbase hfew hline rfl (thn (ho pins s σ H _ I h) fun v s1 ⟨x, H1, I1, r1, ty, q1⟩ => ?_)
  obtain ⟨h1, h2⟩ := tyV_is I1 r1 ty
  refine ⟨T, id, pa, slot, hty, h1, h2, ?_⟩
  have hA := ha cpos pins s1 σ H1 _ I1 q1
  rw [hs] at hA ⊢
  refine Calls.callWith_builtin (by show (false || (backTo cpos (starEach es X.env)).any (·.1)) = false; rw [hplain] <;> rfl) (Calls.evalArgs_plain ?_)
  exact thn hA fun us s2 ⟨vs, H2, I2, r2, q2⟩ => hm pins s2 σ H2 x vs v us Q I2 r1 r2 q2
end
end L2
namespace L2
open PySem PySem.Spec PyProof.Rows
def MtM (X : Cx) (id : String) (r : V → List V → Hp → VK → Prop) : Prop :=
  ∀ (pins : List (Addr × Obj)) (s : Shared) (σ : St) (H : Hp) (x : V) (xs : List V) (v : Value) (us : List Value) (Q : VK), Inv X pins σ H s → RelV x v → Vals xs us → r x xs H Q →
    wpAny (model X.prog X.w) X.A (call (.builtin id) (v :: us)) (EP X pins σ Q) X.xe s
theorem Vals.one : ∀ {x : V} {us : List Value}, Vals [x] us → ∃ u, us = [u] ∧ RelV x u
  | _, _, .cons r .nil => ⟨_, rfl, r⟩
theorem Vals.two : ∀ {x y : V} {us : List Value}, Vals [x, y] us → ∃ u v, us = [u, v] ∧ RelV x u ∧ RelV y v
  | _, _, _, .cons r (.cons q .nil) => ⟨_, _, rfl, r, q⟩
theorem Vals.zero : ∀ {us : List Value}, Vals [] us → us = []
  | _, .nil => rfl
theorem Vals.reverse {xs : List V} {us : List Value} (h : Vals xs us) : Vals xs.reverse us.reverse := by
  induction h with
  | nil => exact .nil
  | cons r t ih => rw [List.reverse_cons, List.reverse_cons]; exact Vals.append ih (.cons r .nil)
theorem Vals.rep {xs : List V} {us : List Value} (h : Vals xs us) : ∀ k : Nat, Vals (List.replicate k xs).flatten (List.replicate k us).flatten
  | 0 => .nil
  | k + 1 => by
    rw [List.replicate_succ, List.replicate_succ, List.flatten_cons, List.flatten_cons]
    exact Vals.append h (Vals.rep h k)
theorem foldl_rep (its : List Value) : ∀ (k : Nat) (acc : List Value),
    List.foldl (fun x1 x2 => x1 ++ x2) acc.toArray (List.replicate k its.toArray) = (acc ++ (List.replicate k its).flatten).toArray
  | 0, acc => by simp
  | k + 1, acc => by
    have e : acc.toArray ++ its.toArray = (acc ++ its).toArray := by simp
    have e2 : (acc ++ its) ++ (List.replicate k its).flatten = acc ++ (List.replicate (k + 1) its).flatten := by
      rw [List.replicate_succ, List.flatten_cons, List.append_assoc]
    rw [← e2, ← foldl_rep its k (acc ++ its), ← e, List.replicate_succ, List.foldl_cons]
section
variable {X : Cx} {pins : List (Addr × Obj)} {σ : St} {H : Hp} {s : Shared} {l b : Addr} {xs ys zs : List V}
theorem Inv.lset {its its' : List Value} {n : Nat} {f : Array Value → Array Value} {t' : Nat} (I : Inv X pins σ H s) (hH : H l = some (.lst xs))
    (e : s.heap.get? l = some { cls := .type "list", data := .seq its.toArray n }) (hf : f its.toArray = its'.toArray) (hv : Vals ys its') (hz : ys.length ≤ sizeLine) :
    Inv X pins σ (upd H l (.lst ys)) { s with heap := s.heap.update l (Obj.mapSeq f), toks := t' } := by
  have q := PySem.IsL.update e f
  rw [hf] at q
  refine I.write (x := l) (e := l) (by rw [hH]; exact trivial) (.inl rfl) (fun b' u hb hu => (Heap.get?_update_other s.heap (Obj.mapSeq f) (Ne.symm hb)).trans hu) ⟨_, q⟩ ?_
  exact ⟨hz, its', _, hv, q⟩
theorem Inv.lnew {its : List Value} {t' : Nat} (I : Inv X pins σ H s) (hv : Vals ys its) (hz : ys.length ≤ sizeLine) :
    Inv X pins σ (upd H s.heap.objs.size (.lst ys)) { s with heap := s.heap.push { cls := .type "list", data := .seq its.toArray }, toks := t' } :=
  I.laid (fun _ _ q => Heap.get?_push_of_some _ q) (Nat.le_refl _) ⟨hz, its, 0, hv, Heap.get?_push_size _ rfl⟩
theorem Inv.fresh (I : Inv X pins σ H s) : H s.heap.objs.size = none := I.hok.fresh (Nat.le_refl _)
theorem Inv.lstM (I : Inv X pins σ H s) (hH : H l = some (.lst xs)) : xs.length ≤ sizeLine ∧ ∃ (its : List Value) (n : Nat), Vals xs its ∧ xs.length = its.length ∧ s.heap.get? l = some { cls := .type "list", data := .seq its.toArray n } := by
  obtain ⟨z, its, n, r, e⟩ := I.hok l _ hH
  exact ⟨z, its, n, r, r.length, e⟩
theorem notLongL {n : Nat} (h : n ≤ sizeLine) : Builtin.List.listTooLong n = false := by
  unfold Builtin.List.listTooLong
  exact decide_eq_false (by omega)
end
section
variable {X : Cx}
def rAppend : V → List V → Hp → VK → Prop := fun x vs H Q => ∃ l xs y, x = .ref l ∧ vs = [y] ∧ H l = some (.lst xs) ∧ xs.length < sizeLine ∧ Q .non (upd H l (.lst (xs ++ [y])))
theorem mt_append : MtM X "list.append" rAppend := by
  intro pins s σ H x vs v us Q I rx rv h
  obtain ⟨l, xs, y, rfl, rfl, hH, hz, q⟩ := h
  cases rx
  obtain ⟨u, rfl, ru⟩ := rv.one
  obtain ⟨z, its, n, r, hl, e⟩ := I.lstM hH
  refine call_meets F.slot_list_append ⟨_, e, rfl⟩ F.entry_list_append (F.args_list_append_2 _ _) (PySem.list_append l its.toArray n u (by rw [List.size_toArray]; omega)) ⟨e, ?_⟩
  refine ⟨.non, _, I.lset (its' := its ++ [u]) hH e (by simp) (r.append (.cons ru .nil)) ?_, rfl, q⟩
  rw [List.length_append, List.length_singleton]
  omega
def rCat : R2 := fun x y H Q => ∃ l b xs zs, x = .ref l ∧ y = .ref b ∧ H l = some (.lst xs) ∧ H b = some (.lst zs) ∧ xs.length + zs.length ≤ sizeLine ∧ ∀ p, H p = none → Q (.ref p) (upd H p (.lst (xs ++ zs)))
theorem op_cat : OpR X (binaryOp .Add) rCat := by
  intro pins s σ H x y v u Q I rx ry h
  obtain ⟨l, b, xs, zs, rfl, rfl, hH, hB, hz, q⟩ := h
  cases rx
  cases ry
  obtain ⟨z, its, n, r, hl, e⟩ := I.lstM hH
  obtain ⟨z2, its2, n2, r2, hl2, e2⟩ := I.lstM hB
  refine PySem.P.add_list e e2 ?_ (by rw [List.size_toArray, List.size_toArray]; omega)
  have ea : its.toArray ++ its2.toArray = (its ++ its2).toArray := by simp
  rw [ea]
  exact ⟨.ref _, _, I.lnew (t' := s.toks) (r.append r2) (by rw [List.length_append]; omega), rfl, q _ I.fresh⟩
def rRep : R2 := fun x y H Q => ∃ l k xs, x = .ref l ∧ y = .int k ∧ H l = some (.lst xs) ∧ -(2 ^ 63) ≤ k ∧ k < 2 ^ 63 ∧ xs.length * k.toNat ≤ sizeLine ∧
  ∀ p, H p = none → Q (.ref p) (upd H p (.lst (List.replicate k.toNat xs).flatten))
theorem len_rep {α : Type} (xs : List α) (k : Nat) : (List.replicate k xs).flatten.length = k * xs.length := by
  induction k with
  | zero => simp
  | succ k ih => rw [List.replicate_succ, List.flatten_cons, List.length_append, ih, Nat.succ_mul, Nat.add_comm]
theorem op_rep : OpR X (binaryOp .Mult) rRep := by
  intro pins s σ H x y v u Q I rx ry h
  obtain ⟨l, k, xs, rfl, rfl, hH, h1, h2, hz, q⟩ := h
  cases rx
  obtain ⟨t, rfl⟩ := ry
  obtain ⟨z, its, n, r, hl, e⟩ := I.lstM hH
  have hlen : its.toArray.size * k.toNat ≤ sizeLine := by rw [List.size_toArray, ← hl]; exact hz
  have hcap : ¬ its.toArray.size * k.toNat > (2 ^ 63 - 1) / 8 := by
    have : (sizeLine : Nat) ≤ (2 ^ 63 - 1) / 8 := by decide
    omega
  have hfit : ¬ (!Builtin.List.listFitsIndex k) = true := by
    rw [fitsIndex_both h1 h2]
    exact Bool.false_ne_true
  have hlong : ¬ Builtin.List.listTooLong (its.toArray.size * k.toNat) = true := by
    rw [notLongL hlen]
    exact Bool.false_ne_true
  have hnew : List.foldl (fun x1 x2 => x1 ++ x2) #[] (List.replicate (if its.toArray.isEmpty = true then 0 else k.toNat) its.toArray) = (List.replicate k.toNat its).flatten.toArray := by
    have f0 : ∀ m : Nat, List.foldl (fun x1 x2 => x1 ++ x2) #[] (List.replicate m its.toArray) = (List.replicate m its).flatten.toArray := fun m => by
      have := foldl_rep its m []
      rw [List.nil_append] at this
      exact this
    rw [f0]
    cases its with
    | nil => simp
    | cons a r' => rw [if_neg (by simp)]
  refine wpAny_binaryOp_repeat_ref (T := "list") (U := "int") (by decide) ⟨_, e, rfl⟩ (fun s' => typeIs_int s' k t) noFill_list_mul F.fills_int_mul F.slot_int_rmul repeat_list F.slot_int_index.lookup
    (call_meets F.slot_int_rmul (typeIs_int s k t) F.entry_int_rmul (F.args_int_rmul_2 _ _) (int___rmul___int_list k t l its.toArray n)
      ⟨e, rfl, ⟨_, e, rfl⟩, call_meets F.slot_list_mul ⟨_, e, rfl⟩ F.entry_list_mul (F.args_list_mul_2 _ _) (AutoListH.list___mul___list_int_3 l its.toArray n k t hfit hcap hlong) ⟨e, ?_⟩⟩)
  rw [hnew]
  exact ⟨.ref _, _, I.lnew (t' := s.toks) (r.rep k.toNat) (by rw [len_rep, Nat.mul_comm]; exact hz), rfl, q _ I.fresh⟩
end
section
variable {prog : Program} {w : World} {A : Around} {E : Value → Shared → Prop} {s : Shared}
end
section
variable {X : Cx}
end
end L2
namespace Att
open PySem PySem.W PySem.Calls PyProof.Rows
theorem ints_of_wellAll {P : Params} {h : Heap} : ∀ (ns : List Int) (vs : List Value), WellAll P h vs (ns.map WData.int) → IntsAre vs ns := by
  intro ns
  induction ns with
  | nil =>
    intro vs w
    rw [List.map_nil] at w
    cases w
    exact .nil
  | cons n ns ih =>
    intro vs w
    rw [List.map_cons] at w
    cases w with
    | cons a b =>
      cases a
      exact .cons _ _ (ih _ b)
theorem script_of {l : OpenLaw} {n : Nat} (hn : l.most = some n) {P : Params} {h : Heap} {args : List WData} {vals : List Value}
    (hpre : l.row.toRowW.claim.pre args = true) (hwl : WellAll P h vals args) :
    ∃ a vs ns, vals = [Value.ref a] ∧ args = [WData.list (ns.map WData.int)] ∧ h.get? a = some { cls := .type "list", data := .seq vs.toArray } ∧ IntsAre vs ns ∧ ns.length ≤ n := by
  have hsh : WShape.hasAll [] args [.list .int] = true := (pre_splitW hpre).1
  have hc : l.pre.holds [] { args := args } = true := (pre_splitW hpre).2
  obtain ⟨d, r, rfl, h1, h2⟩ := hasAllW_cons hsh
  obtain rfl := hasAllW_nil h2
  obtain ⟨xs, rfl, h3⟩ := hasW_list h1
  obtain ⟨ns, rfl⟩ := items_int h3
  have hlen : ns.length ≤ n := by
    unfold OpenLaw.pre at hc
    have h4 : (WTm.not (.lt (.lit (.int (n : Int))) (.len (.arg 0)))).holds [] { args := [.list (ns.map .int)] } = true := by
      have h4 := (holds_andW hc).1
      rw [hn] at h4
      exact h4
    have h5 := condW_of h4 (w_not (w_lt w_lit (w_len_list (w_arg rfl))))
    rw [List.length_map] at h5
    refine Nat.le_of_not_lt fun q => ?_
    have q' : (n : Int) < ((ns.length : Nat) : Int) := by omega
    first
      | (rw [decide_eq_true q'] at h5; exact absurd h5 (by decide))
      | (simp at h5; omega)
  cases hwl with
  | cons w1 w2 =>
    cases w2
    cases w1 with
    | list ho hall => exact ⟨_, _, ns, rfl, rfl, ho, ints_of_wellAll ns _ hall, hlen⟩
theorem post_true (l : OpenLaw) (args : List WData) : l.row.toRowW.claim.post args (.bool true) args = true :=
  postW_of (r := l.row.toRowW) (X := (true == true))
    (show WShape.has [] (.bool true) .bool = true by first | rfl | decide | simp [WShape.has, WShape.arms, WShape.armsAll])
    (show (WTm.eq .res (.lit (.bool true))).value [] { args := args, res := some (.bool true), after := args } = some (.bool (true == true)) from w_eq_bool (w_res rfl) w_lit) rfl
theorem attach_call {l : OpenLaw} {n : Nat} {q : Program} {loose : List Str} {XP : (Str → Option Value) → Heap → Prop} {YP : World → Heap → Prop} {d : DefRec}
    (hn : l.most = some n) (hdf : d.params.defaults = [])
    (call : ∀ (w : World) (s₀ s₁ : Shared) (mg mb : Str → Option Value) (fa : Addr) (o : Obj) (pm cd doc : Value) (a : Addr) (vs : List Value) (ns : List Int),
      Ground q loose [] XP w s₀ mg mb s₁.heap → YP w s₁.heap →
      s₁.heap.get? fa = some o → o.data = .func (docDef d.name d.params d.body d.scope pm cd doc) → s₁.heap.CodeRec cd d.name → mg d.name = some (.ref fa) →
      s₁.heap.get? a = some { cls := .type "list", data := .seq vs.toArray } → IntsAre vs ns → ns.length ≤ n → s₁.gens = #[] →
      codeAny (model l.prog w) callerA (.call (.ref fa) ⟨[.ref a], []⟩) (fun r s' => r = .ok (.ret (.bool true)) ∧ OldK s₁.heap s'.heap ∧ s'.os = s₁.os ∧ AllBare s'.gens) s₁) :
    WalkO q loose XP YP l.row.toRowW d [] (fun f vs => PySem.call f vs) := by
  intro w s₀ s₁ mg mb G Y fa o pm cd doc dV kV ho hd hcd hD hmg hg args vals as hpre hlay hrd hwl hlo
  obtain rfl : dV = .none := Dflts.none hD hdf
  obtain rfl : kV = .none := Dflts.noKw hD
  obtain ⟨a, vs, ns, rfl, rfl, hobj, hints, hlen⟩ := script_of hn hpre hwl
  refine enter_call (codeAny_mono (call w s₀ s₁ mg mb fa o pm cd doc a vs ns G Y ho (fd_plain hd) hcd hmg hobj hints hlen hg) fun r s' hq => ?_)
  obtain ⟨rfl, h2, h3, h4⟩ := hq
  exact ⟨.inl ⟨.bool true, .bool true, [], rfl, fun _ => rfl, .bool true, post_true l _, fun _ => ⟨List.Pairwise.nil, fun _ hm => (nomatch hm)⟩⟩, h2, h3, h4⟩
section
variable {prog : Program} {w : World} {A : Around} {E : Value → Shared → Prop} {s : Shared} {K : Frag}
end
end Att
namespace L2
open PySem PySem.Spec PyProof.Rows
theorem vals_ints : ∀ {vs : List Value} {ns : List Int}, IntsAre vs ns → Vals (ns.map V.int) vs
  | _, _, .nil => .nil
  | _, _, .cons n t h => .cons ⟨t, rfl⟩ (vals_ints h)
def Only (H : Hp) : Prop := ∀ b, H b = none ∨ ∃ o xs, H b = some (.frz o (.lst xs))
theorem law_call {P : Program} {w : World} {K : PySem.W.Frag} {mg mb : Str → Option Value} {CX : CXT} {k : Nat} {fa a : Addr} {fd : FuncData} {x : Str} {sp : Sp} {s₁ : Shared} {vs : List Value} {ns : List Int}
    (KX : K.In s₁.heap) (hns : s₁.heap.Ns mainGlobals mg) (hb : s₁.heap.Ns builtinsNs mb) (hbb : ∀ x : Str, x ≠ "__name__" → mb x = bootBuiltins x) (hlim : s₁.heap.NoLimit) (hg : s₁.gens = #[])
    (ha : s₁.heap.get? a = some { cls := .type "list", data := .seq vs.toArray }) (hi : IntsAre vs ns) (hl : ns.length ≤ sizeLine) (hr : Room k callerA)
    (F : ∀ base : Heap, K.In base → base.Ns mainGlobals mg → FnOk P w K mg base CX k fa fd [x] sp) (hbind : ∀ (s : Shared) (u : Value), BindsTo s fd ⟨[u], []⟩ [(x, u)])
    (hsp : ∀ H : Hp, Only H → SqL K H a (ns.map V.int) → sp [.ref a] H (fun v _ => v = .bl true) fun _ _ _ => False)
    (hCX : ∀ H e s', CX [] H s₁ (fun _ _ _ => False) e s' → False) :
    codeAny (model P w) callerA (.call (.ref fa) ⟨[.ref a], []⟩) (fun r s' => r = .ok (.ret (.bool true)) ∧ OldK s₁.heap s'.heap ∧ s'.os = s₁.os ∧ AllBare s'.gens) s₁ := by
  have rv := vals_ints hi
  have lenV := hi.length
  have core : ∀ H : Hp, Only H → SqL K H a (ns.map V.int) → HOk P w H s₁.heap → (∀ b, H b ≠ none → b = a) → (H a ≠ none → K.lookup a = none) →
      codeAny (model P w) callerA (.call (.ref fa) ⟨[.ref a], []⟩) (fun r s' => r = .ok (.ret (.bool true)) ∧ OldK s₁.heap s'.heap ∧ s'.os = s₁.os ∧ AllBare s'.gens) s₁ := by
    intro H hO hS hok hA hK
    have base_of : ∀ {b : Addr} {o : Obj}, s₁.heap.get? b = some o → H b = none → (hidT s₁.heap H).get? b = some o := fun e n => hidT_get e n
    have noA : ∀ {b : Addr} {o : Obj} {es : Array DictEntry} {ep : Nat}, s₁.heap.get? b = some o → o.data = .dict es ep → H b = none := fun {b o es ep} e d => by
      cases q : H b with
      | none => rfl
      | some u =>
        have e' : b = a := hA b (by rw [q]; simp)
        subst e'
        rw [ha] at e; cases e
        have d' : Data.seq vs.toArray _ = Data.dict es ep := d
        cases d'
    have nsK : ∀ {b : Addr} {m : Str → Option Value}, s₁.heap.Ns b m → (hidT s₁.heap H).Ns b m := fun {b m} ⟨o, es, ep, e, d, r⟩ => ⟨o, es, ep, base_of e (noA e d), d, r⟩
    have hKb : K.In (hidT s₁.heap H) := fun b o e => base_of (KX b o e) (by
      cases q : H b with
      | none => rfl
      | some u =>
        have e' : b = a := hA b (by rw [q]; simp)
        subst e'
        rw [hK (by rw [q]; simp)] at e; cases e)
    have hM : Mod K mg (hidT s₁.heap H) := ⟨hKb, nsK hns, ⟨mb, nsK hb, hbb⟩, let ⟨mc, h1, h2⟩ := hlim; ⟨mc, nsK h1, h2⟩⟩
    have e0 : Env0 P w K mg (hidT s₁.heap H) callerA [] s₁ H := ⟨rfl, hM, fun b o e => of_hidT e, Nat.le_of_eq (hidT_size _ _), trivial, fun b hb => absurd (show b ∈ ([] : List Addr) from hb) (by simp), hok, .of_eq hg⟩
    refine codeAny_mono ((F _ hKb (nsK hns)).run callerA [] s₁ H ⟨[.ref a], []⟩ [.ref a] [.ref a] _ _ hr e0 (hbind s₁ (.ref a)) (.cons rfl .nil) (hsp H hO hS)) fun r s' h => ?_
    cases r with
    | error e => exact (hCX H e s' h).elim
    | ok fl =>
      cases fl with
      | next => exact False.elim h
      | brk => exact False.elim h
      | cont => exact False.elim h
      | ret u =>
        obtain ⟨v, H', os, bare, un, hok', r', q⟩ := h
        have q' : v = .bl true := q
        subst q'
        obtain rfl : u = Value.bool true := r'
        refine ⟨rfl, OldK.of_keep fun b o e => ?_, os, bare⟩
        cases q : H b with
        | none => exact un.keep b o e q (by intro z; exact absurd (show b ∈ ([] : List Addr) from z) (by simp)) (by simp)
        | some u =>
          rcases hO b with z | ⟨ob, xs, z⟩
          · rw [q] at z; cases z
          · have z2 := un.frzs b ob _ z
            obtain ⟨e1, _⟩ := hok b _ z
            obtain ⟨e2, _⟩ := hok' b _ z2
            rw [e] at e1; cases e1
            exact e2
  cases hk : K.lookup a with
  | some o =>
    have e := KX a o hk
    rw [ha] at e
    cases e
    refine core (fun _ => none) (fun _ => .inl rfl) (.inr ⟨_, vs.toArray, _, hk, rfl, rfl, rfl, by rw [List.size_toArray, lenV]; exact hl, by simpa using rv⟩) (fun b u z => by have z' : (none : Option HO) = some u := z; cases z') (fun b z => absurd rfl z) fun z => absurd rfl z
  | none =>
    refine core (fun b => if b = a then some (.frz { cls := .type "list", data := .seq vs.toArray } (.lst (ns.map V.int))) else none) (fun b => ?_) (.inl (.inr ⟨{ cls := .type "list", data := .seq vs.toArray }, if_pos rfl⟩)) (fun b u z => ?_) (fun b z => ?_) fun _ => hk
    · by_cases hb : b = a
      · exact .inr ⟨_, _, if_pos hb⟩
      · exact .inl (if_neg hb)
    · by_cases hb : b = a
      · have z' := (if_pos hb).symm.trans z
        cases z'
        subst hb
        exact ⟨ha, by rw [List.length_map]; exact hl, vs, _, rv, ha⟩
      · have z' := (if_neg hb).symm.trans z
        cases z'
    · by_cases hb : b = a
      · exact hb
      · exact absurd (if_neg hb) z
end L2
namespace L2
open PySem PySem.Spec PyProof.Rows
theorem walk_of {l : PySem.W.OpenLaw} {n k : Nat} {q : Program} {loose : List Str} {XP : (Str → Option Value) → Heap → Prop} {YP : World → Heap → Prop} {d : DefRec} {K : Params → PySem.W.Frag} {CX : World → CXT} {sp : World → Sp} {x : Str}
    (hn : l.most = some n) (hn2 : n ≤ sizeLine) (hdf : d.params.defaults = []) (hr : Room k callerA)
    (hY : ∀ (w : World) (h : Heap), YP w h → (K w.params).In h)
    (F : ∀ (w : World) (mg : Str → Option Value) (fa : Addr) (h : Heap), (K w.params).In h → h.Ns mainGlobals mg → mg d.name = some (.ref fa) →
      ∃ fd : FuncData, (∀ (s : Shared) (u : Value), BindsTo s fd ⟨[u], []⟩ [(x, u)]) ∧
        ∀ base : Heap, (K w.params).In base → base.Ns mainGlobals mg → FnOk l.prog w (K w.params) mg base (CX w) k fa fd [x] (sp w))
    (hsp : ∀ (w : World) (H : Hp) (a : Addr) (ns : List Int), ns.length ≤ n → Only H → SqL (K w.params) H a (ns.map V.int) → sp w [.ref a] H (fun v _ => v = .bl true) fun _ _ _ => False)
    (hCX : ∀ (w : World) (H : Hp) (s : Shared) (e : Value) (s' : Shared), CX w [] H s (fun _ _ _ => False) e s' → False) :
    PySem.W.WalkO q loose XP YP l.row.toRowW d [] (fun f vs => PySem.call f vs) := by
  refine Att.attach_call hn hdf fun w s₀ s₁ mg mb fa o pm cd doc a vs ns G Y ho hd hcd hmg hobj hints hlen hg => ?_
  have KX := hY w _ Y
  obtain ⟨fd, hb, hF⟩ := F w mg fa _ KX G.T.g hmg
  exact law_call KX G.T.g G.T.b G.T.builtins G.T.nolimit hg hobj hints (Nat.le_trans hlen hn2) hr hF hb (fun H hO hS => hsp w H a ns hlen hO hS) fun H e s' => hCX w H s₁ e s'
end L2
namespace L2
open PySem PySem.Spec PyProof.Rows
def defArgs (s : Stmt) : Arguments := match s with
  | .FunctionDef _ a _ _ _ _ _ _ _ _ => a
  | _ => { posonlyargs := [], args := [], vararg := none, kwonlyargs := [], kw_defaults := [], kwarg := none, defaults := [] }
def defBody (s : Stmt) : List Stmt := match s with
  | .FunctionDef _ _ b _ _ _ _ _ _ _ => b
  | _ => []
def defScope (s : Stmt) : Scope := match s with
  | .FunctionDef _ _ _ _ _ _ sc _ _ _ => sc
  | _ => { kind := .function, names := [], isGenerator := false, isCoroutine := false }
abbrev CX0 : CXT := fun _ _ _ _ _ _ => False
abbrev E0 : XK := fun _ _ _ => False
structure Fun (K : PySem.W.Frag) (x qual : Str) (st : Stmt) (f : Addr) (fd : FuncData) : Prop where
  ex : ∃ (oc : Value) (od : Option Addr) (kV doc pm : Value) (an : Option Addr) (cdv ct : Value) (osl : Array (Option Value)),
    fd = PySem.W.fnOf x qual (defArgs st) (defBody st) (defScope st) .none kV doc pm an cdv ct ∧ K.lookup f = some ⟨oc, od, .func fd, osl⟩ ∧ PySem.W.codeIn K cdv qual = true
  kp : PySem.W.keepIn K (.ref f) = true
section
variable {P : Program} {w : World} {K : PySem.W.Frag} {mg : Str → Option Value} {base : Heap}
theorem Fun.ok {x qual : Str} {st : Stmt} {f : Addr} {fd : FuncData} {N ps : List Str} {k : Nat} {sp : Sp} (F : Fun K x qual st f fd) (S : FnScope N ps (defScope st)) (len : ∀ vs H Q E, sp vs H Q E → vs.length = ps.length)
    (hbody : ∀ (cdv : Value) (A : Around) (outer : List Env) (s : Shared) (H : Hp) (vs : List V) (Q : VK) (E : XK), Room k (A.deeper (envOfC qual (defScope st) s.heap.objs.size f cdv)) → sp vs H Q E →
      ∃ t, PSs (cxOf CX0 P w K mg base N qual (defScope st) f cdv A outer s H E).nox (defBody st) t ∧ t { nx := fun _ H' => Q .non H', rt := Q } (start N vs) H) : FnOk P w K mg base CX0 (k + 1) f fd ps sp := by
  obtain ⟨oc, od, kV, doc, pm, an, cdv, ct, osl, rfl, lk, hcd⟩ := F.ex
  refine fn_of lk hcd S len fun A outer s H vs Q E hr hsp => ?_
  obtain ⟨t, h, q⟩ := hbody cdv A outer s H vs Q E hr hsp
  exact ⟨t, h.nox, q⟩
theorem Fun.binds {x qual : Str} {st : Stmt} {f : Addr} {fd : FuncData} {ps : List Str} (F : Fun K x qual st f fd)
    (h : ∀ (kV doc pm : Value) (an : Option Addr) (cdv ct : Value) (us : List Value), us.length = ps.length → bindArgs (PySem.W.fnOf x qual (defArgs st) (defBody st) (defScope st) .none kV doc pm an cdv ct) ⟨us, []⟩ = pure (ps.zip us)) : Binds K fd ps [] := by
  obtain ⟨oc, od, kV, doc, pm, an, cdv, ct, osl, rfl, lk, hcd⟩ := F.ex
  exact .all (h kV doc pm an cdv ct)
end
theorem small1000 {n : Nat} (h : n ≤ 1000) : n < sizeLine := Nat.lt_of_le_of_lt h (by decide)
section
variable {X : Cx}
end
theorem iteF {A B : Prop} (h : B) : if false = true then A else B := by
  rw [if_neg Bool.false_ne_true]
  exact h
theorem iteT {A B : Prop} (h : A) : if true = true then A else B := by
  rw [if_pos rfl]
  exact h
def Same (H H' : Hp) : Prop := ∀ b o, H b = some o → H' b = some o
theorem Same.refl (H : Hp) : Same H H := fun _ _ h => h
theorem Same.trans {H H1 H2 : Hp} (a : Same H H1) (b : Same H1 H2) : Same H H2 := fun c o h => b c o (a c o h)
theorem Same.free {H H' : Hp} (e : Same H H') {l : Addr} (h : H' l = Option.none) : H l = Option.none := by
  cases q : H l with
  | none => rfl
  | some o =>
    rw [e l o q] at h
    cases h
theorem Same.seq {K : PySem.W.Frag} {H H' : Hp} {a : Addr} {xs : List V} (e : Same H H') (h : SqL K H a xs) : SqL K H' a xs := by
  rcases h with (h | ⟨o, h⟩) | h
  · exact .inl (.inl (e _ _ h))
  · exact .inl (.inr ⟨o, e _ _ h⟩)
  · exact .inr h
end L2
namespace Zm
theorem gcd_fmod (a b : Int) : Int.gcd b (a.fmod b) = Int.gcd a b := by
  rw [Int.fmod_def, Int.gcd_comm a b, Int.mul_comm]
  exact Int.gcd_sub_mul_right_right b a (a.fdiv b)
theorem fmod_less (a : Int) {b : Int} (h : b ≠ 0) : (a.fmod b).natAbs < b.natAbs := by
  rcases Int.lt_or_gt_of_ne h with hb | hb
  · have e : a.fmod b = -((-a).fmod (-b)) := by rw [Int.neg_fmod_neg, Int.neg_neg]
    have h1 := Int.fmod_nonneg_of_pos (-a) (show 0 < -b by omega)
    have h2 := Int.fmod_lt_of_pos (-a) (show 0 < -b by omega)
    omega
  · have h1 := Int.fmod_nonneg_of_pos a hb
    have h2 := Int.fmod_lt_of_pos a hb
    omega
def gd (a b : Int) : Int := (Int.gcd a b : Nat)
theorem gd_end {a b a0 b0 : Int} (hg : gd a b = gd a0 b0) (hb : b = 0) : (if a < 0 then -a else a) = gd a0 b0 := by
  subst hb
  rw [← hg]
  unfold gd
  rw [Int.gcd_zero_right]
  split <;> omega
theorem gd_turn {a b a0 b0 : Int} (hg : gd a b = gd a0 b0) : gd b (a.fmod b) = gd a0 b0 := by
  rw [← hg]
  unfold gd
  rw [gcd_fmod]
theorem gd_abs (a b : Int) : gd (if a < 0 then -a else a) (if b < 0 then -b else b) = gd a b := by
  unfold gd
  have e1 : Int.gcd (if a < 0 then -a else a) (if b < 0 then -b else b) = Int.gcd a b := by
    split <;> split <;> simp [Int.gcd_neg, Int.neg_gcd]
  rw [e1]
theorem gd_pos {a b : Int} (h : b ≠ 0) : 0 < gd a b := by
  unfold gd
  have := Int.gcd_pos_of_ne_zero_right a h
  omega
theorem gd_le {a b : Int} (h : 0 < b) : gd a b ≤ b := by
  unfold gd
  exact Int.le_of_dvd h (Int.gcd_dvd_right a b)
def lt (t b : Int) : Int := t.fdiv (gd t b)
def lb (t b : Int) : Int := b.fdiv (gd t b)
theorem fdiv_exact {x g : Int} (hg : g ≠ 0) (h : g ∣ x) : x.fdiv g * g = x := by
  rw [Int.mul_comm]; exact Int.mul_fdiv_cancel' h
theorem lt_mul {t b : Int} (h : b ≠ 0) : lt t b * gd t b = t := by
  unfold lt
  exact fdiv_exact (by have := gd_pos (a := t) h; omega) (Int.gcd_dvd_left t b)
theorem lb_mul {t b : Int} (h : b ≠ 0) : lb t b * gd t b = b := by
  unfold lb
  exact fdiv_exact (by have := gd_pos (a := t) h; omega) (Int.gcd_dvd_right t b)
theorem lb_pos {t b : Int} (h : 0 < b) : 0 < lb t b := by
  have h1 := lb_mul (t := t) (show b ≠ 0 by omega)
  have h2 := gd_pos (a := t) (show b ≠ 0 by omega)
  rcases Int.lt_or_le 0 (lb t b) with q | q
  · exact q
  · have := Int.mul_nonpos_of_nonpos_of_nonneg q (Int.le_of_lt h2)
    omega
theorem abs_le_mul {x g : Int} (h : 0 < g) : x.natAbs ≤ (x * g).natAbs := by
  rw [Int.natAbs_mul]
  exact Nat.le_mul_of_pos_right _ (by omega)
theorem lb_le {t b : Int} (h : 0 < b) : lb t b ≤ b := by
  have h1 := lb_mul (t := t) (show b ≠ 0 by omega)
  have h2 := abs_le_mul (x := lb t b) (gd_pos (a := t) (show b ≠ 0 by omega))
  have h3 := lb_pos (t := t) h
  omega
end Zm
namespace Zw
open PySem PySem.Spec PyProof.Rows L2
def Sm (i : Int) : Prop := -(10 ^ 70) < i ∧ i < 10 ^ 70
theorem Sm.nat {i : Int} (h : Sm i) : i.natAbs < 10 ^ 70 := by
  unfold Sm at h
  omega
theorem pow300 : 10 ^ 70 ≤ 2 ^ 300 := by decide +kernel
theorem Sm.log {i : Int} (h : Sm i) : i.natAbs.log2 < 300 := by
  by_cases z : i.natAbs = 0
  · rw [z]
    decide
  · exact (Nat.log2_lt z).mpr (Nat.lt_of_lt_of_le h.nat pow300)
theorem Sm.bits {i : Int} (h : Sm i) : Builtin.Int.intBits i ≤ 2 ^ 20 := by
  have q := h.log
  have e20 : (2 : Nat) ^ 20 = 1048576 := by decide
  unfold Builtin.Int.intBits
  split <;> omega
theorem Sm.of {i : Int} (h1 : -(10 ^ 70) < i) (h2 : i < 10 ^ 70) : Sm i := ⟨h1, h2⟩
theorem Sm.abs {i : Int} {m : Nat} (h : i.natAbs ≤ m) (hm : m < 10 ^ 70) : Sm i := by
  constructor <;> omega
section
variable {X : Cx}
theorem op_mulS : OpR X (binaryOp .Mult) (rI (fun i j => Sm i ∧ Sm j) fun i j => .int (i * j)) := opI fun _ _ _ _ _ _ _ hc q => mul_int q (.of_bits hc.1.bits hc.2.bits)
theorem op_fdivL : OpR X (binaryOp .FloorDiv) (rI (fun _ j => j ≠ 0 ∧ Sm j) fun i j => .int (i.fdiv j)) :=
  opI fun _ _ _ _ _ _ _ hc q => floordiv_int hc.1 q (.inl (PyProof.noPylong_of_log2 (Nat.lt_trans hc.2.log (by decide))))
theorem isB_val {x : V} {v : Value} {b : Bool} (r : RelV x v) : PySem.plainIs v (.bool b) = true ∧ (v == Value.bool b) = decide (x = V.bl b) := by
  cases x with
  | non => cases r; exact ⟨rfl, by simp⟩
  | bl c => cases r; exact ⟨rfl, by cases c <;> cases b <;> simp⟩
  | int i => obtain ⟨t, rfl⟩ := r; exact ⟨rfl, by simp⟩
  | str i => obtain ⟨t, rfl⟩ := r; exact ⟨rfl, by simp⟩
  | byt i => obtain ⟨t, rfl⟩ := r; exact ⟨rfl, by simp⟩
  | flt i => obtain ⟨t, rfl⟩ := r; exact ⟨rfl, by simp⟩
  | ref i => cases r; exact ⟨rfl, by simp⟩
  | ty i => cases r; exact ⟨rfl, by simp⟩
theorem op_isB : OpR X (compareOp .Is) (fun x y H Q => ∃ b, y = .bl b ∧ Q (.bl (decide (x = .bl b))) H) := by
  intro pins s σ H x y v u Q I rx ry h
  obtain ⟨b, rfl, q⟩ := h
  cases ry
  obtain ⟨e1, e2⟩ := isB_val (b := b) rx
  exact wpAny_is_plain e1 (fin_bl I q e2.symm)
theorem op_notB : OpR X (compareOp .IsNot) (fun x y H Q => ∃ b, y = .bl b ∧ Q (.bl (!decide (x = .bl b))) H) := by
  intro pins s σ H x y v u Q I rx ry h
  obtain ⟨b, rfl, q⟩ := h
  cases ry
  obtain ⟨e1, e2⟩ := isB_val (b := b) rx
  exact wpAny_isNot_plain e1 (fin_bl I q (by rw [e2]))
theorem call_isT {c : String} : CallR X (.builtin "isinstance") (fun xs H Q => ∃ x t b, xs = [x, .ty c] ∧ TyOf X.K H x t ∧ PySem.W.kitOne X.K t (.type c) = some b ∧ Q (.bl b) H) := by
  intro pins s σ H xs us Q I r h
  obtain ⟨x, t, b, rfl, ty, e, q⟩ := h
  obtain ⟨u, w', rfl, rx, ry⟩ := vals2 r
  cases ry
  exact isinst_ok I rx ty e fun tk => ⟨.bl b, H, I.tok _, rfl, q⟩
end
section
variable {X : Cx}
end
section
variable {X : Cx} {pos : Pos}
end
section
variable {X : Cx}
end
theorem kitMeta_int : PySem.W.kitMeta "int" = true := by decide +kernel
theorem kitMeta_bool : PySem.W.kitMeta "bool" = true := by decide +kernel
theorem kitMeta_tuple : PySem.W.kitMeta "tuple" = true := by decide +kernel
theorem kit_same (K : PySem.W.Frag) (c : String) : PySem.W.kitOne K (.type c) (.type c) = some true := by
  unfold PySem.W.kitOne
  rw [if_pos (by simp)]
theorem kit_ne (K : PySem.W.Frag) {t c : String} {l : List Value} {b : Bool} (h : t ≠ c) (hm : PySem.W.kitMeta c = true) (hl : (fastBuiltinMro t).map (·.contains (Value.type c)) = some b) : PySem.W.kitOne K (.type t) (.type c) = some b := by
  unfold PySem.W.kitOne
  rw [if_neg (by simpa using h)]
  unfold PySem.W.kitCls
  show (if PySem.W.kitMeta c = true then PySem.W.subIn K (.type t) (.type c) else none) = some b
  rw [if_pos hm]
  exact hl
inductive Known (H : Hp) : V → Prop where
  | non : Known H .non
  | bl (b : Bool) : Known H (.bl b)
  | int (i : Int) : Known H (.int i)
  | str (x : Str) : Known H (.str x)
  | lst {p : Addr} {xs : List V} (e : H p = some (.lst xs)) : Known H (.ref p)
  | tup {p : Addr} {xs : List V} (e : H p = some (.tup xs)) : Known H (.ref p)
  | dic {p : Addr} {kvs : List (Key × V)} (e : H p = some (.dK kvs)) : Known H (.ref p)
theorem Known.same {H H' : Hp} {x : V} (h : Known H x) (s : Same H H') : Known H' x := by
  cases h with
  | non => exact .non
  | bl b => exact .bl b
  | int i => exact .int i
  | str y => exact .str y
  | lst e => exact .lst (s _ _ e)
  | tup e => exact .tup (s _ _ e)
  | dic e => exact .dic (s _ _ e)
set_option genInjectivity false in
structure FunD (K : PySem.W.Frag) (x qual : Str) (st : Stmt) (f : Addr) (fd : FuncData) : Prop where
  ex : ∃ (oc : Value) (od : Option Addr) (dV kV doc pm : Value) (an : Option Addr) (cdv ct : Value) (osl : Array (Option Value)),
    fd = PySem.W.fnOf x qual (defArgs st) (defBody st) (defScope st) dV kV doc pm an cdv ct ∧ K.lookup f = some ⟨oc, od, .func fd, osl⟩ ∧ PySem.W.codeIn K cdv qual = true
  kp : PySem.W.keepIn K (.ref f) = true
theorem FunD.ok {P : Program} {w : World} {K : PySem.W.Frag} {mg : Str → Option Value} {base : Heap} {x qual : Str} {st : Stmt} {f : Addr} {fd : FuncData} {N ps : List Str} {k : Nat} {sp : Sp} (F : FunD K x qual st f fd) (S : FnScope N ps (defScope st)) (len : ∀ vs H Q E, sp vs H Q E → vs.length = ps.length)
    (hbody : ∀ (cdv : Value) (A : Around) (outer : List Env) (s : Shared) (H : Hp) (vs : List V) (Q : VK) (E : XK), Room k (A.deeper (envOfC qual (defScope st) s.heap.objs.size f cdv)) → sp vs H Q E →
      ∃ t, PSs (cxOf CX0 P w K mg base N qual (defScope st) f cdv A outer s H E).nox (defBody st) t ∧ t { nx := fun _ H' => Q .non H', rt := Q } (start N vs) H) : FnOk P w K mg base CX0 (k + 1) f fd ps sp := by
  obtain ⟨oc, od, dV, kV, doc, pm, an, cdv, ct, osl, rfl, lk, hcd⟩ := F.ex
  refine fn_of lk hcd S len fun A outer s H vs Q E hr hsp => ?_
  obtain ⟨t, h, q⟩ := hbody cdv A outer s H vs Q E hr hsp
  exact ⟨t, h.nox, q⟩
theorem fund_mk {K : PySem.W.Frag} {x qual : Str} {st : Stmt} {f : Addr} {oc : Value} {od an : Option Addr} {osl : Array (Option Value)} {dV kV doc pm cdv ct : Value} (l : K.lookup f = some ⟨oc, od, .func (PySem.W.fnOf x qual (defArgs st) (defBody st) (defScope st) dV kV doc pm an cdv ct), osl⟩)
    (c : PySem.W.codeIn K cdv qual = true) (k : PySem.W.keepIn K (.ref f) = true) : FunD K x qual st f (PySem.W.fnOf x qual (defArgs st) (defBody st) (defScope st) dV kV doc pm an cdv ct) := ⟨⟨oc, od, dV, kV, doc, pm, an, cdv, ct, osl, rfl, l, c⟩, k⟩
set_option genInjectivity false in
structure Tx (K : PySem.W.Frag) (mg : Str → Option Value) (x : Str) (st : Stmt) (ps : List Str) where
  f : Addr
  fd : FuncData
  F : FunD K x x st f fd
  m : mg x = some (.ref f)
  b : Binds K fd ps []
section
variable {X : Cx} {k j : Nat} {x : Str} {ps : List Str} {sp : Sp} {p pos : Pos} {e : Expr} {es : List Expr} {t : TA}
end
theorem same_new {H : Hp} {p : Addr} (h : H p = none) (o : HO) : Same H (upd H p o) := fun b u q => by
  rw [upd_ne (ne_of_none q h)]
  exact q
def Fra (H : Hp) (p : Addr) (a b : Int) : Prop := H p = some (.tup [.int a, .int b])
theorem Fra.same {H H' : Hp} {p : Addr} {a b : Int} (h : Fra H p a b) (s : Same H H') : Fra H' p a b := s _ _ h
theorem Fra.new {H : Hp} {p : Addr} {a b : Int} : Fra (upd H p (.tup [.int a, .int b])) p a b := upd_same
theorem sz {n : Nat} (h : n ≤ 1000 := by exact Nat.le_of_ble_eq_true rfl) : n ≤ sizeLine := Nat.le_of_lt (small1000 h)
end Zw
namespace Zw
open PySem PySem.Spec PyProof.Rows L2
def compCx (X : Cx) (scope : Scope) (cl : List (Str × Addr)) (N' : List Str) (C : Addr) (s₀ : Shared) (H₀ : Hp) (ex : List Addr) : Cx :=
  { X with N := N', s₀ := s₀, H₀ := H₀, env := compEnvC scope cl C X.env, outer := X.stack, ex := ex, fn := fun _ => false, xe := fun _ _ => False }
theorem HOk.adopt {P : Program} {w : World} {H : Hp} {h : Heap} {a : Addr} {o : HO} (x : HOk P w H h) (hn : H a = none) (new : ObjOk P w (upd H a o) h a o) : HOk P w (upd H a o) h := fun b u e => by
  by_cases hb : b = a
  · subst hb
    rw [upd_same] at e
    cases e
    exact new
  · rw [upd_ne hb] at e
    exact (x b u e).stay (fun c v _ q => q) (fun c q => by rw [upd_ne (ne_of_none q hn)]; exact q) fun c xs q => by rw [upd_ne (ne_of_none q hn)]; exact q
section
variable {X : Cx} {elt iter tg : Expr} {scope : Scope} {pos : Pos} {cl : List (Str × Addr)} {N' : List Str} {wi : TI} {g : TG} {te : TE}
end
end Zw
namespace Zx
open PySem PySem.Spec PyProof.Rows L2 Zw
def CX1 (P : Program) (w : World) : CXT := fun outer H s E e s' => ∃ (a : Addr) (cls : Value) (H' : Hp) (B : Heap) (a0 : Value),
  e = .ref a ∧ s'.os = s.os ∧ AllBare s'.gens ∧ Un (frs outer) [] H H' s.heap s'.heap ∧ HOk P w H' B ∧ (∀ b o, s.heap.get? b = some o → H b = none → b ∉ frs outer → B.get? b = some o) ∧
  (∀ b o, s.heap.get? b = some o → b ∉ frs outer → ∃ o', B.get? b = some o') ∧ Heap.FlyingW B outer a cls a0 s'.heap ∧ E cls none H'
def PassS (X : Cx) (E : L2.St → XK) : Prop := ∀ (pins : List (Addr × Obj)) (σ : L2.St) (H : Hp) (s : Shared) (e : Value) (s' : Shared), Inv X pins σ H s → CX1 X.prog X.w X.stack H s (E σ) e s' → X.xe e s'
def MadeS (X : Cx) (E : L2.St → XK) : Prop := ∀ (pins : List (Addr × Obj)) (σ : L2.St) (H : Hp) (s : Shared) (a : Addr) (cls : Value) (vs : List Value) (h' : Heap), Inv X pins σ H s → Heap.MadeExcOf s.heap h' a cls vs → E σ cls none H → X.xe (.ref a) { s with heap := h' }
section
variable {X : Cx} {pins : List (Addr × Obj)} {σ : L2.St} {H : Hp} {s : Shared}
theorem noframe (I : Inv X pins σ H s) {b : Addr} {o : Obj} (e : X.s₀.heap.get? b = some o) (hb : b ∉ frs X.outer) : b ∉ frs X.stack := fun z => by
  rcases List.mem_cons.mp (I.stkSub b z) with q | q
  · exact absurd (Nat.lt_of_lt_of_le (Heap.lt_size e) I.ok.above) (by rw [q]; exact Nat.lt_irrefl _)
  · exact hb q
theorem stack_sub (hst : X.stack = X.env :: X.outer) {b : Addr} (hb : b ∈ frs X.outer) : b ∈ frs X.stack := by
  rw [hst]
  obtain ⟨v, h1, h2⟩ := List.mem_filterMap.mp hb
  exact List.mem_filterMap.mpr ⟨v, List.mem_cons_of_mem _ h1, h2⟩
theorem hid_ok (I : Inv X pins σ H s) : HOk X.prog X.w H (PySem.W.hideAll s.heap (frs X.stack)) := fun b u e => (I.hok b u e).stay (fun c v hc q => PySem.W.hideAll_get _ q fun z => by
    have f := I.stkFree c z
    rcases hc with y | y
    · rw [y, e] at f
      cases f
    · rw [y] at f
      cases f) (fun _ q => q) fun _ _ q => q
theorem made_ok (hst : X.stack = X.env :: X.outer) (hf : X.env.frame = some X.env.locals) (hex : X.ex = []) {E : XK} {a : Addr} {cls : Value} {vs : List Value} {h' : Heap} {Ex : Value → Shared → Prop} (I : Inv X pins σ H s) (hx : Heap.MadeExcOf s.heap h' a cls vs) (he : E cls none H) :
    wpAny (model X.prog X.w) X.A (leaving X.env (.ref a)) (fun _ s2 => CX1 X.prog X.w X.outer X.H₀ X.s₀ E (.ref a) s2) Ex { s with heap := h' } := by
  have nex : ∀ b : Addr, b ∉ X.ex := fun b z => by rw [hex] at z; cases z
  have hfr : X.A.frames = some (X.env :: X.outer) := hst ▸ I.ok.frames
  have FF : s.heap.FunFrames (PySem.W.hideAll s.heap (frs X.stack)) (X.env :: X.outer) := by
    rw [← hst]
    exact PySem.W.funFrames_hide I.stack fun v hv b hb => List.mem_filterMap.mpr ⟨v, hv, hb⟩
  refine wpAny_leaves_madeW (base := PySem.W.hideAll s.heap (frs X.stack)) (h := s.heap) (args := vs) hfr hf (fun b o q => PySem.W.of_hideAll _ q) FF hx fun h2 t fl _ _ sm => ?_
  have kB : ∀ b o, X.s₀.heap.get? b = some o → X.H₀ b = none → b ∉ frs X.outer → (PySem.W.hideAll s.heap (frs X.stack)).get? b = some o := fun b o e n hb => PySem.W.hideAll_get _ (I.base.keep b o e n hb (nex b)) (noframe I e hb)
  have tB : ∀ b o, X.s₀.heap.get? b = some o → b ∉ frs X.outer → ∃ o', (PySem.W.hideAll s.heap (frs X.stack)).get? b = some o' := fun b o e hb => by
    obtain ⟨o', e'⟩ := I.base.there b o e (nex b)
    exact ⟨o', PySem.W.hideAll_get _ e' (noframe I e hb)⟩
  have sl : ∀ b o, X.s₀.heap.get? b = some o → X.H₀ b = none → b ∈ frs X.outer → ∃ z, h2.get? b = some { o with slots := z } := fun b o e n hb => by
    obtain ⟨z, e1⟩ := I.base.slot b o e n hb (nex b)
    obtain ⟨_, o2, ho2, hd⟩ := I.funs.mem hb
    rw [e1] at ho2
    cases ho2
    obtain ⟨z3, e3⟩ := sm b { o with slots := z } (hx.keeps b _ e1) hd
    exact ⟨z3, e3⟩
  refine ⟨a, cls, H, _, _, rfl, I.os, I.bare, ⟨fun b o e n hb _ => fl.1 b o (kB b o e n hb), fun b o e n hb _ => sl b o e n hb, fun b o e n _ => I.base.free b o e n (nex b), fun b o e _ => ?_, I.base.tups, I.base.frzs, I.base.tbls⟩, hid_ok I, kB, tB, fl, he⟩
  by_cases hb : b ∈ frs X.outer
  · obtain ⟨z, q⟩ := sl b o e (I.ok.frf b hb) hb
    exact ⟨_, q⟩
  · obtain ⟨o', q⟩ := tB b o e hb
    exact ⟨o', fl.1 b o' q⟩
theorem pass_ok (hst : X.stack = X.env :: X.outer) (hf : X.env.frame = some X.env.locals) (hex : X.ex = []) {E : XK} {e : Value} {s' : Shared} {Ex : Value → Shared → Prop} (I : Inv X pins σ H s) (h : CX1 X.prog X.w X.stack H s E e s') :
    wpAny (model X.prog X.w) X.A (leaving X.env e) (fun _ s2 => CX1 X.prog X.w X.outer X.H₀ X.s₀ E e s2) Ex s' := by
  obtain ⟨a, cls, H', B, a0, rfl, os, bare, un, hok, kB0, tB0, fl0, he⟩ := h
  have nex : ∀ b : Addr, b ∉ X.ex := fun b z => by rw [hex] at z; cases z
  have hfr : X.A.frames = some (X.env :: X.outer) := hst ▸ I.ok.frames
  have fl1 : Heap.FlyingW B (X.env :: X.outer) a cls a0 s'.heap := hst ▸ fl0
  refine wpAny_leaves_onW hfr hf fl1 fun h2 fl sm => ?_
  have kB : ∀ b o, X.s₀.heap.get? b = some o → X.H₀ b = none → b ∉ frs X.outer → B.get? b = some o := fun b o e n hb => kB0 b o (I.base.keep b o e n hb (nex b)) (I.base.free b o e n (nex b)) (noframe I e hb)
  have tB : ∀ b o, X.s₀.heap.get? b = some o → b ∉ frs X.outer → ∃ o', B.get? b = some o' := fun b o e hb => by
    obtain ⟨o', e'⟩ := I.base.there b o e (nex b)
    exact tB0 b o' e' (noframe I e hb)
  have sl : ∀ b o, X.s₀.heap.get? b = some o → X.H₀ b = none → b ∈ frs X.outer → ∃ z, h2.get? b = some { o with slots := z } := fun b o e n hb => by
    obtain ⟨z, e1⟩ := I.base.slot b o e n hb (nex b)
    obtain ⟨_, o2, ho2, hd⟩ := I.funs.mem hb
    rw [e1] at ho2
    cases ho2
    obtain ⟨z2, e2⟩ := un.slot b { o with slots := z } e1 (I.base.free b o e n (nex b)) (stack_sub hst hb) (by simp)
    obtain ⟨z3, e3⟩ := sm b { o with slots := z2 } e2 hd
    exact ⟨z3, e3⟩
  refine ⟨a, cls, H', B, a0, rfl, os.trans I.os, bare, ⟨fun b o e n hb _ => fl.1 b o (kB b o e n hb), fun b o e n hb _ => sl b o e n hb, fun b o e n _ => ?_, fun b o e _ => ?_, fun b xs e => un.tups b xs (I.base.tups b xs e), fun b o u e => un.frzs b o u (I.base.frzs b o u e), fun b ps e => ?_⟩, hok, kB, tB, fl, he⟩
  · obtain ⟨o', e'⟩ := I.base.there b o e (nex b)
    exact un.free b o' e' (I.base.free b o e n (nex b)) (by simp)
  · by_cases hb : b ∈ frs X.outer
    · obtain ⟨z, q⟩ := sl b o e (I.ok.frf b hb) hb
      exact ⟨_, q⟩
    · obtain ⟨o', q⟩ := tB b o e hb
      exact ⟨o', fl.1 b o' q⟩
  · obtain ⟨m1, e1⟩ := I.base.tbls b ps e
    obtain ⟨m2, e2⟩ := un.tbls b _ e1
    exact ⟨m1 ++ m2, e2.trans (by rw [Array.append_assoc])⟩
end
section
variable {P : Program} {w : World} {K : PySem.W.Frag} {mg : Str → Option Value} {base : Heap}
theorem passD {N : List Str} {qual : Str} {sc : Scope} {f : Addr} {cd : Value} {A : Around} {outer : List Env} {s : Shared} {H : Hp} {E : XK} : PassS (cxOf (CX1 P w) P w K mg base N qual sc f cd A outer s H E) (fun _ => E) :=
  fun _ _ _ _ _ _ I h => pass_ok rfl rfl rfl I h
theorem madeD {N : List Str} {qual : Str} {sc : Scope} {f : Addr} {cd : Value} {A : Around} {outer : List Env} {s : Shared} {H : Hp} {E : XK} : MadeS (cxOf (CX1 P w) P w K mg base N qual sc f cd A outer s H E) (fun _ => E) :=
  fun _ _ _ _ _ _ _ _ I hx he => made_ok rfl rfl rfl I hx he
theorem okX {x qual : Str} {st : Stmt} {f : Addr} {fd : FuncData} {N ps : List Str} {k : Nat} {sp : Sp} (F : FunD K x qual st f fd) (S : FnScope N ps (defScope st)) (len : ∀ vs H Q E, sp vs H Q E → vs.length = ps.length)
    (hbody : ∀ (cdv : Value) (A : Around) (outer : List Env) (s : Shared) (H : Hp) (vs : List V) (Q : VK) (E : XK), Room k (A.deeper (envOfC qual (defScope st) s.heap.objs.size f cdv)) → sp vs H Q E →
      ∃ t, PSs (cxOf (CX1 P w) P w K mg base N qual (defScope st) f cdv A outer s H E) (defBody st) t ∧ t { nx := fun _ H' => Q .non H', rt := Q } (start N vs) H) : FnOk P w K mg base (CX1 P w) (k + 1) f fd ps sp := by
  obtain ⟨oc, od, dV, kV, doc, pm, an, cdv, ct, osl, rfl, lk, hcd⟩ := F.ex
  exact fn_of lk hcd S len fun A outer s H vs Q E hr hsp => hbody cdv A outer s H vs Q E hr hsp
end
set_option genInjectivity false in
structure DefX (P : Program) (w : World) (K : PySem.W.Frag) (mg : Str → Option Value) (base : Heap) (k : Nat) (x : Str) (ps : List Str) (sp : Sp) where
  f : Addr
  fd : FuncData
  ok : FnOk P w K mg base (CX1 P w) k f fd ps sp
  m : mg x = some (.ref f)
  kp : PySem.W.keepIn K (.ref f) = true
  b : Binds K fd ps []
section
variable {X : Cx} {k j : Nat} {f : Addr} {fd : FuncData} {x : Str} {ps : List Str} {sp : Sp} {p pos : Pos} {e : Expr} {es : List Expr} {t : TA} {E : L2.St → XK} {dvs : List V}
theorem run_fnX {pins : List (Addr × Obj)} {σ : L2.St} {H : Hp} {s : Shared} {Q : VK} {us ds : List Value} {vs : List V} (F : FnOk X.prog X.w X.K X.mg X.base (CX1 X.prog X.w) k f fd ps sp) (hr : Room k X.A) (hb : Binds X.K fd ps ds) (hd : Vals dvs ds) (hx : PassS X E)
    (I : Inv X pins σ H s) (r : Vals vs us) (h : sp (vs ++ dvs) H Q (E σ)) : wpAny (model X.prog X.w) X.A (call (.ref f) us) (EP X pins σ Q) X.xe s := by
  have r2 : Vals (vs ++ dvs) (us ++ ds) := r.append hd
  have hl : (us ++ ds).length = ps.length := r2.length.symm.trans (F.len _ _ _ _ h)
  refine wpAny_call (codeAny_mono (F.run X.A X.stack s H ⟨us, []⟩ (us ++ ds) (vs ++ dvs) Q (E σ) hr I.env0 (hb s us I.kIn hl) r2 h) fun r s' hq => ?_)
  cases r with
  | error v => exact hx pins σ H s v s' I hq
  | ok fl =>
    cases fl with
    | ret u => exact I.after hq
    | _ => exact False.elim hq
def tCallX (sp : Sp) (dvs : List V) (E : L2.St → XK) (t : TA) : TE := fun σ H Q => t σ H fun vs H1 => sp (vs ++ dvs) H1 Q (E σ)
theorem px (D : DefX X.prog X.w X.K X.mg X.base k x ps sp) (hr : Room j X.A) (hx : PassS X E) (ha : PA X (e :: es) t) (hk : k ≤ j := by decide) (hg : Gl X x := by rfl) (hdb : (x == ("__debug__" : Str)) = false := by decide)
    (he : starEach (e :: es) X.env = (false, eval e X.env) :: starEach es X.env := by rfl) (hpl : (backTo pos (starEach es X.env)).any (·.1) = false := by rfl) : PE X (.Call (.Name x p) (e :: es) [] pos) (tCallX sp [] E t) := by
  intro pins s σ H Q I h
  refine wpAny_Call_Name_kw (ld_glob I hg D.m ?_ hdb)
  refine PySem.W.callWith_K (h₀ := X.base) I.ok.mod.kin D.kp (thn (ha pos pins s σ H _ I h) fun us s1 ⟨vs, H1, I1, r, q⟩ => ⟨I1.kIn, ?_⟩) he hpl
  exact run_fnX D.ok (hr.mono hk) D.b .nil hx I1 r q
theorem pass00 : PassS X (fun _ => E0) := fun _ _ _ _ _ _ _ h => by
  obtain ⟨_, _, _, _, _, _, _, _, _, _, _, _, _, z⟩ := h
  exact z.elim
end
abbrev vmro : List Value := [.type "ValueError", .type "Exception", .type "BaseException", .type "object"]
structure ExcK (K : PySem.W.Frag) (C : Addr) : Prop where
  q : PySem.W.excIn K C vmro "ValueError.__new__" = true
  self : PySem.W.subIn K (.ref C) (.ref C) = some true
  cd : ∃ cd, PySem.W.clsIn K C = some cd
  ty : PySem.W.typeIn K (.ref C) = some (.type "type")
  ga : PySem.W.findIn K (.ref C) "__getattribute__" = some (some (.builtin "BaseException.__getattribute__"))
  gt : PySem.W.findIn K (.ref C) "__getattr__" = some none
  ca : PySem.W.findIn K (.ref C) "__class__" = some (some (.builtin "object.__class__"))
  ob : PySem.W.mroIn K C (.type "object") = some true
  be : PySem.W.mroIn K C (.type "BaseException") = some true
  gs : PySem.W.specialIn K (.builtin "object.__class__") "__get__" = some (some (.builtin "getset_descriptor.__get__"))
  tk : PySem.W.takesIn K (.builtin "object.__class__") = some true
structure ECls (K : PySem.W.Frag) (mg : Str → Option Value) (x : Str) where
  C : Addr
  m : mg x = some (.ref C)
  k : ExcK K C
theorem exc_in {K : PySem.W.Frag} {h : Heap} {C : Addr} {bmB : List Value} {newId : String} (X : K.In h) (q : PySem.W.excIn K C bmB newId = true) : ∃ bm N nm qn bs hd sn sub ab col dd k0 k1 k2 k3 k5 mN,
    h.get? C = some (excClassObj nm qn C N bs bm hd sn sub ab col dd k0 k1 k2 k3 k5 newId) ∧ h.Ns N mN ∧ mN "__init__" = none ∧ OwnTail h bmB bm := by
  unfold PySem.W.excIn at q
  split at q
  · rename_i dd cd sl ho
    split at q
    · rename_i C2 bm k0 k1 k2 k3 nid k5 hm hs
      simp only [Bool.not_eq_true', Bool.and_eq_true, beq_iff_eq] at q
      obtain ⟨⟨⟨⟨⟨z1, z2⟩, hdel⟩, ht⟩, hok⟩, hni⟩ := q
      subst z1
      subst z2
      obtain ⟨nm, bs, mro, nsp, qn, hd, sn, sub, ab, col, dl⟩ := cd
      dsimp only at hm hok hni hdel
      subst hm
      subst hdel
      have hsl : sl = #[k0, k1, k2, k3, some (.builtin nid), k5] := by
        obtain ⟨l⟩ := sl
        have hs' : l = [k0, k1, k2, k3, some (.builtin nid), k5] := hs
        rw [hs']
      subst hsl
      exact ⟨bm, nsp, nm, qn, bs, hd, sn, sub, ab, col, dd, k0, k1, k2, k3, k5, _, X _ _ ho, .of_isNs (PySem.W.isNs_of_in X hok), PySem.W.nsMap_none_of_in X hok hni, PySem.W.tail_of_in X ht⟩
    · exact absurd q Bool.false_ne_true
  · exact absurd q Bool.false_ne_true
section
variable {X : Cx} {x : Str} {p cpos pos : Pos} {e : Expr} {es : List Expr} {t : TA} {E : L2.St → XK}
def tRaise (C : Addr) (E : L2.St → XK) (t : TA) : TS := fun _ σ H => t σ H fun vs H1 => vs.length ≤ sizeLine ∧ E σ (.ref C) none H1
theorem ps_raise (T : ECls X.K X.mg x) (hc : X.calm = true) (hx : MadeS X E) (ha : PA X (e :: es) t) (hg : Gl X x := by rfl) (hdb : (x == ("__debug__" : Str)) = false := by decide)
    (he : starEach (e :: es) X.env = (false, eval e X.env) :: starEach es X.env := by rfl) (hpl : (backTo cpos (starEach (e :: es) X.env)).any (·.1) = false := by rfl) :
    PS X (.Raise (some (.Call (.Name x p) (e :: es) [] cpos)) none pos) (tRaise T.C E t) := by
  intro pins s σ H D I h
  obtain ⟨bm, N, nm, qn, bs, hd, sn, sub, ab, col, dd, k0, k1, k2, k3, k5, mN, hC, hN, hni, TL⟩ := exc_in I.mod.kin T.k.q
  refine wpAny_Raise_call_subT (C := T.C) (nm := nm) (q := qn) (N := N) (bs := bs) (bm := bm) (hdct := hd) (sn := sn) (sub := sub) (ab := ab) (col := col) (dd := dd) (k0 := k0) (k1 := k1) (k2 := k2) (k3 := k3) (k5 := k5) (mN := mN)
    PySem.F.excBase_ValueError (TL.hasType PySem.F.excBase_ValueError.hasBase) (I.ok.hd hc) hpl hni (ld_glob I hg T.m ⟨rfl, ?_⟩ hdb)
  have h2 := ha cpos pins s σ H _ I h
  rw [he] at h2 ⊢
  exact Calls.evalArgs_plain (thn h2 fun us s1 ⟨vs, H1, I1, r, z, q1⟩ => ⟨rfl, r.length ▸ z, I1.bk _ _ hC, hN.keeps I1.bk, TL.keeps I1.bk, fun h' a hm => hx pins σ H1 s1 a _ us h' I1 hm q1⟩)
end
section
variable {K : PySem.W.Frag} {a C : Addr}
end
section
variable {X : Cx}
end
section
variable {X : Cx} {pins : List (Addr × Obj)} {σ : L2.St} {H : Hp} {s : Shared} {xe : Value → Shared → Prop}
end
section
variable {A : Around} {E : Value → Shared → Prop} {M : Model}
end
section
variable {X : Cx} {i : Nat} {x n : Str} {np pos hpos : Pos} {body suite : List Stmt} {b₀ : Stmt} {tb th : TS} {E : L2.St → XK}
end
end Zx
set_option Elab.async false
set_option linter.all false
set_option maxRecDepth 100000
namespace Pu
open PySem PySem.Spec PyProof.Rows L2 Zw Zx
abbrev Rg := Addr → Prop
def R0 : Rg := fun _ => False
inductive Kd where
  | lst | rl | tup | rt | pin (p : Addr)
inductive T where
  | non | bl (b : Bool) | int (i : Int) | str (x : Str) | nd (o : Bool) (k : Kd) (l : List T) | dic (ks : List Int) (l : List T) | pdc (ks : List Int) (l : List T) | odc (ks : List Int) (l : List T)
abbrev T.lst (l : List T) : T := .nd false .lst l
abbrev T.own (l : List T) : T := .nd true .lst l
abbrev T.tup (l : List T) : T := .nd false .tup l
mutual
def T.share : T → T
  | .nd _ k l => .nd false k (shareL l)
  | .dic ks l => .dic ks (shareL l)
  | .pdc ks l => .pdc ks (shareL l)
  | .odc ks l => .pdc ks (shareL l)
  | .non => .non
  | .bl b => .bl b
  | .int i => .int i
  | .str x => .str x
def shareL : List T → List T
  | [] => []
  | t :: r => t.share :: shareL r
end
mutual
def T.sh : T → Bool
  | .nd o _ l => !o && shL l
  | .dic _ l => shL l
  | .pdc _ l => shL l
  | .odc _ _ => false
  | .non => true
  | .bl _ => true
  | .int _ => true
  | .str _ => true
def shL : List T → Bool
  | [] => true
  | t :: r => t.sh && shL r
end
def T.flat : T → Bool
  | .nd _ _ _ => false
  | .dic _ _ => false
  | .pdc _ _ => false
  | .odc _ _ => false
  | _ => true
theorem shareL_map : ∀ l : List T, shareL l = l.map T.share
  | [] => rfl
  | t :: r => by rw [shareL, shareL_map r]; rfl
theorem shL_all : ∀ l : List T, shL l = l.all T.sh
  | [] => rfl
  | t :: r => by rw [shL, shL_all r]; rfl
mutual
theorem sh_share : ∀ t : T, t.share.sh = true
  | .nd o k l => by
    rw [T.share, T.sh, shL_shareL l]
    rfl
  | .dic ks l => by rw [T.share, T.sh, shL_shareL l]
  | .pdc ks l => by rw [T.share, T.sh, shL_shareL l]
  | .odc ks l => by rw [T.share, T.sh, shL_shareL l]
  | .non => rfl
  | .bl _ => rfl
  | .int _ => rfl
  | .str _ => rfl
theorem shL_shareL : ∀ l : List T, shL (shareL l) = true
  | [] => rfl
  | t :: r => by rw [shareL, shL, sh_share t, shL_shareL r]; rfl
end
theorem shL_get {l : List T} (h : shL l = true) {i : Nat} {t : T} (e : l[i]? = some t) : t.sh = true := by
  rw [shL_all] at h
  exact List.all_eq_true.mp h _ (List.mem_of_getElem? e)
def NodeS (K : PySem.W.Frag) (F : Hp) (k : Kd) (p : Addr) (xs : List V) : Prop := match k with
  | .lst => F p = some (.lst xs)
  | .rl => SqL K F p xs
  | .tup => F p = some (.tup xs)
  | .rt => SqT K F p xs
  | .pin _ => F p = some (.lst xs)
theorem seqT_same {K : PySem.W.Frag} {F F' : Hp} {p : Addr} {xs : List V} (s : Same F F') (h : SqT K F p xs) : SqT K F' p xs := by
  rcases h with (h | ⟨o, h⟩) | h
  · exact .inl (.inl (s _ _ h))
  · exact .inl (.inr ⟨o, s _ _ h⟩)
  · exact .inr h
theorem NodeS.same {K : PySem.W.Frag} {F F' : Hp} {k : Kd} {p : Addr} {xs : List V} (h : NodeS K F k p xs) (s : Same F F') : NodeS K F' k p xs := by
  cases k with
  | lst => exact s _ _ h
  | rl => exact s.seq h
  | tup => exact s _ _ h
  | rt => exact seqT_same s h
  | pin q => exact s _ _ h
def OwnK (k : Kd) (p : Addr) : Prop := match k with
  | .lst => True
  | .pin q => q = p
  | _ => False
theorem OwnK.node {K : PySem.W.Frag} {F : Hp} {k : Kd} {p : Addr} {xs : List V} (hk : OwnK k p) (h : F p = some (.lst xs)) : NodeS K F k p xs := by
  cases k with
  | lst => exact h
  | pin q => exact h
  | _ => exact hk.elim
def kvK (ks : List Int) (xs : List V) : List (Key × V) := List.zipWith (fun k x => (Sum.inl k, x)) ks xs
inductive Rp (K : PySem.W.Frag) (F H : Hp) : T → V → Rg → Prop where
  | non : Rp K F H .non .non R0
  | bl (b : Bool) : Rp K F H (.bl b) (.bl b) R0
  | int (i : Int) : Rp K F H (.int i) (.int i) R0
  | str (x : Str) : Rp K F H (.str x) (.str x) R0
  | shr {k : Kd} {p : Addr} {xs : List V} {l : List T} (h : NodeS K F k p xs) (e : l.length = xs.length) (c : ∀ (i : Nat) (t : T) (x : V), l[i]? = some t → xs[i]? = some x → Rp K F H t x R0) : Rp K F H (.nd false k l) (.ref p) R0
  | dic {p : Addr} {ob : Obj} {ks : List Int} {xs : List V} {l : List T} (h : F p = some (.frz ob (.dK (kvK ks xs)))) (e : l.length = xs.length) (ek : ks.length = xs.length) (c : ∀ (i : Nat) (t : T) (x : V), l[i]? = some t → xs[i]? = some x → Rp K F H t x R0) : Rp K F H (.dic ks l) (.ref p) R0
  | pdc {p : Addr} {ks : List Int} {xs : List V} {l : List T} (h : F p = some (.dK (kvK ks xs))) (e : l.length = xs.length) (ek : ks.length = xs.length) (c : ∀ (i : Nat) (t : T) (x : V), l[i]? = some t → xs[i]? = some x → Rp K F H t x R0) : Rp K F H (.pdc ks l) (.ref p) R0
  | odc {p : Addr} {ks : List Int} {xs : List V} {l : List T} (f : F p = none) (h : H p = some (.dK (kvK ks xs))) (e : l.length = xs.length) (ek : ks.length = xs.length) (c : ∀ (i : Nat) (t : T) (x : V), l[i]? = some t → xs[i]? = some x → Rp K F H t x R0) : Rp K F H (.odc ks l) (.ref p) (fun a => a = p)
  | own {k : Kd} {p : Addr} {xs : List V} {l : List T} (hk : OwnK k p) (R : Nat → Rg) (f : F p = none) (h : H p = some (.lst xs)) (e : l.length = xs.length) (c : ∀ (i : Nat) (t : T) (x : V), l[i]? = some t → xs[i]? = some x → Rp K F H t x (R i))
      (d : ∀ i j a, i ≠ j → R i a → ¬ R j a) (dp : ∀ i, ¬ R i p) (o : ∀ i a, R i a → i < l.length) : Rp K F H (.nd true k l) (.ref p) (fun a => a = p ∨ ∃ i, R i a)
section
variable {K : PySem.W.Frag} {F F' H H' : Hp} {t : T} {x : V} {A : Rg}
theorem Rp.frame (h : Rp K F H t x A) (s : Same F F') (k : ∀ a, A a → H' a = H a ∧ F' a = none) : Rp K F' H' t x A := by
  induction h with
  | non => exact .non
  | bl b => exact .bl b
  | int i => exact .int i
  | str y => exact .str y
  | shr h e c ih => exact .shr (h.same s) e fun i t x h1 h2 => ih i t x h1 h2 fun a z => z.elim
  | dic h e ek c ih => exact .dic (s _ _ h) e ek fun i t x h1 h2 => ih i t x h1 h2 fun a z => z.elim
  | pdc h e ek c ih => exact .pdc (s _ _ h) e ek fun i t x h1 h2 => ih i t x h1 h2 fun a z => z.elim
  | odc f h e ek c ih =>
    have q := k _ rfl
    exact .odc q.2 (q.1.trans h) e ek fun i t x h1 h2 => ih i t x h1 h2 fun a z => z.elim
  | own hk R f h e c d dp o ih =>
    have q := k _ (.inl rfl)
    exact .own hk R q.2 (q.1.trans h) e (fun i t x h1 h2 => ih i t x h1 h2 fun a z => k a (.inr ⟨i, z⟩)) d dp o
theorem Rp.dom (h : Rp K F H t x A) {a : Addr} (ha : A a) : F a = none ∧ ∃ u, H a = some u := by
  induction h with
  | non => exact ha.elim
  | bl b => exact ha.elim
  | int i => exact ha.elim
  | str y => exact ha.elim
  | shr h e c ih => exact ha.elim
  | dic h e ek c ih => exact ha.elim
  | pdc h e ek c ih => exact ha.elim
  | odc f h e ek c ih =>
    cases ha
    exact ⟨f, _, h⟩
  | @own k0 p xs l hk R f h e c d dp o ih =>
    rcases ha with rfl | ⟨i, z⟩
    · exact ⟨f, _, h⟩
    · have hi := o i a z
      have hx : i < xs.length := by omega
      exact ih i _ _ (List.getElem?_eq_getElem hi) (List.getElem?_eq_getElem hx) z
theorem Rp.share (h : Rp K F H t x A) (s : Same F F') (k : ∀ a u, A a → H a = some u → F' a = some u) : Rp K F' H' t.share x R0 := by
  induction h with
  | non => exact .non
  | bl b => exact .bl b
  | int i => exact .int i
  | str y => exact .str y
  | @shr k0 p xs l h e c ih =>
    rw [T.share, shareL_map]
    refine .shr (h.same s) (by rw [List.length_map]; exact e) fun i t x h1 h2 => ?_
    rw [List.getElem?_map] at h1
    obtain ⟨t0, e0, rfl⟩ := Option.map_eq_some_iff.mp h1
    exact ih i t0 x e0 h2 fun a u z => z.elim
  | @dic p ob ks xs l h e ek c ih =>
    rw [T.share, shareL_map]
    refine .dic (s _ _ h) (by rw [List.length_map]; exact e) ek fun i t x h1 h2 => ?_
    rw [List.getElem?_map] at h1
    obtain ⟨t0, e0, rfl⟩ := Option.map_eq_some_iff.mp h1
    exact ih i t0 x e0 h2 fun a u z => z.elim
  | @pdc p ks xs l h e ek c ih =>
    rw [T.share, shareL_map]
    refine .pdc (s _ _ h) (by rw [List.length_map]; exact e) ek fun i t x h1 h2 => ?_
    rw [List.getElem?_map] at h1
    obtain ⟨t0, e0, rfl⟩ := Option.map_eq_some_iff.mp h1
    exact ih i t0 x e0 h2 fun a u z => z.elim
  | @odc p ks xs l f h e ek c ih =>
    rw [T.share, shareL_map]
    refine .pdc (k _ _ rfl h) (by rw [List.length_map]; exact e) ek fun i t x h1 h2 => ?_
    rw [List.getElem?_map] at h1
    obtain ⟨t0, e0, rfl⟩ := Option.map_eq_some_iff.mp h1
    exact ih i t0 x e0 h2 fun a u z => z.elim
  | @own k0 p xs l hk R f h e c d dp o ih =>
    rw [T.share, shareL_map]
    refine .shr (k := k0) (xs := xs) (hk.node (k _ _ (.inl rfl) h)) (by rw [List.length_map]; exact e) fun i t x h1 h2 => ?_
    rw [List.getElem?_map] at h1
    obtain ⟨t0, e0, rfl⟩ := Option.map_eq_some_iff.mp h1
    exact ih i t0 x e0 h2 fun a u z => k a u (.inr ⟨i, z⟩)
theorem Rp.r0 (h : Rp K F H t x A) (s : t.sh = true) : A = R0 := by
  cases h with
  | own hk R f h e c d dp o =>
    rw [T.sh] at s
    cases s
  | odc f h e ek c =>
    rw [T.sh] at s
    cases s
  | _ => rfl
theorem Rp.move (h : Rp K F H t x A) (s : t.sh = true) (q : Same F F') : Rp K F' H' t x R0 := by
  have e := h.r0 s
  subst e
  exact h.frame q fun a z => z.elim
theorem Rp.flat_any (h : Rp K F H t x A) (s : t.flat = true) : Rp K F' H' t x R0 := by
  cases h with
  | non => exact .non
  | bl b => exact .bl b
  | int i => exact .int i
  | str y => exact .str y
  | shr h e c => cases s
  | dic h e ek c => cases s
  | pdc h e ek c => cases s
  | odc f h e ek c => cases s
  | own hk R f h e c d dp o => cases s
theorem Rp.int_inv {i : Int} (h : Rp K F H (.int i) x A) : x = .int i := by cases h; rfl
theorem Rp.bl_inv {b : Bool} (h : Rp K F H (.bl b) x A) : x = .bl b := by cases h; rfl
theorem Rp.non_inv (h : Rp K F H .non x A) : x = .non := by cases h; rfl
theorem Rp.str_inv {y : Str} (h : Rp K F H (.str y) x A) : x = .str y := by cases h; rfl
end
def Rps (K : PySem.W.Frag) (F : Hp) (ts : List T) (xs : List V) : Prop := ts.length = xs.length ∧ ∀ (i : Nat) (t : T) (x : V), ts[i]? = some t → xs[i]? = some x → Rp K F F t x R0
theorem Rps.nil {K : PySem.W.Frag} {F : Hp} : Rps K F [] [] := ⟨rfl, fun i t x h => by simp at h⟩
theorem Rp.any {K : PySem.W.Frag} {F H H' : Hp} {t : T} {x : V} (h : Rp K F H t x R0) : Rp K F H' t x R0 := h.frame (Same.refl F) fun a z => z.elim
theorem Rps.cons {K : PySem.W.Frag} {F H : Hp} {t : T} {x : V} {ts : List T} {xs : List V} (h : Rp K F H t x R0) (r : Rps K F ts xs) : Rps K F (t :: ts) (x :: xs) := by
  refine ⟨by simp [r.1], fun i t' x' h1 h2 => ?_⟩
  cases i with
  | zero =>
    simp at h1 h2
    subst h1; subst h2
    exact h.any
  | succ j => exact r.2 j t' x' (by simpa using h1) (by simpa using h2)
theorem Rps.inv {K : PySem.W.Frag} {F : Hp} {t : T} {ts : List T} {xs : List V} (r : Rps K F (t :: ts) xs) : ∃ x xs', xs = x :: xs' ∧ Rp K F F t x R0 ∧ Rps K F ts xs' := by
  obtain ⟨e, h⟩ := r
  cases xs with
  | nil => simp at e
  | cons x xs' => exact ⟨x, xs', rfl, h 0 t x rfl rfl, by simpa using e, fun i t' x' h1 h2 => h (i + 1) t' x' (by simpa using h1) (by simpa using h2)⟩
theorem Rps.inv0 {K : PySem.W.Frag} {F : Hp} {xs : List V} (r : Rps K F [] xs) : xs = [] := by
  obtain ⟨e, h⟩ := r
  cases xs with
  | nil => rfl
  | cons x xs' => simp at e
theorem Rps.same {K : PySem.W.Frag} {F F' : Hp} {ts : List T} {xs : List V} (r : Rps K F ts xs) (s : Same F F') : Rps K F' ts xs := ⟨r.1, fun i t x h1 h2 => ((r.2 i t x h1 h2).frame (H' := F') s fun a z => z.elim)⟩
theorem Rps.node {K : PySem.W.Frag} {F H : Hp} {k : Kd} {p : Addr} {l : List T} {A : Rg} (h : Rp K F H (.nd false k l) (.ref p) A) : ∃ xs, NodeS K F k p xs ∧ Rps K F l xs := by
  cases h with
  | shr h e c => exact ⟨_, h, e, fun i t x h1 h2 => (c i t x h1 h2).any⟩
theorem Rp.ref_inv {K : PySem.W.Frag} {F H : Hp} {o : Bool} {k : Kd} {l : List T} {x : V} {A : Rg} (h : Rp K F H (.nd o k l) x A) : ∃ p, x = .ref p := by
  cases h with
  | shr h e c => exact ⟨_, rfl⟩
  | own hk R f h e c d dp o => exact ⟨_, rfl⟩
theorem Rps.of_node {K : PySem.W.Frag} {F H : Hp} {k : Kd} {p : Addr} {l : List T} {xs : List V} (h : NodeS K F k p xs) (r : Rps K F l xs) : Rp K F H (.nd false k l) (.ref p) R0 := .shr h r.1 fun i t x h1 h2 => (r.2 i t x h1 h2).any
structure Ext (F H F' H' : Hp) (B : Rg) : Prop where
  hh : Same H H'
  ff : Same F F'
  fh : Same F' H'
  nb : ∀ b, B b → H b = none
  nf : ∀ b u, F' b = some u → F b = some u ∨ H b = none
theorem none_of_same {H H' : Hp} (s : Same H H') {b : Addr} (h : H' b = none) : H b = none := by
  cases e : H b with
  | none => rfl
  | some u => rw [s b u e] at h; cases h
section
variable {F H F1 H1 F2 H2 : Hp} {B C : Rg}
theorem Ext.refl (s : Same F H) : Ext F H F H R0 := ⟨.refl _, .refl _, s, fun _ z => z.elim, fun _ _ e => .inl e⟩
theorem Ext.trans (a : Ext F H F1 H1 B) (b : Ext F1 H1 F2 H2 C) : Ext F H F2 H2 (fun x => B x ∨ C x) where
  hh := a.hh.trans b.hh
  ff := a.ff.trans b.ff
  fh := b.fh
  nb := fun x z => z.elim (a.nb x) fun z => none_of_same a.hh (b.nb x z)
  nf := fun x u e => (b.nf x u e).elim (a.nf x u) fun z => .inr (none_of_same a.hh z)
theorem Ext.mono (a : Ext F H F1 H1 B) (h : ∀ x, C x → B x) : Ext F H F1 H1 C := ⟨a.hh, a.ff, a.fh, fun x z => a.nb x (h x z), a.nf⟩
theorem Ext.trans0 (a : Ext F H F1 H1 R0) (b : Ext F1 H1 F2 H2 C) : Ext F H F2 H2 C := (a.trans b).mono fun x z => .inr z
open Classical in
noncomputable def frz (F H : Hp) (A : Rg) : Hp := fun b => if A b then H b else F b
theorem frz_in {A : Rg} {b : Addr} (h : A b) : frz F H A b = H b := by unfold frz; rw [if_pos h]
theorem frz_out {A : Rg} {b : Addr} (h : ¬ A b) : frz F H A b = F b := by unfold frz; rw [if_neg h]
theorem frz_ff {A : Rg} (n : ∀ a, A a → F a = none) : Same F (frz F H A) := fun b u e => by
  by_cases h : A b
  · rw [n b h] at e; cases e
  · rw [frz_out h]; exact e
theorem frz_fh {A : Rg} (s : Same F H) : Same (frz F H A) H := fun b u e => by
  by_cases h : A b
  · rw [frz_in h] at e; exact e
  · rw [frz_out h] at e; exact s b u e
theorem Ext.frz (a : Ext F H F1 H1 B) (n : ∀ b, B b → F1 b = none) : Ext F H (frz F1 H1 B) H1 R0 where
  hh := a.hh
  ff := a.ff.trans (frz_ff n)
  fh := frz_fh a.fh
  nb := fun _ z => z.elim
  nf := fun b u e => by
    by_cases h : B b
    · exact .inr (a.nb b h)
    · rw [frz_out h] at e; exact a.nf b u e
theorem Rp.ext {K : PySem.W.Frag} {t : T} {x : V} {A : Rg} (h : Rp K F H t x A) (a : Ext F H F1 H1 B) : Rp K F1 H1 t x A := h.frame a.ff fun b z => by
  obtain ⟨f, u, e⟩ := h.dom z
  refine ⟨(a.hh b u e).trans e.symm, ?_⟩
  cases q : F1 b with
  | none => rfl
  | some u' =>
    rcases a.nf b u' q with z | z
    · rw [f] at z; cases z
    · rw [e] at z; cases z
theorem Rp.apart {K : PySem.W.Frag} {t : T} {x : V} {A : Rg} (h : Rp K F H t x A) (a : Ext F H F1 H1 B) {b : Addr} (hb : B b) : ¬ A b := fun z => by
  obtain ⟨f, u, e⟩ := h.dom z
  rw [a.nb b hb] at e
  cases e
theorem Ext.new {p : Addr} {o : HO} (s : Same F H) (h : H p = none) : Ext F H (upd F p o) (upd H p o) R0 where
  hh := same_new h o
  ff := same_new (none_of_same s h) o
  fh := fun b u e => by
    by_cases hb : b = p
    · subst hb; rw [upd_same] at e ⊢; exact e
    · rw [upd_ne hb] at e ⊢; exact s b u e
  nb := fun _ z => z.elim
  nf := fun b u e => by
    by_cases hb : b = p
    · subst hb; exact .inr h
    · rw [upd_ne hb] at e; exact .inl e
theorem Ext.newO {p : Addr} {o : HO} (s : Same F H) (h : H p = none) : Ext F H F (upd H p o) (fun a => a = p) where
  hh := same_new h o
  ff := .refl _
  fh := fun b u e => same_new h o b u (s b u e)
  nb := fun b z => by rw [z]; exact h
  nf := fun b u e => .inl e
end
abbrev PSt := List (Option T)
structure StR (K : PySem.W.Frag) (F H : Hp) (σ : L2.St) (τ : PSt) (R : Nat → Rg) : Prop where
  fh : Same F H
  len : σ.length = τ.length
  rep : ∀ i t, τ[i]? = some (some t) → ∃ x, σ[i]? = some (some x) ∧ Rp K F H t x (R i)
  out : ∀ i a, R i a → ∃ t, τ[i]? = some (some t)
  dis : ∀ i j a, i ≠ j → R i a → ¬ R j a
section
variable {K : PySem.W.Frag} {F H F1 H1 : Hp} {σ : L2.St} {τ : PSt} {R : Nat → Rg} {B : Rg}
theorem StR.dom (h : StR K F H σ τ R) {i : Nat} {a : Addr} (ha : R i a) : F a = none ∧ ∃ u, H a = some u := by
  obtain ⟨t, e⟩ := h.out i a ha
  obtain ⟨x, _, r⟩ := h.rep i t e
  exact r.dom ha
theorem StR.ext (h : StR K F H σ τ R) (a : Ext F H F1 H1 B) : StR K F1 H1 σ τ R where
  fh := a.fh
  len := h.len
  rep := fun i t e => by
    obtain ⟨x, e1, r⟩ := h.rep i t e
    exact ⟨x, e1, r.ext a⟩
  out := h.out
  dis := h.dis
theorem StR.apart (h : StR K F H σ τ R) (a : Ext F H F1 H1 B) {b : Addr} (hb : B b) (i : Nat) : ¬ R i b := fun z => by
  obtain ⟨f, u, e⟩ := h.dom z
  rw [a.nb b hb] at e
  cases e
end
end Pu
set_option Elab.async false
set_option linter.all false
set_option maxRecDepth 100000
namespace Pu
open PySem PySem.Spec PyProof.Rows L2 Zw Zx
mutual
def T.data : T → PyData
  | .non => .none
  | .bl b => .bool b
  | .int i => .int i
  | .str x => .str x
  | .nd _ .lst l => .list (dataL l)
  | .nd _ .rl l => .list (dataL l)
  | .nd _ .tup l => .tuple (dataL l)
  | .nd _ .rt l => .tuple (dataL l)
  | .nd _ (.pin _) l => .list (dataL l)
  | .dic ks l => .dict ((ks.map PyData.int).zip (dataL l))
  | .pdc ks l => .dict ((ks.map PyData.int).zip (dataL l))
  | .odc ks l => .dict ((ks.map PyData.int).zip (dataL l))
def dataL : List T → List PyData
  | [] => []
  | t :: r => t.data :: dataL r
end
theorem readsAll_of {h : Heap} : ∀ {l : List T} {us : List Value}, l.length = us.length → (∀ (i : Nat) (t : T) (u : Value), l[i]? = some t → us[i]? = some u → ∃ as, Reads h u t.data as) → ∃ as, ReadsAll h us (dataL l) as
  | [], [], _, _ => ⟨_, .nil⟩
  | [], _ :: _, e, _ => by simp at e
  | _ :: _, [], e, _ => by simp at e
  | t :: l, u :: us, e, f => by
    obtain ⟨a1, r1⟩ := f 0 t u rfl rfl
    obtain ⟨a2, r2⟩ := readsAll_of (l := l) (us := us) (by simpa using e) fun i t' u' h1 h2 => f (i + 1) t' u' (by simpa using h1) (by simpa using h2)
    exact ⟨_, .cons r1 r2⟩
def keyD : Key → PyData
  | .inl i => .int i
  | .inr x => .str x
theorem key_reads {P : Program} {w : World} {h : Heap} {k : Key} {v : Value} (e : (mixKind P w).is k v = true) : Reads h v (keyD k) [] := by
  rcases keyIs_shape (show keyIs k v = true from e) with ⟨i, t, rfl, rfl⟩ | ⟨x, t, rfl, rfl⟩
  · exact .int i t
  · exact .str x t
theorem pairs_read {h : Heap} : ∀ (ks : List Int) (xs : List V) (l : List T) (vs : List (Key × Value)), KV (kvK ks xs) vs → l.length = xs.length → ks.length = xs.length → (∀ (i : Nat) (t : T) (x : V), l[i]? = some t → xs[i]? = some x → ∀ {u : Value}, RelV x u → ∃ as, Reads h u t.data as) →
    ∃ bs, PyProof.V.PairsRead h keyD vs ((ks.map PyData.int).zip (dataL l)) bs
  | [], xs, l, vs, r, _, _, _ => by
    have r' : Paired _ [] vs := (show Paired _ (kvK [] xs) vs from r)
    cases r'
    exact ⟨_, .nil⟩
  | k :: ks, [], l, vs, r, _, ek, _ => by simp at ek
  | k :: ks, x :: xs, [], vs, r, e, _, _ => by simp at e
  | k :: ks, x :: xs, t :: l, vs, r, e, ek, f => by
    have r' : Paired (fun (p : Key × V) (q : Key × Value) => p.1 = q.1 ∧ RelV p.2 q.2) ((Sum.inl k, x) :: kvK ks xs) vs := r
    cases r' with
    | @cons _ q _ qs hd tl =>
      obtain ⟨a1, r1⟩ := f 0 t x rfl rfl hd.2
      obtain ⟨a2, r2⟩ := pairs_read ks xs l qs tl (by simpa using e) (by simpa using ek) fun i t' x' h1 h2 => f (i + 1) t' x' (by simpa using h1) (by simpa using h2)
      obtain ⟨q1, q2⟩ := q
      cases (show Sum.inl k = q1 from hd.1)
      exact ⟨_, .cons r1 r2⟩
section
variable {X : Cx} {pins : List (Addr × Obj)} {σ : L2.St} {F H : Hp} {s : Shared}
theorem rp_reads (I : Inv X pins σ H s) (fh : Same F H) {t : T} {x : V} {A : Rg} (h : Rp X.K F H t x A) : ∀ {u : Value}, RelV x u → ∃ as, Reads s.heap u t.data as := by
  have kids : ∀ {l : List T} {xs : List V} {its : List Value}, Vals xs its → l.length = xs.length → (∀ (i : Nat) (t : T) (x : V), l[i]? = some t → xs[i]? = some x → ∀ {u : Value}, RelV x u → ∃ as, Reads s.heap u t.data as) → ∃ as, ReadsAll s.heap its (dataL l) as := by
    intro l xs its r e ih
    refine readsAll_of (e.trans r.length) fun i t u h1 h2 => ?_
    have hi : i < xs.length := by
      have := (List.getElem?_eq_some_iff.mp h1).1
      omega
    obtain ⟨u', e1, r1⟩ := r.get (List.getElem?_eq_getElem hi)
    rw [h2] at e1
    cases e1
    exact ih i t _ h1 (List.getElem?_eq_getElem hi) r1
  have lsts : ∀ {p : Addr} {l : List T} {xs : List V}, SqL X.K H p xs → l.length = xs.length → (∀ (i : Nat) (t : T) (x : V), l[i]? = some t → xs[i]? = some x → ∀ {u : Value}, RelV x u → ∃ as, Reads s.heap u t.data as) → ∃ as, Reads s.heap (.ref p) (.list (dataL l)) as := by
    intro p l xs hq e ih
    obtain ⟨its, r, ⟨o, n, e1, e2, e3, e4⟩, _⟩ := I.list hq
    obtain ⟨as, ra⟩ := kids r e ih
    exact ⟨_, .list e1 e2 e4 (by simpa using ra)⟩
  have tups : ∀ {p : Addr} {l : List T} {xs : List V}, SqT X.K H p xs → l.length = xs.length → (∀ (i : Nat) (t : T) (x : V), l[i]? = some t → xs[i]? = some x → ∀ {u : Value}, RelV x u → ∃ as, Reads s.heap u t.data as) → ∃ as, Reads s.heap (.ref p) (.tuple (dataL l)) as := by
    intro p l xs hq e ih
    obtain ⟨its, r, ⟨o, e1, e2, n, e4⟩, _⟩ := I.tuple hq
    obtain ⟨as, ra⟩ := kids r e ih
    exact ⟨_, .tuple e1 e2 e4 (by simpa using ra)⟩
  induction h with
  | non => intro u r; cases r; exact ⟨_, .none⟩
  | bl b => intro u r; cases r; exact ⟨_, .bool b⟩
  | int i => intro u r; obtain ⟨t, rfl⟩ := r; exact ⟨_, .int i t⟩
  | str y => intro u r; obtain ⟨t, rfl⟩ := r; exact ⟨_, .str y t⟩
  | @shr k p xs l h e c ih =>
    intro u r
    cases r
    cases k with
    | lst => exact lsts (SqL.of (fh _ _ h)) e ih
    | rl => exact lsts (fh.seq h) e ih
    | tup => exact tups (SqT.of (fh _ _ h)) e ih
    | rt => exact tups (seqT_same fh h) e ih
    | pin q => exact lsts (SqL.of (fh _ _ h)) e ih
  | @dic p ob ks xs l h e ek c ih =>
    intro u r
    cases r
    obtain ⟨ho, z, hd, vs, rel, dd⟩ := (show ObjOk X.prog X.w H s.heap p (.frz ob (.dK (kvK ks xs))) from I.hok p _ (fh _ _ h))
    obtain ⟨bs, pr⟩ := pairs_read ks xs l vs rel e ek ih
    exact ⟨_, PyProof.V.reads_dictOf (fun k v q => key_reads q) dd pr⟩
  | @pdc p ks xs l h e ek c ih =>
    intro u r
    cases r
    obtain ⟨z, hd, vs, rel, dd⟩ := (show ObjOk X.prog X.w H s.heap p (.dK (kvK ks xs)) from I.hok p _ (fh _ _ h))
    obtain ⟨bs, pr⟩ := pairs_read ks xs l vs rel e ek ih
    exact ⟨_, PyProof.V.reads_dictOf (fun k v q => key_reads q) dd pr⟩
  | @odc p ks xs l f h e ek c ih =>
    intro u r
    cases r
    obtain ⟨z, hd, vs, rel, dd⟩ := (show ObjOk X.prog X.w H s.heap p (.dK (kvK ks xs)) from I.hok p _ h)
    obtain ⟨bs, pr⟩ := pairs_read ks xs l vs rel e ek ih
    exact ⟨_, PyProof.V.reads_dictOf (fun k v q => key_reads q) dd pr⟩
  | @own k0 p xs l hk R f h e c d dp o ih =>
    intro u r
    cases r
    cases k0 with
    | lst => exact lsts (SqL.of h) e ih
    | pin q => exact lsts (SqL.of h) e ih
    | _ => exact hk.elim
end
def fitT (t : T) : Bool := t.data.canLay0
def eqvT (t u : T) : Bool := PyData.eqv t.data u.data
def eqOk (t u : T) : Bool := fitT t && fitT u && decide (min t.data.depth u.data.depth ≤ 60)
def eqT (t u : T) : Option T := if eqOk t u then some (.bl (eqvT t u)) else none
def neT (t u : T) : Option T := if eqOk t u then some (.bl (!eqvT t u)) else none
def Gets (K : PySem.W.Frag) (F H : Hp) (v : T) (Q : VK) : Prop := ∀ F' H' z C, Ext F H F' H' C → Rp K F' H' v z C → Q z H'
def rT2 (K : PySem.W.Frag) (g : T → T → Option T) : R2 := fun x y H Q => ∃ F t u v, Same F H ∧ Rp K F F t x R0 ∧ Rp K F F u y R0 ∧ g t u = some v ∧ Gets K F H v Q
def rT1 (K : PySem.W.Frag) (g : T → Option T) : V → Hp → VK → Prop := fun x H Q => ∃ F t v, Same F H ∧ Rp K F F t x R0 ∧ g t = some v ∧ Gets K F H v Q
def rTn (K : PySem.W.Frag) (g : List T → Option T) : List V → Hp → VK → Prop := fun xs H Q => ∃ F ts v, Same F H ∧ Rps K F ts xs ∧ g ts = some v ∧ Gets K F H v Q
section
variable {K : PySem.W.Frag} {F H : Hp} {Q : VK}
theorem Gets.int {i : Int} (q : Gets K F H (.int i) Q) (s : Same F H) : Q (.int i) H := q F H _ _ (Ext.refl s) (.int i)
theorem Gets.bl {b : Bool} (q : Gets K F H (.bl b) Q) (s : Same F H) : Q (.bl b) H := q F H _ _ (Ext.refl s) (.bl b)
theorem Gets.str {x : Str} (q : Gets K F H (.str x) Q) (s : Same F H) : Q (.str x) H := q F H _ _ (Ext.refl s) (.str x)
theorem Gets.non (q : Gets K F H .non Q) (s : Same F H) : Q .non H := q F H _ _ (Ext.refl s) .non
theorem Gets.list {l : List T} {xs : List V} (q : Gets K F H (.own l) Q) (s : Same F H) (r : Rps K F l xs) {p : Addr} (hp : H p = none) : Q (.ref p) (upd H p (.lst xs)) := by
  refine q F (upd H p (.lst xs)) (.ref p) _ ((Ext.newO s hp).mono ?_) (.own (k := .lst) (xs := xs) trivial (fun _ => R0) (none_of_same s hp) upd_same r.1 (fun i t x h1 h2 => ?_) (fun _ _ _ _ z => z.elim) (fun _ z => z) (fun _ _ z => z.elim))
  · rintro a (z | ⟨i, z⟩)
    · exact z
    · exact z.elim
  · exact (r.2 i t x h1 h2).any
theorem Gets.tuple {l : List T} {xs : List V} (q : Gets K F H (.tup l) Q) (s : Same F H) (r : Rps K F l xs) {p : Addr} (hp : H p = none) : Q (.ref p) (upd H p (.tup xs)) := by
  have e := Ext.new (o := .tup xs) s hp
  exact q _ _ _ _ e (Rps.of_node (k := .tup) upd_same (r.same e.ff))
theorem Gets.same {t : T} {x : V} (q : Gets K F H t Q) (s : Same F H) (r : Rp K F F t x R0) : Q x H := q F H x _ (Ext.refl s) r.any
end
noncomputable def s64 (i : Int) : Bool := @decide (-(2 ^ 64) < i ∧ i < 2 ^ 64) (Classical.propDecidable _)
noncomputable def s70 (i : Int) : Bool := @decide (-(10 ^ 70) < i ∧ i < 10 ^ 70) (Classical.propDecidable _)
noncomputable def k63 (k : Int) : Bool := @decide (k < 2 ^ 63 ∧ -(2 ^ 63) ≤ k) (Classical.propDecidable _)
noncomputable def mulOk (i j : Int) : Bool := s64 i || s64 j || (s70 i && s70 j)
def lim : Nat := 16777216
def addT : T → T → Option T
  | .int i, .int j => some (.int (i + j))
  | .str x, .str y => if x.length + y.length ≤ lim then some (.str (x ++ y)) else none
  | .nd _ .lst l, .nd _ .lst m => if l.length + m.length ≤ lim then some (.own (l ++ m)) else none
  | _, _ => none
def subT : T → T → Option T
  | .int i, .int j => some (.int (i - j))
  | _, _ => none
noncomputable def mulT : T → T → Option T
  | .int i, .int j => if mulOk i j then some (.int (i * j)) else none
  | .nd _ .lst l, .int k => if k63 k = true ∧ l.length * k.toNat ≤ lim then some (.own (List.replicate k.toNat l).flatten) else none
  | _, _ => none
def modT : T → T → Option T
  | .int i, .int j => if j ≠ 0 then some (.int (i.fmod j)) else none
  | _, _ => none
noncomputable def fdivT : T → T → Option T
  | .int i, .int j => if j ≠ 0 ∧ s70 j then some (.int (i.fdiv j)) else none
  | _, _ => none
noncomputable def powT : T → T → Option T
  | .int i, .int j => if 0 ≤ j ∧ j ≤ 1000000 ∧ s64 i then some (.int (i ^ j.toNat)) else none
  | _, _ => none
def borT : T → T → Option T
  | .int i, .int j => some (.int (Builtin.bitOr i j))
  | _, _ => none
def bandT : T → T → Option T
  | .int i, .int j => some (.int (Builtin.bitAnd i j))
  | _, _ => none
def cmpT (f : Int → Int → Bool) : T → T → Option T
  | .int i, .int j => some (.bl (f i j))
  | _, _ => none
def negT : T → Option T
  | .int i => some (.int (-i))
  | _ => none
theorem s64_iff {i : Int} (h : s64 i = true) : -(2 ^ 64) < i ∧ i < 2 ^ 64 := @of_decide_eq_true _ (Classical.propDecidable _) h
theorem s70_iff {i : Int} (h : s70 i = true) : Sm i := @of_decide_eq_true _ (Classical.propDecidable _) h
theorem k63_iff {k : Int} (h : k63 k = true) : k < 2 ^ 63 ∧ -(2 ^ 63) ≤ k := @of_decide_eq_true _ (Classical.propDecidable _) h
theorem lim_eq : lim = sizeLine := by rw [sizeLine_eq]; rfl
theorem rps_append {K : PySem.W.Frag} {F : Hp} : ∀ {l m : List T} {xs ys : List V}, Rps K F l xs → Rps K F m ys → Rps K F (l ++ m) (xs ++ ys)
  | [], m, xs, ys, r, q => by rw [r.inv0]; exact q
  | t :: l, m, xs, ys, r, q => by
    obtain ⟨x, xs', rfl, r1, r2⟩ := r.inv
    exact .cons r1 (rps_append r2 q)
theorem rps_rep {K : PySem.W.Frag} {F : Hp} {l : List T} {xs : List V} (r : Rps K F l xs) : ∀ n : Nat, Rps K F (List.replicate n l).flatten (List.replicate n xs).flatten
  | 0 => .nil
  | n + 1 => by
    rw [List.replicate_succ, List.replicate_succ, List.flatten_cons, List.flatten_cons]
    exact rps_append r (rps_rep r n)
section
variable {X : Cx}
theorem node_of {K : PySem.W.Frag} {F H : Hp} {o : Bool} {k : Kd} {l : List T} {x : V} (h : Rp K F H (.nd o k l) x R0) : ∃ p xs, x = .ref p ∧ o = false ∧ NodeS K F k p xs ∧ Rps K F l xs := by
  generalize hA : R0 = A at h
  cases h with
  | shr h e c => exact ⟨_, _, rfl, rfl, h, e, fun i t x h1 h2 => (hA ▸ c i t x h1 h2).any⟩
  | @own k0 p xs l hk R f h e c d dp o =>
    exfalso
    have z := congrFun hA p
    have : R0 p := by rw [z]; exact .inl rfl
    exact this
theorem opT_add : OpR X (binaryOp .Add) (rT2 X.K addT) := by
  intro pins s σ H x y v u Q I rx ry h
  obtain ⟨F, t1, t2, r, fh, r1, r2, e, q⟩ := h
  unfold addT at e
  split at e
  · cases e
    rw [r1.int_inv] at rx; rw [r2.int_inv] at ry
    exact op_add pins s σ H _ _ v u Q I rx ry ⟨_, _, rfl, rfl, q.int fh⟩
  · split at e
    · cases e
      rename_i hz
      rw [r1.str_inv] at rx; rw [r2.str_inv] at ry
      exact op_add_str pins s σ H _ _ v u Q I rx ry ⟨_, _, rfl, rfl, by rw [← lim_eq]; exact hz, q.str fh⟩
    · cases e
  · split at e
    · cases e
      rename_i hz
      obtain ⟨p, xs, rfl, rfl, n1, k1⟩ := node_of r1
      obtain ⟨p2, ys, rfl, rfl, n2, k2⟩ := node_of r2
      refine op_cat pins s σ H _ _ v u Q I rx ry ⟨p, p2, xs, ys, rfl, rfl, fh _ _ n1, fh _ _ n2, ?_, fun a ha => q.list fh (rps_append k1 k2) ha⟩
      rw [← k1.1, ← k2.1, ← lim_eq]
      exact hz
    · cases e
  · cases e
theorem opT_int {f : Value → Value → Sem Value} {C : Int → Int → Prop} {g : Int → Int → V} {gT : T → T → Option T} (ho : OpR X f (rI C g)) (hg : ∀ t u v, gT t u = some v → ∃ i j, t = .int i ∧ u = .int j ∧ C i j ∧ ((∃ k, v = .int k ∧ g i j = .int k) ∨ ∃ k, v = .bl k ∧ g i j = .bl k)) : OpR X f (rT2 X.K gT) := by
  intro pins s σ H x y v u Q I rx ry h
  obtain ⟨F, t1, t2, r, fh, r1, r2, e, q⟩ := h
  obtain ⟨i, j, rfl, rfl, hc, hv⟩ := hg _ _ _ e
  rw [r1.int_inv] at rx; rw [r2.int_inv] at ry
  refine ho pins s σ H _ _ v u Q I rx ry ⟨i, j, rfl, rfl, hc, ?_⟩
  rcases hv with ⟨k, rfl, ek⟩ | ⟨k, rfl, ek⟩
  · rw [ek]; exact q.int fh
  · rw [ek]; exact q.bl fh
theorem OpR.weak {f : Value → Value → Sem Value} {r r' : R2} (h : OpR X f r) (w : ∀ x y H Q, r' x y H Q → r x y H Q) : OpR X f r' := fun pins s σ H x y v u Q I rx ry q => h pins s σ H x y v u Q I rx ry (w x y H Q q)
theorem ri0 {g : Int → Int → V} {f : Value → Value → Sem Value} (h : OpR X f (rI0 g)) : OpR X f (rI (fun _ _ => True) g) := OpR.weak h fun x y H Q ⟨i, j, a, b, _, q⟩ => ⟨i, j, a, b, q⟩
theorem opT_sub : OpR X (binaryOp .Sub) (rT2 X.K subT) := opT_int (ri0 op_sub) fun t u v h => by
  unfold subT at h
  split at h
  · cases h; exact ⟨_, _, rfl, rfl, trivial, .inl ⟨_, rfl, rfl⟩⟩
  · cases h
theorem opT_bor : OpR X (binaryOp .BitOr) (rT2 X.K borT) := opT_int (ri0 op_or) fun t u v h => by
  unfold borT at h
  split at h
  · cases h; exact ⟨_, _, rfl, rfl, trivial, .inl ⟨_, rfl, rfl⟩⟩
  · cases h
theorem opT_band : OpR X (binaryOp .BitAnd) (rT2 X.K bandT) := opT_int (ri0 op_and) fun t u v h => by
  unfold bandT at h
  split at h
  · cases h; exact ⟨_, _, rfl, rfl, trivial, .inl ⟨_, rfl, rfl⟩⟩
  · cases h
theorem opT_mod : OpR X (binaryOp .Mod) (rT2 X.K modT) := opT_int op_modN fun t u v h => by
  unfold modT at h
  split at h
  · split at h
    · cases h; exact ⟨_, _, rfl, rfl, by assumption, .inl ⟨_, rfl, rfl⟩⟩
    · cases h
  · cases h
theorem opT_fdiv : OpR X (binaryOp .FloorDiv) (rT2 X.K fdivT) := opT_int op_fdivL fun t u v h => by
  unfold fdivT at h
  split at h
  · split at h
    · cases h
      rename_i hc
      exact ⟨_, _, rfl, rfl, ⟨hc.1, s70_iff hc.2⟩, .inl ⟨_, rfl, rfl⟩⟩
    · cases h
  · cases h
theorem opT_pow : OpR X (binaryOp .Pow) (rT2 X.K powT) := opT_int op_pow fun t u v h => by
  unfold powT at h
  split at h
  · split at h
    · cases h
      rename_i hc
      have q := s64_iff hc.2.2
      exact ⟨_, _, rfl, rfl, ⟨hc.1, hc.2.1, by omega⟩, .inl ⟨_, rfl, rfl⟩⟩
    · cases h
  · cases h
theorem opT_cmp {op : CmpOp} {g : Int → Int → Bool} (ho : OpR X (compareOp op) (rI0 fun i j => .bl (g i j))) : OpR X (compareOp op) (rT2 X.K (cmpT g)) := opT_int (ri0 ho) fun t u v h => by
  unfold cmpT at h
  split at h
  · cases h; exact ⟨_, _, rfl, rfl, trivial, .inr ⟨_, rfl, rfl⟩⟩
  · cases h
theorem opT_mul : OpR X (binaryOp .Mult) (rT2 X.K mulT) := by
  intro pins s σ H x y v u Q I rx ry h
  obtain ⟨F, t1, t2, r, fh, r1, r2, e, q⟩ := h
  unfold mulT at e
  split at e
  · rename_i i j
    split at e
    · cases e
      rename_i hc
      rw [r1.int_inv] at rx; rw [r2.int_inv] at ry
      unfold mulOk at hc
      rw [Bool.or_eq_true, Bool.or_eq_true, Bool.and_eq_true] at hc
      rcases hc with (hc | hc) | hc
      · exact op_mul pins s σ H _ _ v u Q I rx ry ⟨i, j, rfl, rfl, .inl (s64_iff hc), q.int fh⟩
      · exact op_mul pins s σ H _ _ v u Q I rx ry ⟨i, j, rfl, rfl, .inr (s64_iff hc), q.int fh⟩
      · exact op_mulS pins s σ H _ _ v u Q I rx ry ⟨i, j, rfl, rfl, ⟨s70_iff hc.1, s70_iff hc.2⟩, q.int fh⟩
    · cases e
  · split at e
    · cases e
      rename_i hc
      obtain ⟨p, xs, rfl, rfl, n1, k1⟩ := node_of r1
      rw [r2.int_inv] at ry
      refine op_rep pins s σ H _ _ v u Q I rx ry ⟨p, _, xs, rfl, rfl, fh _ _ n1, (k63_iff hc.1).2, (k63_iff hc.1).1, ?_, fun a ha => q.list fh (rps_rep k1 _) ha⟩
      rw [← k1.1, ← lim_eq]
      exact hc.2
    · cases e
  · cases e
theorem unT_neg : UnR X (unaryOp .USub) (rT1 X.K negT) := by
  intro pins s σ H x v Q I rx h
  obtain ⟨F, t, r, fh, r1, e, q⟩ := h
  unfold negT at e
  split at e
  · cases e
    rw [r1.int_inv] at rx
    exact un_neg pins s σ H _ v Q I rx ⟨_, rfl, q.int fh⟩
  · cases e
theorem depth_le {A : Around} {n : Nat} (hu : A.units + 64 < cLine) (h : n ≤ 60) : A.units + n < cLine := by omega
theorem opT_eq (hu : X.A.units + 64 < cLine) : OpR X (compareOp .Eq) (rT2 X.K eqT) := by
  intro pins s σ H x y v u Q I rx ry h
  obtain ⟨F, t1, t2, r, fh, r1, r2, e, q⟩ := h
  unfold eqT at e
  split at e
  · cases e
    rename_i hc
    unfold eqOk fitT at hc
    rw [Bool.and_eq_true, Bool.and_eq_true, decide_eq_true_eq] at hc
    obtain ⟨a1, q1⟩ := rp_reads I fh (r1.any) rx
    obtain ⟨a2, q2⟩ := rp_reads I fh (r2.any) ry
    exact SeqAt.compareEq_reads q1 q2 hc.1.1 hc.1.2 (depth_le hu hc.2) ⟨.bl _, H, I, rfl, q.bl fh⟩
  · cases e
theorem opT_ne (hu : X.A.units + 64 < cLine) : OpR X (compareOp .NotEq) (rT2 X.K neT) := by
  intro pins s σ H x y v u Q I rx ry h
  obtain ⟨F, t1, t2, r, fh, r1, r2, e, q⟩ := h
  unfold neT at e
  split at e
  · cases e
    rename_i hc
    unfold eqOk fitT at hc
    rw [Bool.and_eq_true, Bool.and_eq_true, decide_eq_true_eq] at hc
    obtain ⟨a1, q1⟩ := rp_reads I fh (r1.any) rx
    obtain ⟨a2, q2⟩ := rp_reads I fh (r2.any) ry
    exact SeqAt.compareNe_reads q1 q2 hc.1.1 hc.1.2 (depth_le hu hc.2) ⟨.bl _, H, I, rfl, q.bl fh⟩
  · cases e
end
end Pu
set_option Elab.async false
set_option linter.all false
set_option maxRecDepth 100000
namespace Pu
open PySem PySem.Spec PyProof.Rows L2 Zw Zx
inductive Rs where
  | v (t : T) (b : Bool) | x (c : Str)
inductive RsL where
  | v (ts : List T) (b : Bool) | x (c : Str)
def tot (R : Nat → Rg) : Rg := fun a => ∃ i, R i a
def Got (K : PySem.W.Frag) (F H : Hp) (R : Nat → Rg) (v : T) (b : Bool) (x : V) (B : Rg) : Prop := match b with
  | true => B = R0 ∧ ∃ A, (∀ a, A a → tot R a) ∧ Rp K F H v x A
  | false => Rp K F H v x B
noncomputable def Gz (b : Bool) (F H : Hp) (R : Nat → Rg) : Hp := match b with
  | true => frz F H (tot R)
  | false => F
section
variable {K : PySem.W.Frag} {F H F1 H1 : Hp} {σ : L2.St} {τ : PSt} {R : Nat → Rg} {B : Rg} {b c : Bool} {v : T} {x : V}
theorem StR.tot (S : StR K F H σ τ R) {a : Addr} (h : tot R a) : F a = none ∧ ∃ u, H a = some u := by
  obtain ⟨i, z⟩ := h
  exact S.dom z
theorem gz_ff (S : StR K F H σ τ R) : Same F (Gz b F H R) := by
  cases b with
  | true => exact frz_ff fun a z => (S.tot z).1
  | false => exact .refl _
theorem gz_fh (S : StR K F H σ τ R) : Same (Gz b F H R) H := by
  cases b with
  | true => exact frz_fh S.fh
  | false => exact S.fh
theorem gz_mono (S : StR K F H σ τ R) (e : Ext F H F1 H1 B) (h : b = true → c = true) : Same (Gz b F H R) (Gz c F1 H1 R) := by
  have S1 := S.ext e
  cases b with
  | false => exact e.ff.trans (gz_ff S1)
  | true =>
    rw [h rfl]
    intro a u q
    show frz F1 H1 (Pu.tot R) a = some u
    by_cases z : Pu.tot R a
    · rw [frz_in z]
      have q' : frz F H (Pu.tot R) a = some u := q
      rw [frz_in z] at q'
      exact e.hh _ _ q'
    · rw [frz_out z]
      have q' : frz F H (Pu.tot R) a = some u := q
      rw [frz_out z] at q'
      exact e.ff _ _ q'
theorem Got.frz (S : StR K F H σ τ R) (e : Ext F H F1 H1 B) (g : Got K F1 H1 R v b x B) : ∃ F2, Ext F H F2 H1 R0 ∧ Same F1 F2 ∧ Rp K (Gz b F2 H1 R) (Gz b F2 H1 R) v.share x R0 := by
  have S1 := S.ext e
  cases b with
  | true =>
    obtain ⟨rfl, A, hA, r⟩ := g
    exact ⟨F1, e, .refl _, r.share (gz_ff (b := true) S1) fun a u z q => by
      show Pu.frz F1 H1 (Pu.tot R) a = some u
      rw [frz_in (hA a z)]; exact q⟩
  | false =>
    have g' : Rp K F1 H1 v x B := g
    have n : ∀ a, B a → F1 a = none := fun a z => (g'.dom z).1
    exact ⟨_, e.frz n, frz_ff n, g'.share (frz_ff n) fun a u z q => by
      show Pu.frz F1 H1 B a = some u
      rw [frz_in z]; exact q⟩
theorem Ext.grow {H2 : Hp} (e : Ext F H F1 H1 R0) (s : Same H1 H2) : Ext F H F1 H2 R0 := ⟨e.hh.trans s, e.ff, e.fh.trans s, fun _ z => z.elim, e.nf⟩
end
def tM (K : PySem.W.Frag) (E : L2.St → XK) (ca : Str → Value) (m : PSt → Option Rs) : TE := fun σ H Q => ∃ F τ R, StR K F H σ τ R ∧ match m τ with
  | some (.v v b) => ∀ F' H' x B, Ext F H F' H' B → Got K F' H' R v b x B → Q x H'
  | some (.x c) => ∀ F' H', Ext F H F' H' R0 → E σ (ca c) none H'
  | none => False
def tMs (K : PySem.W.Frag) (E : L2.St → XK) (ca : Str → Value) (m : PSt → Option RsL) : TA := fun σ H Q => ∃ F τ R, StR K F H σ τ R ∧ match m τ with
  | some (.v ts b) => ∀ F' H' xs, Ext F H F' H' R0 → Rps K (Gz b F' H' R) ts xs → Q xs H'
  | some (.x c) => ∀ F' H', Ext F H F' H' R0 → E σ (ca c) none H'
  | none => False
def tMB (K : PySem.W.Frag) (E : L2.St → XK) (ca : Str → Value) (m : PSt → Option Rs) : TT := fun σ H Q => ∃ F τ R, StR K F H σ τ R ∧ match m τ with
  | some (.v (.bl c) _) => ∀ F' H', Ext F H F' H' R0 → Q c H'
  | some (.v _ _) => False
  | some (.x c) => ∀ F' H', Ext F H F' H' R0 → E σ (ca c) none H'
  | none => False
def mVar (i : Nat) : PSt → Option Rs := fun τ => match τ[i]? with
  | some (some t) => some (.v t (!t.sh))
  | _ => none
def mC (t : T) : PSt → Option Rs := fun _ => some (.v t false)
def mNil : PSt → Option RsL := fun _ => some (.v [] false)
def mCons (m : PSt → Option Rs) (ms : PSt → Option RsL) : PSt → Option RsL := fun τ => match m τ with
  | some (.v t b) => (match ms τ with
    | some (.v ts b') => some (.v (t.share :: ts) (b || b'))
    | r => r)
  | some (.x c) => some (.x c)
  | none => none
def fin (b : Bool) (v : T) : Option Rs := if b && !v.flat then none else some (.v v false)
def mAp (g : List T → Option T) (ms : PSt → Option RsL) : PSt → Option Rs := fun τ => match ms τ with
  | some (.v ts b) => (match g ts with
    | some v => fin b v
    | none => none)
  | some (.x c) => some (.x c)
  | none => none
def g2 (g : T → T → Option T) : List T → Option T
  | [t, u] => g t u
  | _ => none
def g1 (g : T → Option T) : List T → Option T
  | [t] => g t
  | _ => none
def mIf (c : PSt → Option Rs) (a b : PSt → Option Rs) : PSt → Option Rs := fun τ => match c τ with
  | some (.v (.bl true) _) => a τ
  | some (.v (.bl false) _) => b τ
  | some (.x c) => some (.x c)
  | _ => none
def mNot (c : PSt → Option Rs) : PSt → Option Rs := fun τ => match c τ with
  | some (.v (.bl b) _) => some (.v (.bl (!b)) false)
  | some (.x c) => some (.x c)
  | _ => none
def mAnd (a b : PSt → Option Rs) : PSt → Option Rs := mIf a b (mC (.bl false))
def mOr (a b : PSt → Option Rs) : PSt → Option Rs := mIf a (mC (.bl true)) b
section
variable {X : Cx} {E : L2.St → XK} {ca : Str → Value} {σ : L2.St} {H : Hp} {m ma mb mc : PSt → Option Rs} {ms : PSt → Option RsL} {K : PySem.W.Frag} {a b c e : Expr} {es : List Expr} {pos : Pos}
theorem PE.weak {t t' : TE} (h : PE X e t) (w : ∀ σ H Q, t' σ H Q → t σ H Q) : PE X e t' := fun pins s σ H Q I q => h pins s σ H Q I (w σ H Q q)
theorem PT.weak {t t' : TT} (h : PT X e t) (w : ∀ σ H Q, t' σ H Q → t σ H Q) : PT X e t' := fun pins s σ H Q I q => h pins s σ H Q I (w σ H Q q)
theorem PA.weak {t t' : TA} (h : PA X es t) (w : ∀ σ H Q, t' σ H Q → t σ H Q) : PA X es t' := fun pos pins s σ H Q I q => h pos pins s σ H Q I (w σ H Q q)
theorem tM.mono {Q Q' : VK} (h : tM K E ca m σ H Q) (w : ∀ x H', Q x H' → Q' x H') : tM K E ca m σ H Q' := by
  obtain ⟨F, τ, R, S, q⟩ := h
  refine ⟨F, τ, R, S, ?_⟩
  cases hm : m τ with
  | none => rw [hm] at q; exact q
  | some r =>
    rw [hm] at q
    cases r with
    | v v b => exact fun F' H' x B e g => w _ _ (q F' H' x B e g)
    | x c => exact q
theorem tMs.mono {Q Q' : List V → Hp → Prop} (h : tMs K E ca ms σ H Q) (w : ∀ x H', Q x H' → Q' x H') : tMs K E ca ms σ H Q' := by
  obtain ⟨F, τ, R, S, q⟩ := h
  refine ⟨F, τ, R, S, ?_⟩
  cases hm : ms τ with
  | none => rw [hm] at q; exact q
  | some r =>
    rw [hm] at q
    cases r with
    | v v b => exact fun F' H' x e g => w _ _ (q F' H' x e g)
    | x c => exact q
theorem tMs_nil {Q : List V → Hp → Prop} (h : tMs K E ca mNil σ H Q) : Q [] H := by
  obtain ⟨F, τ, R, S, q⟩ := h
  exact q F H [] (Ext.refl S.fh) .nil
theorem tMs_cons {Q : List V → Hp → Prop} (h : tMs K E ca (mCons m ms) σ H Q) : tM K E ca m σ H fun x H1 => tMs K E ca ms σ H1 fun xs H2 => Q (x :: xs) H2 := by
  obtain ⟨F, τ, R, S, q⟩ := h
  refine ⟨F, τ, R, S, ?_⟩
  unfold mCons at q
  cases hm : m τ with
  | none => rw [hm] at q; exact q
  | some r =>
    rw [hm] at q
    cases r with
    | x c => exact q
    | v t b =>
      intro F' H' x B e g
      obtain ⟨F2, e2, _, r2⟩ := Got.frz S e g
      have S2 := S.ext e2
      refine ⟨F2, τ, R, S2, ?_⟩
      cases hs : ms τ with
      | none => simp only [hs] at q
      | some r =>
        simp only [hs] at q
        cases r with
        | x c => exact fun F3 H3 e3 => q F3 H3 (e2.trans0 e3)
        | v ts b' =>
          intro F3 H3 xs e3 rs
          refine q F3 H3 (x :: xs) (e2.trans0 e3) ?_
          refine .cons (H := H3) ((r2.frame (gz_mono S2 e3 (by intro z; simp [z])) fun a z => z.elim)) ?_
          cases b' with
          | true => rw [Bool.or_true]; exact rs
          | false =>
            rw [Bool.or_false]
            cases b with
            | false => exact rs
            | true => exact rs.same (gz_ff (b := true) (S2.ext e3))
theorem tM_ap {g : List T → Option T} {Q : VK} (h : tM K E ca (mAp g ms) σ H Q) : tMs K E ca ms σ H fun xs H1 => rTn K g xs H1 Q := by
  obtain ⟨F, τ, R, S, q⟩ := h
  refine ⟨F, τ, R, S, ?_⟩
  unfold mAp at q
  cases hs : ms τ with
  | none => simp only [hs] at q
  | some r =>
    simp only [hs] at q
    cases r with
    | x c => exact q
    | v ts b =>
      intro F1 H1 xs e1 rs
      have S1 := S.ext e1
      cases hg : g ts with
      | none => simp only [hg] at q
      | some v =>
        simp only [hg] at q
        refine ⟨Gz b F1 H1 R, ts, v, gz_fh S1, rs, hg, fun F2 H2 z C e2 r2 => ?_⟩
        unfold fin at q
        cases b with
        | false => exact q F2 H2 z C (e1.trans0 e2) r2
        | true =>
          cases hf : v.flat with
          | false =>
            rw [hf] at q
            exact False.elim q
          | true =>
            rw [hf] at q
            exact q F1 H2 z R0 (e1.grow e2.hh) (r2.flat_any hf)
theorem rTn2 {g : T → T → Option T} {x y : V} {Q : VK} (h : rTn K (g2 g) [x, y] H Q) : rT2 K g x y H Q := by
  obtain ⟨F, ts, v, fh, rs, e, q⟩ := h
  unfold g2 at e
  split at e
  · obtain ⟨x1, xs1, e1, r1, rs1⟩ := rs.inv
    obtain ⟨x2, xs2, e2, r2, rs2⟩ := rs1.inv
    cases e1
    cases e2
    exact ⟨F, _, _, v, fh, r1, r2, e, q⟩
  · cases e
theorem rTn1 {g : T → Option T} {x : V} {Q : VK} (h : rTn K (g1 g) [x] H Q) : rT1 K g x H Q := by
  obtain ⟨F, ts, v, fh, rs, e, q⟩ := h
  unfold g1 at e
  split at e
  · obtain ⟨x1, xs1, e1, r1, rs1⟩ := rs.inv
    cases e1
    exact ⟨F, _, v, fh, r1, e, q⟩
  · cases e
theorem tM_op2 {g : T → T → Option T} {Q : VK} (h : tM K E ca (mAp (g2 g) (mCons ma (mCons mb mNil))) σ H Q) : tOp (rT2 K g) (tM K E ca ma) (tM K E ca mb) σ H Q :=
  (tMs_cons (tM_ap h)).mono fun x H1 h1 => (tMs_cons h1).mono fun y H2 h2 => rTn2 (tMs_nil h2)
theorem tM_op1 {g : T → Option T} {Q : VK} (h : tM K E ca (mAp (g1 g) (mCons ma mNil)) σ H Q) : tUn (rT1 K g) (tM K E ca ma) σ H Q :=
  (tMs_cons (tM_ap h)).mono fun x H1 h1 => rTn1 (tMs_nil h1)
theorem r_var {i : Nat} {x : Str} (hN : X.N[i]? = some x) (hv : Vis X.env.scope x) (hd : (x == ("__debug__" : Str)) = false) (hcd : (x == ("__classdict__" : Str)) = false) : PE X (.Name x pos) (tM X.K E ca (mVar i)) := by
  refine PE.weak (pe_var hN hv hd hcd) fun σ H Q h => ?_
  obtain ⟨F, τ, R, S, q⟩ := h
  unfold mVar at q
  split at q
  · rename_i t b hm
    split at hm
    · rename_i ht
      cases hm
      obtain ⟨x, e, r⟩ := S.rep i t ht
      refine ⟨x, e, q F H x R0 (Ext.refl S.fh) ?_⟩
      cases hs : t.sh with
      | true => exact r.move hs (.refl _)
      | false => exact ⟨rfl, R i, fun a z => ⟨i, z⟩, r⟩
    · cases hm
  · rename_i c hm
    split at hm <;> cases hm
  · exact q.elim
theorem r_const {t : T} {v : V} (h : PE X e (tC v)) (r : ∀ F H, Rp X.K F H t v R0) : PE X e (tM X.K E ca (mC t)) := PE.weak h fun σ H Q h => by
  obtain ⟨F, τ, R, S, q⟩ := h
  exact q F H v R0 (Ext.refl S.fh) (r _ _)
theorem r_nil : PA X [] (tMs X.K E ca mNil) := PA.weak pa_nil fun σ H Q h => tMs_nil h
theorem r_cons (ha : PE X e (tM X.K E ca m)) (hr : PA X es (tMs X.K E ca ms)) (hs : starEach (e :: es) X.env = (false, eval e X.env) :: starEach es X.env) : PA X (e :: es) (tMs X.K E ca (mCons m ms)) :=
  PA.weak (pa_cons ha hr hs) fun σ H Q h => tMs_cons h
theorem r_bin {op : Operator} {g : T → T → Option T} (ho : OpR X (binaryOp op) (rT2 X.K g)) (ha : PE X a (tM X.K E ca ma)) (hb : PE X b (tM X.K E ca mb)) : PE X (.BinOp a op b pos) (tM X.K E ca (mAp (g2 g) (mCons ma (mCons mb mNil)))) :=
  PE.weak (pe_op ho ha hb) fun σ H Q h => tM_op2 h
theorem r_un {op : UnaryOp} {g : T → Option T} (ho : UnR X (unaryOp op) (rT1 X.K g)) (ha : PE X a (tM X.K E ca ma)) : PE X (.UnaryOp op a pos) (tM X.K E ca (mAp (g1 g) (mCons ma mNil))) :=
  PE.weak (pe_un ho ha) fun σ H Q h => tM_op1 h
theorem r_cmp {op : CmpOp} {g : T → T → Option T} (ho : OpR X (compareOp op) (rT2 X.K g)) (ha : PE X a (tM X.K E ca ma)) (hb : PE X b (tM X.K E ca mb)) (hm : behindInMarks op b = false) : PE X (.Compare a [op] [b] pos) (tM X.K E ca (mAp (g2 g) (mCons ma (mCons mb mNil)))) :=
  PE.weak (pe_cmpR ho ha hb hm) fun σ H Q h => tM_op2 h
theorem tMB_val {Q : Bool → Hp → Prop} (h : tMB K E ca m σ H Q) : tM K E ca m σ H fun x H1 => ∃ k, x = .bl k ∧ Q k H1 := by
  obtain ⟨F, τ, R, S, q⟩ := h
  refine ⟨F, τ, R, S, ?_⟩
  cases hm : m τ with
  | none => rw [hm] at q; exact q
  | some r =>
    rw [hm] at q
    cases r with
    | x c => exact q
    | v v b =>
      cases v with
      | bl k =>
        intro F' H' x B e g
        have hx : x = .bl k := by
          cases b with
          | true => obtain ⟨_, A, _, r⟩ := g; exact r.bl_inv
          | false => exact (show Rp K F' H' _ _ _ from g).bl_inv
        exact ⟨k, hx, q F' H' (e.mono fun _ z => z.elim)⟩
      | _ => exact q.elim
theorem r_tcmp {op : CmpOp} {g : T → T → Option T} (ho : OpR X (compareOp op) (rT2 X.K g)) (ha : PE X a (tM X.K E ca ma)) (hb : PE X b (tM X.K E ca mb)) (hm : behindInMarks op b = false) : PT X (.Compare a [op] [b] pos) (tMB X.K E ca (mAp (g2 g) (mCons ma (mCons mb mNil)))) :=
  PT.weak (pt_cmpR ho ha hb hm) fun σ H Q h => tM_op2 (tMB_val h)
theorem r_tval (h : PE X e (tM X.K E ca m)) (he : ∀ whole, isTrue e X.env whole = (do let v ← whole; standAt e.pos; holding [v] (truthy v))) : PT X e (tMB X.K E ca m) := PT.weak (pt_val h he) fun σ H Q h => tMB_val h
theorem tMB_if {Q : Bool → Hp → Prop} (h : tMB K E ca (mIf mc ma mb) σ H Q) : tMB K E ca mc σ H fun k H1 => if k = true then tMB K E ca ma σ H1 Q else tMB K E ca mb σ H1 Q := by
  obtain ⟨F, τ, R, S, q⟩ := h
  refine ⟨F, τ, R, S, ?_⟩
  unfold mIf at q
  cases hm : mc τ with
  | none => simp only [hm] at q
  | some r =>
    simp only [hm] at q
    cases r with
    | x c => exact q
    | v v b =>
      cases v with
      | bl k =>
        intro F1 H1 e1
        have S1 := S.ext e1
        have key : ∀ {mm : PSt → Option Rs}, (match mm τ with
            | some (.v (.bl c) _) => ∀ F' H', Ext F H F' H' R0 → Q c H'
            | some (.v _ _) => False
            | some (.x c) => ∀ F' H', Ext F H F' H' R0 → E σ (ca c) none H'
            | none => False) → tMB K E ca mm σ H1 Q := fun {mm} q => by
          refine ⟨F1, τ, R, S1, ?_⟩
          cases hr : mm τ with
          | none => simp only [hr] at q
          | some r =>
            simp only [hr] at q
            cases r with
            | x c => exact fun F' H' e => q F' H' (e1.trans0 e)
            | v v b =>
              cases v with
              | bl k => exact fun F' H' e => q F' H' (e1.trans0 e)
              | _ => exact q.elim
        cases k with
        | true => exact iteT (key q)
        | false => exact iteF (key q)
      | _ => exact q.elim
theorem tM_if {Q : VK} (h : tM K E ca (mIf mc ma mb) σ H Q) : tMB K E ca mc σ H fun k H1 => if k = true then tM K E ca ma σ H1 Q else tM K E ca mb σ H1 Q := by
  obtain ⟨F, τ, R, S, q⟩ := h
  refine ⟨F, τ, R, S, ?_⟩
  unfold mIf at q
  cases hm : mc τ with
  | none => simp only [hm] at q
  | some r =>
    simp only [hm] at q
    cases r with
    | x c => exact q
    | v v b =>
      cases v with
      | bl k =>
        intro F1 H1 e1
        have S1 := S.ext e1
        have key : ∀ {mm : PSt → Option Rs}, (match mm τ with
            | some (.v v b) => ∀ F' H' x B, Ext F H F' H' B → Got K F' H' R v b x B → Q x H'
            | some (.x c) => ∀ F' H', Ext F H F' H' R0 → E σ (ca c) none H'
            | none => False) → tM K E ca mm σ H1 Q := fun {mm} q => by
          refine ⟨F1, τ, R, S1, ?_⟩
          cases hr : mm τ with
          | none => simp only [hr] at q
          | some r =>
            simp only [hr] at q
            cases r with
            | x c => exact fun F' H' e => q F' H' (e1.trans0 e)
            | v v b => exact fun F' H' x B e g => q F' H' x B (e1.trans0 e) g
        cases k with
        | true => exact iteT (key q)
        | false => exact iteF (key q)
      | _ => exact q.elim
theorem r_ife (hc : PT X c (tMB X.K E ca mc)) (ha : PE X a (tM X.K E ca ma)) (hb : PE X b (tM X.K E ca mb)) : PE X (.IfExp c a b pos) (tM X.K E ca (mIf mc ma mb)) := PE.weak (pe_ifExp hc ha hb) fun σ H Q h => tM_if h
theorem tMB_not {Q : Bool → Hp → Prop} (h : tMB K E ca (mNot mc) σ H Q) : tNot (tMB K E ca mc) σ H Q := by
  obtain ⟨F, τ, R, S, q⟩ := h
  refine ⟨F, τ, R, S, ?_⟩
  unfold mNot at q
  cases hm : mc τ with
  | none => simp only [hm] at q
  | some r =>
    simp only [hm] at q
    cases r with
    | x c => exact q
    | v v b =>
      cases v with
      | bl k => exact q
      | _ => exact q.elim
theorem r_tnot (hc : PT X c (tMB X.K E ca mc)) : PT X (.UnaryOp .Not c pos) (tMB X.K E ca (mNot mc)) := PT.weak (pt_not hc) fun σ H Q h => tMB_not h
theorem tM_not {Q : VK} (h : tM K E ca (mNot mc) σ H Q) : tNotV (tM K E ca mc) σ H Q := by
  obtain ⟨F, τ, R, S, q⟩ := h
  refine ⟨F, τ, R, S, ?_⟩
  unfold mNot at q
  cases hm : mc τ with
  | none => simp only [hm] at q
  | some r =>
    simp only [hm] at q
    cases r with
    | x c => exact q
    | v v b =>
      cases v with
      | bl k =>
        intro F' H' x B e g
        have hx : x = .bl k := by
          cases b with
          | true => obtain ⟨_, A, _, r⟩ := g; exact r.bl_inv
          | false => exact (show Rp K F' H' _ _ _ from g).bl_inv
        exact ⟨k, hx, q F' H' _ R0 (e.mono fun _ z => z.elim) (.bl _)⟩
      | _ => exact q.elim
theorem r_not (ha : PE X a (tM X.K E ca ma)) : PE X (.UnaryOp .Not a pos) (tM X.K E ca (mNot ma)) := PE.weak (pe_not ha) fun σ H Q h => tM_not h
theorem tM_ifV {Q : VK} (h : tM K E ca (mIf mc ma mb) σ H Q) : tM K E ca mc σ H fun x H1 => ∃ k, x = .bl k ∧ if k = true then tM K E ca ma σ H1 Q else tM K E ca mb σ H1 Q := tMB_val (tM_if h)
theorem tM_c {t : T} {v : V} (r : ∀ F H, Rp K F H t v R0) {Q : VK} (h : tM K E ca (mC t) σ H Q) : Q v H := by
  obtain ⟨F, τ, R, S, q⟩ := h
  exact q F H v R0 (Ext.refl S.fh) (r _ _)
theorem r_and {rest : List Expr} (ha : PE X a (tM X.K E ca ma)) (hb : PE X (.BoolOp .And (b :: rest) pos) (tM X.K E ca mb)) : PE X (.BoolOp .And (a :: b :: rest) pos) (tM X.K E ca (mAnd ma mb)) :=
  PE.weak (pe_and ha hb) fun σ H Q h => (tM_ifV h).mono fun x H1 ⟨k, e, q⟩ => ⟨k, e, by
    cases k with
    | true => exact q
    | false => exact tM_c (E := E) (ca := ca) (fun _ _ => .bl _) q⟩
theorem r_or {rest : List Expr} (ha : PE X a (tM X.K E ca ma)) (hb : PE X (.BoolOp .Or (b :: rest) pos) (tM X.K E ca mb)) : PE X (.BoolOp .Or (a :: b :: rest) pos) (tM X.K E ca (mOr ma mb)) :=
  PE.weak (pe_or ha hb) fun σ H Q h => (tM_ifV h).mono fun x H1 ⟨k, e, q⟩ => ⟨k, e, by
    cases k with
    | true => exact tM_c (E := E) (ca := ca) (fun _ _ => .bl _) q
    | false => exact q⟩
theorem r_one {op : BoolOp} (ha : PE X a (tM X.K E ca ma)) : PE X (.BoolOp op [a] pos) (tM X.K E ca ma) := pe_one ha
theorem tMB.mono {Q Q' : Bool → Hp → Prop} (h : tMB K E ca m σ H Q) (w : ∀ x H', Q x H' → Q' x H') : tMB K E ca m σ H Q' := by
  obtain ⟨F, τ, R, S, q⟩ := h
  refine ⟨F, τ, R, S, ?_⟩
  cases hm : m τ with
  | none => rw [hm] at q; exact q
  | some r =>
    rw [hm] at q
    cases r with
    | v v b =>
      cases v with
      | bl k => exact fun F' H' e => w _ _ (q F' H' e)
      | _ => exact q.elim
    | x c => exact q
theorem tMB_c {k : Bool} {Q : Bool → Hp → Prop} (h : tMB K E ca (mC (.bl k)) σ H Q) : Q k H := by
  obtain ⟨F, τ, R, S, q⟩ := h
  exact q F H (Ext.refl S.fh)
theorem PW.weak {t t' : TT} (h : PW X e t) (w : ∀ σ H Q, t' σ H Q → t σ H Q) : PW X e t' := fun wh pins s σ H Q I q => h wh pins s σ H Q I (w σ H Q q)
theorem r_wand {rest : List Expr} (ha : PT X a (tMB X.K E ca ma)) (hb : PW X (.BoolOp .And (b :: rest) pos) (tMB X.K E ca mb)) : PW X (.BoolOp .And (a :: b :: rest) pos) (tMB X.K E ca (mAnd ma mb)) :=
  PW.weak (pw_and ha hb) fun σ H Q h => (tMB_if h).mono fun k H1 q => by
    cases k with
    | true => exact q
    | false => exact tMB_c (E := E) (ca := ca) q
theorem r_wor {rest : List Expr} (ha : PT X a (tMB X.K E ca ma)) (hb : PW X (.BoolOp .Or (b :: rest) pos) (tMB X.K E ca mb)) : PW X (.BoolOp .Or (a :: b :: rest) pos) (tMB X.K E ca (mOr ma mb)) :=
  PW.weak (pw_or ha hb) fun σ H Q h => (tMB_if h).mono fun k H1 q => by
    cases k with
    | true => exact tMB_c (E := E) (ca := ca) q
    | false => exact q
theorem r_wone1 (ha : PT X a (tMB X.K E ca ma)) : PW X (.BoolOp .And [a] pos) (tMB X.K E ca ma) := pw_and1 ha
theorem r_wone2 (ha : PT X a (tMB X.K E ca ma)) : PW X (.BoolOp .Or [a] pos) (tMB X.K E ca ma) := pw_or1 ha
end
end Pu
set_option Elab.async false
set_option linter.all false
set_option maxRecDepth 100000
namespace Pu
open PySem PySem.Spec PyProof.Rows L2 Zw Zx
section
variable {X : Cx} {pins : List (Addr × Obj)} {σ : L2.St} {H : Hp} {s : Shared} {h' : Heap}
theorem turnedN {t' : Nat} {ch : List Addr} (I : Inv X pins σ H s) (k : ∀ b o, b ∉ ch → s.heap.get? b = some o → h'.get? b = some o) (f : ∀ b ∈ ch, FpOk X pins H b) : Inv X pins σ H { s with heap := h', toks := t' } := by
  have nit : ∀ b u, H b = some u → b ∉ ch := fun b u e z => by rw [(f b z).1] at e; cases e
  refine I.step (g' := s.gens) (d' := s.drawn) (ch := ch) (fun b hb => ?_) (fun b o _ _ hc e _ => k b o hc e) (fun b o _ _ hc e _ => ⟨o.slots, k b o hc e⟩) (fun _ _ _ _ n => n)
    (fun b o hc e => ⟨o, k b o hc e⟩) (fun _ _ e => e) (fun _ _ _ e => e) (fun b ps e => ⟨#[], by rw [e]; simp⟩) (fun m hm => ?_) (fun b u e => ?_) I.bare
  · obtain ⟨_, f1, f2, f3, f4, f5⟩ := f b hb
    exact ⟨f3, f1, f4, f5⟩
  · obtain ⟨o, es, ep, ho, r⟩ := hm
    exact ⟨o, es, ep, k _ o (fun z => (f _ z).2.1 rfl) ho, r⟩
  · refine (I.hok b u e).stay (fun c v hc q => k c v ?_ q) (fun _ q => q) fun _ _ q => q
    rcases hc with z | z
    · rw [z]; exact nit b u e
    · exact nit c _ z
theorem turned_new {t' : Nat} {ch : List Addr} {p : Addr} {o : HO} (I : Inv X pins σ H s) (k : ∀ b o, b ∉ ch → s.heap.get? b = some o → h'.get? b = some o) (f : ∀ b ∈ ch, FpOk X pins H b) (hp : s.heap.objs.size ≤ p) (new : ObjOk X.prog X.w (upd H p o) h' p o) :
    Inv X pins σ (upd H p o) { s with heap := h', toks := t' } := by
  have hn : H p = none := I.hok.fresh hp
  have nit : ∀ b u, H b = some u → b ∉ ch := fun b u e z => by rw [(f b z).1] at e; cases e
  have old : ∀ b ob, s.heap.get? b = some ob → b ≠ p := fun b ob e z => by
    subst z
    exact absurd (Heap.lt_size e) (Nat.not_lt.mpr hp)
  refine I.step (g' := s.gens) (d' := s.drawn) (ch := ch) (fun b hb => ?_) (fun b o _ _ hc e _ => k b o hc e) (fun b o _ _ hc e _ => ⟨o.slots, k b o hc e⟩) (fun b ob hc e n => by rw [upd_ne (old b ob e)]; exact n)
    (fun b o hc e => ⟨o, k b o hc e⟩) (fun b xs e => by rw [upd_ne (ne_of_none e hn)]; exact e) (fun b o u e => by rw [upd_ne (ne_of_none e hn)]; exact e) (fun b ps e => ⟨#[], by rw [upd_ne (ne_of_none e hn), e]; simp⟩) (fun m hm => ?_) (fun b u e => ?_) I.bare
  · obtain ⟨_, f1, f2, f3, f4, f5⟩ := f b hb
    exact ⟨f3, f1, f4, f5⟩
  · obtain ⟨o, es, ep, ho, r⟩ := hm
    exact ⟨o, es, ep, k _ o (fun z => (f _ z).2.1 rfl) ho, r⟩
  · by_cases hb : b = p
    · subst hb
      rw [upd_same] at e
      cases e
      exact new
    · rw [upd_ne hb] at e
      refine (I.hok b u e).stay (fun c v hc q => k c v ?_ q) (fun c q => by rw [upd_ne (ne_of_none q hn)]; exact q) fun c xs q => by rw [upd_ne (ne_of_none q hn)]; exact q
      rcases hc with z | z
      · rw [z]; exact nit b u e
      · exact nit c _ z
theorem fp_upd {p b : Addr} {o : HO} (f : FpOk X pins H b) (h : b ≠ p) : FpOk X pins (upd H p o) b := ⟨by rw [upd_ne h]; exact f.1, f.2⟩
end
def Ite (K : PySem.W.Frag) (l : Addr) : It :=
  ⟨fun i H => ∃ xs x, SqL K H l xs ∧ xs[i]? = some x, fun i H x H' => ∃ p y, x = .ref p ∧ H p = none ∧ H' = upd H p (.tup [.int i, y]) ∧ ∀ xs, SqL K H l xs → xs[i]? = some y, fun i H => ∃ xs, SqL K H l xs ∧ xs.length ≤ i⟩
theorem turn_enum {P : Program} {w : World} {K : PySem.W.Frag} {elts : List Expr} {kk : Nat} {tpos : Pos} (l e it : Addr) (hei : e ≠ it) :
    Turn P w K (.Tuple elts kk tpos) (Ite K l) [e, it] e (fun i h => (∃ old, IsEnum h e it i old) ∧ h.IsListIter it l i) where
  mem := by simp
  obj := fun i h st b hb => by
    obtain ⟨⟨old, he⟩, o, hi, hc, hd⟩ := st; obtain rfl | hb := List.mem_cons.mp hb
    · exact ⟨_, he, fun v z => by
        have z' : Data.fields _ = Data.cell v := z
        cases z'⟩
    · have q : b = it := by simpa using hb
      subst q
      exact ⟨o, hi, fun v z => by rw [hd] at z; cases z⟩
  keep := fun i h h' st k => by
    obtain ⟨⟨old, he⟩, hi⟩ := st
    exact ⟨⟨old, k e (by simp) _ he⟩, hi.at fun o q => k it (by simp) o q⟩
  item := by
    intro X hP hw hK hc i pins s σ H E I hf st hg
    subst hP hw hK
    obtain ⟨⟨old, he⟩, hit⟩ := st
    obtain ⟨xs, x, hq, hx⟩ := hg
    obtain ⟨its, rv, p, hz⟩ := I.list hq
    obtain ⟨u, hu, ru⟩ := rv.get hx
    have elt : e < s.heap.objs.size := Heap.lt_size he
    have ilt : it < s.heap.objs.size := by obtain ⟨o, q, _⟩ := hit; exact Heap.lt_size q
    have hn : H s.heap.objs.size = none := I.hok.fresh (Nat.le_refl _)
    refine wpAny_pyNext_enum_item he hit p.isList (x := u) (by simpa using hu) hei fun h' ho hit' hT hsz hk => ?_
    have I1 : Inv X pins σ (upd H s.heap.objs.size (.tup [.int i, x])) { s with heap := h', toks := s.toks + 1 } := by
      refine turned_new (ch := [e, it]) I (fun b o hb q => hk b o (fun z => hb (by simp [z])) (fun z => hb (by simp [z])) q) hf (Nat.le_refl _) ?_
      exact ⟨by simp only [List.length_cons, List.length_nil]; rw [sizeLine_eq]; decide, [.int i s.toks, u], .cons ⟨_, rfl⟩ (.cons ru .nil), _, hT, rfl, 0, rfl⟩
    have f1 : ∀ b ∈ [e, it], FpOk X pins (upd H s.heap.objs.size (.tup [.int i, x])) b := fun b hb => fp_upd (hf b hb) (by
      obtain rfl | hb := List.mem_cons.mp hb
      · exact Nat.ne_of_lt elt
      · have q : b = it := by simpa using hb
        subst q
        exact Nat.ne_of_lt ilt)
    refine ⟨.ref s.heap.objs.size, rfl, wpAny_letOwnedTupleGo_enum ho fun h2 he2 hs2 => ?_⟩
    refine ⟨.ref s.heap.objs.size, _, turnedN (t' := s.toks + 1) (ch := [e]) I1 (fun b o hb q => hs2.extBut b o (fun z => hb (by simp [z])) q) (fun b hb => f1 b (by simp at hb; simp [hb])), rfl, ⟨_, x, rfl, hn, rfl, fun ys hy => by rw [I.list_inj hy hq]; exact hx⟩, ⟨⟨_, by simpa using he2⟩, hit'.extBut hs2.extBut hei.symm⟩, fun b hb => (f1 b hb).1⟩
  done := by
    intro X hP hw hK hc i pins s σ H E I hf st hg
    subst hP hw hK
    obtain ⟨⟨old, he⟩, hit⟩ := st
    obtain ⟨xs, hq, hx⟩ := hg
    obtain ⟨its, rv, p, hz⟩ := I.list hq
    have hl := rv.length
    exact wpAny_pyNext_enum_end (I.ok.hd hc) he hit p.isList (by simp; omega) fun h' eb => ⟨rfl, turnedN (t' := s.toks) (ch := [it]) I (fun b o hb q => eb b o (fun z => hb (by simp [z])) q) (fun b hb => hf b (by simp at hb; simp [hb]))⟩
  self := fun _ _ _ _ _ st h => wpAny_pyIter_enum st.1.choose_spec h
def Itz (K : PySem.W.Frag) (l1 l2 : Addr) : It :=
  ⟨fun i H => ∃ xs x ys y, SqL K H l1 xs ∧ xs[i]? = some x ∧ SqL K H l2 ys ∧ ys[i]? = some y,
   fun i H x H' => ∃ p y z, x = .ref p ∧ H p = none ∧ H' = upd H p (.tup [y, z]) ∧ (∀ xs, SqL K H l1 xs → xs[i]? = some y) ∧ ∀ xs, SqL K H l2 xs → xs[i]? = some z,
   fun i H => ∃ xs ys, SqL K H l1 xs ∧ SqL K H l2 ys ∧ (xs.length ≤ i ∨ ys.length ≤ i)⟩
theorem turn_zip {P : Program} {w : World} {K : PySem.W.Frag} {elts : List Expr} {kk : Nat} {tpos : Pos} (z TI TO i1 i2 l1 l2 : Addr) (D : ZipApart z TI TO i1 i2 l1 l2) :
    Turn P w K (.Tuple elts kk tpos) (Itz K l1 l2) [z, TI, TO, i1, i2] z (fun i h => IsZip h z TI TO .none ∧ IsPair h TI (.ref i1) (.ref i2) ∧ (∃ a b, IsPair h TO a b) ∧ h.IsListIter i1 l1 i ∧ h.IsListIter i2 l2 i) where
  mem := by simp
  obj := fun i h st b hb => by
    obtain ⟨hz, hTI, ⟨a, c, hTO⟩, ⟨o1, e1, _, d1⟩, ⟨o2, e2, _, d2⟩⟩ := st
    simp only [List.mem_cons, List.not_mem_nil, or_false] at hb; rcases hb with rfl | rfl | rfl | rfl | rfl
    · exact ⟨_, hz, fun v z => by
        have z' : Data.fields _ = Data.cell v := z
        cases z'⟩
    · exact ⟨_, hTI, fun v z => by
        have z' : Data.seq _ _ = Data.cell v := z
        cases z'⟩
    · exact ⟨_, hTO, fun v z => by
        have z' : Data.seq _ _ = Data.cell v := z
        cases z'⟩
    · exact ⟨o1, e1, fun v z => by rw [d1] at z; cases z⟩
    · exact ⟨o2, e2, fun v z => by rw [d2] at z; cases z⟩
  keep := fun i h h' st k => by
    obtain ⟨hz, hTI, ⟨a, c, hTO⟩, h1, h2⟩ := st
    exact ⟨k z (by simp) _ hz, k TI (by simp) _ hTI, ⟨a, c, k TO (by simp) _ hTO⟩, h1.at fun o q => k i1 (by simp) o q, h2.at fun o q => k i2 (by simp) o q⟩
  item := by
    intro X hP hw hK hc i pins s σ H E I hf st hg
    subst hP hw hK
    obtain ⟨hz, hTI, ⟨a, c, hTO⟩, h1, h2⟩ := st
    obtain ⟨xs, x, ys, y, hq, hx, hq2, hy⟩ := hg
    obtain ⟨its, rv, p, hzz⟩ := I.list hq
    obtain ⟨its2, rv2, p2, hzz2⟩ := I.list hq2
    obtain ⟨u, hu, ru⟩ := rv.get hx
    obtain ⟨u2, hu2, ru2⟩ := rv2.get hy
    have hn : H s.heap.objs.size = none := I.hok.fresh (Nat.le_refl _)
    have lt : ∀ b ∈ [z, TI, TO, i1, i2], b ≠ s.heap.objs.size := fun b hb => by
      simp only [List.mem_cons, List.not_mem_nil, or_false] at hb; rcases hb with rfl | rfl | rfl | rfl | rfl
      · exact Nat.ne_of_lt (Heap.lt_size hz)
      · exact Nat.ne_of_lt (Heap.lt_size hTI)
      · exact Nat.ne_of_lt (Heap.lt_size hTO)
      · obtain ⟨o, q, _⟩ := h1; exact Nat.ne_of_lt (Heap.lt_size q)
      · obtain ⟨o, q, _⟩ := h2; exact Nat.ne_of_lt (Heap.lt_size q)
    refine wpAny_pyNext_zip_item D hz hTI hTO h1 h2 p.isList p2.isList (x := u) (y := u2) (by simpa using hu) (by simpa using hu2) fun h' a1 a2 a3 a4 a5 a6 hk => ?_
    have I1 : Inv X pins σ (upd H s.heap.objs.size (.tup [x, y])) { s with heap := h', toks := s.toks } := by
      refine turned_new (ch := [z, TI, TO, i1, i2]) I (fun b o hb q => hk b o (fun z => hb (by simp [z])) (fun z => hb (by simp [z])) (fun z => hb (by simp [z])) (fun z => hb (by simp [z])) q) hf (Nat.le_refl _) ?_
      exact ⟨by simp only [List.length_cons, List.length_nil]; rw [sizeLine_eq]; decide, [u, u2], .cons ru (.cons ru2 .nil), _, a5, rfl, 0, rfl⟩
    have f1 : ∀ b ∈ [z, TI, TO, i1, i2], FpOk X pins (upd H s.heap.objs.size (.tup [x, y])) b := fun b hb => fp_upd (hf b hb) (lt b hb)
    refine ⟨.ref s.heap.objs.size, rfl, wpAny_letOwnedTupleGo_zip a1 fun h3 hz3 hs3 => ?_⟩
    refine ⟨.ref s.heap.objs.size, _, turnedN (t' := s.toks) (ch := [z]) I1 (fun b o hb q => hs3.extBut b o (fun z => hb (by simp [z])) q) (fun b hb => f1 b (by simp at hb; simp [hb])), rfl, ⟨_, x, y, rfl, hn, rfl, (fun zs hy' => by rw [I.list_inj hy' hq]; exact hx), fun zs hy' => by rw [I.list_inj hy' hq2]; exact hy⟩, ?_, fun b hb => (f1 b hb).1⟩
    exact ⟨hz3, hs3.extBut _ _ D.TIz (hk _ _ D.TIz D.TITO D.TIi1 D.TIi2 hTI), ⟨_, _, hs3.extBut _ _ D.TOz a2⟩, a3.extBut hs3.extBut D.i1z, a4.extBut hs3.extBut D.i2z⟩
  done := by
    intro X hP hw hK hc i pins s σ H E I hf st hg
    subst hP hw hK
    obtain ⟨hz, hTI, ⟨a, c, hTO⟩, h1, h2⟩ := st
    obtain ⟨xs, ys, hq, hq2, hx⟩ := hg
    obtain ⟨its, rv, p, hzz⟩ := I.list hq
    obtain ⟨its2, rv2, p2, hzz2⟩ := I.list hq2
    have hl := rv.length
    have hl2 := rv2.length
    refine wpAny_pyNext_zip_end (I.ok.hd hc) D hz hTI hTO h1 h2 p.isList p2.isList ?_ fun h' hk => ⟨rfl, turnedN (t' := s.toks) (ch := [z, TI, TO, i1, i2]) I (fun b o hb q => hk b o (fun z => hb (by simp [z])) (fun z => hb (by simp [z])) (fun z => hb (by simp [z])) (fun z => hb (by simp [z])) q) hf⟩
    rcases hx with hx | hx
    · exact .inl (by simp; omega)
    · exact .inr (by simp; omega)
  self := fun _ _ _ _ _ st h => wpAny_pyIter_zip st.1 h
section
variable {X : Cx} {elts : List Expr} {kk : Nat} {tpos : Pos}
def iEnum (K : PySem.W.Frag) (ta : TA) : TI := fun σ H R => ta σ H fun vs H1 => ∃ a, vs = [.ref a] ∧ (∃ xs, SqL K H1 a xs) ∧ R (Ite K a) H1
theorem pi_enum {a : Expr} {ta : TA} {p pos : Pos} (hg : Gl X "enumerate") (hm : X.mg "enumerate" = none) (ha : PA X [a] ta) (hs : starEach [a] X.env = [(false, eval a X.env)]) : PI X (.Tuple elts kk tpos) (.Call (.Name "enumerate" p) [a] [] pos) (iEnum X.K ta) := by
  intro pins s σ H R I h
  refine Call_ (ld_blt I hg hm boot_enumerate (PyProof.Rows.callWith_type1 (thn (ha pos pins s σ H _ I h) fun us s1 ⟨vs, H1, I1, r1, q1⟩ => ?_) hs rfl))
  obtain ⟨l, e, ⟨xs, hq⟩, q⟩ := q1
  subst e
  obtain ⟨u, rfl, ru⟩ := vals1 r1
  cases ru
  obtain ⟨its, rv, pl, hz⟩ := I1.list hq
  have llt : l < s1.heap.objs.size := by obtain ⟨o, n, e, _⟩ := pl; exact Heap.lt_size e
  refine call_enumerate_list pl.isList fun h' he hit hsz hk => ?_
  have I2 : Inv X pins σ H1 { s1 with heap := h', toks := s1.toks } := I1.kept hk
  refine wpAny_pyIter_enum he ⟨s1.heap.objs.size + 1, [s1.heap.objs.size + 1, s1.heap.objs.size], _, _, H1, rfl, I2, turn_enum l _ _ (by simp), ⟨⟨_, he⟩, hit⟩, fun b hb => ?_, q⟩
  have hb' : s1.heap.objs.size ≤ b := by
    obtain rfl | hb := List.mem_cons.mp hb
    · exact Nat.le_succ _
    · have e : b = s1.heap.objs.size := by simpa using hb
      subst e
      exact Nat.le_refl _
  exact I1.fpOk hb' (I1.hok.fresh hb')
def iZip (K : PySem.W.Frag) (ta : TA) : TI := fun σ H R => ta σ H fun vs H1 => ∃ a b, vs = [.ref a, .ref b] ∧ (∃ xs, SqL K H1 a xs) ∧ (∃ xs, SqL K H1 b xs) ∧ R (Itz K a b) H1
theorem pi_zip {a b : Expr} {ta : TA} {p pos : Pos} (hg : Gl X "zip") (hm : X.mg "zip" = none) (ha : PA X [a, b] ta) (hs : starEach [a, b] X.env = [(false, eval a X.env), (false, eval b X.env)]) (hs2 : starEach [b] X.env = [(false, eval b X.env)]) : PI X (.Tuple elts kk tpos) (.Call (.Name "zip" p) [a, b] [] pos) (iZip X.K ta) := by
  intro pins s σ H R I h
  refine Call_ (ld_blt I hg hm boot_zip (PyProof.Rows.callWith_type1 (thn (ha pos pins s σ H _ I h) fun us s1 ⟨vs, H1, I1, r1, q1⟩ => ?_) (by rw [hs, hs2]) (by rw [hs2]; rfl)))
  obtain ⟨l1, l2, e, ⟨xs, hq⟩, ⟨ys, hq2⟩, q⟩ := q1
  subst e
  obtain ⟨u, u2, rfl, ru, ru2⟩ := vals2 r1
  cases ru
  cases ru2
  obtain ⟨its, rv, pl, hz⟩ := I1.list hq
  obtain ⟨its2, rv2, pl2, hz2⟩ := I1.list hq2
  have llt : l1 < s1.heap.objs.size := by obtain ⟨o, n, e, _⟩ := pl; exact Heap.lt_size e
  have llt2 : l2 < s1.heap.objs.size := by obtain ⟨o, n, e, _⟩ := pl2; exact Heap.lt_size e
  refine call_zip_2 pl.isList pl2.isList fun h' a1 a2 a3 a4 a5 a6 hk => ?_
  have I2 : Inv X pins σ H1 { s1 with heap := h', toks := s1.toks } := I1.kept hk
  have D : ZipApart (s1.heap.objs.size + 4) (s1.heap.objs.size + 2) (s1.heap.objs.size + 3) s1.heap.objs.size (s1.heap.objs.size + 1) l1 l2 := by
    have n1 : ∀ k : Nat, l1 ≠ s1.heap.objs.size + k := fun k z => Nat.lt_irrefl _ (Nat.lt_of_lt_of_le llt (z ▸ Nat.le_add_right _ _))
    have n2 : ∀ k : Nat, l2 ≠ s1.heap.objs.size + k := fun k z => Nat.lt_irrefl _ (Nat.lt_of_lt_of_le llt2 (z ▸ Nat.le_add_right _ _))
    refine ⟨?_, ?_, ?_, ?_, ?_, ?_, ?_, ?_, ?_, ?_, n1 4, n1 3, n1 0, n1 1, n2 4, n2 3, n2 0, n2 1⟩ <;> intro z <;> simp at z
  refine wpAny_pyIter_zip a1 ⟨_, [s1.heap.objs.size + 4, s1.heap.objs.size + 2, s1.heap.objs.size + 3, s1.heap.objs.size, s1.heap.objs.size + 1], _, _, H1, rfl, I2, turn_zip _ _ _ _ _ l1 l2 D, ⟨a1, a2, ⟨_, _, a3⟩, a4, a5⟩, fun b hb => ?_, q⟩
  have hb' : s1.heap.objs.size ≤ b := by
    simp only [List.mem_cons, List.not_mem_nil, or_false] at hb; rcases hb with rfl | rfl | rfl | rfl | rfl
    · exact Nat.le_add_right _ _
    · exact Nat.le_add_right _ _
    · exact Nat.le_add_right _ _
    · exact Nat.le_refl _
    · exact Nat.le_add_right _ _
  exact I1.fpOk hb' (I1.hok.fresh hb')
end
end Pu
set_option Elab.async false
set_option linter.all false
set_option maxRecDepth 100000
namespace Pu
open PySem PySem.Spec PyProof.Rows L2 Zw Zx
def testsOf (ifs : List Expr) (env : Env) : Sem Bool := forIn ifs true fun c r => if r = true then do let ok ← isTrue c env (eval c env); pure (ForInStep.yield ok) else pure (ForInStep.yield r)
def PTs (X : Cx) (ifs : List Expr) (t : TT) : Prop :=
  ∀ (pins : List (Addr × Obj)) (s : Shared) (σ : L2.St) (H : Hp) (Q : Bool → Hp → Prop), Inv X pins σ H s → t σ H Q → wpAny (model X.prog X.w) X.A (testsOf ifs X.env) (TP X pins σ Q) X.xe s
theorem pts_nil {X : Cx} : PTs X [] (fun _ H Q => Q true H) := fun pins s σ H Q I h => wpAny_pure ⟨H, I, h⟩
theorem pts_one {X : Cx} {c : Expr} {t : TT} (h : PT X c t) : PTs X [c] t := fun pins s σ H Q I q => by
  have e : testsOf [c] X.env = (isTrue c X.env (eval c X.env) >>= fun ok => pure ok) := by
    unfold testsOf
    simp [List.forIn_cons]
  rw [e]
  exact wpAny_bind (wpAny_mono (h pins s σ H Q I q) (fun b s1 h1 => wpAny_pure h1) fun _ _ z => z)
theorem comp_turn2 {elt target iter : Expr} {ifs : List Expr} {scope : Scope} {pos : Pos} {it acc : Value} {env : Env} : compTurn (.ListComp elt [⟨target, iter, ifs, 0⟩] scope pos) 0 it acc env = (standAt iter.pos >>= fun _ => pyNext it >>= fun r => match r with
    | none => pure (.done .next)
    | some u => letOwnedTupleGo target it u >>= fun _ => assign target env u >>= fun _ => testsOf ifs env >>= fun ok =>
      if ok = true then ((eval elt env >>= fun x => call (.builtin "list.append") [acc, x] >>= fun _ => pure ()) >>= fun _ => again (.compLoop (.ListComp elt [⟨target, iter, ifs, 0⟩] scope pos) 0 it acc env))
      else again (.compLoop (.ListComp elt [⟨target, iter, ifs, 0⟩] scope pos) 0 it acc env)) := by rfl
theorem comp_loop2 {prog : Program} {w : World} {A : Around} {R : Result → Shared → Prop} {s : Shared} {elt target iter : Expr} {ifs : List Expr} {scope : Scope} {pos : Pos} {it acc : Value} {env : Env} (I : Nat → Shared → Prop)
    (hturn : ∀ n s, I n s → wpAny (model prog w) A (pyNext it) (fun r s₁ => match r with
      | none => R (.ok .next) s₁
      | some v => wpAny (model prog w) A (letOwnedTupleGo target it v) (fun _ s₁' => wpAny (model prog w) A (assign target env v) (fun _ s₂ => wpAny (model prog w) A (testsOf ifs env) (fun ok s₂' => if ok = true then wpAny (model prog w) A (eval elt env) (fun x s₃ =>
          wpAny (model prog w) A (call (.builtin "list.append") [acc, x]) (fun _ s₄ => ∃ m, m < n ∧ I m s₄) (fun _ _ => False) s₃)
          (fun _ _ => False) s₂' else ∃ m, m < n ∧ I m s₂') (fun _ _ => False) s₂) (fun _ _ => False) s₁') (fun _ _ => False) s₁) (fun _ _ => False) s)
    (k : Nat) (hk : I k s) : codeAny (model prog w) A (.compLoop (.ListComp elt [⟨target, iter, ifs, 0⟩] scope pos) 0 it acc env) R s := by
  refine codeAny_loop rfl I (fun n s hI => ?_) k hk
  show wpAny _ _ ((compTurn (.ListComp elt [⟨target, iter, ifs, 0⟩] scope pos) 0 it acc env).onRaise (fun y => do noteFrame y env; theTreesLotGoes y)) _ _ s
  refine wpAny_noted ?_
  rw [comp_turn2]
  refine wpAny_bind (wpAny_standAt (wpAny_bind (wpAny_mono (hturn n s hI) (fun r s₁ h₁ => ?_) fun _ _ z => z.elim)))
  cases r with
  | none => exact wpAny_pure h₁
  | some v =>
    refine wpAny_bind (wpAny_mono h₁ (fun _ s₁' h₁' => ?_) fun _ _ z => z.elim)
    refine wpAny_bind (wpAny_mono h₁' (fun _ s₂ h₂ => wpAny_bind (wpAny_mono h₂ (fun ok s₂' h₂' => ?_) fun _ _ z => z.elim)) fun _ _ z => z.elim)
    cases ok with
    | false =>
      rw [if_neg (by decide)] at h₂' ⊢
      exact wpAny_pure ⟨rfl, h₂'⟩
    | true =>
      rw [if_pos rfl] at h₂' ⊢
      exact wpAny_bind (wpAny_bind (wpAny_mono h₂' (fun x s₃ h₃ => wpAny_bind (wpAny_mono h₃ (fun _ s₄ h₄ => wpAny_pure (wpAny_pure ⟨rfl, h₄⟩)) fun _ _ z => z.elim)) fun _ _ z => z.elim))
theorem closure_ok (env : Env) : ∀ (names : List (Str × NameKind)), (∀ y ∈ names, y.2 = .free → ∃ c, env.cells.lookup y.1 = some c) → ∀ acc : List (Str × Addr), ∃ cl : List (Str × Addr),
    (forIn names acc fun (x : Str × NameKind) (r : List (Str × Addr)) => (if (x.2 == NameKind.free) = true then do let a ← cellOf env x.1; pure (ForInStep.yield ((x.1, a) :: r)) else pure (ForInStep.yield r) : Sem (ForInStep (List (Str × Addr))))) = (pure cl : Sem (List (Str × Addr))) ∧
    (∀ y c, cl.lookup y = some c → acc.lookup y = some c ∨ env.cells.lookup y = some c) ∧ (∀ y ∈ names, y.2 = .free → ∃ c, cl.lookup y.1 = some c) ∧ ∀ y c, acc.lookup y = some c → ∃ c', cl.lookup y = some c'
  | [], _, acc => ⟨acc, rfl, fun _ _ e => .inl e, (fun _ z => by cases z), fun _ c e => ⟨c, e⟩⟩
  | (n, k) :: r, h, acc => by
    rw [List.forIn_cons]
    by_cases hk : k = .free
    · subst hk
      obtain ⟨c, hc⟩ := h (n, .free) (List.mem_cons_self ..) rfl
      have e1 : cellOf env n = pure c := by unfold cellOf; rw [hc]
      obtain ⟨cl, e, h1, h2, h3⟩ := closure_ok env r (fun y hy => h y (List.mem_cons_of_mem _ hy)) ((n, c) :: acc)
      refine ⟨cl, ?_, fun y c' q => ?_, fun y hy hf => ?_, fun y c' q => ?_⟩
      · simp only [beq_self_eq_true, if_true, e1, pure_bind]
        exact e
      · rcases h1 y c' q with z | z
        · rw [List.lookup_cons] at z
          cases hy : y == n with
          | true =>
            rw [hy] at z
            cases z
            exact .inr (by rw [eq_of_beq hy]; exact hc)
          | false => rw [hy] at z; exact .inl z
        · exact .inr z
      · obtain rfl | hy := List.mem_cons.mp hy
        · exact h3 n c (by simp)
        · exact h2 y hy hf
      · by_cases hy : y = n
        · subst hy
          exact h3 y c (by simp)
        · exact h3 y c' (by rw [List.lookup_cons, beq_eq_false_iff_ne.mpr hy]; exact q)
    · have hk' : (k == NameKind.free) = false := beq_eq_false_iff_ne.mpr hk
      obtain ⟨cl, e, h1, h2, h3⟩ := closure_ok env r (fun y hy => h y (List.mem_cons_of_mem _ hy)) acc
      refine ⟨cl, ?_, h1, fun y hy hf => ?_, h3⟩
      · simp only [hk', pure_bind]
        exact e
      · obtain rfl | hy := List.mem_cons.mp hy
        · exact absurd hf hk
        · exact h2 y hy hf
theorem closure_for (scope : Scope) (env : Env) (h : ∀ y ∈ scope.names, y.2 = .free → ∃ c, env.cells.lookup y.1 = some c) : ∃ cl, closureFor scope env = pure cl ∧ (∀ y c, cl.lookup y = some c → env.cells.lookup y = some c) ∧ ∀ y ∈ scope.names, y.2 = .free → ∃ c, cl.lookup y.1 = some c := by
  obtain ⟨cl, e, h1, h2, _⟩ := closure_ok env scope.names h []
  refine ⟨cl, ?_, fun y c q => ?_, h2⟩
  · have e2 : closureFor scope env = (forIn scope.names [] fun (x : Str × NameKind) (r : List (Str × Addr)) => (if (x.2 == NameKind.free) = true then do let a ← cellOf env x.1; pure (ForInStep.yield ((x.1, a) :: r)) else pure (ForInStep.yield r) : Sem (ForInStep (List (Str × Addr))))) >>= pure := rfl
    rw [e2, e, pure_bind]
  · rcases h1 y c q with z | z
    · cases z
    · exact z
theorem cells_new : ∀ (names : List (Str × NameKind)) (h : Heap) (acc : List (Str × Addr)) (y : Str) (c : Addr), (cellsFrom h.objs.size names acc).lookup y = some c → acc.lookup y = some c ∨ (h.objs.size ≤ c ∧ (pushCells h names).IsCell c none ∧ (y, NameKind.cell) ∈ names)
  | [], h, acc, y, c, e => .inl e
  | (n, k) :: r, h, acc, y, c, e => by
    unfold cellsFrom at e
    unfold pushCells
    split at e
    · rename_i hk
      rw [if_pos hk]
      have ez : (h.push { cls := .type "cell", data := .cell none }).objs.size = h.objs.size + 1 := Heap.size_push ..
      rw [← ez] at e
      rcases cells_new r _ _ y c e with q | ⟨q1, q2, q3⟩
      · rw [List.lookup_cons] at q
        cases hy : y == n with
        | true =>
          rw [hy] at q
          cases q
          have e1 : y = n := eq_of_beq hy
          subst e1
          exact .inr ⟨Nat.le_refl _, ⟨_, pushCells_keeps _ _ _ _ (Heap.get?_push_size _ rfl), rfl⟩, by rw [eq_of_beq hk]; exact List.mem_cons_self ..⟩
        | false => rw [hy] at q; exact .inl q
      · exact .inr ⟨by rw [ez] at q1; exact Nat.le_trans (Nat.le_succ _) q1, q2, List.mem_cons_of_mem _ q3⟩
    · rename_i hk
      rw [if_neg hk]
      rcases cells_new r h acc y c e with q | ⟨q1, q2, q3⟩
      · exact .inl q
      · exact .inr ⟨q1, q2, List.mem_cons_of_mem _ q3⟩
theorem cells_inj : ∀ (names : List (Str × NameKind)) (h : Heap) (acc : List (Str × Addr)), (∀ y z c, acc.lookup y = some c → acc.lookup z = some c → y = z) → (∀ y c, acc.lookup y = some c → c < h.objs.size) →
    ∀ y z c, (cellsFrom h.objs.size names acc).lookup y = some c → (cellsFrom h.objs.size names acc).lookup z = some c → y = z
  | [], h, acc, hi, _ => hi
  | (n, k) :: r, h, acc, hi, hl => by
    unfold cellsFrom
    split
    · have ez : (h.push { cls := .type "cell", data := .cell none }).objs.size = h.objs.size + 1 := Heap.size_push ..
      rw [← ez]
      refine cells_inj r _ _ (fun y z c h1 h2 => ?_) (fun y c h1 => ?_)
      · rw [List.lookup_cons] at h1 h2
        cases hy : y == n with
        | true =>
          rw [hy] at h1
          cases h1
          cases hz : z == n with
          | true => rw [eq_of_beq hy, eq_of_beq hz]
          | false =>
            rw [hz] at h2
            exact absurd (hl z _ h2) (Nat.lt_irrefl _)
        | false =>
          rw [hy] at h1
          cases hz : z == n with
          | true =>
            rw [hz] at h2
            cases h2
            exact absurd (hl y _ h1) (Nat.lt_irrefl _)
          | false => rw [hz] at h2; exact hi y z c h1 h2
      · rw [List.lookup_cons] at h1
        rw [ez]
        cases hy : y == n with
        | true => rw [hy] at h1; cases h1; exact Nat.lt_succ_self _
        | false => rw [hy] at h1; exact Nat.lt_succ_of_lt (hl y c h1)
    · exact cells_inj r h acc hi hl
theorem cells_own : ∀ (names : List (Str × NameKind)) (n lo : Nat) (acc : List (Str × Addr)) (y : Str) (c : Addr), lo ≤ n → ((y, NameKind.cell) ∈ names ∨ ∃ c0, acc.lookup y = some c0 ∧ lo ≤ c0) → (cellsFrom n names acc).lookup y = some c → lo ≤ c
  | [], n, lo, acc, y, c, hn, h, e => by
    rcases h with h | ⟨c0, h1, h2⟩
    · cases h
    · have e' : acc.lookup y = some c := e
      rw [h1] at e'
      cases e'
      exact h2
  | (m, k) :: r, n, lo, acc, y, c, hn, h, e => by
    unfold cellsFrom at e
    split at e
    · refine cells_own r (n + 1) lo _ y c (Nat.le_succ_of_le hn) ?_ e
      by_cases hy : y = m
      · subst hy
        exact .inr ⟨n, by simp, hn⟩
      · rcases h with h | ⟨c0, h1, h2⟩
        · rcases List.mem_cons.mp h with z | z
          · cases z; exact absurd rfl hy
          · exact .inl z
        · exact .inr ⟨c0, by rw [List.lookup_cons, beq_eq_false_iff_ne.mpr hy]; exact h1, h2⟩
    · rename_i hk
      refine cells_own r n lo acc y c hn ?_ e
      rcases h with h | h
      · rcases List.mem_cons.mp h with z | z
        · cases z; exact absurd rfl hk
        · exact .inl z
      · exact .inr h
theorem newEnv_cells {M : Model} {A : Around} {E : Value → Shared → Prop} {s : Shared} {scope : Scope} {globals : Addr} {cl : List (Str × Addr)} {qual : Str} {func : Option Addr} {code : Value} {outer : Env} {builtins : Addr} {Q : Env → Shared → Prop}
    (hQ : Q (newEnv scope s.heap.objs.size globals (cellsFrom (s.heap.objs.size + 1) scope.names cl) qual func code (some outer) builtins) { s with heap := pushCells (s.heap.push { cls := .type "dict", data := .dict #[] }) scope.names }) :
    wpAny M A (newFunctionEnv scope globals cl [] qual func code (some outer) builtins) Q E s := by
  simp only [newFunctionEnv, Option.isSome_some, if_true]; refine wpAny_bind (wpAny_alloc ?_)
  refine wpAny_bind (wpAny_layCells _ (fun name kind cells => by cases hkc : kind == NameKind.cell <;> simp [hkc]) _ _ _ _ ?_); rw [show ({ s with heap := s.heap.push { cls := .type "dict", data := .dict #[] } } : Shared).heap.objs.size = s.heap.objs.size + 1 from Heap.size_push ..]
  rw [List.forIn_nil]
  exact wpAny_bind (wpAny_pure (wpAny_pure hQ))
abbrev compCx2 (X : Cx) (scope : Scope) (cl : List (Str × Addr)) (N' : List Str) (C : Addr) (s₀ : Shared) (H₀ : Hp) (ex : List Addr) : Cx := { compCx X scope cl N' C s₀ H₀ ex with fn := fun x => decide (scope.names.lookup x = some .cell) }
section
variable {X : Cx} {elt iter tg : Expr} {ifs : List Expr} {scope : Scope} {pos pos2 : Pos} {cl : List (Str × Addr)} {N' : List Str} {wi : TI} {g : TG} {tt : TT} {te : TE}
def tLC2 (σ' : L2.St → L2.St) (wi : TI) (g : TG) (tt : TT) (te : TE) : TE := fun σ H Q => wi σ H fun J H1 => ∃ (W : Nat → List V → L2.St → Hp → Prop) (n : Nat), n ≤ sizeLine ∧ W 0 [] (σ' σ) H1 ∧ ∀ i ys τ H, W i ys τ H → ys.length ≤ i ∧ i ≤ n ∧
  ((J.stop i H ∧ ∀ p, H p = none → Q (.ref p) (upd H p (.lst ys))) ∨ (i < n ∧ J.go i H ∧ ∀ x H', J.yld i H x H' → g x τ H' fun τ2 H2 => tt τ2 H2 fun k H3 => if k = true then te τ2 H3 fun y H4 => W (i + 1) (ys ++ [y]) τ2 H4 else W (i + 1) ys τ2 H3))
theorem lc_any (σ' : L2.St → L2.St) (hclos : closureFor scope X.env = pure cl) (hkind : scope.kind = .function) (hnames : ∀ y ∈ scope.names, y.2 = .local → scope.names.lookup y.1 = some .local)
    (hcl : ∀ y c, cl.lookup y = some c → X.env.cells.lookup y = some c) (hhas : ∀ y, (relabel scope X.env).names.lookup y = some .cell ∨ (relabel scope X.env).names.lookup y = some .free → (y, NameKind.cell) ∈ scope.names ∨ ∃ c, cl.lookup y = some c) (hcap : ∀ (σ : L2.St) (i : Nat) (y : Str) (v : V), N'[i]? = some y → (σ' σ)[i]? = some (some v) → (y, NameKind.cell) ∉ scope.names)
    (hσ : ∀ σ : L2.St, σ.length = X.N.length → (σ' σ).length = N'.length)
    (hvis : ∀ (σ : L2.St) (i : Nat) (y : Str) (v : V), N'[i]? = some y → (σ' σ)[i]? = some (some v) → ((relabel scope X.env).names.lookup y = some .cell ∨ (relabel scope X.env).names.lookup y = some .free) ∧ ∃ j : Nat, X.N[j]? = some y ∧ σ[j]? = some (some v) ∧ Vis X.env.scope y ∧ X.env.kindOf y ≠ some .local)
    (hc : X.calm = true) (hi : PI X tg iter wi) (hg : ∀ cl C s₀ H₀ ex, PG (compCx2 X scope cl N' C s₀ H₀ ex) tg g) (ht : ∀ cl C s₀ H₀ ex, PTs (compCx2 X scope cl N' C s₀ H₀ ex) ifs tt) (he : ∀ cl C s₀ H₀ ex, PE (compCx2 X scope cl N' C s₀ H₀ ex) elt te)
    (hs : ∀ x, foldedSetIterable iter X.env x = pure x) {use : Option (Value → Sem Unit)} {pins : List (Addr × Obj)} {s : Shared} {σ : L2.St} {H : Hp} {Q : VK} {QQ : Value → Shared → Prop} (I : Inv X pins σ H s) (h : tLC2 σ' wi g tt te σ H Q)
    (hend : ∀ (D C : Addr) (s5 : Shared) (H5 : Hp), Inv X pins σ H5 s5 → Q (.ref D) H5 → (∃ m, s5.heap.Ns C m) → FpOk X pins H5 C → compPost (model X.prog X.w) X.A X.xe use QQ (.ref D) C (.ok .next) s5) :
    wpAny (model X.prog X.w) X.A (comprehension (.ListComp elt [⟨tg, iter, ifs, 0⟩] scope pos) scope X.env pos2 (newList []) false (eval iter X.env) use) QQ X.xe s := by
  refine wpAny_comprehension_free (use := use) rfl hs hclos hkind hnames (thn (hi pins s σ H _ I h) fun v s1 h1 => thn h1 fun itv s2 h2 => ?_)
  obtain ⟨it, fp, tn, J, H2, e, I2, T, st2, f2, W, n, hn, w0, turn⟩ := h2
  subst e
  refine wpAny_newObj_type (newEnv_cells ?_)
  dsimp only
  generalize hHp : s2.heap.push { cls := .type "list", dict := none, data := .seq ([] : List Value).toArray } = P2
  generalize hcl' : cellsFrom (P2.objs.size + 1) scope.names cl = cl'
  generalize hh1 : pushCells (P2.push { cls := .type "dict", data := .dict #[] }) scope.names = h₁
  have hC : P2.objs.size = s2.heap.objs.size + 1 := by rw [← hHp, Heap.size_push]
  have hP3 : (P2.push { cls := .type "dict", data := .dict #[] }).objs.size = P2.objs.size + 1 := Heap.size_push ..
  have hDC : s2.heap.objs.size ≠ P2.objs.size := by rw [hC]; exact Nat.ne_of_lt (Nat.lt_succ_self _)
  have below : ∀ b, b < s2.heap.objs.size → b ≠ P2.objs.size ∧ b ≠ s2.heap.objs.size := fun b hb => ⟨by rw [hC]; exact Nat.ne_of_lt (Nat.lt_succ_of_lt hb), Nat.ne_of_lt hb⟩
  have old : ∀ b o, s2.heap.get? b = some o → h₁.get? b = some o := fun b o e => by
    rw [← hh1]
    exact pushCells_keeps _ _ _ _ (Heap.get?_push_of_some _ (hHp ▸ Heap.get?_push_of_some _ e))
  have hacc : h₁.PlainList s2.heap.objs.size #[] := ⟨_, by
    rw [← hh1]
    exact pushCells_keeps _ _ _ _ (Heap.get?_push_of_some _ (hHp ▸ Heap.get?_push_size _ rfl))⟩
  have hns₁ : h₁.Ns P2.objs.size (fun _ => none) := by
    rw [← hh1]
    exact (Heap.Ns.new P2 (.type "dict")).keeps (pushCells_keeps _ _)
  have cells : ∀ y c, cl'.lookup y = some c → X.env.cells.lookup y = some c ∨ (P2.objs.size < c ∧ h₁.IsCell c none ∧ (y, NameKind.cell) ∈ scope.names) := fun y c e => by
    rw [← hcl', ← hP3] at e
    rcases cells_new _ _ _ y c e with q | ⟨q1, q2, q3⟩
    · exact .inl (hcl y c q)
    · rw [hP3] at q1
      rw [hh1] at q2
      exact .inr ⟨q1, q2, q3⟩
  have has' : ∀ y, (y, NameKind.cell) ∈ scope.names ∨ (∃ c, cl.lookup y = some c) → ∃ c, cl'.lookup y = some c := fun y hy => by
    rw [← hcl']
    have go : ∀ (names : List (Str × NameKind)) (n : Nat) (acc : List (Str × Addr)), ((y, NameKind.cell) ∈ names ∨ ∃ c, acc.lookup y = some c) → ∃ c, (cellsFrom n names acc).lookup y = some c := by
      intro names
      induction names with
      | nil =>
        intro n acc h
        rcases h with h | h
        · cases h
        · exact h
      | cons x r ih =>
        obtain ⟨m, k⟩ := x
        intro n acc h
        unfold cellsFrom
        split
        · refine ih _ _ ?_
          by_cases hm : y = m
          · subst hm
            exact .inr ⟨n, by simp⟩
          · rcases h with h | ⟨c, h⟩
            · rcases List.mem_cons.mp h with z | z
              · cases z; exact absurd rfl hm
              · exact .inl z
            · exact .inr ⟨c, by rw [List.lookup_cons, beq_eq_false_iff_ne.mpr hm]; exact h⟩
        · rename_i hk
          refine ih _ _ ?_
          rcases h with h | h
          · rcases List.mem_cons.mp h with z | z
            · cases z; exact absurd rfl hk
            · exact .inl z
          · exact .inr h
    exact go _ _ _ hy
  have fsub : ∀ b ∈ frs X.stack, b ∈ X.env.locals :: X.fs := I2.stkSub
  have fpfs : ∀ b ∈ fp, b ∉ frs X.stack := fun b hb z => by
    obtain ⟨_, h2, h3, _⟩ := f2 b hb
    rcases List.mem_cons.mp (fsub b z) with q | q
    · exact h2 q
    · exact h3 q
  have fpold : ∀ b ∈ fp, b < s2.heap.objs.size := fun b hb => by
    obtain ⟨o, e, _⟩ := T.obj 0 _ st2 b hb
    exact Heap.lt_size e
  have cold : ∀ y c, cl'.lookup y = some c → c < s2.heap.objs.size ∨ P2.objs.size < c := fun y c e => by
    rcases cells y c e with q | q
    · obtain ⟨v, z⟩ := I2.cell y c q
      exact .inl z.lt
    · exact .inr q.1
  have cneD : ∀ y c, cl'.lookup y = some c → c ≠ s2.heap.objs.size := fun y c e z => by
    rcases cold y c e with q | q
    · rw [z] at q; exact Nat.lt_irrefl _ q
    · rw [z, hC] at q; exact absurd q (Nat.not_lt.mpr (Nat.le_succ _))
  have cneF : ∀ b, b < s2.heap.objs.size → (∀ y c, X.env.cells.lookup y = some c → c ≠ b) → ∀ y c, cl'.lookup y = some c → c ≠ b := fun b hb hx y c e z => by
    rcases cells y c e with q | q
    · exact hx y c q z
    · have := q.1
      rw [z, hC] at this
      exact absurd (Nat.lt_trans hb (Nat.lt_of_succ_lt this)) (Nat.lt_irrefl _)
  have fresh2 : ∀ b, s2.heap.objs.size ≤ b → H2 b = none := fun b hb => I2.hok.fresh hb
  have CS : s2.heap.objs.size ≤ P2.objs.size := by rw [hC]; exact Nat.le_succ _
  have ok' : (compCx2 X scope cl' N' P2.objs.size s2 H2 fp).Ok := by
    refine ⟨I2.ok.mod, hkind, I2.ok.glob, I2.ok.blt, CS, ?inj, fun y hy => has' y (hhas y hy), ?cab, I2.ok.hd, I2.ok.frames, .inl rfl, fun b hb => ⟨(below b (fpold b hb)).1, cneF b (fpold b hb) fun y c e => (f2 b hb).2.2.2.2.1 y c e⟩,
      fun b o e => I2.bs b o e, Nat.le_trans I2.ok.bsz I2.sz, fun b o e hb => ?_, fun b hb => fpfs b hb, I2.stack, I2.stkFree⟩
    case inj =>
      intro y z c h1 h2
      have h1' : (cellsFrom (P2.push { cls := .type "dict", data := .dict #[] }).objs.size scope.names cl).lookup y = some c := by rw [hP3, hcl']; exact h1
      have h2' : (cellsFrom (P2.push { cls := .type "dict", data := .dict #[] }).objs.size scope.names cl).lookup z = some c := by rw [hP3, hcl']; exact h2
      refine cells_inj scope.names _ cl (fun y z c g1 g2 => I2.ok.inj y z c (hcl y c g1) (hcl z c g2)) (fun y c g => ?_) y z c h1' h2'
      obtain ⟨v, q⟩ := I2.cell y c (hcl y c g)
      rw [hP3, hC]
      exact Nat.lt_succ_of_lt (Nat.lt_succ_of_lt q.lt)
    case cab =>
      intro y c hy e
      have hy' : scope.names.lookup y = some .cell := of_decide_eq_true hy
      have e' : (cellsFrom (P2.objs.size + 1) scope.names cl).lookup y = some c := by rw [hcl']; exact e
      exact Nat.le_trans CS (Nat.le_trans (Nat.le_succ _) (cells_own scope.names _ (P2.objs.size + 1) cl y c (Nat.le_refl _) (.inl (PySem.mem_of_lookup hy')) e'))
    · obtain ⟨_, _, _, q, _⟩ := f2 b hb
      rcases q with q | q
      · exact I2.ok.noex b o e q
      · exact absurd (Nat.lt_of_lt_of_le (Heap.lt_size e) (Nat.le_trans I2.ok.bsz q)) (Nat.lt_irrefl _)
  have I' : Inv (compCx2 X scope cl' N' P2.objs.size s2 H2 fp) pins (σ' σ) H2 { s2 with heap := h₁ } := by
    refine ⟨ok', rfl, I2.bare, Un.kept old, ⟨_, hns₁, fun i y v h1 h2 h3 => ?_⟩, fun y c e => ?_, fresh2 _ CS, ?fc, fun p hp => ?_, I2.hok.kept old, hσ σ I2.len⟩
    case fc =>
      intro y c e
      rcases cells y c e with q | q
      · exact I2.freeC y c q
      · exact fresh2 c (Nat.le_trans CS (Nat.le_of_lt q.1))
    · obtain ⟨hk, j, h4, h5, h6, h7⟩ := hvis σ i y v h1 h2
      have hno := hcap σ i y v h1 h2
      obtain ⟨m, hn', hl⟩ := I2.loc
      obtain ⟨u, r, l⟩ := hl j y v h4 h5 h6
      obtain ⟨c, hcc⟩ := has' y (hhas y hk)
      refine ⟨u, r, .inr ⟨hk, c, hcc, ?_⟩⟩
      rcases l with ⟨k1, _⟩ | ⟨_, c', e', z⟩
      · exact absurd k1 h7
      · rcases cells y c hcc with w | w
        · rw [w] at e'
          cases e'
          obtain ⟨o, ho, hd⟩ := z
          exact ⟨o, old _ _ ho, hd⟩
        · exact absurd w.2.2 hno
    · rcases cells y c e with w | w
      · obtain ⟨v, o, ho, hd⟩ := I2.cell y c w
        exact ⟨v, o, old _ _ ho, hd⟩
      · exact ⟨none, w.2.1⟩
    · obtain ⟨e1, e2, e3, e4, e5⟩ := I2.pin p hp
      refine ⟨old _ _ e1, e2, (below _ (Heap.lt_size e1)).1, fun z => ?_, e5⟩
      rcases List.mem_cons.mp (fsub _ z) with q | q
      · exact e3 q
      · exact e4 q
  have stat : ∀ {H' : Hp}, (∀ b ∈ fp, H' b = none) → ∀ b ∈ fp, FpOk (compCx2 X scope cl' N' P2.objs.size s2 H2 fp) pins H' b := fun hn' b hb =>
    ⟨hn' b hb, (below b (fpold b hb)).1, fpfs b hb, .inl hb, cneF b (fpold b hb) fun y c e => (f2 b hb).2.2.2.2.1 y c e, (f2 b hb).2.2.2.2.2⟩
  have Dok : ∀ {H' : Hp}, H' s2.heap.objs.size = none → FpOk (compCx2 X scope cl' N' P2.objs.size s2 H2 fp) pins H' s2.heap.objs.size := fun hn' =>
    ⟨hn', hDC, (fun z => by
      obtain ⟨o, ho, _⟩ := (I2.stack.mem z).2
      exact absurd (Heap.lt_size ho) (Nat.lt_irrefl _)), .inr (Nat.le_refl _), cneD, fun p hp z => absurd (Heap.lt_size (I2.pin p hp).1) (by rw [z]; exact Nat.lt_irrefl _)⟩
  have loop : ∀ s3 : Shared, s3 = { s2 with heap := h₁ } →
      codeAny (model X.prog X.w) X.A (.compLoop (.ListComp elt [⟨tg, iter, ifs, 0⟩] scope pos) 0 (.ref it) (.ref s2.heap.objs.size) (compEnvC scope cl' P2.objs.size X.env))
        (compPost (model X.prog X.w) X.A X.xe use QQ (.ref s2.heap.objs.size) P2.objs.size) s3 := by
    rintro s3 rfl
    refine comp_loop2 (fun m s' => ∃ i ys τ H', m = n - i ∧ Inv (compCx2 X scope cl' N' P2.objs.size s2 H2 fp) pins τ H' s' ∧ tn i s'.heap ∧ (∀ b ∈ fp, H' b = none) ∧ H' s2.heap.objs.size = none ∧ (∃ its : List Value, Vals ys its ∧ s'.heap.PlainList s2.heap.objs.size its.toArray) ∧ W i ys τ H')
      ?_ n ⟨0, [], σ' σ, H2, rfl, I', T.keep _ _ _ st2 fun b _ o e => old b o e, fun b hb => (f2 b hb).1, fresh2 _ (Nat.le_refl _), ⟨[], .nil, hacc⟩, w0⟩
    rintro m s4 ⟨i, ys, τ, H4, rfl, I4, st4, fr4, hD4, ⟨its, rv, hpl⟩, w4⟩
    obtain ⟨hly, hin, c⟩ := turn i ys τ H4 w4
    have statp : ∀ {H' : Hp}, (∀ b ∈ fp, H' b = none) → ∀ b ∈ fp, FpOk (compCx2 X scope cl' N' P2.objs.size s2 H2 fp) (pins ++ pinsAt [s2.heap.objs.size] s4.heap) H' b := fun {H'} fr' b hb => by
        obtain ⟨g1, g2, g3, g4, g5, g6⟩ := stat fr' b hb
        refine ⟨g1, g2, g3, g4, g5, fun p hp z => ?_⟩
        rcases List.mem_append.mp hp with y | y
        · exact g6 p (List.mem_append_left _ y) z
        · rcases List.mem_append.mp y with y | y
          · exact g6 p (List.mem_append_right _ y) z
          · obtain ⟨hb', _⟩ := of_pinsAt y
            rw [z, List.mem_singleton] at hb'
            exact absurd (fpold b hb) (by rw [hb']; exact Nat.lt_irrefl _)
    rcases c with ⟨stop, q⟩ | ⟨hlt, go, step⟩
    · obtain ⟨k, hDo⟩ := hpl
      have I4p := I4.pinned (fp := [s2.heap.objs.size]) (fun b hb => by rw [List.mem_singleton.mp hb]; exact Dok hD4) (fun b hb => by rw [List.mem_singleton.mp hb]; exact ⟨_, hDo, fun v z => (by cases z)⟩)
      refine thn (T.done (compCx2 X scope cl' N' P2.objs.size s2 H2 fp) rfl rfl rfl hc i _ s4 τ H4 _ I4p (statp fr4) st4 stop) fun r s5 ⟨hr, I5⟩ => ?_
      subst hr
      have hD5 : s5.heap.get? s2.heap.objs.size = some { cls := .type "list", data := .seq its.toArray k } := (I5.pin (s2.heap.objs.size, _) (List.mem_append_right _ (List.mem_append_right _ (mem_pinsAt (List.mem_singleton.mpr rfl) hDo)))).1
      obtain ⟨m5, hn5, _⟩ := I5.loc
      have fC : H4 P2.objs.size = none := I5.free
      have U5 : Un (frs X.stack) fp H2 (upd H4 s2.heap.objs.size (.lst ys)) s2.heap s5.heap := by
        have B := I5.base
        refine ⟨fun b o e1 e2 e3 e4 => B.keep b o e1 e2 e3 e4, fun b o e1 e2 e3 e4 => B.slot b o e1 e2 e3 e4, fun b o e1 e2 e4 => ?_, fun b o e1 e4 => B.there b o e1 e4, fun b xs e1 => ?_, fun b o u e1 => ?_, fun b ps e1 => ?_⟩
        · rw [upd_ne (below b (Heap.lt_size e1)).2]
          exact B.free b o e1 e2 e4
        · have q' := B.tups b xs e1
          rw [upd_ne (ne_of_none q' hD4)]
          exact q'
        · have q' := B.frzs b o u e1
          rw [upd_ne (ne_of_none q' hD4)]
          exact q'
        · obtain ⟨more, q'⟩ := B.tbls b ps e1
          exact ⟨more, by rw [upd_ne (ne_of_none q' hD4)]; exact q'⟩
      have hzy : ys.length ≤ sizeLine := Nat.le_trans hly (Nat.le_trans hin hn)
      have HK : HOk X.prog X.w (upd H4 s2.heap.objs.size (.lst ys)) s5.heap := Zw.HOk.adopt I5.hok hD4 ⟨hzy, its, k, rv, hD5⟩
      have os5 : s5.os = s2.os := I5.os
      have IX : Inv X pins σ (upd H4 s2.heap.objs.size (.lst ys)) s5 := I2.call' (s' := s5) (ch := fp) os5 U5 HK I5.bare (fun b hb => by
        obtain ⟨g1, g2, g3, g4, g5, g6⟩ := f2 b hb
        exact ⟨g4, g2, g5, g6⟩)
      refine hend s2.heap.objs.size P2.objs.size s5 _ IX (q _ hD4) ⟨m5, hn5⟩ ?_
      have CL : s2.heap.objs.size ≤ P2.objs.size := CS
      have fp0 : FpOk X pins H2 P2.objs.size := I2.fpOk CS (fresh2 _ CS)
      exact ⟨by rw [upd_ne (Ne.symm hDC)]; exact fC, fp0.2⟩
    · obtain ⟨k, hDo⟩ := hpl
      have I4p := I4.pinned (fp := [s2.heap.objs.size]) (fun b hb => by rw [List.mem_singleton.mp hb]; exact Dok hD4) (fun b hb => by rw [List.mem_singleton.mp hb]; exact ⟨_, hDo, fun v z => (by cases z)⟩)
      refine thn (T.item (compCx2 X scope cl' N' P2.objs.size s2 H2 fp) rfl rfl rfl hc i _ s4 τ H4 _ I4p (statp fr4) st4 go) fun r s5 ⟨u, hr, h5⟩ => ?_
      subst hr
      refine thn h5 fun _ s6 ⟨x, H6, I6, r6, y6, st6, fr6⟩ => ?_
      have I6' := I6.pinned (statp fr6) (T.obj _ _ st6)
      refine thn (hg _ _ _ _ _ _ s6 τ H6 x u _ I6' r6 (step x H6 y6)) fun _ s7 ⟨τ7, H7, I7, q7⟩ => ?_
      refine thn (ht _ _ _ _ _ _ s7 τ7 H7 _ I7 q7) fun ok s7b ⟨H7b, I7b, q7b⟩ => ?_
      have fin : ∀ {H8 : Hp} {s8 : Shared} {τ8 : L2.St}, Inv (compCx2 X scope cl' N' P2.objs.size s2 H2 fp) (pins ++ pinsAt [s2.heap.objs.size] s4.heap ++ pinsAt fp s6.heap) τ8 H8 s8 → ∀ h9 : Heap, (∀ b o, b ≠ s2.heap.objs.size → s8.heap.get? b = some o → h9.get? b = some o) → tn (i + 1) h9 ∧ ∀ b ∈ fp, H8 b = none := fun {H8 s8 τ8} I8 h9 sb => by
        refine ⟨T.keep _ _ _ st6 fun b hb o e => ?_, fun b hb => ?_⟩
        · exact sb b o (below b (fpold b hb)).2 (I8.pin (b, o) (List.mem_append_right _ (List.mem_append_right _ (mem_pinsAt hb e)))).1
        · obtain ⟨o, e, d⟩ := T.obj _ _ st6 b hb
          exact (I8.pin (b, o) (List.mem_append_right _ (List.mem_append_right _ (mem_pinsAt hb e)))).2.1
      cases ok with
      | false =>
        rw [if_neg (by decide)] at q7b ⊢
        have hD8 := I7b.pin (s2.heap.objs.size, _) (List.mem_append_right _ (List.mem_append_left _ (List.mem_append_right _ (mem_pinsAt (List.mem_singleton.mpr rfl) hDo))))
        obtain ⟨t9, f9⟩ := fin I7b s7b.heap fun b o _ e => e
        exact ⟨n - (i + 1), by omega, i + 1, ys, τ7, H7b, rfl, I7b.unpinned.unpinned, t9, f9, hD8.2.1, ⟨its, rv, k, hD8.1⟩, q7b⟩
      | true =>
        rw [if_pos rfl] at q7b ⊢
        refine thn (he _ _ _ _ _ _ s7b τ7 H7b _ I7b q7b) fun uy s8 ⟨y, H8, I8, ry, w8⟩ => ?_
        have hD8 := I8.pin (s2.heap.objs.size, _) (List.mem_append_right _ (List.mem_append_left _ (List.mem_append_right _ (mem_pinsAt (List.mem_singleton.mpr rfl) hDo))))
        have P8 : s8.heap.PlainList s2.heap.objs.size its.toArray := ⟨k, hD8.1⟩
        have hlen := rv.length
        refine wpAny_list_append_plain P8 (fun h' pl' sb => ?_) (by rw [List.size_toArray, ← hlen]; omega)
        have I8u : Inv (compCx2 X scope cl' N' P2.objs.size s2 H2 fp) pins τ7 H8 s8 := I8.unpinned.unpinned
        obtain ⟨d1, d2, d3, d4, d5, d6⟩ := Dok hD8.2.1
        have I9 : Inv (compCx2 X scope cl' N' P2.objs.size s2 H2 fp) pins τ7 H8 { s8 with heap := h' } := I8u.turned (t' := s8.toks) (fun b o hb e => (sb.2 b hb).trans e) d1 d2 d4 d5 d6
        obtain ⟨t9, f9⟩ := fin I8 h' fun b o hb e => (sb.2 b hb).trans e
        exact ⟨n - (i + 1), by omega, i + 1, ys ++ [y], τ7, H8, rfl, I9, t9, f9, hD8.2.1, ⟨its ++ [uy], rv.append (.cons ry .nil), by simpa using pl'⟩, w8⟩
  refine codeAny_compStart_list (loop _ rfl) (T.self _ 0 _ _ _ (T.keep _ _ _ st2 fun b _ o e => old b o e) (loop _ rfl))
theorem lc_val (σ' : L2.St → L2.St) (hclos : closureFor scope X.env = pure cl) (hkind : scope.kind = .function) (hnames : ∀ y ∈ scope.names, y.2 = .local → scope.names.lookup y.1 = some .local)
    (hcl : ∀ y c, cl.lookup y = some c → X.env.cells.lookup y = some c) (hhas : ∀ y, (relabel scope X.env).names.lookup y = some .cell ∨ (relabel scope X.env).names.lookup y = some .free → (y, NameKind.cell) ∈ scope.names ∨ ∃ c, cl.lookup y = some c) (hcap : ∀ (σ : L2.St) (i : Nat) (y : Str) (v : V), N'[i]? = some y → (σ' σ)[i]? = some (some v) → (y, NameKind.cell) ∉ scope.names)
    (hσ : ∀ σ : L2.St, σ.length = X.N.length → (σ' σ).length = N'.length)
    (hvis : ∀ (σ : L2.St) (i : Nat) (y : Str) (v : V), N'[i]? = some y → (σ' σ)[i]? = some (some v) → ((relabel scope X.env).names.lookup y = some .cell ∨ (relabel scope X.env).names.lookup y = some .free) ∧ ∃ j : Nat, X.N[j]? = some y ∧ σ[j]? = some (some v) ∧ Vis X.env.scope y ∧ X.env.kindOf y ≠ some .local)
    (hc : X.calm = true) (hi : PI X tg iter wi) (hg : ∀ cl C s₀ H₀ ex, PG (compCx2 X scope cl N' C s₀ H₀ ex) tg g) (ht : ∀ cl C s₀ H₀ ex, PTs (compCx2 X scope cl N' C s₀ H₀ ex) ifs tt) (he : ∀ cl C s₀ H₀ ex, PE (compCx2 X scope cl N' C s₀ H₀ ex) elt te)
    (hs : ∀ x, foldedSetIterable iter X.env x = pure x) {pins : List (Addr × Obj)} {s : Shared} {σ : L2.St} {H : Hp} {Q : VK} (I : Inv X pins σ H s) (h : tLC2 σ' wi g tt te σ H Q) :
    wpAny (model X.prog X.w) X.A (eval (.ListComp elt [⟨tg, iter, ifs, 0⟩] scope pos) X.env) (EP X pins σ Q) X.xe s := by
  rw [eval_ListComp]
  refine lc_any σ' hclos hkind hnames hcl hhas hcap hσ hvis hc hi hg ht he hs I h fun D C s5 H5 I5 q5 ⟨m, hm⟩ f => ⟨m, hm, fun h' sb => ?_⟩
  exact ⟨.ref D, H5, turnedN (t' := s5.toks) (ch := [C]) I5 (fun b o hb e => (sb.2 b (fun z => hb (by simp [z]))).trans e) (fun b hb => by rw [List.mem_singleton.mp hb]; exact f), rfl, q5⟩
theorem lc_set (σ' : L2.St → L2.St) (hclos : closureFor scope X.env = pure cl) (hkind : scope.kind = .function) (hnames : ∀ y ∈ scope.names, y.2 = .local → scope.names.lookup y.1 = some .local)
    (hcl : ∀ y c, cl.lookup y = some c → X.env.cells.lookup y = some c) (hhas : ∀ y, (relabel scope X.env).names.lookup y = some .cell ∨ (relabel scope X.env).names.lookup y = some .free → (y, NameKind.cell) ∈ scope.names ∨ ∃ c, cl.lookup y = some c) (hcap : ∀ (σ : L2.St) (i : Nat) (y : Str) (v : V), N'[i]? = some y → (σ' σ)[i]? = some (some v) → (y, NameKind.cell) ∉ scope.names)
    (hσ : ∀ σ : L2.St, σ.length = X.N.length → (σ' σ).length = N'.length)
    (hvis : ∀ (σ : L2.St) (i : Nat) (y : Str) (v : V), N'[i]? = some y → (σ' σ)[i]? = some (some v) → ((relabel scope X.env).names.lookup y = some .cell ∨ (relabel scope X.env).names.lookup y = some .free) ∧ ∃ j : Nat, X.N[j]? = some y ∧ σ[j]? = some (some v) ∧ Vis X.env.scope y ∧ X.env.kindOf y ≠ some .local)
    (hc : X.calm = true) (hi : PI X tg iter wi) (hg : ∀ cl C s₀ H₀ ex, PG (compCx2 X scope cl N' C s₀ H₀ ex) tg g) (ht : ∀ cl C s₀ H₀ ex, PTs (compCx2 X scope cl N' C s₀ H₀ ex) ifs tt) (he : ∀ cl C s₀ H₀ ex, PE (compCx2 X scope cl N' C s₀ H₀ ex) elt te)
    (hs : ∀ x, foldedSetIterable iter X.env x = pure x) {pins : List (Addr × Obj)} {s : Shared} {σ : L2.St} {H : Hp} {D : Ends} {i : Nat} {x : Str} {pos' : Pos} (hN : X.N.Nodup) (hix : X.N[i]? = some x) (hx : X.env.scope.names.lookup x = some .local)
    (hsw : swapsWith (.ListComp elt [⟨tg, iter, ifs, 0⟩] scope pos) (some (.Name x pos')) pos2.line X.env = pure true)
    (I : Inv X pins σ H s) (h : tLC2 σ' wi g tt te σ H fun v H1 => D.nx (σ.set i (some v)) H1) :
    wpAny (model X.prog X.w) X.A (exec (.Assign [.Name x pos'] (.ListComp elt [⟨tg, iter, ifs, 0⟩] scope pos) pos2) X.env) (SP X pins D) X.xe s := by
  rw [exec_Assign_Name_used _ _ _ _ hsw]; refine wpAny_bind (wpAny_standAt (wpAny_bind ?_))
  show wpAny _ X.A (do let _ ← comprehension (.ListComp elt [⟨tg, iter, ifs, 0⟩] scope pos) scope X.env _ (newList []) false (eval iter X.env) (some (assign (.Name x pos') X.env))) _ _ s
  refine wpAny_bind (wpAny_mono (lc_any (QQ := fun _ s' => SP X pins D .next s') σ' hclos hkind hnames hcl hhas hcap hσ hvis hc hi hg ht he hs I h fun A C s5 H5 I5 q5 ⟨m, hm⟩ f => ?_) (fun _ s' hq => wpAny_pure (wpAny_pure hq)) fun _ _ e => e)
  show wpAny _ X.A (assign (.Name x pos') X.env (.ref A)) _ _ _
  refine wpAny_assign_Name (store_ok2 I5 hN hix (.inl hx) (v := .ref A) rfl (fun s6 I6 ⟨a, sb, ha⟩ => ?_) (.inr hx))
  have hCa : C ≠ a := by
    rcases ha with rfl | ha
    · exact f.2.1
    · exact fun z => f.2.2.2.2.1 x a ha z.symm
  refine ⟨m, hm.sameBut sb hCa, fun h' sb2 => ⟨_, H5, turnedN (t' := s6.toks) (ch := [C]) I6 (fun b o hb e => (sb2.2 b (fun z => hb (by simp [z]))).trans e) (fun b hb => by rw [List.mem_singleton.mp hb]; exact f), q5⟩⟩
end
end Pu
set_option Elab.async false
set_option linter.all false
set_option maxRecDepth 100000
namespace Pu
open PySem PySem.Spec PyProof.Rows L2 Zw Zx
structure RpO (K : PySem.W.Frag) (F H : Hp) (l : List T) (xs : List V) (R : Nat → Rg) : Prop where
  len : l.length = xs.length
  rep : ∀ (i : Nat) (t : T) (x : V), l[i]? = some t → xs[i]? = some x → Rp K F H t x (R i)
  dis : ∀ i j a, i ≠ j → R i a → ¬ R j a
  out : ∀ i a, R i a → i < l.length
section
variable {K : PySem.W.Frag} {F H F1 H1 : Hp} {l : List T} {xs : List V} {R : Nat → Rg} {B : Rg}
theorem RpO.nil : RpO K F H [] [] (fun _ => R0) := ⟨rfl, fun i t x h => by simp at h, fun _ _ _ _ z => z.elim, fun _ _ z => z.elim⟩
theorem RpO.dom (h : RpO K F H l xs R) {i : Nat} {a : Addr} (z : R i a) : F a = none ∧ ∃ u, H a = some u := by
  have hi := h.out i a z
  have hx : i < xs.length := by have := h.len; omega
  exact (h.rep i _ _ (List.getElem?_eq_getElem hi) (List.getElem?_eq_getElem hx)).dom z
theorem RpO.ext (h : RpO K F H l xs R) (e : Ext F H F1 H1 B) : RpO K F1 H1 l xs R := ⟨h.len, fun i t x h1 h2 => (h.rep i t x h1 h2).ext e, h.dis, h.out⟩
theorem RpO.apart (h : RpO K F H l xs R) (e : Ext F H F1 H1 B) {b : Addr} (hb : B b) (i : Nat) : ¬ R i b := fun z => by
  obtain ⟨f, u, q⟩ := h.dom z
  rw [e.nb b hb] at q
  cases q
theorem RpO.snoc (h : RpO K F H l xs R) {t : T} {x : V} (r : Rp K F H t x B) (d : ∀ i a, R i a → ¬ B a) : RpO K F H (l ++ [t]) (xs ++ [x]) (fun j => if j = l.length then B else R j) := by
  have hl := h.len
  refine ⟨by simp [hl], fun i t' x' h1 h2 => ?_, fun i j a hij z1 z2 => ?_, fun i a z => ?_⟩
  · by_cases hi : i = l.length
    · subst hi
      rw [if_pos rfl]
      have e1 : t = t' := by simpa using h1
      have e2 : x = x' := by rw [hl] at h2; simpa using h2
      subst e1; subst e2
      exact r
    · rw [if_neg hi]
      have hlt : i < l.length := by
        have := (List.getElem?_eq_some_iff.mp h1).1
        simp at this
        omega
      rw [List.getElem?_append_left hlt] at h1
      rw [List.getElem?_append_left (by omega)] at h2
      exact h.rep i t' x' h1 h2
  · by_cases hi : i = l.length
    · simp only [hi, if_true] at z1
      have hj : ¬ j = l.length := fun z => hij (hi.trans z.symm)
      simp only [hj, if_false] at z2
      exact d j a z2 z1
    · simp only [hi, if_false] at z1
      by_cases hj : j = l.length
      · simp only [hj, if_true] at z2
        exact d i a z1 z2
      · simp only [hj, if_false] at z2
        exact h.dis i j a hij z1 z2
  · by_cases hi : i = l.length
    · simp [hi]
    · simp only [hi, if_false] at z
      have := h.out i a z
      simp
      omega
theorem RpO.cons (h : RpO K F H l xs R) {t : T} {x : V} (r : Rp K F H t x B) (d : ∀ i a, R i a → ¬ B a) : RpO K F H (t :: l) (x :: xs) (fun j => match j with | 0 => B | j + 1 => R j) := by
  refine ⟨by simp [h.len], fun i t' x' h1 h2 => ?_, fun i j a hij z1 z2 => ?_, fun i a z => ?_⟩
  · cases i with
    | zero =>
      simp at h1 h2
      subst h1; subst h2
      exact r
    | succ i => exact h.rep i t' x' (by simpa using h1) (by simpa using h2)
  · cases i with
    | zero =>
      cases j with
      | zero => exact hij rfl
      | succ j => exact d j a z2 z1
    | succ i =>
      cases j with
      | zero => exact d i a z1 z2
      | succ j => exact h.dis i j a (fun z => hij (by rw [z])) z1 z2
  · cases i with
    | zero => simp
    | succ i => have := h.out i a z; simp; omega
theorem RpO.r0 (h : RpO K F H l xs R) (s : shL l = true) : Rps K F l xs := ⟨h.len, fun i t x h1 h2 => (h.rep i t x h1 h2).move (shL_get s h1) (.refl _)⟩
theorem RpO.list (h : RpO K F H l xs R) (s : Same F H) {p : Addr} (hp : H p = none) : Rp K F (upd H p (.lst xs)) (.own l) (.ref p) (fun a => a = p ∨ ∃ i, R i a) ∧ Ext F H F (upd H p (.lst xs)) (fun a => a = p) := by
  have e := Ext.newO (o := .lst xs) s hp
  have h' := h.ext e
  exact ⟨.own (k := .lst) trivial R (none_of_same s hp) upd_same h.len h'.rep h.dis (fun i z => h.apart e rfl i z) h.out, e⟩
end
def mIx (ma mk : PSt → Option Rs) : PSt → Option Rs := fun τ => match ma τ with
  | some (.v t b) => (match mk τ with
    | some (.v (.int i) _) => (match t with
      | .nd _ _ l => (match atI l i with
        | some c => some (.v c (b && !c.sh))
        | none => none)
      | .str z => if z.length ≤ lim then (match atI z.cps.toList i with
        | some c => some (.v (.str ⟨#[c]⟩) false)
        | none => none) else none
      | _ => none)
    | some (.v _ _) => none
    | r => r)
  | r => r
theorem atI_two {α β : Type} {l : List α} {m : List β} {i : Int} {c : α} (e : l.length = m.length) (h : atI l i = some c) : ∃ (j : Nat) (d : β), l[j]? = some c ∧ m[j]? = some d ∧ atI m i = some d := by
  unfold atI at h ⊢
  rw [← e]
  cases q : ixN l.length i with
  | none => rw [q] at h; cases h
  | some j =>
    rw [q] at h
    have h' : l[j]? = some c := h
    have hj : j < m.length := by
      have := (List.getElem?_eq_some_iff.mp h').1
      omega
    exact ⟨j, m[j], h', List.getElem?_eq_getElem hj, List.getElem?_eq_getElem hj⟩
section
variable {K : PySem.W.Frag} {F H : Hp}
theorem Rp.seq {o : Bool} {k : Kd} {l : List T} {x : V} {A : Rg} (s : Same F H) (h : Rp K F H (.nd o k l) x A) : ∃ p xs, x = .ref p ∧ (SqL K H p xs ∨ SqT K H p xs) ∧ l.length = xs.length ∧ ∀ (i : Nat) (t : T) (x : V), l[i]? = some t → xs[i]? = some x → ∃ B, (∀ a, B a → A a) ∧ Rp K F H t x B := by
  cases h with
  | @shr k p xs l h e c =>
    refine ⟨p, xs, rfl, ?_, e, fun i t x h1 h2 => ⟨R0, fun _ z => z.elim, c i t x h1 h2⟩⟩
    cases k with
    | lst => exact .inl (SqL.of (s _ _ h))
    | rl => exact .inl (s.seq h)
    | tup => exact .inr (SqT.of (s _ _ h))
    | rt => exact .inr (seqT_same s h)
    | pin q => exact .inl (SqL.of (s _ _ h))
  | @own k0 p xs l hk R f h e c d dp o => exact ⟨p, xs, rfl, .inl (SqL.of h), e, fun i t x h1 h2 => ⟨R i, fun a z => .inr ⟨i, z⟩, c i t x h1 h2⟩⟩
end
section
variable {X : Cx} {E : L2.St → XK} {ca : Str → Value} {σ : L2.St} {H : Hp} {m ma mb mc : PSt → Option Rs} {ms : PSt → Option RsL} {K : PySem.W.Frag} {a b c e : Expr} {es : List Expr} {pos : Pos}
theorem tM_ix {Q : VK} (h : tM K E ca (mIx ma mb) σ H Q) : tOp (rIx K) (tM K E ca ma) (tM K E ca mb) σ H Q := by
  obtain ⟨F, τ, R, S, q⟩ := h
  refine ⟨F, τ, R, S, ?_⟩
  unfold mIx at q
  cases hm : ma τ with
  | none => simp only [hm] at q
  | some r =>
    simp only [hm] at q
    cases r with
    | x c => exact q
    | v t bb =>
      intro F1 H1 x B e1 g1
      have S1 := S.ext e1
      refine ⟨F1, τ, R, S1, ?_⟩
      cases hk : mb τ with
      | none => simp only [hk] at q
      | some r =>
        simp only [hk] at q
        cases r with
        | x c => exact fun F' H' e => q F' H' ((e1.trans e).mono fun _ z => z.elim)
        | v tk bk =>
          cases tk with
          | int i =>
            intro F2 H2 y C e2 g2
            have hy : y = .int i := by
              cases bk with
              | true => obtain ⟨_, A, _, r⟩ := g2; exact r.int_inv
              | false => exact (show Rp K F2 H2 _ _ _ from g2).int_inv
            subst hy
            have e02 : Ext F H F2 H2 B := (e1.trans e2).mono fun _ z => .inl z
            have S2 := S1.ext e2
            cases t with
            | nd o k l =>
              simp only at q
              cases hc : atI l i with
              | none => simp only [hc] at q
              | some cc =>
                simp only [hc] at q
                have node : ∃ A0, (bb = true → ∀ a, A0 a → tot R a) ∧ (bb = false → ∀ a, A0 a → B a) ∧ Rp K F2 H2 (.nd o k l) x A0 := by
                  cases bb with
                  | true =>
                    obtain ⟨_, A, hA, r⟩ := g1
                    exact ⟨A, fun _ => hA, (fun z => by cases z), r.ext e2⟩
                  | false => exact ⟨B, (fun z => by cases z), fun _ _ z => z, (show Rp K F1 H1 _ _ _ from g1).ext e2⟩
                obtain ⟨A0, hA1, hA2, rn⟩ := node
                obtain ⟨p, xs, rfl, hq, hl, kids⟩ := Rp.seq S2.fh rn
                obtain ⟨j, d, h1, h2, h3⟩ := atI_two hl hc
                obtain ⟨A1, hA, rk⟩ := kids j cc d h1 h2
                have qq : Q d H2 := by
                  cases bb with
                  | false => exact q F2 H2 d A1 (e02.mono fun a z => hA2 rfl a (hA a z)) rk
                  | true =>
                    cases hs : cc.sh with
                    | true =>
                      rw [hs] at q
                      exact q F2 H2 d R0 (e02.mono fun _ z => z.elim) (rk.move hs (.refl _))
                    | false =>
                      rw [hs] at q
                      exact q F2 H2 d R0 (e02.mono fun _ z => z.elim) ⟨rfl, A1, fun a z => hA1 rfl a (hA a z), rk⟩
                rcases hq with hq | hq
                · exact .inl ⟨p, xs, i, d, rfl, rfl, hq, h3, qq⟩
                · exact .inr (.inl ⟨p, xs, i, d, rfl, rfl, hq, h3, qq⟩)
            | str z =>
              by_cases hz : z.length ≤ lim
              · simp only [hz, if_true] at q
                cases hc : atI z.cps.toList i with
                | none => simp only [hc] at q
                | some cc =>
                  simp only [hc] at q
                  have hx : x = .str z := by
                    cases bb with
                    | true => obtain ⟨_, A, _, r⟩ := g1; exact r.str_inv
                    | false => exact (show Rp K F1 H1 _ _ _ from g1).str_inv
                  subst hx
                  exact .inr (.inr ⟨z, i, cc, rfl, rfl, by rw [← lim_eq]; exact hz, hc, q F2 H2 _ R0 (e02.mono fun _ z => z.elim) (.str _)⟩)
              · simp only [hz, if_false] at q
            | _ => exact q.elim
          | _ => exact q.elim
theorem r_ix (ha : PE X a (tM X.K E ca ma)) (hb : PE X b (tM X.K E ca mb)) (hs : PlainIx b) : PE X (.Subscript a b pos) (tM X.K E ca (mIx ma mb)) := PE.weak (pe_ix ix_seq ha hb hs) fun σ H Q h => tM_ix h
def cutL {α : Type} (l : List α) (lo hi : Option Int) : List α := (l.drop (HT.sIx l.length 0 lo)).take (HT.sIx l.length l.length hi - HT.sIx l.length 0 lo)
def mPart (m : Option (PSt → Option Rs)) : PSt → Option (Option Int) := fun τ => match m with
  | none => some none
  | some m => match m τ with
    | some (.v (.int i) _) => some (some i)
    | _ => none
def mSl (ma : PSt → Option Rs) (ml mh : Option (PSt → Option Rs)) : PSt → Option Rs := fun τ => match ma τ with
  | some (.v t false) => (match mPart ml τ with
    | some lo => (match mPart mh τ with
      | some hi => (match t with
        | .nd _ .lst l => some (.v (.own (cutL (shareL l) lo hi)) false)
        | .nd _ .rl l => some (.v (.own (cutL (shareL l) lo hi)) false)
        | _ => none)
      | none => none)
    | none => none)
  | some (.v _ true) => none
  | r => r
def tPo (K : PySem.W.Frag) (m : Option (PSt → Option Rs)) : TO := fun σ H Q => ∃ F τ R o, StR K F H σ τ R ∧ mPart m τ = some o ∧ ∀ F' H', Ext F H F' H' R0 → Q o H'
theorem r_po0 : PO X none (tPo X.K none) := fun pins s σ H Q I h => by
  obtain ⟨F, τ, R, o, S, e, q⟩ := h
  cases e
  exact po_none pins s σ H Q I (q F H (Ext.refl S.fh))
theorem r_po1 (ha : PE X e (tM X.K E ca m)) : PO X (some e) (tPo X.K (some m)) := fun pins s σ H Q I h => by
  obtain ⟨F, τ, R, o, S, e', q⟩ := h
  refine po_some ha pins s σ H Q I ⟨F, τ, R, S, ?_⟩
  unfold mPart at e'
  simp only at e'
  cases hm : m τ with
  | none => rw [hm] at e'; cases e'
  | some r =>
    rw [hm] at e'
    cases r with
    | x c => cases e'
    | v v b =>
      cases v with
      | int i =>
        cases e'
        intro F' H' x B e g
        have hx : x = .int i := by
          cases b with
          | true => obtain ⟨_, A, _, r⟩ := g; exact r.int_inv
          | false => exact (show Rp X.K F' H' _ _ _ from g).int_inv
        exact ⟨i, hx, q F' H' (e.mono fun _ z => z.elim)⟩
      | _ => cases e'
theorem cutL_rps {F : Hp} {l : List T} {xs : List V} (r : Rps K F l xs) (lo hi : Option Int) : Rps K F (cutL l lo hi) (cutV xs lo hi) := by
  have hl := r.1
  unfold cutL cutV
  rw [hl]
  refine ⟨by simp [hl], fun i t x h1 h2 => ?_⟩
  rw [List.getElem?_take] at h1 h2
  split at h1
  · rename_i hi'
    rw [if_pos hi', List.getElem?_drop] at h2
    rw [List.getElem?_drop] at h1
    exact r.2 _ t x h1 h2
  · cases h1
theorem r_slice {lo hi : Option Expr} {ml mh : Option (PSt → Option Rs)} {p2 : Pos} (ha : PE X a (tM X.K E ca ma)) (hl : PO X lo (tPo X.K ml)) (hh : PO X hi (tPo X.K mh)) : PE X (.Subscript a (.Slice lo hi none p2) pos) (tM X.K E ca (mSl ma ml mh)) := by
  refine PE.weak (pe_slice sl_list ha hl hh) fun σ H Q h => ?_
  obtain ⟨F, τ, R, S, q⟩ := h
  refine ⟨F, τ, R, S, ?_⟩
  unfold mSl at q
  cases hm : ma τ with
  | none => simp only [hm] at q
  | some r =>
    simp only [hm] at q
    cases r with
    | x c => exact q
    | v t bb =>
      cases bb with
      | true => exact q.elim
      | false =>
        intro F1 H1 x B e1 g1
        obtain ⟨F1', e1', _, r1⟩ := Got.frz (b := false) S e1 g1
        have S1 := S.ext e1'
        simp only at q
        cases h1 : mPart ml τ with
        | none => simp only [h1] at q
        | some lo' =>
          simp only [h1] at q
          refine ⟨F1', τ, R, lo', S1, h1, fun F2 H2 e2 => ?_⟩
          have S2 := S1.ext e2
          cases h2 : mPart mh τ with
          | none => simp only [h2] at q
          | some hi' =>
            simp only [h2] at q
            refine ⟨F2, τ, R, hi', S2, h2, fun F3 H3 e3 => ?_⟩
            have S3 := S2.ext e3
            have e03 := e1'.trans0 (e2.trans0 e3)
            have r3 : Rp X.K F3 F3 t.share x R0 := (show Rp X.K F1' F1' t.share x R0 from r1).frame (e2.ff.trans e3.ff) fun _ z => z.elim
            have key : ∀ {o : Bool} {k : Kd} {l : List T}, t = .nd o k l → (k = .lst ∨ k = .rl) → (∀ F' H' x B, Ext F H F' H' B → Rp X.K F' H' (.own (cutL (shareL l) lo' hi')) x B → Q x H') → rSlL X.K x lo' hi' H3 Q := by
              intro o k l et hk qq
              subst et
              rw [T.share] at r3
              obtain ⟨p, xs, rfl, _, n3, k3⟩ := node_of r3
              have sq : SqL X.K H3 p xs := by
                rcases hk with rfl | rfl
                · exact SqL.of (S3.fh _ _ n3)
                · exact S3.fh.seq n3
              refine ⟨p, xs, rfl, sq, fun p' hp' => ?_⟩
              have gg : Gets X.K F3 H3 (.own (cutL (shareL l) lo' hi')) Q := fun F' H' z C e g => qq F' H' z C (e03.trans0 e) g
              exact gg.list S3.fh (cutL_rps k3 lo' hi') hp'
            cases t with
            | nd o k l =>
              cases k with
              | lst => exact key rfl (.inl rfl) q
              | rl => exact key rfl (.inr rfl) q
              | tup => exact q.elim
              | rt => exact q.elim
              | pin _ => exact q.elim
            | _ => exact q.elim
def tMo (K : PySem.W.Frag) (E : L2.St → XK) (ca : Str → Value) (m : PSt → Option RsL) : TA := fun σ H Q => ∃ F τ R, StR K F H σ τ R ∧ match m τ with
  | some (.v ts _) => ∀ F' H' xs (Rr : Nat → Rg), Ext F H F' H' (tot Rr) → RpO K F' H' ts xs Rr → Q xs H'
  | some (.x c) => ∀ F' H', Ext F H F' H' R0 → E σ (ca c) none H'
  | none => False
def mConsO (m : PSt → Option Rs) (ms : PSt → Option RsL) : PSt → Option RsL := fun τ => match m τ with
  | some (.v t false) => (match ms τ with
    | some (.v ts _) => some (.v (t :: ts) false)
    | r => r)
  | some (.v _ true) => none
  | some (.x c) => some (.x c)
  | none => none
theorem r_nilO : PA X [] (tMo X.K E ca mNil) := PA.weak pa_nil fun σ H Q h => by
  obtain ⟨F, τ, R, S, q⟩ := h
  exact q F H [] (fun _ => R0) ((Ext.refl S.fh).mono fun a ⟨i, z⟩ => z.elim) .nil
theorem r_consO (ha : PE X e (tM X.K E ca m)) (hr : PA X es (tMo X.K E ca ms)) (hs : starEach (e :: es) X.env = (false, eval e X.env) :: starEach es X.env) : PA X (e :: es) (tMo X.K E ca (mConsO m ms)) := by
  refine PA.weak (pa_cons ha hr hs) fun σ H Q h => ?_
  obtain ⟨F, τ, R, S, q⟩ := h
  refine ⟨F, τ, R, S, ?_⟩
  unfold mConsO at q
  cases hm : m τ with
  | none => simp only [hm] at q
  | some r =>
    simp only [hm] at q
    cases r with
    | x c => exact q
    | v t bb =>
      cases bb with
      | true => exact q.elim
      | false =>
        intro F1 H1 x B e1 g1
        have S1 := S.ext e1
        refine ⟨F1, τ, R, S1, ?_⟩
        simp only at q
        cases hs : ms τ with
        | none => simp only [hs] at q
        | some r =>
          simp only [hs] at q
          cases r with
          | x c => exact fun F' H' e => q F' H' ((e1.trans e).mono fun _ z => z.elim)
          | v ts b' =>
            intro F2 H2 xs Rr e2 ro
            have g1' : Rp X.K F1 H1 t x B := g1
            refine q F2 H2 (x :: xs) _ ((e1.trans e2).mono ?_) (ro.cons (g1'.ext e2) fun i a z => ?_)
            · rintro a ⟨j, z⟩
              cases j with
              | zero => exact .inl z
              | succ j => exact .inr ⟨j, z⟩
            · exact g1'.apart e2 ⟨i, z⟩
def mLst (ms : PSt → Option RsL) : PSt → Option Rs := fun τ => match ms τ with
  | some (.v ts _) => if ts.length ≤ lim then some (.v (.own ts) false) else none
  | some (.x c) => some (.x c)
  | none => none
theorem r_lst (h : PA X es (tMo X.K E ca ms)) : PE X (.List es pos) (tM X.K E ca (mLst ms)) := by
  refine PE.weak (pe_lst h) fun σ H Q h => ?_
  obtain ⟨F, τ, R, S, q⟩ := h
  refine ⟨F, τ, R, S, ?_⟩
  unfold mLst at q
  cases hm : ms τ with
  | none => simp only [hm] at q
  | some r =>
    simp only [hm] at q
    cases r with
    | x c => exact q
    | v ts b =>
      intro F1 H1 xs Rr e1 ro
      by_cases hz : ts.length ≤ lim
      · simp only [hz, if_true] at q
        refine ⟨by rw [← ro.len, ← lim_eq]; exact hz, fun p hp => ?_⟩
        obtain ⟨r, e2⟩ := ro.list e1.fh hp
        refine q F1 _ _ _ ((e1.trans e2).mono ?_) r
        rintro a (z | ⟨i, z⟩)
        · exact .inr z
        · exact .inl ⟨i, z⟩
      · simp only [hz, if_false] at q
def mTup (ms : PSt → Option RsL) : PSt → Option Rs := fun τ => match ms τ with
  | some (.v ts false) => if ts.length ≤ lim then some (.v (.tup ts) false) else none
  | some (.v _ true) => none
  | some (.x c) => some (.x c)
  | none => none
theorem r_tup {k : Nat} (h : PA X es (tMs X.K E ca ms)) : PE X (.Tuple es k pos) (tM X.K E ca (mTup ms)) := by
  refine PE.weak (pe_tup h) fun σ H Q h => ?_
  obtain ⟨F, τ, R, S, q⟩ := h
  refine ⟨F, τ, R, S, ?_⟩
  unfold mTup at q
  cases hm : ms τ with
  | none => simp only [hm] at q
  | some r =>
    simp only [hm] at q
    cases r with
    | x c => exact q
    | v ts b =>
      cases b with
      | true => exact q.elim
      | false =>
        intro F1 H1 xs e1 rs
        by_cases hz : ts.length ≤ lim
        · simp only [hz, if_true] at q
          refine ⟨by rw [← rs.1, ← lim_eq]; exact hz, fun p hp => ?_⟩
          have gg : Gets X.K F1 H1 (.tup ts) Q := fun F' H' z C e g => q F' H' z C (e1.trans0 e) g
          exact gg.tuple e1.fh rs hp
        · simp only [hz, if_false] at q
theorem r_bltF {id : String} {x : Str} {p : Pos} {g : List T → Option T} (hc : CallR X (.builtin id) (rTn X.K g)) (hg : Gl X x) (hm : X.mg x = none) (hv : bootBuiltins x = some (.builtin id)) (ha : PA X (e :: es) (tMs X.K E ca ms)) (hn : x ≠ "__name__") (hdb : (x == ("__debug__" : Str)) = false)
    (he : starEach (e :: es) X.env = (false, eval e X.env) :: starEach es X.env) (hpl : (backTo pos (starEach es X.env)).any (·.1) = false) : PE X (.Call (.Name x p) (e :: es) [] pos) (tM X.K E ca (mAp g ms)) :=
  PE.weak (pe_callB hc hg hm hv ha hn hdb he hpl) fun σ H Q h => tM_ap h
theorem r_bltT {T' : String} {x : Str} {p : Pos} {g : List T → Option T} (hc : CallR X (.type T') (rTn X.K g)) (hg : Gl X x) (hm : X.mg x = none) (hv : bootBuiltins x = some (.type T')) (ha : PA X (e :: es) (tMs X.K E ca ms)) (hn : x ≠ "__name__") (hdb : (x == ("__debug__" : Str)) = false)
    (he : starEach (e :: es) X.env = (false, eval e X.env) :: starEach es X.env) (hpl : (backTo pos (starEach es X.env)).any (·.1) = false) : PE X (.Call (.Name x p) (e :: es) [] pos) (tM X.K E ca (mAp g ms)) :=
  PE.weak (pe_callTy hc hg hm hv ha hn hdb he hpl) fun σ H Q h => tM_ap h
end
end Pu
set_option Elab.async false
set_option linter.all false
set_option maxRecDepth 100000
namespace Pu
open PySem PySem.Spec PyProof.Rows L2 Zw Zx
def lenT : T → Option T
  | .nd _ _ l => some (.int l.length)
  | .str z => if z.length ≤ lim then some (.int z.length) else none
  | _ => none
def listT : T → Option T
  | .nd _ _ l => some (.own l)
  | _ => none
def absT : T → Option T
  | .int i => some (.int (if i < 0 then -i else i))
  | _ => none
def minT : T → T → Option T
  | .int i, .int j => some (.int (if j < i then j else i))
  | _, _ => none
def bools : List T → Option (List Bool)
  | [] => some []
  | .bl b :: r => (match bools r with
    | some l => some (b :: l)
    | none => none)
  | _ :: _ => none
def anyT : T → Option T
  | .nd _ .lst l => (match bools l with
    | some bs => some (.bl (bs.any id))
    | none => none)
  | _ => none
def tyN : T → Option String
  | .non => some "NoneType"
  | .bl _ => some "bool"
  | .int _ => some "int"
  | .str _ => some "str"
  | .nd _ .lst _ => some "list"
  | .nd _ .tup _ => some "tuple"
  | _ => none
def tyCs : List String := ["int", "bool", "str", "list", "tuple"]
def subTy (a c : String) : Bool := a == c || (a == "bool" && c == "int")
def isTyT (c : String) (t : T) : Option T := match tyN t with
  | some a => if c ∈ tyCs then some (.bl (subTy a c)) else none
  | none => none
theorem kitMeta_str : PySem.W.kitMeta "str" = true := by decide +kernel
theorem kitMeta_list : PySem.W.kitMeta "list" = true := by decide +kernel
theorem kit_ok (K : PySem.W.Frag) {a c : String} (ha : a ∈ ["NoneType", "bool", "int", "str", "list", "tuple"]) (hc : c ∈ tyCs) : PySem.W.kitOne K (.type a) (.type c) = some (subTy a c) := by
  have km : PySem.W.kitMeta c = true := by
    simp only [tyCs, List.mem_cons, List.not_mem_nil, or_false] at hc
    rcases hc with rfl | rfl | rfl | rfl | rfl
    · exact kitMeta_int
    · exact kitMeta_bool
    · exact kitMeta_str
    · exact kitMeta_list
    · exact kitMeta_tuple
  by_cases h : a = c
  · subst h
    rw [kit_same]
    simp [subTy]
  · refine kit_ne K (l := []) h km ?_
    simp only [tyCs, List.mem_cons, List.not_mem_nil, or_false] at hc ha
    rcases ha with rfl | rfl | rfl | rfl | rfl | rfl <;> rcases hc with rfl | rfl | rfl | rfl | rfl <;> first | exact absurd rfl h | decide +kernel
section
variable {X : Cx}
theorem callT_len : CallR X (.builtin "len") (rTn X.K (g1 lenT)) := by
  intro pins s σ H xs us Q I r h
  obtain ⟨F, ts, v, fh, rs, e, q⟩ := h
  unfold g1 at e
  split at e
  · obtain ⟨x1, xs1, rfl, r1, rs1⟩ := rs.inv
    cases rs1.inv0
    unfold lenT at e
    split at e
    · cases e
      obtain ⟨p, ys, rfl, hq, hl, _⟩ := Rp.seq (H := H) fh (r1.any)
      refine call_len pins s σ H _ us Q I r ⟨_, ys.length, rfl, ?_, by rw [← hl]; exact q.int fh⟩
      rcases hq with hq | hq
      · exact .inl ⟨ys, hq, rfl⟩
      · exact .inr ⟨ys, hq, rfl⟩
    · split at e
      · cases e
        rename_i hz
        rw [r1.str_inv] at r
        exact call_len pins s σ H _ us Q I r ⟨_, _, rfl, ⟨by rw [← lim_eq]; exact hz, rfl⟩, q.int fh⟩
      · cases e
    · cases e
  · cases e
theorem nodeS_seq {K : PySem.W.Frag} {F H : Hp} {k : Kd} {p : Addr} {xs : List V} (s : Same F H) (h : NodeS K F k p xs) : SqL K H p xs ∨ SqT K H p xs := by
  cases k with
  | lst => exact .inl (SqL.of (s _ _ h))
  | rl => exact .inl (s.seq h)
  | tup => exact .inr (SqT.of (s _ _ h))
  | rt => exact .inr (seqT_same s h)
  | pin q => exact .inl (SqL.of (s _ _ h))
theorem callT_list : CallR X (.type "list") (rTn X.K (g1 listT)) := by
  intro pins s σ H xs us Q I r h
  obtain ⟨F, ts, v, fh, rs, e, q⟩ := h
  unfold g1 at e
  split at e
  · obtain ⟨x1, xs1, rfl, r1, rs1⟩ := rs.inv
    cases rs1.inv0
    unfold listT at e
    split at e
    · cases e
      obtain ⟨p, ys, rfl, rfl, n1, k1⟩ := node_of r1
      have hq : SqL X.K H p ys ∨ SqT X.K H p ys := nodeS_seq fh n1
      exact call_list_of pins s σ H _ us Q I r ⟨p, ys, rfl, hq, fun l hl => q.list fh k1 hl⟩
    · cases e
  · cases e
theorem callT_abs : CallR X (.builtin "abs") (rTn X.K (g1 absT)) := by
  intro pins s σ H xs us Q I r h
  obtain ⟨F, ts, v, fh, rs, e, q⟩ := h
  unfold g1 at e
  split at e
  · obtain ⟨x1, xs1, rfl, r1, rs1⟩ := rs.inv
    cases rs1.inv0
    unfold absT at e
    split at e
    · cases e
      rw [r1.int_inv] at r
      exact call_abs pins s σ H _ us Q I r ⟨_, rfl, q.int fh⟩
    · cases e
  · cases e
theorem callT_two {f : String} {g : T → T → Option T} {gi : Int → Int → Int} (hc : CallR X (.builtin f) (fun xs H Q => ∃ i j, xs = [.int i, .int j] ∧ Q (.int (gi i j)) H)) (hg : ∀ t u v, g t u = some v → ∃ i j, t = .int i ∧ u = .int j ∧ v = .int (gi i j)) : CallR X (.builtin f) (rTn X.K (g2 g)) := by
  intro pins s σ H xs us Q I r h
  obtain ⟨F, ts, v, fh, rs, e, q⟩ := h
  unfold g2 at e
  split at e
  · obtain ⟨x1, xs1, rfl, r1, rs1⟩ := rs.inv
    obtain ⟨x2, xs2, rfl, r2, rs2⟩ := rs1.inv
    cases rs2.inv0
    obtain ⟨i, j, rfl, rfl, rfl⟩ := hg _ _ _ e
    rw [r1.int_inv, r2.int_inv] at r
    exact hc pins s σ H _ us Q I r ⟨_, _, rfl, q.int fh⟩
  · cases e
theorem callT_min (hc : X.calm = true) : CallR X (.builtin "min") (rTn X.K (g2 minT)) := callT_two (call_min2 hc) fun t u v h => by
  unfold minT at h
  split at h
  · cases h; exact ⟨_, _, rfl, rfl, rfl⟩
  · cases h
theorem bools_get : ∀ {l : List T} {bs : List Bool}, bools l = some bs → l.length = bs.length ∧ ∀ (i : Nat) (t : T), l[i]? = some t → ∃ b, bs[i]? = some b ∧ t = .bl b
  | [], bs, h => by cases h; exact ⟨rfl, fun i t e => by simp at e⟩
  | t :: r, bs, h => by
    unfold bools at h
    cases t with
    | bl b =>
      simp only at h
      cases hr : bools r with
      | none => simp only [hr] at h; cases h
      | some l =>
        simp only [hr] at h
        cases h
        obtain ⟨h1, h2⟩ := bools_get hr
        refine ⟨by simp [h1], fun i t e => ?_⟩
        cases i with
        | zero => simp at e; exact ⟨b, rfl, e.symm⟩
        | succ i => exact h2 i t (by simpa using e)
    | _ => cases h
theorem range_all {bs : List Bool} {tr : Nat → Bool} (h : ∀ (i : Nat) (b : Bool), bs[i]? = some b → tr i = b) : (List.range bs.length).all tr = bs.all id ∧ (List.range bs.length).any tr = bs.any id := by
  have e : (List.range bs.length).map tr = bs := by
    apply List.ext_getElem?
    intro i
    rw [List.getElem?_map]
    by_cases hi : i < bs.length
    · rw [List.getElem?_range hi, List.getElem?_eq_getElem hi]
      simp only [Option.map_some]
      rw [h i _ (List.getElem?_eq_getElem hi)]
    · rw [List.getElem?_eq_none (by simp; omega), List.getElem?_eq_none (by omega)]
      rfl
  constructor
  · have : (List.range bs.length).all tr = ((List.range bs.length).map tr).all id := by rw [List.all_map]; rfl
    rw [this, e]
  · have : (List.range bs.length).any tr = ((List.range bs.length).map tr).any id := by rw [List.any_map]; rfl
    rw [this, e]
theorem walkB (hc : X.calm = true) {pins : List (Addr × Obj)} {s : Shared} {σ : L2.St} {H : Hp} {F : Hp} {l : List T} {bs : List Bool} {p : Addr} {E' : Value → Shared → Prop} {P : Value → Shared → Prop} {o : Bool} (I : Inv X pins σ H s) (fh : Same F H) (r1 : Rp X.K F F (.nd o .lst l) (.ref p) R0) (hb : bools l = some bs)
    (hP : ∀ (I0 : Addr) (wr fp : List Addr) (St : Nat → Heap → Prop) (PP : Nat → Value → Prop) (tr : Nat → Bool) (s2 : Shared), Walks X.prog X.w X.A.in1 I0 fp wr bs.length PP St → St 0 s2.heap → TruthOf X.prog X.w X.A.in1 PP tr → (∀ (i : Nat) (b : Bool), bs[i]? = some b → tr i = b) →
      (∀ h' tk, (∀ b o, b ∉ wr → s2.heap.get? b = some o → h'.get? b = some o) → Inv X pins σ H { s2 with heap := h', toks := tk }) → P (.ref I0) s2) : wpAny (model X.prog X.w) X.A.in1 (pyIter (.ref p)) P E' s := by
  obtain ⟨p', ys, e', rfl, n1, k1⟩ := node_of r1
  cases e'
  obtain ⟨hlen, hget⟩ := bools_get hb
  obtain ⟨its, rv, pl, hz⟩ := I.list (SqL.of (fh _ _ n1) : SqL X.K H p ys)
  have hl := rv.length
  have hne : p ≠ s.heap.objs.size := Nat.ne_of_lt (by
    obtain ⟨o, n, e, _⟩ := pl
    exact Heap.lt_size e)
  have hh : X.A.in1.handled = none := I.ok.hd hc
  have val : ∀ (i : Nat) (v : Value), its[i]? = some v → ∃ b, bs[i]? = some b ∧ v = .bool b := fun i v hv => by
    have hi : i < ys.length := by
      have := (List.getElem?_eq_some_iff.mp hv).1
      omega
    have hi2 : i < l.length := by rw [k1.1]; exact hi
    obtain ⟨b, h1, h2⟩ := hget i _ (List.getElem?_eq_getElem hi2)
    have rr := k1.2 i _ _ (List.getElem?_eq_getElem hi2) (List.getElem?_eq_getElem hi)
    rw [h2] at rr
    obtain ⟨u, e1, ru⟩ := rv.get (List.getElem?_eq_getElem hi)
    rw [hv] at e1
    cases e1
    rw [rr.bl_inv] at ru
    exact ⟨b, h1, ru⟩
  have hbl : its.toArray.size = bs.length := by rw [List.size_toArray, ← hl, ← k1.1, hlen]
  refine wpAny_pyIter_list pl.isList ?_
  have W := Walks.list (prog := X.prog) (w := X.w) hh s.heap.objs.size p hne its.toArray
  rw [hbl] at W
  refine hP s.heap.objs.size _ _ _ _ (fun i => bs.getD i false) _ W ⟨⟨_, Heap.get?_push_size _ rfl, rfl, rfl⟩, ?_⟩ ?_ ?_ ?_
  · obtain ⟨o, ho, hr⟩ := pl.isList
    exact ⟨o, Heap.get?_push_of_some _ ho, hr⟩
  · intro i v s' Q' E'' hv hq'
    obtain ⟨b, h1, h2⟩ := val i v (by simpa using hv)
    subst h2
    refine wpAny_truthy_bool ?_
    have e : bs.getD i false = b := by rw [List.getD_eq_getElem?_getD, h1]; rfl
    rw [← e]
    exact hq'
  · intro i b hb'
    show bs.getD i false = b
    rw [List.getD_eq_getElem?_getD, hb']
    rfl
  · intro h' tk k
    exact I.kept fun b o e => k b o (fun z => by
      rw [List.mem_singleton] at z
      exact absurd (Heap.lt_size e) (by rw [z]; exact Nat.lt_irrefl _)) (Heap.get?_push_of_some _ e)
theorem callT_any (hc : X.calm = true) : CallR X (.builtin "any") (rTn X.K (g1 anyT)) := by
  intro pins s σ H xs us Q I r h
  obtain ⟨F, ts, v, fh, rs, e, q⟩ := h
  unfold g1 at e
  split at e
  · obtain ⟨x1, xs1, rfl, r1, rs1⟩ := rs.inv
    cases rs1.inv0
    unfold anyT at e
    split at e
    · split at e
      · cases e
        rename_i bs hbs
        obtain ⟨p, rfl⟩ := r1.ref_inv
        obtain ⟨u, rfl, ru⟩ := vals1 r
        cases ru
        refine call_any_walk (walkB hc I fh r1 hbs fun I0 wr fp St PP tr s2 W st0 tro htr fin => ⟨I0, fp, wr, bs.length, PP, St, tr, rfl, W, st0, tro, fun h' tk k => ?_⟩)
        rw [(range_all htr).2]
        exact ⟨.bl _, H, fin h' tk k, rfl, q.bl fh⟩
      · cases e
    · cases e
  · cases e
theorem tyOf_T {F H : Hp} {t : T} {x : V} {a : String} (fh : Same F H) (r : Rp X.K F F t x R0) (h : tyN t = some a) : TyOf X.K H x (.type a) ∧ a ∈ ["NoneType", "bool", "int", "str", "list", "tuple"] := by
  cases t with
  | non => cases h; rw [r.non_inv]; exact ⟨.non, by simp⟩
  | bl b => cases h; rw [r.bl_inv]; exact ⟨.bl b, by simp⟩
  | int i => cases h; rw [r.int_inv]; exact ⟨.int i, by simp⟩
  | str y => cases h; rw [r.str_inv]; exact ⟨.str y, by simp⟩
  | nd o k l =>
    obtain ⟨p, xs, rfl, _, n, _⟩ := node_of r
    cases k with
    | lst => cases h; exact ⟨.lst (fh _ _ n), by simp⟩
    | tup => cases h; exact ⟨.tup (fh _ _ n), by simp⟩
    | rl => cases h
    | rt => cases h
    | pin _ => cases h
  | dic ks l => cases h
  | pdc ks l => cases h
  | odc ks l => cases h
theorem callT_isT {c : String} : CallR X (.builtin "isinstance") (fun xs H Q => ∃ x, xs = [x, .ty c] ∧ rTn X.K (g1 (isTyT c)) [x] H Q) := by
  intro pins s σ H xs us Q I r h
  obtain ⟨x, rfl, F, ts, v, fh, rs, e, q⟩ := h
  unfold g1 at e
  split at e
  · obtain ⟨x1, xs1, e1, r1, rs1⟩ := rs.inv
    cases e1
    unfold isTyT at e
    split at e
    · rename_i a ha
      split at e
      · cases e
        rename_i hc
        obtain ⟨ty, hm⟩ := tyOf_T fh r1 ha
        exact call_isT pins s σ H _ us Q I r ⟨x, _, _, rfl, ty, kit_ok X.K hm hc, q.bl fh⟩
      · cases e
    · cases e
  · cases e
def T.isN : T → Bool
  | .non => true
  | _ => false
def T.isB (b : Bool) : T → Bool
  | .bl c => c == b
  | _ => false
def isT2 (neg : Bool) (t u : T) : Option T := match u with
  | .non => some (.bl (neg ^^ t.isN))
  | .bl b => some (.bl (neg ^^ t.isB b))
  | _ => none
theorem dec_non {K : PySem.W.Frag} {F H : Hp} {t : T} {x : V} {A : Rg} (r : Rp K F H t x A) : decide (x = V.non) = t.isN := by
  cases r <;> simp [T.isN]
theorem dec_b {K : PySem.W.Frag} {F H : Hp} {t : T} {x : V} {A : Rg} {b : Bool} (r : Rp K F H t x A) : decide (x = V.bl b) = t.isB b := by
  cases r <;> simp [T.isB]
  rename_i c
  cases c <;> cases b <;> rfl
theorem opT_is : OpR X (compareOp .Is) (rT2 X.K (isT2 false)) := by
  intro pins s σ H x y v u Q I rx ry h
  obtain ⟨F, t1, t2, r, fh, r1, r2, e, q⟩ := h
  unfold isT2 at e
  split at e
  · cases e
    rw [r2.non_inv] at ry
    refine op_isN pins s σ H _ _ v u Q I rx ry ⟨rfl, ?_⟩
    rw [dec_non r1]
    have := q.bl fh
    rw [Bool.false_xor] at this
    exact this
  · cases e
    rw [r2.bl_inv] at ry
    refine op_isB pins s σ H _ _ v u Q I rx ry ⟨_, rfl, ?_⟩
    rw [dec_b r1]
    have := q.bl fh
    rw [Bool.false_xor] at this
    exact this
  · cases e
theorem opT_isNot : OpR X (compareOp .IsNot) (rT2 X.K (isT2 true)) := by
  intro pins s σ H x y v u Q I rx ry h
  obtain ⟨F, t1, t2, r, fh, r1, r2, e, q⟩ := h
  unfold isT2 at e
  split at e
  · cases e
    rw [r2.non_inv] at ry
    refine op_notN pins s σ H _ _ v u Q I rx ry ⟨rfl, ?_⟩
    rw [dec_non r1]
    have := q.bl fh
    rw [Bool.true_xor] at this
    exact this
  · cases e
    rw [r2.bl_inv] at ry
    refine op_notB pins s σ H _ _ v u Q I rx ry ⟨_, rfl, ?_⟩
    rw [dec_b r1]
    have := q.bl fh
    rw [Bool.true_xor] at this
    exact this
  · cases e
end
section
variable {X : Cx} {E : L2.St → XK} {ca : Str → Value} {σ : L2.St} {H : Hp} {m ma mb mc : PSt → Option Rs} {ms : PSt → Option RsL} {K : PySem.W.Frag} {a b c e : Expr} {es : List Expr} {pos p p2 : Pos}
theorem r_isT {c : String} {cn : Str} (hv : bootBuiltins cn = some (.type c)) (hg : Gl X "isinstance") (hm : X.mg "isinstance" = none) (hgc : Gl X cn) (hmc : X.mg cn = none) (hn : cn ≠ "__name__") (hd : (cn == ("__debug__" : Str)) = false) (ha : PE X e (tM X.K E ca m)) (he : starEach [e, .Name cn p2] X.env = (false, eval e X.env) :: starEach [.Name cn p2] X.env) :
    PE X (.Call (.Name "isinstance" p) [e, .Name cn p2] [] pos) (tM X.K E ca (mAp (g1 (isTyT c)) (mCons m mNil))) := by
  refine PE.weak (pe_callB (callT_isT (c := c)) hg hm PyProof.Rows.boot_isinstance (pa_cons ha (pa_cons (pe_bltn (v := .ty c) hgc hmc hv rfl hn hd) pa_nil) he) (by decide) (by decide) he rfl) fun σ H Q h => ?_
  exact (tMs_cons (tM_ap h)).mono fun x H1 h1 => ⟨x, rfl, tMs_nil h1⟩
inductive Ru where
  | ok (t : T) | exc (c : Str)
def spP (K : PySem.W.Frag) (ca : Str → Value) (g : List T → Option Ru) : Sp := fun vs H Q E => ∃ F ts, Same F H ∧ Rps K F ts vs ∧ match g ts with
  | some (.ok v) => Gets K F H v Q
  | some (.exc c) => ∀ F' H', Ext F H F' H' R0 → E (ca c) none H'
  | none => False
def mCall (g : List T → Option Ru) (ms : PSt → Option RsL) : PSt → Option Rs := fun τ => match ms τ with
  | some (.v ts b) => (match g ts with
    | some (.ok v) => fin b v
    | some (.exc c) => some (.x c)
    | none => none)
  | some (.x c) => some (.x c)
  | none => none
theorem r_call {k j : Nat} {x : Str} {ps : List Str} {g : List T → Option Ru} (D : DefX X.prog X.w X.K X.mg X.base k x ps (spP X.K ca g)) (hr : Room j X.A) (hx : PassS X E) (ha : PA X (e :: es) (tMs X.K E ca ms)) (hk : k ≤ j) (hg : Gl X x) (hdb : (x == ("__debug__" : Str)) = false)
    (he : starEach (e :: es) X.env = (false, eval e X.env) :: starEach es X.env) (hpl : (backTo pos (starEach es X.env)).any (·.1) = false) : PE X (.Call (.Name x p) (e :: es) [] pos) (tM X.K E ca (mCall g ms)) := by
  refine PE.weak (px D hr hx ha hk hg hdb he hpl) fun σ H Q h => ?_
  obtain ⟨F, τ, R, S, q⟩ := h
  refine ⟨F, τ, R, S, ?_⟩
  unfold mCall at q
  cases hs : ms τ with
  | none => simp only [hs] at q
  | some r =>
    simp only [hs] at q
    cases r with
    | x c => exact q
    | v ts b =>
      intro F1 H1 xs e1 rs
      have S1 := S.ext e1
      simp only at q
      rw [List.append_nil]
      refine ⟨Gz b F1 H1 R, ts, gz_fh S1, rs, ?_⟩
      cases hg : g ts with
      | none => simp only [hg] at q
      | some r =>
        simp only [hg] at q
        cases r with
        | exc c => exact fun F' H' e2 => q F1 H' (e1.grow e2.hh)
        | ok v =>
          intro F2 H2 z C e2 r2
          simp only at q
          unfold fin at q
          cases b with
          | false => exact q F2 H2 z C (e1.trans0 e2) r2
          | true =>
            cases hf : v.flat with
            | false => rw [hf] at q; exact False.elim q
            | true => rw [hf] at q; exact q F1 H2 z R0 (e1.grow e2.hh) (r2.flat_any hf)
end
end Pu
set_option Elab.async false
set_option linter.all false
set_option maxRecDepth 100000
namespace Pu
open PySem PySem.Spec PyProof.Rows L2 Zw Zx
def Its (K : PySem.W.Frag) (J : It) (F : Hp) (ts : List T) : Prop := ∀ (i : Nat) (F' H' : Hp), Same F F' → Same F' H' →
  (∀ t, ts[i]? = some t → J.go i H' ∧ ∀ x H'', J.yld i H' x H'' → ∃ F'', Ext F' H' F'' H'' R0 ∧ Rp K F'' H'' t x R0) ∧ (i = ts.length → J.stop i H')
def tI (K : PySem.W.Frag) (E : L2.St → XK) (ca : Str → Value) (m : PSt → Option RsL) : TI := fun σ H P => ∃ F τ R, StR K F H σ τ R ∧ match m τ with
  | some (.v ts _) => ∀ F' H' J, Ext F H F' H' R0 → Its K J F' ts → P J H'
  | some (.x c) => ∀ F' H', Ext F H F' H' R0 → E σ (ca c) none H'
  | none => False
def isL : T → Bool
  | .nd _ .lst _ => true
  | .nd _ .rl _ => true
  | .nd _ (.pin _) _ => true
  | _ => false
def iVal (m : PSt → Option Rs) : PSt → Option RsL := fun τ => match m τ with
  | some (.v (.nd _ k l) false) => some (.v (shareL l) false)
  | some (.x c) => some (.x c)
  | _ => none
def rangeT (lo : Int) (n : Nat) : List T := (List.range n).map fun (i : Nat) => .int (lo + (i : Int))
noncomputable def ok62 (j : Int) : Bool := @decide (-(2 ^ 62) ≤ j ∧ j < 2 ^ 62) (Classical.propDecidable _)
def as1 : List T → Option Int
  | [.int j] => some j
  | _ => none
def as2 : List T → Option (Int × Int)
  | [.int i, .int j] => some (i, j)
  | _ => none
noncomputable def iRange1 (ms : PSt → Option RsL) : PSt → Option RsL := fun τ => match ms τ with
  | some (.v ts _) => (match as1 ts with
    | some j => if ok62 j then some (.v (rangeT 0 j.toNat) false) else none
    | none => none)
  | r => r
noncomputable def iRange2 (ms : PSt → Option RsL) : PSt → Option RsL := fun τ => match ms τ with
  | some (.v ts _) => (match as2 ts with
    | some (i, j) => if ok62 i && ok62 j then some (.v (rangeT i (j - i).toNat) false) else none
    | none => none)
  | r => r
def enumT : Nat → List T → List T
  | _, [] => []
  | i, t :: r => .tup [.int (i : Int), t] :: enumT (i + 1) r
def asL : List T → Option (List T)
  | [.nd o k l] => if isL (.nd o k l) then some l else none
  | _ => none
def asL2 : List T → Option (List T × List T)
  | [.nd o k l, .nd o' k' m] => if isL (.nd o k l) && isL (.nd o' k' m) then some (l, m) else none
  | _ => none
def iEnumT (ms : PSt → Option RsL) : PSt → Option RsL := fun τ => match ms τ with
  | some (.v ts false) => (match asL ts with
    | some l => some (.v (enumT 0 l) false)
    | none => none)
  | some (.v _ true) => none
  | r => r
def zipT (l m : List T) : List T := List.zipWith (fun a b => T.tup [a, b]) l m
def iZipT (ms : PSt → Option RsL) : PSt → Option RsL := fun τ => match ms τ with
  | some (.v ts false) => (match asL2 ts with
    | some (l, m) => some (.v (zipT l m) false)
    | none => none)
  | some (.v _ true) => none
  | r => r
theorem enumT_get : ∀ (l : List T) (n i : Nat), (enumT n l)[i]? = (l[i]?).map fun t => T.tup [.int ((n + i : Nat) : Int), t]
  | [], n, i => by simp [enumT]
  | t :: r, n, i => by
    cases i with
    | zero => simp [enumT]
    | succ i =>
      simp only [enumT, List.getElem?_cons_succ]
      rw [enumT_get r (n + 1) i]
      have : n + 1 + i = n + (i + 1) := by omega
      rw [this]
theorem enumT_length (l : List T) : ∀ n, (enumT n l).length = l.length := by
  induction l with
  | nil => intro n; rfl
  | cons t r ih => intro n; simp [enumT, ih]
section
variable {X : Cx} {E : L2.St → XK} {ca : Str → Value} {σ : L2.St} {H : Hp} {m ma mb mc : PSt → Option Rs} {ms : PSt → Option RsL} {K : PySem.W.Frag} {a b c e tg : Expr} {es elts : List Expr} {pos p tpos : Pos} {kk : Nat}
theorem its_list {F : Hp} {p : Addr} {xs : List V} {l : List T} (n : ∀ F' H' : Hp, Same F F' → Same F' H' → SqL K H' p xs) (r : Rps K F l xs) : Its K (Itl K p) F l := by
  intro i F' H' s1 s2
  have sq := n F' H' s1 s2
  refine ⟨fun t ht => ?_, fun e => ⟨xs, sq, by rw [e, r.1]; exact Nat.le_refl _⟩⟩
  have hi : i < xs.length := by
    have := (List.getElem?_eq_some_iff.mp ht).1
    have := r.1
    omega
  refine ⟨⟨xs, xs[i], sq, List.getElem?_eq_getElem hi⟩, fun x H'' y => ?_⟩
  obtain ⟨rfl, y⟩ := y
  have hx := y xs sq
  exact ⟨F', Ext.refl s2, ((r.same s1).2 i t x ht hx).any⟩
theorem its_tup {F : Hp} {p : Addr} {xs : List V} {l : List T} (n : ∀ F' H' : Hp, Same F F' → Same F' H' → SqT K H' p xs) (r : Rps K F l xs) : Its K (Itt K p) F l := by
  intro i F' H' s1 s2
  have sq := n F' H' s1 s2
  refine ⟨fun t ht => ?_, fun e => ⟨xs, sq, by rw [e, r.1]; exact Nat.le_refl _⟩⟩
  have hi : i < xs.length := by
    have := (List.getElem?_eq_some_iff.mp ht).1
    have := r.1
    omega
  refine ⟨⟨xs, xs[i], sq, List.getElem?_eq_getElem hi⟩, fun x H'' y => ?_⟩
  obtain ⟨rfl, y⟩ := y
  have hx := y xs sq
  exact ⟨F', Ext.refl s2, ((r.same s1).2 i t x ht hx).any⟩
theorem its_range {F : Hp} {lo : Int} {n : Nat} : Its K (Itr lo n) F (rangeT lo n) := by
  intro i F' H' s1 s2
  refine ⟨fun t ht => ?_, fun e => ?_⟩
  · unfold rangeT at ht
    rw [List.getElem?_map] at ht
    obtain ⟨j, e1, e2⟩ := Option.map_eq_some_iff.mp ht
    have hi : i < n := by
      have := (List.getElem?_eq_some_iff.mp e1).1
      simpa using this
    have hj : i = j := by rw [List.getElem?_range hi] at e1; exact Option.some.inj e1
    subst hj
    subst e2
    refine ⟨hi, fun x H'' y => ?_⟩
    obtain ⟨rfl, rfl⟩ := y
    exact ⟨F', Ext.refl s2, .int _⟩
  · have : n ≤ i := by rw [e]; simp [rangeT]
    exact this
theorem its_enum {F : Hp} {p : Addr} {xs : List V} {l : List T} (n : ∀ F' H' : Hp, Same F F' → Same F' H' → SqL K H' p xs) (r : Rps K F l xs) : Its K (Ite K p) F (enumT 0 l) := by
  intro i F' H' s1 s2
  have sq := n F' H' s1 s2
  refine ⟨fun t ht => ?_, fun e => ⟨xs, sq, by rw [e, enumT_length, r.1]; exact Nat.le_refl _⟩⟩
  rw [enumT_get] at ht
  obtain ⟨t0, h0, rfl⟩ := Option.map_eq_some_iff.mp ht
  have hi : i < xs.length := by
    have := (List.getElem?_eq_some_iff.mp h0).1
    have := r.1
    omega
  refine ⟨⟨xs, xs[i], sq, List.getElem?_eq_getElem hi⟩, fun x H'' y => ?_⟩
  obtain ⟨q, y0, rfl, hq, rfl, y⟩ := y
  have hx := y xs sq
  have e := Ext.new (o := .tup [.int i, y0]) s2 hq
  refine ⟨_, e, Rps.of_node (k := .tup) (xs := [.int i, y0]) upd_same ?_⟩
  have e0 : ((0 + i : Nat) : Int) = (i : Int) := by simp
  rw [e0]
  exact .cons (H := H') (.int _) (.cons (H := H') (((r.same (s1.trans e.ff)).2 i t0 y0 h0 hx).any) .nil)
theorem its_zip {F : Hp} {p p2 : Addr} {xs ys : List V} {l l2 : List T} (n : ∀ F' H' : Hp, Same F F' → Same F' H' → SqL K H' p xs) (n2 : ∀ F' H' : Hp, Same F F' → Same F' H' → SqL K H' p2 ys) (r : Rps K F l xs) (r2 : Rps K F l2 ys) : Its K (Itz K p p2) F (zipT l l2) := by
  intro i F' H' s1 s2
  have sq := n F' H' s1 s2
  have sq2 := n2 F' H' s1 s2
  have l1 := r.1
  have l2' := r2.1
  refine ⟨fun t ht => ?_, fun e => ⟨xs, ys, sq, sq2, ?_⟩⟩
  · unfold zipT at ht
    rw [List.getElem?_zipWith] at ht
    cases h1 : l[i]? with
    | none => rw [h1] at ht; cases ht
    | some t1 =>
      cases h2 : l2[i]? with
      | none => rw [h1, h2] at ht; cases ht
      | some t2 =>
        rw [h1, h2] at ht
        cases ht
        have hi : i < xs.length := by have := (List.getElem?_eq_some_iff.mp h1).1; omega
        have hi2 : i < ys.length := by have := (List.getElem?_eq_some_iff.mp h2).1; omega
        refine ⟨⟨xs, xs[i], ys, ys[i], sq, List.getElem?_eq_getElem hi, sq2, List.getElem?_eq_getElem hi2⟩, fun x H'' y => ?_⟩
        obtain ⟨q, y0, z0, rfl, hq, rfl, y, z⟩ := y
        have hx := y xs sq
        have hy := z ys sq2
        have e := Ext.new (o := .tup [y0, z0]) s2 hq
        refine ⟨_, e, Rps.of_node (k := .tup) (xs := [y0, z0]) upd_same ?_⟩
        exact .cons (H := H') (((r.same (s1.trans e.ff)).2 i t1 y0 h1 hx).any) (.cons (H := H') (((r2.same (s1.trans e.ff)).2 i t2 z0 h2 hy).any) .nil)
  · have : i = min l.length l2.length := by rw [e]; simp [zipT]
    omega
theorem PI.weak {t t' : TI} (h : PI X tg e t) (w : ∀ σ H P, t' σ H P → t σ H P) : PI X tg e t' := fun pins s σ H P I q => h pins s σ H P I (w σ H P q)
theorem PI.or {t t' : TI} (h : PI X tg e t) (h' : PI X tg e t') : PI X tg e (fun σ H P => t σ H P ∨ t' σ H P) := fun pins s σ H P I q => q.elim (h pins s σ H P I) (h' pins s σ H P I)
theorem r_iVal (ha : PE X e (tM X.K E ca m)) : PI X tg e (tI X.K E ca (iVal m)) := by
  refine PI.weak (PI.or (pi_list ha) (pi_tup ha)) fun σ H P h => ?_
  obtain ⟨F, τ, R, S, q⟩ := h
  unfold iVal at q
  have key : ∀ {o : Bool} {k : Kd} {l : List T}, m τ = some (.v (.nd o k l) false) → (∀ F' H' J, Ext F H F' H' R0 → Its X.K J F' (shareL l) → P J H') → ∀ F1 H1 x B, Ext F H F1 H1 B → Got X.K F1 H1 R (.nd o k l) false x B → ∃ (F2 : Hp) (p : Addr) (xs : List V), x = .ref p ∧ Ext F H F2 H1 R0 ∧ NodeS X.K F2 k p xs ∧ Rps X.K F2 (shareL l) xs := by
    intro o k l hm q F1 H1 x B e1 g1
    obtain ⟨F2, e2, _, r2⟩ := Got.frz (b := false) S e1 g1
    have r2' : Rp X.K F2 F2 (T.nd o k l).share x R0 := r2
    rw [T.share] at r2'
    obtain ⟨p, xs, rfl, _, n, kd⟩ := node_of r2'
    exact ⟨F2, p, xs, rfl, e2, n, kd⟩
  cases hm : m τ with
  | none => simp only [hm] at q
  | some r =>
    simp only [hm] at q
    cases r with
    | x c => exact .inl ⟨F, τ, R, S, by rw [hm]; exact q⟩
    | v t bb =>
      cases t with
      | nd o k l =>
        cases bb with
        | true => exact q.elim
        | false =>
          simp only at q
          cases k with
          | lst =>
            refine .inl ⟨F, τ, R, S, ?_⟩
            rw [hm]
            intro F1 H1 x B e1 g1
            obtain ⟨F2, p, xs, rfl, e2, n, kd⟩ := key hm q F1 H1 x B e1 g1
            exact ⟨p, rfl, ⟨xs, SqL.of (e2.fh _ _ n)⟩, q F2 H1 _ e2 (its_list (fun F' H' s1 s2 => SqL.of (s2 _ _ (s1 _ _ n))) kd)⟩
          | pin _ =>
            refine .inl ⟨F, τ, R, S, ?_⟩
            rw [hm]
            intro F1 H1 x B e1 g1
            obtain ⟨F2, p, xs, rfl, e2, n, kd⟩ := key hm q F1 H1 x B e1 g1
            exact ⟨p, rfl, ⟨xs, SqL.of (e2.fh _ _ n)⟩, q F2 H1 _ e2 (its_list (fun F' H' s1 s2 => SqL.of (s2 _ _ (s1 _ _ n))) kd)⟩
          | rl =>
            refine .inl ⟨F, τ, R, S, ?_⟩
            rw [hm]
            intro F1 H1 x B e1 g1
            obtain ⟨F2, p, xs, rfl, e2, n, kd⟩ := key hm q F1 H1 x B e1 g1
            exact ⟨p, rfl, ⟨xs, e2.fh.seq n⟩, q F2 H1 _ e2 (its_list (fun F' H' s1 s2 => s2.seq (s1.seq n)) kd)⟩
          | tup =>
            refine .inr ⟨F, τ, R, S, ?_⟩
            rw [hm]
            intro F1 H1 x B e1 g1
            obtain ⟨F2, p, xs, rfl, e2, n, kd⟩ := key hm q F1 H1 x B e1 g1
            exact ⟨p, rfl, ⟨xs, SqT.of (e2.fh _ _ n)⟩, q F2 H1 _ e2 (its_tup (fun F' H' s1 s2 => SqT.of (s2 _ _ (s1 _ _ n))) kd)⟩
          | rt =>
            refine .inr ⟨F, τ, R, S, ?_⟩
            rw [hm]
            intro F1 H1 x B e1 g1
            obtain ⟨F2, p, xs, rfl, e2, n, kd⟩ := key hm q F1 H1 x B e1 g1
            exact ⟨p, rfl, ⟨xs, seqT_same e2.fh n⟩, q F2 H1 _ e2 (its_tup (fun F' H' s1 s2 => seqT_same s2 (seqT_same s1 n)) kd)⟩
      | _ => exact q.elim
theorem tI_args {f : (PSt → Option RsL) → PSt → Option RsL} {P : It → Hp → Prop} {W : List V → Hp → Prop} (hx : ∀ τ c, ms τ = some (.x c) → f ms τ = some (.x c)) (hn : ∀ τ, ms τ = none → f ms τ = none)
    (hv : ∀ F τ R ts b, StR K F H σ τ R → ms τ = some (.v ts b) → (match f ms τ with
      | some (.v us _) => ∀ F' H' J, Ext F H F' H' R0 → Its K J F' us → P J H'
      | some (.x c) => ∀ F' H', Ext F H F' H' R0 → E σ (ca c) none H'
      | none => False) → ∀ F' H' xs, Ext F H F' H' R0 → Rps K (Gz b F' H' R) ts xs → W xs H') (h : tI K E ca (f ms) σ H P) : tMs K E ca ms σ H W := by
  obtain ⟨F, τ, R, S, q⟩ := h
  refine ⟨F, τ, R, S, ?_⟩
  cases hm : ms τ with
  | none => rw [hn τ hm] at q; exact q.elim
  | some r =>
    cases r with
    | x c => rw [hx τ c hm] at q; exact q
    | v ts b => exact fun F' H' xs e rs => hv F τ R ts b S hm q F' H' xs e rs
theorem ok62_iff {j : Int} (h : ok62 j = true) : -(2 ^ 62) ≤ j ∧ j < 2 ^ 62 := @of_decide_eq_true _ (Classical.propDecidable _) h
theorem r_range1 (hg : Gl X "range") (hm : X.mg "range" = none) (ha : PA X [a] (tMs X.K E ca ms)) (hs : starEach [a] X.env = [(false, eval a X.env)]) : PI X tg (.Call (.Name "range" p) [a] [] pos) (tI X.K E ca (iRange1 ms)) := by
  refine PI.weak (pi_range1 hg hm ha hs) fun σ H P h => ?_
  refine tI_args (f := iRange1) (fun τ c e => by unfold iRange1; rw [e]) (fun τ e => by unfold iRange1; rw [e]) (fun F τ R ts b S e q F' H' xs e1 rs => ?_) h
  unfold iRange1 at q
  rw [e] at q
  simp only at q
  cases h1 : as1 ts with
  | none => simp only [h1] at q
  | some j =>
    simp only [h1] at q
    by_cases hj : ok62 j = true
    · simp only [hj, if_true] at q
      obtain ⟨g1, g2⟩ := ok62_iff hj
      unfold as1 at h1
      split at h1
      · cases h1
        obtain ⟨x1, xs1, rfl, r1, rs1⟩ := rs.inv
        cases rs1.inv0
        rw [r1.int_inv]
        exact ⟨j, rfl, g1, g2, q F' H' _ e1 its_range⟩
      · cases h1
    · simp only [hj] at q
      exact q.elim
theorem r_range2 (hg : Gl X "range") (hm : X.mg "range" = none) (ha : PA X [a, b] (tMs X.K E ca ms)) (hs : starEach [a, b] X.env = [(false, eval a X.env), (false, eval b X.env)]) (hs2 : starEach [b] X.env = [(false, eval b X.env)]) : PI X tg (.Call (.Name "range" p) [a, b] [] pos) (tI X.K E ca (iRange2 ms)) := by
  refine PI.weak (pi_range2 hg hm ha hs hs2) fun σ H P h => ?_
  refine tI_args (f := iRange2) (fun τ c e => by unfold iRange2; rw [e]) (fun τ e => by unfold iRange2; rw [e]) (fun F τ R ts b S e q F' H' xs e1 rs => ?_) h
  unfold iRange2 at q
  rw [e] at q
  simp only at q
  cases h1 : as2 ts with
  | none => simp only [h1] at q
  | some ij =>
    obtain ⟨i, j⟩ := ij
    simp only [h1] at q
    by_cases hj : (ok62 i && ok62 j) = true
    · simp only [hj, if_true] at q
      rw [Bool.and_eq_true] at hj
      obtain ⟨g1, g2⟩ := ok62_iff hj.1
      obtain ⟨g3, g4⟩ := ok62_iff hj.2
      unfold as2 at h1
      split at h1
      · cases h1
        obtain ⟨x1, xs1, rfl, r1, rs1⟩ := rs.inv
        obtain ⟨x2, xs2, rfl, r2, rs2⟩ := rs1.inv
        cases rs2.inv0
        rw [r1.int_inv, r2.int_inv]
        exact ⟨i, j, rfl, ⟨g1, g2, g3, g4⟩, q F' H' _ e1 its_range⟩
      · cases h1
    · simp only [hj] at q
      exact q.elim
theorem isL_sq {F : Hp} {o : Bool} {k : Kd} {l : List T} {x : V} (h : isL (.nd o k l) = true) (r : Rp K F F (.nd o k l) x R0) : ∃ p xs, x = .ref p ∧ (∀ F' H' : Hp, Same F F' → Same F' H' → SqL K H' p xs) ∧ Rps K F l xs := by
  obtain ⟨p, xs, rfl, _, n, kd⟩ := node_of r
  refine ⟨p, xs, rfl, fun F' H' s1 s2 => ?_, kd⟩
  cases k with
  | lst => exact SqL.of (s2 _ _ (s1 _ _ n))
  | rl => exact s2.seq (s1.seq n)
  | tup => cases h
  | rt => cases h
  | pin q => exact SqL.of (s2 _ _ (s1 _ _ n))
theorem r_enum (hg : Gl X "enumerate") (hm : X.mg "enumerate" = none) (ha : PA X [a] (tMs X.K E ca ms)) (hs : starEach [a] X.env = [(false, eval a X.env)]) : PI X (.Tuple elts kk tpos) (.Call (.Name "enumerate" p) [a] [] pos) (tI X.K E ca (iEnumT ms)) := by
  refine PI.weak (pi_enum hg hm ha hs) fun σ H P h => ?_
  refine tI_args (f := iEnumT) (fun τ c e => by unfold iEnumT; rw [e]) (fun τ e => by unfold iEnumT; rw [e]) (fun F τ R ts b S e q F' H' xs e1 rs => ?_) h
  unfold iEnumT at q
  rw [e] at q
  cases b with
  | true => exact q.elim
  | false =>
    simp only at q
    cases h1 : asL ts with
    | none => simp only [h1] at q
    | some l =>
      simp only [h1] at q
      unfold asL at h1
      split at h1
      · split at h1
        · cases h1
          rename_i hL
          obtain ⟨x1, xs1, rfl, r1, rs1⟩ := rs.inv
          cases rs1.inv0
          obtain ⟨p', ys, rfl, sq, kd⟩ := isL_sq hL r1
          exact ⟨p', rfl, ⟨ys, sq F' H' (.refl _) e1.fh⟩, q F' H' _ e1 (its_enum sq kd)⟩
        · cases h1
      · cases h1
theorem r_zip (hg : Gl X "zip") (hm : X.mg "zip" = none) (ha : PA X [a, b] (tMs X.K E ca ms)) (hs : starEach [a, b] X.env = [(false, eval a X.env), (false, eval b X.env)]) (hs2 : starEach [b] X.env = [(false, eval b X.env)]) : PI X (.Tuple elts kk tpos) (.Call (.Name "zip" p) [a, b] [] pos) (tI X.K E ca (iZipT ms)) := by
  refine PI.weak (pi_zip hg hm ha hs hs2) fun σ H P h => ?_
  refine tI_args (f := iZipT) (fun τ c e => by unfold iZipT; rw [e]) (fun τ e => by unfold iZipT; rw [e]) (fun F τ R ts b S e q F' H' xs e1 rs => ?_) h
  unfold iZipT at q
  rw [e] at q
  cases b with
  | true => exact q.elim
  | false =>
    simp only at q
    cases h1 : asL2 ts with
    | none => simp only [h1] at q
    | some lm =>
      obtain ⟨l, m'⟩ := lm
      simp only [h1] at q
      unfold asL2 at h1
      split at h1
      · split at h1
        · cases h1
          rename_i hL
          rw [Bool.and_eq_true] at hL
          obtain ⟨x1, xs1, rfl, r1, rs1⟩ := rs.inv
          obtain ⟨x2, xs2, rfl, r2, rs2⟩ := rs1.inv
          cases rs2.inv0
          obtain ⟨p', ys, rfl, sq, kd⟩ := isL_sq hL.1 r1
          obtain ⟨p2, zs, rfl, sq2, kd2⟩ := isL_sq hL.2 r2
          exact ⟨p', p2, rfl, ⟨ys, sq F' H' (.refl _) e1.fh⟩, ⟨zs, sq2 F' H' (.refl _) e1.fh⟩, q F' H' _ e1 (its_zip sq sq2 kd kd2)⟩
        · cases h1
      · cases h1
end
theorem StR.set {K : PySem.W.Frag} {F H : Hp} {σ : L2.St} {τ : PSt} {R : Nat → Rg} (S : StR K F H σ τ R) {i : Nat} {t : T} {x : V} {A : Rg} (r : Rp K F H t x A) (d : ∀ j a, j ≠ i → R j a → ¬ A a) (hi : i < τ.length) :
    StR K F H (σ.set i (some x)) (τ.set i (some t)) (fun j => if j = i then A else R j) := by
  have hl := S.len
  refine ⟨S.fh, by simp [hl], fun j t' e => ?_, fun j a z => ?_, fun j k a hjk z1 z2 => ?_⟩
  · by_cases hj : j = i
    · subst hj
      rw [List.getElem?_set_self hi] at e
      cases e
      exact ⟨x, List.getElem?_set_self (by omega), by simpa using r⟩
    · rw [List.getElem?_set_ne (Ne.symm hj)] at e ⊢
      obtain ⟨y, e1, r1⟩ := S.rep j t' e
      exact ⟨y, e1, by simpa [hj] using r1⟩
  · by_cases hj : j = i
    · subst hj
      exact ⟨t, List.getElem?_set_self hi⟩
    · simp only [hj, if_false] at z
      obtain ⟨t', e⟩ := S.out j a z
      exact ⟨t', by rw [List.getElem?_set_ne (Ne.symm hj)]; exact e⟩
  · by_cases hj : j = i
    · simp only [hj, if_true] at z1
      have hk : ¬ k = i := fun z => hjk (hj.trans z.symm)
      simp only [hk, if_false] at z2
      exact d k a hk z2 z1
    · simp only [hj, if_false] at z1
      by_cases hk : k = i
      · simp only [hk, if_true] at z2
        exact d j a hj z1 z2
      · simp only [hk, if_false] at z2
        exact S.dis j k a hjk z1 z2
def tGM (K : PySem.W.Frag) (b : T → PSt → Option PSt) : TG := fun v σ H Q => ∃ F τ R t τ', StR K F H σ τ R ∧ Rp K F H t v R0 ∧ b t τ = some τ' ∧ ∀ σ' R', StR K F H σ' τ' R' → (∀ i a, R' i a → R i a) → Q σ' H
def tGMs (K : PySem.W.Frag) (b : List T → PSt → Option PSt) : TGs := fun vs σ H Q => ∃ F τ R ts τ', StR K F H σ τ R ∧ Rps K F ts vs ∧ b ts τ = some τ' ∧ ∀ σ' R', StR K F H σ' τ' R' → (∀ i a, R' i a → R i a) → Q σ' H
def bNm (i : Nat) : T → PSt → Option PSt := fun t τ => if i < τ.length then some (τ.set i (some t)) else none
def bNil : List T → PSt → Option PSt
  | [], τ => some τ
  | _ :: _, _ => none
def bCons (b : T → PSt → Option PSt) (bs : List T → PSt → Option PSt) : List T → PSt → Option PSt
  | t :: ts, τ => (match b t τ with
    | some τ' => bs ts τ'
    | none => none)
  | [], _ => none
def bTup (n : Nat) (bs : List T → PSt → Option PSt) : T → PSt → Option PSt
  | .nd _ .tup l, τ => if l.length = n then bs l τ else none
  | .nd _ .rt l, τ => if l.length = n then bs l τ else none
  | _, _ => none
section
variable {X : Cx} {e : Expr} {es : List Expr} {pos : Pos} {b : T → PSt → Option PSt} {bs : List T → PSt → Option PSt}
theorem PG.weak {t t' : TG} (h : PG X e t) (w : ∀ v σ H Q, t' v σ H Q → t v σ H Q) : PG X e t' := fun pins s σ H v u Q I r q => h pins s σ H v u Q I r (w v σ H Q q)
theorem PGs.weak {t t' : TGs} (h : PGs X es t) (w : ∀ v σ H Q, t' v σ H Q → t v σ H Q) : PGs X es t' := fun pins s σ H v u Q I r q => h pins s σ H v u Q I r (w v σ H Q q)
theorem g_nm {i : Nat} {x : Str} (hN : X.N.Nodup) (hi : X.N[i]? = some x) (hx : Loc X.env.scope x) (hf : X.fn x = true ∨ X.env.scope.names.lookup x = some .local) : PG X (.Name x pos) (tGM X.K (bNm i)) := by
  refine PG.weak (pg_name hN hi hx hf) fun v σ H Q h => ?_
  obtain ⟨F, τ, R, t, τ', S, r, e, q⟩ := h
  unfold bNm at e
  split at e
  · cases e
    rename_i hl
    refine q _ _ (S.set r (fun _ _ _ _ z => z.elim) hl) fun j a z => ?_
    by_cases hj : j = i
    · simp only [hj, if_true] at z; exact z.elim
    · simpa [hj] using z
  · cases e
theorem g_nil : PGs X [] (tGMs X.K bNil) := PGs.weak pgs_nil fun v σ H Q h => by
  obtain ⟨F, τ, R, ts, τ', S, r, e, q⟩ := h
  cases ts with
  | nil => cases e; exact ⟨r.inv0, q σ R S fun _ _ z => z⟩
  | cons _ _ => cases e
theorem g_cons (h1 : PG X e (tGM X.K b)) (h2 : PGs X es (tGMs X.K bs)) (hs : (assignEach (e :: es) X.env).map (·.2) = assign e X.env :: (assignEach es X.env).map (·.2)) : PGs X (e :: es) (tGMs X.K (bCons b bs)) := by
  refine PGs.weak (pgs_cons h1 h2 hs) fun v σ H Q h => ?_
  obtain ⟨F, τ, R, ts, τ', S, r, e, q⟩ := h
  cases ts with
  | nil => cases e
  | cons t ts =>
    obtain ⟨x, xs, rfl, r1, rs⟩ := r.inv
    unfold bCons at e
    simp only at e
    cases hb : b t τ with
    | none => rw [hb] at e; cases e
    | some τ1 =>
      rw [hb] at e
      exact ⟨x, xs, rfl, F, τ, R, t, τ1, S, r1.any, hb, fun σ1 R1 S1 w1 => ⟨F, τ1, R1, ts, τ', S1, rs, e, fun σ2 R2 S2 w2 => q σ2 R2 S2 fun i a z => w1 i a (w2 i a z)⟩⟩
theorem g_tup {k n : Nat} (hc : X.calm = true) (h : PGs X es (tGMs X.K bs)) (hn : (assignEach es X.env).length = n) (hst : (assignEach es X.env).findIdx? (·.1) = none) : PG X (.Tuple es k pos) (tGM X.K (bTup n bs)) := by
  refine PG.weak (pg_tup hc h hn hst) fun v σ H Q h => ?_
  obtain ⟨F, τ, R, t, τ', S, r, e, q⟩ := h
  have key : ∀ {o : Bool} {kd : Kd} {l : List T}, t = .nd o kd l → (kd = .tup ∨ kd = .rt) → (if l.length = n then bs l τ else none) = some τ' → gTup X.K n (tGMs X.K bs) v σ H Q := by
    intro o kd l et hk e'
    subst et
    split at e'
    · rename_i hl
      obtain ⟨p, xs, rfl, _, nn, kid⟩ := node_of (r.any (H' := F))
      have sq : SqT X.K H p xs := by
        rcases hk with rfl | rfl
        · exact SqT.of (S.fh _ _ nn)
        · exact seqT_same S.fh nn
      exact ⟨p, xs, rfl, sq, by rw [← kid.1]; exact hl, F, τ, R, l, τ', S, kid, e', q⟩
    · cases e'
  unfold bTup at e
  split at e
  · exact key rfl (.inl rfl) e
  · exact key rfl (.inr rfl) e
  · cases e
end
end Pu
set_option Elab.async false
set_option linter.all false
set_option maxRecDepth 100000
namespace Pu
open PySem PySem.Spec PyProof.Rows L2 Zw Zx
def E00 : L2.St → XK := fun _ => E0
def lcGo (b : T → PSt → Option PSt) (mt me : PSt → Option Rs) : List T → PSt → Option (List T)
  | [], _ => some []
  | t :: ts, τ => (match b t τ with
    | some τ1 => (match mt τ1 with
      | some (.v (.bl true) _) => (match me τ1 with
        | some (.v v false) => (match lcGo b mt me ts τ1 with
          | some l => some (v :: l)
          | none => none)
        | _ => none)
      | some (.v (.bl false) _) => lcGo b mt me ts τ1
      | _ => none)
    | none => none)
def capT (τ : PSt) (j : Nat) : Option T := match τ[j]? with
  | some (some t) => if t.sh then some t else none
  | _ => none
def blk (n : Nat) (caps : List Nat) (τ : PSt) : PSt := List.replicate n none ++ caps.map (capT τ)
def capV (σ : L2.St) (j : Nat) : Option V := match σ[j]? with
  | some (some v) => some v
  | _ => none
def blkV (n : Nat) (caps : List Nat) (σ : L2.St) : L2.St := List.replicate n none ++ caps.map (capV σ)
def mLC (n : Nat) (caps : List Nat) (mi : PSt → Option RsL) (b : T → PSt → Option PSt) (mt me : PSt → Option Rs) : PSt → Option Rs := fun τ => match mi τ with
  | some (.v ts _) => if ts.length ≤ lim then (match lcGo b mt me ts (blk n caps τ) with
    | some l => some (.v (.own l) false)
    | none => none) else none
  | some (.x c) => some (.x c)
  | none => none
theorem blk_st {K : PySem.W.Frag} {F H : Hp} {σ : L2.St} {τ : PSt} {R : Nat → Rg} (S : StR K F H σ τ R) (n : Nat) (caps : List Nat) : StR K F H (blkV n caps σ) (blk n caps τ) (fun _ => R0) := by
  refine ⟨S.fh, by simp [blkV, blk], fun i t e => ?_, fun _ _ z => z.elim, fun _ _ _ _ z => z.elim⟩
  unfold blk at e
  unfold blkV
  by_cases hi : i < n
  · rw [List.getElem?_append_left (by simpa using hi), List.getElem?_replicate, if_pos hi] at e
    cases e
  · rw [List.getElem?_append_right (by simp; omega), List.getElem?_map] at e ⊢
    simp only [List.length_replicate] at e ⊢
    cases hc : caps[i - n]? with
    | none => rw [hc] at e; cases e
    | some j =>
      rw [hc] at e
      simp only [Option.map_some] at e ⊢
      have e' : capT τ j = some t := Option.some.inj e
      unfold capT at e'
      split at e'
      · rename_i t' ht
        split at e'
        · cases e'
          rename_i hs
          obtain ⟨x, ex, r⟩ := S.rep j _ ht
          refine ⟨x, ?_, r.move hs (.refl _)⟩
          unfold capV
          rw [ex]
        · cases e'
      · cases e'
theorem snoc_tot {l : List T} {Rr : Nat → Rg} {B : Rg} {a : Addr} (h : tot (fun j => if j = l.length then B else Rr j) a) : tot Rr a ∨ B a := by
  obtain ⟨j, z⟩ := h
  by_cases hj : j = l.length
  · simp only [hj, if_true] at z; exact .inr z
  · simp only [hj, if_false] at z; exact .inl ⟨j, z⟩
section
variable {X : Cx} {E : L2.St → XK} {ca : Str → Value} {σ : L2.St} {H : Hp} {K : PySem.W.Frag} {n : Nat} {caps : List Nat} {mi : PSt → Option RsL} {b : T → PSt → Option PSt} {mt me : PSt → Option Rs}
theorem tM_lc {Q : VK} (h : tM K E ca (mLC n caps mi b mt me) σ H Q) : tLC2 (blkV n caps) (tI K E ca mi) (tGM K b) (tMB K E00 ca mt) (tM K E00 ca me) σ H Q := by
  obtain ⟨F, τ, R, S, q⟩ := h
  refine ⟨F, τ, R, S, ?_⟩
  unfold mLC at q
  cases hi : mi τ with
  | none => simp only [hi] at q
  | some r =>
    simp only [hi] at q
    cases r with
    | x c => exact q
    | v ts bb =>
      intro F1 H1 J e1 its
      by_cases hz' : ¬ ts.length ≤ lim
      · simp only [hz', if_false] at q
      have hz : ts.length ≤ lim := Decidable.not_not.mp hz'
      simp only [hz, if_true] at q
      cases hg : lcGo b mt me ts (blk n caps τ) with
      | none => simp only [hg] at q
      | some res =>
        simp only [hg] at q
        have S1 := S.ext e1
        refine ⟨fun i ys st H' => ∃ (F' : Hp) (τ' : PSt) (l l2 : List T) (Rr : Nat → Rg), Ext F1 H1 F' H' (tot Rr) ∧ RpO K F' H' l ys Rr ∧ StR K F' H' st τ' (fun _ => R0) ∧ i ≤ ts.length ∧ lcGo b mt me (ts.drop i) τ' = some l2 ∧ l ++ l2 = res ∧ l.length ≤ i, ts.length, by rw [← lim_eq]; exact hz, ?_, ?_⟩
        · exact ⟨F1, blk n caps τ, [], res, fun _ => R0, (Ext.refl S1.fh).mono fun a ⟨_, z⟩ => z.elim, .nil, blk_st S1 n caps, Nat.zero_le _, by simpa using hg, rfl, Nat.le_refl _⟩
        · rintro i ys st H' ⟨F', τ', l, l2, Rr, e2, ro, S2, hle, hgo, hres, hll⟩
          have hly := ro.len
          refine ⟨by omega, hle, ?_⟩
          obtain ⟨i1, i2⟩ := its i F' H' e2.ff e2.fh
          by_cases hlt : i < ts.length
          · refine .inr ⟨hlt, ?_⟩
            obtain ⟨go, yld⟩ := i1 _ (List.getElem?_eq_getElem hlt)
            refine ⟨go, fun x H'' y => ?_⟩
            obtain ⟨F'', e3, rx⟩ := yld x H'' y
            have S3 := S2.ext e3
            rw [List.drop_eq_getElem_cons hlt] at hgo
            unfold lcGo at hgo
            cases hb : b ts[i] τ' with
            | none => simp only [hb] at hgo; cases hgo
            | some τ1 =>
              simp only [hb] at hgo
              refine ⟨F'', τ', _, ts[i], τ1, S3, rx, hb, fun st1 R1 S4 hR1 => ?_⟩
              have R1e : R1 = fun _ => R0 := funext fun j => funext fun a => propext ⟨fun z => hR1 j a z, fun z => z.elim⟩
              subst R1e
              refine ⟨F'', τ1, _, S4, ?_⟩
              cases ht : mt τ1 with
              | none => simp only [ht] at hgo; cases hgo
              | some rt =>
                simp only [ht] at hgo
                cases rt with
                | x c => cases hgo
                | v vt bt =>
                  cases vt with
                  | bl k =>
                    intro F4 H4 e4
                    have S5 := S4.ext e4
                    have e24 := e2.trans ((e3.trans0 e4).mono fun _ z => z)
                    cases k with
                    | false =>
                      refine iteF ?_
                      simp only at hgo
                      exact ⟨F4, τ1, l, l2, Rr, e24.mono fun a z => .inl z, (ro.ext e3).ext e4, S5, hlt, hgo, hres, by omega⟩
                    | true =>
                      refine iteT ⟨F4, τ1, _, S5, ?_⟩
                      simp only at hgo
                      cases he : me τ1 with
                      | none => simp only [he] at hgo; cases hgo
                      | some re =>
                        simp only [he] at hgo
                        cases re with
                        | x c => cases hgo
                        | v ve be =>
                          cases be with
                          | true => cases hgo
                          | false =>
                            simp only at hgo
                            cases hr : lcGo b mt me (ts.drop (i + 1)) τ1 with
                            | none => simp only [hr] at hgo; cases hgo
                            | some l3 =>
                              simp only [hr] at hgo
                              cases hgo
                              intro F5 H5 y B e5 ry
                              have ry' : Rp K F5 H5 ve y B := ry
                              have ro4 := (ro.ext e3).ext e4
                              have ro5 := ro4.ext e5
                              refine ⟨F5, τ1, l ++ [ve], l3, _, (e24.trans e5).mono ?_, ro5.snoc ry' (fun j a z1 z2 => ro4.apart e5 z2 j z1), S5.ext e5, hlt, hr, by simpa using hres, by simp; omega⟩
                              intro a z
                              rcases snoc_tot z with z | z
                              · exact .inl (.inl z)
                              · exact .inr z
                  | _ => cases hgo
          · have hi' : i = ts.length := by omega
            subst hi'
            refine .inl ⟨i2 rfl, fun p hp => ?_⟩
            rw [List.drop_length] at hgo
            unfold lcGo at hgo
            cases hgo
            rw [List.append_nil] at hres
            subst hres
            obtain ⟨rl, e3⟩ := ro.list e2.fh hp
            refine q F' _ _ _ (((e1.trans0 e2).trans e3).mono ?_) rl
            rintro a (z | ⟨j, z⟩)
            · exact .inr z
            · exact .inl ⟨j, z⟩
structure BlkOk (X : Cx) (scope : Scope) (N' : List Str) (n : Nat) (caps : List Nat) : Prop where
  kind : scope.kind = .function
  names : ∀ y ∈ scope.names, y.2 = .local → scope.names.lookup y.1 = some .local
  len : N'.length = n + caps.length
  cap : ∀ (k j : Nat), caps[k]? = some j → ∃ y, X.N[j]? = some y ∧ N'[n + k]? = some y ∧ scope.names.lookup y = some .free ∧ (y, NameKind.cell) ∉ scope.names
  free : ∀ y ∈ scope.names, y.2 = .free → scope.names.lookup y.1 = some .free ∧ (X.env.scope.names.lookup y.1 = some .cell ∨ X.env.scope.names.lookup y.1 = some .free)
theorem lookup_relabel {env : Env} (y : Str) : ∀ (names : List (Str × NameKind)), (names.map fun (n, k) => if (k == NameKind.free && env.scope.kind == .function && env.kindOf n == some .cell) then (n, NameKind.cell) else (n, k)).lookup y =
    (names.lookup y).map fun k => if (k == NameKind.free && env.scope.kind == .function && env.kindOf y == some .cell) then .cell else k
  | [] => rfl
  | (n, k) :: r => by
    rw [List.map_cons]
    cases hy : y == n with
    | true =>
      have e : y = n := eq_of_beq hy
      subst e
      by_cases hc : (k == NameKind.free && env.scope.kind == .function && env.kindOf y == some .cell) = true
      · simp only [hc, if_true, List.lookup_cons, beq_self_eq_true, Option.map_some]
      · simp only [hc, List.lookup_cons, beq_self_eq_true, Option.map_some]
        simp
    | false =>
      by_cases hc : (k == .free && env.scope.kind == .function && env.kindOf n == some .cell) = true
      · simp only [hc, if_true, List.lookup_cons, hy]
        exact lookup_relabel y r
      · simp only [hc, List.lookup_cons, hy]
        simp only [Bool.false_eq_true, if_false, List.lookup_cons, hy]
        exact lookup_relabel y r
theorem relabel_lookup (scope : Scope) (env : Env) (y : Str) : (relabel scope env).names.lookup y = (scope.names.lookup y).map fun k => if (k == NameKind.free && env.scope.kind == .function && env.kindOf y == some .cell) then .cell else k := lookup_relabel y scope.names
theorem lookup_mem {y : Str} {k : NameKind} : ∀ {names : List (Str × NameKind)}, names.lookup y = some k → (y, k) ∈ names := fun h => PySem.mem_of_lookup h
theorem blk_go {scope : Scope} {N' : List Str} (B : BlkOk X scope N' n caps) {pins : List (Addr × Obj)} {s : Shared} (I : Inv X pins σ H s) :
    ∃ cl, closureFor scope X.env = pure cl ∧ (∀ y c, cl.lookup y = some c → X.env.cells.lookup y = some c) ∧ (∀ y, (relabel scope X.env).names.lookup y = some .cell ∨ (relabel scope X.env).names.lookup y = some .free → (y, NameKind.cell) ∈ scope.names ∨ ∃ c, cl.lookup y = some c) ∧
      (∀ (σ : L2.St) (i : Nat) (y : Str) (v : V), N'[i]? = some y → (blkV n caps σ)[i]? = some (some v) → (y, NameKind.cell) ∉ scope.names) ∧
      (∀ σ : L2.St, σ.length = X.N.length → (blkV n caps σ).length = N'.length) ∧
      (∀ (σ : L2.St) (i : Nat) (y : Str) (v : V), N'[i]? = some y → (blkV n caps σ)[i]? = some (some v) → ((relabel scope X.env).names.lookup y = some .cell ∨ (relabel scope X.env).names.lookup y = some .free) ∧ ∃ j : Nat, X.N[j]? = some y ∧ σ[j]? = some (some v) ∧ Vis X.env.scope y ∧ X.env.kindOf y ≠ some .local) := by
  obtain ⟨cl, h1, h2, h3⟩ := closure_for scope X.env fun y hy hf => I.ok.has y.1 (B.free y hy hf).2
  have at1 : ∀ (σ : L2.St) (i : Nat) (y : Str) (v : V), N'[i]? = some y → (blkV n caps σ)[i]? = some (some v) → ∃ j : Nat, X.N[j]? = some y ∧ σ[j]? = some (some v) ∧ scope.names.lookup y = some .free ∧ (y, NameKind.cell) ∉ scope.names := by
    intro σ i y v e1 e2
    unfold blkV at e2
    by_cases hi : i < n
    · rw [List.getElem?_append_left (by simpa using hi), List.getElem?_replicate, if_pos hi] at e2
      cases e2
    · rw [List.getElem?_append_right (by simp; omega), List.getElem?_map] at e2
      simp only [List.length_replicate] at e2
      cases hc : caps[i - n]? with
      | none => rw [hc] at e2; cases e2
      | some j =>
        rw [hc] at e2
        simp only [Option.map_some] at e2
        have e' : capV σ j = some v := Option.some.inj e2
        obtain ⟨y', g1, g2, g3, g4⟩ := B.cap (i - n) j hc
        have en : n + (i - n) = i := by omega
        rw [en, e1] at g2
        cases g2
        have sv : σ[j]? = some (some v) := by
          unfold capV at e'
          split at e'
          · rename_i v' hv
            cases e'
            exact hv
          · cases e'
        exact ⟨j, g1, sv, g3, g4⟩
  refine ⟨cl, h1, h2, fun y hy => ?_, fun σ i y v e1 e2 => ?_, fun σ hσ => by simp [blkV, B.len], fun σ i y v e1 e2 => ?_⟩
  · cases hk : scope.names.lookup y with
    | none =>
      rw [relabel_lookup, hk] at hy
      rcases hy with hy | hy <;> cases hy
    | some k =>
      by_cases hf : k = .free
      · subst hf
        exact .inr (h3 _ (lookup_mem hk) rfl)
      · rw [relabel_lookup, hk] at hy
        simp only [Option.map_some] at hy
        have hf' : (k == NameKind.free) = false := beq_eq_false_iff_ne.mpr hf
        simp only [hf', Bool.false_and, Bool.false_eq_true, if_false] at hy
        rcases hy with hy | hy
        · cases hy
          exact .inl (lookup_mem hk)
        · cases hy
          exact absurd rfl hf
  · exact (at1 σ i y v e1 e2).choose_spec.2.2.2
  · obtain ⟨j, g1, sv, g3, g4⟩ := at1 σ i y v e1 e2
    have fr := B.free _ (lookup_mem g3) rfl
    refine ⟨?_, j, g1, sv, ?_, ?_⟩
    · rw [relabel_lookup, g3]
      simp only [Option.map_some]
      by_cases hc2 : (NameKind.free == NameKind.free && X.env.scope.kind == .function && X.env.kindOf y == some .cell) = true
      · exact .inl (by rw [if_pos hc2])
      · exact .inr (by rw [if_neg hc2])
    · rcases fr.2 with z | z
      · exact .inr (.inl z)
      · exact .inr (.inr z)
    · intro z
      have z' : X.env.scope.names.lookup y = some .local := z
      rcases fr.2 with w | w
      · rw [z'] at w; cases w
      · rw [z'] at w; cases w
theorem r_lcV {elt iter tg : Expr} {ifs : List Expr} {scope : Scope} {pos : Pos} {N' : List Str} (B : BlkOk X scope N' n caps) (hc : X.calm = true) (hi : PI X tg iter (tI X.K E ca mi))
    (hg : ∀ cl C s₀ H₀ ex, PG (compCx2 X scope cl N' C s₀ H₀ ex) tg (tGM X.K b)) (ht : ∀ cl C s₀ H₀ ex, PTs (compCx2 X scope cl N' C s₀ H₀ ex) ifs (tMB X.K E00 ca mt)) (he : ∀ cl C s₀ H₀ ex, PE (compCx2 X scope cl N' C s₀ H₀ ex) elt (tM X.K E00 ca me))
    (hs : ∀ x, foldedSetIterable iter X.env x = pure x) : PE X (.ListComp elt [⟨tg, iter, ifs, 0⟩] scope pos) (tM X.K E ca (mLC n caps mi b mt me)) := by
  intro pins s σ H Q I h
  obtain ⟨cl, h1, h2, h3, h4, h5, h6⟩ := blk_go B I
  exact lc_val (blkV n caps) h1 B.kind B.names h2 h3 h4 h5 h6 hc hi hg ht he hs I (tM_lc h)
theorem r_lcS {elt iter tg : Expr} {ifs : List Expr} {scope : Scope} {pos pos2 pos' : Pos} {N' : List Str} (B : BlkOk X scope N' n caps) (hc : X.calm = true) (hi : PI X tg iter (tI X.K E ca mi))
    (hg : ∀ cl C s₀ H₀ ex, PG (compCx2 X scope cl N' C s₀ H₀ ex) tg (tGM X.K b)) (ht : ∀ cl C s₀ H₀ ex, PTs (compCx2 X scope cl N' C s₀ H₀ ex) ifs (tMB X.K E00 ca mt)) (he : ∀ cl C s₀ H₀ ex, PE (compCx2 X scope cl N' C s₀ H₀ ex) elt (tM X.K E00 ca me))
    (hs : ∀ x, foldedSetIterable iter X.env x = pure x) {i : Nat} {x : Str} (hN : X.N.Nodup) (hix : X.N[i]? = some x) (hx : X.env.scope.names.lookup x = some .local)
    (hsw : swapsWith (.ListComp elt [⟨tg, iter, ifs, 0⟩] scope pos) (some (.Name x pos')) pos2.line X.env = pure true) : PS X (.Assign [.Name x pos'] (.ListComp elt [⟨tg, iter, ifs, 0⟩] scope pos) pos2) (fun D σ H => tM X.K E ca (mLC n caps mi b mt me) σ H fun v H1 => D.nx (σ.set i (some v)) H1) := by
  intro pins s σ H D I h
  obtain ⟨cl, h1, h2, h3, h4, h5, h6⟩ := blk_go B I
  exact lc_set (blkV n caps) h1 B.kind B.names h2 h3 h4 h5 h6 hc hi hg ht he hs hN hix hx hsw I (tM_lc h)
end
end Pu
set_option Elab.async false
set_option linter.all false
set_option maxRecDepth 100000
namespace Pu
open PySem PySem.Spec PyProof.Rows L2 Zw Zx
inductive Out where
  | nx (τ : PSt) | rt (t : T) | bk (τ : PSt) | ct (τ : PSt) | xc (c : Str) (τ : PSt)
structure Stp (F H : Hp) (O : Rg) (F' H' : Hp) (O' : Rg) : Prop where
  ff : Same F F'
  fh : Same F' H'
  kp : ∀ b u, ¬ O b → H b = some u → H' b = some u
  nw : ∀ b, O' b → O b ∨ H b = none
  nf : ∀ b u, F' b = some u → F b = some u ∨ O b ∨ H b = none
section
variable {F H F1 H1 F2 H2 : Hp} {O O1 O2 B : Rg} {R : Nat → Rg}
theorem Stp.refl (s : Same F H) : Stp F H O F H O := ⟨.refl _, s, fun _ _ _ e => e, fun _ z => .inl z, fun _ _ e => .inl e⟩
theorem Stp.trans (a : Stp F H O F1 H1 O1) (b : Stp F1 H1 O1 F2 H2 O2) : Stp F H O F2 H2 O2 where
  ff := a.ff.trans b.ff
  fh := b.fh
  kp := fun x u n e => b.kp x u (fun z => (a.nw x z).elim n fun w => by rw [e] at w; cases w) (a.kp x u n e)
  nw := fun x z => (b.nw x z).elim (a.nw x) fun w => by
    by_cases hO : O x
    · exact .inl hO
    · cases e : H x with
      | none => exact .inr rfl
      | some u => rw [a.kp x u hO e] at w; cases w
  nf := fun x u e => (b.nf x u e).elim (a.nf x u) fun z => .inr (z.elim (a.nw x) fun w => by
    by_cases hO : O x
    · exact .inl hO
    · cases e' : H x with
      | none => exact .inr rfl
      | some u' => rw [a.kp x u' hO e'] at w; cases w)
theorem Stp.mono (a : Stp F H O F1 H1 O1) (h : ∀ x, O2 x → O1 x) : Stp F H O F1 H1 O2 := ⟨a.ff, a.fh, a.kp, fun x z => a.nw x (h x z), a.nf⟩
theorem Ext.stp (e : Ext F H F1 H1 B) : Stp F H O F1 H1 (fun x => O x ∨ B x) := ⟨e.ff, e.fh, fun b u _ q => e.hh b u q, fun b z => z.elim .inl fun z => .inr (e.nb b z), fun b u q => (e.nf b u q).elim .inl fun z => .inr (.inr z)⟩
theorem Ext.stp0 (e : Ext F H F1 H1 B) : Stp F H O F1 H1 O := e.stp.mono fun _ z => .inl z
end
section
def Wr (K : PySem.W.Frag) (mu : Bool) (F H : Hp) (t : T) (x : V) (B : Rg) : Prop := match mu with
  | false => Rp K F H t x B
  | true => ∃ v q l, t = .own [v, .nd true (.pin q) l] ∧ v.flat = true ∧ Rp K F H v x R0 ∧ Rp K F H (.nd true (.pin q) l) (.ref q) B
def tS (K : PySem.W.Frag) (E : L2.St → XK) (ca : Str → Value) (mu : Bool) (m : PSt → Option Out) : TS := fun D σ H => ∃ F τ R, StR K F H σ τ R ∧ match m τ with
  | some (.nx τ') => ∀ F' H' σ' R', Stp F H (tot R) F' H' (tot R') → StR K F' H' σ' τ' R' → D.nx σ' H'
  | some (.bk τ') => ∀ F' H' σ' R', Stp F H (tot R) F' H' (tot R') → StR K F' H' σ' τ' R' → D.bk σ' H'
  | some (.ct τ') => ∀ F' H' σ' R', Stp F H (tot R) F' H' (tot R') → StR K F' H' σ' τ' R' → D.ct σ' H'
  | some (.rt t) => ∀ F' H' x B, Stp F H (tot R) F' H' B → Wr K mu F' H' t x B → D.rt x H'
  | some (.xc c τ') => ∀ F' H' σ' R', Stp F H (tot R) F' H' (tot R') → StR K F' H' σ' τ' R' → E σ' (ca c) none H'
  | none => False
end
def sSeq (m n : PSt → Option Out) : PSt → Option Out := fun τ => match m τ with
  | some (.nx τ') => n τ'
  | r => r
def sNx : PSt → Option Out := fun τ => some (.nx τ)
def sBk : PSt → Option Out := fun τ => some (.bk τ)
def sCt : PSt → Option Out := fun τ => some (.ct τ)
def sExp (m : PSt → Option Rs) : PSt → Option Out := fun τ => match m τ with
  | some (.v _ _) => some (.nx τ)
  | some (.x c) => some (.xc c τ)
  | none => none
def sRet (m : PSt → Option Rs) : PSt → Option Out := fun τ => match m τ with
  | some (.v t _) => some (.rt t)
  | some (.x c) => some (.xc c τ)
  | none => none
def sRetN : PSt → Option Out := fun _ => some (.rt .non)
def sSet (m : PSt → Option Rs) (b : T → PSt → Option PSt) : PSt → Option Out := fun τ => match m τ with
  | some (.v t false) => (match b t.share τ with
    | some τ' => some (.nx τ')
    | none => none)
  | some (.v _ true) => none
  | some (.x c) => some (.xc c τ)
  | none => none
def sOwn (i : Nat) (m : PSt → Option Rs) : PSt → Option Out := fun τ => match m τ with
  | some (.v t false) => if i < τ.length then some (.nx (τ.set i (some t))) else none
  | some (.v _ true) => none
  | some (.x c) => some (.xc c τ)
  | none => none
def sFrz (i : Nat) : PSt → Option Out := fun τ => match τ[i]? with
  | some (some t) => some (.nx (τ.set i (some t.share)))
  | _ => some (.nx τ)
def sIf (c : PSt → Option Rs) (a b : PSt → Option Out) : PSt → Option Out := fun τ => match c τ with
  | some (.v (.bl true) _) => a τ
  | some (.v (.bl false) _) => b τ
  | some (.x c) => some (.xc c τ)
  | _ => none
def forGo (b : T → PSt → Option PSt) (body : PSt → Option Out) : List T → PSt → Option Out
  | [], τ => some (.nx τ)
  | t :: ts, τ => (match b t τ with
    | some τ1 => (match body τ1 with
      | some (.nx τ2) => forGo b body ts τ2
      | some (.ct τ2) => forGo b body ts τ2
      | some (.bk τ2) => some (.nx τ2)
      | r => r)
    | none => none)
def sFor (mi : PSt → Option RsL) (b : T → PSt → Option PSt) (body : PSt → Option Out) : PSt → Option Out := fun τ => match mi τ with
  | some (.v ts _) => forGo b body ts τ
  | some (.x c) => some (.xc c τ)
  | none => none
def whN (c : PSt → Option Rs) (body : PSt → Option Out) : Nat → PSt → Option Out
  | 0, _ => none
  | n + 1, τ => (match c τ with
    | some (.v (.bl true) _) => (match body τ with
      | some (.nx τ2) => whN c body n τ2
      | some (.ct τ2) => whN c body n τ2
      | some (.bk τ2) => some (.nx τ2)
      | r => r)
    | some (.v (.bl false) _) => some (.nx τ)
    | some (.x c) => some (.xc c τ)
    | _ => none)
open Classical in
noncomputable def sWh (c : PSt → Option Rs) (body : PSt → Option Out) : PSt → Option Out := fun τ => if h : ∃ n, (whN c body n τ).isSome = true then whN c body h.choose τ else none
theorem sWh_some {c : PSt → Option Rs} {body : PSt → Option Out} {τ : PSt} {o : Out} (h : sWh c body τ = some o) : ∃ n, whN c body n τ = some o := by
  unfold sWh at h
  split at h
  · exact ⟨_, h⟩
  · cases h
theorem whN_more {c : PSt → Option Rs} {body : PSt → Option Out} : ∀ {n : Nat} {τ : PSt} {o : Out}, whN c body n τ = some o → whN c body (n + 1) τ = some o
  | 0, τ, o, h => by cases h
  | n + 1, τ, o, h => by
    unfold whN at h ⊢
    split at h
    · split at h
      · exact whN_more h
      · exact whN_more h
      · exact h
      · exact h
    · exact h
    · exact h
    · cases h
theorem whN_le {c : PSt → Option Rs} {body : PSt → Option Out} {n m : Nat} {τ : PSt} {o : Out} (h : whN c body n τ = some o) (hm : n ≤ m) : whN c body m τ = some o := by
  induction hm with
  | refl => exact h
  | step _ ih => exact whN_more ih
theorem sWh_of {c : PSt → Option Rs} {body : PSt → Option Out} {n : Nat} {τ : PSt} {o : Out} (h : whN c body n τ = some o) : sWh c body τ = some o := by
  unfold sWh
  have hx : ∃ n, (whN c body n τ).isSome = true := ⟨n, by rw [h]; rfl⟩
  rw [dif_pos hx]
  obtain ⟨o', e⟩ := Option.isSome_iff_exists.mp hx.choose_spec
  have e1 := whN_le e (Nat.le_max_left hx.choose n)
  have e2 := whN_le h (Nat.le_max_right hx.choose n)
  rw [e1] at e2
  rw [e, ← e2]
section
variable {mu : Bool} {X : Cx} {E : L2.St → XK} {ca : Str → Value} {σ : L2.St} {H : Hp} {K : PySem.W.Frag} {m mk mc : PSt → Option Rs} {ms mi : PSt → Option RsL} {b : T → PSt → Option PSt} {u w : PSt → Option Out} {D : Ends} {e c tg iter : Expr} {st : Stmt} {rest body sa sb : List Stmt} {pos pos' : Pos}
theorem PS.weak {t t' : TS} (h : PS X st t) (w : ∀ D σ H, t' D σ H → t D σ H) : PS X st t' := fun pins s σ H D I q => h pins s σ H D I (w D σ H q)
theorem PSs.weak {t t' : TS} (h : PSs X rest t) (w : ∀ D σ H, t' D σ H → t D σ H) : PSs X rest t' := fun pins s σ H D I q => h pins s σ H D I (w D σ H q)
theorem tS_seq (h : tS K E ca mu (sSeq u w) D σ H) : tSeq (tS K E ca mu u) (tS K E ca mu w) D σ H := by
  obtain ⟨F, τ, R, S, q⟩ := h
  refine ⟨F, τ, R, S, ?_⟩
  unfold sSeq at q
  cases hm : u τ with
  | none => simp only [hm] at q
  | some o =>
    simp only [hm] at q
    cases o with
    | nx τ' =>
      intro F1 H1 σ1 R1 s1 S1
      refine ⟨F1, τ', R1, S1, ?_⟩
      simp only at q
      cases hw : w τ' with
      | none => simp only [hw] at q
      | some o =>
        simp only [hw] at q
        cases o with
        | nx _ => exact fun F' H' σ' R' s S => q F' H' σ' R' (s1.trans s) S
        | bk _ => exact fun F' H' σ' R' s S => q F' H' σ' R' (s1.trans s) S
        | ct _ => exact fun F' H' σ' R' s S => q F' H' σ' R' (s1.trans s) S
        | rt _ => exact fun F' H' x B s r => q F' H' x B (s1.trans s) r
        | xc _ _ => exact fun F' H' σ' R' s S => q F' H' σ' R' (s1.trans s) S
    | rt _ => exact q
    | bk _ => exact q
    | ct _ => exact q
    | xc _ _ => exact q
theorem s_nil : PSs X [] (tS X.K E ca mu sNx) := PSs.weak pss_nil fun D σ H h => by
  obtain ⟨F, τ, R, S, q⟩ := h
  exact q F H σ R (Stp.refl S.fh) S
theorem s_cons (h1 : PS X st (tS X.K E ca mu u)) (h2 : PSs X rest (tS X.K E ca mu w)) : PSs X (st :: rest) (tS X.K E ca mu (sSeq u w)) := PSs.weak (pss_cons h1 h2) fun D σ H h => tS_seq h
theorem s_one (h1 : PS X st (tS X.K E ca mu u)) : PSs X [st] (tS X.K E ca mu u) := pss_one h1
theorem s_pass : PS X (.Pass pos) (tS X.K E ca mu sNx) := PS.weak ps_pass fun D σ H h => by
  obtain ⟨F, τ, R, S, q⟩ := h
  exact q F H σ R (Stp.refl S.fh) S
theorem s_break : PS X (.Break pos) (tS X.K E ca mu sBk) := PS.weak ps_break fun D σ H h => by
  obtain ⟨F, τ, R, S, q⟩ := h
  exact q F H σ R (Stp.refl S.fh) S
theorem s_continue : PS X (.Continue pos) (tS X.K E ca mu sCt) := PS.weak ps_continue fun D σ H h => by
  obtain ⟨F, τ, R, S, q⟩ := h
  exact q F H σ R (Stp.refl S.fh) S
theorem tS_frz {i : Nat} (h : tS K E ca mu (sSeq (sFrz i) w) D σ H) : tS K E ca mu w D σ H := by
  obtain ⟨F, τ, R, S, q⟩ := h
  unfold sSeq sFrz at q
  cases ht : τ[i]? with
  | none =>
    rw [ht] at q
    exact ⟨F, τ, R, S, q⟩
  | some ot =>
    rw [ht] at q
    cases ot with
    | none => exact ⟨F, τ, R, S, q⟩
    | some t =>
      simp only at q
      obtain ⟨x, ex, r⟩ := S.rep i t ht
      have hi : i < τ.length := (List.getElem?_eq_some_iff.mp ht).1
      have n : ∀ a, R i a → F a = none := fun a z => (r.dom z).1
      have S0 : StR K (frz F H (R i)) H σ (τ.set i (some t.share)) (fun j => if j = i then R0 else R j) := by
        refine ⟨frz_fh S.fh, by simpa using S.len, fun j t' e => ?_, fun j a z => ?_, fun j k a hjk z1 z2 => ?_⟩
        · by_cases hj : j = i
          · subst hj
            rw [List.getElem?_set_self hi] at e
            cases e
            exact ⟨x, ex, by simpa using r.share (frz_ff n) fun a u z q => by rw [frz_in z]; exact q⟩
          · rw [List.getElem?_set_ne (Ne.symm hj)] at e
            obtain ⟨y, e1, r1⟩ := S.rep j t' e
            refine ⟨y, e1, ?_⟩
            simp only [hj, if_false]
            exact r1.frame (frz_ff n) fun a z => ⟨rfl, by
              rw [frz_out (fun z' => S.dis j i a hj z z')]
              exact (r1.dom z).1⟩
        · by_cases hj : j = i
          · simp only [hj, if_true] at z; exact z.elim
          · simp only [hj, if_false] at z
            obtain ⟨t', e⟩ := S.out j a z
            exact ⟨t', by rw [List.getElem?_set_ne (Ne.symm hj)]; exact e⟩
        · by_cases hj : j = i
          · simp only [hj, if_true] at z1; exact z1.elim
          · by_cases hk : k = i
            · simp only [hk, if_true] at z2; exact z2.elim
            · simp only [hj, if_false] at z1
              simp only [hk, if_false] at z2
              exact S.dis j k a hjk z1 z2
      have st0 : Stp F H (tot R) (frz F H (R i)) H (tot fun j => if j = i then R0 else R j) := by
        refine ⟨frz_ff n, frz_fh S.fh, fun _ _ _ e => e, fun b ⟨j, z⟩ => ?_, fun b u e => ?_⟩
        · by_cases hj : j = i
          · simp only [hj, if_true] at z; exact z.elim
          · simp only [hj, if_false] at z; exact .inl ⟨j, z⟩
        · by_cases hb : R i b
          · exact .inr (.inl ⟨i, hb⟩)
          · rw [frz_out hb] at e; exact .inl e
      refine ⟨_, _, _, S0, ?_⟩
      cases hw : w (τ.set i (some t.share)) with
      | none => simp only [hw] at q
      | some o =>
        simp only [hw] at q
        cases o with
        | nx _ => exact fun F' H' σ' R' s S => q F' H' σ' R' (st0.trans s) S
        | bk _ => exact fun F' H' σ' R' s S => q F' H' σ' R' (st0.trans s) S
        | ct _ => exact fun F' H' σ' R' s S => q F' H' σ' R' (st0.trans s) S
        | rt _ => exact fun F' H' x B s r => q F' H' x B (st0.trans s) r
        | xc _ _ => exact fun F' H' σ' R' s S => q F' H' σ' R' (st0.trans s) S
theorem s_frz {i : Nat} (h : PSs X rest (tS X.K E ca mu w)) : PSs X rest (tS X.K E ca mu (sSeq (sFrz i) w)) := PSs.weak h fun D σ H h => tS_frz h
theorem s_exp (he : PE X e (tM X.K E ca m)) (hs : swapsWith e none pos.line X.env = pure false) : PS X (.Expr e pos) (tS X.K E ca mu (sExp m)) := by
  refine PS.weak (ps_expr he hs) fun D σ H h => ?_
  obtain ⟨F, τ, R, S, q⟩ := h
  refine ⟨F, τ, R, S, ?_⟩
  unfold sExp at q
  cases hm : m τ with
  | none => simp only [hm] at q
  | some r =>
    simp only [hm] at q
    cases r with
    | x c => exact fun F' H' e => q F' H' σ R e.stp0 (S.ext e)
    | v t bb => exact fun F' H' x B e g => q F' H' σ R e.stp0 (S.ext e)
theorem s_ret (he : PE X e (tM X.K E ca m)) : PS X (.Return (some e) pos) (tS X.K E ca false (sRet m)) := by
  refine PS.weak (ps_ret he) fun D σ H h => ?_
  obtain ⟨F, τ, R, S, q⟩ := h
  refine ⟨F, τ, R, S, ?_⟩
  unfold sRet at q
  cases hm : m τ with
  | none => simp only [hm] at q
  | some r =>
    simp only [hm] at q
    cases r with
    | x c => exact fun F' H' e => q F' H' σ R e.stp0 (S.ext e)
    | v t bb =>
      intro F' H' x B e g
      cases bb with
      | false => exact q F' H' x B (e.stp.mono fun _ z => .inr z) g
      | true =>
        obtain ⟨_, A, hA, r⟩ := g
        exact q F' H' x A (e.stp.mono fun a z => .inl (hA a z)) r
theorem s_retN : PS X (.Return none pos) (tS X.K E ca false sRetN) := PS.weak ps_retN fun D σ H h => by
  obtain ⟨F, τ, R, S, q⟩ := h
  exact q F H .non R0 ((Stp.refl S.fh).mono fun _ z => z.elim) .non
theorem s_if (hc : PT X c (tMB X.K E ca mc)) (ha : PSs X sa (tS X.K E ca mu u)) (hb : PSs X sb (tS X.K E ca mu w)) : PS X (.If c sa sb pos) (tS X.K E ca mu (sIf mc u w)) := by
  refine PS.weak (ps_if hc ha hb) fun D σ H h => ?_
  obtain ⟨F, τ, R, S, q⟩ := h
  refine ⟨F, τ, R, S, ?_⟩
  unfold sIf at q
  cases hm : mc τ with
  | none => simp only [hm] at q
  | some r =>
    simp only [hm] at q
    cases r with
    | x c => exact fun F' H' e => q F' H' σ R e.stp0 (S.ext e)
    | v t bb =>
      cases t with
      | bl k =>
        intro F1 H1 e1
        have S1 := S.ext e1
        have key : ∀ {mm : PSt → Option Out}, (match mm τ with
            | some (.nx τ') => ∀ F' H' σ' R', Stp F H (tot R) F' H' (tot R') → StR X.K F' H' σ' τ' R' → D.nx σ' H'
            | some (.bk τ') => ∀ F' H' σ' R', Stp F H (tot R) F' H' (tot R') → StR X.K F' H' σ' τ' R' → D.bk σ' H'
            | some (.ct τ') => ∀ F' H' σ' R', Stp F H (tot R) F' H' (tot R') → StR X.K F' H' σ' τ' R' → D.ct σ' H'
            | some (.rt t) => ∀ F' H' x B, Stp F H (tot R) F' H' B → Wr X.K mu F' H' t x B → D.rt x H'
            | some (.xc c τ') => ∀ F' H' σ' R', Stp F H (tot R) F' H' (tot R') → StR X.K F' H' σ' τ' R' → E σ' (ca c) none H'
            | none => False) → tS X.K E ca mu mm D σ H1 := fun {mm} q => by
          refine ⟨F1, τ, R, S1, ?_⟩
          cases hr : mm τ with
          | none => simp only [hr] at q
          | some o =>
            simp only [hr] at q
            cases o with
            | nx _ => exact fun F' H' σ' R' s S => q F' H' σ' R' (e1.stp0.trans s) S
            | bk _ => exact fun F' H' σ' R' s S => q F' H' σ' R' (e1.stp0.trans s) S
            | ct _ => exact fun F' H' σ' R' s S => q F' H' σ' R' (e1.stp0.trans s) S
            | rt _ => exact fun F' H' x B s r => q F' H' x B (e1.stp0.trans s) r
            | xc _ _ => exact fun F' H' σ' R' s S => q F' H' σ' R' (e1.stp0.trans s) S
        cases k with
        | true => exact iteT (key q)
        | false => exact iteF (key q)
      | _ => exact q.elim
theorem tS_set {g : TG} (hg : ∀ v σ H Q, tGM K b v σ H Q → g v σ H Q) (h : tS K E ca mu (sSet m b) D σ H) : tAsg (tM K E ca m) g D σ H := by
  obtain ⟨F, τ, R, S, q⟩ := h
  refine ⟨F, τ, R, S, ?_⟩
  unfold sSet at q
  cases hm : m τ with
  | none => simp only [hm] at q
  | some r =>
    simp only [hm] at q
    cases r with
    | x c => exact fun F' H' e => q F' H' σ R e.stp0 (S.ext e)
    | v t bb =>
      cases bb with
      | true => exact q.elim
      | false =>
        intro F1 H1 x B e1 g1
        obtain ⟨F2, e2, _, r2⟩ := Got.frz (b := false) S e1 g1
        simp only at q
        cases hb : b t.share τ with
        | none => simp only [hb] at q
        | some τ' =>
          simp only [hb] at q
          refine hg _ _ _ _ ⟨F2, τ, R, t.share, τ', S.ext e2, (show Rp K F2 F2 t.share x R0 from r2).any, hb, fun σ' R' S' hR => ?_⟩
          exact q F2 H1 σ' R' (e2.stp0.mono fun a ⟨i, z⟩ => ⟨i, hR i a z⟩) S'
theorem gName_of {i : Nat} {v : V} {Q : L2.St → Hp → Prop} (h : tGM K (bNm i) v σ H Q) : gName i v σ H Q := by
  obtain ⟨F, τ, R, t, τ', S, r, e, q⟩ := h
  unfold bNm at e
  split at e
  · cases e
    rename_i hl
    refine q _ _ (S.set r (fun _ _ _ _ z => z.elim) hl) fun j a z => ?_
    by_cases hj : j = i
    · simp only [hj, if_true] at z; exact z.elim
    · simpa [hj] using z
  · cases e
theorem s_setN {i : Nat} {x : Str} (hN : X.N.Nodup) (hi : X.N[i]? = some x) (hx : Loc X.env.scope x) (he : PE X e (tM X.K E ca m)) (hs : swapsWith e (some (.Name x pos')) pos.line X.env = pure false) (hf : X.fn x = true ∨ X.env.scope.names.lookup x = some .local) :
    PS X (.Assign [.Name x pos'] e pos) (tS X.K E ca mu (sSet m (bNm i))) := PS.weak (ps_set hN hi hx he hs hf) fun D σ H h => tS_set (fun _ _ _ _ z => gName_of z) h
theorem s_setG (he : PE X e (tM X.K E ca m)) (hg : PG X tg (tGM X.K b)) (hs : swapsWithSole [tg] e pos.line X.env = pure false) (hw : swappedStores [tg] e X.env = pure none) (h1 : (assignEach [tg] X.env).map (·.2) = [assign tg X.env]) :
    PS X (.Assign [tg] e pos) (tS X.K E ca mu (sSet m b)) := PS.weak (ps_asg he hg hs hw h1) fun D σ H h => tS_set (fun _ _ _ _ z => z) h
theorem tS_own {i : Nat} (h : tS K E ca mu (sOwn i m) D σ H) : tAsg (tM K E ca m) (gName i) D σ H := by
  obtain ⟨F, τ, R, S, q⟩ := h
  refine ⟨F, τ, R, S, ?_⟩
  unfold sOwn at q
  cases hm : m τ with
  | none => simp only [hm] at q
  | some r =>
    simp only [hm] at q
    cases r with
    | x c => exact fun F' H' e => q F' H' σ R e.stp0 (S.ext e)
    | v t bb =>
      cases bb with
      | true => exact q.elim
      | false =>
        intro F1 H1 x B e1 g1
        have g1' : Rp K F1 H1 t x B := g1
        have S1 := S.ext e1
        by_cases hl : i < τ.length
        · simp only [hl, if_true] at q
          refine q F1 H1 _ _ (e1.stp.mono ?_) (S1.set g1' (fun j a _ z1 z2 => S.apart e1 z2 j z1) hl)
          rintro a ⟨j, z⟩
          by_cases hj : j = i
          · simp only [hj, if_true] at z; exact .inr z
          · simp only [hj, if_false] at z; exact .inl ⟨j, z⟩
        · simp only [hl, if_false] at q
theorem s_ownN {i : Nat} {x : Str} (hN : X.N.Nodup) (hi : X.N[i]? = some x) (hx : Loc X.env.scope x) (he : PE X e (tM X.K E ca m)) (hs : swapsWith e (some (.Name x pos')) pos.line X.env = pure false) (hf : X.fn x = true ∨ X.env.scope.names.lookup x = some .local) :
    PS X (.Assign [.Name x pos'] e pos) (tS X.K E ca mu (sOwn i m)) := PS.weak (ps_set hN hi hx he hs hf) fun D σ H h => tS_own h
theorem s_for (hp : PassesOwn (model X.prog X.w) X.A X.env X.xe) (hc : X.calm = true) (hi : PI X tg iter (tI X.K E ca mi)) (hg : PG X tg (tGM X.K b)) (hb : PSs X body (tS X.K E ca mu u)) (hs : ∀ x, foldedSetIterable iter X.env x = pure x) :
    PS X (.For tg iter body [] pos) (tS X.K E ca mu (sFor mi b u)) := by
  refine PS.weak (ps_for hp hc hi hg hb hs) fun D σ H h => ?_
  obtain ⟨F, τ, R, S, q⟩ := h
  refine ⟨F, τ, R, S, ?_⟩
  unfold sFor at q
  cases hm : mi τ with
  | none => simp only [hm] at q
  | some r =>
    simp only [hm] at q
    cases r with
    | x c => exact fun F' H' e => q F' H' σ R e.stp0 (S.ext e)
    | v ts bb =>
      intro F1 H1 J e1 its
      simp only at q
      have S1 := S.ext e1
      cases hg : forGo b u ts τ with
      | none => simp only [hg] at q
      | some out =>
        simp only [hg] at q
        refine ⟨fun i mm σ' H' => mm = ts.length - i ∧ i ≤ ts.length ∧ ∃ F' τ' R', Stp F H (tot R) F' H' (tot R') ∧ Same F1 F' ∧ StR X.K F' H' σ' τ' R' ∧ forGo b u (ts.drop i) τ' = some out, ⟨ts.length, by simp, Nat.zero_le _, F1, τ, R, e1.stp0, .refl _, S1, by simpa using hg⟩, ?_⟩
        rintro i mm σ' H' ⟨rfl, hle, F', τ', R', st, sf, S', hgo⟩
        obtain ⟨i1, i2⟩ := its i F' H' sf S'.fh
        by_cases hlt : i < ts.length
        · refine .inr ⟨(i1 _ (List.getElem?_eq_getElem hlt)).1, fun σ2 H2 => i + 1 ≤ ts.length ∧ ∃ F2 τ2 R2, Stp F H (tot R) F2 H2 (tot R2) ∧ Same F1 F2 ∧ StR X.K F2 H2 σ2 τ2 R2 ∧ forGo b u (ts.drop (i + 1)) τ2 = some out, fun σ2 H2 n2 => ⟨ts.length - (i + 1), by omega, rfl, n2⟩, fun x H'' y => ?_⟩
          obtain ⟨F'', e3, rx⟩ := (i1 _ (List.getElem?_eq_getElem hlt)).2 x H'' y
          have S3 := S'.ext e3
          rw [List.drop_eq_getElem_cons hlt] at hgo
          unfold forGo at hgo
          cases hb2 : b ts[i] τ' with
          | none => simp only [hb2] at hgo; cases hgo
          | some τ1 =>
            simp only [hb2] at hgo
            refine ⟨F'', τ', R', ts[i], τ1, S3, rx, hb2, fun σ3 R3 S4 hR3 => ?_⟩
            have st3 : Stp F H (tot R) F'' H'' (tot R3) := (st.trans e3.stp0).mono fun a ⟨j, z⟩ => ⟨j, hR3 j a z⟩
            refine ⟨F'', τ1, R3, S4, ?_⟩
            cases hu : u τ1 with
            | none => simp only [hu] at hgo; cases hgo
            | some o =>
              simp only [hu] at hgo
              cases o with
              | nx τ2 => exact fun F4 H4 σ4 R4 s4 S5 => ⟨hlt, F4, τ2, R4, st3.trans s4, (sf.trans e3.ff).trans s4.ff, S5, hgo⟩
              | ct τ2 => exact fun F4 H4 σ4 R4 s4 S5 => ⟨hlt, F4, τ2, R4, st3.trans s4, (sf.trans e3.ff).trans s4.ff, S5, hgo⟩
              | bk τ2 =>
                cases hgo
                exact fun F4 H4 σ4 R4 s4 S5 => q F4 H4 σ4 R4 (st3.trans s4) S5
              | rt v =>
                cases hgo
                exact fun F4 H4 x B s4 r => q F4 H4 x B (st3.trans s4) r
              | xc cc τ2 =>
                cases hgo
                exact fun F4 H4 σ4 R4 s4 S5 => q F4 H4 σ4 R4 (st3.trans s4) S5
        · have hi' : i = ts.length := by omega
          subst hi'
          refine .inl ⟨i2 rfl, ?_⟩
          rw [List.drop_length] at hgo
          unfold forGo at hgo
          cases hgo
          exact q F' H' σ' R' st S'
theorem s_wh (hp : PassesOwn (model X.prog X.w) X.A X.env X.xe) (hc : PT X c (tMB X.K E ca mc)) (hb : PSs X body (tS X.K E ca mu u)) : PS X (.While c body [] pos) (tS X.K E ca mu (sWh mc u)) := by
  refine PS.weak (ps_while hp hc hb) fun D σ H h => ?_
  obtain ⟨F, τ, R, S, q⟩ := h
  cases hw : sWh mc u τ with
  | none => simp only [hw] at q
  | some out =>
    simp only [hw] at q
    obtain ⟨n, hn⟩ := sWh_some hw
    refine ⟨fun mm σ' H' => ∃ F' τ' R', Stp F H (tot R) F' H' (tot R') ∧ StR X.K F' H' σ' τ' R' ∧ whN mc u mm τ' = some out, ⟨n, F, τ, R, Stp.refl S.fh, S, hn⟩, ?_⟩
    rintro mm σ' H' ⟨F', τ', R', st, S', hgo⟩
    cases mm with
    | zero => cases hgo
    | succ mm =>
      refine ⟨F', τ', R', S', ?_⟩
      unfold whN at hgo
      cases hm : mc τ' with
      | none => simp only [hm] at hgo; cases hgo
      | some r =>
        simp only [hm] at hgo
        cases r with
        | x cc =>
          cases hgo
          exact fun F2 H2 e2 => q F2 H2 σ' R' (st.trans e2.stp0) (S'.ext e2)
        | v t bb =>
          cases t with
          | bl k =>
            intro F2 H2 e2
            have S2 := S'.ext e2
            have st2 : Stp F H (tot R) F2 H2 (tot R') := st.trans e2.stp0
            cases k with
            | false =>
              cases hgo
              exact iteF (q F2 H2 σ' R' st2 S2)
            | true =>
              simp only at hgo
              refine iteT ⟨fun σ2 H2 => ∃ F2 τ2 R2, Stp F H (tot R) F2 H2 (tot R2) ∧ StR X.K F2 H2 σ2 τ2 R2 ∧ whN mc u mm τ2 = some out, fun σ3 H3 n3 => ⟨mm, Nat.lt_succ_self _, n3⟩, F2, τ', R', S2, ?_⟩
              cases hu : u τ' with
              | none => simp only [hu] at hgo; cases hgo
              | some o =>
                simp only [hu] at hgo
                cases o with
                | nx τ2 => exact fun F4 H4 σ4 R4 s4 S5 => ⟨F4, τ2, R4, st2.trans s4, S5, hgo⟩
                | ct τ2 => exact fun F4 H4 σ4 R4 s4 S5 => ⟨F4, τ2, R4, st2.trans s4, S5, hgo⟩
                | bk τ2 =>
                  cases hgo
                  exact fun F4 H4 σ4 R4 s4 S5 => q F4 H4 σ4 R4 (st2.trans s4) S5
                | rt v =>
                  cases hgo
                  exact fun F4 H4 x B s4 r => q F4 H4 x B (st2.trans s4) r
                | xc cc τ2 =>
                  cases hgo
                  exact fun F4 H4 σ4 R4 s4 S5 => q F4 H4 σ4 R4 (st2.trans s4) S5
          | _ => cases hgo
end
end Pu
set_option Elab.async false
set_option linter.all false
set_option maxRecDepth 100000
namespace Pu
open PySem PySem.Spec PyProof.Rows L2 Zw Zx
section
variable {K : PySem.W.Frag} {F H : Hp} {l : List T} {xs : List V} {Rr : Nat → Rg} {p : Addr} {o : HO}
theorem Rp.own_inv {x : V} {A : Rg} {k : Kd} (h : Rp K F H (.nd true k l) x A) : ∃ p xs Rr, x = .ref p ∧ A = (fun a => a = p ∨ ∃ j, Rr j a) ∧ F p = none ∧ H p = some (.lst xs) ∧ RpO K F H l xs Rr ∧ (∀ j, ¬ Rr j p) ∧ OwnK k p := by
  cases h with
  | own hk R f h e c d dp o => exact ⟨_, _, R, rfl, rfl, f, h, ⟨e, c, d, o⟩, dp, hk⟩
theorem own_mk {k : Kd} (hk : OwnK k p) (r : RpO K F H l xs Rr) (f : F p = none) (h : H p = some (.lst xs)) (dp : ∀ j, ¬ Rr j p) : Rp K F H (.nd true k l) (.ref p) (fun a => a = p ∨ ∃ j, Rr j a) := .own hk Rr f h r.len r.rep r.dis dp r.out
theorem RpO.upd (r : RpO K F H l xs Rr) (dp : ∀ j, ¬ Rr j p) : RpO K F (L2.upd H p o) l xs Rr := ⟨r.len, fun i t x h1 h2 => (r.rep i t x h1 h2).frame (.refl _) fun a z => ⟨upd_ne (fun e => dp i (e ▸ z)), (r.dom z).1⟩, r.dis, r.out⟩
theorem Rp.upd {t : T} {x : V} {A : Rg} (r : Rp K F H t x A) (dp : ¬ A p) : Rp K F (L2.upd H p o) t x A := r.frame (.refl _) fun a z => ⟨upd_ne (fun e => dp (e ▸ z)), (r.dom z).1⟩
theorem RpO.set (r : RpO K F H l xs Rr) {j0 : Nat} {t : T} {y : V} {B : Rg} (hj : j0 < l.length) (rt : Rp K F H t y B) (d : ∀ j a, j ≠ j0 → Rr j a → ¬ B a) : RpO K F H (l.set j0 t) (xs.set j0 y) (fun j => if j = j0 then B else Rr j) := by
  have hl := r.len
  refine ⟨by simp [hl], fun i t' x' h1 h2 => ?_, fun i k a hik z1 z2 => ?_, fun i a z => ?_⟩
  · by_cases hi : i = j0
    · subst hi
      rw [List.getElem?_set_self hj] at h1
      rw [List.getElem?_set_self (by omega)] at h2
      cases h1; cases h2
      simpa using rt
    · rw [List.getElem?_set_ne (Ne.symm hi)] at h1 h2
      simpa [hi] using r.rep i t' x' h1 h2
  · by_cases hi : i = j0
    · simp only [hi, if_true] at z1
      have hk : ¬ k = j0 := fun z => hik (hi.trans z.symm)
      simp only [hk, if_false] at z2
      exact d k a hk z2 z1
    · simp only [hi, if_false] at z1
      by_cases hk : k = j0
      · simp only [hk, if_true] at z2
        exact d i a hi z1 z2
      · simp only [hk, if_false] at z2
        exact r.dis i k a hik z1 z2
  · by_cases hi : i = j0
    · simp [hi]; omega
    · simp only [hi, if_false] at z
      simpa using r.out i a z
variable {σ : L2.St} {τ : PSt} {R : Nat → Rg}
theorem StR.upd (S : StR K F H σ τ R) {i : Nat} {t t' : T} {x : V} {A' B : Rg} (ht : τ[i]? = some (some t)) (hx : σ[i]? = some (some x)) (hp : R i p) (r' : Rp K F (L2.upd H p o) t' x A') (hA : ∀ a, A' a → R i a ∨ B a) (hB : ∀ j a, R j a → ¬ B a) :
    StR K F (L2.upd H p o) σ (τ.set i (some t')) (fun j => if j = i then A' else R j) ∧ Stp F H (fun a => Pu.tot R a ∨ B a) F (L2.upd H p o) (Pu.tot fun j => if j = i then A' else R j) := by
  have fp : F p = none := (S.dom hp).1
  have hi : i < τ.length := (List.getElem?_eq_some_iff.mp ht).1
  have fh' : Same F (L2.upd H p o) := fun b u e => by
    rw [upd_ne (fun z => by rw [z, fp] at e; cases e)]
    exact S.fh b u e
  refine ⟨⟨fh', by simpa using S.len, fun j t1 e => ?_, fun j a z => ?_, fun j k a hjk z1 z2 => ?_⟩, ⟨.refl _, fh', fun b u n e => ?_, fun b ⟨j, z⟩ => ?_, fun b u e => .inl e⟩⟩
  · by_cases hj : j = i
    · subst hj
      rw [List.getElem?_set_self hi] at e
      cases e
      exact ⟨x, hx, by simpa using r'⟩
    · rw [List.getElem?_set_ne (Ne.symm hj)] at e
      obtain ⟨y, e1, r1⟩ := S.rep j t1 e
      exact ⟨y, e1, by simpa [hj] using r1.upd (o := o) (fun z => S.dis j i p hj z hp)⟩
  · by_cases hj : j = i
    · subst hj
      exact ⟨t', List.getElem?_set_self hi⟩
    · simp only [hj, if_false] at z
      obtain ⟨t1, e⟩ := S.out j a z
      exact ⟨t1, by rw [List.getElem?_set_ne (Ne.symm hj)]; exact e⟩
  · by_cases hj : j = i
    · simp only [hj, if_true] at z1
      have hk : ¬ k = i := fun z => hjk (hj.trans z.symm)
      simp only [hk, if_false] at z2
      rcases hA a z1 with w | w
      · exact S.dis i k a (Ne.symm hk) w z2
      · exact hB k a z2 w
    · simp only [hj, if_false] at z1
      by_cases hk : k = i
      · simp only [hk, if_true] at z2
        rcases hA a z2 with w | w
        · exact S.dis i j a (Ne.symm hj) w z1
        · exact hB j a z1 w
      · simp only [hk, if_false] at z2
        exact S.dis j k a hjk z1 z2
  · rw [upd_ne (fun z => n (.inl (by rw [z]; exact ⟨i, hp⟩)))]
    exact e
  · by_cases hj : j = i
    · simp only [hj, if_true] at z
      rcases hA b z with w | w
      · exact .inl (.inl ⟨i, w⟩)
      · exact .inl (.inr w)
    · simp only [hj, if_false] at z
      exact .inl (.inl ⟨j, z⟩)
end
def ownAt (τ : PSt) (i : Nat) : Option (Kd × List T) := match τ[i]? with
  | some (some (.nd true k l)) => some (k, l)
  | _ => none
theorem ownAt_some {τ : PSt} {i : Nat} {k : Kd} {l : List T} (h : ownAt τ i = some (k, l)) : τ[i]? = some (some (.nd true k l)) := by
  unfold ownAt at h
  split at h
  · rename_i k' l' e
    cases h
    exact e
  · cases h
def sApp (i : Nat) (m : PSt → Option Rs) : PSt → Option Out := fun τ => match ownAt τ i with
  | some (kd, l) => (match m τ with
    | some (.v t false) => if l.length < lim then some (.nx (τ.set i (some (.nd true kd (l ++ [t]))))) else none
    | some (.v _ true) => none
    | some (.x c) => some (.xc c τ)
    | none => none)
  | none => none
def sSto (i : Nat) (mk m : PSt → Option Rs) : PSt → Option Out := fun τ => match m τ with
  | some (.v t false) => (match ownAt τ i with
    | some (kd, l) => (match mk τ with
      | some (.v (.int k) _) => (match ixN l.length k with
        | some j => some (.nx (τ.set i (some (.nd true kd (l.set j t)))))
        | none => none)
      | some (.v _ _) => none
      | some (.x c) => some (.xc c τ)
      | none => none)
    | none => none)
  | some (.v _ true) => none
  | some (.x c) => some (.xc c τ)
  | none => none
def ownKid : Option T → Option (List T)
  | some (.nd true .lst l) => some l
  | _ => none
section
variable {mu : Bool} {X : Cx} {E : L2.St → XK} {ca : Str → Value} {σ : L2.St} {H : Hp} {K : PySem.W.Frag} {m mk mn : PSt → Option Rs} {D : Ends} {e k n : Expr} {pos apos cpos p1 pos2 pos3 : Pos} {i : Nat} {x : Str}
theorem got_int {F : Hp} {R : Nat → Rg} {j : Int} {b : Bool} {y : V} {B : Rg} (g : Got K F H R (.int j) b y B) : y = .int j := by
  cases b with
  | true => obtain ⟨_, A, _, r⟩ := g; exact r.int_inv
  | false => exact (show Rp K F H _ _ _ from g).int_inv
theorem snoc_tot' {l : List T} {Rr : Nat → Rg} {B : Rg} {a : Addr} (h : ∃ j, (fun j => if j = l.length then B else Rr j) j a) : (∃ j, Rr j a) ∨ B a := snoc_tot (l := l) h
theorem set_tot {j0 : Nat} {Rr : Nat → Rg} {B : Rg} {a : Addr} (h : ∃ j, (fun j => if j = j0 then B else Rr j) j a) : (∃ j, Rr j a) ∨ B a := by
  obtain ⟨j, z⟩ := h
  by_cases hj : j = j0
  · simp only [hj, if_true] at z; exact .inr z
  · simp only [hj, if_false] at z; exact .inl ⟨j, z⟩
theorem s_app (hN : X.N[i]? = some x) (hv : Vis X.env.scope x) (hd : (x == ("__debug__" : Str)) = false) (hcd : (x == ("__classdict__" : Str)) = false) (he : PE X e (tM X.K E ca m)) (hs : starEach [e] X.env = [(false, eval e X.env)]) (hline : (apos.endLine == cpos.line) = true) :
    PS X (.Expr (.Call (.Attribute (.Name x p1) "append" apos) [e] [] cpos) pos) (tS X.K E ca mu (sApp i m)) := by
  refine PS.weak (ps_expr (pe_bm PySem.F.plainAttrs_list PySem.F.slot_list_append PySem.F.type_list_append mt_append (pe_var hN hv hd hcd) (pa_cons he pa_nil hs) rfl (by rw [hs]; rfl) hline hs rfl) rfl) fun D σ H h => ?_
  obtain ⟨F, τ, R, S, q⟩ := h
  unfold sApp at q
  cases ho : ownAt τ i with
  | none => simp only [ho] at q
  | some kl =>
    obtain ⟨kd, l⟩ := kl
    simp only [ho] at q
    have ht := ownAt_some ho
    obtain ⟨y, ey, ry⟩ := S.rep i _ ht
    obtain ⟨p, xs, Rr, rfl, hA, fp, hp, ro, dp, hOw⟩ := ry.own_inv
    refine ⟨_, ey, .inl ⟨rfl, xs, SqL.of hp⟩, F, τ, R, S, ?_⟩
    cases hm : m τ with
    | none => simp only [hm] at q
    | some r =>
      simp only [hm] at q
      cases r with
      | x c => exact fun F' H' e => q F' H' σ R e.stp0 (S.ext e)
      | v t bb =>
        cases bb with
        | true => exact q.elim
        | false =>
          intro F1 H1 y B e1 g1
          have g1' : Rp X.K F1 H1 t y B := g1
          by_cases hz : l.length < lim
          · simp only [hz, if_true] at q
            have S1 := S.ext e1
            have ro1 := ro.ext e1
            have hp1 := e1.hh _ _ hp
            have pB : ¬ B p := fun z => by rw [e1.nb p z] at hp; cases hp
            have fp1 : F1 p = none := (ry.ext e1 |>.dom (by rw [hA]; exact .inl rfl)).1
            refine ⟨p, xs, y, rfl, rfl, hp1, by rw [← ro.len, ← lim_eq]; exact hz, ?_⟩
            have ro2 : RpO X.K F1 (upd H1 p (.lst (xs ++ [y]))) (l ++ [t]) (xs ++ [y]) _ := (ro1.upd dp).snoc (g1'.upd pB) fun j a z1 z2 => ro.apart e1 z2 j z1
            have dp2 : ∀ j, ¬ (if j = l.length then B else Rr j) p := fun j z => by
              by_cases hj : j = l.length
              · simp only [hj, if_true] at z; exact pB z
              · simp only [hj, if_false] at z; exact dp j z
            have r2 := own_mk hOw ro2 fp1 upd_same dp2
            obtain ⟨S3, st3⟩ := S1.upd ht ey (by rw [hA]; exact .inl rfl) r2 (B := B) (fun a z => by
              rw [hA]
              rcases z with z | z
              · exact .inl (.inl z)
              · rcases snoc_tot' z with w | w
                · exact .inl (.inr w)
                · exact .inr w) (fun j a z1 z2 => S.apart e1 z2 j z1)
            exact q F1 _ σ _ (e1.stp.trans st3) S3
          · simp only [hz, if_false] at q
theorem s_sto (hN : X.N[i]? = some x) (hv : Vis X.env.scope x) (hd : (x == ("__debug__" : Str)) = false) (hcd : (x == ("__classdict__" : Str)) = false) (he : PE X e (tM X.K E ca m)) (hk : PE X k (tM X.K E ca mk)) (hs : swapsWithSole [.Subscript (.Name x p1) k pos2] e pos.line X.env = pure false) (hw : swappedStores [.Subscript (.Name x p1) k pos2] e X.env = pure none)
    (ha : ∀ v, assign (.Subscript (.Name x p1) k pos2) X.env v = (do
      let ov ← holding [v] (eval (.Name x p1) X.env)
      let iv ← holding [v, ov] (eval k X.env)
      standAt pos2
      holding [v, ov, iv] (setItem ov iv v)
      release [v, ov, iv] [])) :
    PS X (.Assign [.Subscript (.Name x p1) k pos2] e pos) (tS X.K E ca mu (sSto i mk m)) := by
  refine PS.weak (ps_asg he (pg_sub (pe_var hN hv hd hcd) hk set_list ha) hs hw rfl) fun D σ H h => ?_
  obtain ⟨F, τ, R, S, q⟩ := h
  refine ⟨F, τ, R, S, ?_⟩
  unfold sSto at q
  cases hm : m τ with
  | none => simp only [hm] at q
  | some r =>
    simp only [hm] at q
    cases r with
    | x c => exact fun F' H' e => q F' H' σ R e.stp0 (S.ext e)
    | v t bb =>
      cases bb with
      | true => exact q.elim
      | false =>
        intro F1 H1 y B e1 g1
        have g1' : Rp X.K F1 H1 t y B := g1
        simp only at q
        cases ho : ownAt τ i with
        | none => simp only [ho] at q
        | some kl =>
          obtain ⟨kd, l⟩ := kl
          simp only [ho] at q
          have S1 := S.ext e1
          have ht := ownAt_some ho
          obtain ⟨y2, ey, ry⟩ := S1.rep i _ ht
          refine ⟨y2, ey, F1, τ, R, S1, ?_⟩
          cases hkk : mk τ with
          | none => simp only [hkk] at q
          | some r =>
            simp only [hkk] at q
            cases r with
            | x c => exact fun F' H' e => q F' H' σ R ((e1.stp0).trans e.stp0) (S1.ext e)
            | v tk bk =>
              cases tk with
              | int kk =>
                simp only at q
                cases hj : ixN l.length kk with
                | none => simp only [hj] at q
                | some j =>
                  simp only [hj] at q
                  intro F2 H2 z C e2 g2
                  have hz := got_int g2
                  subst hz
                  have S2 := S1.ext e2
                  have ry2 := ry.ext e2
                  obtain ⟨p, xs, Rr, rfl, hA, fp, hp, ro, dp, hOw⟩ := ry2.own_inv
                  have hjl := (ixN_seq hj).2.1
                  have g2' := g1'.ext e2
                  have pB : ¬ B p := fun z => by
                    have : R i p := by rw [hA]; exact .inl rfl
                    exact S.apart e1 z i this
                  refine ⟨p, xs, kk, j, rfl, rfl, hp, by rw [← ro.len]; exact hj, ?_⟩
                  have ro2 : RpO X.K F2 (upd H2 p (.lst (xs.set j y))) (l.set j t) (xs.set j y) _ := (ro.upd dp).set hjl (g2'.upd pB) fun j' a _ z1 z2 => S.apart e1 z2 i (by rw [hA]; exact .inr ⟨j', z1⟩)
                  have dp2 : ∀ j', ¬ (if j' = j then B else Rr j') p := fun j' z => by
                    by_cases hj' : j' = j
                    · simp only [hj', if_true] at z; exact pB z
                    · simp only [hj', if_false] at z; exact dp j' z
                  have r3 := own_mk hOw ro2 fp upd_same dp2
                  obtain ⟨S3, st3⟩ := S2.upd ht ey (by rw [hA]; exact .inl rfl) r3 (B := B) (fun a z => by
                    rw [hA]
                    rcases z with z | z
                    · exact .inl (.inl z)
                    · rcases set_tot z with w | w
                      · exact .inl (.inr w)
                      · exact .inr w) (fun j a z1 z2 => S.apart e1 z2 j z1)
                  exact q F2 _ σ _ ((e1.stp.trans e2.stp0).trans st3) S3
              | _ => exact q.elim
def sPar (i j : Nat) (ms : PSt → Option RsL) : PSt → Option Out := fun τ => match ms τ with
  | some (.v ts false) => (match ts with
    | [t, u] => if i < τ.length ∧ j < τ.length then some (.nx ((τ.set i (some t)).set j (some u))) else none
    | _ => none)
  | some (.v _ true) => none
  | some (.x c) => some (.xc c τ)
  | none => none
theorem s_par {i j : Nat} {x y : Str} {a b : Expr} {ms : PSt → Option RsL} {px py pt : Pos} {kt k2 pt2} (hc : X.calm = true) (hN : X.N.Nodup) (hi : X.N[i]? = some x) (hj : X.N[j]? = some y) (hij : i ≠ j)
    (hx : X.env.scope.names.lookup x = some .local) (hy : X.env.scope.names.lookup y = some .local) (ha : PA X [a, b] (tMs X.K E ca ms))
    (hw : swappedStores [.Tuple [.Name x px, .Name y py] kt pt] (.Tuple [a, b] k2 pt2) X.env = pure (some [x, y]))
    (hs : swapsWithSole [.Tuple [.Name x px, .Name y py] kt pt] (.Tuple [a, b] k2 pt2) pos.line X.env = pure false) :
    PS X (.Assign [.Tuple [.Name x px, .Name y py] kt pt] (.Tuple [a, b] k2 pt2) pos) (tS X.K E ca mu (sPar i j ms)) := by
  refine PS.weak (ps_par hc hN hi hj hij hx hy ha hw hs) fun D σ H h => ?_
  obtain ⟨F, τ, R, S, q⟩ := h
  refine ⟨F, τ, R, S, ?_⟩
  unfold sPar at q
  cases hm : ms τ with
  | none => simp only [hm] at q
  | some r =>
    simp only [hm] at q
    cases r with
    | x c => exact fun F' H' e => q F' H' σ R e.stp0 (S.ext e)
    | v ts bb =>
      cases bb with
      | true => exact q.elim
      | false =>
        intro F1 H1 xs e1 rs
        simp only at q
        match ts, q, rs with
        | [t, u], q, rs =>
          simp only at q
          by_cases hl : i < τ.length ∧ j < τ.length
          · simp only [hl, if_true] at q
            obtain ⟨x1, xs1, rfl, r1, rs1⟩ := rs.inv
            obtain ⟨x2, xs2, rfl, r2, rs2⟩ := rs1.inv
            cases rs2.inv0
            have S1 := S.ext e1
            have S2 := S1.set (i := i) (show Rp X.K F1 H1 t x1 R0 from (show Rp X.K F1 F1 t x1 R0 from r1).any) (fun _ _ _ _ z => z.elim) hl.1
            have S3 := S2.set (i := j) (show Rp X.K F1 H1 u x2 R0 from (show Rp X.K F1 F1 u x2 R0 from r2).any) (fun _ _ _ _ z => z.elim) (by simpa using hl.2)
            refine ⟨x1, x2, rfl, q F1 H1 _ _ (e1.stp0.mono ?_) S3⟩
            rintro a ⟨k, z⟩
            by_cases hk : k = j
            · simp only [hk, if_true] at z; exact z.elim
            · simp only [hk, if_false] at z
              by_cases hk2 : k = i
              · simp only [hk2, if_true] at z; exact z.elim
              · simp only [hk2, if_false] at z; exact ⟨k, z⟩
          · simp only [hl, if_false] at q
        | [], q, rs => exact q.elim
        | [_], q, rs => exact q.elim
        | _ :: _ :: _ :: _, q, rs => exact q.elim
end
section
variable {X : Cx} {E : L2.St → XK} {ca : Str → Value} {σ : L2.St} {H F : Hp} {K : PySem.W.Frag} {m mk : PSt → Option Rs} {ms : PSt → Option RsL} {D : Ends} {e : Expr} {es : List Expr} {pos apos cpos p1 p2 : Pos} {i j : Nat} {x y : Str} {τ : PSt} {R : Nat → Rg} {mu : Bool}
theorem Rp.kind {k k' : Kd} {l : List T} {p : Addr} {A : Rg} (h : Rp K F H (.nd true k l) (.ref p) A) (o : OwnK k' p) : Rp K F H (.nd true k' l) (.ref p) A := by
  obtain ⟨p', xs, Rr, e, rfl, fp, hp, ro, dp, _⟩ := h.own_inv
  cases e
  exact own_mk o ro fp hp dp
theorem Rp.pin_at {q : Addr} {l : List T} {x : V} {A : Rg} (h : Rp K F H (.nd true (.pin q) l) x A) : x = .ref q := by
  obtain ⟨p', xs, Rr, rfl, rfl, fp, hp, ro, dp, o⟩ := h.own_inv
  have o' : q = p' := o
  rw [o']
def retAt (t : T) (τ : PSt) : Option Out := match τ[(0 : Nat)]? with
  | some (some (.nd true (.pin q) l)) => some (.rt (.own [t, .nd true (.pin q) l]))
  | _ => none
theorem retAt_some {t : T} {o : Out} (h : retAt t τ = some o) : ∃ q l, τ[0]? = some (some (.nd true (.pin q) l)) ∧ o = .rt (.own [t, .nd true (.pin q) l]) := by
  unfold retAt at h
  split at h
  · rename_i q l e
    cases h
    exact ⟨q, l, e, rfl⟩
  · cases h
theorem retAt_w {t : T} {q : Addr} {l : List T} {x : V} {F' H' : Hp} (S : StR K F' H' σ τ R) (h : τ[0]? = some (some (.nd true (.pin q) l))) (hf : t.flat = true) (r : Rp K F' H' t x R0) : Wr K true F' H' (.own [t, .nd true (.pin q) l]) x (R 0) := by
  obtain ⟨y, _, ry⟩ := S.rep 0 _ h
  have hy := ry.pin_at
  subst hy
  exact ⟨t, q, l, rfl, hf, r, ry⟩
def sRetM (m : PSt → Option Rs) : PSt → Option Out := fun τ => match m τ with
  | some (.v t _) => if t.flat then retAt t τ else none
  | some (.x c) => some (.xc c τ)
  | none => none
def sRetMN : PSt → Option Out := fun τ => retAt .non τ
theorem got_flat {F H : Hp} {t : T} {b : Bool} {x : V} {B : Rg} (g : Got K F H R t b x B) (hf : t.flat = true) : Rp K F H t x R0 := by
  cases b with
  | true => obtain ⟨_, A, _, r⟩ := g; exact r.flat_any hf
  | false => exact (show Rp K F H _ _ _ from g).flat_any hf
theorem s_retM (he : PE X e (tM X.K E ca m)) : PS X (.Return (some e) pos) (tS X.K E ca true (sRetM m)) := by
  refine PS.weak (ps_ret he) fun D σ H h => ?_
  obtain ⟨F, τ, R, S, q⟩ := h
  refine ⟨F, τ, R, S, ?_⟩
  unfold sRetM at q
  cases hm : m τ with
  | none => simp only [hm] at q
  | some r =>
    simp only [hm] at q
    cases r with
    | x c => exact fun F' H' e => q F' H' σ R e.stp0 (S.ext e)
    | v t bb =>
      intro F' H' x B e g
      simp only at q
      cases hf : t.flat with
      | false => rw [hf] at q; exact False.elim q
      | true =>
        rw [hf, if_pos rfl] at q
        cases ho : retAt t τ with
        | none => rw [ho] at q; exact q.elim
        | some o =>
          rw [ho] at q
          obtain ⟨p, l, h0, rfl⟩ := retAt_some ho
          exact q F' H' x (R 0) (e.stp0.mono fun a z => ⟨0, z⟩) (retAt_w (S.ext e) h0 hf (got_flat g hf))
theorem s_retMN : PS X (.Return none pos) (tS X.K E ca true sRetMN) := PS.weak ps_retN fun D σ H h => by
  obtain ⟨F, τ, R, S, q⟩ := h
  unfold sRetMN at q
  cases ho : retAt .non τ with
  | none => simp only [ho] at q
  | some o =>
    simp only [ho] at q
    obtain ⟨p, l, h0, rfl⟩ := retAt_some ho
    exact q F H .non (R 0) ((Stp.refl S.fh).mono fun a z => ⟨0, z⟩) (retAt_w S h0 rfl .non)
inductive Mo where
  | ok (v : T) (τ : PSt) | exc (c : Str) (τ : PSt)
def tMM (K : PySem.W.Frag) (E : L2.St → XK) (ca : Str → Value) (m : PSt → Option Mo) : TE := fun σ H Q => ∃ F τ R, StR K F H σ τ R ∧ match m τ with
  | some (.ok v τ') => ∀ F' H' x R', Stp F H (tot R) F' H' (tot R') → StR K F' H' σ τ' R' → Rp K F' H' v x R0 → Q x H'
  | some (.exc c τ') => ∀ F' H' R', Stp F H (tot R) F' H' (tot R') → StR K F' H' σ τ' R' → E σ (ca c) none H'
  | none => False
def gAll (g : List T → Option Ru) (l ts : List T) (r : T × List T) : Prop := ∀ p, g (.nd true (.pin p) l :: ts) = some (.ok (.own [r.1, .nd true (.pin p) r.2]))
open Classical in
noncomputable def gMu (g : List T → Option Ru) (l ts : List T) : Option (T × List T) := if h : ∃ r, gAll g l ts r then some h.choose else none
theorem gMu_all {g : List T → Option Ru} {l ts : List T} {r : T × List T} (h : gMu g l ts = some r) : gAll g l ts r := by
  unfold gMu at h
  split at h
  · rename_i hx
    cases h
    exact hx.choose_spec
  · cases h
noncomputable def mMut (i : Nat) (g : List T → Option Ru) (ms : PSt → Option RsL) : PSt → Option Mo := fun τ => match ownAt τ i with
  | some (kd, l) => (match ms τ with
    | some (.v ts false) => (match gMu g l ts with
      | some (v, l') => if v.flat then some (.ok v (τ.set i (some (.nd true kd l')))) else none
      | none => none)
    | some (.v _ true) => none
    | some (.x c) => some (.exc c τ)
    | none => none)
  | none => none
def spM (K : PySem.W.Frag) (ca : Str → Value) (g : List T → Option Ru) : Sp := fun vs H Q E => ∃ F p l ts A vs', Same F H ∧ vs = .ref p :: vs' ∧ Rp K F H (.nd true (.pin p) l) (.ref p) A ∧ Rps K F ts vs' ∧ match g (.nd true (.pin p) l :: ts) with
  | some (.ok t) => ∀ F' H' x B, Stp F H A F' H' B → Wr K true F' H' t x B → Q x H'
  | some (.exc c) => ∀ F' H', Stp F H A F' H' R0 → E (ca c) none H'
  | none => False
theorem StR.mut {F1 H1 F2 H2 : Hp} {B : Rg} {t' : T} {x0 : V} (S : StR K F1 H1 σ τ R) (hi : i < τ.length) (ex : σ[i]? = some (some x0)) (s : Stp F1 H1 (R i) F2 H2 B) (r : Rp K F2 H2 t' x0 B) :
    StR K F2 H2 σ (τ.set i (some t')) (fun j => if j = i then B else R j) ∧ Stp F1 H1 (Pu.tot R) F2 H2 (Pu.tot fun j => if j = i then B else R j) := by
  refine ⟨⟨s.fh, by simpa using S.len, fun j t e => ?_, fun j a z => ?_, fun j k a hjk z1 z2 => ?_⟩, ⟨s.ff, s.fh, fun b u n e => s.kp b u (fun z => n ⟨i, z⟩) e, fun b ⟨j, z⟩ => ?_, fun b u e => ?_⟩⟩
  · by_cases hj : j = i
    · subst hj
      rw [List.getElem?_set_self hi] at e
      cases e
      exact ⟨x0, ex, by simpa using r⟩
    · rw [List.getElem?_set_ne (Ne.symm hj)] at e
      obtain ⟨y, e1, r1⟩ := S.rep j t e
      refine ⟨y, e1, ?_⟩
      simp only [hj, if_false]
      refine r1.frame s.ff fun a z => ?_
      obtain ⟨f, u, hu⟩ := r1.dom z
      have na : ¬ R i a := fun z' => S.dis j i a hj z z'
      refine ⟨(s.kp a u na hu).trans hu.symm, ?_⟩
      cases q : F2 a with
      | none => rfl
      | some u' =>
        rcases s.nf a u' q with w | w | w
        · rw [f] at w; cases w
        · exact absurd w na
        · rw [hu] at w; cases w
  · by_cases hj : j = i
    · subst hj
      exact ⟨t', List.getElem?_set_self hi⟩
    · simp only [hj, if_false] at z
      obtain ⟨t1, e⟩ := S.out j a z
      exact ⟨t1, by rw [List.getElem?_set_ne (Ne.symm hj)]; exact e⟩
  · have key : ∀ k, k ≠ i → R k a → ¬ B a := fun k hk w z => by
      rcases s.nw a z with w' | w'
      · exact S.dis k i a hk w w'
      · obtain ⟨_, u, hu⟩ := S.dom w
        rw [hu] at w'
        cases w'
    by_cases hj : j = i
    · have hk : ¬ k = i := fun z => hjk (hj.trans z.symm)
      simp only [hj, if_true] at z1
      simp only [hk, if_false] at z2
      exact key k hk z2 z1
    · simp only [hj, if_false] at z1
      by_cases hk : k = i
      · simp only [hk, if_true] at z2
        exact key j hj z1 z2
      · simp only [hk, if_false] at z2
        exact S.dis j k a hjk z1 z2
  · by_cases hj : j = i
    · simp only [hj, if_true] at z
      rcases s.nw b z with w | w
      · exact .inl ⟨i, w⟩
      · exact .inr w
    · simp only [hj, if_false] at z
      exact .inl ⟨j, z⟩
  · rcases s.nf b u e with w | w | w
    · exact .inl w
    · exact .inr (.inl ⟨i, w⟩)
    · exact .inr (.inr w)
theorem r_callM {k j : Nat} {f : Str} {ps : List Str} {g : List T → Option Ru} (D : DefX X.prog X.w X.K X.mg X.base k f ps (spM X.K ca g)) (hr : Room j X.A) (hx : PassS X E) (hN : X.N[i]? = some x) (hv : Vis X.env.scope x) (hd : (x == ("__debug__" : Str)) = false) (hcd : (x == ("__classdict__" : Str)) = false)
    (ha : PA X es (tMs X.K E ca ms)) (hk : k ≤ j) (hg : Gl X f) (hdb : (f == ("__debug__" : Str)) = false)
    (he : starEach (.Name x p1 :: es) X.env = (false, eval (.Name x p1) X.env) :: starEach es X.env) (hpl : (backTo pos (starEach es X.env)).any (·.1) = false) : PE X (.Call (.Name f p2) (.Name x p1 :: es) [] pos) (tMM X.K E ca (mMut i g ms)) := by
  refine PE.weak (px D hr hx (pa_cons (pe_var hN hv hd hcd) ha he) hk hg hdb he hpl) fun σ H Q h => ?_
  obtain ⟨F, τ, R, S, q⟩ := h
  unfold mMut at q
  cases ho : ownAt τ i with
  | none => simp only [ho] at q
  | some kl =>
    obtain ⟨kd, l⟩ := kl
    simp only [ho] at q
    have ht := ownAt_some ho
    obtain ⟨y, ey, ry⟩ := S.rep i _ ht
    obtain ⟨p, xs0, Rr, rfl, hA, fp, hp, ro, dp, hOw⟩ := ry.own_inv
    refine ⟨_, ey, F, τ, R, S, ?_⟩
    cases hm : ms τ with
    | none => simp only [hm] at q
    | some r =>
      simp only [hm] at q
      cases r with
      | x c => exact fun F' H' e => q F' H' R e.stp0 (S.ext e)
      | v ts bb =>
        cases bb with
        | true => exact q.elim
        | false =>
          intro F1 H1 xs e1 rs
          simp only at q
          cases hgm : gMu g l ts with
          | none => simp only [hgm] at q
          | some r =>
            obtain ⟨v, l'⟩ := r
            simp only [hgm] at q
            cases hf : v.flat with
            | false => rw [hf] at q; exact False.elim q
            | true =>
              rw [hf, if_pos rfl] at q
              have S1 := S.ext e1
              have ry1 : Rp X.K F1 H1 (.nd true (.pin p) l) (.ref p) (R i) := (ry.ext e1).kind rfl
              rw [List.append_nil]
              refine ⟨F1, p, l, ts, R i, xs, S1.fh, rfl, ry1, rs, ?_⟩
              rw [gMu_all hgm p]
              intro F2 H2 z B s2 w2
              obtain ⟨v2, q2, l2, et, hf2, rv, ro2⟩ := w2
              simp only [T.nd.injEq, List.cons.injEq, and_true, true_and, Kd.pin.injEq] at et
              obtain ⟨rfl, rfl, rfl⟩ := et
              have hi : i < τ.length := (List.getElem?_eq_some_iff.mp ht).1
              obtain ⟨S2, st2⟩ := S1.mut hi ey s2 (ro2.kind hOw)
              exact q F2 H2 z _ (e1.stp0.trans st2) S2 rv
def sMuIf (neg : Bool) (m : PSt → Option Mo) (a b : PSt → Option Out) : PSt → Option Out := fun τ => match m τ with
  | some (.ok (.bl c) τ') => if (neg ^^ c) = true then a τ' else b τ'
  | some (.ok _ _) => none
  | some (.exc c τ') => some (.xc c τ')
  | none => none
variable {mm : PSt → Option Mo}
theorem tMM_B {neg : Bool} {sa sb : List Stmt} {u w : PSt → Option Out} {D : Ends} (h : tS K E ca mu (sMuIf neg mm u w) D σ H) : tMM K E ca mm σ H fun x H1 => ∃ c, x = .bl c ∧ if (neg ^^ c) = true then tS K E ca mu u D σ H1 else tS K E ca mu w D σ H1 := by
  obtain ⟨F, τ, R, S, q⟩ := h
  refine ⟨F, τ, R, S, ?_⟩
  unfold sMuIf at q
  cases hm : mm τ with
  | none => simp only [hm] at q
  | some r =>
    simp only [hm] at q
    cases r with
    | exc c τ' => exact fun F' H' R' s S' => q F' H' σ R' s S'
    | ok v τ' =>
      cases v with
      | bl c =>
        intro F1 H1 x R1 s1 S1 rx
        refine ⟨c, rx.bl_inv, ?_⟩
        have key : ∀ {nn : PSt → Option Out}, (match nn τ' with
            | some (.nx τ') => ∀ F' H' σ' R', Stp F H (tot R) F' H' (tot R') → StR K F' H' σ' τ' R' → D.nx σ' H'
            | some (.bk τ') => ∀ F' H' σ' R', Stp F H (tot R) F' H' (tot R') → StR K F' H' σ' τ' R' → D.bk σ' H'
            | some (.ct τ') => ∀ F' H' σ' R', Stp F H (tot R) F' H' (tot R') → StR K F' H' σ' τ' R' → D.ct σ' H'
            | some (.rt t) => ∀ F' H' x B, Stp F H (tot R) F' H' B → Wr K mu F' H' t x B → D.rt x H'
            | some (.xc c τ') => ∀ F' H' σ' R', Stp F H (tot R) F' H' (tot R') → StR K F' H' σ' τ' R' → E σ' (ca c) none H'
            | none => False) → tS K E ca mu nn D σ H1 := fun {nn} q => by
          refine ⟨F1, τ', R1, S1, ?_⟩
          cases hr : nn τ' with
          | none => simp only [hr] at q
          | some o =>
            simp only [hr] at q
            cases o with
            | nx _ => exact fun F' H' σ' R' s S => q F' H' σ' R' (s1.trans s) S
            | bk _ => exact fun F' H' σ' R' s S => q F' H' σ' R' (s1.trans s) S
            | ct _ => exact fun F' H' σ' R' s S => q F' H' σ' R' (s1.trans s) S
            | rt _ => exact fun F' H' x B s r => q F' H' x B (s1.trans s) r
            | xc _ _ => exact fun F' H' σ' R' s S => q F' H' σ' R' (s1.trans s) S
        by_cases hc : (neg ^^ c) = true
        · rw [if_pos hc]
          simp only [hc, if_true] at q
          exact key q
        · rw [if_neg hc]
          simp only [hc, if_false] at q
          exact key q
      | _ => exact q.elim
theorem s_muIf {sa sb : List Stmt} {u w : PSt → Option Out} (he : PE X e (tMM X.K E ca mm)) (ht : ∀ whole, isTrue e X.env whole = (do let v ← whole; standAt e.pos; holding [v] (truthy v))) (ha : PSs X sa (tS X.K E ca mu u)) (hb : PSs X sb (tS X.K E ca mu w)) : PS X (.If e sa sb pos) (tS X.K E ca mu (sMuIf false mm u w)) := by
  refine PS.weak (ps_if (pt_val he ht) ha hb) fun D σ H h => ?_
  have z := tMM_B (sa := sa) (sb := sb) h
  simp only [Bool.false_xor] at z
  exact z
theorem s_muIfN {sa sb : List Stmt} {u w : PSt → Option Out} (he : PE X e (tMM X.K E ca mm)) (ht : ∀ whole, isTrue e X.env whole = (do let v ← whole; standAt e.pos; holding [v] (truthy v))) (ha : PSs X sa (tS X.K E ca mu u)) (hb : PSs X sb (tS X.K E ca mu w)) : PS X (.If (.UnaryOp .Not e p1) sa sb pos) (tS X.K E ca mu (sMuIf true mm u w)) := by
  refine PS.weak (ps_if (pt_not (pt_val he ht)) ha hb) fun D σ H h => ?_
  have z := tMM_B (sa := sa) (sb := sb) h
  simp only [Bool.true_xor] at z
  exact z
end
section
variable {X : Cx} {E : L2.St → XK} {ca : Str → Value} {σ : L2.St} {H F : Hp} {K : PySem.W.Frag} {pos apos cpos p1 p2 : Pos} {i j : Nat} {x y : Str} {τ : PSt} {R : Nat → Rg} {mu : Bool}
def sMv (i j : Nat) : PSt → Option Out := fun τ => match ownAt τ i with
  | some (kd, l) => (match τ[j]? with
    | some (some t) => if i ≠ j ∧ l.length < lim then some (.nx ((τ.set j none).set i (some (.nd true kd (l ++ [t]))))) else none
    | _ => none)
  | none => none
theorem StR.drop (S : StR K F H σ τ R) (j : Nat) : StR K F H σ (τ.set j none) (fun k => if k = j then R0 else R k) := by
  refine ⟨S.fh, by simpa using S.len, fun k t e => ?_, fun k a z => ?_, fun k k' a hk z1 z2 => ?_⟩
  · by_cases hk : k = j
    · subst hk
      rw [List.getElem?_set] at e
      simp only [if_true] at e
      split at e <;> cases e
    · rw [List.getElem?_set_ne (Ne.symm hk)] at e
      simpa [hk] using S.rep k t e
  · by_cases hk : k = j
    · simp only [hk, if_true] at z; exact z.elim
    · simp only [hk, if_false] at z
      obtain ⟨t, e⟩ := S.out k a z
      exact ⟨t, by rw [List.getElem?_set_ne (Ne.symm hk)]; exact e⟩
  · by_cases hk1 : k = j
    · simp only [hk1, if_true] at z1; exact z1.elim
    · by_cases hk2 : k' = j
      · simp only [hk2, if_true] at z2; exact z2.elim
      · simp only [hk1, if_false] at z1
        simp only [hk2, if_false] at z2
        exact S.dis k k' a hk z1 z2
theorem s_mv (hN : X.N[i]? = some x) (hv : Vis X.env.scope x) (hd : (x == ("__debug__" : Str)) = false) (hcd : (x == ("__classdict__" : Str)) = false) (hN2 : X.N[j]? = some y) (hv2 : Vis X.env.scope y) (hd2 : (y == ("__debug__" : Str)) = false) (hcd2 : (y == ("__classdict__" : Str)) = false) (hline : (apos.endLine == cpos.line) = true) :
    PS X (.Expr (.Call (.Attribute (.Name x p1) "append" apos) [.Name y p2] [] cpos) pos) (tS X.K E ca mu (sMv i j)) := by
  refine PS.weak (ps_expr (pe_bm PySem.F.plainAttrs_list PySem.F.slot_list_append PySem.F.type_list_append mt_append (pe_var hN hv hd hcd) (pa_cons (pe_var hN2 hv2 hd2 hcd2) pa_nil rfl) rfl rfl hline rfl rfl) rfl) fun D σ H h => ?_
  obtain ⟨F, τ, R, S, q⟩ := h
  unfold sMv at q
  cases ho : ownAt τ i with
  | none => simp only [ho] at q
  | some kl =>
    obtain ⟨kd, l⟩ := kl
    simp only [ho] at q
    have ht := ownAt_some ho
    obtain ⟨y1, ey, ry⟩ := S.rep i _ ht
    obtain ⟨p, xs, Rr, rfl, hA, fp, hp, ro, dp, hOw⟩ := ry.own_inv
    refine ⟨_, ey, .inl ⟨rfl, xs, SqL.of hp⟩, ?_⟩
    cases hj : τ[j]? with
    | none => simp only [hj] at q
    | some o =>
      cases o with
      | none => simp only [hj] at q
      | some t =>
        simp only [hj] at q
        obtain ⟨y2, ey2, ry2⟩ := S.rep j _ hj
        by_cases hc : i ≠ j ∧ l.length < lim
        · rw [if_pos hc] at q
          refine ⟨y2, ey2, p, xs, y2, rfl, rfl, hp, by rw [← ro.len, ← lim_eq]; exact hc.2, ?_⟩
          have S0 := S.drop j
          have pB : ¬ R j p := fun z => S.dis i j p hc.1 (by rw [hA]; exact .inl rfl) z
          have dj : ∀ k a, Rr k a → ¬ R j a := fun k a z w => S.dis i j a hc.1 (by rw [hA]; exact .inr ⟨k, z⟩) w
          have ro2 : RpO X.K F (upd H p (.lst (xs ++ [y2]))) (l ++ [t]) (xs ++ [y2]) _ := (ro.upd dp).snoc (ry2.upd pB) fun k a z => dj k a z
          have dp2 : ∀ k, ¬ (if k = l.length then R j else Rr k) p := fun k z => by
            by_cases hk : k = l.length
            · simp only [hk, if_true] at z; exact pB z
            · simp only [hk, if_false] at z; exact dp k z
          have r2 := own_mk hOw ro2 fp upd_same dp2
          have ht0 : (τ.set j none)[i]? = some (some (.nd true kd l)) := by rw [List.getElem?_set_ne (Ne.symm hc.1)]; exact ht
          obtain ⟨S3, st3⟩ := S0.upd (i := i) ht0 ey (by simp only [hc.1, if_false]; rw [hA]; exact .inl rfl) r2 (B := R j) (fun a z => by
            simp only [hc.1, if_false]
            rw [hA]
            rcases z with z | z
            · exact .inl (.inl z)
            · rcases snoc_tot' z with w | w
              · exact .inl (.inr w)
              · exact .inr w) (fun k a z w => by
            by_cases hk : k = j
            · simp only [hk, if_true] at z; exact z
            · simp only [hk, if_false] at z; exact S.dis k j a hk z w)
          have eO : (fun a => tot (fun k => if k = j then R0 else R k) a ∨ R j a) = tot R := funext fun a => propext ⟨fun z => z.elim (fun ⟨k, w⟩ => by
            by_cases hk : k = j
            · simp only [hk, if_true] at w; exact w.elim
            · simp only [hk, if_false] at w; exact ⟨k, w⟩) fun w => ⟨j, w⟩, fun ⟨k, w⟩ => by
            by_cases hk : k = j
            · subst hk; exact .inr w
            · exact .inl ⟨k, by simpa [hk] using w⟩⟩
          rw [eO] at st3
          exact q F _ σ _ st3 S3
        · rw [if_neg hc] at q; exact q.elim
end
end Pu
set_option Elab.async false
set_option linter.all false
set_option maxRecDepth 100000
namespace Pu
open PySem PySem.Spec PyProof.Rows L2 Zw Zx
mutual
def T.deep : T → Bool
  | .nd o _ l => o && deepL l
  | .dic _ _ => false
  | .pdc _ _ => false
  | .odc _ _ => false
  | .non => true
  | .bl _ => true
  | .int _ => true
  | .str _ => true
def deepL : List T → Bool
  | [] => true
  | t :: r => t.deep && deepL r
end
theorem deepL_get : ∀ {l : List T}, deepL l = true → ∀ {i : Nat} {t : T}, l[i]? = some t → t.deep = true
  | [], _, i, t, e => by simp at e
  | a :: r, h, i, t, e => by
    rw [deepL, Bool.and_eq_true] at h
    cases i with
    | zero =>
      simp at e
      subst e
      exact h.1
    | succ i => exact deepL_get h.2 (by simpa using e)
theorem Rp.deep {K : PySem.W.Frag} {F F' H : Hp} {t : T} {x : V} {A : Rg} (h : Rp K F H t x A) (d : t.deep = true) (k : ∀ a, F a = none → F' a = none) : Rp K F' H t x A := by
  induction h with
  | non => exact .non
  | bl b => exact .bl b
  | int i => exact .int i
  | str y => exact .str y
  | shr h e c ih => cases d
  | dic h e ek c ih => cases d
  | pdc h e ek c ih => cases d
  | odc f h e ek c ih => cases d
  | own hk R f h e c ds dp o ih =>
    rw [T.deep, Bool.true_and] at d
    exact .own hk R (k _ f) h e (fun i t x h1 h2 => ih i t x h1 h2 (deepL_get d h1)) ds dp o
def mBor (i : Nat) (m : PSt → Option Rs) : PSt → Option Rs := fun τ => match τ[i]? with
  | some (some t) => (match m (τ.set i (some t.share)) with
    | some (.v v false) => if v.deep = true then some (.v v false) else none
    | some (.v _ true) => none
    | some (.x c) => some (.x c)
    | none => none)
  | _ => none
theorem StR.frz {K : PySem.W.Frag} {F H : Hp} {σ : L2.St} {τ : PSt} {R : Nat → Rg} {i : Nat} {t : T} (S : StR K F H σ τ R) (ht : τ[i]? = some (some t)) : StR K (Pu.frz F H (R i)) H σ (τ.set i (some t.share)) (fun j => if j = i then R0 else R j) := by
  obtain ⟨x, ex, r⟩ := S.rep i t ht
  have hi : i < τ.length := (List.getElem?_eq_some_iff.mp ht).1
  have n : ∀ a, R i a → F a = none := fun a z => (r.dom z).1
  refine ⟨frz_fh S.fh, by simpa using S.len, fun j t' e => ?_, fun j a z => ?_, fun j k a hjk z1 z2 => ?_⟩
  · by_cases hj : j = i
    · subst hj
      rw [List.getElem?_set_self hi] at e
      cases e
      exact ⟨x, ex, by simpa using r.share (frz_ff n) fun a u z q => by rw [frz_in z]; exact q⟩
    · rw [List.getElem?_set_ne (Ne.symm hj)] at e
      obtain ⟨y, e1, r1⟩ := S.rep j t' e
      refine ⟨y, e1, ?_⟩
      simp only [hj, if_false]
      exact r1.frame (frz_ff n) fun a z => ⟨rfl, by
        rw [frz_out (fun z' => S.dis j i a hj z z')]
        exact (r1.dom z).1⟩
  · by_cases hj : j = i
    · simp only [hj, if_true] at z; exact z.elim
    · simp only [hj, if_false] at z
      obtain ⟨t', e⟩ := S.out j a z
      exact ⟨t', by rw [List.getElem?_set_ne (Ne.symm hj)]; exact e⟩
  · by_cases hj : j = i
    · simp only [hj, if_true] at z1; exact z1.elim
    · by_cases hk : k = i
      · simp only [hk, if_true] at z2; exact z2.elim
      · simp only [hj, if_false] at z1
        simp only [hk, if_false] at z2
        exact S.dis j k a hjk z1 z2
open Classical in
noncomputable def unfr (A : Rg) (F : Hp) : Hp := fun a => if A a then none else F a
theorem bor_back {K : PySem.W.Frag} {F H F' H' : Hp} {σ : L2.St} {τ : PSt} {R : Nat → Rg} {i : Nat} {B : Rg} (S : StR K F H σ τ R) (e : Ext (Pu.frz F H (R i)) H F' H' B) : Ext F H (unfr (R i) F') H' B := by
  have n : ∀ a, R i a → F a = none := fun a z => (S.dom z).1
  refine ⟨e.hh, fun b u z => ?_, fun b u z => ?_, e.nb, fun b u z => ?_⟩
  · have nb : ¬ R i b := fun w => by rw [n b w] at z; cases z
    unfold unfr
    rw [if_neg nb]
    exact e.ff b u (by rw [frz_out nb]; exact z)
  · unfold unfr at z
    by_cases w : R i b
    · rw [if_pos w] at z; cases z
    · rw [if_neg w] at z
      exact e.fh b u z
  · unfold unfr at z
    by_cases w : R i b
    · rw [if_pos w] at z; cases z
    · rw [if_neg w] at z
      rcases e.nf b u z with z | z
      · rw [frz_out w] at z
        exact .inl z
      · exact .inr z
theorem tM_bor {K : PySem.W.Frag} {E : L2.St → XK} {ca : Str → Value} {i : Nat} {m : PSt → Option Rs} {σ : L2.St} {H : Hp} {Q : VK} (h : tM K E ca (mBor i m) σ H Q) : tM K E ca m σ H Q := by
  obtain ⟨F, τ, R, S, q⟩ := h
  unfold mBor at q
  cases ht : τ[i]? with
  | none => rw [ht] at q; exact q.elim
  | some ot =>
    rw [ht] at q
    cases ot with
    | none => exact q.elim
    | some t =>
    simp only at q
    refine ⟨_, _, _, S.frz ht, ?_⟩
    cases hm : m (τ.set i (some t.share)) with
    | none => rw [hm] at q; exact q.elim
    | some rs =>
      rw [hm] at q
      cases rs with
      | x c => exact fun F' H' e => q _ H' (bor_back S e)
      | v v b =>
        cases b with
        | true => exact q.elim
        | false =>
          simp only at q
          by_cases dv : v.deep = true
          · rw [if_pos dv] at q
            intro F' H' x B e g
            refine q _ H' x B (bor_back S e) ?_
            have g' : Rp K F' H' v x B := g
            exact g'.deep dv fun a z => by
              unfold unfr
              split
              · rfl
              · exact z
          · rw [if_neg dv] at q
            exact q.elim
theorem tMB_bor {K : PySem.W.Frag} {E : L2.St → XK} {ca : Str → Value} {i : Nat} {m : PSt → Option Rs} {σ : L2.St} {H : Hp} {Q : Bool → Hp → Prop} (h : tMB K E ca (mBor i m) σ H Q) : tMB K E ca m σ H Q := by
  obtain ⟨F, τ, R, S, q⟩ := h
  unfold mBor at q
  cases ht : τ[i]? with
  | none => rw [ht] at q; exact q.elim
  | some ot =>
    rw [ht] at q
    cases ot with
    | none => exact q.elim
    | some t =>
    simp only at q
    refine ⟨_, _, _, S.frz ht, ?_⟩
    cases hm : m (τ.set i (some t.share)) with
    | none => rw [hm] at q; exact q.elim
    | some rs =>
      rw [hm] at q
      cases rs with
      | x c => exact fun F' H' e => q _ H' (bor_back S e)
      | v v b =>
        cases b with
        | true => exact q.elim
        | false =>
          cases v with
          | bl c => exact fun F' H' e => q _ H' (bor_back S e)
          | _ =>
            simp only at q
            split at q
            · rename_i hh
              split at hh
              · cases hh
              · cases hh
            · rename_i hh
              split at hh
              · exact q
              · cases hh
            · rename_i hh
              split at hh
              · cases hh
              · cases hh
            · exact q
def borAll (l : List Nat) (m : PSt → Option Rs) : PSt → Option Rs := l.foldr mBor m
theorem tM_borAll {K : PySem.W.Frag} {E : L2.St → XK} {ca : Str → Value} {m : PSt → Option Rs} {σ : L2.St} {H : Hp} {Q : VK} : ∀ l : List Nat, tM K E ca (borAll l m) σ H Q → tM K E ca m σ H Q
  | [], h => h
  | i :: r, h => tM_borAll r (tM_bor h)
theorem tMB_borAll {K : PySem.W.Frag} {E : L2.St → XK} {ca : Str → Value} {m : PSt → Option Rs} {σ : L2.St} {H : Hp} {Q : Bool → Hp → Prop} : ∀ l : List Nat, tMB K E ca (borAll l m) σ H Q → tMB K E ca m σ H Q
  | [], h => h
  | i :: r, h => tMB_borAll r (tMB_bor h)
def tL (K : PySem.W.Frag) (m : PSt → Option Out) : TS := fun D σ H => ∃ F τ R, StR K F H σ τ R ∧ match m τ with
  | some (.rt (.bl b)) => ∀ H', D.rt (.bl b) H'
  | _ => False
theorem tL_inv {K : PySem.W.Frag} {m : PSt → Option Out} {τ : PSt} {D : Ends} (q : match m τ with
  | some (.rt (.bl b)) => ∀ H', D.rt (.bl b) H'
  | _ => False) : ∃ b, m τ = some (.rt (.bl b)) ∧ ∀ H', D.rt (.bl b) H' := by
  split at q
  · rename_i b hm
    exact ⟨b, hm, q⟩
  · exact q.elim
section
variable {X : Cx} {E : L2.St → XK} {ca : Str → Value} {σ : L2.St} {H : Hp} {K : PySem.W.Frag} {u w : PSt → Option Out} {D : Ends}
theorem tL_tS (h : tL K w D σ H) : tS K E ca false w D σ H := by
  obtain ⟨F, τ, R, S, q⟩ := h
  obtain ⟨b, hb, q⟩ := tL_inv (K := K) q
  refine ⟨F, τ, R, S, ?_⟩
  rw [hb]
  intro F' H' x B s r
  have r' : Rp K F' H' (.bl b) x B := r
  rw [r'.bl_inv]
  exact q H'
theorem tL_seq (h : tL K (sSeq u w) D σ H) : tSeq (tS K E ca false u) (tL K w) D σ H := by
  obtain ⟨F, τ, R, S, q⟩ := h
  obtain ⟨b, hb, q⟩ := tL_inv (K := K) q
  refine ⟨F, τ, R, S, ?_⟩
  unfold sSeq at hb
  cases hm : u τ with
  | none => rw [hm] at hb; cases hb
  | some o =>
    rw [hm] at hb
    cases o with
    | nx τ' =>
      intro F1 H1 σ1 R1 s1 S1
      refine ⟨F1, τ', R1, S1, ?_⟩
      simp only at hb
      rw [hb]
      exact q
    | rt t =>
      cases hb
      intro F' H' x B s r
      have r' : Rp K F' H' (.bl b) x B := r
      rw [r'.bl_inv]
      exact q H'
    | bk _ => cases hb
    | ct _ => cases hb
    | xc _ _ => cases hb
theorem tL_frz {i : Nat} (h : tL K (sSeq (sFrz i) w) D σ H) : tL K w D σ H := by
  obtain ⟨F, τ, R, S, q⟩ := h
  obtain ⟨b, hb, q⟩ := tL_inv (K := K) q
  unfold sSeq sFrz at hb
  cases ht : τ[i]? with
  | none =>
    rw [ht] at hb
    simp only at hb
    exact ⟨F, τ, R, S, by rw [hb]; exact q⟩
  | some ot =>
    rw [ht] at hb
    cases ot with
    | none =>
      simp only at hb
      exact ⟨F, τ, R, S, by rw [hb]; exact q⟩
    | some t =>
      simp only at hb
      exact ⟨_, _, _, S.frz ht, by rw [hb]; exact q⟩
def keepT : Option T → Option T
  | some t => if t.deep then some t else none
  | none => none
theorem keepT_some {o : Option T} {t : T} (h : keepT o = some t) : o = some t ∧ t.deep = true := by
  unfold keepT at h
  split at h
  · split at h
    · rename_i hd
      cases h
      exact ⟨rfl, hd⟩
    · cases h
  · cases h
def sPoke (mo ma : PSt → Option Rs) : PSt → Option Out := fun τ => match mo τ with
  | some (.v (.nd false .lst l) false) => (match ma τ with
    | some (.v _ false) => if l.length < lim then some (.nx (τ.map keepT)) else none
    | _ => none)
  | _ => none
theorem sPoke_inv {mo ma : PSt → Option Rs} {τ τ' : PSt} (h : sPoke mo ma τ = some (.nx τ')) : ∃ l t, mo τ = some (.v (.nd false .lst l) false) ∧ ma τ = some (.v t false) ∧ l.length < lim ∧ τ' = τ.map keepT := by
  unfold sPoke at h
  split at h
  · rename_i l hm
    split at h
    · rename_i t hm2
      split at h
      · rename_i hz
        cases h
        exact ⟨l, t, hm, hm2, hz, rfl⟩
      · cases h
    · cases h
  · cases h
theorem sPoke_nx {mo ma : PSt → Option Rs} {τ : PSt} {o : Out} (h : sPoke mo ma τ = some o) : ∃ τ', o = .nx τ' := by
  unfold sPoke at h
  split at h
  · split at h
    · split at h
      · cases h; exact ⟨_, rfl⟩
      · cases h
    · cases h
  · cases h
theorem s_poke {o e : Expr} {rest : List Stmt} {mo ma : PSt → Option Rs} {apos cpos pos : Pos} (ho : PE X o (tM X.K E ca mo)) (he : PE X e (tM X.K E ca ma)) (hbase : attributeBase o "append" X.env (eval o X.env) = eval o X.env) (hs : starEach [e] X.env = [(false, eval e X.env)]) (hline : (apos.endLine == cpos.line) = true) (h2 : PSs X rest (tL X.K w)) :
    PSs X (.Expr (.Call (.Attribute o "append" apos) [e] [] cpos) pos :: rest) (tL X.K (sSeq (sPoke mo ma) w)) := by
  refine PSs.weak (pss_cons (ps_expr (pe_bm PySem.F.plainAttrs_list PySem.F.slot_list_append PySem.F.type_list_append mt_append ho (pa_cons he pa_nil hs) hbase (by rw [hs]; rfl) hline hs rfl) rfl) h2) fun D σ H h => ?_
  obtain ⟨F, τ, R, S, q⟩ := h
  obtain ⟨b, hb, q⟩ := tL_inv (K := X.K) q
  refine ⟨F, τ, R, S, ?_⟩
  unfold sSeq at hb
  cases hp : sPoke mo ma τ with
  | none => rw [hp] at hb; cases hb
  | some oo =>
    obtain ⟨τ', rfl⟩ := sPoke_nx hp
    rw [hp] at hb
    simp only at hb
    obtain ⟨l, t, hm, hm2, hz, rfl⟩ := sPoke_inv hp
    rw [hm]
    intro F1 H1 x B e1 g1
    have g1' : Rp X.K F1 H1 (.nd false .lst l) x B := g1
    obtain ⟨p, rfl⟩ := g1'.ref_inv
    obtain ⟨xs, hN, hr⟩ := Rps.node g1'
    have hF : F1 p = some (.lst xs) := hN
    refine ⟨.inl ⟨rfl, xs, SqL.of (e1.fh _ _ hF)⟩, F1, τ, R, S.ext e1, ?_⟩
    rw [hm2]
    intro F2 H2 y B2 e2 g2
    have hF2 := e2.ff _ _ hF
    refine ⟨p, xs, y, rfl, rfl, e2.fh _ _ hF2, by rw [← hr.1, ← lim_eq]; exact hz, ?_⟩
    have S2 := (S.ext e1).ext e2
    refine ⟨fun _ => none, τ.map keepT, fun i a => R i a ∧ ∃ t, (τ.map keepT)[i]? = some (some t), ⟨fun _ _ z => (by cases z), by simpa using S2.len, fun i t e => ?_, fun i a z => z.2, fun i j a hij z1 z2 => S2.dis i j a hij z1.1 z2.1⟩, ?_⟩
    · have e' := e
      rw [List.getElem?_map] at e
      obtain ⟨o, e1', e2'⟩ := Option.map_eq_some_iff.mp e
      obtain ⟨rfl, hd⟩ := keepT_some e2'
      obtain ⟨x, ex, r⟩ := S2.rep i t e1'
      refine ⟨x, ex, ?_⟩
      have hA : (fun a => R i a ∧ ∃ t, (τ.map keepT)[i]? = some (some t)) = R i := funext fun a => propext ⟨fun z => z.1, fun z => ⟨z, t, e'⟩⟩
      rw [hA]
      exact (r.deep (F' := fun _ => none) hd fun _ _ => rfl).upd fun z => by
        have := (r.dom z).1
        rw [hF2] at this
        cases this
    · rw [hb]
      exact q
end
end Pu
set_option Elab.async false
set_option linter.all false
set_option maxRecDepth 100000
noncomputable section
namespace Pu
open PySem PySem.Spec PyProof.Rows L2 Zw Zx
structure Fn where
  lv : Nat
  ps : List Str
  g : List T → Option Ru
set_option genInjectivity false in
structure Gm where
  N : List Str
  nm : List (Str × NameKind)
  ce : List Str
  lv : Nat
  fns : List (Str × Fn)
  bl : List Str
  ex : List Str
  ow : List Str
  pk : List Str
  mu : Bool
  mus : List (Str × Fn)
  mv : List Str
  dc : List Str
def plainN (x : Str) : Bool := !(x == ("__debug__" : Str)) && !(x == ("__classdict__" : Str)) && !(x == ("__name__" : Str))
def visN (nm : List (Str × NameKind)) (x : Str) : Bool := nm.lookup x == some .local || nm.lookup x == some .cell || nm.lookup x == some .free
def glN (nm : List (Str × NameKind)) (x : Str) : Bool := nm.lookup x == some .globalImplicit
def ixOf (N : List Str) (x : Str) : Option Nat := N.findIdx? (· == x)
def Gm.var (Γ : Gm) (x : Str) : Option Nat := if plainN x && visN Γ.nm x then ixOf Γ.N x else none
def Gm.loc (Γ : Gm) (x : Str) : Bool := plainN x && (Γ.nm.lookup x == some .local || Γ.ce.contains x)
def notStar : Expr → Bool
  | .Starred .. => false
  | _ => true
def opF : Operator → Option (T → T → Option T)
  | .Add => some addT
  | .Sub => some subT
  | .Mult => some mulT
  | .Mod => some modT
  | .FloorDiv => some fdivT
  | .Pow => some powT
  | .BitOr => some borT
  | .BitAnd => some bandT
  | _ => none
def cmpF : CmpOp → Option (T → T → Option T)
  | .Eq => some eqT
  | .NotEq => some neT
  | .Lt => some (cmpT fun i j => decide (i < j))
  | .LtE => some (cmpT fun i j => decide (i ≤ j))
  | .Gt => some (cmpT fun i j => decide (j < i))
  | .GtE => some (cmpT fun i j => decide (j ≤ i))
  | .Is => some (isT2 false)
  | .IsNot => some (isT2 true)
  | .In => none
  | .NotIn => none
def bltG (f : Str) : Option (List T → Option T) :=
  if f = "len" then some (g1 lenT) else if f = "list" then some (g1 listT) else if f = "abs" then some (g1 absT) else
  if f = "min" then some (g2 minT) else
  if f = "any" then some (g1 anyT) else none
def tyName (c : Str) : Option String := if c = "int" then some "int" else if c = "bool" then some "bool" else if c = "str" then some "str" else if c = "list" then some "list" else if c = "tuple" then some "tuple" else none
def okT : Expr → Bool
  | .IfExp .. => false
  | .NamedExpr .. => false
  | _ => true
def nmOf : Expr → Option (Str × Pos)
  | .Name x p => some (x, p)
  | _ => none
theorem nmOf_is {t : Expr} {x : Str} {p : Pos} (h : nmOf t = some (x, p)) : t = .Name x p := by
  unfold nmOf at h
  split at h
  · cases h; rfl
  · cases h
def tgNs : List Expr → List Str
  | [] => []
  | e :: es => (match nmOf e with
    | some (x, _) => x :: tgNs es
    | none => tgNs es)
def tgN : Expr → List Str
  | .Name x _ => [x]
  | .Tuple es _ _ => tgNs es
  | _ => []
def isTupE : Expr → Bool
  | .Tuple .. => true
  | _ => false
def isSlice : Expr → Bool
  | .Slice .. => true
  | _ => false
def frees (nm : List (Str × NameKind)) : List Str := nm.filterMap fun (y, k) => if k == .free then some y else none
def cellsN (nm : List (Str × NameKind)) : List Str := nm.filterMap fun (y, k) => if k == .cell then some y else none
def relabN (inner outer : List (Str × NameKind)) : List (Str × NameKind) := inner.map fun (n, k) => if (k == .free && outer.lookup n == some .cell) then (n, .cell) else (n, k)
def capIx (N : List Str) : List Str → Option (List Nat)
  | [] => some []
  | y :: r => (match ixOf N y with
    | some i => (match capIx N r with
      | some l => some (i :: l)
      | none => none)
    | none => none)
def blkOk (Γ : Gm) (scope : Scope) (N' : List Str) : Bool :=
  (scope.kind == .function) && scope.names.all (fun x => !(x.2 == .local) || scope.names.lookup x.1 == some .local) &&
  scope.names.all (fun x => !(x.2 == .free) || (scope.names.lookup x.1 == some .free && (Γ.nm.lookup x.1 == some .cell || Γ.nm.lookup x.1 == some .free) && !(scope.names.contains (x.1, NameKind.cell)))) &&
  decide N'.Nodup && (cellsN scope.names).all (fun y => (relabN scope.names Γ.nm).lookup y == some .cell)
def Gm.blk (Γ : Gm) (scope : Scope) (N' : List Str) : Gm := { Γ with N := N', nm := relabN scope.names Γ.nm, ce := (cellsN scope.names).filter fun y => scope.names.lookup y == some .cell, ow := [] }
def dGs (Γ : Gm) : List Expr → Option (List T → PSt → Option PSt)
  | [] => some bNil
  | e :: es => (match nmOf e with
    | some (x, _) => if Γ.loc x then (match ixOf Γ.N x, dGs Γ es with
      | some i, some b => some (bCons (bNm i) b)
      | _, _ => none) else none
    | none => none)
def dG (Γ : Gm) : Expr → Option (T → PSt → Option PSt)
  | .Name x _ => if Γ.loc x then (ixOf Γ.N x).map bNm else none
  | .Tuple es _ _ => (dGs Γ es).map (bTup es.length)
  | _ => none
mutual
def dE : Nat → Gm → Expr → Option (PSt → Option Rs)
  | 0, _, _ => none
  | n + 1, Γ, e => match e with
    | .Constant (.int i) _ _ => some (mC (.int i))
    | .Constant (.bool b) _ _ => some (mC (.bl b))
    | .Constant .none _ _ => some (mC .non)
    | .Constant (.str x) _ _ => some (mC (.str x))
    | .Name x _ => (Γ.var x).map mVar
    | .BinOp a op b _ => (match opF op, dE n Γ a, dE n Γ b with
      | some g, some ma, some mb => some (mAp (g2 g) (mCons ma (mCons mb mNil)))
      | _, _, _ => none)
    | .UnaryOp .USub a _ => (match dE n Γ a with
      | some ma => some (mAp (g1 negT) (mCons ma mNil))
      | none => none)
    | .UnaryOp .Not a _ => if okT a then (dE n Γ a).map mNot else none
    | .BoolOp op vs _ => dB n Γ op vs
    | .Compare a [op] [b] _ => (match cmpF op, dE n Γ a, dE n Γ b with
      | some g, some ma, some mb => if behindInMarks op b then none else some (mAp (g2 g) (mCons ma (mCons mb mNil)))
      | _, _, _ => none)
    | .IfExp c a b _ => if okT c then (match dE n Γ c, dE n Γ a, dE n Γ b with
      | some mc, some ma, some mb => some (mIf mc ma mb)
      | _, _, _ => none) else none
    | .List es _ => (dO n Γ es).map mLst
    | .Tuple es _ _ => (dA n Γ es).map mTup
    | .Subscript a k _ => (match k with
      | .Slice lo hi none _ => (match dE n Γ a, dP n Γ lo, dP n Γ hi with
        | some ma, some ml, some mh => some (mSl ma ml mh)
        | _, _, _ => none)
      | _ => if isSlice k then none else (match dE n Γ a, dE n Γ k with
        | some ma, some mk => some (mIx ma mk)
        | _, _ => none))
    | .Call (.Name f _) (e :: es) [] _ =>
      if plainN f && glN Γ.nm f then
        (if Γ.bl.contains f then
          (if f = "isinstance" then (match es with
            | [.Name c _] => if glN Γ.nm c && Γ.bl.contains c && plainN c && notStar e then (match tyName c, dE n Γ e with
              | some t, some m => some (mAp (g1 (isTyT t)) (mCons m mNil))
              | _, _ => none) else none
            | _ => none)
          else (
            (match bltG f, dA n Γ (e :: es) with
              | some g, some ms => some (mAp g ms)
              | _, _ => none)))
        else (match Γ.fns.lookup f, dA n Γ (e :: es) with
          | some F, some ms => some (mCall F.g ms)
          | _, _ => none))
      else none
    | .ListComp elt [⟨tg, iter, ifs, 0⟩] scope _ => dC n Γ elt tg iter ifs scope
    | _ => none
def dA : Nat → Gm → List Expr → Option (PSt → Option RsL)
  | 0, _, _ => none
  | n + 1, Γ, es => match es with
    | [] => some mNil
    | e :: es => if notStar e then (match dE n Γ e, dA n Γ es with
      | some m, some ms => some (mCons m ms)
      | _, _ => none) else none
def dO : Nat → Gm → List Expr → Option (PSt → Option RsL)
  | 0, _, _ => none
  | n + 1, Γ, es => match es with
    | [] => some mNil
    | e :: es => if notStar e then (match dE n Γ e, dO n Γ es with
      | some m, some ms => some (mConsO m ms)
      | _, _ => none) else none
def dB : Nat → Gm → BoolOp → List Expr → Option (PSt → Option Rs)
  | 0, _, _, _ => none
  | n + 1, Γ, op, vs => match vs with
    | [] => none
    | [a] => if okT a then dE n Γ a else none
    | a :: r => if okT a then (match op, dE n Γ a, dB n Γ op r with
      | .And, some ma, some mb => some (mAnd ma mb)
      | .Or, some ma, some mb => some (mOr ma mb)
      | _, _, _ => none) else none
def dP : Nat → Gm → Option Expr → Option (Option (PSt → Option Rs))
  | 0, _, _ => none
  | n + 1, Γ, o => match o with
    | none => some none
    | some e => (dE n Γ e).map some
def dC : Nat → Gm → Expr → Expr → Expr → List Expr → Scope → Option (PSt → Option Rs)
  | 0, _, _, _, _, _, _ => none
  | n + 1, Γ, elt, tg, iter, ifs, scope =>
    if blkOk Γ scope (tgN tg ++ frees scope.names) then (match capIx Γ.N (frees scope.names), dI n Γ tg iter, dG (Γ.blk scope (tgN tg ++ frees scope.names)) tg, dE n (Γ.blk scope (tgN tg ++ frees scope.names)) elt with
      | some caps, some mi, some b, some me => (match ifs with
        | [] => some (mLC (tgN tg).length caps mi b (mC (.bl true)) me)
        | [c] => if okT c then (match dE n (Γ.blk scope (tgN tg ++ frees scope.names)) c with
          | some mt => some (mLC (tgN tg).length caps mi b mt me)
          | none => none) else none
        | _ => none)
      | _, _, _, _ => none) else none
def dI : Nat → Gm → Expr → Expr → Option (PSt → Option RsL)
  | 0, _, _, _ => none
  | n + 1, Γ, tg, e => match e with
    | .Call (.Name f _) [a] [] _ =>
      if f = "range" then (if glN Γ.nm f && Γ.bl.contains f && notStar a then (dA n Γ [a]).map iRange1 else none)
      else if f = "enumerate" then (if glN Γ.nm f && Γ.bl.contains f && notStar a && isTupE tg then (dA n Γ [a]).map iEnumT else none)
      else (dE n Γ e).map iVal
    | .Call (.Name f _) [a, b] [] _ =>
      if f = "range" then (if glN Γ.nm f && Γ.bl.contains f && notStar a && notStar b then (dA n Γ [a, b]).map iRange2 else none)
      else if f = "zip" then (if glN Γ.nm f && Γ.bl.contains f && notStar a && notStar b && isTupE tg then (dA n Γ [a, b]).map iZipT else none)
      else (dE n Γ e).map iVal
    | .Set .. => none
    | _ => (dE n Γ e).map iVal
end
def dEb (n : Nat) (Γ : Gm) (e : Expr) : Option (PSt → Option Rs) := match e with
    | .Constant (.int i) _ _ => some (mC (.int i))
    | .Constant (.bool b) _ _ => some (mC (.bl b))
    | .Constant .none _ _ => some (mC .non)
    | .Constant (.str x) _ _ => some (mC (.str x))
    | .Name x _ => (Γ.var x).map mVar
    | .BinOp a op b _ => (match opF op, dE n Γ a, dE n Γ b with
      | some g, some ma, some mb => some (mAp (g2 g) (mCons ma (mCons mb mNil)))
      | _, _, _ => none)
    | .UnaryOp .USub a _ => (match dE n Γ a with
      | some ma => some (mAp (g1 negT) (mCons ma mNil))
      | none => none)
    | .UnaryOp .Not a _ => if okT a then (dE n Γ a).map mNot else none
    | .BoolOp op vs _ => dB n Γ op vs
    | .Compare a [op] [b] _ => (match cmpF op, dE n Γ a, dE n Γ b with
      | some g, some ma, some mb => if behindInMarks op b then none else some (mAp (g2 g) (mCons ma (mCons mb mNil)))
      | _, _, _ => none)
    | .IfExp c a b _ => if okT c then (match dE n Γ c, dE n Γ a, dE n Γ b with
      | some mc, some ma, some mb => some (mIf mc ma mb)
      | _, _, _ => none) else none
    | .List es _ => (dO n Γ es).map mLst
    | .Tuple es _ _ => (dA n Γ es).map mTup
    | .Subscript a k _ => (match k with
      | .Slice lo hi none _ => (match dE n Γ a, dP n Γ lo, dP n Γ hi with
        | some ma, some ml, some mh => some (mSl ma ml mh)
        | _, _, _ => none)
      | _ => if isSlice k then none else (match dE n Γ a, dE n Γ k with
        | some ma, some mk => some (mIx ma mk)
        | _, _ => none))
    | .Call (.Name f _) (e :: es) [] _ =>
      if plainN f && glN Γ.nm f then
        (if Γ.bl.contains f then
          (if f = "isinstance" then (match es with
            | [.Name c _] => if glN Γ.nm c && Γ.bl.contains c && plainN c && notStar e then (match tyName c, dE n Γ e with
              | some t, some m => some (mAp (g1 (isTyT t)) (mCons m mNil))
              | _, _ => none) else none
            | _ => none)
          else (
            (match bltG f, dA n Γ (e :: es) with
              | some g, some ms => some (mAp g ms)
              | _, _ => none)))
        else (match Γ.fns.lookup f, dA n Γ (e :: es) with
          | some F, some ms => some (mCall F.g ms)
          | _, _ => none))
      else none
    | .ListComp elt [⟨tg, iter, ifs, 0⟩] scope _ => dC n Γ elt tg iter ifs scope
    | _ => none
theorem dE_succ {n : Nat} {Γ : Gm} {e : Expr} : dE (n + 1) Γ e = dEb n Γ e := rfl
end Pu
end
set_option Elab.async false
set_option linter.all false
set_option maxRecDepth 100000
namespace Pu
open PySem PySem.Spec PyProof.Rows L2 Zw Zx
structure CxOk (Γ : Gm) (X : Cx) (E : L2.St → XK) (ca : Str → Value) : Prop where
  N : X.N = Γ.N
  nd : Γ.N.Nodup
  nm : X.env.scope.names = Γ.nm
  kd : X.env.scope.kind = .function
  calm : X.calm = true
  room : Room Γ.lv X.A
  ce : ∀ x ∈ Γ.ce, X.fn x = true ∧ Γ.nm.lookup x = some .cell
  bl : ∀ b ∈ Γ.bl, X.mg b = none
  ps : PassS X E
  po : PassesOwn (model X.prog X.w) X.A X.env X.xe
  md : MadeS X E
  fs : ∀ f F, Γ.fns.lookup f = some F → F.lv ≤ Γ.lv ∧ Nonempty (DefX X.prog X.w X.K X.mg X.base F.lv f F.ps (spP X.K ca F.g))
  ex : ∀ c ∈ Γ.ex, ∃ T : ECls X.K X.mg c, ca c = .ref T.C
  ms : ∀ f F, Γ.mus.lookup f = some F → F.lv ≤ Γ.lv ∧ Nonempty (DefX X.prog X.w X.K X.mg X.base F.lv f F.ps (spM X.K ca F.g))
theorem ixOf_get {N : List Str} {x : Str} {i : Nat} (h : ixOf N x = some i) : N[i]? = some x := by
  unfold ixOf at h
  obtain ⟨h1, h2, _⟩ := List.findIdx?_eq_some_iff_getElem.mp h
  rw [List.getElem?_eq_getElem h1]
  exact congrArg some (eq_of_beq h2)
theorem plainN_iff {x : Str} (h : plainN x = true) : (x == ("__debug__" : Str)) = false ∧ (x == ("__classdict__" : Str)) = false ∧ x ≠ "__name__" := by
  unfold plainN at h
  simp only [Bool.and_eq_true, Bool.not_eq_true'] at h; exact ⟨h.1.1, h.1.2, fun z => by
    have := h.2
    rw [z] at this
    simp at this⟩
theorem visN_iff {sc : Scope} {x : Str} (h : visN sc.names x = true) : Vis sc x := by
  unfold visN at h
  simp only [Bool.or_eq_true, beq_iff_eq] at h
  rcases h with (h | h) | h
  · exact .inl h
  · exact .inr (.inl h)
  · exact .inr (.inr h)
theorem star_ok {e : Expr} {es : List Expr} {env : Env} (h : notStar e = true) : starEach (e :: es) env = (false, eval e env) :: starEach es env := by
  cases e <;> first | rfl | cases h
theorem star_any : ∀ {es : List Expr} {env : Env} {pos : Pos}, (∀ e ∈ es, notStar e = true) → (backTo pos (starEach es env)).any (·.1) = false
  | [], env, pos, _ => rfl
  | e :: es, env, pos, h => by
    rw [star_ok (h e (List.mem_cons_self ..))]
    have ih := star_any (es := es) (env := env) (pos := pos) fun x hx => h x (List.mem_cons_of_mem _ hx)
    show (false || (backTo pos (starEach es env)).any (·.1)) = false
    rw [ih]
    rfl
theorem dA_stars : ∀ {n : Nat} {Γ : Gm} {es : List Expr} {ms : PSt → Option RsL}, dA n Γ es = some ms → ∀ e ∈ es, notStar e = true
  | 0, _, _, _, h => by cases h
  | n + 1, Γ, [], _, _ => fun e he => by cases he
  | n + 1, Γ, e :: es, ms, h => by
    unfold dA at h
    simp only at h
    split at h
    · rename_i hs
      split at h
      · rename_i m ms' h1 h2
        intro x hx; rcases List.mem_cons.mp hx with rfl | hx
        · exact hs
        · exact dA_stars h2 x hx
      · cases h
    · cases h
section
variable {Γ : Gm} {X : Cx} {E : L2.St → XK} {ca : Str → Value}
theorem CxOk.var (C : CxOk Γ X E ca) {x : Str} {i : Nat} {pos : Pos} (h : Γ.var x = some i) : X.N[i]? = some x ∧ Vis X.env.scope x ∧ (x == ("__debug__" : Str)) = false ∧ (x == ("__classdict__" : Str)) = false := by
  unfold Gm.var at h
  split at h
  · rename_i hp
    rw [Bool.and_eq_true] at hp
    obtain ⟨p1, p2, p3⟩ := plainN_iff hp.1
    exact ⟨by rw [C.N]; exact ixOf_get h, visN_iff (by rw [C.nm]; exact hp.2), p1, p2⟩
  · cases h
theorem CxOk.gl (C : CxOk Γ X E ca) {x : Str} (h : glN Γ.nm x = true) : Gl X x := by
  unfold glN at h
  show X.env.scope.names.lookup x = some .globalImplicit
  rw [C.nm]
  exact eq_of_beq h
theorem CxOk.loc (C : CxOk Γ X E ca) {x : Str} {i : Nat} (h : Γ.loc x = true) (hi : ixOf Γ.N x = some i) : X.N[i]? = some x ∧ Loc X.env.scope x ∧ (X.fn x = true ∨ X.env.scope.names.lookup x = some .local) := by
  unfold Gm.loc at h
  simp only [Bool.and_eq_true, Bool.or_eq_true, beq_iff_eq] at h
  refine ⟨by rw [C.N]; exact ixOf_get hi, ?_⟩
  rcases h.2 with h | h
  · exact ⟨.inl (by rw [C.nm]; exact h), .inr (by rw [C.nm]; exact h)⟩
  · obtain ⟨c1, c2⟩ := C.ce x (List.contains_iff_mem.mp h)
    exact ⟨.inr (by rw [C.nm]; exact c2), .inl c1⟩
theorem CxOk.nodup (C : CxOk Γ X E ca) : X.N.Nodup := by rw [C.N]; exact C.nd
theorem loc_nm (C : CxOk Γ X E ca) {x : Str} {i : Nat} {pos : Pos} (h1 : Γ.loc x = true) (h2 : ixOf Γ.N x = some i) : PG X (.Name x pos) (tGM X.K (bNm i)) := by
  obtain ⟨g1, g2, g3⟩ := C.loc h1 h2
  exact g_nm C.nodup g1 g2 g3
theorem dGs_ok (C : CxOk Γ X E ca) : ∀ {es : List Expr} {b : List T → PSt → Option PSt}, dGs Γ es = some b → PGs X es (tGMs X.K b) ∧ (assignEach es X.env).length = es.length ∧ (assignEach es X.env).findIdx? (·.1) = none
  | [], b, h => by
    cases h
    exact ⟨g_nil, rfl, rfl⟩
  | e :: es, b, h => by
    unfold dGs at h
    split at h
    · rename_i x p hn
      have hn := nmOf_is hn
      subst hn
      split at h
      · rename_i hl
        split at h
        · rename_i i b' h1 h2
          cases h
          obtain ⟨q1, q2, q3⟩ := dGs_ok C h2
          refine ⟨g_cons (loc_nm C hl h1) q1 rfl, ?_, ?_⟩
          · show (assignEach es X.env).length + 1 = es.length + 1
            rw [q2]
          · show List.findIdx? (·.1) ((false, assign (.Name x p) X.env) :: assignEach es X.env) = none
            rw [List.findIdx?_cons, q3]
            rfl
        · cases h
      · cases h
    · cases h
theorem dG_ok (C : CxOk Γ X E ca) {tg : Expr} {b : T → PSt → Option PSt} (h : dG Γ tg = some b) : PG X tg (tGM X.K b) := by
  unfold dG at h
  split at h
  · split at h
    · rename_i hl
      obtain ⟨i, hi, rfl⟩ := Option.map_eq_some_iff.mp h
      exact loc_nm C hl hi
    · cases h
  · obtain ⟨bs, hb, rfl⟩ := Option.map_eq_some_iff.mp h
    obtain ⟨q1, q2, q3⟩ := dGs_ok C hb
    exact g_tup C.calm q1 q2 q3
  · cases h
theorem opF_ok {op : Operator} {g : T → T → Option T} (h : opF op = some g) : OpR X (binaryOp op) (rT2 X.K g) := by
  cases op <;> cases h
  · exact opT_add
  · exact opT_sub
  · exact opT_mul
  · exact opT_mod
  · exact opT_pow
  · exact opT_bor
  · exact opT_band
  · exact opT_fdiv
theorem cmpF_ok (C : CxOk Γ X E ca) {op : CmpOp} {g : T → T → Option T} (h : cmpF op = some g) : OpR X (compareOp op) (rT2 X.K g) := by
  have hu := C.room.units
  cases op <;> cases h
  · exact opT_eq hu
  · exact opT_ne hu
  · exact opT_cmp op_lt
  · exact opT_cmp op_le
  · exact opT_cmp op_gt
  · exact opT_cmp op_ge
  · exact opT_is
  · exact opT_isNot
theorem bltG_ok (C : CxOk Γ X E ca) {f : Str} {g : List T → Option T} {e : Expr} {es : List Expr} {ms : PSt → Option RsL} {p pos : Pos} (h : bltG f = some g) (hg : glN Γ.nm f = true) (hb : f ∈ Γ.bl) (ha : PA X (e :: es) (tMs X.K E ca ms)) (hs : ∀ x ∈ e :: es, notStar x = true) (hp : plainN f = true) :
    PE X (.Call (.Name f p) (e :: es) [] pos) (tM X.K E ca (mAp g ms)) := by
  have G := C.gl hg
  have B := C.bl f hb
  obtain ⟨p1, p2, p3⟩ := plainN_iff hp
  have s1 := star_ok (es := es) (env := X.env) (hs e (List.mem_cons_self ..))
  have s2 := star_any (env := X.env) (pos := pos) fun x hx => hs x (List.mem_cons_of_mem e hx)
  unfold bltG at h
  split at h
  · rename_i hf; subst hf; cases h; exact r_bltF callT_len G B PySem.boot_len ha p3 p1 s1 s2
  split at h
  · rename_i hf; subst hf; cases h; exact r_bltT callT_list G B PyProof.Rows.boot_list ha p3 p1 s1 s2
  split at h
  · rename_i hf; subst hf; cases h; exact r_bltF callT_abs G B PyProof.Rows.boot_abs ha p3 p1 s1 s2
  split at h
  · rename_i hf; subst hf; cases h; exact r_bltF (callT_min C.calm) G B PyProof.Rows.boot_min ha p3 p1 s1 s2
  split at h
  · rename_i hf; subst hf; cases h; exact r_bltF (callT_any C.calm) G B PyProof.Rows.boot_any ha p3 p1 s1 s2
  · cases h
theorem tyName_ok {c : Str} {t : String} (h : tyName c = some t) : bootBuiltins c = some (.type t) := by
  unfold tyName at h
  split at h
  · rename_i hf; subst hf; cases h; exact PyProof.Rows.boot_int
  split at h
  · rename_i hf; subst hf; cases h; exact PyProof.Rows.boot_bool
  split at h
  · rename_i hf; subst hf; cases h; exact PyProof.Rows.boot_str
  split at h
  · rename_i hf; subst hf; cases h; exact PyProof.Rows.boot_list
  split at h
  · rename_i hf; subst hf; cases h; exact PyProof.Rows.boot_tuple
  · cases h
theorem capIx_get {N : List Str} : ∀ {ys : List Str} {caps : List Nat}, capIx N ys = some caps → ys.length = caps.length ∧ ∀ (k j : Nat), caps[k]? = some j → ∃ y, ys[k]? = some y ∧ N[j]? = some y
  | [], caps, h => by cases h; exact ⟨rfl, fun k j e => by simp at e⟩
  | y :: r, caps, h => by
    unfold capIx at h
    split at h
    · rename_i i hi
      split at h
      · rename_i l hl
        cases h
        obtain ⟨h1, h2⟩ := capIx_get hl
        refine ⟨by simp [h1], fun k j e => ?_⟩
        cases k with
        | zero => simp at e; subst e; exact ⟨y, rfl, ixOf_get hi⟩
        | succ k => exact h2 k j (by simpa using e)
      · cases h
    · cases h
theorem frees_mem {nm : List (Str × NameKind)} {y : Str} (h : y ∈ frees nm) : (y, NameKind.free) ∈ nm := by
  unfold frees at h
  obtain ⟨⟨z, k⟩, hz, e⟩ := List.mem_filterMap.mp h
  simp only at e
  split at e
  · rename_i hk
    cases e
    rw [← eq_of_beq hk]
    exact hz
  · cases e
theorem blk_ok (C : CxOk Γ X E ca) {scope : Scope} {tg : Expr} {caps : List Nat} (h : blkOk Γ scope (tgN tg ++ frees scope.names) = true) (hc : capIx Γ.N (frees scope.names) = some caps) : BlkOk X scope (tgN tg ++ frees scope.names) (tgN tg).length caps := by
  unfold blkOk at h
  simp only [Bool.and_eq_true] at h; obtain ⟨⟨⟨⟨h1, h2⟩, h3⟩, h4⟩, h5⟩ := h
  obtain ⟨l1, l2⟩ := capIx_get hc
  have free : ∀ y ∈ scope.names, y.2 = .free → scope.names.lookup y.1 = some .free ∧ (Γ.nm.lookup y.1 = some .cell ∨ Γ.nm.lookup y.1 = some .free) ∧ (y.1, NameKind.cell) ∉ scope.names := fun y hy hf => by
    have q := List.all_eq_true.mp h3 y hy
    simp only [hf, beq_self_eq_true, Bool.not_true, Bool.false_or, Bool.and_eq_true, beq_iff_eq, Bool.or_eq_true, Bool.not_eq_true'] at q
    refine ⟨q.1.1, q.1.2, fun z => ?_⟩
    have := List.contains_iff_mem.mpr z
    rw [this] at q
    exact Bool.noConfusion q.2
  refine ⟨eq_of_beq h1, fun y hy hl => ?_, by simp [l1], fun k j e => ?_, fun y hy hf => ?_⟩
  · have q := List.all_eq_true.mp h2 y hy
    simp only [hl, beq_self_eq_true, Bool.not_true, Bool.false_or, beq_iff_eq] at q
    exact q
  · obtain ⟨y, e1, e2⟩ := l2 k j e
    have fm := frees_mem (List.mem_of_getElem? e1)
    obtain ⟨f1, _, f3⟩ := free _ fm rfl
    refine ⟨y, by rw [C.N]; exact e2, ?_, f1, f3⟩
    rw [List.getElem?_append_right (by omega)]
    simpa using e1
  · obtain ⟨f1, f2, _⟩ := free y hy hf
    refine ⟨f1, ?_⟩
    rw [C.nm]
    exact f2
theorem relab_eq {scope : Scope} {env : Env} (hk : env.scope.kind = .function) : (relabel scope env).names = relabN scope.names env.scope.names := by
  unfold relabel relabN
  simp only
  refine List.map_congr_left fun x hx => ?_
  obtain ⟨n, k⟩ := x
  have e : (env.scope.kind == ScopeKind.function) = true := by rw [hk]; rfl
  simp only [e, Bool.and_true]
  rfl
theorem blk_cx (C : CxOk Γ X E ca) {scope : Scope} {N' : List Str} (h : blkOk Γ scope N' = true) (cl : List (Str × Addr)) (A : Addr) (s₀ : Shared) (H₀ : Hp) (ex : List Addr) : CxOk (Γ.blk scope N') (compCx2 X scope cl N' A s₀ H₀ ex) E00 ca := by
  unfold blkOk at h
  simp only [Bool.and_eq_true] at h; obtain ⟨⟨⟨⟨h1, h2⟩, h3⟩, h4⟩, h5⟩ := h
  refine ⟨rfl, of_decide_eq_true h4, ?_, ?_, C.calm, C.room, fun x hx => ?_, C.bl, ?_, PassesOwn.never, ?_, C.fs, C.ex, C.ms⟩
  · show (relabel scope X.env).names = relabN scope.names Γ.nm
    rw [relab_eq C.kd, C.nm]
  · show scope.kind = .function
    exact eq_of_beq h1
  · have hx' : x ∈ (cellsN scope.names).filter fun y => scope.names.lookup y == some .cell := hx
    rw [List.mem_filter] at hx'
    refine ⟨decide_eq_true (eq_of_beq hx'.2), ?_⟩
    exact eq_of_beq (List.all_eq_true.mp h5 x hx'.1)
  · exact pass00
  · exact fun _ _ _ _ _ _ _ _ _ _ z => z.elim
end
structure Good (ca : Str → Value) (n : Nat) : Prop where
  e : ∀ {Γ : Gm} {X : Cx} {E : L2.St → XK} {e : Expr} {m : PSt → Option Rs}, CxOk Γ X E ca → dE n Γ e = some m → PE X e (tM X.K E ca m)
  t : ∀ {Γ : Gm} {X : Cx} {E : L2.St → XK} {e : Expr} {m : PSt → Option Rs}, CxOk Γ X E ca → okT e = true → dE n Γ e = some m → PT X e (tMB X.K E ca m)
  a : ∀ {Γ : Gm} {X : Cx} {E : L2.St → XK} {es : List Expr} {m : PSt → Option RsL}, CxOk Γ X E ca → dA n Γ es = some m → PA X es (tMs X.K E ca m)
  o : ∀ {Γ : Gm} {X : Cx} {E : L2.St → XK} {es : List Expr} {m : PSt → Option RsL}, CxOk Γ X E ca → dO n Γ es = some m → PA X es (tMo X.K E ca m)
  b : ∀ {Γ : Gm} {X : Cx} {E : L2.St → XK} {op : BoolOp} {es : List Expr} {m : PSt → Option Rs} {pos : Pos}, CxOk Γ X E ca → dB n Γ op es = some m → PE X (.BoolOp op es pos) (tM X.K E ca m) ∧ PW X (.BoolOp op es pos) (tMB X.K E ca m)
  p : ∀ {Γ : Gm} {X : Cx} {E : L2.St → XK} {o : Option Expr} {m : Option (PSt → Option Rs)}, CxOk Γ X E ca → dP n Γ o = some m → PO X o (tPo X.K m)
  c : ∀ {Γ : Gm} {X : Cx} {E : L2.St → XK} {elt tg iter : Expr} {ifs : List Expr} {scope : Scope} {m : PSt → Option Rs} {pos : Pos}, CxOk Γ X E ca → dC n Γ elt tg iter ifs scope = some m → PE X (.ListComp elt [⟨tg, iter, ifs, 0⟩] scope pos) (tM X.K E ca m)
  i : ∀ {Γ : Gm} {X : Cx} {E : L2.St → XK} {tg e : Expr} {m : PSt → Option RsL}, CxOk Γ X E ca → dI n Γ tg e = some m → PI X tg e (tI X.K E ca m)
end Pu
set_option Elab.async false
set_option linter.all false
set_option maxRecDepth 100000
namespace Pu
open PySem PySem.Spec PyProof.Rows L2 Zw Zx
def notSet : Expr → Bool
  | .Set .. => false
  | _ => true
theorem fold_ok {e : Expr} {env : Env} (h : notSet e = true) (x : Value) : foldedSetIterable e env x = pure x := by
  cases e <;> first | rfl | cases h
theorem dI_notSet : ∀ {n : Nat} {Γ : Gm} {tg e : Expr} {m : PSt → Option RsL}, dI n Γ tg e = some m → notSet e = true := by
  intro n Γ tg e m h
  cases n with
  | zero => cases h
  | succ n =>
    cases e with
    | Set es k p => unfold dI at h; cases h
    | _ => rfl
theorem plain_ix {k : Expr} (h : isSlice k = false) : PlainIx k := fun o i => by
  cases k <;> first | rfl | cases h
theorem tval_ok {e : Expr} {env : Env} (h : match e with | .UnaryOp .. => False | .BoolOp .. => False | .IfExp .. => False | .Compare .. => False | _ => True) (whole : Sem Value) : isTrue e env whole = (do let v ← whole; standAt e.pos; holding [v] (truthy v)) := by
  cases e <;> first | rfl | exact False.elim h
section
variable {ca : Str → Value} {n : Nat}
theorem dC_parts (G : Good ca n) {Γ : Gm} {X : Cx} {E : L2.St → XK} {elt tg iter : Expr} {ifs : List Expr} {scope : Scope} {m : PSt → Option Rs} (C : CxOk Γ X E ca) (h : dC (n + 1) Γ elt tg iter ifs scope = some m) :
    ∃ caps mi b mt me, m = mLC (tgN tg).length caps mi b mt me ∧ BlkOk X scope (tgN tg ++ frees scope.names) (tgN tg).length caps ∧ PI X tg iter (tI X.K E ca mi) ∧
      (∀ cl A s₀ H₀ ex, PG (compCx2 X scope cl (tgN tg ++ frees scope.names) A s₀ H₀ ex) tg (tGM X.K b)) ∧ (∀ cl A s₀ H₀ ex, PTs (compCx2 X scope cl (tgN tg ++ frees scope.names) A s₀ H₀ ex) ifs (tMB X.K E00 ca mt)) ∧
      (∀ cl A s₀ H₀ ex, PE (compCx2 X scope cl (tgN tg ++ frees scope.names) A s₀ H₀ ex) elt (tM X.K E00 ca me)) ∧ ∀ x, foldedSetIterable iter X.env x = pure x := by
  unfold dC at h
  split at h
  · rename_i hb
    split at h
    · rename_i caps mi b me h1 h2 h3 h4
      have B := blk_ok C hb h1
      have PB := fun cl A s₀ H₀ ex => dG_ok (blk_cx C hb cl A s₀ H₀ ex) h3
      have PEl := fun cl A s₀ H₀ ex => G.e (blk_cx C hb cl A s₀ H₀ ex) h4
      split at h
      · cases h
        exact ⟨caps, mi, b, _, me, rfl, B, G.i C h2, PB, fun cl A s₀ H₀ ex => fun pins s σ H Q I q => pts_nil pins s σ H Q I (tMB_c (K := X.K) (E := E00) (ca := ca) q), PEl, fold_ok (dI_notSet h2)⟩
      · split at h
        · rename_i hok
          split at h
          · rename_i mt h5
            cases h
            exact ⟨caps, mi, b, mt, me, rfl, B, G.i C h2, PB, fun cl A s₀ H₀ ex => pts_one (G.t (blk_cx C hb cl A s₀ H₀ ex) hok h5), PEl, fold_ok (dI_notSet h2)⟩
          · cases h
        · cases h
      · cases h
    · cases h
  · cases h
theorem good0 (ca : Str → Value) : Good ca 0 := by
  constructor
  · intro Γ X E e m C h; cases h
  · intro Γ X E e m C _ h; cases h
  · intro Γ X E e m C h; cases h
  · intro Γ X E e m C h; cases h
  · intro Γ X E op e m pos C h; cases h
  · intro Γ X E e m C h; cases h
  · intro Γ X E elt tg iter ifs scope m pos C h; cases h
  · intro Γ X E tg e m C h; cases h
theorem dE_cmp (G : Good ca n) {Γ : Gm} {X : Cx} {E : L2.St → XK} {a : Expr} {ops : List CmpOp} {bs : List Expr} {pos : Pos} {m : PSt → Option Rs} (C : CxOk Γ X E ca) (h : dE (n + 1) Γ (.Compare a ops bs pos) = some m) :
    PE X (.Compare a ops bs pos) (tM X.K E ca m) ∧ PT X (.Compare a ops bs pos) (tMB X.K E ca m) := by
  cases ops with
  | nil => rw [dE_succ] at h; unfold dEb at h; cases h
  | cons op r =>
    cases r with
    | cons _ _ => rw [dE_succ] at h; unfold dEb at h; cases h
    | nil =>
      cases bs with
      | nil => rw [dE_succ] at h; unfold dEb at h; cases h
      | cons b r =>
        cases r with
        | cons _ _ => rw [dE_succ] at h; unfold dEb at h; cases h
        | nil =>
          rw [dE_succ] at h; unfold dEb at h
          simp only at h
          split at h
          · rename_i g ma mb h1 h2 h3
            split at h
            · cases h
            · rename_i hm
              cases h
              have hm' := Bool.eq_false_iff.mpr hm
              exact ⟨r_cmp (cmpF_ok C h1) (G.e C h2) (G.e C h3) hm', r_tcmp (cmpF_ok C h1) (G.e C h2) (G.e C h3) hm'⟩
          · cases h
theorem lc_dE {n : Nat} {Γ : Gm} {elt : Expr} {gens : List Comprehension} {scope : Scope} {pos : Pos} {m : PSt → Option Rs} (h : dE (n + 1) Γ (.ListComp elt gens scope pos) = some m) : ∃ tg iter ifs, gens = [⟨tg, iter, ifs, 0⟩] ∧ dC n Γ elt tg iter ifs scope = some m := by
  cases gens with
  | nil => rw [dE_succ] at h; unfold dEb at h; cases h
  | cons g r =>
    obtain ⟨tg, iter, ifs, a⟩ := g
    cases a with
    | negSucc k => rw [dE_succ] at h; unfold dEb at h; cases h
    | ofNat k =>
      cases k with
      | succ k => rw [dE_succ] at h; unfold dEb at h; cases h
      | zero =>
        cases r with
        | cons _ _ => rw [dE_succ] at h; unfold dEb at h; cases h
        | nil => exact ⟨tg, iter, ifs, rfl, by rw [dE_succ] at h; unfold dEb at h; exact h⟩
end
end Pu
set_option Elab.async false
set_option linter.all false
set_option maxRecDepth 100000
namespace Pu
open PySem PySem.Spec PyProof.Rows L2 Zw Zx
section
variable {ca : Str → Value} {n : Nat}
theorem dE_ok (G : Good ca n) {Γ : Gm} {X : Cx} {E : L2.St → XK} {e : Expr} {m : PSt → Option Rs} (C : CxOk Γ X E ca) (h : dE (n + 1) Γ e = some m) : PE X e (tM X.K E ca m) ∧ (okT e = true → PT X e (tMB X.K E ca m)) := by
  have val : ∀ {e : Expr} {m : PSt → Option Rs}, PE X e (tM X.K E ca m) → (match e with | .UnaryOp .. => False | .BoolOp .. => False | .IfExp .. => False | .Compare .. => False | _ => True) → PE X e (tM X.K E ca m) ∧ (okT e = true → PT X e (tMB X.K E ca m)) := fun h1 h2 => ⟨h1, fun _ => r_tval h1 (tval_ok h2)⟩
  cases e with
  | Compare a ops bs pos => exact ⟨(dE_cmp G C h).1, fun _ => (dE_cmp G C h).2⟩
  | Constant c k pos =>
    cases c with
    | int i => rw [dE_succ] at h; unfold dEb at h; cases h; exact val (r_const pe_int fun _ _ => .int i) trivial
    | bool b => rw [dE_succ] at h; unfold dEb at h; cases h; exact val (r_const pe_bl fun _ _ => .bl b) trivial
    | none => rw [dE_succ] at h; unfold dEb at h; cases h; exact val (r_const pe_non fun _ _ => .non) trivial
    | str x => rw [dE_succ] at h; unfold dEb at h; cases h; exact val (r_const pe_str fun _ _ => .str x) trivial
    | _ => rw [dE_succ] at h; unfold dEb at h; cases h
  | Name x pos =>
    rw [dE_succ] at h; unfold dEb at h
    obtain ⟨i, hi, rfl⟩ := Option.map_eq_some_iff.mp h
    obtain ⟨h1, h2, h3, h4⟩ := C.var (pos := pos) hi
    exact val (r_var h1 h2 h3 h4) trivial
  | BinOp a op b pos =>
    rw [dE_succ] at h; unfold dEb at h
    simp only at h
    split at h
    · rename_i g ma mb h1 h2 h3
      cases h
      exact val (r_bin (opF_ok h1) (G.e C h2) (G.e C h3)) trivial
    · cases h
  | UnaryOp op a pos =>
    cases op with
    | USub =>
      rw [dE_succ] at h; unfold dEb at h
      simp only at h
      split at h
      · rename_i ma h1
        cases h
        have hp := r_un (pos := pos) unT_neg (G.e C h1)
        exact ⟨hp, fun _ => r_tval hp fun _ => rfl⟩
      · cases h
    | Not =>
      rw [dE_succ] at h; unfold dEb at h
      simp only at h
      split at h
      · rename_i hok
        obtain ⟨ma, h1, rfl⟩ := Option.map_eq_some_iff.mp h
        exact ⟨r_not (G.e C h1), fun _ => r_tnot (G.t C hok h1)⟩
      · cases h
    | _ => rw [dE_succ] at h; unfold dEb at h; cases h
  | BoolOp op vs pos =>
    rw [dE_succ] at h; unfold dEb at h
    simp only at h
    obtain ⟨h1, h2⟩ := G.b (pos := pos) C h
    exact ⟨h1, fun _ => h2.pt⟩
  | IfExp c a b pos =>
    rw [dE_succ] at h; unfold dEb at h
    simp only at h
    split at h
    · rename_i hok
      split at h
      · rename_i mc ma mb h1 h2 h3
        cases h
        exact ⟨r_ife (G.t C hok h1) (G.e C h2) (G.e C h3), fun z => by cases z⟩
      · cases h
    · cases h
  | List es pos =>
    rw [dE_succ] at h; unfold dEb at h
    obtain ⟨ms, h1, rfl⟩ := Option.map_eq_some_iff.mp h
    exact val (r_lst (G.o C h1)) trivial
  | Tuple es k pos =>
    rw [dE_succ] at h; unfold dEb at h
    obtain ⟨ms, h1, rfl⟩ := Option.map_eq_some_iff.mp h
    exact val (r_tup (G.a C h1)) trivial
  | Subscript a k pos =>
    rw [dE_succ] at h; unfold dEb at h
    simp only at h
    split at h
    · rename_i lo hi p2
      split at h
      · rename_i ma ml mh h1 h2 h3
        cases h
        exact val (r_slice (G.e C h1) (G.p C h2) (G.p C h3)) trivial
      · cases h
    · split at h
      · cases h
      · rename_i hs
        split at h
        · rename_i ma mk h1 h2
          cases h
          exact val (r_ix (G.e C h1) (G.e C h2) (plain_ix (Bool.eq_false_iff.mpr hs))) trivial
        · cases h
  | ListComp elt gens scope pos =>
    obtain ⟨tg, iter, ifs, rfl, h⟩ := lc_dE h
    exact val (G.c C h) trivial
  | Call f args kws pos =>
    cases f with
    | Name f p =>
      cases args with
      | nil => rw [dE_succ] at h; unfold dEb at h; cases h
      | cons e es =>
        cases kws with
        | cons _ _ => rw [dE_succ] at h; unfold dEb at h; cases h
        | nil =>
          rw [dE_succ] at h; unfold dEb at h
          simp only at h
          split at h
          · rename_i hp
            rw [Bool.and_eq_true] at hp
            split at h
            · rename_i hb
              have hb' : f ∈ Γ.bl := List.contains_iff_mem.mp hb
              split at h
              · rename_i hf
                subst hf
                split at h
                · rename_i c p2
                  split at h
                  · rename_i hc
                    simp only [Bool.and_eq_true] at hc; split at h
                    · rename_i t m' h1 h2
                      cases h
                      obtain ⟨q1, q2, q3⟩ := plainN_iff hc.1.2
                      exact val (r_isT (tyName_ok h1) (C.gl hp.2) (C.bl _ hb') (C.gl hc.1.1.1) (C.bl _ (List.contains_iff_mem.mp hc.1.1.2)) q3 q1 (G.e C h2) (star_ok hc.2)) trivial
                    · cases h
                  · cases h
                · cases h
              ·
                split at h
                · rename_i g ms h1 h2
                  cases h
                  exact val (bltG_ok C h1 hp.2 hb' (G.a C h2) (dA_stars h2) hp.1) trivial
                · cases h
            · split at h
              · rename_i F ms h1 h2
                cases h
                obtain ⟨hl, ⟨D⟩⟩ := C.fs f F h1
                obtain ⟨q1, q2, q3⟩ := plainN_iff hp.1
                have hst := dA_stars h2
                exact val (r_call D C.room C.ps (G.a C h2) hl (C.gl hp.2) q1 (star_ok (hst e (List.mem_cons_self ..))) (star_any fun x hx => hst x (List.mem_cons_of_mem e hx))) trivial
              · cases h
          · cases h
    | _ => rw [dE_succ] at h; unfold dEb at h; cases h
  | _ => rw [dE_succ] at h; unfold dEb at h; cases h
theorem goodS (G : Good ca n) : Good ca (n + 1) := by
  constructor
  · intro Γ X E e m C h; exact (dE_ok G C h).1
  · intro Γ X E e m C hok h; exact (dE_ok G C h).2 hok
  · intro Γ X E es m C h
    unfold dA at h
    cases es with
    | nil => cases h; exact r_nil
    | cons e es =>
      simp only at h
      split at h
      · rename_i hs
        split at h
        · rename_i m1 ms h1 h2
          cases h
          exact r_cons (G.e C h1) (G.a C h2) (star_ok hs)
        · cases h
      · cases h
  · intro Γ X E es m C h
    unfold dO at h
    cases es with
    | nil => cases h; exact r_nilO
    | cons e es =>
      simp only at h
      split at h
      · rename_i hs
        split at h
        · rename_i m1 ms h1 h2
          cases h
          exact r_consO (G.e C h1) (G.o C h2) (star_ok hs)
        · cases h
      · cases h
  · intro Γ X E op es m pos C h
    unfold dB at h
    cases es with
    | nil => cases h
    | cons a r =>
      cases r with
      | nil =>
        simp only at h
        split at h
        · rename_i hok
          refine ⟨r_one (G.e C h), ?_⟩
          cases op with
          | And => exact r_wone1 (G.t C hok h)
          | Or => exact r_wone2 (G.t C hok h)
        · cases h
      | cons b r =>
        simp only at h
        split at h
        · rename_i hok
          split at h
          · rename_i ma mb h1 h2
            cases h
            obtain ⟨b1, b2⟩ := G.b (pos := pos) C h2
            exact ⟨r_and (G.e C h1) b1, r_wand (G.t C hok h1) b2⟩
          · rename_i ma mb h1 h2
            cases h
            obtain ⟨b1, b2⟩ := G.b (pos := pos) C h2
            exact ⟨r_or (G.e C h1) b1, r_wor (G.t C hok h1) b2⟩
          · cases h
        · cases h
  · intro Γ X E o m C h
    unfold dP at h
    cases o with
    | none => cases h; exact r_po0
    | some e =>
      simp only at h
      obtain ⟨m1, h1, rfl⟩ := Option.map_eq_some_iff.mp h
      exact r_po1 (G.e C h1)
  · intro Γ X E elt tg iter ifs scope m pos C h
    obtain ⟨caps, mi, b, mt, me, rfl, B, hi, hg, ht, he, hs⟩ := dC_parts G C h
    exact r_lcV B C.calm hi hg ht he hs
  · intro Γ X E tg e m C h
    have gen : ∀ {m : PSt → Option RsL}, (dE n Γ e).map iVal = some m → PI X tg e (tI X.K E ca m) := fun h => by
      obtain ⟨m1, h1, rfl⟩ := Option.map_eq_some_iff.mp h
      exact r_iVal (G.e C h1)
    unfold dI at h
    split at h
    · rename_i f p a pos
      split at h
      · rename_i hf
        subst hf
        split at h
        · rename_i hc
          simp only [Bool.and_eq_true] at hc; obtain ⟨ms, h1, rfl⟩ := Option.map_eq_some_iff.mp h
          exact r_range1 (C.gl hc.1.1) (C.bl _ (List.contains_iff_mem.mp hc.1.2)) (G.a C h1) (star_ok hc.2)
        · cases h
      · split at h
        · rename_i hf
          subst hf
          split at h
          · rename_i hc
            simp only [Bool.and_eq_true] at hc; obtain ⟨ms, h1, rfl⟩ := Option.map_eq_some_iff.mp h
            cases tg with
            | Tuple elts kk tpos => exact r_enum (C.gl hc.1.1.1) (C.bl _ (List.contains_iff_mem.mp hc.1.1.2)) (G.a C h1) (star_ok hc.1.2)
            | _ => exact Bool.noConfusion hc.2
          · cases h
        · exact gen h
    · rename_i f p a b pos
      split at h
      · rename_i hf
        subst hf
        split at h
        · rename_i hc
          simp only [Bool.and_eq_true] at hc; obtain ⟨ms, h1, rfl⟩ := Option.map_eq_some_iff.mp h
          have s2 := star_ok (es := []) (env := X.env) hc.2
          exact r_range2 (C.gl hc.1.1.1) (C.bl _ (List.contains_iff_mem.mp hc.1.1.2)) (G.a C h1) (by rw [star_ok hc.1.2, s2]; rfl) s2
        · cases h
      · split at h
        · rename_i hf
          subst hf
          split at h
          · rename_i hc
            simp only [Bool.and_eq_true] at hc; obtain ⟨ms, h1, rfl⟩ := Option.map_eq_some_iff.mp h
            have s2 := star_ok (es := []) (env := X.env) hc.1.2
            cases tg with
            | Tuple elts kk tpos => exact r_zip (C.gl hc.1.1.1.1) (C.bl _ (List.contains_iff_mem.mp hc.1.1.1.2)) (G.a C h1) (by rw [star_ok hc.1.1.2, s2]; rfl) s2
            | _ => exact Bool.noConfusion hc.2
          · cases h
        · exact gen h
    · cases h
    · exact gen h
theorem good (ca : Str → Value) : ∀ n, Good ca n
  | 0 => good0 ca
  | n + 1 => goodS (good ca n)
end
end Pu
set_option Elab.async false
set_option linter.all false
set_option maxRecDepth 100000
namespace Pu
open PySem PySem.Spec PyProof.Rows L2 Zw Zx
def pkB : List Str := ["len", "isinstance", "all", "any", "abs", "min", "max", "int"]
def useE : Nat → List Str → Expr → List Str
  | 0, _, _ => []
  | n + 1, pk, e =>
    let peek := fun (x : Expr) => match x with
      | .Name _ _ => []
      | x => useE n pk x
    match e with
    | .Name x _ => [x]
    | .BinOp a _ b _ => useE n pk a ++ useE n pk b
    | .UnaryOp _ a _ => useE n pk a
    | .BoolOp _ vs _ => vs.flatMap (useE n pk)
    | .Compare a _ bs _ => peek a ++ bs.flatMap peek
    | .IfExp c a b _ => useE n pk c ++ useE n pk a ++ useE n pk b
    | .Call (.Name f _) args [] _ => if pkB.contains f || pk.contains f then args.flatMap peek else args.flatMap (useE n pk)
    | .Subscript a k _ => (match k with
      | .Slice lo hi _ _ => useE n pk a ++ (match lo with | some e => useE n pk e | none => []) ++ (match hi with | some e => useE n pk e | none => [])
      | _ => peek a ++ useE n pk k)
    | .List es _ => es.flatMap (useE n pk)
    | .Tuple es _ _ => es.flatMap (useE n pk)
    | .ListComp _ [⟨_, iter, _, _⟩] scope _ => useE n pk iter ++ frees scope.names
    | _ => []
def useS (pk : List Str) : Stmt → List Str
  | .Expr (.Call (.Attribute (.Name _ _) _ _) [e] [] _) _ => useE 40 pk e
  | .Expr e _ => useE 40 pk e
  | .Return (some (.Name _ _)) _ => []
  | .Return (some e) _ => useE 40 pk e
  | .Assign [.Subscript (.Subscript _ k _) j _] e _ => useE 40 pk k ++ useE 40 pk j ++ useE 40 pk e
  | .Assign [.Subscript _ k _] e _ => useE 40 pk k ++ useE 40 pk e
  | .Assign [_] e _ => useE 40 pk e
  | .If c _ _ _ => useE 40 pk c
  | .For _ it _ _ _ => useE 40 pk it
  | .While c _ _ _ => useE 40 pk c
  | _ => []
def mvS (Γ : Gm) : Stmt → Bool
  | .Expr e _ => (match e with
    | .Call f es _ _ => (match f, es with
      | .Attribute _ _ _, [.Name y _] => Γ.mv.contains y
      | _, _ => false)
    | _ => false)
  | _ => false
def borS : Stmt → Bool
  | .If _ _ _ _ => true
  | .Assign ts _ _ => (match ts with
    | [t] => (nmOf t).isSome
    | _ => false)
  | _ => false
def borN (Γ : Gm) (e : Expr) : List Nat := ((useE 40 Γ.pk e).filter fun x => Γ.ow.contains x && Γ.mv.contains x).eraseDups.filterMap (ixOf Γ.N)
def borE (Γ : Gm) (e : Expr) (m : PSt → Option Rs) : PSt → Option Rs := borAll (borN Γ e) m
section
variable {X : Cx} {E : L2.St → XK} {ca : Str → Value} {Γ : Gm} {m : PSt → Option Rs} {e : Expr} {σ : L2.St} {H : Hp}
theorem tM_borE {Q : VK} (h : tM X.K E ca (borE Γ e m) σ H Q) : tM X.K E ca m σ H Q := tM_borAll _ h
theorem tMB_borE {Q : Bool → Hp → Prop} (h : tMB X.K E ca (borE Γ e m) σ H Q) : tMB X.K E ca m σ H Q := tMB_borAll _ h
theorem pe_borE (h : PE X e (tM X.K E ca m)) : PE X e (tM X.K E ca (borE Γ e m)) := PE.weak h fun σ H Q h => tM_borE h
theorem pt_borE (h : PT X e (tMB X.K E ca m)) : PT X e (tMB X.K E ca (borE Γ e m)) := fun pins s σ H Q I q => h pins s σ H Q I (tMB_borE q)
end
def frzs (Γ : Gm) (s : Stmt) : List Nat :=
  if mvS Γ s then [] else
  if borS s then ((useS Γ.pk s).filter fun x => Γ.ow.contains x && !(Γ.mv.contains x)).eraseDups.filterMap (ixOf Γ.N) else
  ((useS Γ.pk s).filter (Γ.ow.contains ·)).eraseDups.filterMap (ixOf Γ.N)
def frzAll (l : List Nat) (m : PSt → Option Out) : PSt → Option Out := l.foldr (fun i m => sSeq (sFrz i) m) m
def isComp : Expr → Bool
  | .ListComp .. => true
  | .SetComp .. => true
  | .DictComp .. => true
  | _ => false
def swp (Γ : Gm) (x : Str) (px : Pos) : Expr → Bool
  | .ListComp _ _ scope p => Γ.nm.lookup x == some .local && px.line == p.line && !(scope.names.any fun (n, k) => n == x && (k == .local || k == .cell))
  | _ => false
def swn (Γ : Gm) (x : Str) : Bool := Γ.nm.lookup x == some .cell
def sAsg (Γ : Gm) (x : Str) (i : Nat) (m : PSt → Option Rs) : PSt → Option Out := if Γ.ow.contains x then sOwn i m else sSet m (bNm i)
def sRse (c : Str) (ms : PSt → Option RsL) : PSt → Option Out := fun τ => match ms τ with
  | some (.v ts _) => if ts.length ≤ lim then some (.xc c τ) else none
  | some (.x c) => some (.xc c τ)
  | none => none
def par2 (Γ : Gm) (x y : Str) (px py : Pos) (a b : Expr) : Bool :=
  Γ.nm.lookup x == some .local && Γ.nm.lookup y == some .local && px.line == py.line && !(x == y) && notStar a && notStar b && !(foldedForSure 8 a && foldedForSure 8 b) && !(constantsAlone 8 a && constantsAlone 8 b) && plainN x && plainN y
def appOf : Expr → Option (Str × Pos × Str × Pos × Expr × Pos)
  | .Call f es ks c => (match f, es, ks with
    | .Attribute o f a, [e], [] => (match o with
      | .Name x p => some (x, p, f, a, e, c)
      | _ => none)
    | _, _, _ => none)
  | _ => none
theorem appOf_is {t : Expr} {x f : Str} {p a c : Pos} {e : Expr} (h : appOf t = some (x, p, f, a, e, c)) : t = .Call (.Attribute (.Name x p) f a) [e] [] c := by
  unfold appOf at h
  split at h
  · split at h
    · split at h
      · cases h; rfl
      · cases h
    · cases h
  · cases h
def clrOf : Expr → Option (Str × Pos × Str × Pos × Pos)
  | .Call f es ks c => (match f, es, ks with
    | .Attribute o f a, [], [] => (match o with
      | .Name x p => some (x, p, f, a, c)
      | _ => none)
    | _, _, _ => none)
  | _ => none
theorem clrOf_is {t : Expr} {x f : Str} {p a c : Pos} (h : clrOf t = some (x, p, f, a, c)) : t = .Call (.Attribute (.Name x p) f a) [] [] c := by
  unfold clrOf at h
  split at h
  · split at h
    · split at h
      · cases h; rfl
      · cases h
    · cases h
  · cases h
def tupOf : Expr → Option (List Expr × Nat × Pos)
  | .Tuple l k p => some (l, k, p)
  | _ => none
theorem tupOf_is {t : Expr} {l : List Expr} {k : Nat} {p : Pos} (h : tupOf t = some (l, k, p)) : t = .Tuple l k p := by
  unfold tupOf at h
  split at h
  · cases h; rfl
  · cases h
def parOf (ts : List Expr) (e : Expr) : Option ((Str × Pos) × (Str × Pos) × Expr × Expr × Nat × Pos) := match ts with
  | [t, u] => (match nmOf t, nmOf u, tupOf e with
    | some x, some y, some (l, k, p) => (match l with
      | [a, b] => some (x, y, a, b, k, p)
      | _ => none)
    | _, _, _ => none)
  | _ => none
theorem parOf_is {ts : List Expr} {e a b : Expr} {x y : Str} {px py p : Pos} {k : Nat} (h : parOf ts e = some ((x, px), (y, py), a, b, k, p)) : ts = [.Name x px, .Name y py] ∧ e = .Tuple [a, b] k p := by
  unfold parOf at h
  split at h
  · split at h
    · rename_i h1 h2 h3
      split at h
      · cases h
        exact ⟨by rw [nmOf_is h1, nmOf_is h2], tupOf_is h3⟩
      · cases h
    · cases h
  · cases h
def subOf : Expr → Option ((Str × Pos) × Expr × Pos)
  | .Subscript a k p => (match nmOf a with
    | some x => some (x, k, p)
    | none => none)
  | _ => none
theorem subOf_is {t k : Expr} {x : Str} {q p : Pos} (h : subOf t = some ((x, q), k, p)) : t = .Subscript (.Name x q) k p := by
  unfold subOf at h
  split at h
  · split at h
    · rename_i h1
      cases h
      rw [nmOf_is h1]
    · cases h
  · cases h
def rseOf (a b : Option Expr) : Option (Str × Pos × Expr × List Expr × Pos) := match a, b with
  | some a, none => (match a with
    | .Call f es ks c => (match nmOf f, es, ks with
      | some (x, p), e :: es, [] => some (x, p, e, es, c)
      | _, _, _ => none)
    | _ => none)
  | _, _ => none
theorem rseOf_is {a b : Option Expr} {x : Str} {p c : Pos} {e : Expr} {es : List Expr} (h : rseOf a b = some (x, p, e, es, c)) : a = some (.Call (.Name x p) (e :: es) [] c) ∧ b = none := by
  unfold rseOf at h
  split at h
  · split at h
    · split at h
      · rename_i h1
        cases h
        exact ⟨by rw [nmOf_is h1], rfl⟩
      · cases h
    · cases h
  · cases h
noncomputable def dAsg (n : Nat) (Γ : Gm) (t e : Expr) : Option (PSt → Option Out) := match t with
    | .Name x px => if Γ.loc x then (
     match ixOf Γ.N x, dE n Γ e with
      | some i, some m => if isComp e && !(swp Γ x px e) && !(swn Γ x) then none else some (sAsg Γ x i (borE Γ e m))
      | _, _ => none) else none
    | .Tuple ts kt pt => (match parOf ts e with
      | some ((x, px), (y, py), a, b, _, _) => if par2 Γ x y px py a b then (match ixOf Γ.N x, ixOf Γ.N y, dA n Γ [a, b] with
        | some i, some j, some ms => some (sPar i j ms)
        | _, _, _ => none) else none
      | none => if isTupE e || isComp e then none else (match dG Γ (.Tuple ts kt pt), dE n Γ e with
        | some b, some m => some (sSet m b)
        | _, _ => none))
    | .Subscript a j _ => (match subOf a with
      | some ((x, _), k, _) =>
        none
      | none => (match nmOf a with
        | some (x, _) => if isSlice j || isComp e then none else (match Γ.var x, dE n Γ j, dE n Γ e with
          | some i, some mk, some m => some (sSto i mk m)
          | _, _, _ => none)
        | none => none))
    | _ => none
def mutOf : Expr → Option (Str × Pos × Str × Pos × List Expr × Pos)
  | .Call f es ks c => (match f, es, ks with
    | .Name f p, e :: es, [] => (match nmOf e with
      | some (x, q) => some (f, p, x, q, es, c)
      | none => none)
    | _, _, _ => none)
  | _ => none
theorem mutOf_is {t : Expr} {f x : Str} {p q c : Pos} {es : List Expr} (h : mutOf t = some (f, p, x, q, es, c)) : t = .Call (.Name f p) (.Name x q :: es) [] c := by
  unfold mutOf at h
  split at h
  · split at h
    · split at h
      · rename_i hn
        cases h
        rw [nmOf_is hn]
      · cases h
    · cases h
  · cases h
noncomputable def dMu (n : Nat) (Γ : Gm) (e : Expr) : Option (PSt → Option Mo) := match mutOf e with
  | some (f, _, x, _, es, _) => if plainN f && glN Γ.nm f then (match Γ.mus.lookup f, Γ.var x, dA n Γ es with
    | some F, some i, some ms => some (mMut i F.g ms)
    | _, _, _ => none) else none
  | none =>
   none
def notOf : Expr → Option (Expr × Pos)
  | .UnaryOp .Not e p => some (e, p)
  | _ => none
theorem notOf_is {t e : Expr} {p : Pos} (h : notOf t = some (e, p)) : t = .UnaryOp .Not e p := by
  unfold notOf at h
  split at h
  · cases h; rfl
  · cases h
def mvOf (Γ : Gm) (f : Str) (a : Expr) : Option (Str × Pos) := if f = "append" then (match nmOf a with
  | some (y, p) => if Γ.mv.contains y then some (y, p) else none
  | none => none) else none
theorem mvOf_is {Γ : Gm} {f y : Str} {a : Expr} {p : Pos} (h : mvOf Γ f a = some (y, p)) : f = "append" ∧ a = .Name y p := by
  unfold mvOf at h
  split at h
  · rename_i hf
    split at h
    · rename_i hn
      split at h
      · cases h
        exact ⟨hf, nmOf_is hn⟩
      · cases h
    · cases h
  · cases h
noncomputable def dMuC (n : Nat) (Γ : Gm) (c : Expr) : Option (Bool × (PSt → Option Mo)) := match notOf c with
  | some (e, _) => (dMu n Γ e).map fun m => (true, m)
  | none => (dMu n Γ c).map fun m => (false, m)
mutual
noncomputable def dS : Nat → Gm → Stmt → Option (PSt → Option Out)
  | 0, _, _ => none
  | n + 1, Γ, s => match s with
    | .Pass _ => some sNx
    | .Break _ => some sBk
    | .Continue _ => some sCt
    | .Return o _ => (match o with
      | none => if Γ.mu then some sRetMN else some sRetN
      | some e => if Γ.mu then (dE n Γ e).map sRetM else (dE n Γ e).map sRet)
    | .Expr e _ => (match appOf e with
      | some (x, _, f, apos, a, cpos) => if notStar a && (apos.endLine == cpos.line) then (
       match mvOf Γ f a with
       | some (y, _) => (match Γ.var x, Γ.var y with
         | some i, some j => some (sMv i j)
         | _, _ => none)
       | none =>
       match Γ.var x, dE n Γ a with
        | some i, some m => if f = "append" then some (sApp i m) else
          none
        | _, _ => none) else none
      | none => (match clrOf e with
        | some (x, _, f, apos, cpos) =>
          none
        | none => (
          if isComp e then none else (dE n Γ e).map sExp)))
    | .Assign ts e _ => (match ts with
      | [t] => dAsg n Γ t e
      | _ => none)
    | .If c a b _ => (match dMuC n Γ c with
      | some (neg, mm) => (match dSs n Γ a, dSs n Γ b with
        | some u, some w => some (sMuIf neg mm u w)
        | _, _ => none)
      | none => if okT c then (match dE n Γ c, dSs n Γ a, dSs n Γ b with
        | some mc, some u, some w => some (sIf (borE Γ c mc) u w)
        | _, _, _ => none) else none)
    | .For tg it body els _ => (match els with
      | [] => (match dI n Γ tg it, dG Γ tg, dSs n Γ body with
        | some mi, some b, some u => some (sFor mi b u)
        | _, _, _ => none)
      | _ => none)
    | .While c body els _ => (match els with
      | [] => if okT c then (match dE n Γ c, dSs n Γ body with
        | some mc, some u => some (sWh mc u)
        | _, _ => none) else none
      | _ => none)
    | .Raise a b _ =>
     (match rseOf a b with
      | some (c, _, e, es, _) => if Γ.ex.contains c && glN Γ.nm c && plainN c then (dA n Γ (e :: es)).map (sRse c) else none
      | none => none)
    | _ => none
noncomputable def dSs : Nat → Gm → List Stmt → Option (PSt → Option Out)
  | 0, _, _ => none
  | n + 1, Γ, ss => match ss with
    | [] => some sNx
    | [s] => (match dS n Γ s with
      | some m => some (frzAll (frzs Γ s) m)
      | none => none)
    | s :: r => (match dS n Γ s, dSs n Γ r with
      | some m, some ms => some (frzAll (frzs Γ s) (sSeq m ms))
      | _, _ => none)
end
section
variable {X : Cx} {E : L2.St → XK} {ca : Str → Value} {Γ : Gm} {mu : Bool}
theorem s_frzAll {rest : List Stmt} {w : PSt → Option Out} (h : PSs X rest (tS X.K E ca mu w)) : ∀ l : List Nat, PSs X rest (tS X.K E ca mu (frzAll l w))
  | [] => h
  | i :: r => s_frz (s_frzAll h r)
theorem swap_not {e : Expr} {t : Option Expr} {l : Nat} {env : Env} (h : isComp e = false) : swapsWith e t l env = pure false := by
  cases e <;> first | rfl | cases h
theorem blockKind_fn {env : Env} (h : env.scope.kind = .function) : env.blockKind = .function := by
  unfold Env.blockKind
  rw [h]
  rfl
theorem swap_yes (C : CxOk Γ X E ca) {elt : Expr} {gens : List Comprehension} {scope : Scope} {p px : Pos} {x : Str} {l : Nat} (h : swp Γ x px (.ListComp elt gens scope p) = true) : swapsWith (.ListComp elt gens scope p) (some (.Name x px)) l X.env = pure true := by
  have e : swapsWith (.ListComp elt gens scope p) (some (.Name x px)) l X.env = pure (X.env.blockKind == .function && X.env.kindOf x == some .local && px.line == p.line && !(scope.names.any fun (n, k) => n == x && (k == .local || k == .cell))) := rfl
  rw [e]
  unfold swp at h
  simp only [Bool.and_eq_true] at h; have k : X.env.kindOf x = some .local := by
    show X.env.scope.names.lookup x = some .local
    rw [C.nm]
    exact eq_of_beq h.1.1
  rw [blockKind_fn C.kd, k, h.1.2, h.2]
  rfl
theorem swap_no (C : CxOk Γ X E ca) {e : Expr} {px : Pos} {x : Str} {l : Nat} (h : swn Γ x = true) : swapsWith e (some (.Name x px)) l X.env = pure false := by
  have k : X.env.kindOf x = some .cell := by
    show X.env.scope.names.lookup x = some .cell
    rw [C.nm]
    exact eq_of_beq h
  have c : (some NameKind.cell == some NameKind.local) = false := rfl
  cases e <;> first | rfl | (unfold swapsWith; simp only [k, c, Bool.and_false, Bool.false_and])
theorem stores_yes (C : CxOk Γ X E ca) {x y : Str} {px py pt p2 : Pos} {kt k2 : Nat} {a b : Expr} (h : par2 Γ x y px py a b = true) : swappedStores [.Tuple [.Name x px, .Name y py] kt pt] (.Tuple [a, b] k2 p2) X.env = pure (some [x, y]) := by
  unfold par2 at h
  simp only [Bool.and_eq_true, Bool.not_eq_true', beq_iff_eq] at h
  obtain ⟨⟨⟨⟨⟨⟨⟨⟨⟨h1, h2⟩, h3⟩, h4⟩, h5⟩, h6⟩, h7⟩, h8⟩, _⟩, _⟩ := h
  have kx : X.env.kindOf x = some .local := by
    show X.env.scope.names.lookup x = some .local
    rw [C.nm]; exact h1
  have ky : X.env.kindOf y = some .local := by
    show X.env.scope.names.lookup y = some .local
    rw [C.nm]; exact h2
  have ed : ([x, y] : List Str).eraseDups = [x, y] := by
    have : (y == x) = false := by
      rw [beq_eq_false_iff_ne] at h4 ⊢
      exact Ne.symm h4
    simp [List.eraseDups_cons, this, h4]
  have f1 : (if (X.env.kindOf x == some NameKind.local && px.line == px.line) = true then some x else none) = some x := by rw [kx, beq_self_eq_true, beq_self_eq_true]; rfl
  have f2 : (if (X.env.kindOf y == some NameKind.local && py.line == px.line) = true then some y else none) = some y := by rw [ky, beq_self_eq_true, ← h3, beq_self_eq_true]; rfl
  unfold swappedStores
  dsimp only [List.length, List.any, List.all, List.filterMap, List.head?, Option.map, Option.getD, Expr.pos]
  simp only [f1, f2, ed]
  refine (if_neg ?_).trans ((if_neg ?_).trans ((if_neg ?_).trans ((if_neg ?_).trans (if_neg ?_))))
  · rw [blockKind_fn C.kd]
    decide
  · intro z
    rw [Bool.or_false, Bool.or_eq_true] at z
    rcases z with z | z
    · cases a <;> first | (cases h5; done) | (cases z; done)
    · cases b <;> first | (cases h6; done) | (cases z; done)
  · show ¬ ((2 != 2 || 2 != 2) = true)
    decide
  · rw [Bool.and_true, h7]
    exact Bool.false_ne_true
  · rw [Bool.and_true, h8]
    exact Bool.false_ne_true
theorem sole {t e : Expr} {l : Nat} {env : Env} (h : isComp e = false) : swapsWithSole [t] e l env = pure false := swap_not h
theorem sub_asg {o k : Expr} {pos : Pos} {env : Env} (h : isSlice k = false) (v : Value) : assign (.Subscript o k pos) env v = (do
      let ov ← holding [v] (eval o env); let iv ← holding [v, ov] (eval k env)
      standAt pos
      holding [v, ov, iv] (setItem ov iv v)
      release [v, ov, iv] []) := by
  cases k <;> first | rfl | cases h
theorem s_lcS {n : Nat} {elt : Expr} {gens : List Comprehension} {scope : Scope} {p px pos : Pos} {x : Str} {i : Nat} {m : PSt → Option Rs} (C : CxOk Γ X E ca) (h : dE n Γ (.ListComp elt gens scope p) = some m) (hw : swp Γ x px (.ListComp elt gens scope p) = true) (hi : ixOf Γ.N x = some i) :
    PS X (.Assign [.Name x px] (.ListComp elt gens scope p) pos) (tS X.K E ca mu (sAsg Γ x i (borE Γ (.ListComp elt gens scope p) m))) := by
  have lx : X.env.scope.names.lookup x = some .local := by
    unfold swp at hw
    simp only [Bool.and_eq_true] at hw
    rw [C.nm]
    exact eq_of_beq hw.1.1
  have hN : X.N[i]? = some x := by rw [C.N]; exact ixOf_get hi
  have main : PS X (.Assign [.Name x px] (.ListComp elt gens scope p) pos) (fun D σ H => tM X.K E ca m σ H fun v H1 => D.nx (σ.set i (some v)) H1) := by
    cases n with
    | zero => cases h
    | succ n =>
      obtain ⟨tg, iter, ifs, rfl, h⟩ := lc_dE h
      cases n with
      | zero => cases h
      | succ n =>
        obtain ⟨caps, mi, b, mt, me, rfl, B, hi', hg, ht, he, hs⟩ := dC_parts (good ca n) C h
        exact r_lcS B C.calm hi' hg ht he hs C.nodup hN lx (swap_yes C hw)
  unfold sAsg
  split
  · exact PS.weak main fun D σ H h => tM_borE (tS_own h)
  · exact PS.weak main fun D σ H h => tM_borE (tS_set (g := gName i) (fun _ _ _ _ z => gName_of z) h)
theorem s_asg {n : Nat} {e : Expr} {px pos : Pos} {x : Str} {i : Nat} {m : PSt → Option Rs} (C : CxOk Γ X E ca) (hl : Γ.loc x = true) (hi : ixOf Γ.N x = some i) (h : dE n Γ e = some m) (hc : (isComp e && !(swp Γ x px e) && !(swn Γ x)) = false) :
    PS X (.Assign [.Name x px] e pos) (tS X.K E ca mu (sAsg Γ x i (borE Γ e m))) := by
  have plain : (∀ l, swapsWith e (some (.Name x px)) l X.env = pure false) → PS X (.Assign [.Name x px] e pos) (tS X.K E ca mu (sAsg Γ x i (borE Γ e m))) := fun sw => by
    obtain ⟨g1, g2, g3⟩ := C.loc hl hi
    have he := pe_borE (Γ := Γ) ((good ca n).e C h)
    unfold sAsg
    split
    · exact s_ownN C.nodup g1 g2 he (sw _) g3
    · exact s_setN C.nodup g1 g2 he (sw _) g3
  cases hcomp : isComp e with
  | false => exact plain fun l => swap_not hcomp
  | true =>
    rw [hcomp] at hc
    cases hn : swn Γ x with
    | true => exact plain fun l => swap_no C hn
    | false =>
      rw [hn] at hc
      have hw : swp Γ x px e = true := by simpa using hc
      cases e with
      | ListComp elt gens scope p => exact s_lcS C h hw hi
      | _ => cases hw
theorem s_rse {c : Str} {e : Expr} {es : List Expr} {ms : PSt → Option RsL} {p cpos pos : Pos} (C : CxOk Γ X E ca) (hc : c ∈ Γ.ex) (hg : glN Γ.nm c = true) (hp : plainN c = true) (ha : PA X (e :: es) (tMs X.K E ca ms)) (hs : ∀ x ∈ e :: es, notStar x = true) :
    PS X (.Raise (some (.Call (.Name c p) (e :: es) [] cpos)) none pos) (tS X.K E ca mu (sRse c ms)) := by
  obtain ⟨T, hT⟩ := C.ex c hc
  obtain ⟨p1, p2, p3⟩ := plainN_iff hp
  refine PS.weak (ps_raise T C.calm C.md ha (C.gl hg) p1 (star_ok (hs e (List.mem_cons_self ..))) (star_any hs)) fun D σ H h => ?_
  obtain ⟨F, τ, R, S, q⟩ := h
  refine ⟨F, τ, R, S, ?_⟩
  unfold sRse at q
  cases hm : ms τ with
  | none => simp only [hm] at q
  | some r =>
    simp only [hm] at q
    cases r with
    | x c => exact fun F' H' e => q F' H' σ R e.stp0 (S.ext e)
    | v ts b =>
      intro F' H' xs e1 rs
      by_cases hz : ts.length ≤ lim
      · simp only [hz, if_true] at q
        refine ⟨by rw [← rs.1, ← lim_eq]; exact hz, ?_⟩
        have := q F' H' σ R e1.stp0 (S.ext e1)
        rw [hT] at this
        exact this
      · simp only [hz, if_false] at q
structure GoodS (ca : Str → Value) (n : Nat) : Prop where
  s : ∀ {Γ : Gm} {X : Cx} {E : L2.St → XK} {st : Stmt} {m : PSt → Option Out}, CxOk Γ X E ca → dS n Γ st = some m → PS X st (tS X.K E ca Γ.mu m)
  ss : ∀ {Γ : Gm} {X : Cx} {E : L2.St → XK} {st : List Stmt} {m : PSt → Option Out}, CxOk Γ X E ca → dSs n Γ st = some m → PSs X st (tS X.K E ca Γ.mu m)
end
theorem dAsg_ok {ca : Str → Value} {n : Nat} {Γ : Gm} {X : Cx} {E : L2.St → XK} {t e : Expr} {pos : Pos} {m : PSt → Option Out} (C : CxOk Γ X E ca) (h : dAsg n Γ t e = some m) : PS X (.Assign [t] e pos) (tS X.K E ca Γ.mu m) := by
  have GE := good ca n
  unfold dAsg at h
  split at h
  · rename_i x px
    split at h
    · rename_i hl
      split at h
      · rename_i i m1 h1 h2
        split at h
        · cases h
        · rename_i hc
          cases h
          exact s_asg C hl h1 h2 (Bool.eq_false_iff.mpr hc)
      · cases h
    · cases h
  · rename_i ts kt pt
    split at h
    · rename_i x px y py a b k2 p2 hpar
      obtain ⟨rfl, rfl⟩ := parOf_is hpar
      split at h
      · rename_i hp
        split at h
        · rename_i i j ms h1 h2 h3
          cases h
          have hp' := hp
          unfold par2 at hp'
          simp only [Bool.and_eq_true, Bool.not_eq_true', beq_iff_eq] at hp'
          obtain ⟨⟨⟨⟨⟨⟨⟨⟨⟨g1, g2⟩, g3⟩, g4⟩, _⟩, _⟩, _⟩, _⟩, _⟩, _⟩ := hp'
          have e1 : X.N[i]? = some x := by rw [C.N]; exact ixOf_get h1
          have e2 : X.N[j]? = some y := by rw [C.N]; exact ixOf_get h2
          have hij : i ≠ j := fun z => by
            subst z
            rw [e1] at e2
            cases e2
            simp at g4
          exact s_par C.calm C.nodup e1 e2 hij (by rw [C.nm]; exact g1) (by rw [C.nm]; exact g2) (GE.a C h3) (stores_yes C hp) rfl
        · cases h
      · cases h
    · split at h
      · cases h
      · rename_i hc
        split at h
        · rename_i b m1 h1 h2
          cases h
          have hc' : (isTupE e || isComp e) = false := Bool.eq_false_iff.mpr hc
          rw [Bool.or_eq_false_iff] at hc'
          refine s_setG (GE.e C h2) (dG_ok C h1) ?_ ?_ rfl
          · exact sole hc'.2
          · have ht := hc'.1
            cases e <;> first | rfl | cases ht
        · cases h
  · rename_i a j p3
    split at h
    · rename_i x p1 k p2 hsub
      have hsub := subOf_is hsub
      subst hsub
      cases h
    · split at h
      · rename_i x p1 hnm
        have hnm := nmOf_is hnm
        subst hnm
        split at h
        · cases h
        · rename_i hc
          split at h
          · rename_i i mk m1 h1 h2 h3
            have hc' : (isSlice j || isComp e) = false := Bool.eq_false_iff.mpr hc
            rw [Bool.or_eq_false_iff] at hc'
            obtain ⟨v1, v2, v3, v4⟩ := C.var (pos := p1) h1
            cases h
            refine s_sto v1 v2 v3 v4 (GE.e C h3) (GE.e C h2) (sole hc'.2) ?_ (sub_asg hc'.1)
            cases e <;> rfl
          · cases h
      · cases h
  · cases h
theorem dMu_ok {ca : Str → Value} {n : Nat} {Γ : Gm} {X : Cx} {E : L2.St → XK} {e : Expr} {m : PSt → Option Mo} (C : CxOk Γ X E ca) (h : dMu n Γ e = some m) : PE X e (tMM X.K E ca m) ∧ (∀ l, swapsWith e none l X.env = pure false) ∧ ∀ whole, isTrue e X.env whole = (do let v ← whole; standAt e.pos; holding [v] (truthy v)) := by
  have GE := good ca n
  unfold dMu at h
  split at h
  · rename_i f p x px es pos hm
    have hm := mutOf_is hm
    subst hm
    refine ⟨?_, fun l => rfl, fun whole => rfl⟩
    split at h
    · rename_i hc
      rw [Bool.and_eq_true] at hc
      split at h
      · rename_i F i ms h1 h2 h3
        cases h
        obtain ⟨hl, ⟨D⟩⟩ := C.ms _ _ h1
        obtain ⟨v1, v2, v3, v4⟩ := C.var (pos := px) h2
        exact r_callM D C.room C.ps v1 v2 v3 v4 (GE.a C h3) hl (C.gl hc.2) (plainN_iff hc.1).1 rfl (star_any (dA_stars h3))
      · cases h
    · cases h
  ·
    cases h
theorem dMuC_ok {ca : Str → Value} {n : Nat} {Γ : Gm} {X : Cx} {E : L2.St → XK} {c : Expr} {neg : Bool} {m : PSt → Option Mo} {sa sb : List Stmt} {u w : PSt → Option Out} {pos : Pos} {mu : Bool} (C : CxOk Γ X E ca) (h : dMuC n Γ c = some (neg, m)) (ha : PSs X sa (tS X.K E ca mu u)) (hb : PSs X sb (tS X.K E ca mu w)) : PS X (.If c sa sb pos) (tS X.K E ca mu (sMuIf neg m u w)) := by
  unfold dMuC at h
  split at h
  · rename_i e p hn
    have hn := notOf_is hn
    subst hn
    obtain ⟨m1, h1, e1⟩ := Option.map_eq_some_iff.mp h
    cases e1
    exact s_muIfN (dMu_ok C h1).1 (dMu_ok C h1).2.2 ha hb
  · obtain ⟨m1, h1, e1⟩ := Option.map_eq_some_iff.mp h
    cases e1
    exact s_muIf (dMu_ok C h1).1 (dMu_ok C h1).2.2 ha hb
theorem dS_ok {ca : Str → Value} {n : Nat} (G : GoodS ca n) {Γ : Gm} {X : Cx} {E : L2.St → XK} {st : Stmt} {m : PSt → Option Out} (C : CxOk Γ X E ca) (h : dS (n + 1) Γ st = some m) : PS X st (tS X.K E ca Γ.mu m) := by
  have GE := good ca n
  unfold dS at h
  split at h
  · cases h; exact s_pass
  · cases h; exact s_break
  · cases h; exact s_continue
  · split at h
    · split at h
      · rename_i hmu
        cases h
        rw [hmu]
        exact s_retMN
      · rename_i hmu
        cases h
        rw [Bool.eq_false_iff.mpr hmu]
        exact s_retN
    · split at h
      · rename_i hmu
        obtain ⟨m1, h1, rfl⟩ := Option.map_eq_some_iff.mp h
        rw [hmu]
        exact s_retM (GE.e C h1)
      · rename_i hmu
        rw [Bool.eq_false_iff.mpr hmu]
        obtain ⟨m1, h1, rfl⟩ := Option.map_eq_some_iff.mp h
        exact s_ret (GE.e C h1)
  · split at h
    · rename_i x p f apos e cpos happ
      have happ := appOf_is happ
      subst happ
      split at h
      · rename_i hc
        rw [Bool.and_eq_true] at hc
        split at h
        · rename_i y py hmv
          obtain ⟨rfl, rfl⟩ := mvOf_is hmv
          split at h
          · rename_i i j h1 h2
            cases h
            obtain ⟨v1, v2, v3, v4⟩ := C.var (pos := p) h1
            obtain ⟨w1, w2, w3, w4⟩ := C.var (pos := py) h2
            exact s_mv v1 v2 v3 v4 w1 w2 w3 w4 hc.2
          · cases h
        split at h
        · rename_i i m1 h1 h2
          obtain ⟨v1, v2, v3, v4⟩ := C.var (pos := p) h1
          have s1 := star_ok (es := []) (env := X.env) hc.1
          split at h
          · rename_i hf
            subst hf
            cases h
            exact s_app v1 v2 v3 v4 (GE.e C h2) s1 hc.2
          · cases h
        · cases h
      · cases h
    · split at h
      · rename_i x p f apos cpos hclr
        have hclr := clrOf_is hclr
        subst hclr
        cases h
      ·
        split at h
        · cases h
        · rename_i hc
          obtain ⟨m1, h1, rfl⟩ := Option.map_eq_some_iff.mp h
          exact s_exp (GE.e C h1) (swap_not (Bool.eq_false_iff.mpr hc))
  · split at h
    · exact dAsg_ok C h
    · cases h
  · rename_i c a b pos
    split at h
    · rename_i neg mm hmm
      split at h
      · rename_i u w h2 h3
        cases h
        exact dMuC_ok C hmm (G.ss C h2) (G.ss C h3)
      · cases h
    split at h
    · rename_i hok
      split at h
      · rename_i mc u w h1 h2 h3
        cases h
        exact s_if (pt_borE (GE.t C hok h1)) (G.ss C h2) (G.ss C h3)
      · cases h
    · cases h
  · split at h
    · split at h
      · rename_i mi b u h1 h2 h3
        cases h
        exact s_for C.po C.calm (GE.i C h1) (dG_ok C h2) (G.ss C h3) (fold_ok (dI_notSet h1))
      · cases h
    · cases h
  · split at h
    · split at h
      · rename_i hok
        split at h
        · rename_i mc u h1 h2
          cases h
          exact s_wh C.po (GE.t C hok h1) (G.ss C h2)
        · cases h
      · cases h
    · cases h
  ·
    split at h
    · rename_i c p e es cpos hr
      obtain ⟨rfl, rfl⟩ := rseOf_is hr
      split at h
      · rename_i hc
        simp only [Bool.and_eq_true] at hc; obtain ⟨ms, h1, rfl⟩ := Option.map_eq_some_iff.mp h
        exact s_rse C (List.contains_iff_mem.mp hc.1.1) hc.1.2 hc.2 (GE.a C h1) (dA_stars h1)
      · cases h
    · cases h
  · cases h
theorem goodSt (ca : Str → Value) : ∀ n, GoodS ca n
  | 0 => ⟨(fun C h => by cases h), (fun C h => by cases h)⟩
  | n + 1 => by
    have G := goodSt ca n
    refine ⟨fun C h => dS_ok G C h, fun {Γ X E st m} C h => ?_⟩
    unfold dSs at h
    cases st with
    | nil => cases h; exact s_nil
    | cons s r =>
      cases r with
      | nil =>
        simp only at h
        split at h
        · rename_i m1 h1
          cases h
          exact s_frzAll (s_one (G.s C h1)) _
        · cases h
      | cons s2 r =>
        simp only at h
        split at h
        · rename_i m1 ms h1 h2
          cases h
          exact s_frzAll (s_cons (G.s C h1) (G.ss C h2)) _
        · cases h
def runF (n : Nat) (u : PSt → Option Out) (ts : List T) : Option Ru := match u (ts.map some ++ List.replicate (n - ts.length) none) with
  | some (.rt t) => some (.ok t)
  | some (.nx _) => some (.ok .non)
  | some (.xc c _) => some (.exc c)
  | _ => none
def runP (k n : Nat) (u : PSt → Option Out) (ts : List T) : Option Ru := if ts.length = k then runF n u ts else none
theorem stp_ext {F H F' H' : Hp} {O' : Rg} {R : Nat → Rg} (hR : ∀ i a, ¬ R i a) (s : Stp F H (tot R) F' H' O') : Ext F H F' H' O' where
  hh := fun b u e => s.kp b u (fun ⟨i, z⟩ => hR i b z) e
  ff := s.ff
  fh := s.fh
  nb := fun b z => (s.nw b z).elim (fun ⟨i, w⟩ => absurd w (hR i b)) id
  nf := fun b u e => (s.nf b u e).elim .inl fun z => z.elim (fun ⟨i, w⟩ => absurd w (hR i b)) .inr
theorem start_st {K : PySem.W.Frag} {F H : Hp} {N : List Str} {ts : List T} {vs : List V} (fh : Same F H) (r : Rps K F ts vs) : StR K F H (start N vs) (ts.map some ++ List.replicate (N.length - ts.length) none) (fun _ => R0) := by
  have hl := r.1
  refine ⟨fh, by simp [L2.start, hl], fun i t e => ?_, fun _ _ z => z.elim, fun _ _ _ _ z => z.elim⟩
  unfold L2.start
  by_cases hi : i < ts.length
  · rw [List.getElem?_append_left (by simpa using hi), List.getElem?_map] at e
    obtain ⟨t', e1, e2⟩ := Option.map_eq_some_iff.mp e
    cases e2
    have hv : i < vs.length := by omega
    refine ⟨vs[i], ?_, (r.2 i t vs[i] e1 (List.getElem?_eq_getElem hv)).any⟩
    rw [List.getElem?_append_left (by simpa using hv), List.getElem?_map, List.getElem?_eq_getElem hv]
    rfl
  · rw [List.getElem?_append_right (by simp; omega)] at e
    obtain ⟨h1, h2⟩ := List.getElem?_eq_some_iff.mp e
    simp at h2
theorem fn_ok {P : Program} {w : World} {K : PySem.W.Frag} {mg : Str → Option Value} {base : Heap} {ca : Str → Value} {x qual : Str} {st : Stmt} {f : Addr} {fd : FuncData} {N ps : List Str} {k n : Nat} {Γ : Gm} {u : PSt → Option Out} (F : FunD K x qual st f fd) (S : FnScope N ps (defScope st))
    (hΓ : Γ.N = N) (hnm : Γ.nm = (defScope st).names) (hce : ∀ x ∈ Γ.ce, Γ.nm.lookup x = some .cell) (hlv : Γ.lv = k) (hbl : ∀ b ∈ Γ.bl, mg b = none)
    (hfs : ∀ f F, Γ.fns.lookup f = some F → F.lv ≤ k ∧ Nonempty (DefX P w K mg base F.lv f F.ps (spP K ca F.g))) (hex : ∀ c ∈ Γ.ex, ∃ T : ECls K mg c, ca c = .ref T.C)
    (hms : ∀ f F, Γ.mus.lookup f = some F → F.lv ≤ k ∧ Nonempty (DefX P w K mg base F.lv f F.ps (spM K ca F.g))) (hmu : Γ.mu = false) (hu : dSs n Γ (defBody st) = some u) : FnOk P w K mg base (CX1 P w) (k + 1) f fd ps (spP K ca (runP ps.length N.length u)) := by
  refine okX F S (fun vs H Q E h => ?_) fun cdv A outer s H vs Q E hr h => ?_
  · obtain ⟨F', ts, _, r, q⟩ := h
    unfold runP at q
    by_cases hl : ts.length = ps.length
    · rw [← r.1, hl]
    · simp only [hl, if_false] at q
  · have C : CxOk Γ (cxOf (CX1 P w) P w K mg base N qual (defScope st) f cdv A outer s H E) (fun _ => E) ca := by
      refine ⟨hΓ.symm, by rw [hΓ]; exact S.nd, hnm.symm, S.kind, rfl, by rw [hlv]; exact hr, fun y hy => ⟨rfl, hce y hy⟩, hbl, passD, PassesOwn.leaving, madeD, fun f F e => by rw [hlv]; exact hfs f F e, hex, fun f F e => by rw [hlv]; exact hms f F e⟩
    have G := (goodSt ca n).ss C hu
    rw [hmu] at G
    refine ⟨_, G, ?_⟩
    obtain ⟨F', ts, fh, r, q⟩ := h
    refine ⟨F', _, _, start_st fh r, ?_⟩
    unfold runP at q
    by_cases hl : ts.length = ps.length
    · simp only [hl, if_true] at q
      unfold runF at q
      cases ho : u (ts.map some ++ List.replicate (N.length - ts.length) none) with
      | none => simp only [ho] at q
      | some o =>
        simp only [ho] at q
        cases o with
        | nx τ => exact fun F1 H1 σ1 R1 s1 S1 => q F1 H1 .non R0 ((stp_ext (fun _ _ z => z) s1).mono fun _ z => z.elim) .non
        | rt t => exact fun F1 H1 x B s1 r1 => q F1 H1 x B (stp_ext (fun _ _ z => z) s1) r1
        | bk τ => exact q.elim
        | ct τ => exact q.elim
        | xc c τ => exact fun F1 H1 σ1 R1 s1 S1 => q F1 H1 ((stp_ext (fun _ _ z => z) s1).mono fun _ z => z.elim)
    · simp only [hl, if_false] at q
def runM (k n : Nat) (u : PSt → Option Out) (ts : List T) : Option Ru := if ts.length = k then (match u (ts.map some ++ List.replicate (n - ts.length) none) with
  | some (.rt t) => some (.ok t)
  | some (.nx τ) => (match retAt .non τ with
    | some (.rt t) => some (.ok t)
    | _ => none)
  | some (.xc c _) => some (.exc c)
  | _ => none) else none
end Pu
set_option Elab.async false
set_option linter.all false
set_option maxRecDepth 100000
namespace Pu
open PySem PySem.Spec PyProof.Rows L2 Zw Zx
theorem all_nil {α : Type} {P : α → Prop} : ∀ x ∈ ([] : List α), P x := fun _ h => by cases h
theorem all_cons {α : Type} {P : α → Prop} {a : α} {l : List α} (h : P a) (r : ∀ x ∈ l, P x) : ∀ x ∈ a :: l, P x := fun x hx => by
  obtain rfl | hx := List.mem_cons.mp hx
  · exact h
  · exact r x hx
theorem usN {P : List Value → Prop} (h : P []) : ∀ us : List Value, us.length = 0 → P us := fun us e => by
  cases us with
  | nil => exact h
  | cons a r => cases e
theorem usS {P : List Value → Prop} {k : Nat} (h : ∀ a us, us.length = k → P (a :: us)) : ∀ us : List Value, us.length = k + 1 → P us := fun us e => by
  cases us with
  | nil => cases e
  | cons a r => exact h a r (Nat.succ.inj e)
theorem us1 {P : List Value → Prop} (h : ∀ a, P [a]) : ∀ us : List Value, us.length = 1 → P us := usS fun a => usN (h a)
theorem us2 {P : List Value → Prop} (h : ∀ a b, P [a, b]) : ∀ us : List Value, us.length = 2 → P us := usS fun a => usS fun b => usN (h a b)
theorem us3 {P : List Value → Prop} (h : ∀ a b c, P [a, b, c]) : ∀ us : List Value, us.length = 3 → P us := usS fun a => usS fun b => usS fun c => usN (h a b c)
section
variable {P : Program} {w : World} {K : PySem.W.Frag} {mg : Str → Option Value} {base : Heap} {ca : Str → Value} {k : Nat}
theorem fns_nil : ∀ f F, ([] : List (Str × Fn)).lookup f = some F → F.lv ≤ k ∧ Nonempty (DefX P w K mg base F.lv f F.ps (spP K ca F.g)) := fun _ _ h => by cases h
theorem fns_cons {x : Str} {F0 : Fn} {l : List (Str × Fn)} (hk : F0.lv ≤ k) (D : DefX P w K mg base F0.lv x F0.ps (spP K ca F0.g)) (r : ∀ f F, l.lookup f = some F → F.lv ≤ k ∧ Nonempty (DefX P w K mg base F.lv f F.ps (spP K ca F.g))) :
    ∀ f F, ((x, F0) :: l).lookup f = some F → F.lv ≤ k ∧ Nonempty (DefX P w K mg base F.lv f F.ps (spP K ca F.g)) := fun f F h => by
  rw [List.lookup_cons] at h
  cases hf : f == x with
  | true =>
    rw [hf] at h
    cases h
    rw [eq_of_beq hf]
    exact ⟨hk, ⟨D⟩⟩
  | false => rw [hf] at h; exact r f F h
theorem mus_nil : ∀ f F, ([] : List (Str × Fn)).lookup f = some F → F.lv ≤ k ∧ Nonempty (DefX P w K mg base F.lv f F.ps (spM K ca F.g)) := fun _ _ h => by cases h
def spLaw (K : PySem.W.Frag) : Sp := fun vs H Q _ => ∃ (a : Addr) (ns : List Int), vs = [.ref a] ∧ SqL K H a (ns.map V.int) ∧ ns.length ≤ 63 ∧ ∀ H', Q (.bl true) H'
def scriptT (ns : List Int) : T := .nd false .rl (ns.map T.int)
theorem rps_ints {F : Hp} : ∀ ns : List Int, Rps K F (ns.map T.int) (ns.map V.int)
  | [] => .nil
  | n :: r => .cons (H := F) (.int n) (rps_ints r)
end
end Pu
set_option Elab.async false
set_option linter.all false
set_option maxRecDepth 100000
namespace Pu
open PySem PySem.Spec PyProof.Rows L2 Zw Zx
def pokeOf : Stmt → Option (Expr × Pos × Pos × Expr × Pos × Expr × Pos × Pos)
  | .Expr (.Call f es ks c) p => (match f, es, ks with
    | .Attribute o f a, [e], [] => if f = "append" then (match o with
      | .Subscript y k q => some (.Subscript y k q, q, a, e, c, y, p, p)
      | _ => none) else none
    | _, _, _ => none)
  | _ => none
theorem pokeOf_is {t : Stmt} {o e y : Expr} {q a c p p' : Pos} (h : pokeOf t = some (o, q, a, e, c, y, p, p')) : t = .Expr (.Call (.Attribute o "append" a) [e] [] c) p ∧ ∃ k, o = .Subscript y k q := by
  unfold pokeOf at h
  split at h
  · split at h
    · split at h
      · rename_i hf
        subst hf
        split at h
        · cases h
          exact ⟨rfl, _, rfl⟩
        · cases h
      · cases h
    · cases h
  · cases h
noncomputable def dL : Nat → Gm → List Stmt → Option (PSt → Option Out)
  | 0, _, _ => none
  | n + 1, Γ, ss => match ss with
    | [] => none
    | s :: r => (match pokeOf s with
      | some (o, _, a, e, c, _, _, _) => if notStar e && (a.endLine == c.line) then (match dE n Γ o, dE n Γ e, dSs n Γ r with
        | some mo, some ma, some w => some (sSeq (sPoke mo ma) w)
        | _, _, _ => none) else none
      | none => (match dS n Γ s, dL n Γ r with
        | some m, some ms => some (frzAll (frzs Γ s) (sSeq m ms))
        | _, _ => none))
theorem l_frzAll {X : Cx} {rest : List Stmt} {w : PSt → Option Out} (h : PSs X rest (tL X.K w)) : ∀ l : List Nat, PSs X rest (tL X.K (frzAll l w))
  | [] => h
  | i :: r => PSs.weak (l_frzAll h r) fun D σ H z => tL_frz z
theorem dL_ok {ca : Str → Value} : ∀ {n : Nat} {Γ : Gm} {X : Cx} {E : L2.St → XK} {ss : List Stmt} {m : PSt → Option Out}, CxOk Γ X E ca → Γ.mu = false → dL n Γ ss = some m → PSs X ss (tL X.K m)
  | 0, Γ, X, E, ss, m, C, hmu, h => by cases h
  | n + 1, Γ, X, E, ss, m, C, hmu, h => by
    have GE := good ca n
    have GS := goodSt ca n
    unfold dL at h
    cases ss with
    | nil => cases h
    | cons s r =>
      simp only at h
      split at h
      · rename_i o q a e c y p p' hp
        obtain ⟨rfl, k, rfl⟩ := pokeOf_is hp
        split at h
        · rename_i hc
          rw [Bool.and_eq_true] at hc
          split at h
          · rename_i mo ma w h1 h2 h3
            cases h
            have g := GS.ss C h3
            rw [hmu] at g
            exact s_poke (GE.e C h1) (GE.e C h2) rfl (star_ok (es := []) (env := X.env) hc.1) hc.2 (PSs.weak g fun D σ H z => tL_tS z)
          · cases h
        · cases h
      · split at h
        · rename_i m1 ms h1 h2
          cases h
          have g := GS.s C h1
          rw [hmu] at g
          exact l_frzAll (PSs.weak (pss_cons g (dL_ok C hmu h2)) fun D σ H z => tL_seq z) _
        · cases h
def spB (K : PySem.W.Frag) (g : List T → Option Ru) : Sp := fun vs H Q E => ∃ F ts, Same F H ∧ Rps K F ts vs ∧ ∃ b, g ts = some (.ok (.bl b)) ∧ ∀ H', Q (.bl b) H'
theorem fn_okL {P : Program} {w : World} {K : PySem.W.Frag} {mg : Str → Option Value} {base : Heap} {ca : Str → Value} {x qual : Str} {st : Stmt} {f : Addr} {fd : FuncData} {N ps : List Str} {k n : Nat} {Γ : Gm} {u : PSt → Option Out} (F : FunD K x qual st f fd) (S : FnScope N ps (defScope st))
    (hΓ : Γ.N = N) (hnm : Γ.nm = (defScope st).names) (hce : ∀ x ∈ Γ.ce, Γ.nm.lookup x = some .cell) (hlv : Γ.lv = k) (hbl : ∀ b ∈ Γ.bl, mg b = none)
    (hfs : ∀ f F, Γ.fns.lookup f = some F → F.lv ≤ k ∧ Nonempty (DefX P w K mg base F.lv f F.ps (spP K ca F.g))) (hex : ∀ c ∈ Γ.ex, ∃ T : ECls K mg c, ca c = .ref T.C)
    (hms : ∀ f F, Γ.mus.lookup f = some F → F.lv ≤ k ∧ Nonempty (DefX P w K mg base F.lv f F.ps (spM K ca F.g))) (hmu : Γ.mu = false) (hu : dL n Γ (defBody st) = some u) : FnOk P w K mg base (CX1 P w) (k + 1) f fd ps (spB K (runP ps.length N.length u)) := by
  refine okX F S (fun vs H Q E h => ?_) fun cdv A outer s H vs Q E hr h => ?_
  · obtain ⟨F', ts, _, r, b, q, _⟩ := h
    unfold runP at q
    by_cases hl : ts.length = ps.length
    · rw [← r.1, hl]
    · rw [if_neg hl] at q; cases q
  · have C : CxOk Γ (cxOf (CX1 P w) P w K mg base N qual (defScope st) f cdv A outer s H E) (fun _ => E) ca := by
      refine ⟨hΓ.symm, by rw [hΓ]; exact S.nd, hnm.symm, S.kind, rfl, by rw [hlv]; exact hr, fun y hy => ⟨rfl, hce y hy⟩, hbl, passD, PassesOwn.leaving, madeD, fun f F e => by rw [hlv]; exact hfs f F e, hex, fun f F e => by rw [hlv]; exact hms f F e⟩
    refine ⟨_, dL_ok C hmu hu, ?_⟩
    obtain ⟨F', ts, fh, r, b, q, qq⟩ := h
    refine ⟨F', _, _, start_st fh r, ?_⟩
    unfold runP at q
    by_cases hl : ts.length = ps.length
    · rw [if_pos hl] at q
      unfold runF at q
      cases ho : u (ts.map some ++ List.replicate (N.length - ts.length) none) with
      | none =>
        rw [ho] at q
        cases q
      | some o =>
        rw [ho] at q
        cases o with
        | nx τ => cases q
        | rt t =>
          cases q
          exact qq
        | bk τ => cases q
        | ct τ => cases q
        | xc c τ => cases q
    · rw [if_neg hl] at q; cases q
theorem law_fnL {P : Program} {w : World} {K : PySem.W.Frag} {mg : Str → Option Value} {base : Heap} {k : Nat} {R : List T → Option Ru} {f : Addr} {fd : FuncData} (F : FnOk P w K mg base (CX1 P w) k f fd ["_law_script"] (spB K R)) (h : ∀ ns : List Int, ns.length ≤ 63 → R [scriptT ns] = some (.ok (.bl true))) : FnOk P w K mg base CX0 k f fd ["_law_script"] (spLaw K) := by
  refine ⟨fun vs H Q E hs => ?_, fun A outer s H args us vs Q E hr e0 hb hv hs => ?_⟩
  · obtain ⟨a, ns, rfl, _⟩ := hs
    rfl
  · obtain ⟨a, ns, rfl, hq, h63, q⟩ := hs
    refine codeAny_mono (F.run A outer s H args us _ Q E0 hr e0 hb hv ⟨H, [scriptT ns], .refl _, .cons (H := H) (Rps.of_node (k := .rl) hq (rps_ints ns)) .nil, true, h ns h63, q⟩) fun r s' hx => ?_
    cases r with
    | error v =>
      obtain ⟨_, _, _, _, _, _, _, _, _, _, _, _, _, z⟩ := hx
      exact z.elim
    | ok fl => cases fl <;> exact hx
end Pu
set_option Elab.async false
set_option linter.all false
set_option maxRecDepth 100000
namespace Pu
open PySem PySem.Spec PyProof.Rows L2 Zw Zx
theorem at0 {α : Type} {x : α} {l : List α} : atI (x :: l) (0 : Int) = some x := by
  have : atI (x :: l) ((0 : Nat) : Int) = some x := atI_nat rfl
  exact this
theorem at1 {α : Type} {x y : α} {l : List α} : atI (x :: y :: l) (1 : Int) = some y := by
  have : atI (x :: y :: l) ((1 : Nat) : Int) = some y := atI_nat rfl
  exact this
theorem at2 {α : Type} {x y z : α} {l : List α} : atI (x :: y :: z :: l) (2 : Int) = some z := by
  have : atI (x :: y :: z :: l) ((2 : Nat) : Int) = some z := atI_nat rfl
  exact this
abbrev fr (a b : Int) : T := .tup [.int a, .int b]
end Pu
namespace Pu
open PySem PySem.Spec PyProof.Rows L2 Zw Zx
section
variable {b : T → PSt → Option PSt} {body : PSt → Option Out} {mc : PSt → Option Rs}
theorem forGo_inv {ts : List T} {τ : PSt} (I : Nat → PSt → Prop) (h0 : I 0 τ) (hs : ∀ i t τ, ts[i]? = some t → I i τ → ∃ τ1, b t τ = some τ1 ∧ ∃ τ2, body τ1 = some (.nx τ2) ∧ I (i + 1) τ2) : ∃ τ', forGo b body ts τ = some (.nx τ') ∧ I ts.length τ' := by
  have key : ∀ (l : List T) (k : Nat) (τ : PSt), ts.drop k = l → k ≤ ts.length → I k τ → ∃ τ', forGo b body l τ = some (.nx τ') ∧ I ts.length τ' := by
    intro l
    induction l with
    | nil =>
      intro k τ hd hk hI
      have : k = ts.length := by
        have := congrArg List.length hd
        simp at this
        omega
      subst this
      exact ⟨τ, rfl, hI⟩
    | cons t l ih =>
      intro k τ hd hk hI
      have hlt : k < ts.length := by
        have := congrArg List.length hd
        simp at this
        omega
      rw [List.drop_eq_getElem_cons hlt] at hd
      injection hd with h1 h2
      obtain ⟨τ1, e1, τ2, e2, hI2⟩ := hs k t τ (by rw [List.getElem?_eq_getElem hlt, h1]) hI
      obtain ⟨τ', e3, h3⟩ := ih (k + 1) τ2 h2 hlt hI2
      exact ⟨τ', by unfold forGo; simp only [e1, e2]; exact e3, h3⟩
  exact key ts 0 τ rfl (Nat.zero_le _) h0
theorem forGo_ret {ts : List T} {τ : PSt} (I : Nat → PSt → Prop) (Qr : T → Prop) (h0 : I 0 τ) (hs : ∀ i t τ, ts[i]? = some t → I i τ → ∃ τ1, b t τ = some τ1 ∧ ((∃ τ2, (body τ1 = some (.nx τ2) ∨ body τ1 = some (.ct τ2)) ∧ I (i + 1) τ2) ∨ ∃ v, body τ1 = some (.rt v) ∧ Qr v)) :
    (∃ τ', forGo b body ts τ = some (.nx τ') ∧ I ts.length τ') ∨ ∃ v, forGo b body ts τ = some (.rt v) ∧ Qr v := by
  have key : ∀ (l : List T) (k : Nat) (τ : PSt), ts.drop k = l → k ≤ ts.length → I k τ → (∃ τ', forGo b body l τ = some (.nx τ') ∧ I ts.length τ') ∨ ∃ v, forGo b body l τ = some (.rt v) ∧ Qr v := by
    intro l
    induction l with
    | nil =>
      intro k τ hd hk hI
      have : k = ts.length := by
        have := congrArg List.length hd
        simp at this
        omega
      subst this
      exact .inl ⟨τ, rfl, hI⟩
    | cons t l ih =>
      intro k τ hd hk hI
      have hlt : k < ts.length := by
        have := congrArg List.length hd
        simp at this
        omega
      rw [List.drop_eq_getElem_cons hlt] at hd
      injection hd with h1 h2
      obtain ⟨τ1, e1, hb⟩ := hs k t τ (by rw [List.getElem?_eq_getElem hlt, h1]) hI
      rcases hb with ⟨τ2, e2, hI2⟩ | ⟨v, e2, hv⟩
      · rcases ih (k + 1) τ2 h2 hlt hI2 with ⟨τ', e3, h3⟩ | ⟨v, e3, h3⟩
        · refine .inl ⟨τ', ?_, h3⟩
          unfold forGo
          rcases e2 with e2 | e2 <;> simp only [e1, e2] <;> exact e3
        · refine .inr ⟨v, ?_, h3⟩
          unfold forGo
          rcases e2 with e2 | e2 <;> simp only [e1, e2] <;> exact e3
      · exact .inr ⟨v, by unfold forGo; simp only [e1, e2], hv⟩
  exact key ts 0 τ rfl (Nat.zero_le _) h0
theorem sWh_inv {τ : PSt} (I : PSt → Prop) (μ : PSt → Nat) (h0 : I τ) (hs : ∀ τ, I τ → (∃ bb, mc τ = some (.v (.bl true) bb) ∧ ∃ τ2, body τ = some (.nx τ2) ∧ I τ2 ∧ μ τ2 < μ τ) ∨ ∃ bb, mc τ = some (.v (.bl false) bb)) :
    ∃ τ', sWh mc body τ = some (.nx τ') ∧ I τ' ∧ ∃ bb, mc τ' = some (.v (.bl false) bb) := by
  have key : ∀ (n : Nat) (τ : PSt), μ τ < n → I τ → ∃ τ', whN mc body n τ = some (.nx τ') ∧ I τ' ∧ ∃ bb, mc τ' = some (.v (.bl false) bb) := by
    intro n
    induction n with
    | zero => intro τ h; exact absurd h (Nat.not_lt_zero _)
    | succ n ih =>
      intro τ hn hI
      rcases hs τ hI with ⟨bb, e1, τ2, e2, hI2, hm⟩ | ⟨bb, e1⟩
      · obtain ⟨τ', e3, h3⟩ := ih τ2 (by omega) hI2
        exact ⟨τ', by unfold whN; simp only [e1, e2]; exact e3, h3⟩
      · exact ⟨τ, by unfold whN; simp only [e1], hI, bb, e1⟩
  obtain ⟨τ', e, h⟩ := key (μ τ + 1) τ (Nat.lt_succ_self _) h0
  exact ⟨τ', sWh_of e, h⟩
theorem lcGo_map {me : PSt → Option Rs} {ts : List T} {τ : PSt} (I : Nat → PSt → Prop) (f : Nat → T) (h0 : I 0 τ) (hs : ∀ i t τ, ts[i]? = some t → I i τ → ∃ τ1, b t τ = some τ1 ∧ me τ1 = some (.v (f i) false) ∧ I (i + 1) τ1) :
    lcGo b (mC (.bl true)) me ts τ = some ((List.range ts.length).map f) := by
  have key : ∀ (l : List T) (k : Nat) (τ : PSt), ts.drop k = l → k ≤ ts.length → I k τ → lcGo b (mC (.bl true)) me l τ = some ((List.range' k l.length).map f) := by
    intro l
    induction l with
    | nil => intro k τ _ _ _; rfl
    | cons t l ih =>
      intro k τ hd hk hI
      have hlt : k < ts.length := by
        have := congrArg List.length hd
        simp at this
        omega
      rw [List.drop_eq_getElem_cons hlt] at hd
      injection hd with h1 h2
      obtain ⟨τ1, e1, e2, hI2⟩ := hs k t τ (by rw [List.getElem?_eq_getElem hlt, h1]) hI
      have e3 := ih (k + 1) τ1 h2 hlt hI2
      unfold lcGo
      simp only [e1, mC, e2, e3]
      simp [List.range'_succ]
  have := key ts 0 τ rfl (Nat.zero_le _) h0
  rw [this, ← List.range_eq_range']
end
theorem mulOk_r {i j : Int} (h : s64 j = true) : mulOk i j = true := by unfold mulOk; rw [h, Bool.or_true, Bool.true_or]
theorem mulOk_l {i j : Int} (h : s64 i = true) : mulOk i j = true := by unfold mulOk; rw [h, Bool.true_or, Bool.true_or]
theorem mulOk_s {i j : Int} (h1 : s70 i = true) (h2 : s70 j = true) : mulOk i j = true := by unfold mulOk; rw [h1, h2]; simp
theorem s64_of {i : Int} (h1 : -(2 ^ 64) < i) (h2 : i < 2 ^ 64) : s64 i = true := @decide_eq_true _ (Classical.propDecidable _) ⟨h1, h2⟩
theorem s70_of {i : Int} (h1 : -(10 ^ 70) < i) (h2 : i < 10 ^ 70) : s70 i = true := @decide_eq_true _ (Classical.propDecidable _) ⟨h1, h2⟩
theorem fm {i j : Int} (h : 0 < j) : i.fmod j = i % j := Int.fmod_eq_emod_of_nonneg i (by omega)
theorem fd {i j : Int} (h : 0 < j) : i.fdiv j = i / j := Int.fdiv_eq_ediv_of_nonneg i (by omega)
theorem eq_int {i j : Int} : eqT (.int i) (.int j) = some (.bl (i == j)) := by
  unfold eqT eqOk fitT eqvT
  simp only [T.data, PyData.canLay0, PyData.depth, PyData.eqv]
  simp
theorem ne_int {i j : Int} : neT (.int i) (.int j) = some (.bl (!(i == j))) := by
  unfold neT eqOk fitT eqvT
  simp only [T.data, PyData.canLay0, PyData.depth, PyData.eqv]
  simp
theorem ne_bl {i j : Bool} : neT (.bl i) (.bl j) = some (.bl (!(i == j))) := by
  unfold neT eqOk fitT eqvT
  simp only [T.data, PyData.canLay0, PyData.depth, PyData.eqv]
  simp
end Pu
namespace Pu
open PySem PySem.Spec PyProof.Rows L2 Zw Zx
mutual
def nbD : PyData → Bool
  | .bool _ => false
  | .dict _ => false
  | .list xs => nbDs xs
  | .tuple xs => nbDs xs
  | _ => true
def nbDs : List PyData → Bool
  | [] => true
  | x :: xs => nbD x && nbDs xs
end
mutual
theorem eqv_nb : ∀ d d' : PyData, nbD d = true → nbD d' = true → (PyData.eqv d d' = true ↔ d = d')
  | .none, d', _, h' => by cases d' <;> simp [PyData.eqv, nbD] at h' ⊢
  | .int i, d', _, h' => by cases d' <;> simp [PyData.eqv, nbD] at h' ⊢
  | .str x, d', _, h' => by cases d' <;> simp [PyData.eqv, nbD] at h' ⊢
  | .bool _, _, h, _ => by simp [nbD] at h
  | .dict _, _, h, _ => by simp [nbD] at h
  | .list xs, d', h, h' => by
    cases d' with
    | list ys =>
      have := eqvAll_nb xs ys (by simpa [nbD] using h) (by simpa [nbD] using h')
      simp only [PyData.eqv]
      rw [this]
      simp
    | _ => simp [PyData.eqv, nbD] at h' ⊢
  | .tuple xs, d', h, h' => by
    cases d' with
    | tuple ys =>
      have := eqvAll_nb xs ys (by simpa [nbD] using h) (by simpa [nbD] using h')
      simp only [PyData.eqv]
      rw [this]
      simp
    | _ => simp [PyData.eqv, nbD] at h' ⊢
theorem eqvAll_nb : ∀ xs ys : List PyData, nbDs xs = true → nbDs ys = true → (PyData.eqvAll xs ys = true ↔ xs = ys)
  | [], [], _, _ => by simp [PyData.eqvAll]
  | [], _ :: _, _, _ => by simp [PyData.eqvAll]
  | _ :: _, [], _, _ => by simp [PyData.eqvAll]
  | x :: xs, y :: ys, hx, hy => by
    simp only [nbDs, Bool.and_eq_true] at hx hy
    have h1 := eqv_nb x y hx.1 hy.1
    have h2 := eqvAll_nb xs ys hx.2 hy.2
    simp only [PyData.eqvAll, Bool.and_eq_true, h1, h2, List.cons.injEq]
end
structure Fit (t : T) (n : Nat) : Prop where
  fit : fitT t = true
  nb : nbD t.data = true
  dep : t.data.depth ≤ n
theorem Fit.int (i : Int) (n : Nat) : Fit (.int i) n := ⟨rfl, rfl, by simp [T.data, PyData.depth]⟩
theorem Fit.non (n : Nat) : Fit .non n := ⟨rfl, rfl, by simp [T.data, PyData.depth]⟩
theorem fit_all : ∀ {l : List T} {n : Nat}, (∀ t ∈ l, Fit t n) → PyData.canLayAll0 (dataL l) = true ∧ nbDs (dataL l) = true ∧ PyData.depthAll (dataL l) ≤ n
  | [], n, _ => ⟨rfl, rfl, Nat.zero_le _⟩
  | t :: r, n, h => by
    obtain ⟨h1, h2, h3⟩ := h t (List.mem_cons_self ..)
    obtain ⟨g1, g2, g3⟩ := fit_all (l := r) (n := n) fun x hx => h x (List.mem_cons_of_mem _ hx)
    unfold fitT at h1
    refine ⟨by rw [dataL, PyData.canLayAll0, h1, g1]; rfl, by rw [dataL, nbDs, h2, g2]; rfl, ?_⟩
    rw [dataL, PyData.depthAll]
    omega
theorem Fit.nd {o : Bool} {k : Kd} {l : List T} {n : Nat} (h : ∀ t ∈ l, Fit t n) : Fit (.nd o k l) (n + 1) := by
  obtain ⟨g1, g2, g3⟩ := fit_all h
  cases k <;> exact ⟨by simpa [fitT, T.data, PyData.canLay0] using g1, by simpa [T.data, nbD] using g2, by simpa [T.data, PyData.depth] using g3⟩
theorem Fit.tup {l : List T} {n : Nat} (h : ∀ t ∈ l, Fit t n) : Fit (.tup l) (n + 1) := Fit.nd h
theorem Fit.mono {t : T} {n m : Nat} (h : Fit t n) (hm : n ≤ m) : Fit t m := ⟨h.fit, h.nb, Nat.le_trans h.dep hm⟩
theorem Fit.fr (a b : Int) : Fit (Pu.fr a b) 1 := Fit.tup fun t ht => by
  simp only [List.mem_cons, List.not_mem_nil, or_false] at ht
  rcases ht with rfl | rfl <;> exact Fit.int _ _
open Classical in
theorem eq_fit {t u : T} {n m : Nat} (h : Fit t n) (h' : Fit u m) (hn : n ≤ 60) : eqT t u = some (.bl (decide (t.data = u.data))) ∧ neT t u = some (.bl (!decide (t.data = u.data))) := by
  have ok : eqOk t u = true := by
    unfold eqOk
    rw [h.fit, h'.fit, decide_eq_true (by have := h.dep; omega)]
    rfl
  have e : eqvT t u = decide (t.data = u.data) := by
    unfold eqvT
    rw [Bool.eq_iff_iff, eqv_nb _ _ h.nb h'.nb]
    simp
  unfold eqT neT
  rw [if_pos ok, if_pos ok, e]
  exact ⟨rfl, rfl⟩
theorem eq_same {t u : T} {n : Nat} (h : Fit t n) (hn : n ≤ 60) (e : t.data = u.data) (h' : Fit u n) : eqT t u = some (.bl true) ∧ neT t u = some (.bl false) := by
  have := eq_fit h h' hn
  simpa [e] using this
end Pu
namespace Pu
open PySem PySem.Spec PyProof.Rows L2 Zw Zx
theorem share_ints : ∀ ns : List Int, shareL (ns.map T.int) = ns.map T.int
  | [] => rfl
  | n :: r => by rw [List.map_cons, shareL, share_ints r]; rfl
theorem sh_ints : ∀ ns : List Int, shL (ns.map T.int) = true
  | [] => rfl
  | n :: r => by rw [List.map_cons, shL, sh_ints r]; rfl
theorem atI_lt {α : Type} {l : List α} {k : Int} {x : α} (h0 : 0 ≤ k) (h : l[k.toNat]? = some x) : atI l k = some x := by
  have : atI l ((k.toNat : Nat) : Int) = some x := atI_nat h
  rwa [Int.toNat_of_nonneg h0] at this
theorem cut_map {α β : Type} (f : α → β) (l : List α) (lo hi : Option Int) : cutL (l.map f) lo hi = (cutL l lo hi).map f := by
  unfold cutL
  simp [List.map_drop, List.map_take]
theorem cut_len {α : Type} (l : List α) (lo hi : Option Int) : (cutL l lo hi).length ≤ l.length := by
  unfold cutL
  simp only [List.length_take, List.length_drop]
  omega
end Pu
namespace Zm
end Zm
namespace Db
open PySem
theorem nand_mod (a b : Nat) : ((a &&& b) % 2 = 1) ↔ (a % 2 = 1 ∧ b % 2 = 1) := Nat.and_mod_two_eq_one
theorem odd_nat (a : Nat) : (a : Int) % 2 = 1 ↔ a % 2 = 1 := by omega
theorem odd_neg (a : Nat) : (Int.negSucc a) % 2 = 1 ↔ ¬ a % 2 = 1 := by omega
theorem odd_sub (a c : Nat) : ((a : Int) - (c : Int)) % 2 = 1 ↔ ¬ (a % 2 = 1 ↔ c % 2 = 1) := by omega
theorem band_odd (x y : Int) : Builtin.bitAnd x y % 2 = 1 ↔ (x % 2 = 1 ∧ y % 2 = 1) := by
  have ng : ∀ a : Nat, Builtin.bitNot (Int.negSucc a) = (a : Int) := fun a => by
    unfold Builtin.bitNot
    omega
  cases x with
  | ofNat a =>
    cases y with
    | ofNat b =>
      show ((a &&& b : Nat) : Int) % 2 = 1 ↔ ((a : Int) % 2 = 1 ∧ (b : Int) % 2 = 1)
      rw [odd_nat, odd_nat, odd_nat, nand_mod]
    | negSucc b =>
      show ((a : Int) - ((a &&& (Builtin.bitNot (Int.negSucc b)).toNat : Nat) : Int)) % 2 = 1 ↔ ((a : Int) % 2 = 1 ∧ (Int.negSucc b) % 2 = 1)
      rw [ng, Int.toNat_natCast, odd_sub, odd_nat, odd_neg, nand_mod]
      exact ⟨fun h => ⟨Classical.byContradiction fun z => h ⟨fun q => absurd q z, fun q => q.1⟩, fun z => h ⟨fun q => ⟨q, z⟩, fun q => q.1⟩⟩, fun h z => h.2 (z.mp h.1).2⟩
  | negSucc a =>
    cases y with
    | ofNat b =>
      show ((b : Int) - ((b &&& (Builtin.bitNot (Int.negSucc a)).toNat : Nat) : Int)) % 2 = 1 ↔ ((Int.negSucc a) % 2 = 1 ∧ (b : Int) % 2 = 1)
      rw [ng, Int.toNat_natCast, odd_sub, odd_nat, odd_neg, nand_mod]
      exact ⟨fun h => ⟨fun z => h ⟨fun q => ⟨q, z⟩, fun q => q.1⟩, Classical.byContradiction fun z => h ⟨fun q => absurd q z, fun q => q.1⟩⟩, fun h z => h.1 (z.mp h.2).2⟩
    | negSucc b =>
      show (Builtin.bitNot (((Builtin.bitNot (Int.negSucc a)).toNat ||| (Builtin.bitNot (Int.negSucc b)).toNat : Nat) : Int)) % 2 = 1 ↔ _
      have nb : ∀ c : Nat, Builtin.bitNot (c : Int) = Int.negSucc c := fun c => by
        unfold Builtin.bitNot
        omega
      rw [ng, ng, Int.toNat_natCast, Int.toNat_natCast, nb, odd_neg, odd_neg, odd_neg, Nat.or_mod_two_eq_one]
      exact not_or
theorem band_one (x : Int) : Builtin.bitAnd x 1 = x % 2 := by
  unfold Builtin.bitAnd Builtin.bitNot
  rcases Int.lt_or_le x 0 with hx | hx
  · rw [decide_eq_false (by omega), decide_eq_true (by omega)]
    have := Nat.and_one_is_mod ((-x - 1).toNat)
    rw [Nat.and_comm] at this
    simp only [Int.toNat_one]
    omega
  · rw [decide_eq_true (by omega), decide_eq_true (by omega)]
    have := Nat.and_one_is_mod (x.toNat)
    simp only [Int.toNat_one]
    omega
theorem bor_one (x y : Int) : Builtin.bitAnd (Builtin.bitOr x y) 1 = max (x % 2) (y % 2) := by
  rw [band_one]
  have h := band_odd (Builtin.bitNot x) (Builtin.bitNot y)
  unfold Builtin.bitOr
  generalize Builtin.bitAnd (Builtin.bitNot x) (Builtin.bitNot y) = c at *
  have nb : ∀ z : Int, Builtin.bitNot z % 2 = 1 - z % 2 := fun z => by
    unfold Builtin.bitNot
    omega
  rw [nb, nb] at h
  rw [nb]
  rcases Int.emod_two_eq x with e | e <;> rcases Int.emod_two_eq y with f | f <;> rw [e, f] at h ⊢ <;> rcases Int.emod_two_eq c with g | g <;> rw [g] at h ⊢ <;> revert h <;> decide
def bs (a b : Int) : Int := 2 * (a / 2 + b / 2) + min (a % 2) (b % 2)
theorem bs_eq (a b : Int) : a + b - max (a % 2) (b % 2) = bs a b := by unfold bs; omega
theorem bs_one (a : Int) : bs a 1 = a := by unfold bs; omega
theorem one_bs (a : Int) : bs 1 a = a := by unfold bs; omega
theorem bs_comm (a b : Int) : bs a b = bs b a := by unfold bs; omega
theorem min01 (a b : Int) : min (a % 2) (b % 2) = 0 ∨ min (a % 2) (b % 2) = 1 := by
  rcases Int.emod_two_eq a with e | e <;> rcases Int.emod_two_eq b with f | f <;> rw [e, f] <;> decide
theorem bs_div (a b : Int) : bs a b / 2 = a / 2 + b / 2 := by
  have h := min01 a b
  unfold bs
  generalize a / 2 + b / 2 = k at *
  generalize min (a % 2) (b % 2) = m at *
  omega
theorem bs_mod (a b : Int) : bs a b % 2 = min (a % 2) (b % 2) := by
  have h := min01 a b
  unfold bs
  generalize a / 2 + b / 2 = k at *
  generalize min (a % 2) (b % 2) = m at *
  omega
theorem bs_assoc (a b c : Int) : bs (bs a b) c = bs a (bs b c) := by
  show 2 * (bs a b / 2 + c / 2) + min (bs a b % 2) (c % 2) = 2 * (a / 2 + bs b c / 2) + min (a % 2) (bs b c % 2)
  rw [bs_div, bs_div, bs_mod, bs_mod, Int.add_assoc, Int.min_assoc]
theorem bs_mono {a b a' b' : Int} (h : a ≤ a') (h' : b ≤ b') : bs a b ≤ bs a' b' := by unfold bs; omega
abbrev B := Option Int
def le : B → B → Prop
  | _, none => True
  | none, some _ => False
  | some a, some b => a ≤ b
def add : B → B → B
  | some a, some b => some (bs a b)
  | _, _ => none
def mn : B → B → B
  | none, b => b
  | some a, none => some a
  | some a, some b => some (min a b)
theorem le_refl (a : B) : le a a := by cases a <;> simp [le]
theorem le_trans {a b c : B} (h : le a b) (h' : le b c) : le a c := by
  cases a <;> cases b <;> cases c <;> simp_all [le]
  omega
theorem le_anti {a b : B} (h : le a b) (h' : le b a) : a = b := by
  cases a <;> cases b <;> simp_all [le]
  omega
theorem add_mono {a b c d : B} (h : le a b) (h' : le c d) : le (add a c) (add b d) := by
  cases a <;> cases b <;> cases c <;> cases d <;> simp_all [le, add]
  exact bs_mono h h'
theorem add_comm (a b : B) : add a b = add b a := by
  cases a <;> cases b <;> simp [add, bs_comm]
theorem add_assoc (a b c : B) : add (add a b) c = add a (add b c) := by
  cases a <;> cases b <;> cases c <;> simp [add, bs_assoc]
theorem add_one (a : B) : add a (some 1) = a := by cases a <;> simp [add, bs_one]
theorem one_add (a : B) : add (some 1) a = a := by cases a <;> simp [add, one_bs]
theorem mn_le (a b : B) : le (mn a b) a := by
  cases a <;> cases b <;> simp [le, mn]
  omega
theorem mn_le' (a b : B) : le (mn a b) b := by
  cases a <;> cases b <;> simp [le, mn]
  omega
theorem le_mn {a b c : B} (h : le a b) (h' : le a c) : le a (mn b c) := by
  cases a <;> cases b <;> cases c <;> simp_all [le, mn]
  omega
theorem mn_of_le {a b : B} (h : le a b) : mn a b = a := le_anti (mn_le a b) (le_mn (le_refl a) h)
theorem mn_or (a b : B) : mn a b = a ∨ mn a b = b := by
  cases a <;> cases b <;> simp [mn]
  omega
abbrev Z := Nat → Nat → B
def free (i j : Nat) : B := if i = 0 ∨ i = j then some 1 else none
def z0 (f : Z) : Z := fun i j => mn (f i j) (free i j)
def stp (f : Z) (k : Nat) : Z := fun i j => mn (f i j) (add (f i k) (f k j))
def fw (f : Z) : Nat → Z
  | 0 => z0 f
  | k + 1 => stp (fw f k) k
def Brk (n : Nat) (f : Z) : Prop := ∃ i, i < n ∧ ¬ le (some 1) (f i i)
def Sound (n : Nat) (f : Z) : Prop := ∀ k, k < n → ¬ Brk n (fw f k)
theorem diag_le (f : Z) (i : Nat) : ∀ k, le (fw f k i i) (some 1)
  | 0 => by
    have h := mn_le' (f i i) (free i i)
    have e : free i i = some 1 := if_pos (.inr rfl)
    rw [e] at h
    show le (mn (f i i) (free i i)) _
    rw [e]
    exact h
  | k + 1 => le_trans (mn_le _ _) (diag_le f i k)
theorem fw_le (f : Z) (i j : Nat) : ∀ k, le (fw f k i j) (f i j)
  | 0 => mn_le _ _
  | k + 1 => le_trans (mn_le _ _) (fw_le f i j k)
theorem fw_le0 (f : Z) (i j : Nat) : ∀ k, le (fw f k i j) (z0 f i j)
  | 0 => le_refl _
  | k + 1 => le_trans (mn_le _ _) (fw_le0 f i j k)
theorem diag_one {n : Nat} {f : Z} {k i : Nat} (h : ¬ Brk n (fw f k)) (hi : i < n) : fw f k i i = some 1 := by
  refine le_anti (diag_le f i k) ?_
  cases Classical.em (le (some 1) (fw f k i i)) with
  | inl h1 => exact h1
  | inr h1 => exact (h ⟨i, hi, h1⟩).elim
theorem tri {n : Nat} {f : Z} (h : Sound n f) : ∀ k, k ≤ n → ∀ i j l, l < k → i < n → j < n → le (fw f k i j) (add (fw f k i l) (fw f k l j))
  | 0, _, _, _, l, hl, _, _ => by omega
  | k + 1, hk, i, j, l, hl, hi, hj => by
    have kk := diag_one (h k (by omega)) (show k < n by omega)
    have inv := tri h k (by omega)
    show le (stp (fw f k) k i j) (add (stp (fw f k) k i l) (stp (fw f k) k l j))
    generalize hg : fw f k = g at *
    by_cases e : l = k
    · subst e
      have e1 : stp g l i l = g i l := by unfold stp; rw [kk, add_one]; exact mn_of_le (le_refl _)
      have e2 : stp g l l j = g l j := by unfold stp; rw [kk, one_add]; exact mn_of_le (le_refl _)
      rw [e1, e2]
      exact mn_le' _ _
    · have lk : l < k := by omega
      have a1 : le (stp g k i j) (g i j) := mn_le _ _
      have a2 : le (stp g k i j) (add (g i k) (g k j)) := mn_le' _ _
      rcases mn_or (g i l) (add (g i k) (g k l)) with e1 | e1 <;> rcases mn_or (g l j) (add (g l k) (g k j)) with e2 | e2
      · have : stp g k i l = g i l := e1
        have e2' : stp g k l j = g l j := e2
        rw [this, e2']
        exact le_trans a1 (inv i j l lk hi hj)
      · have e1' : stp g k i l = g i l := e1
        have e2' : stp g k l j = add (g l k) (g k j) := e2
        rw [e1', e2', ← add_assoc]
        exact le_trans a2 (add_mono (inv i k l lk hi (by omega)) (le_refl _))
      · have e1' : stp g k i l = add (g i k) (g k l) := e1
        have e2' : stp g k l j = g l j := e2
        rw [e1', e2', add_assoc]
        exact le_trans a2 (add_mono (le_refl _) (inv k j l lk (by omega) hj))
      · have e1' : stp g k i l = add (g i k) (g k l) := e1
        have e2' : stp g k l j = add (g l k) (g k j) := e2
        rw [e1', e2', add_assoc, ← add_assoc (g k l)]
        refine le_trans a2 (add_mono (le_refl _) ?_)
        have := add_mono (inv k k l lk (by omega) (by omega)) (le_refl (g k j))
        rw [kk, one_add] at this
        exact this
structure Nar (n : Nat) (f : Z) : Prop where
  diag : ∀ i, i < n → f i i = some 1
  row : ∀ j, j < n → le (f 0 j) (some 1)
  tri : ∀ i j l, i < n → j < n → l < n → le (f i j) (add (f i l) (f l j))
theorem nar {n : Nat} {f : Z} (h : Sound n f) : Nar n (fw f n) := by
  have t := tri h n (Nat.le_refl n)
  refine ⟨fun i hi => ?_, fun j hj => ?_, fun i j l hi hj hl => t i j l hl hi hj⟩
  · refine le_anti (diag_le f i n) ?_
    cases n with
    | zero => omega
    | succ m =>
      have kk := diag_one (h m (by omega)) (show m < m + 1 by omega)
      have ii := diag_one (h m (by omega)) hi
      show le (some 1) (stp (fw f m) m i i)
      refine le_mn (by rw [ii]; exact le_refl _) ?_
      by_cases e : i = m
      · subst e
        rw [kk, add_one]
        exact le_refl _
      · have := Db.tri h m (by omega) m m i (by omega) (by omega) (by omega)
        rw [kk, add_comm] at this
        exact this
  · refine le_trans (fw_le0 f 0 j n) ?_
    have := mn_le' (f 0 j) (free 0 j)
    simp only [free, true_or, if_true] at this
    exact this
theorem nar_fw {n : Nat} {f : Z} (h : Nar n f) : ∀ k, k ≤ n → ∀ i j, i < n → j < n → fw f k i j = f i j
  | 0, _, i, j, hi, hj => by
    refine mn_of_le ?_
    unfold free
    by_cases e : i = 0 ∨ i = j
    · rw [if_pos e]
      rcases e with rfl | rfl
      · exact h.row j hj
      · rw [h.diag i hi]; exact le_refl _
    · rw [if_neg e]
      cases f i j <;> simp [le]
  | k + 1, hk, i, j, hi, hj => by
    have ih := nar_fw h k (by omega)
    show mn (fw f k i j) (add (fw f k i k) (fw f k k j)) = _
    rw [ih i j hi hj, ih i k hi (by omega), ih k j (by omega) hj]
    exact mn_of_le (h.tri i j k hi hj (by omega))
theorem nar_sound {n : Nat} {f : Z} (h : Nar n f) : Sound n f := by
  intro k hk ⟨i, hi, hb⟩
  rw [nar_fw h k (by omega) i i hi hi, h.diag i hi] at hb
  exact hb (le_refl _)
def sat (D : Int) : B → Int → Prop
  | none, _ => True
  | some c, d => d ≤ c / 2 * D - 1 + c % 2
theorem sat_add {D : Int} {a b : B} {d e : Int} (h : sat D a d) (h' : sat D b e) : sat D (add a b) (d + e) := by
  cases a <;> cases b <;> simp only [sat, add] at *
  rename_i a b
  have e1 : bs a b / 2 = a / 2 + b / 2 := by unfold bs; omega
  have e2 : bs a b % 2 = min (a % 2) (b % 2) := by unfold bs; omega
  rw [e1, e2, Int.add_mul]
  omega
theorem sat_le {D : Int} (hD : 0 < D) {a b : B} {d : Int} (h : sat D a d) (hl : le a b) : sat D b d := by
  cases a <;> cases b <;> simp only [sat, le] at *
  rename_i a b
  rcases Int.lt_or_le (a / 2) (b / 2) with q | q
  · have : (a / 2 + 1) * D ≤ b / 2 * D := Int.mul_le_mul_of_nonneg_right (by omega) (by omega)
    rw [Int.add_mul, Int.one_mul] at this
    omega
  · have : a / 2 = b / 2 := by omega
    rw [this] at h
    omega
theorem sat_mn {D : Int} {a b : B} {d : Int} (h : sat D a d) (h' : sat D b d) : sat D (mn a b) d := by
  rcases mn_or a b with e | e <;> rw [e] <;> assumption
def Lie (n : Nat) (D : Int) (X : Nat → Int) (f : Z) : Prop := ∀ i j, i < n → j < n → sat D (f i j) (X i - X j)
theorem lie_fw {n : Nat} {D : Int} {X : Nat → Int} {f : Z} (h0 : X 0 = 0) (hX : ∀ i, i < n → 0 ≤ X i) (h : Lie n D X f) : ∀ k, k ≤ n → Lie n D X (fw f k)
  | 0, _, i, j, hi, hj => by
    refine sat_mn (h i j hi hj) ?_
    unfold free
    split
    · rename_i e
      simp only [sat]
      rcases e with rfl | rfl
      · have := hX j hj
        omega
      · omega
    · trivial
  | k + 1, hk, i, j, hi, hj => by
    have ih := lie_fw h0 hX h k (by omega)
    refine sat_mn (ih i j hi hj) ?_
    have := sat_add (ih i k hi (by omega)) (ih k j (by omega) hj)
    rwa [show X i - X k + (X k - X j) = X i - X j by omega] at this
theorem lie_sound {n : Nat} {D : Int} (hD : 0 < D) {X : Nat → Int} {f : Z} (h0 : X 0 = 0) (hX : ∀ i, i < n → 0 ≤ X i) (h : Lie n D X f) : Sound n f := by
  intro k hk ⟨i, hi, hb⟩
  have q := lie_fw h0 hX h k (by omega) i i hi hi
  refine hb ?_
  cases e : fw f k i i with
  | none => trivial
  | some c =>
    rw [e] at q
    simp only [sat, le] at *
    rcases Int.lt_or_le (c / 2) 0 with q2 | q2
    · have : c / 2 * D ≤ -1 * D := Int.mul_le_mul_of_nonneg_right (by omega) (by omega)
      omega
    · rcases Int.lt_or_le 0 (c / 2) with q3 | q3
      · omega
      · have q4 : c / 2 = 0 := by omega
        rw [q4] at q
        omega
theorem lie_iff {n : Nat} {D : Int} (hD : 0 < D) {X : Nat → Int} {f : Z} (h0 : X 0 = 0) (hX : ∀ i, i < n → 0 ≤ X i) : Lie n D X (fw f n) ↔ Lie n D X f :=
  ⟨fun h i j hi hj => sat_le hD (h i j hi hj) (fw_le f i j n), fun h => lie_fw h0 hX h n (Nat.le_refl n)⟩
theorem sat_scale {b D : Int} (hb : 0 < b) (hD : 0 < D) {t X : Int} (h : X * b = t * D) (c : B) : sat b c t ↔ sat D c X := by
  cases c with
  | none => exact Iff.rfl
  | some c =>
    simp only [sat]
    have e0 : c % 2 = 0 ∨ c % 2 = 1 := by omega
    have k1 : ∀ m : Int, t ≤ m * b ↔ X ≤ m * D := by
      intro m
      constructor
      · intro q
        have := Int.mul_le_mul_of_nonneg_right q (Int.le_of_lt hD)
        rw [← h, Int.mul_assoc, Int.mul_comm b D, ← Int.mul_assoc] at this
        exact Int.le_of_mul_le_mul_right this hb
      · intro q
        have := Int.mul_le_mul_of_nonneg_right q (Int.le_of_lt hb)
        rw [h, Int.mul_assoc, Int.mul_comm D b, ← Int.mul_assoc] at this
        exact Int.le_of_mul_le_mul_right this hD
    have k2 : ∀ m : Int, t < m * b ↔ X < m * D := by
      intro m
      constructor
      · intro q
        have := Int.mul_lt_mul_of_pos_right q hD
        rw [← h, Int.mul_assoc, Int.mul_comm b D, ← Int.mul_assoc] at this
        exact Int.lt_of_mul_lt_mul_right this (Int.le_of_lt hb)
      · intro q
        have := Int.mul_lt_mul_of_pos_right q hb
        rw [h, Int.mul_assoc, Int.mul_comm D b, ← Int.mul_assoc] at this
        exact Int.lt_of_mul_lt_mul_right this (Int.le_of_lt hD)
    rcases e0 with e | e
    · have := k2 (c / 2)
      omega
    · have := k1 (c / 2)
      omega
def satB (D : Int) (c : B) (d : Int) : Bool := match c with
  | none => true
  | some c => decide (d ≤ c / 2 * D - 1 + c % 2)
theorem satB_iff {D : Int} {c : B} {d : Int} : satB D c d = true ↔ sat D c d := by
  cases c <;> simp [satB, sat]
theorem scale (v : Nat → Int × Int) : ∀ n : Nat, (∀ i, i < n → 0 < (v i).2) → ∃ (D : Int) (X : Nat → Int), 0 < D ∧ ∀ i, i < n → X i * (v i).2 = (v i).1 * D
  | 0, _ => ⟨1, fun _ => 0, by decide, fun i hi => by omega⟩
  | n + 1, h => by
    obtain ⟨D, X, hD, hX⟩ := scale v n fun i hi => h i (by omega)
    have hb := h n (by omega)
    refine ⟨D * (v n).2, fun i => if i = n then (v n).1 * D else X i * (v n).2, Int.mul_pos hD hb, fun i hi => ?_⟩
    show (if i = n then (v n).1 * D else X i * (v n).2) * (v i).2 = _
    by_cases e : i = n
    · subst e
      rw [if_pos rfl, Int.mul_assoc]
    · rw [if_neg e, Int.mul_assoc, Int.mul_comm (v n).2, ← Int.mul_assoc, hX i (by omega), Int.mul_assoc]
def zm (M : Nat → B) : Nat → B
  | 0 => some 0
  | i + 1 => M i
end Db
namespace Dw
open Db
def wt (f : Z) (i : Nat) : List Nat → Nat → B
  | [], j => f i j
  | a :: p, j => add (f i a) (wt f a p j)
theorem wt_app (f : Z) : ∀ (a : List Nat) (i k : Nat) (b : List Nat) (j : Nat), wt f i (a ++ k :: b) j = add (wt f i a k) (wt f k b j)
  | [], _, _, _, _ => rfl
  | x :: a, i, k, b, j => by
    show add (f i x) (wt f x (a ++ k :: b) j) = _
    rw [wt_app f a x k b j, ← add_assoc]
    rfl
theorem dom (f : Z) : ∀ (k : Nat) (p : List Nat) (i j : Nat), p.Nodup → (∀ x ∈ p, x < k) → le (fw f k i j) (wt (z0 f) i p j)
  | 0, [], i, j, _, _ => le_refl _
  | 0, a :: p, i, j, _, h => absurd (h a (List.mem_cons_self ..)) (by omega)
  | k + 1, p, i, j, hn, h => by
    by_cases hk : k ∈ p
    · obtain ⟨a, b, rfl⟩ := List.append_of_mem hk
      rw [List.nodup_append] at hn
      obtain ⟨na, nb, nab⟩ := hn
      rw [List.nodup_cons] at nb
      rw [wt_app]
      refine le_trans (mn_le' _ _) (add_mono (dom f k a i k na fun x hx => ?_) (dom f k b k j nb.2 fun x hx => ?_))
      · have h1 := h x (List.mem_append_left _ hx)
        have h2 : x ≠ k := nab x hx k (List.mem_cons_self ..)
        omega
      · have h1 := h x (List.mem_append_right _ (List.mem_cons_of_mem _ hx))
        have h2 : x ≠ k := fun e => nb.1 (e ▸ hx)
        omega
    · refine le_trans (mn_le _ _) (dom f k p i j hn fun x hx => ?_)
      have h1 := h x hx
      have h2 : x ≠ k := fun e => hk (e ▸ hx)
      omega
def tl (r : Nat → Nat) : Nat → Nat → List Nat
  | _, 0 => []
  | t, m + 1 => r (t + 1) :: tl r (t + 1) m
end Dw
set_option Elab.async false
set_option linter.all false
set_option maxRecDepth 100000
namespace Pu
open PySem PySem.Spec PyProof.Rows L2 Zw Zx
def mT (n : Nat) (g : Nat → T) : List T := (List.range n).map g
theorem nl0 : ((0 : Nat) : Int) = 0 := rfl
theorem nl1 : ((1 : Nat) : Int) = 1 := rfl
theorem nl2 : ((2 : Nat) : Int) = 2 := rfl
theorem nl3 : ((3 : Nat) : Int) = 3 := rfl
theorem nl4 : ((4 : Nat) : Int) = 4 := rfl
theorem nl5 : ((5 : Nat) : Int) = 5 := rfl
theorem nl6 : ((6 : Nat) : Int) = 6 := rfl
theorem nl7 : ((7 : Nat) : Int) = 7 := rfl
theorem nl8 : ((8 : Nat) : Int) = 8 := rfl
theorem nl9 : ((9 : Nat) : Int) = 9 := rfl
theorem lim_le {k : Nat} (h : k ≤ 100000) : (k ≤ lim) = True := eq_true (by unfold lim; omega)
theorem lim_lt {k : Nat} (h : k < 100000) : (k < lim) = True := eq_true (by unfold lim; omega)
section
variable {n : Nat} {g h : Nat → T}
theorem mT_len : (mT n g).length = n := by simp [mT]
theorem mT_get {i : Nat} (hi : i < n) : (mT n g)[i]? = some (g i) := by simp [mT, hi]
theorem mT_get_iff {i : Nat} {t : T} (e : (mT n g)[i]? = some t) : i < n ∧ t = g i := by
  have hi : i < n := by
    rcases Nat.lt_or_ge i n with q | q
    · exact q
    · rw [List.getElem?_eq_none (by rw [mT_len]; exact q)] at e
      cases e
  rw [mT_get hi] at e
  exact ⟨hi, by injection e with e; exact e.symm⟩
theorem mT_ext {l : List T} (hl : l.length = n) (h : ∀ i, i < n → l[i]? = some (g i)) : l = mT n g := by
  refine List.ext_getElem? fun i => ?_
  rcases Nat.lt_or_ge i n with q | q
  · rw [h i q, mT_get q]
  · rw [List.getElem?_eq_none (by omega), List.getElem?_eq_none (by rw [mT_len]; exact q)]
theorem mT_congr (e : ∀ i, i < n → g i = h i) : mT n g = mT n h := mT_ext mT_len fun i hi => by rw [mT_get hi, e i hi]
theorem mT_atN {k : Nat} (h1 : k < n) : atI (mT n g) (k : Int) = some (g k) := atI_nat (mT_get h1)
theorem mT_mem {t : T} (ht : t ∈ mT n g) : ∃ i, i < n ∧ t = g i := by
  obtain ⟨i, hi, e⟩ := List.mem_map.mp ht
  exact ⟨i, List.mem_range.mp hi, e.symm⟩
theorem shareL_mT : shareL (mT n g) = mT n fun i => (g i).share := by
  rw [shareL_map]
  unfold mT
  rw [List.map_map]
  rfl
theorem shL_mT (e : ∀ i, (g i).sh = true) : shL (mT n g) = true := by
  rw [shL_all, List.all_eq_true]
  intro t ht
  obtain ⟨i, -, rfl⟩ := mT_mem ht
  exact e i
theorem shL_mTi (xs : Nat → Int) : shL (mT n fun i => .int (xs i)) = true := shL_mT fun _ => rfl
theorem shL_mTf (u w : Nat → Int) : shL (mT n fun i => .nd false .tup [.int (u i), .int (w i)]) = true := shL_mT fun _ => rfl
theorem mT_app : mT n g ++ [g n] = mT (n + 1) g := by
  unfold mT
  rw [List.range_succ, List.map_append]
  rfl
theorem mT_push {α : Type} (t : α → T) (xs : Nat → α) (r : α) : mT n (fun j => t (xs j)) ++ [t r] = mT (n + 1) fun j => t (if j = n then r else xs j) := by
  rw [← mT_app, if_pos rfl, mT_congr (g := fun j => t (if j = n then r else xs j)) (h := fun j => t (xs j)) fun j hj => by rw [if_neg (by omega)]]
theorem enum_get : ∀ (l : List T) (k i : Nat) (t : T), l[i]? = some t → (enumT k l)[i]? = some (.tup [.int ((k + i : Nat) : Int), t])
  | [], _, _, _, e => by simp at e
  | x :: r, k, 0, t, e => by
    simp at e
    subst e
    rfl
  | x :: r, k, i + 1, t, e => by
    rw [enumT, List.getElem?_cons_succ]
    have := enum_get r (k + 1) i t (by simpa using e)
    rw [this, show k + 1 + i = k + (i + 1) by omega]
theorem enum_len : ∀ (l : List T) (k : Nat), (enumT k l).length = l.length
  | [], _ => rfl
  | x :: r, k => by rw [enumT, List.length_cons, List.length_cons, enum_len r]
theorem enum_mT : enumT 0 (mT n g) = mT n fun i => .tup [.int (i : Int), g i] := by
  refine mT_ext (by rw [enum_len, mT_len]) fun i hi => ?_
  rw [enum_get _ _ _ _ (mT_get hi), Nat.zero_add]
theorem zip_mT : zipT (mT n g) (mT n h) = mT n fun i => .tup [g i, h i] := by
  refine mT_ext (by simp [zipT, mT_len]) fun i hi => ?_
  unfold zipT
  rw [List.getElem?_zipWith, mT_get hi, mT_get hi]
theorem range_mT (lo : Int) : rangeT lo n = mT n fun i => .int (lo + (i : Int)) := rfl
theorem range0_mT : rangeT 0 n = mT n fun i => .int (i : Int) := by
  rw [range_mT]
  refine mT_congr fun i _ => ?_
  rw [Int.zero_add]
def consT (x : T) (g : Nat → T) : Nat → T
  | 0 => x
  | i + 1 => g i
theorem cons_mT (x : T) : x :: mT n g = mT (n + 1) (consT x g) := by
  refine mT_ext (by rw [List.length_cons, mT_len]) fun i hi => ?_
  cases i with
  | zero => rfl
  | succ i => rw [List.getElem?_cons_succ, mT_get (by omega)]; rfl
theorem mT_set {i : Nat} {v : T} : (mT n g).set i v = mT n fun j => if j = i then v else g j := mT_ext (by simp [mT_len]) fun j hj => by
  rw [List.getElem?_set, mT_len]
  by_cases e : i = j
  · subst e
    simp [hj]
  · simp only [e, if_false]
    rw [mT_get hj, if_neg (fun q => e q.symm)]
theorem mT_fit {d : Nat} (o : Bool) (k : Kd) (e : ∀ i, i < n → Fit (g i) d) : Fit (.nd o k (mT n g)) (d + 1) := Fit.nd fun t ht => by
  obtain ⟨i, hi, rfl⟩ := mT_mem ht
  exact e i hi
variable {b : T → PSt → Option PSt} {body : PSt → Option Out} {me : PSt → Option Rs} {τ : PSt}
theorem for_mT (I : Nat → PSt → Prop) (h0 : I 0 τ) (hs : ∀ i τ, i < n → I i τ → ∃ τ1, b (g i) τ = some τ1 ∧ ∃ τ2, body τ1 = some (.nx τ2) ∧ I (i + 1) τ2) : ∃ τ', forGo b body (mT n g) τ = some (.nx τ') ∧ I n τ' := by
  have := forGo_inv (ts := mT n g) I h0 fun i t τ e hI => by
    obtain ⟨hi, rfl⟩ := mT_get_iff e
    exact hs i τ hi hI
  rwa [mT_len] at this
theorem for_chk (p : Nat → Prop) (v : T) (I : Nat → PSt → Prop) (h0 : I 0 τ)
    (hs : ∀ i τ, i < n → (∀ j, j < i → p j) → I i τ → ∃ τ1, b (g i) τ = some τ1 ∧ ((p i ∧ ∃ τ2, (body τ1 = some (.nx τ2) ∨ body τ1 = some (.ct τ2)) ∧ I (i + 1) τ2) ∨ (¬ p i ∧ body τ1 = some (.rt v)))) :
    ((∀ i, i < n → p i) ∧ ∃ τ', forGo b body (mT n g) τ = some (.nx τ') ∧ I n τ') ∨ ((∃ i, i < n ∧ ¬ p i) ∧ forGo b body (mT n g) τ = some (.rt v)) := by
  have := forGo_ret (b := b) (body := body) (ts := mT n g) (τ := τ) (fun i τ => (∀ j, j < i → p j) ∧ I i τ) (fun w => w = v ∧ ∃ i, i < n ∧ ¬ p i) ⟨fun j hj => by omega, h0⟩ fun i t τ e hI => by
    obtain ⟨hi, rfl⟩ := mT_get_iff e
    obtain ⟨τ1, e1, q⟩ := hs i τ hi hI.1 hI.2
    refine ⟨τ1, e1, ?_⟩
    rcases q with ⟨pi, τ2, e2, I2⟩ | ⟨pi, e2⟩
    · refine .inl ⟨τ2, e2, fun j hj => ?_, I2⟩
      rcases Nat.lt_succ_iff_lt_or_eq.mp hj with q | rfl
      · exact hI.1 j q
      · exact pi
    · exact .inr ⟨v, e2, rfl, i, hi, pi⟩
  rw [mT_len] at this
  rcases this with ⟨τ', e, h1, h2⟩ | ⟨w, e, rfl, h2⟩
  · exact .inl ⟨h1, τ', e, h2⟩
  · exact .inr ⟨h2, e⟩
theorem lc1 {f : Nat → T} {x : Option T} {cs : PSt} (hs : ∀ i, i < n → me (some (g i) :: cs) = some (.v (f i) false)) : lcGo (bNm 0) (mC (.bl true)) me (mT n g) (x :: cs) = some (mT n f) := by
  have := lcGo_map (b := bNm 0) (me := me) (ts := mT n g) (τ := x :: cs) (fun _ τ => ∃ y, τ = y :: cs) f ⟨x, rfl⟩ fun i t τ e hI => by
    obtain ⟨hi, rfl⟩ := mT_get_iff e
    obtain ⟨y, rfl⟩ := hI
    exact ⟨some (g i) :: cs, by simp [bNm], hs i hi, _, rfl⟩
  rw [this, mT_len]
  rfl
theorem lc2 {u w f : Nat → T} {x y : Option T} {cs : PSt} (hs : ∀ i, i < n → me (some (u i) :: some (w i) :: cs) = some (.v (f i) false)) : lcGo (bTup 2 (bCons (bNm 0) (bCons (bNm 1) bNil))) (mC (.bl true)) me (mT n fun i => .tup [u i, w i]) (x :: y :: cs) = some (mT n f) := by
  have := lcGo_map (b := bTup 2 (bCons (bNm 0) (bCons (bNm 1) bNil))) (me := me) (ts := mT n fun i => .tup [u i, w i]) (τ := x :: y :: cs) (fun _ τ => ∃ x y, τ = x :: y :: cs) f ⟨x, y, rfl⟩ fun i t τ e hI => by
    obtain ⟨hi, rfl⟩ := mT_get_iff e
    obtain ⟨x, y, rfl⟩ := hI
    exact ⟨some (u i) :: some (w i) :: cs, by simp [bTup, bCons, bNm, bNil], hs i hi, _, _, rfl⟩
  rw [this, mT_len]
  rfl
end
end Pu
set_option Elab.async false
set_option linter.all false
set_option maxRecDepth 100000
namespace Pu
open PySem PySem.Spec PyProof.Rows L2 Zw Zx
def bT : Db.B → T
  | none => .non
  | some i => .int i
theorem bT_none : bT none = .non := rfl
theorem bT_some (i : Int) : bT (some i) = .int i := rfl
abbrev rT (n : Nat) (f : Nat → Db.B) : T := .lst (mT n fun j => bT (f j))
abbrev zT (n : Nat) (f : Db.Z) : T := .lst (mT n fun i => rT n (f i))
theorem bT_sh (b : Db.B) : (bT b).sh = true := by cases b <;> rfl
theorem bT_share (b : Db.B) : (bT b).share = bT b := by cases b <;> rfl
theorem bT_fit (b : Db.B) : Fit (bT b) 0 := by cases b <;> first | exact Fit.non 0 | exact Fit.int _ 0
theorem zT_congr {n : Nat} {f g : Db.Z} (h : ∀ i j, i < n → j < n → f i j = g i j) : zT n f = zT n g := by
  unfold zT
  rw [mT_congr fun i hi => ?_]
  unfold rT
  rw [mT_congr fun j hj => ?_]
  rw [h i j hi hj]
abbrev vT (n : Nat) (v : Nat → Int × Int) : T := .lst (mT n fun i => fr (v i).1 (v i).2)
def zero1 (v : Nat → Int × Int) : Nat → Int × Int
  | 0 => (0, 1)
  | i + 1 => v i
theorem vT_cons (n : Nat) (v : Nat → Int × Int) : (fr 0 1) :: mT n (fun i => fr (v i).1 (v i).2) = mT (n + 1) fun i => fr (zero1 v i).1 (zero1 v i).2 := by
  rw [cons_mT]
  refine mT_congr fun i _ => ?_
  cases i <;> rfl
end Pu
namespace Pu
open PySem PySem.Spec PyProof.Rows L2 Zw Zx
theorem bools_mT {n : Nat} (p : Nat → Bool) : bools (mT n fun i => .bl (p i)) = some ((List.range n).map p) := by
  unfold mT
  generalize List.range n = l
  induction l with
  | nil => rfl
  | cons x r ih => simp only [List.map_cons, bools, ih]
theorem rT_share (n : Nat) (f : Nat → Db.B) : (rT n f).share = rT n f := by
  unfold T.share
  rw [shareL_mT]
  simp only [bT_share]
theorem rT_sh (n : Nat) (f : Nat → Db.B) : (rT n f).sh = true := by
  unfold T.sh
  rw [shL_mT fun i => bT_sh _]
  rfl
theorem zT_share (n : Nat) (f : Db.Z) : (zT n f).share = zT n f := by
  unfold T.share
  rw [shareL_mT]
  simp only [rT_share]
theorem zT_sh (n : Nat) (f : Db.Z) : (zT n f).sh = true := by
  unfold T.sh
  rw [shL_mT fun i => rT_sh n _]
  rfl
theorem vT_share (n : Nat) (v : Nat → Int × Int) : (vT n v).share = vT n v := by
  unfold T.share
  rw [shareL_mT]
  rfl
theorem ok62_nat {n : Nat} (h : n ≤ 100000) : ok62 (n : Int) = true := @decide_eq_true _ (Classical.propDecidable _) ⟨by omega, by omega⟩
theorem modN {n : Nat} (h : 0 < n) (y : Int) : ∃ i : Nat, y.fmod (n : Int) = (i : Int) ∧ i < n :=
  ⟨(y % (n : Int)).toNat, (fm (Int.natCast_pos.mpr h)).trans (Int.toNat_of_nonneg (Int.emod_nonneg y (Int.ne_of_gt (Int.natCast_pos.mpr h)))).symm, (Int.toNat_lt (Int.emod_nonneg y (Int.ne_of_gt (Int.natCast_pos.mpr h)))).mpr (Int.emod_lt_of_pos y (Int.natCast_pos.mpr h))⟩
end Pu
set_option linter.all false
set_option maxRecDepth 100000
namespace Hd
open PySem PySem.W PySem.Calls PyProof.Rows
def goT (st : SharedT → Thread → Option (SharedT × Thread)) (ok : Thread → Bool) : Nat → SharedT → Thread → Option SharedT
  | 0 => fun _ _ => none
  | n + 1 => fun s t => bif through t then some s else bif ok t then (st s t).elim none fun x => goT st ok n x.1 x.2 else none
theorem goT_top {tb : String → Option Builtin} {p : Program} {w : World} {m : Nat} {ann : Option Value} (n : Nat) : ∀ (s : SharedT) (t : Thread) (r : SharedT),
    goT (stepT (denote tb) p w) (stepOk m ann) n s t = some r → topRun tb p w m ann n s.abs t = some r.abs := by
  induction n with
  | zero => intro s t r h; exact nomatch h
  | succ n ih =>
    intro s t r h
    rw [goT] at h
    dsimp only at h
    rw [topRun]
    cases a : through t with
    | true => rw [a] at h; cases h; rfl
    | false =>
      rw [a] at h
      cases b : stepOk m ann t with
      | false => rw [b] at h; exact nomatch h
      | true =>
        rw [b] at h
        cases c : stepT (denote tb) p w s t with
        | none => rw [c] at h; exact nomatch h
        | some x => rw [c] at h; rw [stepT_spec (s' := x.1) (t' := x.2) c]; exact ih _ _ _ h
def seenAll (p q : Program) (loose : List Str) (Xt : Shared → Bool) {α : Type} (Yf : Shared → α) (h : Heap) (s : Shared) :=
  ((staticsOk (importedModules p.main.body) h s.heap && namesBound p s.heap && gensDone s && laidKept h s.heap), openSeen q loose (importedModules p.main.body) Xt true s, Yf s)
theorem left_of {p q : Program} {loose : List Str} {Xt : Shared → Bool} {α : Type} {Yf : Shared → α} {Ya : World → α} {N M m : Nat} {ann : Option Value} {bt : Params → BT} {lf : Params → Life} {st : World → SharedT → Thread → Option (SharedT × Thread)} {ok : Thread → Bool} (hst : ∀ w, stepT (denote treeTable) p w = st w) (hok : stepOk m ann = ok)
    (e : opening p = plainProg p.main.scope.names) (hN : Nat.ble 600 N = true) (f : ∀ s, fenceModules? p s = some s) (hM : Nat.ble M N = true)
    (hb : ∀ P, absHeap (bt P) m (lf P) = boot_heap P) (hs : ∀ P, (boot_heap P).isNs mainGlobals = true) (hz : ∀ P, (boot_heap P).objs.size = m) (ha : ∀ P, (boot_heap P).nsMap mainGlobals "__annotations__" = ann)
    (h : ∀ (w : World) (os : OsState), (goT (st w) ok M ⟨bt w.params, m, lf w.params, Array.mk [], boot_drawn, boot_toks, os⟩ (topStub p)).map (fun s => seenAll p q loose Xt Yf (boot_heap w.params) s.abs) = some (true, openGood q loose, Ya w)) :
    LeftO p q loose Xt Yf Ya N true := fun w => by
  obtain ⟨⟨h0, g0, d0, k0, os⟩, hs0, hv⟩ := Option.map_eq_some_iff.mp (boot_open e hN f w)
  simp only [Prod.mk.injEq] at hv
  obtain ⟨rfl, rfl, rfl, rfl⟩ := hv
  obtain ⟨T, hT, hx⟩ := Option.map_eq_some_iff.mp (h w os)
  rw [← hst, ← hok] at hT
  have r := topRun_mono (N - M) _ _ _ _ (goT_top _ _ _ _ hT)
  rw [Nat.add_sub_cancel' (Nat.le_of_ble_eq_true hM)] at r
  have hx1 := congrArg Prod.fst hx
  have hx2 := congrArg Prod.snd hx
  simp only [seenAll] at hx1 hx2
  simp only [SharedT.abs, hb] at r hx1 hx2
  have k : topFrom treeTable p w N ⟨boot_heap w.params, Array.mk [], boot_drawn, boot_toks, os⟩ = some T.abs := by
    simp only [topFrom, hs, hz, ha, r]
    simp only [Option.bind_some, SharedT.abs]
    rw [hx1]
    rfl
  show ((fencedOpening treeTable p w N).bind (topFrom treeTable p w N)).map _ = _
  rw [hs0]; show (topFrom treeTable p w N _).map _ = _; rw [k]
  exact congrArg some hx2
noncomputable def en (P : Params) (x : String) (k : Nat) (v : Value) : DictEntry := ⟨PyData.keyHash P (Str.ofString x), .str (Str.ofString x) k, v⟩
noncomputable def bt (P : Params) : BT := ((boot_heap P).objs.toList.foldl (fun (x : BT × Nat) o => (x.1.ins x.2 o, x.2 + 1)) (BT.nil, 0)).1
theorem bt_ok (P : Params) : absHeap (bt P) 11 (boot_heap P).life = boot_heap P := by kernel_rfl
theorem ann_ok (P : Params) : (boot_heap P).nsMap mainGlobals "__annotations__" = some (.ref 6) := by kernel_rfl
theorem ns_ok (P : Params) : (boot_heap P).isNs mainGlobals = true := by kernel_rfl
theorem sz_ok (P : Params) : (boot_heap P).objs.size = 11 := by kernel_rfl
noncomputable abbrev go (p : Program) (M : Nat) (w : World) (os : OsState) : Option SharedT :=
  goT (Fast.tw10156331382660048174 (Fast.tw11892475500146522536 Fast.tw14364793385576792824) p w) (Fast.tw6613529449190102663 11 (some (.ref 6))) M ⟨bt w.params, 11, (boot_heap w.params).life, Array.mk [], boot_drawn, boot_toks, os⟩ (topStub p)
abbrev xt (r : RowW) (q : Program) (s : Shared) : Bool := xlAt q [] s && recOk r.records s
theorem left_go {p q : Program} {r : RowW} {loose : List Str} {α : Type} {Yf : Shared → α} {Ya : World → α} (N M : Nat)
    (e : opening p = plainProg p.main.scope.names) (hN : Nat.ble 600 N = true) (f : ∀ s, fenceModules? p s = some s) (hM : Nat.ble M N = true)
    (h : ∀ (w : World) (os : OsState), (go p M w os).map (fun s => seenAll p q loose (xt r q) Yf (boot_heap w.params) s.abs) = some (true, openGood q loose, Ya w)) : LeftO p q loose (xt r q) Yf Ya N true :=
  left_of (st := fun w => Fast.tw10156331382660048174 (Fast.tw11892475500146522536 Fast.tw14364793385576792824) p w) (ok := Fast.tw6613529449190102663 11 (some (.ref 6)))
    (fun w => by rw [Fast.te10156331382660048174, Fast.te11892475500146522536, Fast.te14364793385576792824]) (by rw [Fast.te6613529449190102663]) e hN f hM bt_ok ns_ok sz_ok ann_ok h
theorem said_of {l : OpenLaw} (h : Fast.tw9446332074065402090 l = true) : l.wellSaid = true := (congrFun Fast.te9446332074065402090 l).trans h
end Hd
set_option Elab.async false
set_option linter.all false
set_option maxRecDepth 100000
set_option maxHeartbeats 4200000
namespace Zl
open PySem L2 Zw Zx Pu
local macro_rules
  | `(tactic| simp_arith [$as,*]) => `(tactic| simp only [runP, runF, sSeq, sSet, sOwn, sFrz, sIf, sRet, sRetN, sRetM, sRetMN, retAt, runM, sMuIf, mMut, sMv, sExp, sNx, sBk, sCt, sFor, sApp, sSto, sPar, sRse, ownAt, ownKid, mVar, mC, mNil, mCons, mConsO, mAp, mCall, mIf, mNot, mAnd, mOr, mIx, mSl, mPart, mLst, mTup, mLC, fin, g1, g2, bNm, bNil, bCons, bTup, blk, capT, iVal, iRange1, iRange2, iEnumT, iZipT, as1, as2, asL, asL2, isL, addT, subT, mulT, modT, fdivT, powT, borT, bandT, cmpT, negT, isT2, T.isN, T.isB, lenT, listT, absT, minT, anyT, isTyT, tyN, tyCs, subTy, T.share, shareL, T.sh, shL, T.flat, at0, at1, at2, List.map_cons, List.map_nil, List.length_cons, List.length_nil, List.replicate, List.append_nil, List.nil_append, List.cons_append, List.getElem?_cons_zero, List.getElem?_cons_succ, List.getElem?_nil, List.set_cons_zero, List.set_cons_succ, List.length_set, nl0, nl1, nl2, nl3, nl4, nl5, nl6, nl7, nl8, nl9, Int.reduceBEq, Nat.reduceBEq, Nat.reduceAdd, Nat.reduceSub, Nat.reduceLT, Nat.reduceLeDiff, if_true, if_false, ite_true, ite_false, reduceIte, Bool.not_true, Bool.not_false, Bool.and_true, Bool.true_and, Bool.and_false, Bool.false_and, Bool.or_true, Bool.true_or, Bool.or_false, Bool.false_or, Bool.false_xor, Bool.true_xor, Bool.false_eq_true, Option.some.injEq, decide_true, decide_false, List.mem_cons, List.not_mem_nil, or_false, or_true, true_or, and_true, true_and, and_self, String.reduceEq, String.reduceBEq, beq_self_eq_true, ne_eq, not_false_eq_true, not_true_eq_false, lim_le, lim_lt, bT_sh, bT_share, mT_len, shareL_mT, Int.reduceLT, Int.reduceAdd, Int.toNat_natCast, shL_mTi, shL_mTf, shL_mT, implies_true, forall_const, bT_none, bT_some, Int.reduceEq, Int.reduceNe, $as,*])
def top (i : Nat) : Stmt := PySem.Challenge.pw_zonewalk_k11_narrowest.main.body.getD i (.Pass ⟨0, 0, 0, 0⟩)
abbrev s_Lcell_at : Stmt := top 22
theorem sc_Lcell_at : FnScope ["_law_script", "_law_k"] ["_law_script", "_law_k"] (defScope s_Lcell_at) := ⟨rfl, rfl, rfl, by decide +kernel, rfl, by decide +kernel, by decide +kernel⟩
noncomputable def m_Lcell_at : PSt → Option Out :=
  (sSeq (sIf (mAp (g2 (cmpT fun i j => decide (i < j))) (mCons (mVar 1) (mCons (mAp (g1 lenT) (mCons (mVar 0) mNil)) mNil))) (sRet (mIx (mVar 0) (mVar 1))) sNx)
  (sRet (mC (.int 0))))
noncomputable def R_Lcell_at : List T → Option Ru := runP 2 2 m_Lcell_at
noncomputable abbrev fn_Lcell_at : Fn := ⟨1, ["_law_script", "_law_k"], R_Lcell_at⟩
noncomputable abbrev gm_Lcell_at : Gm := ⟨["_law_script", "_law_k"], (defScope s_Lcell_at).names, [], 0, [], ["len"], [], [], ["_law_narrow", "_law_lies", "lies_in", "_law_is_zone"], false, [], [], []⟩
theorem ck_Lcell_at : dSs 200 gm_Lcell_at (defBody s_Lcell_at) = some m_Lcell_at := by kernel_rfl
theorem cell_ok (ns : List Int) {k : Int} (h0 : 0 ≤ k) : R_Lcell_at [scriptT ns, .int k] = some (.ok (.int (ns.getD k.toNat 0))) := by
  unfold R_Lcell_at m_Lcell_at
  by_cases h : k < ns.length
  · have e : ns[k.toNat]? = some (ns.getD k.toNat 0) := by
      rw [List.getD_eq_getElem?_getD, List.getElem?_eq_getElem (by omega)]
      rfl
    have ea : atI (ns.map T.int) k = some (.int (ns.getD k.toNat 0)) := atI_lt h0 (by rw [List.getElem?_map, e]; rfl)
    have el : decide (k < ((ns.map T.int).length : Int)) = true := by simpa using h
    simp_arith [scriptT, share_ints, sh_ints, el, ea]
  · have el : decide (k < ((ns.map T.int).length : Int)) = false := by simpa using h
    have e : ns.getD k.toNat 0 = 0 := by
      rw [List.getD_eq_getElem?_getD, List.getElem?_eq_none (by omega)]
      rfl
    simp_arith [scriptT, share_ints, sh_ints, el, e]
abbrev s_Llowest : Stmt := top 24
theorem sc_Llowest : FnScope ["_law_top", "_law_bottom", "_law_one", "_law_other"] ["_law_top", "_law_bottom"] (defScope s_Llowest) := ⟨rfl, rfl, rfl, by decide +kernel, rfl, by decide +kernel, by decide +kernel⟩
noncomputable def t_Llowest_3 : PSt → Option Rs :=
  (mAp (g2 neT) (mCons (mVar 3) (mCons (mC (.int 0)) mNil)))
noncomputable def w_Llowest_3 : PSt → Option Out :=
  (sPar 2 3 (mCons (mVar 3) (mCons (mAp (g2 modT) (mCons (mVar 2) (mCons (mVar 3) mNil))) mNil)))
noncomputable def m_Llowest : PSt → Option Out :=
  (sSeq (sSet (mVar 0) (bNm 2))
  (sSeq (sSet (mVar 1) (bNm 3))
  (sSeq (sWh t_Llowest_3 w_Llowest_3)
  (sRet (mTup (mCons (mAp (g2 fdivT) (mCons (mVar 0) (mCons (mAp (g1 absT) (mCons (mVar 2) mNil)) mNil))) (mCons (mAp (g2 fdivT) (mCons (mVar 1) (mCons (mAp (g1 absT) (mCons (mVar 2) mNil)) mNil))) mNil)))))))
noncomputable def R_Llowest : List T → Option Ru := runP 2 4 m_Llowest
noncomputable abbrev fn_Llowest : Fn := ⟨1, ["_law_top", "_law_bottom"], R_Llowest⟩
noncomputable abbrev gm_Llowest : Gm := ⟨["_law_top", "_law_bottom", "_law_one", "_law_other"], (defScope s_Llowest).names, [], 0, [], ["abs"], [], [], ["_law_narrow", "_law_lies", "lies_in", "_law_is_zone"], false, [], [], []⟩
theorem ck_Llowest : dSs 200 gm_Llowest (defBody s_Llowest) = some m_Llowest := by kernel_rfl
theorem low_ok {t b : Int} (hb : 0 < b) (hs : b < 10 ^ 70) : R_Llowest [.int t, .int b] = some (.ok (fr (Zm.lt t b) (Zm.lb t b))) := by
  have loop := sWh_inv (mc := t_Llowest_3) (body := w_Llowest_3)
    (τ := [some (.int t), some (.int b), some (.int t), some (.int b)])
    (fun τ => ∃ (g l : Int), τ = [some (.int t), some (.int b), some (.int g), some (.int l)] ∧ Zm.gd g l = Zm.gd t b)
    (fun τ => match τ with | [_, _, _, some (.int l)] => l.natAbs | _ => 0)
    ⟨_, _, rfl, rfl⟩ (by
      rintro τ ⟨g, l, rfl, e⟩
      by_cases h0 : l = 0
      · right
        exact ⟨false, by unfold t_Llowest_3; simp_arith [ne_int, h0]⟩
      · left
        exact ⟨false, by unfold t_Llowest_3; simp_arith [ne_int]; simp [h0], [some (.int t), some (.int b), some (.int l), some (.int (g.fmod l))], by unfold w_Llowest_3; simp_arith [h0], ⟨_, _, rfl, Zm.gd_turn e⟩, Zm.fmod_less g h0⟩)
  obtain ⟨τ', e1, ⟨g, l, rfl, e⟩, bb, e2⟩ := loop
  have hl0 : l = 0 := by
    have e3 : t_Llowest_3 [some (.int t), some (.int b), some (.int g), some (.int l)] = some (.v (.bl (!(l == 0))) false) := by unfold t_Llowest_3; simp_arith [ne_int]
    rw [e3] at e2
    exact (by simpa using e2 : l = 0 ∧ bb = false).1
  have eg := Zm.gd_end e hl0
  have g0 : 0 < Zm.gd t b := Zm.gd_pos (by omega)
  have g1 : Zm.gd t b ≤ b := Zm.gd_le hb
  have gs : s70 (Zm.gd t b) = true := s70_of (by omega (config := {})) (by omega (config := {}))
  have n2 : (Zm.gd t b ≠ 0) = True := by simp; omega
  unfold R_Llowest m_Llowest
  simp_arith [e1, eg, gs, n2]
  simp only [Zm.lt, Zm.lb]
abbrev s_Lvalues : Stmt := top 25
theorem sc_Lvalues : FnScope ["_law_xs", "_law_many", "_law_unit", "_law_found", "_law_k", "_law_bottom"] ["_law_xs", "_law_many", "_law_unit"] (defScope s_Lvalues) := ⟨rfl, rfl, rfl, by decide +kernel, rfl, by decide +kernel, by decide +kernel⟩
noncomputable def w_Lvalues_2 : PSt → Option Out :=
  (sSeq (sSet (mAp (g2 addT) (mCons (mC (.int 1)) (mCons (mAp (g2 modT) (mCons (mIx (mVar 0) (mAp (g2 mulT) (mCons (mC (.int 2)) (mCons (mVar 4) mNil)))) (mCons (mC (.int 6)) mNil))) mNil))) (bNm 5))
  (sApp 3 (mCall R_Llowest (mCons (mAp (g2 modT) (mCons (mIx (mVar 0) (mAp (g2 addT) (mCons (mAp (g2 mulT) (mCons (mC (.int 2)) (mCons (mVar 4) mNil))) (mCons (mC (.int 1)) mNil)))) (mCons (mAp (g2 mulT) (mCons (mAp (g2 mulT) (mCons (mC (.int 4)) (mCons (mVar 2) mNil))) (mCons (mVar 5) mNil))) mNil))) (mCons (mVar 5) mNil)))))
noncomputable def m_Lvalues : PSt → Option Out :=
  (sSeq (sOwn 3 (mLst mNil))
  (sSeq (sFor (iRange1 (mCons (mVar 1) mNil)) (bNm 4) w_Lvalues_2)
  (sRet (mVar 3))))
noncomputable def R_Lvalues : List T → Option Ru := runP 3 6 m_Lvalues
noncomputable abbrev fn_Lvalues : Fn := ⟨2, ["_law_xs", "_law_many", "_law_unit"], R_Lvalues⟩
noncomputable abbrev gm_Lvalues : Gm := ⟨["_law_xs", "_law_many", "_law_unit", "_law_found", "_law_k", "_law_bottom"], (defScope s_Lvalues).names, [], 1, [("_law_lowest", fn_Llowest)], ["range"], [], ["_law_found"], ["_law_narrow", "_law_lies", "lies_in", "_law_is_zone"], false, [], [], []⟩
theorem ck_Lvalues : dSs 200 gm_Lvalues (defBody s_Lvalues) = some m_Lvalues := by kernel_rfl
def vals (xs : Nat → Int) (u : Int) (k : Nat) : Int × Int := (Zm.lt (xs (2 * k + 1) % (4 * u * (1 + xs (2 * k) % 6))) (1 + xs (2 * k) % 6), Zm.lb (xs (2 * k + 1) % (4 * u * (1 + xs (2 * k) % 6))) (1 + xs (2 * k) % 6))
theorem vals_ok {xs : Nat → Int} {u : Int} (hu : 0 < u) (k : Nat) : 0 < (vals xs u k).2 ∧ (vals xs u k).2 ≤ 6 ∧ 0 ≤ (vals xs u k).1 := by
  have b0 : 0 < 1 + xs (2 * k) % 6 := by omega
  have b1 : 1 + xs (2 * k) % 6 ≤ 6 := by omega
  refine ⟨Zm.lb_pos b0, Int.le_trans (Zm.lb_le b0) b1, ?_⟩
  show 0 ≤ Zm.lt _ _
  unfold Zm.lt
  exact Int.fdiv_nonneg (Int.emod_nonneg _ (by have := Int.mul_pos (show (0 : Int) < 4 * u by omega) b0; omega)) (Int.le_of_lt (Zm.gd_pos (by omega)))
theorem vals_run {n m : Nat} {xs : Nat → Int} {u : Int} (hu : 0 < u) (hn : 2 * m ≤ n) (hn1 : n ≤ 1000) : R_Lvalues [.lst (mT n fun i => .int (xs i)), .int m, .int u] = some (.ok (.own (mT m fun k => fr (vals xs u k).1 (vals xs u k).2))) := by
  have loop := for_mT (b := bNm 4) (body := w_Lvalues_2) (n := m) (g := fun i => .int (i : Int)) (τ := [some (.lst (mT n fun i => .int (xs i))), some (.int m), some (.int u), some (.own []), none, none])
    (fun i τ => ∃ x y, τ = [some (.lst (mT n fun i => .int (xs i))), some (.int m), some (.int u), some (.own (mT i fun k => fr (vals xs u k).1 (vals xs u k).2)), x, y])
    ⟨none, none, rfl⟩ (by
      rintro i τ hi ⟨x, y, rfl⟩
      refine ⟨_, by simp_arith []; rfl, ?_⟩
      have l1 : i < 100000 := by omega
      have b0 : 0 < 1 + xs (2 * i) % 6 := by omega
      have b1 : 1 + xs (2 * i) % 6 ≤ 6 := by omega
      have m1 : mulOk 2 (i : Int) = true := mulOk_l (s64_of (by decide) (by decide))
      have m2 : mulOk 4 u = true := mulOk_l (s64_of (by decide) (by decide))
      have m3 : mulOk (4 * u) (1 + xs (2 * i) % 6) = true := mulOk_r (s64_of (by omega) (by omega))
      have a1 : atI (mT n fun i => T.int (xs i)) (2 * (i : Int)) = some (.int (xs (2 * i))) := by rw [show 2 * (i : Int) = ((2 * i : Nat) : Int) by omega]; exact mT_atN (by omega)
      have a2 : atI (mT n fun i => T.int (xs i)) (2 * (i : Int) + 1) = some (.int (xs (2 * i + 1))) := by rw [show 2 * (i : Int) + 1 = ((2 * i + 1 : Nat) : Int) by omega]; exact mT_atN (by omega)
      have q0 : 0 < 4 * u * (1 + xs (2 * i) % 6) := Int.mul_pos (by omega) b0
      have f1 : (xs (2 * i)).fmod 6 = xs (2 * i) % 6 := fm (by decide)
      have f2 : (xs (2 * i + 1)).fmod (4 * u * (1 + xs (2 * i) % 6)) = xs (2 * i + 1) % (4 * u * (1 + xs (2 * i) % 6)) := fm q0
      have q1 : (4 * u * (1 + xs (2 * i) % 6) ≠ 0) = True := eq_true (by omega)
      have q6 : ((6 : Int) ≠ 0) = True := by simp
      refine ⟨[some (.lst (mT n fun i => .int (xs i))), some (.int m), some (.int u), some (.own ((mT i fun k => fr (vals xs u k).1 (vals xs u k).2) ++ [fr (vals xs u i).1 (vals xs u i).2])), some (.int i), some (.int (1 + xs (2 * i) % 6))], ?_, some (.int i), some (.int (1 + xs (2 * i) % 6)), ?_⟩
      · unfold w_Lvalues_2
        simp_arith [m1, a1, a2, f1, q6, m2, m3, f2, q1, l1, low_ok b0 (t := xs (2 * i + 1) % (4 * u * (1 + xs (2 * i) % 6))) (by omega)]
        simp only [vals]
      · rw [← mT_app])
  obtain ⟨τ', e1, x, y, rfl⟩ := loop
  have o1 : ok62 (m : Int) = true := ok62_nat (by omega)
  unfold R_Lvalues m_Lvalues
  simp_arith [o1, range0_mT, e1]
abbrev s_Lbound : Stmt := top 27
theorem sc_Lbound : FnScope ["_law_value", "_law_x", "_law_way", "_law_more", "_law_top", "_law_bottom"] ["_law_value", "_law_x"] (defScope s_Lbound) := ⟨rfl, rfl, rfl, by decide +kernel, rfl, by decide +kernel, by decide +kernel⟩
noncomputable def m_Lbound : PSt → Option Out :=
  (sSeq (sSet (mVar 0) (bTup 2 (bCons (bNm 4) (bCons (bNm 5) bNil))))
  (sSeq (sSet (mAp (g2 modT) (mCons (mVar 1) (mCons (mC (.int 6)) mNil))) (bNm 2))
  (sSeq (sSet (mAp (g2 modT) (mCons (mAp (g2 fdivT) (mCons (mVar 1) (mCons (mC (.int 6)) mNil))) (mCons (mIx (mLst (mConsO (mC (.int 5)) (mConsO (mAp (g2 powT) (mCons (mC (.int 10)) (mCons (mC (.int 9)) mNil))) mNil))) (mAp (g2 modT) (mCons (mAp (g2 fdivT) (mCons (mVar 1) (mCons (mC (.int 30)) mNil))) (mCons (mC (.int 2)) mNil)))) mNil))) (bNm 3))
  (sSeq (sIf (mAp (g2 (cmpT fun i j => decide (i < j))) (mCons (mVar 2) (mCons (mC (.int 2)) mNil))) (sRet (mC .non)) sNx)
  (sSeq (sIf (mAp (g2 (cmpT fun i j => decide (i < j))) (mCons (mVar 2) (mCons (mC (.int 4)) mNil))) (sRet (mAp (g2 addT) (mCons (mAp (g2 mulT) (mCons (mC (.int 2)) (mCons (mAp (g2 addT) (mCons (mAp (g2 subT) (mCons (mC (.int 0)) (mCons (mAp (g2 fdivT) (mCons (mAp (g2 subT) (mCons (mC (.int 0)) (mCons (mVar 4) mNil))) (mCons (mVar 5) mNil))) mNil))) (mCons (mAp (g2 mulT) (mCons (mVar 3) (mCons (mAp (g2 subT) (mCons (mVar 2) (mCons (mC (.int 2)) mNil))) mNil))) mNil))) mNil))) (mCons (mC (.int 1)) mNil)))) sNx)
  (sRet (mAp (g2 mulT) (mCons (mC (.int 2)) (mCons (mAp (g2 addT) (mCons (mAp (g2 addT) (mCons (mAp (g2 fdivT) (mCons (mVar 4) (mCons (mVar 5) mNil))) (mCons (mC (.int 1)) mNil))) (mCons (mAp (g2 mulT) (mCons (mVar 3) (mCons (mAp (g2 subT) (mCons (mVar 2) (mCons (mC (.int 4)) mNil))) mNil))) mNil))) mNil)))))))))
noncomputable def R_Lbound : List T → Option Ru := runP 2 6 m_Lbound
noncomputable abbrev fn_Lbound : Fn := ⟨1, ["_law_value", "_law_x"], R_Lbound⟩
noncomputable abbrev gm_Lbound : Gm := ⟨["_law_value", "_law_x", "_law_way", "_law_more", "_law_top", "_law_bottom"], (defScope s_Lbound).names, [], 0, [], [], [], [], ["_law_narrow", "_law_lies", "lies_in", "_law_is_zone"], false, [], [], []⟩
theorem ck_Lbound : dSs 200 gm_Lbound (defBody s_Lbound) = some m_Lbound := by kernel_rfl
def mo (x : Int) : Int := x / 6 % (if x / 30 % 2 = 0 then 5 else 10 ^ 9)
def lbd (t b x : Int) : Db.B := if x % 6 < 2 then none else if x % 6 < 4 then some (2 * (0 - (0 - t) / b + mo x * (x % 6 - 2)) + 1) else some (2 * (t / b + 1 + mo x * (x % 6 - 4)))
theorem mo_ok (x : Int) : 0 ≤ mo x ∧ mo x < 10 ^ 9 := by
  unfold mo
  split <;> omega
theorem lbd_sat {t b : Int} (hb : 0 < b) (x : Int) : Db.sat b (lbd t b x) t := by
  unfold lbd
  have hm := (mo_ok x).1
  split
  · trivial
  · split
    · have e0 := Int.mul_nonneg hm (show 0 ≤ x % 6 - 2 by omega)
      generalize mo x * (x % 6 - 2) = e at *
      simp only [Db.sat]
      have e1 : (2 * (0 - (0 - t) / b + e) + 1) / 2 = 0 - (0 - t) / b + e := by omega
      have e2 : (2 * (0 - (0 - t) / b + e) + 1) % 2 = 1 := by omega
      rw [e1, e2, Int.add_mul, Int.sub_mul]
      have h1 := Int.ediv_mul_le (0 - t) (show b ≠ 0 by omega)
      have h2 := Int.mul_nonneg e0 (Int.le_of_lt hb)
      omega
    · have e0 := Int.mul_nonneg hm (show 0 ≤ x % 6 - 4 by omega)
      generalize mo x * (x % 6 - 4) = e at *
      simp only [Db.sat]
      have e1 : (2 * (t / b + 1 + e)) / 2 = t / b + 1 + e := by omega
      have e2 : (2 * (t / b + 1 + e)) % 2 = 0 := by omega
      rw [e1, e2, Int.add_mul]
      have h1 := Int.lt_ediv_add_one_mul_self t hb
      have h2 := Int.mul_nonneg e0 (Int.le_of_lt hb)
      omega
theorem lbd_ok {t b : Int} (hb : 0 < b) (hs : b < 10 ^ 70) (x : Int) : R_Lbound [fr t b, .int x] = some (.ok (bT (lbd t b x))) := by
  have s6 : s70 6 = true := s70_of (by decide) (by decide)
  have s30 : s70 30 = true := s70_of (by decide) (by decide)
  have sb : s70 b = true := s70_of (by omega) (by omega)
  have z6 : ((6 : Int) ≠ 0) = True := by simp
  have z30 : ((30 : Int) ≠ 0) = True := by simp
  have z2 : ((2 : Int) ≠ 0) = True := by simp
  have z5 : ((5 : Int) ≠ 0) = True := by simp
  have z9 : ((10 : Int) ^ 9 ≠ 0) = True := by simp
  have zb : (b ≠ 0) = True := eq_true (by omega)
  have p9 : (0 : Int) ≤ 9 ∧ (9 : Int) ≤ 1000000 ∧ s64 10 = true := ⟨by decide, by decide, s64_of (by decide) (by decide)⟩
  have r9 : (9 : Int).toNat = 9 := rfl
  have f1 : x.fmod 6 = x % 6 := fm (by decide)
  have f2 : x.fdiv 6 = x / 6 := fd (by decide)
  have f3 : x.fdiv 30 = x / 30 := fd (by decide)
  have f4 : (x / 30).fmod 2 = x / 30 % 2 := fm (by decide)
  have f5 : (x / 6).fmod 5 = x / 6 % 5 := fm (by decide)
  have f6 : (x / 6).fmod (10 ^ 9) = x / 6 % 10 ^ 9 := fm (by decide)
  have f7 : (0 - t).fdiv b = (0 - t) / b := fd hb
  have f8 : t.fdiv b = t / b := fd hb
  have mo1 := mo_ok x
  have m1 : ∀ y, mulOk 2 y = true := fun y => mulOk_l (s64_of (by decide) (by decide))
  have m2 : mulOk (mo x) (x % 6 - 2) = true := mulOk_l (s64_of (by omega) (by omega))
  have m3 : mulOk (mo x) (x % 6 - 4) = true := mulOk_l (s64_of (by omega) (by omega))
  have em : mo x = x / 6 % (if x / 30 % 2 = 0 then 5 else 10 ^ 9) := rfl
  unfold R_Lbound m_Lbound lbd
  have h30 : x / 30 % 2 = 0 ∨ x / 30 % 2 = 1 := by omega
  rcases h30 with h30 | h30 <;> (simp only [h30, if_true, show ((1 : Int) = 0) = False by simp, if_false] at em) <;> by_cases w2 : x % 6 < 2 <;> by_cases w4 : x % 6 < 4 <;>
    · simp_arith [s6, s30, sb, z6, z30, z2, z5, z9, zb, p9, r9, f1, f2, f3, f4, f5, f6, f7, f8, m1, h30, w2, w4, ← em, m2, m3]
abbrev s_Lminus : Stmt := top 26
theorem sc_Lminus : FnScope ["_law_one", "_law_other"] ["_law_one", "_law_other"] (defScope s_Lminus) := ⟨rfl, rfl, rfl, by decide +kernel, rfl, by decide +kernel, by decide +kernel⟩
noncomputable def m_Lminus : PSt → Option Out :=
  (sRet (mTup (mCons (mAp (g2 subT) (mCons (mAp (g2 mulT) (mCons (mIx (mVar 0) (mC (.int 0))) (mCons (mIx (mVar 1) (mC (.int 1))) mNil))) (mCons (mAp (g2 mulT) (mCons (mIx (mVar 1) (mC (.int 0))) (mCons (mIx (mVar 0) (mC (.int 1))) mNil))) mNil))) (mCons (mAp (g2 mulT) (mCons (mIx (mVar 0) (mC (.int 1))) (mCons (mIx (mVar 1) (mC (.int 1))) mNil))) mNil))))
noncomputable def R_Lminus : List T → Option Ru := runP 2 2 m_Lminus
noncomputable abbrev fn_Lminus : Fn := ⟨1, ["_law_one", "_law_other"], R_Lminus⟩
noncomputable abbrev gm_Lminus : Gm := ⟨["_law_one", "_law_other"], (defScope s_Lminus).names, [], 0, [], [], [], [], ["_law_narrow", "_law_lies", "lies_in", "_law_is_zone"], false, [], [], []⟩
theorem ck_Lminus : dSs 200 gm_Lminus (defBody s_Lminus) = some m_Lminus := by kernel_rfl
theorem lmi_ok {a b c d : Int} (h1 : mulOk a d = true) (h2 : mulOk c b = true) (h3 : mulOk b d = true) : R_Lminus [fr a b, fr c d] = some (.ok (fr (a * d - c * b) (b * d))) := by
  unfold R_Lminus m_Lminus
  simp_arith [h1, h2, h3]
abbrev s_Laround : Stmt := top 28
theorem sc_Laround : FnScope ["_law_values_here", "_law_xs", "_law_places", "_law_rows", "_law_i", "_law_row", "_law_j"] ["_law_values_here", "_law_xs"] (defScope s_Laround) := ⟨rfl, rfl, rfl, by decide +kernel, rfl, by decide +kernel, by decide +kernel⟩
noncomputable def w_Laround_5 : PSt → Option Out :=
  (sApp 5 (mCall R_Lbound (mCons (mCall R_Lminus (mCons (mIx (mVar 2) (mVar 4)) (mCons (mIx (mVar 2) (mVar 6)) mNil))) (mCons (mIx (mVar 1) (mAp (g2 addT) (mCons (mAp (g2 mulT) (mCons (mVar 4) (mCons (mAp (g1 lenT) (mCons (mVar 2) mNil)) mNil))) (mCons (mVar 6) mNil)))) mNil))))
noncomputable def w_Laround_3 : PSt → Option Out :=
  (sSeq (sOwn 5 (mLst mNil))
  (sSeq (sFor (iRange1 (mCons (mAp (g1 lenT) (mCons (mVar 2) mNil)) mNil)) (bNm 6) w_Laround_5)
  (sMv 3 5)))
noncomputable def m_Laround : PSt → Option Out :=
  (sSeq (sSet (mAp (g2 addT) (mCons (mLst (mConsO (mTup (mCons (mC (.int 0)) (mCons (mC (.int 1)) mNil))) mNil)) (mCons (mVar 0) mNil))) (bNm 2))
  (sSeq (sOwn 3 (mLst mNil))
  (sSeq (sFor (iRange1 (mCons (mAp (g1 lenT) (mCons (mVar 2) mNil)) mNil)) (bNm 4) w_Laround_3)
  (sRet (mVar 3)))))
noncomputable def R_Laround : List T → Option Ru := runP 2 7 m_Laround
noncomputable abbrev fn_Laround : Fn := ⟨2, ["_law_values_here", "_law_xs"], R_Laround⟩
noncomputable abbrev gm_Laround : Gm := ⟨["_law_values_here", "_law_xs", "_law_places", "_law_rows", "_law_i", "_law_row", "_law_j"], (defScope s_Laround).names, [], 1, [("_law_bound", fn_Lbound), ("_law_minus", fn_Lminus)], ["range", "len"], [], ["_law_rows", "_law_row"], ["_law_narrow", "_law_lies", "lies_in", "_law_is_zone"], false, [], ["_law_row"], []⟩
theorem ck_Laround : dSs 200 gm_Laround (defBody s_Laround) = some m_Laround := by kernel_rfl
def oZ (n : Nat) (g : Db.Z) : List T := mT n fun i => .own (mT n fun j => bT (g i j))
def ard (p : Nat → Int × Int) (n : Nat) (xs : Nat → Int) : Db.Z := fun i j => lbd ((p i).1 * (p j).2 - (p j).1 * (p i).2) ((p i).2 * (p j).2) (xs (i * n + j))
theorem ard_ok {m N : Nat} (hm : m ≤ 30) (hN : (m + 1) * (m + 1) ≤ N) {v : Nat → Int × Int} {xs : Nat → Int} (hv : ∀ i, i < m → 0 < (v i).2 ∧ (v i).2 ≤ 10 ^ 9) :
    R_Laround [vT m v, .lst (mT N fun i => .int (xs i))] = some (.ok (.own (oZ (m + 1) (ard (zero1 v) (m + 1) xs)))) := by
  have hp : ∀ i, i < m + 1 → 0 < (zero1 v i).2 ∧ (zero1 v i).2 ≤ 10 ^ 9 := fun i hi => by
    cases i with
    | zero => exact ⟨(by decide : (0 : Int) < 1), (by decide : (1 : Int) ≤ 10 ^ 9)⟩
    | succ i => exact hv i (by omega)
  have hc : (fr 0 1) :: mT m (fun i => fr (v i).1 (v i).2) = mT (m + 1) fun i => fr (zero1 v i).1 (zero1 v i).2 := vT_cons m v
  generalize zero1 v = p at *
  have hb : ∀ i, i < m + 1 → s64 (p i).2 = true := fun i hi => by
    have := hp i hi
    exact s64_of (by omega) (by omega)
  have o1 : ok62 ((m + 1 : Nat) : Int) = true := ok62_nat (by omega)
  have loop := for_mT (b := bNm 4) (body := w_Laround_3) (n := m + 1) (g := fun i => .int (i : Int)) (τ := [some (vT m v), some (.lst (mT N fun i => .int (xs i))), some (vT (m + 1) p), some (.own []), none, none, none])
    (fun i τ => ∃ x y z, τ = [some (vT m v), some (.lst (mT N fun i => .int (xs i))), some (vT (m + 1) p), some (.own (mT i fun i => .own (mT (m + 1) fun j => bT (ard p (m + 1) xs i j)))), x, y, z])
    ⟨none, none, none, rfl⟩ (by
      rintro i τ hi ⟨x, y, z, rfl⟩
      refine ⟨_, by simp_arith []; rfl, ?_⟩
      have inner := for_mT (b := bNm 6) (body := w_Laround_5) (n := m + 1) (g := fun j => .int (j : Int)) (τ := [some (vT m v), some (.lst (mT N fun i => .int (xs i))), some (vT (m + 1) p), some (.own (mT i fun i => .own (mT (m + 1) fun j => bT (ard p (m + 1) xs i j)))), some (.int (i : Int)), some (.own []), z])
        (fun j τ => ∃ z, τ = [some (vT m v), some (.lst (mT N fun i => .int (xs i))), some (vT (m + 1) p), some (.own (mT i fun i => .own (mT (m + 1) fun j => bT (ard p (m + 1) xs i j)))), some (.int (i : Int)), some (.own (mT j fun j => bT (ard p (m + 1) xs i j))), z])
        ⟨z, rfl⟩ (by
          rintro j τ hj ⟨z, rfl⟩
          refine ⟨_, by simp_arith []; rfl, ?_⟩
          have m1 : mulOk (p i).1 (p j).2 = true := mulOk_r (hb j hj)
          have m2 : mulOk (p j).1 (p i).2 = true := mulOk_r (hb i hi)
          have m3 : mulOk (p i).2 (p j).2 = true := mulOk_r (hb j hj)
          have m4 : mulOk (i : Int) ((m + 1 : Nat) : Int) = true := mulOk_r (s64_of (by omega) (by omega))
          have ix : i * (m + 1) + j < N := by
            have : i * (m + 1) ≤ m * (m + 1) := Nat.mul_le_mul_right _ (by omega)
            have e : (m + 1) * (m + 1) = m * (m + 1) + (m + 1) := by rw [Nat.add_mul, Nat.one_mul]
            omega
          have a1 : atI (mT N fun i => T.int (xs i)) ((i : Int) * ((m + 1 : Nat) : Int) + (j : Int)) = some (.int (xs (i * (m + 1) + j))) := by
            rw [show (i : Int) * ((m + 1 : Nat) : Int) + (j : Int) = ((i * (m + 1) + j : Nat) : Int) by rw [← Int.natCast_mul, ← Int.natCast_add]]
            exact mT_atN ix
          have q0 := Int.mul_pos (hp i hi).1 (hp j hj).1
          have q1 : (p i).2 * (p j).2 ≤ 10 ^ 9 * 10 ^ 9 := Int.mul_le_mul (hp i hi).2 (hp j hj).2 (Int.le_of_lt (hp j hj).1) (by decide)
          have lb := lbd_ok (t := (p i).1 * (p j).2 - (p j).1 * (p i).2) q0 (by omega) (xs (i * (m + 1) + j))
          have l1 : j < 100000 := by omega
          have mi := lmi_ok (a := (p i).1) (b := (p i).2) (c := (p j).1) (d := (p j).2) m1 m2 m3
          refine ⟨_, by unfold w_Laround_5; simp_arith [mT_atN hi, mT_atN hj, mi, m4, a1, lb, l1]; rfl, some (.int (j : Int)), ?_⟩
          rw [← mT_app]
          rfl)
      obtain ⟨τ2, e2, z2, rfl⟩ := inner
      have l1 : i < 100000 := by omega
      refine ⟨_, by unfold w_Laround_3; simp_arith [o1, range0_mT, e2, l1]; rfl, some (.int (i : Int)), none, z2, ?_⟩
      rw [← mT_app (n := i)])
  obtain ⟨τ', e1, x, y, z, rfl⟩ := loop
  have l1 : 1 + m ≤ 100000 := by omega
  unfold R_Laround m_Laround
  simp_arith [l1, hc, o1, range0_mT, e1]
  rfl
theorem ard_lie {m : Nat} {v : Nat → Int × Int} {xs : Nat → Int} (hv : ∀ i, i < m → 0 < (v i).2) {D : Int} {X : Nat → Int} (hD : 0 < D) (hX : ∀ i, i < m + 1 → X i * (zero1 v i).2 = (zero1 v i).1 * D) : Db.Lie (m + 1) D X (ard (zero1 v) (m + 1) xs) := by
  have hp : ∀ i, i < m + 1 → 0 < (zero1 v i).2 := fun i hi => by
    cases i with
    | zero => exact (by decide : (0 : Int) < 1)
    | succ i => exact hv i (by omega)
  generalize zero1 v = p at *
  intro i j hi hj
  have q0 := Int.mul_pos (hp i hi) (hp j hj)
  refine (Db.sat_scale q0 hD ?_ _).mp (lbd_sat q0 _)
  have x1 := hX i hi
  have x2 := hX j hj
  rw [Int.sub_mul, Int.sub_mul]
  have y1 : X i * ((p i).2 * (p j).2) = (p i).1 * (p j).2 * D := by rw [← Int.mul_assoc, x1, Int.mul_assoc, Int.mul_comm D, ← Int.mul_assoc]
  have y2 : X j * ((p i).2 * (p j).2) = (p j).1 * (p i).2 * D := by rw [Int.mul_comm (p i).2, ← Int.mul_assoc, x2, Int.mul_assoc, Int.mul_comm D, ← Int.mul_assoc]
  rw [y1, y2]
abbrev s_at_most : Stmt := top 10
theorem sc_at_most : FnScope ["number"] ["number"] (defScope s_at_most) := ⟨rfl, rfl, rfl, by decide +kernel, rfl, by decide +kernel, by decide +kernel⟩
noncomputable def m_at_most : PSt → Option Out :=
  (sRet (mAp (g2 addT) (mCons (mAp (g2 mulT) (mCons (mC (.int 2)) (mCons (mVar 0) mNil))) (mCons (mC (.int 1)) mNil))))
noncomputable def R_at_most : List T → Option Ru := runP 1 1 m_at_most
noncomputable abbrev fn_at_most : Fn := ⟨1, ["number"], R_at_most⟩
noncomputable abbrev gm_at_most : Gm := ⟨["number"], (defScope s_at_most).names, [], 0, [], [], [], [], ["_law_narrow", "_law_lies", "lies_in", "_law_is_zone"], false, [], [], []⟩
theorem ck_at_most : dSs 200 gm_at_most (defBody s_at_most) = some m_at_most := by kernel_rfl
theorem am_ok (i : Int) : R_at_most [.int i] = some (.ok (.int (2 * i + 1))) := by
  have m : mulOk 2 i = true := mulOk_l (s64_of (by decide) (by decide))
  unfold R_at_most m_at_most
  simp_arith [m]
theorem am0 : R_at_most [.int 0] = some (.ok (.int 1)) := am_ok 0
abbrev s_is_broken : Stmt := top 19
theorem sc_is_broken : FnScope ["rows"] ["rows"] (defScope s_is_broken) := ⟨rfl, rfl, rfl, by decide +kernel, rfl, by decide +kernel, by decide +kernel⟩
noncomputable def c_is_broken_1 : PSt → Option Rs :=
  (mAp (g2 (cmpT fun i j => decide (i < j))) (mCons (mIx (mVar 1) (mVar 0)) (mCons (mCall R_at_most (mCons (mC (.int 0)) mNil)) mNil)))
noncomputable def m_is_broken : PSt → Option Out :=
  (sRet (mAp (g1 anyT) (mCons (mLC 2 [] (iEnumT (mCons (mVar 0) mNil)) (bTup 2 (bCons (bNm 0) (bCons (bNm 1) bNil))) (mC (.bl true)) c_is_broken_1) mNil)))
noncomputable def R_is_broken : List T → Option Ru := runP 1 1 m_is_broken
noncomputable abbrev fn_is_broken : Fn := ⟨2, ["rows"], R_is_broken⟩
noncomputable abbrev gm_is_broken : Gm := ⟨["rows"], (defScope s_is_broken).names, [], 1, [("at_most", fn_at_most)], ["any", "enumerate"], [], [], ["_law_narrow", "_law_lies", "lies_in", "_law_is_zone"], false, [], [], []⟩
theorem ck_is_broken : dSs 200 gm_is_broken (defBody s_is_broken) = some m_is_broken := by kernel_rfl
theorem brk_ok {n : Nat} {f : Db.Z} (hn : n ≤ 100000) {d : Nat → Int} (hd : ∀ i, i < n → f i i = some (d i)) : R_is_broken [zT n f] = some (.ok (.bl ((List.range n).any fun i => decide (d i < 1)))) := by
  have lc := lc2 (n := n) (me := c_is_broken_1) (x := none) (y := none) (cs := []) (u := fun i => .int (i : Int)) (w := fun i => rT n (f i)) (f := fun i => .bl (decide (d i < 1))) fun i hi => by
    unfold c_is_broken_1
    simp_arith [rT_sh, rT_share, mT_atN hi, hd i hi, am0]
  unfold R_is_broken m_is_broken
  have c : n ≤ 100000 := by omega
  simp_arith [zT_share, zT_sh, rT_share, rT_sh, enum_mT, lc, c, bools_mT, List.any_map, Function.comp_def, id_eq]
abbrev s_narrower : Stmt := top 13
theorem sc_narrower : FnScope ["one", "other"] ["one", "other"] (defScope s_narrower) := ⟨rfl, rfl, rfl, by decide +kernel, rfl, by decide +kernel, by decide +kernel⟩
noncomputable def m_narrower : PSt → Option Out :=
  (sSeq (sIf (mAp (g2 (isT2 false)) (mCons (mVar 0) (mCons (mC .non) mNil))) (sRet (mVar 1)) sNx)
  (sSeq (sIf (mAp (g2 (isT2 false)) (mCons (mVar 1) (mCons (mC .non) mNil))) (sRet (mVar 0)) sNx)
  (sRet (mAp (g2 minT) (mCons (mVar 0) (mCons (mVar 1) mNil))))))
noncomputable def R_narrower : List T → Option Ru := runP 2 2 m_narrower
noncomputable abbrev fn_narrower : Fn := ⟨1, ["one", "other"], R_narrower⟩
noncomputable abbrev gm_narrower : Gm := ⟨["one", "other"], (defScope s_narrower).names, [], 0, [], ["min"], [], [], ["_law_narrow", "_law_lies", "lies_in", "_law_is_zone"], false, [], [], []⟩
theorem ck_narrower : dSs 200 gm_narrower (defBody s_narrower) = some m_narrower := by kernel_rfl
theorem nr_ok (a b : Db.B) : R_narrower [bT a, bT b] = some (.ok (bT (Db.mn a b))) := by
  unfold R_narrower m_narrower
  cases a with
  | none => simp_arith [Db.mn]
  | some a =>
    cases b with
    | none => simp_arith [Db.mn]
    | some b =>
      simp_arith [Db.mn]
      by_cases h : b < a
      · simp [h, fin]; omega
      · simp [h, fin]; omega
abbrev s_free_bound : Stmt := top 16
theorem sc_free_bound : FnScope ["i", "j"] ["i", "j"] (defScope s_free_bound) := ⟨rfl, rfl, rfl, by decide +kernel, rfl, by decide +kernel, by decide +kernel⟩
noncomputable def m_free_bound : PSt → Option Out :=
  (sSeq (sIf (mOr (mAp (g2 eqT) (mCons (mVar 0) (mCons (mC (.int 0)) mNil))) (mAp (g2 eqT) (mCons (mVar 0) (mCons (mVar 1) mNil)))) (sRet (mCall R_at_most (mCons (mC (.int 0)) mNil))) sNx)
  (sRet (mC .non)))
noncomputable def R_free_bound : List T → Option Ru := runP 2 2 m_free_bound
noncomputable abbrev fn_free_bound : Fn := ⟨2, ["i", "j"], R_free_bound⟩
noncomputable abbrev gm_free_bound : Gm := ⟨["i", "j"], (defScope s_free_bound).names, [], 1, [("at_most", fn_at_most)], [], [], [], ["_law_narrow", "_law_lies", "lies_in", "_law_is_zone"], false, [], [], []⟩
theorem ck_free_bound : dSs 200 gm_free_bound (defBody s_free_bound) = some m_free_bound := by kernel_rfl
theorem fb_ok (i j : Nat) : R_free_bound [.int i, .int j] = some (.ok (bT (Db.free i j))) := by
  unfold R_free_bound m_free_bound
  by_cases h0 : i = 0
  · subst h0
    simp_arith [eq_int, am0, Db.free]
  · by_cases h : i = j
    · subst h
      have e1 : ((i : Int) == 0) = false := by simp; omega
      simp_arith [eq_int, e1, am0, Db.free]
    · have e1 : ((i : Int) == 0) = false := by simp; omega
      have e2 : ((i : Int) == (j : Int)) = false := by simp; omega
      simp_arith [eq_int, e1, e2, Db.free, h0, h]
abbrev s_row_over : Stmt := top 20
theorem sc_row_over : FnScope ["row", "first", "rest", "told", "old", "more", "bound"] ["row", "first", "rest"] (defScope s_row_over) := ⟨rfl, rfl, rfl, by decide +kernel, rfl, by decide +kernel, by decide +kernel⟩
noncomputable def w_row_over_2 : PSt → Option Out :=
  (sIf (mAp (g2 (isT2 false)) (mCons (mVar 5) (mCons (mC .non) mNil))) (sApp 3 (mVar 4)) (sSeq (sSet (mAp (g2 subT) (mCons (mAp (g2 addT) (mCons (mVar 1) (mCons (mVar 5) mNil))) (mCons (mAp (g2 bandT) (mCons (mAp (g2 borT) (mCons (mVar 1) (mCons (mVar 5) mNil))) (mCons (mC (.int 1)) mNil))) mNil))) (bNm 6))
  (sApp 3 (mIf (mOr (mAp (g2 (isT2 false)) (mCons (mVar 4) (mCons (mC .non) mNil))) (mAp (g2 (cmpT fun i j => decide (i < j))) (mCons (mVar 6) (mCons (mVar 4) mNil)))) (mVar 6) (mVar 4)))))
noncomputable def m_row_over : PSt → Option Out :=
  (sSeq (sOwn 3 (mLst mNil))
  (sSeq (sFor (iZipT (mCons (mVar 0) (mCons (mVar 2) mNil))) (bTup 2 (bCons (bNm 4) (bCons (bNm 5) bNil))) w_row_over_2)
  (sRet (mVar 3))))
noncomputable def R_row_over : List T → Option Ru := runP 3 7 m_row_over
noncomputable abbrev fn_row_over : Fn := ⟨1, ["row", "first", "rest"], R_row_over⟩
noncomputable abbrev gm_row_over : Gm := ⟨["row", "first", "rest", "told", "old", "more", "bound"], (defScope s_row_over).names, [], 0, [], ["zip"], [], ["told"], ["_law_narrow", "_law_lies", "lies_in", "_law_is_zone"], false, [], [], []⟩
theorem ck_row_over : dSs 200 gm_row_over (defBody s_row_over) = some m_row_over := by kernel_rfl
theorem ro_ok {n : Nat} (hn : n ≤ 100000) (r s : Nat → Db.B) (c : Int) : R_row_over [rT n r, .int c, rT n s] = some (.ok (.own (mT n fun j => bT (Db.mn (r j) (Db.add (some c) (s j)))))) := by
  have loop := for_mT (b := bTup 2 (bCons (bNm 4) (bCons (bNm 5) bNil))) (body := w_row_over_2) (n := n) (g := fun i => .tup [bT (r i), bT (s i)]) (τ := [some (rT n r), some (.int c), some (rT n s), some (.own []), none, none, none])
    (fun i τ => ∃ x y z, τ = [some (rT n r), some (.int c), some (rT n s), some (.own (mT i fun j => bT (Db.mn (r j) (Db.add (some c) (s j))))), x, y, z])
    ⟨none, none, none, rfl⟩ (by
      rintro i τ hi ⟨x, y, z, rfl⟩
      have l1 : i < 100000 := by omega
      refine ⟨_, by simp_arith []; rfl, ?_⟩
      unfold w_row_over_2
      cases hs : s i with
      | none =>
        refine ⟨_, by simp_arith [l1]; rfl, some (bT (r i)), some .non, z, ?_⟩
        rw [← mT_app, hs]
        cases r i <;> rfl
      | some m =>
        have e1 : c + m - Builtin.bitAnd (Builtin.bitOr c m) 1 = Db.bs c m := by rw [Db.bor_one, Db.bs_eq]
        cases hr : r i with
        | none =>
          refine ⟨_, by simp_arith [e1, l1]; rfl, some .non, some (.int m), some (.int (Db.bs c m)), ?_⟩
          rw [← mT_app, hs, hr]
          rfl
        | some o =>
          by_cases h : Db.bs c m < o
          · refine ⟨_, by simp_arith [e1, h, l1]; rfl, some (.int o), some (.int m), some (.int (Db.bs c m)), ?_⟩
            rw [← mT_app, hs, hr]
            rw [show Db.mn (some o) (Db.add (some c) (some m)) = some (Db.bs c m) by show some (min _ _) = _; rw [show min o (Db.bs c m) = Db.bs c m by omega]]
            rfl
          · refine ⟨_, by simp_arith [e1, h, l1]; rfl, some (.int o), some (.int m), some (.int (Db.bs c m)), ?_⟩
            rw [← mT_app, hs, hr]
            rw [show Db.mn (some o) (Db.add (some c) (some m)) = some o by show some (min _ _) = _; rw [show min o (Db.bs c m) = o by omega]]
            rfl)
  obtain ⟨τ', e1, x, y, z, rfl⟩ := loop
  unfold R_row_over m_row_over
  simp_arith [zip_mT, e1]
abbrev s_narrowest : Stmt := top 18
theorem sc_narrowest : FnScope ["zone", "rows", "k", "over"] ["zone"] (defScope s_narrowest) := ⟨rfl, rfl, rfl, by decide +kernel, rfl, by decide +kernel, by decide +kernel⟩
noncomputable def c_narrowest_6 : PSt → Option Rs :=
  (mIf (mAp (g2 (isT2 false)) (mCons (mIx (mVar 0) (mVar 1)) (mCons (mC .non) mNil))) (mVar 0) (mCall R_row_over (mCons (mVar 0) (mCons (mIx (mVar 0) (mVar 1)) (mCons (mVar 2) mNil)))))
noncomputable def w_narrowest_2 : PSt → Option Out :=
  (sSeq (sIf (mCall R_is_broken (mCons (mVar 1) mNil)) (sRet (mC .non)) sNx)
  (sSeq (sSet (mIx (mVar 1) (mVar 2)) (bNm 3))
  (sSet (mLC 1 [2, 3] (iVal (mVar 1)) (bNm 0) (mC (.bl true)) c_narrowest_6) (bNm 1))))
noncomputable def c_narrowest_1 : PSt → Option Rs :=
  (mCall R_narrower (mCons (mVar 1) (mCons (mCall R_free_bound (mCons (mVar 2) (mCons (mVar 0) mNil))) mNil)))
noncomputable def c_narrowest_1b : PSt → Option Rs :=
  (mLC 2 [0] (iEnumT (mCons (mVar 1) mNil)) (bTup 2 (bCons (bNm 0) (bCons (bNm 1) bNil))) (mC (.bl true)) c_narrowest_1)
noncomputable def m_narrowest : PSt → Option Out :=
  (sSeq (sSet (mLC 2 [] (iEnumT (mCons (mVar 0) mNil)) (bTup 2 (bCons (bNm 0) (bCons (bNm 1) bNil))) (mC (.bl true)) c_narrowest_1b) (bNm 1))
  (sSeq (sFor (iRange1 (mCons (mAp (g1 lenT) (mCons (mVar 1) mNil)) mNil)) (bNm 2) w_narrowest_2)
  (sRet (mVar 1))))
noncomputable def R_narrowest : List T → Option Ru := runP 1 4 m_narrowest
noncomputable abbrev fn_narrowest : Fn := ⟨3, ["zone"], R_narrowest⟩
noncomputable abbrev gm_narrowest : Gm := ⟨["zone", "rows", "k", "over"], (defScope s_narrowest).names, ["k", "over"], 2, [("row_over", fn_row_over), ("is_broken", fn_is_broken), ("narrower", fn_narrower), ("free_bound", fn_free_bound)], ["range", "len", "enumerate"], [], [], ["_law_narrow", "_law_lies", "lies_in", "_law_is_zone"], false, [], [], []⟩
theorem ck_narrowest : dSs 200 gm_narrowest (defBody s_narrowest) = some m_narrowest := by kernel_rfl
theorem rng_brk {n : Nat} {f : Db.Z} {d : Nat → Int} (hd : ∀ i, i < n → f i i = some (d i)) : ((List.range n).any fun i => decide (d i < 1)) = true ↔ Db.Brk n f := by
  rw [List.any_eq_true]
  constructor
  · rintro ⟨i, hi, h⟩
    have hi := List.mem_range.mp hi
    refine ⟨i, hi, ?_⟩
    rw [hd i hi]
    have := of_decide_eq_true h
    simp only [Db.le]
    omega
  · rintro ⟨i, hi, h⟩
    refine ⟨i, List.mem_range.mpr hi, decide_eq_true ?_⟩
    rw [hd i hi] at h
    simp only [Db.le] at h
    omega
theorem diag_some (f : Db.Z) (k i : Nat) : ∃ d, Db.fw f k i i = some d := by
  have := Db.diag_le f i k
  cases h : Db.fw f k i i with
  | none => rw [h] at this; exact this.elim
  | some d => exact ⟨d, rfl⟩
theorem nst_ok {n : Nat} (hn : n ≤ 100000) (f : Db.Z) : (Db.Sound n f → R_narrowest [zT n f] = some (.ok (zT n (Db.fw f n)))) ∧ (¬ Db.Sound n f → R_narrowest [zT n f] = some (.ok .non)) := by
  have l1 : n ≤ 100000 := by omega
  have in1 : ∀ i, i < n → c_narrowest_1b [some (.int (i : Int)), some (rT n (f i))] = some (.v (.own (mT n fun j => bT (Db.z0 f i j))) false) := fun i hi => by
    have lc := lc2 (n := n) (me := c_narrowest_1) (x := none) (y := none) (cs := [some (.int (i : Int))]) (u := fun j => .int (j : Int)) (w := fun j => bT (f i j)) (f := fun j => bT (Db.z0 f i j)) fun j hj => by
      unfold c_narrowest_1
      simp_arith [fb_ok, nr_ok]
      rfl
    unfold c_narrowest_1b
    simp_arith [enum_mT, lc, l1]
  have lc0 := lc2 (n := n) (me := c_narrowest_1b) (x := none) (y := none) (cs := []) (u := fun i => .int (i : Int)) (w := fun i => rT n (f i)) (f := fun i => .own (mT n fun j => bT (Db.z0 f i j))) in1
  have loop := for_chk (b := bNm 2) (body := w_narrowest_2) (n := n) (g := fun i => .int (i : Int)) (τ := [some (zT n f), some (zT n (Db.fw f 0)), none, none]) (fun k => ¬ Db.Brk n (Db.fw f k)) .non
    (fun k τ => ∃ x y, τ = [some (zT n f), some (zT n (Db.fw f k)), x, y]) ⟨none, none, rfl⟩ (by
      rintro k τ hk - ⟨x, y, rfl⟩
      refine ⟨_, by simp_arith []; rfl, ?_⟩
      have hd : ∀ i, i < n → Db.fw f k i i = some ((Db.fw f k i i).getD 0) := fun i _ => by
        obtain ⟨d, e⟩ := diag_some f k i
        rw [e]
        rfl
      have b1 := brk_ok hn hd
      by_cases hb : Db.Brk n (Db.fw f k)
      · right
        refine ⟨fun q => q hb, ?_⟩
        rw [(rng_brk hd).mpr hb] at b1
        unfold w_narrowest_2
        simp_arith [b1]
      · left
        refine ⟨hb, ?_⟩
        have b2 : ((List.range n).any fun i => decide ((Db.fw f k i i).getD 0 < 1)) = false := by
          cases q : ((List.range n).any fun i => decide ((Db.fw f k i i).getD 0 < 1)) with
          | false => rfl
          | true => exact absurd ((rng_brk hd).mp q) hb
        rw [b2] at b1
        generalize hg : Db.fw f k = g at *
        have lc := lc1 (n := n) (me := c_narrowest_6) (x := none) (cs := [some (.int (k : Int)), some (rT n (g k))]) (g := fun i => rT n (g i)) (f := fun i => match g i k with | none => rT n (g i) | some c => .own (mT n fun j => bT (Db.mn (g i j) (Db.add (some c) (g k j))))) fun i hi => by
          unfold c_narrowest_6
          cases e : g i k with
          | none => simp_arith [mT_atN hk, e]
          | some c => simp_arith [mT_atN hk, e, ro_ok hn]
        have e2 : (mT n fun i => (match g i k with | none => rT n (g i) | some c => T.own (mT n fun j => bT (Db.mn (g i j) (Db.add (some c) (g k j))))).share) = mT n fun i => rT n (Db.stp g k i) := mT_congr fun i hi => by
          cases e : g i k with
          | none =>
            simp only [rT_share]
            unfold rT
            rw [mT_congr fun j hj => ?_]
            unfold Db.stp
            rw [e]
            cases g i j <;> rfl
          | some c =>
            simp_arith []
            rw [mT_congr fun j hj => ?_]
            unfold Db.stp
            rw [e]
        refine ⟨[some (zT n f), some (zT n (Db.stp g k)), some (.int (k : Int)), some (rT n (g k))], .inl ?_, some (.int (k : Int)), some (rT n (g k)), ?_⟩
        · unfold w_narrowest_2
          simp_arith [b1, mT_atN hk, lc, l1]
          rw [e2]
        · rw [show Db.fw f (k + 1) = Db.stp g k by rw [← hg]; rfl])
  have hr : ok62 (n : Int) = true := ok62_nat hn
  have st : ∀ r, forGo (bNm 2) w_narrowest_2 (mT n fun i => .int (i : Int)) [some (zT n f), some (zT n (Db.fw f 0)), none, none] = r → R_narrowest [zT n f] = (match (match r with | some (.nx τ') => sRet (mVar 1) τ' | r => r) with
      | some (.rt t) => some (Ru.ok t)
      | some (.nx _) => some (.ok .non)
      | some (.xc c _) => some (.exc c)
      | _ => none) := by
    rintro _ rfl
    unfold R_narrowest m_narrowest
    simp_arith [enum_mT, lc0, l1, hr, range0_mT]
    rfl
  rcases loop with ⟨h1, τ', e, x, y, rfl⟩ | ⟨⟨i, hi, hb⟩, e⟩
  · refine ⟨fun _ => ?_, fun h => absurd (fun k hk => h1 k hk) h⟩
    rw [st _ e]
    simp_arith []
  · refine ⟨fun h => absurd (h i hi) hb, fun _ => ?_⟩
    rw [st _ e]
abbrev s_Lstream : Stmt := top 23
theorem sc_Lstream : FnScope ["_law_cell", "_law_many", "_law_found", "_law_number", "_law_k", "_law_rest"] ["_law_cell", "_law_many"] (defScope s_Lstream) := ⟨rfl, rfl, rfl, by decide +kernel, rfl, by decide +kernel, by decide +kernel⟩
noncomputable def w_Lstream_9 : PSt → Option Out :=
  (sSeq (sSet (mAp (g2 modT) (mCons (mAp (g2 addT) (mCons (mAp (g2 addT) (mCons (mAp (g2 mulT) (mCons (mVar 3) (mCons (mVar 3) mNil))) (mCons (mAp (g2 mulT) (mCons (mC (.int 48271)) (mCons (mVar 3) mNil))) mNil))) (mCons (mVar 4) mNil))) (mCons (mAp (g2 addT) (mCons (mAp (g2 powT) (mCons (mC (.int 10)) (mCons (mC (.int 18)) mNil))) (mCons (mC (.int 9)) mNil))) mNil))) (bNm 3))
  (sApp 2 (mVar 3)))
noncomputable def w_Lstream_4 : PSt → Option Out :=
  (sSeq (sApp 2 (mAp (g2 modT) (mCons (mVar 5) (mCons (mAp (g2 powT) (mCons (mC (.int 10)) (mCons (mC (.int 45)) mNil))) mNil))))
  (sSet (mAp (g2 fdivT) (mCons (mVar 5) (mCons (mAp (g2 powT) (mCons (mC (.int 10)) (mCons (mC (.int 45)) mNil))) mNil))) (bNm 5)))
noncomputable def m_Lstream : PSt → Option Out :=
  (sSeq (sOwn 2 (mLst mNil))
  (sSeq (sIf (mAp (g2 (cmpT fun i j => decide (j ≤ i))) (mCons (mVar 0) (mCons (mAp (g2 powT) (mCons (mC (.int 10)) (mCons (mC (.int 30)) mNil))) mNil))) (sSeq (sSet (mAp (g2 subT) (mCons (mVar 0) (mCons (mAp (g2 powT) (mCons (mC (.int 10)) (mCons (mC (.int 30)) mNil))) mNil))) (bNm 5))
  (sSeq (sFor (iRange1 (mCons (mVar 1) mNil)) (bNm 4) w_Lstream_4)
  (sRet (mVar 2)))) sNx)
  (sSeq (sSet (mAp (g2 addT) (mCons (mAp (g2 modT) (mCons (mVar 0) (mCons (mAp (g2 addT) (mCons (mAp (g2 powT) (mCons (mC (.int 10)) (mCons (mC (.int 18)) mNil))) (mCons (mC (.int 9)) mNil))) mNil))) (mCons (mC (.int 48271)) mNil))) (bNm 3))
  (sSeq (sFor (iRange1 (mCons (mAp (g2 addT) (mCons (mVar 1) (mCons (mC (.int 2)) mNil))) mNil)) (bNm 4) w_Lstream_9)
  (sSeq (sFrz 2) (sRet (mSl (mVar 2) (some (mC (.int 2))) none)))))))
noncomputable def R_Lstream : List T → Option Ru := runP 2 6 m_Lstream
noncomputable abbrev fn_Lstream : Fn := ⟨1, ["_law_cell", "_law_many"], R_Lstream⟩
noncomputable abbrev gm_Lstream : Gm := ⟨["_law_cell", "_law_many", "_law_found", "_law_number", "_law_k", "_law_rest"], (defScope s_Lstream).names, [], 0, [], ["range"], [], ["_law_found"], ["_law_narrow", "_law_lies", "lies_in", "_law_is_zone"], false, [], [], []⟩
theorem ck_Lstream : dSs 200 gm_Lstream (defBody s_Lstream) = some m_Lstream := by kernel_rfl
theorem st_ex (c : Int) {m : Nat} (hm : m ≤ 1000) : ∃ xs : Nat → Int, R_Lstream [.int c, .int m] = some (.ok (.own (mT m fun i => .int (xs i)))) := by
  have p30 : (0 : Int) ≤ 30 ∧ (30 : Int) ≤ 1000000 ∧ s64 10 = true := ⟨by decide, by decide, s64_of (by decide) (by decide)⟩
  have p45 : (0 : Int) ≤ 45 ∧ (45 : Int) ≤ 1000000 ∧ s64 10 = true := ⟨by decide, by decide, s64_of (by decide) (by decide)⟩
  have p18 : (0 : Int) ≤ 18 ∧ (18 : Int) ≤ 1000000 ∧ s64 10 = true := ⟨by decide, by decide, s64_of (by decide) (by decide)⟩
  have s45 : s70 (10 ^ 45) = true := s70_of (by decide) (by decide)
  have z45 : ((10 : Int) ^ 45 ≠ 0) = True := by simp
  have z18 : ((10 : Int) ^ 18 + 9 ≠ 0) = True := by simp
  have r45 : (45 : Int).toNat = 45 := rfl
  have r30 : (30 : Int).toNat = 30 := rfl
  have r18 : (18 : Int).toNat = 18 := rfl
  by_cases h : (10 : Int) ^ 30 ≤ c
  · have loop := for_mT (b := bNm 4) (body := w_Lstream_4) (n := m) (g := fun i => .int (i : Int)) (τ := [some (.int c), some (.int m), some (.own []), none, none, some (.int (c - 10 ^ 30))])
      (fun i τ => ∃ (xs : Nat → Int) (x : Option T) (r : Int), τ = [some (.int c), some (.int m), some (.own (mT i fun i => .int (xs i))), none, x, some (.int r)])
      ⟨fun _ => 0, none, _, rfl⟩ (by
        rintro i τ hi ⟨xs, x, r, rfl⟩
        refine ⟨_, by simp_arith []; rfl, ?_⟩
        have l1 : i < 100000 := by omega
        refine ⟨_, by unfold w_Lstream_4; simp_arith [p45, s45, z45, r45, l1]; rfl, fun j => if j = i then r.fmod (10 ^ 45) else xs j, some (.int (i : Int)), r.fdiv (10 ^ 45), ?_⟩
        rw [mT_push T.int])
    obtain ⟨τ', e1, xs, x, r, rfl⟩ := loop
    refine ⟨xs, ?_⟩
    have o1 : ok62 (m : Int) = true := ok62_nat (by omega)
    unfold R_Lstream m_Lstream
    simp_arith [p30, r30, h, o1, range0_mT, e1]
  · have loop := for_mT (b := bNm 4) (body := w_Lstream_9) (n := m + 2) (g := fun i => .int (i : Int)) (τ := [some (.int c), some (.int m), some (.own []), some (.int (c.fmod (10 ^ 18 + 9) + 48271)), none, none])
      (fun i τ => ∃ (xs : Nat → Int) (x : Option T) (r : Int), 0 ≤ r ∧ r < 2 * 10 ^ 18 ∧ τ = [some (.int c), some (.int m), some (.own (mT i fun i => .int (xs i))), some (.int r), x, none])
      ⟨fun _ => 0, none, _, by rw [fm (by decide)]; omega, by rw [fm (by decide)]; omega, rfl⟩ (by
        rintro i τ hi ⟨xs, x, r, r0, r1, rfl⟩
        refine ⟨_, by simp_arith []; rfl, ?_⟩
        have l1 : i < 100000 := by omega
        have m1 : mulOk r r = true := mulOk_s (s70_of (by omega) (by omega)) (s70_of (by omega) (by omega))
        have m2 : mulOk 48271 r = true := mulOk_l (s64_of (by decide) (by decide))
        refine ⟨_, by unfold w_Lstream_9; simp_arith [p18, z18, r18, l1, m1, m2]; rfl, fun j => if j = i then (r * r + 48271 * r + i).fmod (10 ^ 18 + 9) else xs j, some (.int (i : Int)), (r * r + 48271 * r + i).fmod (10 ^ 18 + 9), by rw [fm (by decide)]; omega, by rw [fm (by decide)]; omega, ?_⟩
        rw [mT_push T.int])
    obtain ⟨τ', e1, xs, x, r, -, -, rfl⟩ := loop
    refine ⟨fun i => xs (i + 2), ?_⟩
    have o1 : ok62 ((m : Int) + 2) = true := ok62_nat (n := m + 2) (by omega)
    have o2 : ((m : Int) + 2).toNat = m + 2 := by omega
    have ct : cutL (mT (m + 2) fun i => .int (xs i)) (some 2) none = mT m fun i => .int (xs (i + 2)) := by
      unfold cutL
      have e2 : HT.sIx (mT (m + 2) fun i => T.int (xs i)).length 0 (some 2) = 2 := by rw [mT_len]; simp [HT.sIx]
      have e3 : HT.sIx (mT (m + 2) fun i => T.int (xs i)).length (mT (m + 2) fun i => T.int (xs i)).length none = m + 2 := by rw [mT_len]; rfl
      rw [e2, e3]
      refine mT_ext (by simp [mT_len]) fun i hi => ?_
      rw [List.getElem?_take_of_lt (by omega), List.getElem?_drop, mT_get (by omega), Nat.add_comm]
    unfold R_Lstream m_Lstream
    simp_arith [p30, r30, h, p18, r18, z18, o1, o2, range0_mT, e1, ct]
noncomputable def strm (c : Int) (m : Nat) : Nat → Int := open Classical in if h : m ≤ 1000 then Classical.choose (st_ex c h) else fun _ => 0
theorem st_ok (c : Int) {m : Nat} (hm : m ≤ 1000) : R_Lstream [.int c, .int m] = some (.ok (.own (mT m fun i => .int (strm c m i)))) := by
  unfold strm
  rw [dif_pos hm]
  exact Classical.choose_spec (st_ex c hm)
abbrev s_Llets : Stmt := top 29
theorem sc_Llets : FnScope ["_law_bound_here", "_law_value", "_law_most"] ["_law_bound_here", "_law_value"] (defScope s_Llets) := ⟨rfl, rfl, rfl, by decide +kernel, rfl, by decide +kernel, by decide +kernel⟩
noncomputable def m_Llets : PSt → Option Out :=
  (sSeq (sIf (mAp (g2 (isT2 false)) (mCons (mVar 0) (mCons (mC .non) mNil))) (sRet (mC (.bl true))) sNx)
  (sSeq (sSet (mAp (g2 mulT) (mCons (mAp (g2 fdivT) (mCons (mVar 0) (mCons (mC (.int 2)) mNil))) (mCons (mIx (mVar 1) (mC (.int 1))) mNil))) (bNm 2))
  (sRet (mOr (mAp (g2 (cmpT fun i j => decide (i < j))) (mCons (mIx (mVar 1) (mC (.int 0))) (mCons (mVar 2) mNil))) (mAnd (mAp (g2 eqT) (mCons (mIx (mVar 1) (mC (.int 0))) (mCons (mVar 2) mNil))) (mAp (g2 eqT) (mCons (mAp (g2 modT) (mCons (mVar 0) (mCons (mC (.int 2)) mNil))) (mCons (mC (.int 1)) mNil))))))))
noncomputable def R_Llets : List T → Option Ru := runP 2 3 m_Llets
noncomputable abbrev fn_Llets : Fn := ⟨1, ["_law_bound_here", "_law_value"], R_Llets⟩
noncomputable abbrev gm_Llets : Gm := ⟨["_law_bound_here", "_law_value", "_law_most"], (defScope s_Llets).names, [], 0, [], [], [], [], ["_law_narrow", "_law_lies", "lies_in", "_law_is_zone"], false, [], [], []⟩
theorem ck_Llets : dSs 200 gm_Llets (defBody s_Llets) = some m_Llets := by kernel_rfl
theorem lle_ok {c : Db.B} {t b : Int} (hm : ∀ x, c = some x → mulOk (x / 2) b = true) : R_Llets [bT c, fr t b] = some (.ok (.bl (Db.satB b c t))) := by
  unfold R_Llets m_Llets
  cases c with
  | none => simp_arith [Db.satB]
  | some c =>
    have m2 := hm c rfl
    have s2 : s70 2 = true := s70_of (by decide) (by decide)
    have f2 : c.fdiv 2 = c / 2 := fd (by decide)
    have f3 : c.fmod 2 = c % 2 := fm (by decide)
    have e0 : c % 2 = 0 ∨ c % 2 = 1 := by omega
    have es : Db.satB b (some c) t = decide (t ≤ c / 2 * b - 1 + c % 2) := rfl
    rw [es]
    by_cases h1 : t < c / 2 * b
    · have e1 : decide (t ≤ c / 2 * b - 1 + c % 2) = true := decide_eq_true (by omega)
      simp_arith [s2, f2, m2, h1, e1]
    · by_cases h2 : t = c / 2 * b
      · have h2' : (t == c / 2 * b) = true := by simp [h2]
        rcases e0 with e | e
        · have e1 : decide (t ≤ c / 2 * b - 1 + c % 2) = false := decide_eq_false (by omega)
          simp_arith [s2, f2, m2, h1, h2', f3, e, eq_int, show ((0 : Int) == 1) = false from rfl]
          rw [e] at e1
          simp only [e1]
        · have e1 : decide (t ≤ c / 2 * b - 1 + c % 2) = true := decide_eq_true (by omega)
          simp_arith [s2, f2, m2, h1, h2', f3, e, eq_int]
          rw [e] at e1
          simp only [e1]
      · have h2' : (t == c / 2 * b) = false := by simp [h2]
        have e1 : decide (t ≤ c / 2 * b - 1 + c % 2) = false := decide_eq_false (by omega)
        simp_arith [s2, f2, m2, h1, h2', eq_int, e1]
abbrev s_Llies : Stmt := top 30
theorem sc_Llies : FnScope ["_law_zone", "_law_values_here", "_law_places", "_law_i", "_law_j"] ["_law_zone", "_law_values_here"] (defScope s_Llies) := ⟨rfl, rfl, rfl, by decide +kernel, rfl, by decide +kernel, by decide +kernel⟩
noncomputable def w_Llies_3 : PSt → Option Out :=
  (sIf (mNot (mCall R_Llets (mCons (mIx (mIx (mVar 0) (mVar 3)) (mVar 4)) (mCons (mCall R_Lminus (mCons (mIx (mVar 2) (mVar 3)) (mCons (mIx (mVar 2) (mVar 4)) mNil))) mNil)))) (sRet (mC (.bl false))) sNx)
noncomputable def w_Llies_2 : PSt → Option Out :=
  (sFor (iRange1 (mCons (mAp (g1 lenT) (mCons (mVar 2) mNil)) mNil)) (bNm 4) w_Llies_3)
noncomputable def m_Llies : PSt → Option Out :=
  (sSeq (sSet (mAp (g2 addT) (mCons (mLst (mConsO (mTup (mCons (mC (.int 0)) (mCons (mC (.int 1)) mNil))) mNil)) (mCons (mVar 1) mNil))) (bNm 2))
  (sSeq (sFor (iRange1 (mCons (mAp (g1 lenT) (mCons (mVar 2) mNil)) mNil)) (bNm 3) w_Llies_2)
  (sRet (mC (.bl true)))))
noncomputable def R_Llies : List T → Option Ru := runP 2 5 m_Llies
noncomputable abbrev fn_Llies : Fn := ⟨2, ["_law_zone", "_law_values_here"], R_Llies⟩
noncomputable abbrev gm_Llies : Gm := ⟨["_law_zone", "_law_values_here", "_law_places", "_law_i", "_law_j"], (defScope s_Llies).names, [], 1, [("_law_lets", fn_Llets), ("_law_minus", fn_Lminus)], ["range", "len"], [], [], ["_law_narrow", "_law_lies", "lies_in", "_law_is_zone"], false, [], [], []⟩
theorem ck_Llies : dSs 200 gm_Llies (defBody s_Llies) = some m_Llies := by kernel_rfl
structure Szv (n : Nat) (p : Nat → Int × Int) (f : Db.Z) : Prop where
  pos : ∀ i, i < n → 0 < (p i).2
  mul : ∀ i j, i < n → j < n → mulOk (p i).1 (p j).2 = true ∧ mulOk (p i).2 (p j).2 = true ∧ (p i).2 * (p j).2 < 10 ^ 70
  num : ∀ i j c, i < n → j < n → f i j = some c → ∀ b, 0 < b → b ≤ (p i).2 * (p j).2 → mulOk (c / 2) b = true
theorem lli_ok {m : Nat} (hm : m ≤ 1000) {f : Db.Z} {v : Nat → Int × Int} (hz : Szv (m + 1) (zero1 v) f) {D : Int} {X : Nat → Int} (hD : 0 < D) (hX : ∀ i, i < m + 1 → X i * (zero1 v i).2 = (zero1 v i).1 * D) :
    (Db.Lie (m + 1) D X f → R_Llies [zT (m + 1) f, vT m v] = some (.ok (.bl true))) ∧ (¬ Db.Lie (m + 1) D X f → R_Llies [zT (m + 1) f, vT m v] = some (.ok (.bl false))) := by
  generalize hp : zero1 v = p at *
  have hc : (fr 0 1) :: mT m (fun i => fr (v i).1 (v i).2) = mT (m + 1) fun i => fr (p i).1 (p i).2 := by rw [vT_cons, hp]
  have key : ∀ i j, i < m + 1 → j < m + 1 → ∃ t b, R_Lminus [fr (p i).1 (p i).2, fr (p j).1 (p j).2] = some (.ok (fr t b)) ∧ R_Llets [bT (f i j), fr t b] = some (.ok (.bl (Db.satB b (f i j) t))) ∧ (Db.sat b (f i j) t ↔ Db.sat D (f i j) (X i - X j)) := by
    intro i j hi hj
    have bi := hz.pos i hi
    have bj := hz.pos j hj
    have q0 := Int.mul_pos bi bj
    refine ⟨_, _, lmi_ok (hz.mul i j hi hj).1 (hz.mul j i hj hi).1 (hz.mul i j hi hj).2.1, lle_ok fun x e => hz.num i j x hi hj e _ q0 (Int.le_refl _), ?_⟩
    refine Db.sat_scale q0 hD ?_ _
    have x1 := hX i hi
    have x2 := hX j hj
    rw [Int.sub_mul, Int.sub_mul]
    have y1 : X i * ((p i).2 * (p j).2) = (p i).1 * (p j).2 * D := by rw [← Int.mul_assoc, x1, Int.mul_assoc, Int.mul_comm D, ← Int.mul_assoc]
    have y2 : X j * ((p i).2 * (p j).2) = (p j).1 * (p i).2 * D := by rw [Int.mul_comm (p i).2, ← Int.mul_assoc, x2, Int.mul_assoc, Int.mul_comm D, ← Int.mul_assoc]
    rw [y1, y2]
  have o1 : ok62 ((m + 1 : Nat) : Int) = true := ok62_nat (by omega)
  have l1 : 1 + m ≤ 100000 := by omega
  have loop := for_chk (b := bNm 3) (body := w_Llies_2) (n := m + 1) (g := fun i => .int (i : Int)) (τ := [some (zT (m + 1) f), some (vT m v), some (vT (m + 1) p), none, none]) (fun i => ∀ j, j < m + 1 → Db.sat D (f i j) (X i - X j)) (.bl false)
    (fun i τ => ∃ x z, τ = [some (zT (m + 1) f), some (vT m v), some (vT (m + 1) p), x, z]) ⟨none, none, rfl⟩ (by
      rintro i τ hi - ⟨x, z, rfl⟩
      refine ⟨_, by simp_arith []; rfl, ?_⟩
      have loop2 := for_chk (b := bNm 4) (body := w_Llies_3) (n := m + 1) (g := fun j => .int (j : Int)) (τ := [some (zT (m + 1) f), some (vT m v), some (vT (m + 1) p), some (.int (i : Int)), z]) (fun j => Db.sat D (f i j) (X i - X j)) (.bl false)
        (fun j τ => ∃ z, τ = [some (zT (m + 1) f), some (vT m v), some (vT (m + 1) p), some (.int (i : Int)), z]) ⟨z, rfl⟩ (by
          rintro j τ hj - ⟨z, rfl⟩
          refine ⟨_, by simp_arith []; rfl, ?_⟩
          obtain ⟨t, b, k1, k2, k3⟩ := key i j hi hj
          unfold w_Llies_3
          by_cases h : Db.sat D (f i j) (X i - X j)
          · left
            rw [Db.satB_iff.mpr (k3.mpr h)] at k2
            exact ⟨h, _, .inl (by simp_arith [mT_atN hi, mT_atN hj, k1, k2]; rfl), _, rfl⟩
          · right
            have k4 : Db.satB b (f i j) t = false := by
              cases q : Db.satB b (f i j) t with
              | false => rfl
              | true => exact absurd (k3.mp (Db.satB_iff.mp q)) h
            rw [k4] at k2
            exact ⟨h, by simp_arith [mT_atN hi, mT_atN hj, k1, k2]⟩)
      rcases loop2 with ⟨h, τ', e, z, rfl⟩ | ⟨⟨j, hj, h⟩, e⟩
      · left
        refine ⟨h, _, .inl ?_, some (.int (i : Int)), z, rfl⟩
        unfold w_Llies_2
        simp_arith [o1, range0_mT, e]
      · right
        refine ⟨fun q => h (q j hj), ?_⟩
        unfold w_Llies_2
        simp_arith [o1, range0_mT, e])
  rcases loop with ⟨h, τ', e, x, z, rfl⟩ | ⟨⟨i, hi, h⟩, e⟩
  · refine ⟨fun _ => ?_, fun q => absurd (fun i j hi hj => h i hi j hj) q⟩
    unfold R_Llies m_Llies
    simp_arith [l1, hc, o1, range0_mT, e]
  · refine ⟨fun q => absurd (fun j hj => q i j hi hj) h, fun _ => ?_⟩
    unfold R_Llies m_Llies
    simp_arith [l1, hc, o1, range0_mT, e]
abbrev s_is_open : Stmt := top 12
theorem sc_is_open : FnScope ["bound"] ["bound"] (defScope s_is_open) := ⟨rfl, rfl, rfl, by decide +kernel, rfl, by decide +kernel, by decide +kernel⟩
noncomputable def m_is_open : PSt → Option Out :=
  (sRet (mAp (g2 eqT) (mCons (mAp (g2 modT) (mCons (mVar 0) (mCons (mC (.int 2)) mNil))) (mCons (mC (.int 0)) mNil))))
noncomputable def R_is_open : List T → Option Ru := runP 1 1 m_is_open
noncomputable abbrev fn_is_open : Fn := ⟨1, ["bound"], R_is_open⟩
noncomputable abbrev gm_is_open : Gm := ⟨["bound"], (defScope s_is_open).names, [], 0, [], [], [], [], ["_law_narrow", "_law_lies", "lies_in", "_law_is_zone"], false, [], [], []⟩
theorem ck_is_open : dSs 200 gm_is_open (defBody s_is_open) = some m_is_open := by kernel_rfl
theorem io_ok (i : Int) : R_is_open [.int i] = some (.ok (.bl (i % 2 == 0))) := by
  have f : i.fmod 2 = i % 2 := fm (by decide)
  unfold R_is_open m_is_open
  simp_arith [f, eq_int]
abbrev s_number_of : Stmt := top 11
theorem sc_number_of : FnScope ["bound"] ["bound"] (defScope s_number_of) := ⟨rfl, rfl, rfl, by decide +kernel, rfl, by decide +kernel, by decide +kernel⟩
noncomputable def m_number_of : PSt → Option Out :=
  (sRet (mAp (g2 fdivT) (mCons (mVar 0) (mCons (mC (.int 2)) mNil))))
noncomputable def R_number_of : List T → Option Ru := runP 1 1 m_number_of
noncomputable abbrev fn_number_of : Fn := ⟨1, ["bound"], R_number_of⟩
noncomputable abbrev gm_number_of : Gm := ⟨["bound"], (defScope s_number_of).names, [], 0, [], [], [], [], ["_law_narrow", "_law_lies", "lies_in", "_law_is_zone"], false, [], [], []⟩
theorem ck_number_of : dSs 200 gm_number_of (defBody s_number_of) = some m_number_of := by kernel_rfl
theorem no_ok (i : Int) : R_number_of [.int i] = some (.ok (.int (i / 2))) := by
  have m : s70 2 = true := s70_of (by decide) (by decide)
  have f : i.fdiv 2 = i / 2 := fd (by decide)
  unfold R_number_of m_number_of
  simp_arith [m, f]
abbrev s_under : Stmt := top 8
theorem sc_under : FnScope ["one", "other"] ["one", "other"] (defScope s_under) := ⟨rfl, rfl, rfl, by decide +kernel, rfl, by decide +kernel, by decide +kernel⟩
noncomputable def m_under : PSt → Option Out :=
  (sRet (mAp (g2 (cmpT fun i j => decide (i < j))) (mCons (mAp (g2 mulT) (mCons (mIx (mVar 0) (mC (.int 0))) (mCons (mIx (mVar 1) (mC (.int 1))) mNil))) (mCons (mAp (g2 mulT) (mCons (mIx (mVar 1) (mC (.int 0))) (mCons (mIx (mVar 0) (mC (.int 1))) mNil))) mNil))))
noncomputable def R_under : List T → Option Ru := runP 2 2 m_under
noncomputable abbrev fn_under : Fn := ⟨1, ["one", "other"], R_under⟩
noncomputable abbrev gm_under : Gm := ⟨["one", "other"], (defScope s_under).names, [], 0, [], [], [], [], ["_law_narrow", "_law_lies", "lies_in", "_law_is_zone"], false, [], [], []⟩
theorem ck_under : dSs 200 gm_under (defBody s_under) = some m_under := by kernel_rfl
theorem un_ok {a b c d : Int} (h1 : mulOk a d = true) (h2 : mulOk c b = true) : R_under [fr a b, fr c d] = some (.ok (.bl (decide (a * d < c * b)))) := by
  unfold R_under m_under
  simp_arith [h1, h2]
abbrev s_lets : Stmt := top 14
theorem sc_lets : FnScope ["bound", "value", "edge"] ["bound", "value"] (defScope s_lets) := ⟨rfl, rfl, rfl, by decide +kernel, rfl, by decide +kernel, by decide +kernel⟩
noncomputable def m_lets : PSt → Option Out :=
  (sSeq (sIf (mAp (g2 (isT2 false)) (mCons (mVar 0) (mCons (mC .non) mNil))) (sRet (mC (.bl true))) sNx)
  (sSeq (sSet (mTup (mCons (mCall R_number_of (mCons (mVar 0) mNil)) (mCons (mC (.int 1)) mNil))) (bNm 2))
  (sSeq (sIf (mCall R_is_open (mCons (mVar 0) mNil)) (sRet (mCall R_under (mCons (mVar 1) (mCons (mVar 2) mNil)))) sNx)
  (sRet (mNot (mCall R_under (mCons (mVar 2) (mCons (mVar 1) mNil))))))))
noncomputable def R_lets : List T → Option Ru := runP 2 3 m_lets
noncomputable abbrev fn_lets : Fn := ⟨2, ["bound", "value"], R_lets⟩
noncomputable abbrev gm_lets : Gm := ⟨["bound", "value", "edge"], (defScope s_lets).names, [], 1, [("under", fn_under), ("is_open", fn_is_open), ("number_of", fn_number_of)], [], [], [], ["_law_narrow", "_law_lies", "lies_in", "_law_is_zone"], false, [], [], []⟩
theorem ck_lets : dSs 200 gm_lets (defBody s_lets) = some m_lets := by kernel_rfl
theorem lets_ok {c : Db.B} {t b : Int} (hm : ∀ x, c = some x → mulOk (x / 2) b = true) : R_lets [bT c, fr t b] = some (.ok (.bl (Db.satB b c t))) := by
  unfold R_lets m_lets
  cases c with
  | none => simp_arith [Db.satB]
  | some c =>
    have m1 : mulOk t 1 = true := mulOk_r (s64_of (by decide) (by decide))
    have m2 := hm c rfl
    have m3 : mulOk (c / 2) b = true := m2
    have e0 : c % 2 = 0 ∨ c % 2 = 1 := by omega
    have u1 := un_ok (a := t) (b := b) (c := c / 2) (d := 1) m1 m2
    have u2 := un_ok (a := c / 2) (b := 1) (c := t) (d := b) m2 m1
    rcases e0 with e | e
    · simp_arith [no_ok, io_ok, e, u1]
      show _ = Ru.ok (.bl (decide (t ≤ c / 2 * b - 1 + c % 2)))
      rw [e, Int.mul_one]
      congr 2
      rw [decide_eq_decide]
      omega
    · simp_arith [no_ok, io_ok, e, show ((1 : Int) == 0) = false from rfl, u2]
      show _ = Ru.ok (.bl (decide (t ≤ c / 2 * b - 1 + c % 2)))
      rw [e, Int.mul_one]
      congr 2
      rw [← decide_not, decide_eq_decide]
      omega
abbrev s_greatest_divisor : Stmt := top 5
theorem sc_greatest_divisor : FnScope ["one", "other", "greater", "lesser", "rest"] ["one", "other"] (defScope s_greatest_divisor) := ⟨rfl, rfl, rfl, by decide +kernel, rfl, by decide +kernel, by decide +kernel⟩
noncomputable def t_greatest_divisor_3 : PSt → Option Rs :=
  (mAp (g2 neT) (mCons (mVar 3) (mCons (mC (.int 0)) mNil)))
noncomputable def w_greatest_divisor_3 : PSt → Option Out :=
  (sSeq (sSet (mAp (g2 modT) (mCons (mVar 2) (mCons (mVar 3) mNil))) (bNm 4))
  (sSeq (sSet (mVar 3) (bNm 2))
  (sSet (mVar 4) (bNm 3))))
noncomputable def m_greatest_divisor : PSt → Option Out :=
  (sSeq (sSet (mAp (g1 absT) (mCons (mVar 0) mNil)) (bNm 2))
  (sSeq (sSet (mAp (g1 absT) (mCons (mVar 1) mNil)) (bNm 3))
  (sSeq (sWh t_greatest_divisor_3 w_greatest_divisor_3)
  (sRet (mVar 2)))))
noncomputable def R_greatest_divisor : List T → Option Ru := runP 2 5 m_greatest_divisor
noncomputable abbrev fn_greatest_divisor : Fn := ⟨1, ["one", "other"], R_greatest_divisor⟩
noncomputable abbrev gm_greatest_divisor : Gm := ⟨["one", "other", "greater", "lesser", "rest"], (defScope s_greatest_divisor).names, [], 0, [], ["abs"], [], [], ["_law_narrow", "_law_lies", "lies_in", "_law_is_zone"], false, [], [], []⟩
theorem ck_greatest_divisor : dSs 200 gm_greatest_divisor (defBody s_greatest_divisor) = some m_greatest_divisor := by kernel_rfl
theorem gd_ok (a b : Int) : R_greatest_divisor [.int a, .int b] = some (.ok (.int (Zm.gd a b))) := by
  have loop := sWh_inv (mc := t_greatest_divisor_3) (body := w_greatest_divisor_3)
    (τ := [some (.int a), some (.int b), some (.int (if a < 0 then -a else a)), some (.int (if b < 0 then -b else b)), none])
    (fun τ => ∃ (g l : Int) (r : Option T), τ = [some (.int a), some (.int b), some (.int g), some (.int l), r] ∧ 0 ≤ g ∧ 0 ≤ l ∧ Zm.gd g l = Zm.gd a b)
    (fun τ => match τ with | [_, _, _, some (.int l), _] => l.natAbs | _ => 0)
    ⟨_, _, none, rfl, by split <;> omega, by split <;> omega, Zm.gd_abs a b⟩ (by
      rintro τ ⟨g, l, r, rfl, hg, hl, e⟩
      by_cases h0 : l = 0
      · right
        exact ⟨false, by unfold t_greatest_divisor_3; simp_arith [ne_int, h0]⟩
      · left
        refine ⟨false, by unfold t_greatest_divisor_3; simp_arith [ne_int]; simp [h0], [some (.int a), some (.int b), some (.int l), some (.int (g.fmod l)), some (.int (g.fmod l))], by unfold w_greatest_divisor_3; simp_arith [h0], ⟨_, _, _, rfl, hl, ?_, ?_⟩, ?_⟩
        · exact Int.fmod_nonneg_of_pos g (by omega)
        · exact Zm.gd_turn e
        · exact Zm.fmod_less g h0)
  obtain ⟨τ', e1, ⟨g, l, r, rfl, hg, hl, e⟩, bb, e2⟩ := loop
  have hl0 : l = 0 := by
    have e3 : t_greatest_divisor_3 [some (.int a), some (.int b), some (.int g), some (.int l), r] = some (.v (.bl (!(l == 0))) false) := by unfold t_greatest_divisor_3; simp_arith [ne_int]
    rw [e3] at e2
    exact (by simpa using e2 : l = 0 ∧ bb = false).1
  have hgd : g = Zm.gd a b := by
    rw [← e, hl0]
    unfold Zm.gd
    rw [Int.gcd_zero_right]
    omega
  unfold R_greatest_divisor m_greatest_divisor
  simp_arith [e1]
  rw [hgd]
abbrev s_is_whole : Stmt := top 4
theorem sc_is_whole : FnScope ["thing"] ["thing"] (defScope s_is_whole) := ⟨rfl, rfl, rfl, by decide +kernel, rfl, by decide +kernel, by decide +kernel⟩
noncomputable def m_is_whole : PSt → Option Out :=
  (sRet (mAnd (mAp (g1 (isTyT "int")) (mCons (mVar 0) mNil)) (mNot (mAp (g1 (isTyT "bool")) (mCons (mVar 0) mNil)))))
noncomputable def R_is_whole : List T → Option Ru := runP 1 1 m_is_whole
noncomputable abbrev fn_is_whole : Fn := ⟨1, ["thing"], R_is_whole⟩
noncomputable abbrev gm_is_whole : Gm := ⟨["thing"], (defScope s_is_whole).names, [], 0, [], ["isinstance", "int", "bool"], [], [], ["_law_narrow", "_law_lies", "lies_in", "_law_is_zone"], false, [], [], []⟩
theorem ck_is_whole : dSs 200 gm_is_whole (defBody s_is_whole) = some m_is_whole := by kernel_rfl
theorem whole_int (i : Int) : R_is_whole [.int i] = some (.ok (.bl true)) := by simp_arith [R_is_whole, m_is_whole]
abbrev s_fraction : Stmt := top 6
theorem sc_fraction : FnScope ["top", "bottom", "divisor"] ["top", "bottom"] (defScope s_fraction) := ⟨rfl, rfl, rfl, by decide +kernel, rfl, by decide +kernel, by decide +kernel⟩
noncomputable def m_fraction : PSt → Option Out :=
  (sSeq (sIf (mOr (mNot (mCall R_is_whole (mCons (mVar 0) mNil))) (mNot (mCall R_is_whole (mCons (mVar 1) mNil)))) (sRse "NoNumber" (mCons (mC (.str "a fraction is made of two whole numbers")) mNil)) sNx)
  (sSeq (sIf (mAp (g2 eqT) (mCons (mVar 1) (mCons (mC (.int 0)) mNil))) (sRse "NoNumber" (mCons (mC (.str "the bottom of a fraction is not 0")) mNil)) sNx)
  (sSeq (sSet (mCall R_greatest_divisor (mCons (mVar 0) (mCons (mVar 1) mNil))) (bNm 2))
  (sSeq (sIf (mAp (g2 (cmpT fun i j => decide (i < j))) (mCons (mVar 1) (mCons (mC (.int 0)) mNil))) (sSet (mAp (g1 negT) (mCons (mVar 2) mNil)) (bNm 2)) sNx)
  (sRet (mTup (mCons (mAp (g2 fdivT) (mCons (mVar 0) (mCons (mVar 2) mNil))) (mCons (mAp (g2 fdivT) (mCons (mVar 1) (mCons (mVar 2) mNil))) mNil))))))))
noncomputable def R_fraction : List T → Option Ru := runP 2 3 m_fraction
noncomputable abbrev fn_fraction : Fn := ⟨2, ["top", "bottom"], R_fraction⟩
noncomputable abbrev gm_fraction : Gm := ⟨["top", "bottom", "divisor"], (defScope s_fraction).names, [], 1, [("greatest_divisor", fn_greatest_divisor), ("is_whole", fn_is_whole)], [], ["NoNumber"], [], ["_law_narrow", "_law_lies", "lies_in", "_law_is_zone"], false, [], [], []⟩
theorem ck_fraction : dSs 200 gm_fraction (defBody s_fraction) = some m_fraction := by kernel_rfl
theorem fr_ok {t b : Int} (hb : 0 < b) (hs : b < 10 ^ 70) : R_fraction [.int t, .int b] = some (.ok (fr (Zm.lt t b) (Zm.lb t b))) := by
  have g0 : 0 < Zm.gd t b := Zm.gd_pos (by omega)
  have g1 : Zm.gd t b ≤ b := Zm.gd_le hb
  have gs : s70 (Zm.gd t b) = true := s70_of (by omega (config := {})) (by omega (config := {}))
  have n0 : (b == 0) = false := by simp; omega
  have n1 : decide (b < 0) = false := by simp; omega
  have n2 : (Zm.gd t b ≠ 0) = True := by simp; omega
  unfold R_fraction m_fraction
  simp_arith [whole_int, gd_ok, eq_int, n0, n1, gs, n2]
  simp [lim, Zm.lt, Zm.lb]
abbrev s_minus : Stmt := top 7
theorem sc_minus : FnScope ["one", "other"] ["one", "other"] (defScope s_minus) := ⟨rfl, rfl, rfl, by decide +kernel, rfl, by decide +kernel, by decide +kernel⟩
noncomputable def m_minus : PSt → Option Out :=
  (sRet (mCall R_fraction (mCons (mAp (g2 subT) (mCons (mAp (g2 mulT) (mCons (mIx (mVar 0) (mC (.int 0))) (mCons (mIx (mVar 1) (mC (.int 1))) mNil))) (mCons (mAp (g2 mulT) (mCons (mIx (mVar 1) (mC (.int 0))) (mCons (mIx (mVar 0) (mC (.int 1))) mNil))) mNil))) (mCons (mAp (g2 mulT) (mCons (mIx (mVar 0) (mC (.int 1))) (mCons (mIx (mVar 1) (mC (.int 1))) mNil))) mNil))))
noncomputable def R_minus : List T → Option Ru := runP 2 2 m_minus
noncomputable abbrev fn_minus : Fn := ⟨3, ["one", "other"], R_minus⟩
noncomputable abbrev gm_minus : Gm := ⟨["one", "other"], (defScope s_minus).names, [], 2, [("fraction", fn_fraction)], [], [], [], ["_law_narrow", "_law_lies", "lies_in", "_law_is_zone"], false, [], [], []⟩
theorem ck_minus : dSs 200 gm_minus (defBody s_minus) = some m_minus := by kernel_rfl
theorem minus_ok {a b c d : Int} (hb : 0 < b) (hd : 0 < d) (h1 : mulOk a d = true) (h2 : mulOk c b = true) (h3 : mulOk b d = true) (hs : b * d < 10 ^ 70) : R_minus [fr a b, fr c d] = some (.ok (fr (Zm.lt (a * d - c * b) (b * d)) (Zm.lb (a * d - c * b) (b * d)))) := by
  unfold R_minus m_minus
  simp_arith [h1, h2, h3, fr_ok (t := a * d - c * b) (Int.mul_pos hb hd) hs]
abbrev s_lies_in : Stmt := top 17
theorem sc_lies_in : FnScope ["zone", "values", "told", "i", "row", "j", "bound"] ["zone", "values"] (defScope s_lies_in) := ⟨rfl, rfl, rfl, by decide +kernel, rfl, by decide +kernel, by decide +kernel⟩
noncomputable def w_lies_in_3 : PSt → Option Out :=
  (sIf (mNot (mCall R_lets (mCons (mVar 6) (mCons (mCall R_minus (mCons (mIx (mVar 2) (mVar 3)) (mCons (mIx (mVar 2) (mVar 5)) mNil))) mNil)))) (sRet (mC (.bl false))) sNx)
noncomputable def w_lies_in_2 : PSt → Option Out :=
  (sFor (iEnumT (mCons (mVar 4) mNil)) (bTup 2 (bCons (bNm 5) (bCons (bNm 6) bNil))) w_lies_in_3)
noncomputable def m_lies_in : PSt → Option Out :=
  (sSeq (sSet (mAp (g2 addT) (mCons (mLst (mConsO (mTup (mCons (mC (.int 0)) (mCons (mC (.int 1)) mNil))) mNil)) (mCons (mVar 1) mNil))) (bNm 2))
  (sSeq (sFor (iEnumT (mCons (mVar 0) mNil)) (bTup 2 (bCons (bNm 3) (bCons (bNm 4) bNil))) w_lies_in_2)
  (sRet (mC (.bl true)))))
noncomputable def R_lies_in : List T → Option Ru := runP 2 7 m_lies_in
noncomputable abbrev fn_lies_in : Fn := ⟨4, ["zone", "values"], R_lies_in⟩
noncomputable abbrev gm_lies_in : Gm := ⟨["zone", "values", "told", "i", "row", "j", "bound"], (defScope s_lies_in).names, [], 3, [("lets", fn_lets), ("minus", fn_minus)], ["enumerate"], [], [], ["_law_narrow", "_law_lies", "lies_in", "_law_is_zone"], false, [], [], []⟩
theorem ck_lies_in : dSs 200 gm_lies_in (defBody s_lies_in) = some m_lies_in := by kernel_rfl
theorem li_ok {m : Nat} (hm : m ≤ 1000) {f : Db.Z} {v : Nat → Int × Int} (hz : Szv (m + 1) (zero1 v) f) {D : Int} {X : Nat → Int} (hD : 0 < D) (hX : ∀ i, i < m + 1 → X i * (zero1 v i).2 = (zero1 v i).1 * D) :
    (Db.Lie (m + 1) D X f → R_lies_in [zT (m + 1) f, vT m v] = some (.ok (.bl true))) ∧ (¬ Db.Lie (m + 1) D X f → R_lies_in [zT (m + 1) f, vT m v] = some (.ok (.bl false))) := by
  generalize hp : zero1 v = p at *
  have hc : (fr 0 1) :: mT m (fun i => fr (v i).1 (v i).2) = mT (m + 1) fun i => fr (p i).1 (p i).2 := by rw [vT_cons, hp]
  have key : ∀ i j, i < m + 1 → j < m + 1 → ∃ t b, R_minus [fr (p i).1 (p i).2, fr (p j).1 (p j).2] = some (.ok (fr t b)) ∧ R_lets [bT (f i j), fr t b] = some (.ok (.bl (Db.satB b (f i j) t))) ∧ (Db.sat b (f i j) t ↔ Db.sat D (f i j) (X i - X j)) := by
    intro i j hi hj
    have bi := hz.pos i hi
    have bj := hz.pos j hj
    have q0 := Int.mul_pos bi bj
    refine ⟨_, _, minus_ok bi bj (hz.mul i j hi hj).1 (hz.mul j i hj hi).1 (hz.mul i j hi hj).2.1 (hz.mul i j hi hj).2.2, lets_ok fun x e => hz.num i j x hi hj e _ (Zm.lb_pos q0) (Zm.lb_le q0), ?_⟩
    refine Db.sat_scale (Zm.lb_pos q0) hD ?_ _
    have e1 := Zm.lt_mul (t := (p i).1 * (p j).2 - (p j).1 * (p i).2) (show (p i).2 * (p j).2 ≠ 0 by omega)
    have e2 := Zm.lb_mul (t := (p i).1 * (p j).2 - (p j).1 * (p i).2) (show (p i).2 * (p j).2 ≠ 0 by omega)
    have g0 := Zm.gd_pos (a := (p i).1 * (p j).2 - (p j).1 * (p i).2) (show (p i).2 * (p j).2 ≠ 0 by omega)
    have x1 := hX i hi
    have x2 := hX j hj
    generalize Zm.lt ((p i).1 * (p j).2 - (p j).1 * (p i).2) ((p i).2 * (p j).2) = T1 at *
    generalize Zm.lb ((p i).1 * (p j).2 - (p j).1 * (p i).2) ((p i).2 * (p j).2) = B1 at *
    generalize Zm.gd ((p i).1 * (p j).2 - (p j).1 * (p i).2) ((p i).2 * (p j).2) = G at *
    refine Int.eq_of_mul_eq_mul_right (show G ≠ 0 by omega) ?_
    rw [Int.mul_assoc (X i - X j), e2, Int.mul_assoc T1, Int.mul_comm D G, ← Int.mul_assoc T1, e1, Int.sub_mul, Int.sub_mul]
    have y1 : X i * ((p i).2 * (p j).2) = (p i).1 * (p j).2 * D := by rw [← Int.mul_assoc, x1, Int.mul_assoc, Int.mul_comm D, ← Int.mul_assoc]
    have y2 : X j * ((p i).2 * (p j).2) = (p j).1 * (p i).2 * D := by rw [Int.mul_comm (p i).2, ← Int.mul_assoc, x2, Int.mul_assoc, Int.mul_comm D, ← Int.mul_assoc]
    rw [y1, y2]
  have l1 : 1 + m ≤ 100000 := by omega
  have loop := for_chk (b := bTup 2 (bCons (bNm 3) (bCons (bNm 4) bNil))) (body := w_lies_in_2) (n := m + 1) (g := fun i => .tup [.int (i : Int), rT (m + 1) (f i)]) (τ := [some (zT (m + 1) f), some (vT m v), some (vT (m + 1) p), none, none, none, none]) (fun i => ∀ j, j < m + 1 → Db.sat D (f i j) (X i - X j)) (.bl false)
    (fun i τ => ∃ x y z w, τ = [some (zT (m + 1) f), some (vT m v), some (vT (m + 1) p), x, y, z, w]) ⟨none, none, none, none, rfl⟩ (by
      rintro i τ hi - ⟨x, y, z, w, rfl⟩
      refine ⟨_, by simp_arith []; rfl, ?_⟩
      have loop2 := for_chk (b := bTup 2 (bCons (bNm 5) (bCons (bNm 6) bNil))) (body := w_lies_in_3) (n := m + 1) (g := fun j => .tup [.int (j : Int), bT (f i j)]) (τ := [some (zT (m + 1) f), some (vT m v), some (vT (m + 1) p), some (.int (i : Int)), some (rT (m + 1) (f i)), z, w]) (fun j => Db.sat D (f i j) (X i - X j)) (.bl false)
        (fun j τ => ∃ z w, τ = [some (zT (m + 1) f), some (vT m v), some (vT (m + 1) p), some (.int (i : Int)), some (rT (m + 1) (f i)), z, w]) ⟨z, w, rfl⟩ (by
          rintro j τ hj - ⟨z, w, rfl⟩
          refine ⟨_, by simp_arith []; rfl, ?_⟩
          obtain ⟨t, b, k1, k2, k3⟩ := key i j hi hj
          unfold w_lies_in_3
          by_cases h : Db.sat D (f i j) (X i - X j)
          · left
            rw [Db.satB_iff.mpr (k3.mpr h)] at k2
            exact ⟨h, _, .inl (by simp_arith [mT_atN hi, mT_atN hj, k1, k2]; rfl), _, _, rfl⟩
          · right
            have k4 : Db.satB b (f i j) t = false := by
              cases q : Db.satB b (f i j) t with
              | false => rfl
              | true => exact absurd (k3.mp (Db.satB_iff.mp q)) h
            rw [k4] at k2
            exact ⟨h, by simp_arith [mT_atN hi, mT_atN hj, k1, k2]⟩)
      rcases loop2 with ⟨h, τ', e, z, w, rfl⟩ | ⟨⟨j, hj, h⟩, e⟩
      · left
        refine ⟨h, _, .inl ?_, some (.int (i : Int)), some (rT (m + 1) (f i)), z, w, rfl⟩
        unfold w_lies_in_2
        simp_arith [enum_mT, e]
      · right
        refine ⟨fun q => h (q j hj), ?_⟩
        unfold w_lies_in_2
        simp_arith [enum_mT, e])
  rcases loop with ⟨h, τ', e, x, y, z, w, rfl⟩ | ⟨⟨i, hi, h⟩, e⟩
  · refine ⟨fun _ => ?_, fun q => absurd (fun i j hi hj => h i hi j hj) q⟩
    unfold R_lies_in m_lies_in
    simp_arith [enum_mT, l1, hc, e]
  · refine ⟨fun q => absurd (fun j hj => q i j hi hj) h, fun _ => ?_⟩
    unfold R_lies_in m_lies_in
    simp_arith [enum_mT, l1, hc, e]
abbrev s_Lis_zone : Stmt := top 33
theorem sc_Lis_zone : FnScope ["_law_zone", "_law_many", "_law_row", "_law_bound_here"] ["_law_zone", "_law_many"] (defScope s_Lis_zone) := ⟨rfl, rfl, rfl, by decide +kernel, rfl, by decide +kernel, by decide +kernel⟩
noncomputable def w_Lis_zone_6 : PSt → Option Out :=
  (sIf (mAnd (mAp (g2 (isT2 true)) (mCons (mVar 3) (mCons (mC .non) mNil))) (mOr (mNot (mAp (g1 (isTyT "int")) (mCons (mVar 3) mNil))) (mAp (g1 (isTyT "bool")) (mCons (mVar 3) mNil)))) (sRet (mC (.bl false))) sNx)
noncomputable def w_Lis_zone_3 : PSt → Option Out :=
  (sSeq (sIf (mOr (mNot (mAp (g1 (isTyT "list")) (mCons (mVar 2) mNil))) (mAp (g2 neT) (mCons (mAp (g1 lenT) (mCons (mVar 2) mNil)) (mCons (mAp (g2 addT) (mCons (mVar 1) (mCons (mC (.int 1)) mNil))) mNil)))) (sRet (mC (.bl false))) sNx)
  (sFor (iVal (mVar 2)) (bNm 3) w_Lis_zone_6))
noncomputable def m_Lis_zone : PSt → Option Out :=
  (sSeq (sIf (mOr (mNot (mAp (g1 (isTyT "list")) (mCons (mVar 0) mNil))) (mAp (g2 neT) (mCons (mAp (g1 lenT) (mCons (mVar 0) mNil)) (mCons (mAp (g2 addT) (mCons (mVar 1) (mCons (mC (.int 1)) mNil))) mNil)))) (sRet (mC (.bl false))) sNx)
  (sSeq (sFor (iVal (mVar 0)) (bNm 2) w_Lis_zone_3)
  (sRet (mC (.bl true)))))
noncomputable def R_Lis_zone : List T → Option Ru := runP 2 4 m_Lis_zone
noncomputable abbrev fn_Lis_zone : Fn := ⟨1, ["_law_zone", "_law_many"], R_Lis_zone⟩
noncomputable abbrev gm_Lis_zone : Gm := ⟨["_law_zone", "_law_many", "_law_row", "_law_bound_here"], (defScope s_Lis_zone).names, [], 0, [], ["isinstance", "int", "bool", "list", "len"], [], [], ["_law_narrow", "_law_lies", "lies_in", "_law_is_zone"], false, [], [], []⟩
theorem ck_Lis_zone : dSs 200 gm_Lis_zone (defBody s_Lis_zone) = some m_Lis_zone := by kernel_rfl
theorem iz_ok {m : Nat} (g : Db.Z) : R_Lis_zone [zT (m + 1) g, .int (m : Int)] = some (.ok (.bl true)) := by
  have e0 : ((((m + 1 : Nat) : Int)) == ((m : Int) + 1)) = true := by simp
  have loop := for_mT (b := bNm 2) (body := w_Lis_zone_3) (n := m + 1) (g := fun i => rT (m + 1) (g i)) (τ := [some (zT (m + 1) g), some (.int (m : Int)), none, none])
    (fun i τ => ∃ x y, τ = [some (zT (m + 1) g), some (.int (m : Int)), x, y]) ⟨none, none, rfl⟩ (by
      rintro i τ hi ⟨x, y, rfl⟩
      refine ⟨_, by simp_arith []; rfl, ?_⟩
      have inner := for_mT (b := bNm 3) (body := w_Lis_zone_6) (n := m + 1) (g := fun j => bT (g i j)) (τ := [some (zT (m + 1) g), some (.int (m : Int)), some (rT (m + 1) (g i)), y])
        (fun j τ => ∃ y, τ = [some (zT (m + 1) g), some (.int (m : Int)), some (rT (m + 1) (g i)), y]) ⟨y, rfl⟩ (by
          rintro j τ hj ⟨y, rfl⟩
          refine ⟨_, by simp_arith []; rfl, ?_⟩
          refine ⟨[some (zT (m + 1) g), some (.int (m : Int)), some (rT (m + 1) (g i)), some (bT (g i j))], ?_, _, rfl⟩
          unfold w_Lis_zone_6
          cases g i j with
          | none => simp_arith []
          | some c => simp_arith [])
      obtain ⟨τ2, e2, y2, rfl⟩ := inner
      refine ⟨_, by unfold w_Lis_zone_3; simp_arith [ne_int, e0, e2]; rfl, _, _, rfl⟩)
  obtain ⟨τ', e1, x, y, rfl⟩ := loop
  unfold R_Lis_zone m_Lis_zone
  simp_arith [ne_int, e0, e1]
abbrev s_Lwider : Stmt := top 31
theorem sc_Lwider : FnScope ["_law_one", "_law_other"] ["_law_one", "_law_other"] (defScope s_Lwider) := ⟨rfl, rfl, rfl, by decide +kernel, rfl, by decide +kernel, by decide +kernel⟩
noncomputable def m_Lwider : PSt → Option Out :=
  (sRet (mAnd (mAp (g2 (isT2 true)) (mCons (mVar 1) (mCons (mC .non) mNil))) (mOr (mAp (g2 (isT2 false)) (mCons (mVar 0) (mCons (mC .non) mNil))) (mAp (g2 (cmpT fun i j => decide (j < i))) (mCons (mVar 0) (mCons (mVar 1) mNil))))))
noncomputable def R_Lwider : List T → Option Ru := runP 2 2 m_Lwider
noncomputable abbrev fn_Lwider : Fn := ⟨1, ["_law_one", "_law_other"], R_Lwider⟩
noncomputable abbrev gm_Lwider : Gm := ⟨["_law_one", "_law_other"], (defScope s_Lwider).names, [], 0, [], [], [], [], ["_law_narrow", "_law_lies", "lies_in", "_law_is_zone"], false, [], [], []⟩
theorem ck_Lwider : dSs 200 gm_Lwider (defBody s_Lwider) = some m_Lwider := by kernel_rfl
theorem wd_ok {a b : Db.B} (h : Db.le a b) : R_Lwider [bT a, bT b] = some (.ok (.bl false)) := by
  unfold R_Lwider m_Lwider
  cases b with
  | none => simp_arith []
  | some b =>
    cases a with
    | none => exact h.elim
    | some a =>
      have h' : decide (b < a) = false := decide_eq_false (by simp only [Db.le] at h; omega)
      simp_arith [h']
abbrev s_Lsum : Stmt := top 32
theorem sc_Lsum : FnScope ["_law_one", "_law_other"] ["_law_one", "_law_other"] (defScope s_Lsum) := ⟨rfl, rfl, rfl, by decide +kernel, rfl, by decide +kernel, by decide +kernel⟩
noncomputable def m_Lsum : PSt → Option Out :=
  (sSeq (sIf (mOr (mAp (g2 (isT2 false)) (mCons (mVar 0) (mCons (mC .non) mNil))) (mAp (g2 (isT2 false)) (mCons (mVar 1) (mCons (mC .non) mNil)))) (sRet (mC .non)) sNx)
  (sRet (mAp (g2 addT) (mCons (mAp (g2 mulT) (mCons (mC (.int 2)) (mCons (mAp (g2 addT) (mCons (mAp (g2 fdivT) (mCons (mVar 0) (mCons (mC (.int 2)) mNil))) (mCons (mAp (g2 fdivT) (mCons (mVar 1) (mCons (mC (.int 2)) mNil))) mNil))) mNil))) (mCons (mAp (g2 mulT) (mCons (mAp (g2 modT) (mCons (mVar 0) (mCons (mC (.int 2)) mNil))) (mCons (mAp (g2 modT) (mCons (mVar 1) (mCons (mC (.int 2)) mNil))) mNil))) mNil)))))
noncomputable def R_Lsum : List T → Option Ru := runP 2 2 m_Lsum
noncomputable abbrev fn_Lsum : Fn := ⟨1, ["_law_one", "_law_other"], R_Lsum⟩
noncomputable abbrev gm_Lsum : Gm := ⟨["_law_one", "_law_other"], (defScope s_Lsum).names, [], 0, [], [], [], [], ["_law_narrow", "_law_lies", "lies_in", "_law_is_zone"], false, [], [], []⟩
theorem ck_Lsum : dSs 200 gm_Lsum (defBody s_Lsum) = some m_Lsum := by kernel_rfl
theorem sm_ok (a b : Db.B) : R_Lsum [bT a, bT b] = some (.ok (bT (Db.add a b))) := by
  unfold R_Lsum m_Lsum
  cases a with
  | none => simp_arith [Db.add]
  | some a =>
    cases b with
    | none => simp_arith [Db.add]
    | some b =>
      have s2 : s70 2 = true := s70_of (by decide) (by decide)
      have f1 : a.fdiv 2 = a / 2 := fd (by decide)
      have f2 : b.fdiv 2 = b / 2 := fd (by decide)
      have f3 : a.fmod 2 = a % 2 := fm (by decide)
      have f4 : b.fmod 2 = b % 2 := fm (by decide)
      have m1 : mulOk 2 (a / 2 + b / 2) = true := mulOk_l (s64_of (by decide) (by decide))
      have m2 : mulOk (a % 2) (b % 2) = true := mulOk_l (s64_of (by omega) (by omega))
      have e : a % 2 * (b % 2) = min (a % 2) (b % 2) := by
        rcases Int.emod_two_eq a with e | e <;> rcases Int.emod_two_eq b with f | f <;> rw [e, f] <;> decide
      simp_arith [s2, f1, f2, f3, f4, m1, m2, e]
      rfl
abbrev s_Lnarrow : Stmt := top 34
theorem sc_Lnarrow : FnScope ["_law_found", "_law_zone", "_law_size", "_law_i", "_law_j", "_law_k"] ["_law_found", "_law_zone"] (defScope s_Lnarrow) := ⟨rfl, rfl, rfl, by decide +kernel, rfl, by decide +kernel, by decide +kernel⟩
noncomputable def w_Lnarrow_8 : PSt → Option Out :=
  (sIf (mCall R_Lwider (mCons (mIx (mIx (mVar 0) (mVar 3)) (mVar 4)) (mCons (mCall R_Lsum (mCons (mIx (mIx (mVar 0) (mVar 3)) (mVar 5)) (mCons (mIx (mIx (mVar 0) (mVar 5)) (mVar 4)) mNil))) mNil))) (sRet (mC (.bl false))) sNx)
noncomputable def w_Lnarrow_5 : PSt → Option Out :=
  (sSeq (sIf (mCall R_Lwider (mCons (mIx (mIx (mVar 0) (mVar 3)) (mVar 4)) (mCons (mIx (mIx (mVar 1) (mVar 3)) (mVar 4)) mNil))) (sRet (mC (.bl false))) sNx)
  (sFor (iRange1 (mCons (mVar 2) mNil)) (bNm 5) w_Lnarrow_8))
noncomputable def w_Lnarrow_2 : PSt → Option Out :=
  (sSeq (sIf (mOr (mAp (g2 neT) (mCons (mIx (mIx (mVar 0) (mVar 3)) (mVar 3)) (mCons (mC (.int 1)) mNil))) (mOr (mAp (g2 (isT2 false)) (mCons (mIx (mIx (mVar 0) (mC (.int 0))) (mVar 3)) (mCons (mC .non) mNil))) (mAp (g2 (cmpT fun i j => decide (j < i))) (mCons (mIx (mIx (mVar 0) (mC (.int 0))) (mVar 3)) (mCons (mC (.int 1)) mNil))))) (sRet (mC (.bl false))) sNx)
  (sFor (iRange1 (mCons (mVar 2) mNil)) (bNm 4) w_Lnarrow_5))
noncomputable def m_Lnarrow : PSt → Option Out :=
  (sSeq (sSet (mAp (g1 lenT) (mCons (mVar 1) mNil)) (bNm 2))
  (sSeq (sFor (iRange1 (mCons (mVar 2) mNil)) (bNm 3) w_Lnarrow_2)
  (sRet (mC (.bl true)))))
noncomputable def R_Lnarrow : List T → Option Ru := runP 2 6 m_Lnarrow
noncomputable abbrev fn_Lnarrow : Fn := ⟨2, ["_law_found", "_law_zone"], R_Lnarrow⟩
noncomputable abbrev gm_Lnarrow : Gm := ⟨["_law_found", "_law_zone", "_law_size", "_law_i", "_law_j", "_law_k"], (defScope s_Lnarrow).names, [], 1, [("_law_wider", fn_Lwider), ("_law_sum", fn_Lsum)], ["range", "len"], [], [], ["_law_narrow", "_law_lies", "lies_in", "_law_is_zone"], false, [], [], []⟩
theorem ck_Lnarrow : dSs 200 gm_Lnarrow (defBody s_Lnarrow) = some m_Lnarrow := by kernel_rfl
theorem nw_ok {n : Nat} (h0 : 0 < n) (hn : n ≤ 1000) {g f : Db.Z} (h : Db.Nar n g) (hl : ∀ i j, i < n → j < n → Db.le (g i j) (f i j)) : R_Lnarrow [zT n g, zT n f] = some (.ok (.bl true)) := by
  have o1 : ok62 (n : Int) = true := ok62_nat (by omega)
  have loop := for_mT (b := bNm 3) (body := w_Lnarrow_2) (n := n) (g := fun i => .int (i : Int)) (τ := [some (zT n g), some (zT n f), some (.int (n : Int)), none, none, none])
    (fun i τ => ∃ x y z, τ = [some (zT n g), some (zT n f), some (.int (n : Int)), x, y, z]) ⟨none, none, none, rfl⟩ (by
      rintro i τ hi ⟨x, y, z, rfl⟩
      refine ⟨_, by simp_arith []; rfl, ?_⟩
      have inner := for_mT (b := bNm 4) (body := w_Lnarrow_5) (n := n) (g := fun i => .int (i : Int)) (τ := [some (zT n g), some (zT n f), some (.int (n : Int)), some (.int (i : Int)), y, z])
        (fun j τ => ∃ y z, τ = [some (zT n g), some (zT n f), some (.int (n : Int)), some (.int (i : Int)), y, z]) ⟨y, z, rfl⟩ (by
          rintro j τ hj ⟨y, z, rfl⟩
          refine ⟨_, by simp_arith []; rfl, ?_⟩
          have in2 := for_mT (b := bNm 5) (body := w_Lnarrow_8) (n := n) (g := fun i => .int (i : Int)) (τ := [some (zT n g), some (zT n f), some (.int (n : Int)), some (.int (i : Int)), some (.int (j : Int)), z])
            (fun k τ => ∃ z, τ = [some (zT n g), some (zT n f), some (.int (n : Int)), some (.int (i : Int)), some (.int (j : Int)), z]) ⟨z, rfl⟩ (by
              rintro k τ hk ⟨z, rfl⟩
              refine ⟨_, by simp_arith []; rfl, ?_⟩
              refine ⟨[some (zT n g), some (zT n f), some (.int (n : Int)), some (.int (i : Int)), some (.int (j : Int)), some (.int (k : Int))], ?_, _, rfl⟩
              have w := wd_ok (h.tri i j k hi hj hk)
              unfold w_Lnarrow_8
              simp_arith [mT_atN hi, mT_atN hj, mT_atN hk, sm_ok, w])
          obtain ⟨τ3, e3, z3, rfl⟩ := in2
          refine ⟨[some (zT n g), some (zT n f), some (.int (n : Int)), some (.int (i : Int)), some (.int (j : Int)), z3], ?_, _, _, rfl⟩
          have w := wd_ok (hl i j hi hj)
          unfold w_Lnarrow_5
          simp_arith [mT_atN hi, mT_atN hj, w, o1, range0_mT, e3])
      obtain ⟨τ2, e2, y2, z2, rfl⟩ := inner
      refine ⟨[some (zT n g), some (zT n f), some (.int (n : Int)), some (.int (i : Int)), y2, z2], ?_, _, _, _, rfl⟩
      have d1 := h.diag i hi
      obtain ⟨c, ec, hc⟩ : ∃ c : Int, g 0 i = some c ∧ decide (1 < c) = false := by
        have := h.row i hi
        cases e : g 0 i with
        | none => rw [e] at this; exact this.elim
        | some c =>
          rw [e] at this
          exact ⟨c, rfl, decide_eq_false (by simp only [Db.le] at this; omega)⟩
      have a0 : atI (mT n fun i => rT n (g i)) 0 = some (rT n (g 0)) := mT_atN (k := 0) h0
      unfold w_Lnarrow_2
      simp_arith [mT_atN hi, a0, d1, ec, hc, ne_int, o1, range0_mT, e2])
  obtain ⟨τ', e1, x, y, z, rfl⟩ := loop
  unfold R_Lnarrow m_Lnarrow
  simp_arith [o1, range0_mT, e1]
abbrev s_law : Stmt := top 35
theorem sc_law : FnScope ["_law_script", "_law_first", "_law_many", "_law_unit", "_law_values_here", "_law_zone", "_law_handed", "_law_found", "_law_others", "_law_cell", "_law_other", "_law_kept", "_law_due", "_law_told", "_law_at"] ["_law_script"] (defScope s_law) := ⟨rfl, rfl, rfl, by decide +kernel, rfl, by decide +kernel, by decide +kernel⟩
noncomputable def c_law_23 : PSt → Option Rs :=
  (mAp (g1 listT) (mCons (mVar 0) mNil))
noncomputable def w_law_18 : PSt → Option Out :=
  (sSeq (sSet (mCall R_Llies (mCons (mVar 5) (mCons (mVar 10) mNil))) (bNm 12))
  (sSeq (sFrz 10) (sSeq (sSet (mCall R_lies_in (mCons (mVar 7) (mCons (mAp (g1 listT) (mCons (mVar 10) mNil)) mNil))) (bNm 13))
  (sSeq (sFrz 10) (sIf (mOr (mNot (mAp (g1 (isTyT "bool")) (mCons (mVar 13) mNil))) (mOr (mAp (g2 neT) (mCons (mVar 13) (mCons (mVar 12) mNil))) (mAp (g2 neT) (mCons (mCall R_lies_in (mCons (mVar 5) (mCons (mAp (g1 listT) (mCons (mVar 10) mNil)) mNil))) (mCons (mVar 12) mNil))))) (sRet (mC (.bl false))) sNx)))))
noncomputable def w_law_11 : PSt → Option Out :=
  (sSeq (sOwn 10 (mCall R_Lvalues (mCons (mCall R_Lstream (mCons (mAp (g2 fdivT) (mCons (mVar 9) (mCons (mC (.int 2)) mNil))) (mCons (mC (.int 8)) mNil))) (mCons (mVar 2) (mCons (mVar 3) mNil)))))
  (sSeq (sIf (mAnd (mAp (g2 eqT) (mCons (mAp (g2 modT) (mCons (mVar 9) (mCons (mC (.int 2)) mNil))) (mCons (mC (.int 1)) mNil))) (mAp (g2 (cmpT fun i j => decide (j < i))) (mCons (mVar 2) (mCons (mC (.int 0)) mNil)))) (sSeq (sOwn 10 (mAp (g1 listT) (mCons (mVar 4) mNil)))
  (sSeq (sSet (mAp (g2 modT) (mCons (mAp (g2 fdivT) (mCons (mVar 9) (mCons (mC (.int 2)) mNil))) (mCons (mVar 2) mNil))) (bNm 14))
  (sSto 10 (mVar 14) (mCall R_Llowest (mCons (mAp (g2 addT) (mCons (mIx (mIx (mVar 4) (mVar 14)) (mC (.int 0))) (mCons (mAp (g2 modT) (mCons (mAp (g2 fdivT) (mCons (mVar 9) (mCons (mC (.int 8)) mNil))) (mCons (mC (.int 3)) mNil))) mNil))) (mCons (mAp (g2 addT) (mCons (mC (.int 1)) (mCons (mAp (g2 modT) (mCons (mAp (g2 fdivT) (mCons (mVar 9) (mCons (mC (.int 24)) mNil))) (mCons (mC (.int 2)) mNil))) mNil))) mNil)))))) sNx)
  (sSeq (sFrz 10) (sApp 8 (mVar 10)))))
noncomputable def c_law_6 : PSt → Option Rs :=
  (mAp (g1 listT) (mCons (mVar 0) mNil))
noncomputable def m_law : PSt → Option Out :=
  (sSeq (sSet (mCall R_Lcell_at (mCons (mVar 0) (mCons (mC (.int 0)) mNil))) (bNm 1))
  (sSeq (sSet (mAp (g2 modT) (mCons (mVar 1) (mCons (mC (.int 5)) mNil))) (bNm 2))
  (sSeq (sSet (mIx (mLst (mConsO (mC (.int 3)) (mConsO (mAp (g2 powT) (mCons (mC (.int 10)) (mCons (mC (.int 12)) mNil))) mNil))) (mAp (g2 modT) (mCons (mAp (g2 fdivT) (mCons (mVar 1) (mCons (mC (.int 5)) mNil))) (mCons (mC (.int 2)) mNil)))) (bNm 3))
  (sSeq (sSet (mCall R_Lvalues (mCons (mCall R_Lstream (mCons (mCall R_Lcell_at (mCons (mVar 0) (mCons (mC (.int 1)) mNil))) (mCons (mC (.int 8)) mNil))) (mCons (mVar 2) (mCons (mVar 3) mNil)))) (bNm 4))
  (sSeq (sOwn 5 (mCall R_Laround (mCons (mVar 4) (mCons (mCall R_Lstream (mCons (mCall R_Lcell_at (mCons (mVar 0) (mCons (mC (.int 2)) mNil))) (mCons (mC (.int 25)) mNil))) mNil))))
  (sSeq (sSet (mBor 5 (mLC 1 [] (iVal (mVar 5)) (bNm 0) (mC (.bl true)) c_law_6)) (bNm 6))
  (sSeq (sSet (mCall R_narrowest (mCons (mVar 6) mNil)) (bNm 7))
  (sSeq (sIf (mOr (mAp (g2 neT) (mCons (mVar 6) (mCons (mVar 5) mNil))) (mOr (mNot (mCall R_Lis_zone (mCons (mVar 7) (mCons (mVar 2) mNil)))) (mNot (mCall R_Lnarrow (mCons (mVar 7) (mCons (mVar 5) mNil)))))) (sRet (mC (.bl false))) sNx)
  (sSeq (sOwn 8 (mLst (mConsO (mVar 4) mNil)))
  (sSeq (sFor (iVal (mSl (mVar 0) (some (mC (.int 3))) (some (mC (.int 13))))) (bNm 9) w_law_11)
  (sSeq (sFrz 8) (sSeq (sFor (iVal (mVar 8)) (bNm 10) w_law_18)
  (sSeq (sOwn 11 (mLC 1 [] (iVal (mVar 7)) (bNm 0) (mC (.bl true)) c_law_23))
  (sSeq (sIf (mBor 11 (mAp (g2 neT) (mCons (mCall R_narrowest (mCons (mVar 11) mNil)) (mCons (mVar 7) mNil)))) (sRet (mC (.bl false))) sNx)
  (sSeq (sPoke (mIx (mVar 7) (mC (.int 0))) (mC (.int 7)))
  (sSeq (sFrz 5) (sRet (mAp (g2 eqT) (mCons (mCall R_narrowest (mCons (mVar 5) mNil)) (mCons (mVar 11) mNil))))))))))))))))))))
noncomputable def R_law : List T → Option Ru := runP 1 15 m_law
noncomputable abbrev gm_law : Gm := ⟨["_law_script", "_law_first", "_law_many", "_law_unit", "_law_values_here", "_law_zone", "_law_handed", "_law_found", "_law_others", "_law_cell", "_law_other", "_law_kept", "_law_due", "_law_told", "_law_at"], (defScope s_law).names, [], 4, [("narrowest", fn_narrowest), ("lies_in", fn_lies_in), ("_law_lies", fn_Llies), ("_law_lowest", fn_Llowest), ("_law_values", fn_Lvalues), ("_law_stream", fn_Lstream), ("_law_is_zone", fn_Lis_zone), ("_law_narrow", fn_Lnarrow), ("_law_around", fn_Laround), ("_law_cell_at", fn_Lcell_at)], ["list", "isinstance", "bool"], [], ["_law_other", "_law_others", "_law_zone", "_law_kept"], ["_law_narrow", "_law_lies", "lies_in", "_law_is_zone"], false, [], ["_law_zone", "_law_kept"], []⟩
theorem ck_law : dL 200 gm_law (defBody s_law) = some m_law := by kernel_rfl
def Pv (m : Nat) (w : Nat → Int × Int) : Prop := ∀ k, k < m → 0 < (w k).2 ∧ (w k).2 ≤ 30 ∧ 0 ≤ (w k).1
theorem low_nonneg {t b : Int} (ht : 0 ≤ t) (hb : 0 < b) : 0 ≤ Zm.lt t b := by
  unfold Zm.lt
  exact Int.fdiv_nonneg ht (Int.le_of_lt (Zm.gd_pos (by omega)))
theorem Pv_vals {m : Nat} {xs : Nat → Int} {u : Int} (hu : 0 < u) : Pv m (vals xs u) := fun k _ => by
  have h := vals_ok (xs := xs) hu k
  exact ⟨h.1, by omega, h.2.2⟩
theorem Pv_z {m : Nat} {w : Nat → Int × Int} (h : Pv m w) : ∀ i, i < m + 1 → 0 < (zero1 w i).2 ∧ (zero1 w i).2 ≤ 30 ∧ 0 ≤ (zero1 w i).1 := fun i hi => by
  cases i with
  | zero => exact ⟨(by decide : (0 : Int) < 1), (by decide : (1 : Int) ≤ 30), Int.le_refl 0⟩
  | succ i => exact h i (by omega)
theorem Pv_sz {m : Nat} {w : Nat → Int × Int} (h : Pv m w) (f : Db.Z) : Szv (m + 1) (zero1 w) f := by
  have hp := Pv_z h
  refine ⟨fun i hi => (hp i hi).1, fun i j hi hj => ?_, fun i j c hi hj _ b b0 b1 => ?_⟩
  · have p1 := hp i hi
    have p2 := hp j hj
    have : (zero1 w i).2 * (zero1 w j).2 ≤ 30 * 30 := Int.mul_le_mul p1.2.1 p2.2.1 (by omega) (by decide)
    exact ⟨mulOk_r (s64_of (by omega) (by omega)), mulOk_r (s64_of (by omega) (by omega)), by omega⟩
  · have p1 := hp i hi
    have p2 := hp j hj
    have : (zero1 w i).2 * (zero1 w j).2 ≤ 30 * 30 := Int.mul_le_mul p1.2.1 p2.2.1 (by omega) (by decide)
    exact mulOk_r (s64_of (by omega) (by omega))
theorem Pv_pl {m : Nat} {w : Nat → Int × Int} (h : Pv m w) : ∃ (D : Int) (X : Nat → Int), 0 < D ∧ (∀ i, i < m + 1 → X i * (zero1 w i).2 = (zero1 w i).1 * D) ∧ X 0 = 0 ∧ ∀ i, i < m + 1 → 0 ≤ X i := by
  have hp := Pv_z h
  obtain ⟨D, X, hD, hX⟩ := Db.scale (zero1 w) (m + 1) fun i hi => (hp i hi).1
  refine ⟨D, X, hD, hX, ?_, fun i hi => ?_⟩
  · have := hX 0 (by omega)
    simpa [zero1] using this
  · have e := hX i hi
    have : 0 ≤ X i * (zero1 w i).2 := by
      rw [e]
      exact Int.mul_nonneg (hp i hi).2.2 (Int.le_of_lt hD)
    exact Int.nonneg_of_mul_nonneg_left this (hp i hi).1
theorem agree {m : Nat} (hm : m ≤ 1000) {w : Nat → Int × Int} (h : Pv m w) (f : Db.Z) : ∃ b, R_lies_in [zT (m + 1) (Db.fw f (m + 1)), vT m w] = some (.ok (.bl b)) ∧ R_lies_in [zT (m + 1) f, vT m w] = some (.ok (.bl b)) ∧ R_Llies [zT (m + 1) f, vT m w] = some (.ok (.bl b)) := by
  obtain ⟨D, X, hD, hX, X0, Xp⟩ := Pv_pl h
  have l1 := li_ok hm (Pv_sz h f) hD hX
  have l2 := lli_ok hm (Pv_sz h f) hD hX
  have l3 := li_ok hm (Pv_sz h (Db.fw f (m + 1))) hD hX
  have l4 := Db.lie_iff (f := f) hD X0 Xp
  by_cases q : Db.Lie (m + 1) D X f
  · exact ⟨true, l3.1 (l4.mpr q), l1.1 q, l2.1 q⟩
  · exact ⟨false, l3.2 fun z => q (l4.mp z), l1.2 q, l2.2 q⟩
theorem deepL_mT {n : Nat} {g : Nat → T} (h : ∀ i, i < n → (g i).deep = true) : deepL (mT n g) = true := by
  have : ∀ l : List T, (∀ t ∈ l, t.deep = true) → deepL l = true := fun l => by
    induction l with
    | nil => intro _; rfl
    | cons a r ih =>
      intro h
      rw [deepL, h a (List.mem_cons_self ..), ih fun t ht => h t (List.mem_cons_of_mem _ ht)]
      rfl
  refine this _ fun t ht => ?_
  obtain ⟨i, hi, rfl⟩ := mT_mem ht
  exact h i hi
theorem bT_deep (b : Db.B) : (bT b).deep = true := by cases b <;> rfl
theorem deep_z (n : Nat) (g : Db.Z) : deepL (mT n fun i => T.own (mT n fun j => bT (g i j))) = true := deepL_mT fun i _ => by
  show (true && deepL _) = true
  rw [deepL_mT fun j _ => bT_deep _]
  rfl
abbrev others (m : Nat) (ws : List (Nat → Int × Int)) : List T := ws.map fun w => vT m w
theorem others_share {m : Nat} (ws : List (Nat → Int × Int)) : shareL (others m ws) = others m ws := by
  rw [shareL_map]
  unfold others
  rw [List.map_map]
  refine List.map_congr_left fun w _ => ?_
  exact vT_share m w
theorem turn1 {ns : List Int} {C0 u : Int} {m : Nat} (hm : m ≤ 4) (hu : 0 < u) {v : Nat → Int × Int} (hP : Pv m v) {Z A B : T} (l : List T) (hl : l.length ≤ 1000) (c : Int) (x10 x14 : Option T) :
    ∃ w, Pv m w ∧ ∃ y14, w_law_11 [some (scriptT ns), some (.int C0), some (.int m), some (.int u), some (vT m v), some Z, some A, some B, some (.own l), some (.int c), x10, none, none, none, x14] = some (.nx [some (scriptT ns), some (.int C0), some (.int m), some (.int u), some (vT m v), some Z, some A, some B, some (.own (l ++ [vT m w])), some (.int c), some (vT m w), none, none, none, y14]) := by
  have ll : l.length < 100000 := by omega
  have s2 : s70 2 = true := s70_of (by decide) (by decide)
  have st : R_Lstream [.int (c.fdiv 2), .int 8] = some (.ok (.own (mT 8 fun i => .int (strm (c.fdiv 2) 8 i)))) := st_ok (c.fdiv 2) (m := 8) (by decide)
  have vr := vals_run (n := 8) (m := m) (xs := strm (c.fdiv 2) 8) hu (by omega) (by decide)
  by_cases h0 : c.fmod 2 = 1 ∧ 0 < m
  · have hpos : (0 : Int) < (m : Int) := by omega
    obtain ⟨k, ek, hk⟩ := modN h0.2 (c.fdiv 2)
    have hvk := hP k hk
    have s8 : s70 8 = true := s70_of (by decide) (by decide)
    have s24 : s70 24 = true := s70_of (by decide) (by decide)
    have zm : ((m : Int) ≠ 0) = True := eq_true (by omega)
    have e3 : (c.fdiv 8).fmod 3 = c.fdiv 8 % 3 := fm (by decide)
    have e24 : (c.fdiv 24).fmod 2 = c.fdiv 24 % 2 := fm (by decide)
    have b0 : 0 < 1 + c.fdiv 24 % 2 := by omega
    have b1 : 1 + c.fdiv 24 % 2 ≤ 2 := by omega
    have M0 : 0 ≤ (v k).1 + c.fdiv 8 % 3 := by omega
    generalize hpb : 1 + c.fdiv 24 % 2 = pb at *
    generalize hM : (v k).1 + c.fdiv 8 % 3 = M at *
    have lo := low_ok (t := M) b0 (by omega)
    have ix : ixN m (k : Int) = some k := by
      unfold ixN
      simp
      omega
    have av := mT_atN (n := m) (g := fun i => fr (v i).1 (v i).2) hk
    let w : Nat → Int × Int := fun j => if j = k then (Zm.lt M pb, Zm.lb M pb) else v j
    have ew : (mT m fun i => fr (v i).1 (v i).2).set k (fr (Zm.lt M pb) (Zm.lb M pb)) = mT m fun i => fr (w i).1 (w i).2 := by
      rw [mT_set]
      refine mT_congr fun j _ => ?_
      show _ = fr (if j = k then (Zm.lt M pb, Zm.lb M pb) else v j).1 (if j = k then (Zm.lt M pb, Zm.lb M pb) else v j).2
      split <;> rfl
    refine ⟨w, fun j hj => ?_, some (.int (k : Int)), ?_⟩
    · by_cases e : j = k
      · have ewj : w j = (Zm.lt M pb, Zm.lb M pb) := if_pos e
        rw [ewj]
        exact ⟨Zm.lb_pos b0, by have := Zm.lb_le (t := M) b0; omega, low_nonneg M0 b0⟩
      · have ewj : w j = v j := if_neg e
        rw [ewj]
        exact hP j hj
    · generalize w = w' at *
      have hp' : decide ((0 : Int) < (m : Int)) = true := decide_eq_true hpos
      unfold w_law_11
      simp_arith [st, vr, s2, h0.1, eq_int, hp', ek, zm, av, s8, s24, e3, e24, hpb, hM, lo, ix, ew, ll]
  · refine ⟨vals (strm (c.fdiv 2) 8) u, Pv_vals hu, x14, ?_⟩
    unfold w_law_11
    by_cases h1 : c.fmod 2 = 1
    · have hp' : decide ((0 : Int) < (m : Int)) = false := decide_eq_false fun q => h0 ⟨h1, by omega⟩
      simp_arith [st, vr, s2, h1, eq_int, hp', ll]
    · have h1' : (c.fmod 2 == 1) = false := by simp [h1]
      simp_arith [st, vr, s2, h1', eq_int, ll]
theorem turn2 {ns : List Int} {C0 u : Int} {m : Nat} (hm : m ≤ 1000) {v w : Nat → Int × Int} (hP : Pv m w) (f : Db.Z) (A L : T) (x9 x12 x13 x14 : Option T) :
    ∃ y12 y13, w_law_18 [some (scriptT ns), some (.int C0), some (.int m), some (.int u), some (vT m v), some (.own (mT (m + 1) fun i => .own (mT (m + 1) fun j => bT (f i j)))), some A, some (zT (m + 1) (Db.fw f (m + 1))), some L, x9, some (vT m w), none, x12, x13, x14]
      = some (.nx [some (scriptT ns), some (.int C0), some (.int m), some (.int u), some (vT m v), some (.own (mT (m + 1) fun i => .own (mT (m + 1) fun j => bT (f i j)))), some A, some (zT (m + 1) (Db.fw f (m + 1))), some L, x9, some (vT m w), none, y12, y13, x14]) := by
  obtain ⟨b, a1, a2, a3⟩ := agree hm hP f
  have bb : (b == b) = true := by cases b <;> rfl
  refine ⟨some (.bl b), some (.bl b), ?_⟩
  unfold w_law_18
  simp_arith [a1, a2, a3, ne_bl, bb]
theorem law_true (ns : List Int) (h : ns.length ≤ 63) : R_law [scriptT ns] = some (.ok (.bl true)) := by
  have c0 := cell_ok ns (k := 0) (by decide)
  have c1 := cell_ok ns (k := 1) (by decide)
  have c2 := cell_ok ns (k := 2) (by decide)
  generalize ns.getD (0 : Int).toNat 0 = C0 at c0
  generalize ns.getD (1 : Int).toNat 0 = C1 at c1
  generalize ns.getD (2 : Int).toNat 0 = C2 at c2
  obtain ⟨m, hm5, em⟩ : ∃ m : Nat, m ≤ 4 ∧ C0.fmod 5 = (m : Int) := ⟨(C0 % 5).toNat, by omega, by rw [fm (by decide)]; omega⟩
  obtain ⟨u, hu, eu⟩ : ∃ u : Int, 0 < u ∧ atI [T.int 3, T.int (10 ^ 12)] ((C0.fdiv 5).fmod 2) = some (.int u) := by
    have h2 : (C0.fdiv 5).fmod 2 = 0 ∨ (C0.fdiv 5).fmod 2 = 1 := by rw [fm (by decide)]; omega
    rcases h2 with e | e <;> rw [e]
    · exact ⟨3, by decide, at0⟩
    · exact ⟨10 ^ 12, by decide, at1⟩
  have st1 : R_Lstream [.int C1, .int 8] = some (.ok (.own (mT 8 fun i => .int (strm C1 8 i)))) := st_ok C1 (m := 8) (by decide)
  have st2 : R_Lstream [.int C2, .int 25] = some (.ok (.own (mT 25 fun i => .int (strm C2 25 i)))) := st_ok C2 (m := 25) (by decide)
  generalize strm C1 8 = xs at *
  generalize strm C2 25 = ys at *
  have hP := Pv_vals (m := m) (xs := xs) hu
  have vr := vals_run (n := 8) (m := m) (xs := xs) hu (by omega) (by decide)
  generalize vals xs u = v at *
  have hN : (m + 1) * (m + 1) ≤ 25 := by
    have : (m + 1) * (m + 1) ≤ 5 * 5 := Nat.mul_le_mul (by omega) (by omega)
    omega
  have er := ard_ok (m := m) (N := 25) (xs := ys) (by omega) hN (v := v) fun i hi => ⟨(hP i hi).1, by have := (hP i hi).2.1; omega⟩
  unfold oZ at er
  have hs : Db.Sound (m + 1) (ard (zero1 v) (m + 1) ys) := by
    obtain ⟨D, X, hD, hX, X0, Xp⟩ := Pv_pl hP
    exact Db.lie_sound hD X0 Xp (ard_lie (fun i hi => (hP i hi).1) hD hX)
  generalize ard (zero1 v) (m + 1) ys = f at *
  have nf := (nst_ok (n := m + 1) (by omega) f).1 hs
  have hn := Db.nar hs
  have nk : R_narrowest [zT (m + 1) (Db.fw f (m + 1))] = some (.ok (zT (m + 1) (Db.fw f (m + 1)))) := by
    rw [(nst_ok (n := m + 1) (by omega) (Db.fw f (m + 1))).1 (Db.nar_sound hn), zT_congr fun i j hi hj => Db.nar_fw hn (m + 1) (Nat.le_refl _) i j hi hj]
  have iz := iz_ok (m := m) (Db.fw f (m + 1))
  have nw := nw_ok (n := m + 1) (by omega) (by omega) hn fun i j _ _ => Db.fw_le f i j (m + 1)
  have lc6 := lc1 (n := m + 1) (me := c_law_6) (x := none) (cs := []) (g := fun i => rT (m + 1) (f i)) (f := fun i => .own (mT (m + 1) fun j => bT (f i j))) fun i hi => by
    unfold c_law_6
    simp_arith []
  have lc23 := lc1 (n := m + 1) (me := c_law_23) (x := none) (cs := []) (g := fun i => rT (m + 1) (Db.fw f (m + 1) i)) (f := fun i => .own (mT (m + 1) fun j => bT (Db.fw f (m + 1) i j))) fun i hi => by
    unfold c_law_23
    simp_arith []
  have cl := cut_len ns (some 3) (some 13)
  generalize hcs : cutL ns (some 3) (some 13) = cs at *
  have loop1 := forGo_inv (b := bNm 9) (body := w_law_11) (ts := cs.map T.int) (τ := [some (scriptT ns), some (.int C0), some (.int m), some (.int u), some (vT m v), some (.own (mT (m + 1) fun i => .own (mT (m + 1) fun j => bT (f i j)))), some (zT (m + 1) f), some (zT (m + 1) (Db.fw f (m + 1))), some (.own [vT m v]), none, none, none, none, none, none])
    (fun i τ => ∃ (ws : List (Nat → Int × Int)) (x9 x10 x14 : Option T), ws.length = i + 1 ∧ (∀ w ∈ ws, Pv m w) ∧ τ = [some (scriptT ns), some (.int C0), some (.int m), some (.int u), some (vT m v), some (.own (mT (m + 1) fun i => .own (mT (m + 1) fun j => bT (f i j)))), some (zT (m + 1) f), some (zT (m + 1) (Db.fw f (m + 1))), some (.own (others m ws)), x9, x10, none, none, none, x14])
    ⟨[v], none, none, none, rfl, fun w hw => by
      rw [List.mem_singleton.mp hw]
      exact hP, rfl⟩ (by
      rintro i t τ e ⟨ws, x9, x10, x14, hl, hw, rfl⟩
      have hi : i < cs.length := by
        rcases Nat.lt_or_ge i (cs.map T.int).length with q | q
        · simpa using q
        · rw [List.getElem?_eq_none q] at e
          cases e
      rw [List.getElem?_map] at e
      obtain ⟨c, -, rfl⟩ := Option.map_eq_some_iff.mp e
      obtain ⟨w, pw, y14, e2⟩ := turn1 (ns := ns) (C0 := C0) (u := u) (m := m) hm5 hu hP (Z := .own (mT (m + 1) fun i => .own (mT (m + 1) fun j => bT (f i j)))) (A := zT (m + 1) f) (B := zT (m + 1) (Db.fw f (m + 1))) (others m ws) (by rw [List.length_map]; omega) c x10 x14
      refine ⟨_, by simp_arith [], _, e2, ws ++ [w], some (.int c), some (vT m w), y14, by simp; omega, fun w' hw' => ?_, ?_⟩
      · rcases List.mem_append.mp hw' with q | q
        · exact hw w' q
        · rw [List.mem_singleton.mp q]
          exact pw
      · unfold others
        rw [List.map_append]
        rfl)
  obtain ⟨τ', e3, ws, x9, x10, x14, hl, hw, rfl⟩ := loop1
  have loop2 := forGo_inv (b := bNm 10) (body := w_law_18) (ts := others m ws) (τ := [some (scriptT ns), some (.int C0), some (.int m), some (.int u), some (vT m v), some (.own (mT (m + 1) fun i => .own (mT (m + 1) fun j => bT (f i j)))), some (zT (m + 1) f), some (zT (m + 1) (Db.fw f (m + 1))), some (.lst (others m ws)), x9, x10, none, none, none, x14])
    (fun i τ => ∃ (x10 x12 x13 : Option T), τ = [some (scriptT ns), some (.int C0), some (.int m), some (.int u), some (vT m v), some (.own (mT (m + 1) fun i => .own (mT (m + 1) fun j => bT (f i j)))), some (zT (m + 1) f), some (zT (m + 1) (Db.fw f (m + 1))), some (.lst (others m ws)), x9, x10, none, x12, x13, x14])
    ⟨x10, none, none, rfl⟩ (by
      rintro i t τ e ⟨x10, x12, x13, rfl⟩
      rw [List.getElem?_map] at e
      obtain ⟨w, e1, rfl⟩ := Option.map_eq_some_iff.mp e
      obtain ⟨y12, y13, e2⟩ := turn2 (ns := ns) (C0 := C0) (u := u) (m := m) (v := v) (by omega) (hw w (List.mem_of_getElem? e1)) f (zT (m + 1) f) (.lst (others m ws)) x9 x12 x13 x14
      exact ⟨_, by simp_arith [], _, e2, _, _, _, rfl⟩)
  obtain ⟨τ2, e4, y10, y12, y13, rfl⟩ := loop2
  have ll : (m + 1) ≤ 100000 := by omega
  have lt : (m + 1) < 100000 := by omega
  generalize Db.fw f (m + 1) = g at *
  have fz : ∀ (o : Bool) (g : Db.Z), Fit (.nd o .lst (mT (m + 1) fun i => .nd o .lst (mT (m + 1) fun j => bT (g i j)))) 2 := fun o g => mT_fit _ _ fun i _ => mT_fit _ _ fun j _ => bT_fit _
  have e5 := (eq_same (fz false f) (by decide) rfl (fz false f)).2
  have e6 := eq_same (fz false g) (by decide) rfl (fz false g)
  have a0 : atI (mT (m + 1) fun i => rT (m + 1) (g i)) 0 = some (rT (m + 1) (g 0)) := mT_atN (k := 0) (by omega)
  have s5 : s70 5 = true := s70_of (by decide) (by decide)
  have p12 : (0 : Int) ≤ 12 ∧ (12 : Int) ≤ 1000000 ∧ s64 10 = true := ⟨by decide, by decide, s64_of (by decide) (by decide)⟩
  have r12 : (12 : Int).toNat = 12 := rfl
  have os := others_share (m := m) ws
  have osh : shL (others m ws) = true := by rw [← os]; exact shL_shareL _
  have d1 := deep_z (m + 1) f
  have d2 := deep_z (m + 1) g
  unfold scriptT at *
  unfold R_law m_law
  simp_arith [share_ints, sh_ints, c0, c1, c2, em, s5, p12, r12, eu, st1, vr, st2, er, mBor, lc6, ll, d1, nf, e5, iz, nw, cut_map, hcs, e3, os, osh, e4, lc23, nk, e6.1, e6.2, sPoke, a0, lt, keepT, T.deep, d2]
  done
end Zl
namespace Zl
open PySem PySem.W L2 Zw Zx Pu Hd
abbrev pw : Program := PySem.Challenge.pw_zonewalk_k11_narrowest
abbrev rw_ : OpenLaw := PySem.Challenge.rw_zonewalk_k11_narrowest
noncomputable def o2 (P : Params) : Obj := ⟨.none, none, (.dict (Array.mk []) 0), Array.mk []⟩
noncomputable def o3 (P : Params) : Obj := ⟨(.type "dict"), none, (.dict (Array.mk [en P "__name__" 165 (.str (Str.ofString "law_zonewalk_k11_narrowest") 357), en P "__doc__" 166 .none, en P "__package__" 167 .none, en P "__loader__" 168 (.builtin "__main__.__loader__#opaque"), en P "__spec__" 169 .none, en P "__annotations__" 170 (.ref 6), en P "__builtins__" 171 (.ref 4), en P "__file__" 173 (.str (Str.ofString "/claim/cut.py") 172), en P "__cached__" 174 .none, en P "WalkError" 206 (.ref 24), en P "NoNumber" 222 (.ref 37), en P "is_whole" 231 (.ref 46), en P "greatest_divisor" 242 (.ref 53), en P "fraction" 252 (.ref 61), en P "minus" 260 (.ref 68), en P "under" 268 (.ref 75), en P "at_most" 277 (.ref 82), en P "number_of" 284 (.ref 89), en P "is_open" 291 (.ref 96), en P "narrower" 299 (.ref 103), en P "lets" 308 (.ref 110), en P "free_bound" 318 (.ref 117), en P "lies_in" 331 (.ref 124), en P "narrowest" 337 (.ref 129), en P "is_broken" 343 (.ref 134), en P "row_over" 356 (.ref 141), en P "_law_cell_at" 366 (.ref 148), en P "_law_stream" 378 (.ref 155), en P "_law_lowest" 388 (.ref 162), en P "_law_values" 400 (.ref 169), en P "_law_minus" 408 (.ref 176), en P "_law_bound" 420 (.ref 183), en P "_law_around" 433 (.ref 190), en P "_law_lets" 442 (.ref 197), en P "_law_lies" 453 (.ref 204), en P "_law_wider" 461 (.ref 211), en P "_law_sum" 469 (.ref 218), en P "_law_is_zone" 479 (.ref 225), en P "_law_narrow" 491 (.ref 232), en P "law" 497 (.ref 237)]) 40), Array.mk []⟩
noncomputable def o15 (P : Params) : Obj := ⟨(.type "tuple"), none, (.seq (Array.mk [(.type "ValueError")]) 0), Array.mk []⟩
noncomputable def o22 (P : Params) : Obj := ⟨(.type "tuple"), none, (.seq (Array.mk []) 0), Array.mk []⟩
noncomputable def o23 (P : Params) : Obj := ⟨(.type "dict"), none, (.dict (Array.mk [en P "__module__" 196 (.str (Str.ofString "zonewalk.errors") 187), en P "__firstlineno__" 200 (.int (2) 199), en P "__static_attributes__" 201 (.ref 22), en P "__weakref__" 203 (.ref 25), en P "__doc__" 204 .none]) 3), Array.mk []⟩
noncomputable def o24 (P : Params) : Obj := ⟨(.type "type"), none, (.cls ⟨(Str.ofString "WalkError"), [(.type "ValueError")], [(.ref 24), (.type "ValueError"), (.type "Exception"), (.type "BaseException"), (.type "object")], 23, (Str.ofString "WalkError"), true, [], [(.ref 37)], false, none, false⟩), Array.mk [(some (.ref 15)), none, (some (.str (Str.ofString "WalkError") 189)), (some (.str (Str.ofString "WalkError") 197)), (some (.builtin "ValueError.__new__")), (some (.bool true))]⟩
noncomputable def o25 (P : Params) : Obj := ⟨(.type "getset_descriptor"), none, (.fields (Array.mk [(.str (Str.ofString "__weakref__") 202), (.ref 24), (.builtin "ExceptionGroup.__weakref__"), .none])), Array.mk []⟩
noncomputable def o28 (P : Params) : Obj := ⟨(.type "tuple"), none, (.seq (Array.mk [(.ref 24)]) 0), Array.mk []⟩
noncomputable def o35 (P : Params) : Obj := ⟨(.type "tuple"), none, (.seq (Array.mk []) 0), Array.mk []⟩
noncomputable def o36 (P : Params) : Obj := ⟨(.type "dict"), none, (.dict (Array.mk [en P "__module__" 214 (.str (Str.ofString "zonewalk.errors") 187), en P "__firstlineno__" 218 (.int (4) 217), en P "__static_attributes__" 219 (.ref 35), en P "__doc__" 220 .none]) 2), Array.mk []⟩
noncomputable def o37 (P : Params) : Obj := ⟨(.type "type"), none, (.cls ⟨(Str.ofString "NoNumber"), [(.ref 24)], [(.ref 37), (.ref 24), (.type "ValueError"), (.type "Exception"), (.type "BaseException"), (.type "object")], 36, (Str.ofString "NoNumber"), true, [], [], false, none, false⟩), Array.mk [(some (.ref 28)), none, (some (.str (Str.ofString "NoNumber") 207)), (some (.str (Str.ofString "NoNumber") 215)), (some (.builtin "ValueError.__new__")), (some (.bool true))]⟩
noncomputable def o40 (P : Params) : Obj := ⟨(.type "tuple"), none, (.seq (Array.mk []) 0), Array.mk []⟩
noncomputable def o42 (P : Params) : Obj := ⟨(.type "tuple"), none, (.seq (Array.mk [(.str (Str.ofString "thing") 228)]) 0), Array.mk []⟩
noncomputable def o43 (P : Params) : Obj := ⟨(.type "tuple"), none, (.seq (Array.mk []) 0), Array.mk []⟩
noncomputable def o45 (P : Params) : Obj := ⟨(.type "code"), none, (.fields (Array.mk [(.str (Str.ofString "is_whole") 225), (.str (Str.ofString "is_whole") 226), (.str (Str.ofString "/claim/cut.py") 227), (.int (7) 0), (.int (1) 0), (.int (0) 0), (.int (0) 0), (.int (3) 0), (.ref 40), (.bool true), (.int (181) 0), (.ref 41), .none, (.ref 42), (.ref 43), (.ref 44), (.int (229) 0), (.int (7) 0), (.str (Str.ofString "/claim/cut.py") 230)])), Array.mk []⟩
noncomputable def o46 (P : Params) : Obj := ⟨(.type "function"), none, (.func (fnOf (Str.ofString "is_whole") (Str.ofString "is_whole") (defArgs (top 4)) (defBody (top 4)) (defScope (top 4)) .none .none .none (.str (Str.ofString "zonewalk.fractions") 223) none (.ref 45) .none)), Array.mk []⟩
noncomputable def o47 (P : Params) : Obj := ⟨(.type "tuple"), none, (.seq (Array.mk []) 0), Array.mk []⟩
noncomputable def o49 (P : Params) : Obj := ⟨(.type "tuple"), none, (.seq (Array.mk [(.str (Str.ofString "one") 235), (.str (Str.ofString "other") 236), (.str (Str.ofString "greater") 237), (.str (Str.ofString "lesser") 238), (.str (Str.ofString "rest") 239)]) 0), Array.mk []⟩
noncomputable def o50 (P : Params) : Obj := ⟨(.type "tuple"), none, (.seq (Array.mk []) 0), Array.mk []⟩
noncomputable def o52 (P : Params) : Obj := ⟨(.type "code"), none, (.fields (Array.mk [(.str (Str.ofString "greatest_divisor") 232), (.str (Str.ofString "greatest_divisor") 233), (.str (Str.ofString "/claim/cut.py") 234), (.int (9) 0), (.int (2) 0), (.int (0) 0), (.int (0) 0), (.int (3) 0), (.ref 47), (.bool true), (.int (181) 0), (.ref 48), .none, (.ref 49), (.ref 50), (.ref 51), (.int (240) 0), (.int (9) 0), (.str (Str.ofString "/claim/cut.py") 241)])), Array.mk []⟩
noncomputable def o53 (P : Params) : Obj := ⟨(.type "function"), none, (.func (fnOf (Str.ofString "greatest_divisor") (Str.ofString "greatest_divisor") (defArgs (top 5)) (defBody (top 5)) (defScope (top 5)) .none .none .none (.str (Str.ofString "zonewalk.fractions") 223) none (.ref 52) .none)), Array.mk []⟩
noncomputable def o54 (P : Params) : Obj := ⟨(.type "tuple"), none, (.seq (Array.mk [(.int (1) 243)]) 0), Array.mk []⟩
noncomputable def o55 (P : Params) : Obj := ⟨(.type "tuple"), none, (.seq (Array.mk []) 0), Array.mk []⟩
noncomputable def o57 (P : Params) : Obj := ⟨(.type "tuple"), none, (.seq (Array.mk [(.str (Str.ofString "top") 247), (.str (Str.ofString "bottom") 248), (.str (Str.ofString "divisor") 249)]) 0), Array.mk []⟩
noncomputable def o58 (P : Params) : Obj := ⟨(.type "tuple"), none, (.seq (Array.mk []) 0), Array.mk []⟩
noncomputable def o60 (P : Params) : Obj := ⟨(.type "code"), none, (.fields (Array.mk [(.str (Str.ofString "fraction") 244), (.str (Str.ofString "fraction") 245), (.str (Str.ofString "/claim/cut.py") 246), (.int (17) 0), (.int (2) 0), (.int (0) 0), (.int (0) 0), (.int (3) 0), (.ref 55), (.bool true), (.int (181) 0), (.ref 56), .none, (.ref 57), (.ref 58), (.ref 59), (.int (250) 0), (.int (17) 0), (.str (Str.ofString "/claim/cut.py") 251)])), Array.mk []⟩
noncomputable def o61 (P : Params) : Obj := ⟨(.type "function"), none, (.func (fnOf (Str.ofString "fraction") (Str.ofString "fraction") (defArgs (top 6)) (defBody (top 6)) (defScope (top 6)) (.ref 54) .none .none (.str (Str.ofString "zonewalk.fractions") 223) none (.ref 60) .none)), Array.mk []⟩
noncomputable def o62 (P : Params) : Obj := ⟨(.type "tuple"), none, (.seq (Array.mk []) 0), Array.mk []⟩
noncomputable def o64 (P : Params) : Obj := ⟨(.type "tuple"), none, (.seq (Array.mk [(.str (Str.ofString "one") 256), (.str (Str.ofString "other") 257)]) 0), Array.mk []⟩
noncomputable def o65 (P : Params) : Obj := ⟨(.type "tuple"), none, (.seq (Array.mk []) 0), Array.mk []⟩
noncomputable def o67 (P : Params) : Obj := ⟨(.type "code"), none, (.fields (Array.mk [(.str (Str.ofString "minus") 253), (.str (Str.ofString "minus") 254), (.str (Str.ofString "/claim/cut.py") 255), (.int (26) 0), (.int (2) 0), (.int (0) 0), (.int (0) 0), (.int (3) 0), (.ref 62), (.bool true), (.int (181) 0), (.ref 63), .none, (.ref 64), (.ref 65), (.ref 66), (.int (258) 0), (.int (26) 0), (.str (Str.ofString "/claim/cut.py") 259)])), Array.mk []⟩
noncomputable def o68 (P : Params) : Obj := ⟨(.type "function"), none, (.func (fnOf (Str.ofString "minus") (Str.ofString "minus") (defArgs (top 7)) (defBody (top 7)) (defScope (top 7)) .none .none .none (.str (Str.ofString "zonewalk.fractions") 223) none (.ref 67) .none)), Array.mk []⟩
noncomputable def o69 (P : Params) : Obj := ⟨(.type "tuple"), none, (.seq (Array.mk []) 0), Array.mk []⟩
noncomputable def o71 (P : Params) : Obj := ⟨(.type "tuple"), none, (.seq (Array.mk [(.str (Str.ofString "one") 264), (.str (Str.ofString "other") 265)]) 0), Array.mk []⟩
noncomputable def o72 (P : Params) : Obj := ⟨(.type "tuple"), none, (.seq (Array.mk []) 0), Array.mk []⟩
noncomputable def o74 (P : Params) : Obj := ⟨(.type "code"), none, (.fields (Array.mk [(.str (Str.ofString "under") 261), (.str (Str.ofString "under") 262), (.str (Str.ofString "/claim/cut.py") 263), (.int (28) 0), (.int (2) 0), (.int (0) 0), (.int (0) 0), (.int (3) 0), (.ref 69), (.bool true), (.int (181) 0), (.ref 70), .none, (.ref 71), (.ref 72), (.ref 73), (.int (266) 0), (.int (28) 0), (.str (Str.ofString "/claim/cut.py") 267)])), Array.mk []⟩
noncomputable def o75 (P : Params) : Obj := ⟨(.type "function"), none, (.func (fnOf (Str.ofString "under") (Str.ofString "under") (defArgs (top 8)) (defBody (top 8)) (defScope (top 8)) .none .none .none (.str (Str.ofString "zonewalk.fractions") 223) none (.ref 74) .none)), Array.mk []⟩
noncomputable def o76 (P : Params) : Obj := ⟨(.type "tuple"), none, (.seq (Array.mk []) 0), Array.mk []⟩
noncomputable def o78 (P : Params) : Obj := ⟨(.type "tuple"), none, (.seq (Array.mk [(.str (Str.ofString "number") 274)]) 0), Array.mk []⟩
noncomputable def o79 (P : Params) : Obj := ⟨(.type "tuple"), none, (.seq (Array.mk []) 0), Array.mk []⟩
noncomputable def o81 (P : Params) : Obj := ⟨(.type "code"), none, (.fields (Array.mk [(.str (Str.ofString "at_most") 271), (.str (Str.ofString "at_most") 272), (.str (Str.ofString "/claim/cut.py") 273), (.int (31) 0), (.int (1) 0), (.int (0) 0), (.int (0) 0), (.int (3) 0), (.ref 76), (.bool true), (.int (181) 0), (.ref 77), .none, (.ref 78), (.ref 79), (.ref 80), (.int (275) 0), (.int (31) 0), (.str (Str.ofString "/claim/cut.py") 276)])), Array.mk []⟩
noncomputable def o82 (P : Params) : Obj := ⟨(.type "function"), none, (.func (fnOf (Str.ofString "at_most") (Str.ofString "at_most") (defArgs (top 10)) (defBody (top 10)) (defScope (top 10)) .none .none .none (.str (Str.ofString "zonewalk.bounds") 269) none (.ref 81) .none)), Array.mk []⟩
noncomputable def o83 (P : Params) : Obj := ⟨(.type "tuple"), none, (.seq (Array.mk []) 0), Array.mk []⟩
noncomputable def o85 (P : Params) : Obj := ⟨(.type "tuple"), none, (.seq (Array.mk [(.str (Str.ofString "bound") 281)]) 0), Array.mk []⟩
noncomputable def o86 (P : Params) : Obj := ⟨(.type "tuple"), none, (.seq (Array.mk []) 0), Array.mk []⟩
noncomputable def o88 (P : Params) : Obj := ⟨(.type "code"), none, (.fields (Array.mk [(.str (Str.ofString "number_of") 278), (.str (Str.ofString "number_of") 279), (.str (Str.ofString "/claim/cut.py") 280), (.int (33) 0), (.int (1) 0), (.int (0) 0), (.int (0) 0), (.int (3) 0), (.ref 83), (.bool true), (.int (181) 0), (.ref 84), .none, (.ref 85), (.ref 86), (.ref 87), (.int (282) 0), (.int (33) 0), (.str (Str.ofString "/claim/cut.py") 283)])), Array.mk []⟩
noncomputable def o89 (P : Params) : Obj := ⟨(.type "function"), none, (.func (fnOf (Str.ofString "number_of") (Str.ofString "number_of") (defArgs (top 11)) (defBody (top 11)) (defScope (top 11)) .none .none .none (.str (Str.ofString "zonewalk.bounds") 269) none (.ref 88) .none)), Array.mk []⟩
noncomputable def o90 (P : Params) : Obj := ⟨(.type "tuple"), none, (.seq (Array.mk []) 0), Array.mk []⟩
noncomputable def o92 (P : Params) : Obj := ⟨(.type "tuple"), none, (.seq (Array.mk [(.str (Str.ofString "bound") 288)]) 0), Array.mk []⟩
noncomputable def o93 (P : Params) : Obj := ⟨(.type "tuple"), none, (.seq (Array.mk []) 0), Array.mk []⟩
noncomputable def o95 (P : Params) : Obj := ⟨(.type "code"), none, (.fields (Array.mk [(.str (Str.ofString "is_open") 285), (.str (Str.ofString "is_open") 286), (.str (Str.ofString "/claim/cut.py") 287), (.int (35) 0), (.int (1) 0), (.int (0) 0), (.int (0) 0), (.int (3) 0), (.ref 90), (.bool true), (.int (181) 0), (.ref 91), .none, (.ref 92), (.ref 93), (.ref 94), (.int (289) 0), (.int (35) 0), (.str (Str.ofString "/claim/cut.py") 290)])), Array.mk []⟩
noncomputable def o96 (P : Params) : Obj := ⟨(.type "function"), none, (.func (fnOf (Str.ofString "is_open") (Str.ofString "is_open") (defArgs (top 12)) (defBody (top 12)) (defScope (top 12)) .none .none .none (.str (Str.ofString "zonewalk.bounds") 269) none (.ref 95) .none)), Array.mk []⟩
noncomputable def o97 (P : Params) : Obj := ⟨(.type "tuple"), none, (.seq (Array.mk []) 0), Array.mk []⟩
noncomputable def o99 (P : Params) : Obj := ⟨(.type "tuple"), none, (.seq (Array.mk [(.str (Str.ofString "one") 295), (.str (Str.ofString "other") 296)]) 0), Array.mk []⟩
noncomputable def o100 (P : Params) : Obj := ⟨(.type "tuple"), none, (.seq (Array.mk []) 0), Array.mk []⟩
noncomputable def o102 (P : Params) : Obj := ⟨(.type "code"), none, (.fields (Array.mk [(.str (Str.ofString "narrower") 292), (.str (Str.ofString "narrower") 293), (.str (Str.ofString "/claim/cut.py") 294), (.int (37) 0), (.int (2) 0), (.int (0) 0), (.int (0) 0), (.int (3) 0), (.ref 97), (.bool true), (.int (181) 0), (.ref 98), .none, (.ref 99), (.ref 100), (.ref 101), (.int (297) 0), (.int (37) 0), (.str (Str.ofString "/claim/cut.py") 298)])), Array.mk []⟩
noncomputable def o103 (P : Params) : Obj := ⟨(.type "function"), none, (.func (fnOf (Str.ofString "narrower") (Str.ofString "narrower") (defArgs (top 13)) (defBody (top 13)) (defScope (top 13)) .none .none .none (.str (Str.ofString "zonewalk.bounds") 269) none (.ref 102) .none)), Array.mk []⟩
noncomputable def o104 (P : Params) : Obj := ⟨(.type "tuple"), none, (.seq (Array.mk []) 0), Array.mk []⟩
noncomputable def o106 (P : Params) : Obj := ⟨(.type "tuple"), none, (.seq (Array.mk [(.str (Str.ofString "bound") 303), (.str (Str.ofString "value") 304), (.str (Str.ofString "edge") 305)]) 0), Array.mk []⟩
noncomputable def o107 (P : Params) : Obj := ⟨(.type "tuple"), none, (.seq (Array.mk []) 0), Array.mk []⟩
noncomputable def o109 (P : Params) : Obj := ⟨(.type "code"), none, (.fields (Array.mk [(.str (Str.ofString "lets") 300), (.str (Str.ofString "lets") 301), (.str (Str.ofString "/claim/cut.py") 302), (.int (43) 0), (.int (2) 0), (.int (0) 0), (.int (0) 0), (.int (3) 0), (.ref 104), (.bool true), (.int (181) 0), (.ref 105), .none, (.ref 106), (.ref 107), (.ref 108), (.int (306) 0), (.int (43) 0), (.str (Str.ofString "/claim/cut.py") 307)])), Array.mk []⟩
noncomputable def o110 (P : Params) : Obj := ⟨(.type "function"), none, (.func (fnOf (Str.ofString "lets") (Str.ofString "lets") (defArgs (top 14)) (defBody (top 14)) (defScope (top 14)) .none .none .none (.str (Str.ofString "zonewalk.bounds") 269) none (.ref 109) .none)), Array.mk []⟩
noncomputable def o111 (P : Params) : Obj := ⟨(.type "tuple"), none, (.seq (Array.mk []) 0), Array.mk []⟩
noncomputable def o113 (P : Params) : Obj := ⟨(.type "tuple"), none, (.seq (Array.mk [(.str (Str.ofString "i") 314), (.str (Str.ofString "j") 315)]) 0), Array.mk []⟩
noncomputable def o114 (P : Params) : Obj := ⟨(.type "tuple"), none, (.seq (Array.mk []) 0), Array.mk []⟩
noncomputable def o116 (P : Params) : Obj := ⟨(.type "code"), none, (.fields (Array.mk [(.str (Str.ofString "free_bound") 311), (.str (Str.ofString "free_bound") 312), (.str (Str.ofString "/claim/cut.py") 313), (.int (51) 0), (.int (2) 0), (.int (0) 0), (.int (0) 0), (.int (3) 0), (.ref 111), (.bool true), (.int (181) 0), (.ref 112), .none, (.ref 113), (.ref 114), (.ref 115), (.int (316) 0), (.int (51) 0), (.str (Str.ofString "/claim/cut.py") 317)])), Array.mk []⟩
noncomputable def o117 (P : Params) : Obj := ⟨(.type "function"), none, (.func (fnOf (Str.ofString "free_bound") (Str.ofString "free_bound") (defArgs (top 16)) (defBody (top 16)) (defScope (top 16)) .none .none .none (.str (Str.ofString "zonewalk.zones") 309) none (.ref 116) .none)), Array.mk []⟩
noncomputable def o118 (P : Params) : Obj := ⟨(.type "tuple"), none, (.seq (Array.mk []) 0), Array.mk []⟩
noncomputable def o120 (P : Params) : Obj := ⟨(.type "tuple"), none, (.seq (Array.mk [(.str (Str.ofString "zone") 322), (.str (Str.ofString "values") 323), (.str (Str.ofString "told") 324), (.str (Str.ofString "i") 325), (.str (Str.ofString "row") 326), (.str (Str.ofString "j") 327), (.str (Str.ofString "bound") 328)]) 0), Array.mk []⟩
noncomputable def o121 (P : Params) : Obj := ⟨(.type "tuple"), none, (.seq (Array.mk []) 0), Array.mk []⟩
noncomputable def o123 (P : Params) : Obj := ⟨(.type "code"), none, (.fields (Array.mk [(.str (Str.ofString "lies_in") 319), (.str (Str.ofString "lies_in") 320), (.str (Str.ofString "/claim/cut.py") 321), (.int (55) 0), (.int (2) 0), (.int (0) 0), (.int (0) 0), (.int (3) 0), (.ref 118), (.bool true), (.int (181) 0), (.ref 119), .none, (.ref 120), (.ref 121), (.ref 122), (.int (329) 0), (.int (55) 0), (.str (Str.ofString "/claim/cut.py") 330)])), Array.mk []⟩
noncomputable def o124 (P : Params) : Obj := ⟨(.type "function"), none, (.func (fnOf (Str.ofString "lies_in") (Str.ofString "lies_in") (defArgs (top 17)) (defBody (top 17)) (defScope (top 17)) .none .none .none (.str (Str.ofString "zonewalk.zones") 309) none (.ref 123) .none)), Array.mk []⟩
noncomputable def o125 (P : Params) : Obj := ⟨(.type "tuple"), none, (.seq (Array.mk []) 0), Array.mk []⟩
noncomputable def o128 (P : Params) : Obj := ⟨(.type "code"), none, (.fields (Array.mk [(.str (Str.ofString "narrowest") 332), (.str (Str.ofString "narrowest") 333), (.str (Str.ofString "/claim/cut.py") 334), (.int (62) 0), (.int (1) 0), (.int (0) 0), (.int (0) 0), (.int (3) 0), (.ref 125), (.bool true), (.int (181) 0), (.ref 126), .none, .none, .none, (.ref 127), (.int (335) 0), (.int (62) 0), (.str (Str.ofString "/claim/cut.py") 336)])), Array.mk []⟩
noncomputable def o129 (P : Params) : Obj := ⟨(.type "function"), none, (.func (fnOf (Str.ofString "narrowest") (Str.ofString "narrowest") (defArgs (top 18)) (defBody (top 18)) (defScope (top 18)) .none .none .none (.str (Str.ofString "zonewalk.zones") 309) none (.ref 128) .none)), Array.mk []⟩
noncomputable def o130 (P : Params) : Obj := ⟨(.type "tuple"), none, (.seq (Array.mk []) 0), Array.mk []⟩
noncomputable def o133 (P : Params) : Obj := ⟨(.type "code"), none, (.fields (Array.mk [(.str (Str.ofString "is_broken") 338), (.str (Str.ofString "is_broken") 339), (.str (Str.ofString "/claim/cut.py") 340), (.int (70) 0), (.int (1) 0), (.int (0) 0), (.int (0) 0), (.int (3) 0), (.ref 130), (.bool true), (.int (181) 0), (.ref 131), .none, .none, .none, (.ref 132), (.int (341) 0), (.int (70) 0), (.str (Str.ofString "/claim/cut.py") 342)])), Array.mk []⟩
noncomputable def o134 (P : Params) : Obj := ⟨(.type "function"), none, (.func (fnOf (Str.ofString "is_broken") (Str.ofString "is_broken") (defArgs (top 19)) (defBody (top 19)) (defScope (top 19)) .none .none .none (.str (Str.ofString "zonewalk.zones") 309) none (.ref 133) .none)), Array.mk []⟩
noncomputable def o135 (P : Params) : Obj := ⟨(.type "tuple"), none, (.seq (Array.mk []) 0), Array.mk []⟩
noncomputable def o137 (P : Params) : Obj := ⟨(.type "tuple"), none, (.seq (Array.mk [(.str (Str.ofString "row") 347), (.str (Str.ofString "first") 348), (.str (Str.ofString "rest") 349), (.str (Str.ofString "told") 350), (.str (Str.ofString "old") 351), (.str (Str.ofString "more") 352), (.str (Str.ofString "bound") 353)]) 0), Array.mk []⟩
noncomputable def o138 (P : Params) : Obj := ⟨(.type "tuple"), none, (.seq (Array.mk []) 0), Array.mk []⟩
noncomputable def o140 (P : Params) : Obj := ⟨(.type "code"), none, (.fields (Array.mk [(.str (Str.ofString "row_over") 344), (.str (Str.ofString "row_over") 345), (.str (Str.ofString "/claim/cut.py") 346), (.int (72) 0), (.int (3) 0), (.int (0) 0), (.int (0) 0), (.int (3) 0), (.ref 135), (.bool true), (.int (181) 0), (.ref 136), .none, (.ref 137), (.ref 138), (.ref 139), (.int (354) 0), (.int (72) 0), (.str (Str.ofString "/claim/cut.py") 355)])), Array.mk []⟩
noncomputable def o141 (P : Params) : Obj := ⟨(.type "function"), none, (.func (fnOf (Str.ofString "row_over") (Str.ofString "row_over") (defArgs (top 20)) (defBody (top 20)) (defScope (top 20)) .none .none .none (.str (Str.ofString "zonewalk.zones") 309) none (.ref 140) .none)), Array.mk []⟩
noncomputable def o142 (P : Params) : Obj := ⟨(.type "tuple"), none, (.seq (Array.mk []) 0), Array.mk []⟩
noncomputable def o144 (P : Params) : Obj := ⟨(.type "tuple"), none, (.seq (Array.mk [(.str (Str.ofString "_law_script") 362), (.str (Str.ofString "_law_k") 363)]) 0), Array.mk []⟩
noncomputable def o145 (P : Params) : Obj := ⟨(.type "tuple"), none, (.seq (Array.mk []) 0), Array.mk []⟩
noncomputable def o147 (P : Params) : Obj := ⟨(.type "code"), none, (.fields (Array.mk [(.str (Str.ofString "_law_cell_at") 359), (.str (Str.ofString "_law_cell_at") 360), (.str (Str.ofString "/claim/cut.py") 361), (.int (82) 0), (.int (2) 0), (.int (0) 0), (.int (0) 0), (.int (3) 0), (.ref 142), (.bool true), (.int (181) 0), (.ref 143), .none, (.ref 144), (.ref 145), (.ref 146), (.int (364) 0), (.int (82) 0), (.str (Str.ofString "/claim/cut.py") 365)])), Array.mk []⟩
noncomputable def o148 (P : Params) : Obj := ⟨(.type "function"), none, (.func (fnOf (Str.ofString "_law_cell_at") (Str.ofString "_law_cell_at") (defArgs (top 22)) (defBody (top 22)) (defScope (top 22)) .none .none .none (.str (Str.ofString "law_zonewalk_k11_narrowest") 357) none (.ref 147) .none)), Array.mk []⟩
noncomputable def o149 (P : Params) : Obj := ⟨(.type "tuple"), none, (.seq (Array.mk []) 0), Array.mk []⟩
noncomputable def o151 (P : Params) : Obj := ⟨(.type "tuple"), none, (.seq (Array.mk [(.str (Str.ofString "_law_cell") 370), (.str (Str.ofString "_law_many") 371), (.str (Str.ofString "_law_found") 372), (.str (Str.ofString "_law_rest") 373), (.str (Str.ofString "_law_k") 374), (.str (Str.ofString "_law_number") 375)]) 0), Array.mk []⟩
noncomputable def o152 (P : Params) : Obj := ⟨(.type "tuple"), none, (.seq (Array.mk []) 0), Array.mk []⟩
noncomputable def o154 (P : Params) : Obj := ⟨(.type "code"), none, (.fields (Array.mk [(.str (Str.ofString "_law_stream") 367), (.str (Str.ofString "_law_stream") 368), (.str (Str.ofString "/claim/cut.py") 369), (.int (86) 0), (.int (2) 0), (.int (0) 0), (.int (0) 0), (.int (3) 0), (.ref 149), (.bool true), (.int (181) 0), (.ref 150), .none, (.ref 151), (.ref 152), (.ref 153), (.int (376) 0), (.int (86) 0), (.str (Str.ofString "/claim/cut.py") 377)])), Array.mk []⟩
noncomputable def o155 (P : Params) : Obj := ⟨(.type "function"), none, (.func (fnOf (Str.ofString "_law_stream") (Str.ofString "_law_stream") (defArgs (top 23)) (defBody (top 23)) (defScope (top 23)) .none .none .none (.str (Str.ofString "law_zonewalk_k11_narrowest") 357) none (.ref 154) .none)), Array.mk []⟩
noncomputable def o156 (P : Params) : Obj := ⟨(.type "tuple"), none, (.seq (Array.mk []) 0), Array.mk []⟩
noncomputable def o158 (P : Params) : Obj := ⟨(.type "tuple"), none, (.seq (Array.mk [(.str (Str.ofString "_law_top") 382), (.str (Str.ofString "_law_bottom") 383), (.str (Str.ofString "_law_one") 384), (.str (Str.ofString "_law_other") 385)]) 0), Array.mk []⟩
noncomputable def o159 (P : Params) : Obj := ⟨(.type "tuple"), none, (.seq (Array.mk []) 0), Array.mk []⟩
noncomputable def o161 (P : Params) : Obj := ⟨(.type "code"), none, (.fields (Array.mk [(.str (Str.ofString "_law_lowest") 379), (.str (Str.ofString "_law_lowest") 380), (.str (Str.ofString "/claim/cut.py") 381), (.int (99) 0), (.int (2) 0), (.int (0) 0), (.int (0) 0), (.int (3) 0), (.ref 156), (.bool true), (.int (181) 0), (.ref 157), .none, (.ref 158), (.ref 159), (.ref 160), (.int (386) 0), (.int (99) 0), (.str (Str.ofString "/claim/cut.py") 387)])), Array.mk []⟩
noncomputable def o162 (P : Params) : Obj := ⟨(.type "function"), none, (.func (fnOf (Str.ofString "_law_lowest") (Str.ofString "_law_lowest") (defArgs (top 24)) (defBody (top 24)) (defScope (top 24)) .none .none .none (.str (Str.ofString "law_zonewalk_k11_narrowest") 357) none (.ref 161) .none)), Array.mk []⟩
noncomputable def o163 (P : Params) : Obj := ⟨(.type "tuple"), none, (.seq (Array.mk []) 0), Array.mk []⟩
noncomputable def o165 (P : Params) : Obj := ⟨(.type "tuple"), none, (.seq (Array.mk [(.str (Str.ofString "_law_xs") 392), (.str (Str.ofString "_law_many") 393), (.str (Str.ofString "_law_unit") 394), (.str (Str.ofString "_law_found") 395), (.str (Str.ofString "_law_k") 396), (.str (Str.ofString "_law_bottom") 397)]) 0), Array.mk []⟩
noncomputable def o166 (P : Params) : Obj := ⟨(.type "tuple"), none, (.seq (Array.mk []) 0), Array.mk []⟩
noncomputable def o168 (P : Params) : Obj := ⟨(.type "code"), none, (.fields (Array.mk [(.str (Str.ofString "_law_values") 389), (.str (Str.ofString "_law_values") 390), (.str (Str.ofString "/claim/cut.py") 391), (.int (105) 0), (.int (3) 0), (.int (0) 0), (.int (0) 0), (.int (3) 0), (.ref 163), (.bool true), (.int (181) 0), (.ref 164), .none, (.ref 165), (.ref 166), (.ref 167), (.int (398) 0), (.int (105) 0), (.str (Str.ofString "/claim/cut.py") 399)])), Array.mk []⟩
noncomputable def o169 (P : Params) : Obj := ⟨(.type "function"), none, (.func (fnOf (Str.ofString "_law_values") (Str.ofString "_law_values") (defArgs (top 25)) (defBody (top 25)) (defScope (top 25)) .none .none .none (.str (Str.ofString "law_zonewalk_k11_narrowest") 357) none (.ref 168) .none)), Array.mk []⟩
noncomputable def o170 (P : Params) : Obj := ⟨(.type "tuple"), none, (.seq (Array.mk []) 0), Array.mk []⟩
noncomputable def o172 (P : Params) : Obj := ⟨(.type "tuple"), none, (.seq (Array.mk [(.str (Str.ofString "_law_one") 404), (.str (Str.ofString "_law_other") 405)]) 0), Array.mk []⟩
noncomputable def o173 (P : Params) : Obj := ⟨(.type "tuple"), none, (.seq (Array.mk []) 0), Array.mk []⟩
noncomputable def o175 (P : Params) : Obj := ⟨(.type "code"), none, (.fields (Array.mk [(.str (Str.ofString "_law_minus") 401), (.str (Str.ofString "_law_minus") 402), (.str (Str.ofString "/claim/cut.py") 403), (.int (111) 0), (.int (2) 0), (.int (0) 0), (.int (0) 0), (.int (3) 0), (.ref 170), (.bool true), (.int (181) 0), (.ref 171), .none, (.ref 172), (.ref 173), (.ref 174), (.int (406) 0), (.int (111) 0), (.str (Str.ofString "/claim/cut.py") 407)])), Array.mk []⟩
noncomputable def o176 (P : Params) : Obj := ⟨(.type "function"), none, (.func (fnOf (Str.ofString "_law_minus") (Str.ofString "_law_minus") (defArgs (top 26)) (defBody (top 26)) (defScope (top 26)) .none .none .none (.str (Str.ofString "law_zonewalk_k11_narrowest") 357) none (.ref 175) .none)), Array.mk []⟩
noncomputable def o177 (P : Params) : Obj := ⟨(.type "tuple"), none, (.seq (Array.mk []) 0), Array.mk []⟩
noncomputable def o179 (P : Params) : Obj := ⟨(.type "tuple"), none, (.seq (Array.mk [(.str (Str.ofString "_law_value") 412), (.str (Str.ofString "_law_x") 413), (.str (Str.ofString "_law_top") 414), (.str (Str.ofString "_law_bottom") 415), (.str (Str.ofString "_law_way") 416), (.str (Str.ofString "_law_more") 417)]) 0), Array.mk []⟩
noncomputable def o180 (P : Params) : Obj := ⟨(.type "tuple"), none, (.seq (Array.mk []) 0), Array.mk []⟩
noncomputable def o182 (P : Params) : Obj := ⟨(.type "code"), none, (.fields (Array.mk [(.str (Str.ofString "_law_bound") 409), (.str (Str.ofString "_law_bound") 410), (.str (Str.ofString "/claim/cut.py") 411), (.int (113) 0), (.int (2) 0), (.int (0) 0), (.int (0) 0), (.int (3) 0), (.ref 177), (.bool true), (.int (181) 0), (.ref 178), .none, (.ref 179), (.ref 180), (.ref 181), (.int (418) 0), (.int (113) 0), (.str (Str.ofString "/claim/cut.py") 419)])), Array.mk []⟩
noncomputable def o183 (P : Params) : Obj := ⟨(.type "function"), none, (.func (fnOf (Str.ofString "_law_bound") (Str.ofString "_law_bound") (defArgs (top 27)) (defBody (top 27)) (defScope (top 27)) .none .none .none (.str (Str.ofString "law_zonewalk_k11_narrowest") 357) none (.ref 182) .none)), Array.mk []⟩
noncomputable def o184 (P : Params) : Obj := ⟨(.type "tuple"), none, (.seq (Array.mk []) 0), Array.mk []⟩
noncomputable def o186 (P : Params) : Obj := ⟨(.type "tuple"), none, (.seq (Array.mk [(.str (Str.ofString "_law_values_here") 424), (.str (Str.ofString "_law_xs") 425), (.str (Str.ofString "_law_places") 426), (.str (Str.ofString "_law_rows") 427), (.str (Str.ofString "_law_i") 428), (.str (Str.ofString "_law_row") 429), (.str (Str.ofString "_law_j") 430)]) 0), Array.mk []⟩
noncomputable def o187 (P : Params) : Obj := ⟨(.type "tuple"), none, (.seq (Array.mk []) 0), Array.mk []⟩
noncomputable def o189 (P : Params) : Obj := ⟨(.type "code"), none, (.fields (Array.mk [(.str (Str.ofString "_law_around") 421), (.str (Str.ofString "_law_around") 422), (.str (Str.ofString "/claim/cut.py") 423), (.int (122) 0), (.int (2) 0), (.int (0) 0), (.int (0) 0), (.int (3) 0), (.ref 184), (.bool true), (.int (181) 0), (.ref 185), .none, (.ref 186), (.ref 187), (.ref 188), (.int (431) 0), (.int (122) 0), (.str (Str.ofString "/claim/cut.py") 432)])), Array.mk []⟩
noncomputable def o190 (P : Params) : Obj := ⟨(.type "function"), none, (.func (fnOf (Str.ofString "_law_around") (Str.ofString "_law_around") (defArgs (top 28)) (defBody (top 28)) (defScope (top 28)) .none .none .none (.str (Str.ofString "law_zonewalk_k11_narrowest") 357) none (.ref 189) .none)), Array.mk []⟩
noncomputable def o191 (P : Params) : Obj := ⟨(.type "tuple"), none, (.seq (Array.mk []) 0), Array.mk []⟩
noncomputable def o193 (P : Params) : Obj := ⟨(.type "tuple"), none, (.seq (Array.mk [(.str (Str.ofString "_law_bound_here") 437), (.str (Str.ofString "_law_value") 438), (.str (Str.ofString "_law_most") 439)]) 0), Array.mk []⟩
noncomputable def o194 (P : Params) : Obj := ⟨(.type "tuple"), none, (.seq (Array.mk []) 0), Array.mk []⟩
noncomputable def o196 (P : Params) : Obj := ⟨(.type "code"), none, (.fields (Array.mk [(.str (Str.ofString "_law_lets") 434), (.str (Str.ofString "_law_lets") 435), (.str (Str.ofString "/claim/cut.py") 436), (.int (131) 0), (.int (2) 0), (.int (0) 0), (.int (0) 0), (.int (3) 0), (.ref 191), (.bool true), (.int (181) 0), (.ref 192), .none, (.ref 193), (.ref 194), (.ref 195), (.int (440) 0), (.int (131) 0), (.str (Str.ofString "/claim/cut.py") 441)])), Array.mk []⟩
noncomputable def o197 (P : Params) : Obj := ⟨(.type "function"), none, (.func (fnOf (Str.ofString "_law_lets") (Str.ofString "_law_lets") (defArgs (top 29)) (defBody (top 29)) (defScope (top 29)) .none .none .none (.str (Str.ofString "law_zonewalk_k11_narrowest") 357) none (.ref 196) .none)), Array.mk []⟩
noncomputable def o198 (P : Params) : Obj := ⟨(.type "tuple"), none, (.seq (Array.mk []) 0), Array.mk []⟩
noncomputable def o200 (P : Params) : Obj := ⟨(.type "tuple"), none, (.seq (Array.mk [(.str (Str.ofString "_law_zone") 446), (.str (Str.ofString "_law_values_here") 447), (.str (Str.ofString "_law_places") 448), (.str (Str.ofString "_law_i") 449), (.str (Str.ofString "_law_j") 450)]) 0), Array.mk []⟩
noncomputable def o201 (P : Params) : Obj := ⟨(.type "tuple"), none, (.seq (Array.mk []) 0), Array.mk []⟩
noncomputable def o203 (P : Params) : Obj := ⟨(.type "code"), none, (.fields (Array.mk [(.str (Str.ofString "_law_lies") 443), (.str (Str.ofString "_law_lies") 444), (.str (Str.ofString "/claim/cut.py") 445), (.int (136) 0), (.int (2) 0), (.int (0) 0), (.int (0) 0), (.int (3) 0), (.ref 198), (.bool true), (.int (181) 0), (.ref 199), .none, (.ref 200), (.ref 201), (.ref 202), (.int (451) 0), (.int (136) 0), (.str (Str.ofString "/claim/cut.py") 452)])), Array.mk []⟩
noncomputable def o204 (P : Params) : Obj := ⟨(.type "function"), none, (.func (fnOf (Str.ofString "_law_lies") (Str.ofString "_law_lies") (defArgs (top 30)) (defBody (top 30)) (defScope (top 30)) .none .none .none (.str (Str.ofString "law_zonewalk_k11_narrowest") 357) none (.ref 203) .none)), Array.mk []⟩
noncomputable def o205 (P : Params) : Obj := ⟨(.type "tuple"), none, (.seq (Array.mk []) 0), Array.mk []⟩
noncomputable def o207 (P : Params) : Obj := ⟨(.type "tuple"), none, (.seq (Array.mk [(.str (Str.ofString "_law_one") 457), (.str (Str.ofString "_law_other") 458)]) 0), Array.mk []⟩
noncomputable def o208 (P : Params) : Obj := ⟨(.type "tuple"), none, (.seq (Array.mk []) 0), Array.mk []⟩
noncomputable def o210 (P : Params) : Obj := ⟨(.type "code"), none, (.fields (Array.mk [(.str (Str.ofString "_law_wider") 454), (.str (Str.ofString "_law_wider") 455), (.str (Str.ofString "/claim/cut.py") 456), (.int (143) 0), (.int (2) 0), (.int (0) 0), (.int (0) 0), (.int (3) 0), (.ref 205), (.bool true), (.int (181) 0), (.ref 206), .none, (.ref 207), (.ref 208), (.ref 209), (.int (459) 0), (.int (143) 0), (.str (Str.ofString "/claim/cut.py") 460)])), Array.mk []⟩
noncomputable def o211 (P : Params) : Obj := ⟨(.type "function"), none, (.func (fnOf (Str.ofString "_law_wider") (Str.ofString "_law_wider") (defArgs (top 31)) (defBody (top 31)) (defScope (top 31)) .none .none .none (.str (Str.ofString "law_zonewalk_k11_narrowest") 357) none (.ref 210) .none)), Array.mk []⟩
noncomputable def o212 (P : Params) : Obj := ⟨(.type "tuple"), none, (.seq (Array.mk []) 0), Array.mk []⟩
noncomputable def o214 (P : Params) : Obj := ⟨(.type "tuple"), none, (.seq (Array.mk [(.str (Str.ofString "_law_one") 465), (.str (Str.ofString "_law_other") 466)]) 0), Array.mk []⟩
noncomputable def o215 (P : Params) : Obj := ⟨(.type "tuple"), none, (.seq (Array.mk []) 0), Array.mk []⟩
noncomputable def o217 (P : Params) : Obj := ⟨(.type "code"), none, (.fields (Array.mk [(.str (Str.ofString "_law_sum") 462), (.str (Str.ofString "_law_sum") 463), (.str (Str.ofString "/claim/cut.py") 464), (.int (145) 0), (.int (2) 0), (.int (0) 0), (.int (0) 0), (.int (3) 0), (.ref 212), (.bool true), (.int (181) 0), (.ref 213), .none, (.ref 214), (.ref 215), (.ref 216), (.int (467) 0), (.int (145) 0), (.str (Str.ofString "/claim/cut.py") 468)])), Array.mk []⟩
noncomputable def o218 (P : Params) : Obj := ⟨(.type "function"), none, (.func (fnOf (Str.ofString "_law_sum") (Str.ofString "_law_sum") (defArgs (top 32)) (defBody (top 32)) (defScope (top 32)) .none .none .none (.str (Str.ofString "law_zonewalk_k11_narrowest") 357) none (.ref 217) .none)), Array.mk []⟩
noncomputable def o219 (P : Params) : Obj := ⟨(.type "tuple"), none, (.seq (Array.mk []) 0), Array.mk []⟩
noncomputable def o221 (P : Params) : Obj := ⟨(.type "tuple"), none, (.seq (Array.mk [(.str (Str.ofString "_law_zone") 473), (.str (Str.ofString "_law_many") 474), (.str (Str.ofString "_law_row") 475), (.str (Str.ofString "_law_bound_here") 476)]) 0), Array.mk []⟩
noncomputable def o222 (P : Params) : Obj := ⟨(.type "tuple"), none, (.seq (Array.mk []) 0), Array.mk []⟩
noncomputable def o224 (P : Params) : Obj := ⟨(.type "code"), none, (.fields (Array.mk [(.str (Str.ofString "_law_is_zone") 470), (.str (Str.ofString "_law_is_zone") 471), (.str (Str.ofString "/claim/cut.py") 472), (.int (149) 0), (.int (2) 0), (.int (0) 0), (.int (0) 0), (.int (3) 0), (.ref 219), (.bool true), (.int (181) 0), (.ref 220), .none, (.ref 221), (.ref 222), (.ref 223), (.int (477) 0), (.int (149) 0), (.str (Str.ofString "/claim/cut.py") 478)])), Array.mk []⟩
noncomputable def o225 (P : Params) : Obj := ⟨(.type "function"), none, (.func (fnOf (Str.ofString "_law_is_zone") (Str.ofString "_law_is_zone") (defArgs (top 33)) (defBody (top 33)) (defScope (top 33)) .none .none .none (.str (Str.ofString "law_zonewalk_k11_narrowest") 357) none (.ref 224) .none)), Array.mk []⟩
noncomputable def o226 (P : Params) : Obj := ⟨(.type "tuple"), none, (.seq (Array.mk []) 0), Array.mk []⟩
noncomputable def o228 (P : Params) : Obj := ⟨(.type "tuple"), none, (.seq (Array.mk [(.str (Str.ofString "_law_found") 483), (.str (Str.ofString "_law_zone") 484), (.str (Str.ofString "_law_size") 485), (.str (Str.ofString "_law_i") 486), (.str (Str.ofString "_law_j") 487), (.str (Str.ofString "_law_k") 488)]) 0), Array.mk []⟩
noncomputable def o229 (P : Params) : Obj := ⟨(.type "tuple"), none, (.seq (Array.mk []) 0), Array.mk []⟩
noncomputable def o231 (P : Params) : Obj := ⟨(.type "code"), none, (.fields (Array.mk [(.str (Str.ofString "_law_narrow") 480), (.str (Str.ofString "_law_narrow") 481), (.str (Str.ofString "/claim/cut.py") 482), (.int (159) 0), (.int (2) 0), (.int (0) 0), (.int (0) 0), (.int (3) 0), (.ref 226), (.bool true), (.int (181) 0), (.ref 227), .none, (.ref 228), (.ref 229), (.ref 230), (.int (489) 0), (.int (159) 0), (.str (Str.ofString "/claim/cut.py") 490)])), Array.mk []⟩
noncomputable def o232 (P : Params) : Obj := ⟨(.type "function"), none, (.func (fnOf (Str.ofString "_law_narrow") (Str.ofString "_law_narrow") (defArgs (top 34)) (defBody (top 34)) (defScope (top 34)) .none .none .none (.str (Str.ofString "law_zonewalk_k11_narrowest") 357) none (.ref 231) .none)), Array.mk []⟩
noncomputable def o233 (P : Params) : Obj := ⟨(.type "tuple"), none, (.seq (Array.mk []) 0), Array.mk []⟩
noncomputable def o236 (P : Params) : Obj := ⟨(.type "code"), none, (.fields (Array.mk [(.str (Str.ofString "law") 492), (.str (Str.ofString "law") 493), (.str (Str.ofString "/claim/cut.py") 494), (.int (171) 0), (.int (1) 0), (.int (0) 0), (.int (0) 0), (.int (3) 0), (.ref 233), (.bool true), (.int (181) 0), (.ref 234), .none, .none, .none, (.ref 235), (.int (495) 0), (.int (171) 0), (.str (Str.ofString "/claim/cut.py") 496)])), Array.mk []⟩
noncomputable def o237 (P : Params) : Obj := ⟨(.type "function"), none, (.func (fnOf (Str.ofString "law") (Str.ofString "law") (defArgs (top 35)) (defBody (top 35)) (defScope (top 35)) .none .none .none (.str (Str.ofString "law_zonewalk_k11_narrowest") 357) none (.ref 236) .none)), Array.mk []⟩
noncomputable def frag (P : Params) : Frag := [(2, o2 P), (3, o3 P), (15, o15 P), (22, o22 P), (23, o23 P), (24, o24 P), (25, o25 P), (28, o28 P), (35, o35 P), (36, o36 P), (37, o37 P), (40, o40 P), (42, o42 P), (43, o43 P), (45, o45 P), (46, o46 P), (47, o47 P), (49, o49 P), (50, o50 P), (52, o52 P), (53, o53 P), (54, o54 P), (55, o55 P), (57, o57 P), (58, o58 P), (60, o60 P), (61, o61 P), (62, o62 P), (64, o64 P), (65, o65 P), (67, o67 P), (68, o68 P), (69, o69 P), (71, o71 P), (72, o72 P), (74, o74 P), (75, o75 P), (76, o76 P), (78, o78 P), (79, o79 P), (81, o81 P), (82, o82 P), (83, o83 P), (85, o85 P), (86, o86 P), (88, o88 P), (89, o89 P), (90, o90 P), (92, o92 P), (93, o93 P), (95, o95 P), (96, o96 P), (97, o97 P), (99, o99 P), (100, o100 P), (102, o102 P), (103, o103 P), (104, o104 P), (106, o106 P), (107, o107 P), (109, o109 P), (110, o110 P), (111, o111 P), (113, o113 P), (114, o114 P), (116, o116 P), (117, o117 P), (118, o118 P), (120, o120 P), (121, o121 P), (123, o123 P), (124, o124 P), (125, o125 P), (128, o128 P), (129, o129 P), (130, o130 P), (133, o133 P), (134, o134 P), (135, o135 P), (137, o137 P), (138, o138 P), (140, o140 P), (141, o141 P), (142, o142 P), (144, o144 P), (145, o145 P), (147, o147 P), (148, o148 P), (149, o149 P), (151, o151 P), (152, o152 P), (154, o154 P), (155, o155 P), (156, o156 P), (158, o158 P), (159, o159 P), (161, o161 P), (162, o162 P), (163, o163 P), (165, o165 P), (166, o166 P), (168, o168 P), (169, o169 P), (170, o170 P), (172, o172 P), (173, o173 P), (175, o175 P), (176, o176 P), (177, o177 P), (179, o179 P), (180, o180 P), (182, o182 P), (183, o183 P), (184, o184 P), (186, o186 P), (187, o187 P), (189, o189 P), (190, o190 P), (191, o191 P), (193, o193 P), (194, o194 P), (196, o196 P), (197, o197 P), (198, o198 P), (200, o200 P), (201, o201 P), (203, o203 P), (204, o204 P), (205, o205 P), (207, o207 P), (208, o208 P), (210, o210 P), (211, o211 P), (212, o212 P), (214, o214 P), (215, o215 P), (217, o217 P), (218, o218 P), (219, o219 P), (221, o221 P), (222, o222 P), (224, o224 P), (225, o225 P), (226, o226 P), (228, o228 P), (229, o229 P), (231, o231 P), (232, o232 P), (233, o233 P), (236, o236 P), (237, o237 P)]
def fas : List Addr := [2, 3, 15, 22, 23, 24, 25, 28, 35, 36, 37, 40, 42, 43, 45, 46, 47, 49, 50, 52, 53, 54, 55, 57, 58, 60, 61, 62, 64, 65, 67, 68, 69, 71, 72, 74, 75, 76, 78, 79, 81, 82, 83, 85, 86, 88, 89, 90, 92, 93, 95, 96, 97, 99, 100, 102, 103, 104, 106, 107, 109, 110, 111, 113, 114, 116, 117, 118, 120, 121, 123, 124, 125, 128, 129, 130, 133, 134, 135, 137, 138, 140, 141, 142, 144, 145, 147, 148, 149, 151, 152, 154, 155, 156, 158, 159, 161, 162, 163, 165, 166, 168, 169, 170, 172, 173, 175, 176, 177, 179, 180, 182, 183, 184, 186, 187, 189, 190, 191, 193, 194, 196, 197, 198, 200, 201, 203, 204, 205, 207, 208, 210, 211, 212, 214, 215, 217, 218, 219, 221, 222, 224, 225, 226, 228, 229, 231, 232, 233, 236, 237]
def vq : Program := { pw with main := { (pw).main with body := [top 35] } }
def loo : List Str := [Str.ofString "WalkError", Str.ofString "NoNumber", Str.ofString "is_whole", Str.ofString "greatest_divisor", Str.ofString "fraction", Str.ofString "minus", Str.ofString "under", Str.ofString "at_most", Str.ofString "number_of", Str.ofString "is_open", Str.ofString "narrower", Str.ofString "lets", Str.ofString "free_bound", Str.ofString "lies_in", Str.ofString "narrowest", Str.ofString "is_broken", Str.ofString "row_over", Str.ofString "_law_cell_at", Str.ofString "_law_stream", Str.ofString "_law_lowest", Str.ofString "_law_values", Str.ofString "_law_minus", Str.ofString "_law_bound", Str.ofString "_law_around", Str.ofString "_law_lets", Str.ofString "_law_lies", Str.ofString "_law_wider", Str.ofString "_law_sum", Str.ofString "_law_is_zone", Str.ofString "_law_narrow"]
noncomputable abbrev hk : Hook := kHook frag fas (fun _ => by kernel_rfl)
theorem run_ok (w : World) (os : OsState) : (go pw 1417 w os).map (fun s => seenAll pw vq loo (xt rw_.row.toRowW vq) hk.obs (boot_heap w.params) s.abs) = some (true, openGood vq loo, hk.val w) := by kernel_rfl
theorem left : LeftO pw vq loo (xt rw_.row.toRowW vq) hk.obs hk.val 3414 true := left_go 3414 1417 (by kernel_rfl) (by decide) (fun s => by kernel_rfl) (by decide) run_ok
theorem said : rw_.wellSaid = true := said_of (by kernel_rfl)
theorem all_mk {w : World} {h : Heap} {mg : Str → Option Value} {fa : Addr} (X : (frag w.params).In h) (G : h.Ns mainGlobals mg) (hfa : mg "law" = some (.ref fa))
    : ∃ fd : FuncData, (∀ (s : Shared) (v : Value), BindsTo s fd ⟨[v], []⟩ [("_law_script", v)]) ∧ ∀ base : Heap, (frag w.params).In base → base.Ns mainGlobals mg → FnOk pw w (frag w.params) mg base CX0 5 fa fd ["_law_script"] (spLaw (frag w.params)) := by
  have e := hfa.symm.trans (mg_of X G (show nsIn (frag w.params) mainGlobals "law" = some (some (.ref 237)) by kernel_rfl))
  cases e
  let ca : Str → Value := fun c => if c = "NoNumber" then .ref 37 else .none
  have b_len : mg "len" = none := mg_none_of X G (show nsIn (frag w.params) mainGlobals "len" = some none by kernel_rfl)
  have b_abs : mg "abs" = none := mg_none_of X G (show nsIn (frag w.params) mainGlobals "abs" = some none by kernel_rfl)
  have b_range : mg "range" = none := mg_none_of X G (show nsIn (frag w.params) mainGlobals "range" = some none by kernel_rfl)
  have b_any : mg "any" = none := mg_none_of X G (show nsIn (frag w.params) mainGlobals "any" = some none by kernel_rfl)
  have b_enumerate : mg "enumerate" = none := mg_none_of X G (show nsIn (frag w.params) mainGlobals "enumerate" = some none by kernel_rfl)
  have b_min : mg "min" = none := mg_none_of X G (show nsIn (frag w.params) mainGlobals "min" = some none by kernel_rfl)
  have b_zip : mg "zip" = none := mg_none_of X G (show nsIn (frag w.params) mainGlobals "zip" = some none by kernel_rfl)
  have b_isinstance : mg "isinstance" = none := mg_none_of X G (show nsIn (frag w.params) mainGlobals "isinstance" = some none by kernel_rfl)
  have b_int : mg "int" = none := mg_none_of X G (show nsIn (frag w.params) mainGlobals "int" = some none by kernel_rfl)
  have b_bool : mg "bool" = none := mg_none_of X G (show nsIn (frag w.params) mainGlobals "bool" = some none by kernel_rfl)
  have b_list : mg "list" = none := mg_none_of X G (show nsIn (frag w.params) mainGlobals "list" = some none by kernel_rfl)
  have yg : specialIn (frag w.params) (.builtin "object.__class__") "__get__" = some (some (.builtin "getset_descriptor.__get__")) := by kernel_rfl
  have yt : takesIn (frag w.params) (.builtin "object.__class__") = some true := by kernel_rfl
  let CL_NoNumber : ECls (frag w.params) mg "NoNumber" := ⟨37, mg_of X G (show nsIn (frag w.params) mainGlobals "NoNumber" = some (some (.ref 37)) by kernel_rfl), ⟨by kernel_rfl, by kernel_rfl, ⟨(clsIn (frag w.params) 37).getD default, by kernel_rfl⟩, by kernel_rfl, by kernel_rfl, by kernel_rfl, by kernel_rfl, by kernel_rfl, by kernel_rfl, yg, yt⟩⟩
  have E_NoNumber : ∃ T : ECls (frag w.params) mg "NoNumber", ca "NoNumber" = .ref T.C := ⟨CL_NoNumber, by rfl⟩
  have F1 := fund_mk (st := s_Lcell_at) (show (frag w.params).lookup 148 = some (o148 w.params) by kernel_rfl) (show codeIn (frag w.params) (.ref 147) "_law_cell_at" = true by kernel_rfl) (by kernel_rfl)
  let T1 : Tx (frag w.params) mg "_law_cell_at" s_Lcell_at ["_law_script", "_law_k"] := ⟨_, _, F1, mg_of X G (show nsIn (frag w.params) mainGlobals "_law_cell_at" = some (some (.ref 148)) by kernel_rfl), .all (us2 fun _ _ => rfl)⟩
  have F2 := fund_mk (st := s_Llowest) (show (frag w.params).lookup 162 = some (o162 w.params) by kernel_rfl) (show codeIn (frag w.params) (.ref 161) "_law_lowest" = true by kernel_rfl) (by kernel_rfl)
  let T2 : Tx (frag w.params) mg "_law_lowest" s_Llowest ["_law_top", "_law_bottom"] := ⟨_, _, F2, mg_of X G (show nsIn (frag w.params) mainGlobals "_law_lowest" = some (some (.ref 162)) by kernel_rfl), .all (us2 fun _ _ => rfl)⟩
  have F3 := fund_mk (st := s_Lvalues) (show (frag w.params).lookup 169 = some (o169 w.params) by kernel_rfl) (show codeIn (frag w.params) (.ref 168) "_law_values" = true by kernel_rfl) (by kernel_rfl)
  let T3 : Tx (frag w.params) mg "_law_values" s_Lvalues ["_law_xs", "_law_many", "_law_unit"] := ⟨_, _, F3, mg_of X G (show nsIn (frag w.params) mainGlobals "_law_values" = some (some (.ref 169)) by kernel_rfl), .all (us3 fun _ _ _ => rfl)⟩
  have F4 := fund_mk (st := s_Lbound) (show (frag w.params).lookup 183 = some (o183 w.params) by kernel_rfl) (show codeIn (frag w.params) (.ref 182) "_law_bound" = true by kernel_rfl) (by kernel_rfl)
  let T4 : Tx (frag w.params) mg "_law_bound" s_Lbound ["_law_value", "_law_x"] := ⟨_, _, F4, mg_of X G (show nsIn (frag w.params) mainGlobals "_law_bound" = some (some (.ref 183)) by kernel_rfl), .all (us2 fun _ _ => rfl)⟩
  have F5 := fund_mk (st := s_Lminus) (show (frag w.params).lookup 176 = some (o176 w.params) by kernel_rfl) (show codeIn (frag w.params) (.ref 175) "_law_minus" = true by kernel_rfl) (by kernel_rfl)
  let T5 : Tx (frag w.params) mg "_law_minus" s_Lminus ["_law_one", "_law_other"] := ⟨_, _, F5, mg_of X G (show nsIn (frag w.params) mainGlobals "_law_minus" = some (some (.ref 176)) by kernel_rfl), .all (us2 fun _ _ => rfl)⟩
  have F6 := fund_mk (st := s_Laround) (show (frag w.params).lookup 190 = some (o190 w.params) by kernel_rfl) (show codeIn (frag w.params) (.ref 189) "_law_around" = true by kernel_rfl) (by kernel_rfl)
  let T6 : Tx (frag w.params) mg "_law_around" s_Laround ["_law_values_here", "_law_xs"] := ⟨_, _, F6, mg_of X G (show nsIn (frag w.params) mainGlobals "_law_around" = some (some (.ref 190)) by kernel_rfl), .all (us2 fun _ _ => rfl)⟩
  have F7 := fund_mk (st := s_at_most) (show (frag w.params).lookup 82 = some (o82 w.params) by kernel_rfl) (show codeIn (frag w.params) (.ref 81) "at_most" = true by kernel_rfl) (by kernel_rfl)
  let T7 : Tx (frag w.params) mg "at_most" s_at_most ["number"] := ⟨_, _, F7, mg_of X G (show nsIn (frag w.params) mainGlobals "at_most" = some (some (.ref 82)) by kernel_rfl), .all (us1 fun _ => rfl)⟩
  have F8 := fund_mk (st := s_is_broken) (show (frag w.params).lookup 134 = some (o134 w.params) by kernel_rfl) (show codeIn (frag w.params) (.ref 133) "is_broken" = true by kernel_rfl) (by kernel_rfl)
  let T8 : Tx (frag w.params) mg "is_broken" s_is_broken ["rows"] := ⟨_, _, F8, mg_of X G (show nsIn (frag w.params) mainGlobals "is_broken" = some (some (.ref 134)) by kernel_rfl), .all (us1 fun _ => rfl)⟩
  have F9 := fund_mk (st := s_narrower) (show (frag w.params).lookup 103 = some (o103 w.params) by kernel_rfl) (show codeIn (frag w.params) (.ref 102) "narrower" = true by kernel_rfl) (by kernel_rfl)
  let T9 : Tx (frag w.params) mg "narrower" s_narrower ["one", "other"] := ⟨_, _, F9, mg_of X G (show nsIn (frag w.params) mainGlobals "narrower" = some (some (.ref 103)) by kernel_rfl), .all (us2 fun _ _ => rfl)⟩
  have F10 := fund_mk (st := s_free_bound) (show (frag w.params).lookup 117 = some (o117 w.params) by kernel_rfl) (show codeIn (frag w.params) (.ref 116) "free_bound" = true by kernel_rfl) (by kernel_rfl)
  let T10 : Tx (frag w.params) mg "free_bound" s_free_bound ["i", "j"] := ⟨_, _, F10, mg_of X G (show nsIn (frag w.params) mainGlobals "free_bound" = some (some (.ref 117)) by kernel_rfl), .all (us2 fun _ _ => rfl)⟩
  have F11 := fund_mk (st := s_row_over) (show (frag w.params).lookup 141 = some (o141 w.params) by kernel_rfl) (show codeIn (frag w.params) (.ref 140) "row_over" = true by kernel_rfl) (by kernel_rfl)
  let T11 : Tx (frag w.params) mg "row_over" s_row_over ["row", "first", "rest"] := ⟨_, _, F11, mg_of X G (show nsIn (frag w.params) mainGlobals "row_over" = some (some (.ref 141)) by kernel_rfl), .all (us3 fun _ _ _ => rfl)⟩
  have F12 := fund_mk (st := s_narrowest) (show (frag w.params).lookup 129 = some (o129 w.params) by kernel_rfl) (show codeIn (frag w.params) (.ref 128) "narrowest" = true by kernel_rfl) (by kernel_rfl)
  let T12 : Tx (frag w.params) mg "narrowest" s_narrowest ["zone"] := ⟨_, _, F12, mg_of X G (show nsIn (frag w.params) mainGlobals "narrowest" = some (some (.ref 129)) by kernel_rfl), .all (us1 fun _ => rfl)⟩
  have F13 := fund_mk (st := s_Lstream) (show (frag w.params).lookup 155 = some (o155 w.params) by kernel_rfl) (show codeIn (frag w.params) (.ref 154) "_law_stream" = true by kernel_rfl) (by kernel_rfl)
  let T13 : Tx (frag w.params) mg "_law_stream" s_Lstream ["_law_cell", "_law_many"] := ⟨_, _, F13, mg_of X G (show nsIn (frag w.params) mainGlobals "_law_stream" = some (some (.ref 155)) by kernel_rfl), .all (us2 fun _ _ => rfl)⟩
  have F14 := fund_mk (st := s_Llets) (show (frag w.params).lookup 197 = some (o197 w.params) by kernel_rfl) (show codeIn (frag w.params) (.ref 196) "_law_lets" = true by kernel_rfl) (by kernel_rfl)
  let T14 : Tx (frag w.params) mg "_law_lets" s_Llets ["_law_bound_here", "_law_value"] := ⟨_, _, F14, mg_of X G (show nsIn (frag w.params) mainGlobals "_law_lets" = some (some (.ref 197)) by kernel_rfl), .all (us2 fun _ _ => rfl)⟩
  have F15 := fund_mk (st := s_Llies) (show (frag w.params).lookup 204 = some (o204 w.params) by kernel_rfl) (show codeIn (frag w.params) (.ref 203) "_law_lies" = true by kernel_rfl) (by kernel_rfl)
  let T15 : Tx (frag w.params) mg "_law_lies" s_Llies ["_law_zone", "_law_values_here"] := ⟨_, _, F15, mg_of X G (show nsIn (frag w.params) mainGlobals "_law_lies" = some (some (.ref 204)) by kernel_rfl), .all (us2 fun _ _ => rfl)⟩
  have F16 := fund_mk (st := s_is_open) (show (frag w.params).lookup 96 = some (o96 w.params) by kernel_rfl) (show codeIn (frag w.params) (.ref 95) "is_open" = true by kernel_rfl) (by kernel_rfl)
  let T16 : Tx (frag w.params) mg "is_open" s_is_open ["bound"] := ⟨_, _, F16, mg_of X G (show nsIn (frag w.params) mainGlobals "is_open" = some (some (.ref 96)) by kernel_rfl), .all (us1 fun _ => rfl)⟩
  have F17 := fund_mk (st := s_number_of) (show (frag w.params).lookup 89 = some (o89 w.params) by kernel_rfl) (show codeIn (frag w.params) (.ref 88) "number_of" = true by kernel_rfl) (by kernel_rfl)
  let T17 : Tx (frag w.params) mg "number_of" s_number_of ["bound"] := ⟨_, _, F17, mg_of X G (show nsIn (frag w.params) mainGlobals "number_of" = some (some (.ref 89)) by kernel_rfl), .all (us1 fun _ => rfl)⟩
  have F18 := fund_mk (st := s_under) (show (frag w.params).lookup 75 = some (o75 w.params) by kernel_rfl) (show codeIn (frag w.params) (.ref 74) "under" = true by kernel_rfl) (by kernel_rfl)
  let T18 : Tx (frag w.params) mg "under" s_under ["one", "other"] := ⟨_, _, F18, mg_of X G (show nsIn (frag w.params) mainGlobals "under" = some (some (.ref 75)) by kernel_rfl), .all (us2 fun _ _ => rfl)⟩
  have F19 := fund_mk (st := s_lets) (show (frag w.params).lookup 110 = some (o110 w.params) by kernel_rfl) (show codeIn (frag w.params) (.ref 109) "lets" = true by kernel_rfl) (by kernel_rfl)
  let T19 : Tx (frag w.params) mg "lets" s_lets ["bound", "value"] := ⟨_, _, F19, mg_of X G (show nsIn (frag w.params) mainGlobals "lets" = some (some (.ref 110)) by kernel_rfl), .all (us2 fun _ _ => rfl)⟩
  have F20 := fund_mk (st := s_greatest_divisor) (show (frag w.params).lookup 53 = some (o53 w.params) by kernel_rfl) (show codeIn (frag w.params) (.ref 52) "greatest_divisor" = true by kernel_rfl) (by kernel_rfl)
  let T20 : Tx (frag w.params) mg "greatest_divisor" s_greatest_divisor ["one", "other"] := ⟨_, _, F20, mg_of X G (show nsIn (frag w.params) mainGlobals "greatest_divisor" = some (some (.ref 53)) by kernel_rfl), .all (us2 fun _ _ => rfl)⟩
  have F21 := fund_mk (st := s_is_whole) (show (frag w.params).lookup 46 = some (o46 w.params) by kernel_rfl) (show codeIn (frag w.params) (.ref 45) "is_whole" = true by kernel_rfl) (by kernel_rfl)
  let T21 : Tx (frag w.params) mg "is_whole" s_is_whole ["thing"] := ⟨_, _, F21, mg_of X G (show nsIn (frag w.params) mainGlobals "is_whole" = some (some (.ref 46)) by kernel_rfl), .all (us1 fun _ => rfl)⟩
  have F22 := fund_mk (st := s_fraction) (show (frag w.params).lookup 61 = some (o61 w.params) by kernel_rfl) (show codeIn (frag w.params) (.ref 60) "fraction" = true by kernel_rfl) (by kernel_rfl)
  let T22 : Tx (frag w.params) mg "fraction" s_fraction ["top", "bottom"] := ⟨_, _, F22, mg_of X G (show nsIn (frag w.params) mainGlobals "fraction" = some (some (.ref 61)) by kernel_rfl), fun s us X hl => match us, hl with | [_, _], _ => binds_K X rfl (show (frag w.params).lookup 54 = some (o54 w.params) by kernel_rfl) rfl rfl rfl⟩
  have F23 := fund_mk (st := s_minus) (show (frag w.params).lookup 68 = some (o68 w.params) by kernel_rfl) (show codeIn (frag w.params) (.ref 67) "minus" = true by kernel_rfl) (by kernel_rfl)
  let T23 : Tx (frag w.params) mg "minus" s_minus ["one", "other"] := ⟨_, _, F23, mg_of X G (show nsIn (frag w.params) mainGlobals "minus" = some (some (.ref 68)) by kernel_rfl), .all (us2 fun _ _ => rfl)⟩
  have F24 := fund_mk (st := s_lies_in) (show (frag w.params).lookup 124 = some (o124 w.params) by kernel_rfl) (show codeIn (frag w.params) (.ref 123) "lies_in" = true by kernel_rfl) (by kernel_rfl)
  let T24 : Tx (frag w.params) mg "lies_in" s_lies_in ["zone", "values"] := ⟨_, _, F24, mg_of X G (show nsIn (frag w.params) mainGlobals "lies_in" = some (some (.ref 124)) by kernel_rfl), .all (us2 fun _ _ => rfl)⟩
  have F25 := fund_mk (st := s_Lis_zone) (show (frag w.params).lookup 225 = some (o225 w.params) by kernel_rfl) (show codeIn (frag w.params) (.ref 224) "_law_is_zone" = true by kernel_rfl) (by kernel_rfl)
  let T25 : Tx (frag w.params) mg "_law_is_zone" s_Lis_zone ["_law_zone", "_law_many"] := ⟨_, _, F25, mg_of X G (show nsIn (frag w.params) mainGlobals "_law_is_zone" = some (some (.ref 225)) by kernel_rfl), .all (us2 fun _ _ => rfl)⟩
  have F26 := fund_mk (st := s_Lwider) (show (frag w.params).lookup 211 = some (o211 w.params) by kernel_rfl) (show codeIn (frag w.params) (.ref 210) "_law_wider" = true by kernel_rfl) (by kernel_rfl)
  let T26 : Tx (frag w.params) mg "_law_wider" s_Lwider ["_law_one", "_law_other"] := ⟨_, _, F26, mg_of X G (show nsIn (frag w.params) mainGlobals "_law_wider" = some (some (.ref 211)) by kernel_rfl), .all (us2 fun _ _ => rfl)⟩
  have F27 := fund_mk (st := s_Lsum) (show (frag w.params).lookup 218 = some (o218 w.params) by kernel_rfl) (show codeIn (frag w.params) (.ref 217) "_law_sum" = true by kernel_rfl) (by kernel_rfl)
  let T27 : Tx (frag w.params) mg "_law_sum" s_Lsum ["_law_one", "_law_other"] := ⟨_, _, F27, mg_of X G (show nsIn (frag w.params) mainGlobals "_law_sum" = some (some (.ref 218)) by kernel_rfl), .all (us2 fun _ _ => rfl)⟩
  have F28 := fund_mk (st := s_Lnarrow) (show (frag w.params).lookup 232 = some (o232 w.params) by kernel_rfl) (show codeIn (frag w.params) (.ref 231) "_law_narrow" = true by kernel_rfl) (by kernel_rfl)
  let T28 : Tx (frag w.params) mg "_law_narrow" s_Lnarrow ["_law_found", "_law_zone"] := ⟨_, _, F28, mg_of X G (show nsIn (frag w.params) mainGlobals "_law_narrow" = some (some (.ref 232)) by kernel_rfl), .all (us2 fun _ _ => rfl)⟩
  have F29 := fund_mk (st := s_law) (show (frag w.params).lookup 237 = some (o237 w.params) by kernel_rfl) (show codeIn (frag w.params) (.ref 236) "law" = true by kernel_rfl) (by kernel_rfl)
  let T29 : Tx (frag w.params) mg "law" s_law ["_law_script"] := ⟨_, _, F29, mg_of X G (show nsIn (frag w.params) mainGlobals "law" = some (some (.ref 237)) by kernel_rfl), .all (us1 fun _ => rfl)⟩
  refine ⟨T29.fd, fun s v => .of_eq rfl, fun base _ _ => ?_⟩
  have K1 : FnOk pw w (frag w.params) mg base (CX1 pw w) 1 T1.f T1.fd ["_law_script", "_law_k"] (spP (frag w.params) ca R_Lcell_at) := fn_ok (n := 200) (Γ := gm_Lcell_at) T1.F sc_Lcell_at rfl rfl all_nil rfl (all_cons b_len all_nil) fns_nil all_nil mus_nil rfl ck_Lcell_at
  let D1 : DefX pw w (frag w.params) mg base 1 "_law_cell_at" ["_law_script", "_law_k"] (spP (frag w.params) ca R_Lcell_at) := ⟨T1.f, T1.fd, K1, T1.m, T1.F.kp, T1.b⟩
  have K2 : FnOk pw w (frag w.params) mg base (CX1 pw w) 1 T2.f T2.fd ["_law_top", "_law_bottom"] (spP (frag w.params) ca R_Llowest) := fn_ok (n := 200) (Γ := gm_Llowest) T2.F sc_Llowest rfl rfl all_nil rfl (all_cons b_abs all_nil) fns_nil all_nil mus_nil rfl ck_Llowest
  let D2 : DefX pw w (frag w.params) mg base 1 "_law_lowest" ["_law_top", "_law_bottom"] (spP (frag w.params) ca R_Llowest) := ⟨T2.f, T2.fd, K2, T2.m, T2.F.kp, T2.b⟩
  have K3 : FnOk pw w (frag w.params) mg base (CX1 pw w) 2 T3.f T3.fd ["_law_xs", "_law_many", "_law_unit"] (spP (frag w.params) ca R_Lvalues) := fn_ok (n := 200) (Γ := gm_Lvalues) T3.F sc_Lvalues rfl rfl all_nil rfl (all_cons b_range all_nil) (fns_cons (by decide) D2 fns_nil) all_nil mus_nil rfl ck_Lvalues
  let D3 : DefX pw w (frag w.params) mg base 2 "_law_values" ["_law_xs", "_law_many", "_law_unit"] (spP (frag w.params) ca R_Lvalues) := ⟨T3.f, T3.fd, K3, T3.m, T3.F.kp, T3.b⟩
  have K4 : FnOk pw w (frag w.params) mg base (CX1 pw w) 1 T4.f T4.fd ["_law_value", "_law_x"] (spP (frag w.params) ca R_Lbound) := fn_ok (n := 200) (Γ := gm_Lbound) T4.F sc_Lbound rfl rfl all_nil rfl all_nil fns_nil all_nil mus_nil rfl ck_Lbound
  let D4 : DefX pw w (frag w.params) mg base 1 "_law_bound" ["_law_value", "_law_x"] (spP (frag w.params) ca R_Lbound) := ⟨T4.f, T4.fd, K4, T4.m, T4.F.kp, T4.b⟩
  have K5 : FnOk pw w (frag w.params) mg base (CX1 pw w) 1 T5.f T5.fd ["_law_one", "_law_other"] (spP (frag w.params) ca R_Lminus) := fn_ok (n := 200) (Γ := gm_Lminus) T5.F sc_Lminus rfl rfl all_nil rfl all_nil fns_nil all_nil mus_nil rfl ck_Lminus
  let D5 : DefX pw w (frag w.params) mg base 1 "_law_minus" ["_law_one", "_law_other"] (spP (frag w.params) ca R_Lminus) := ⟨T5.f, T5.fd, K5, T5.m, T5.F.kp, T5.b⟩
  have K6 : FnOk pw w (frag w.params) mg base (CX1 pw w) 2 T6.f T6.fd ["_law_values_here", "_law_xs"] (spP (frag w.params) ca R_Laround) := fn_ok (n := 200) (Γ := gm_Laround) T6.F sc_Laround rfl rfl all_nil rfl (all_cons b_range (all_cons b_len all_nil)) (fns_cons (by decide) D4 (fns_cons (by decide) D5 fns_nil)) all_nil mus_nil rfl ck_Laround
  let D6 : DefX pw w (frag w.params) mg base 2 "_law_around" ["_law_values_here", "_law_xs"] (spP (frag w.params) ca R_Laround) := ⟨T6.f, T6.fd, K6, T6.m, T6.F.kp, T6.b⟩
  have K7 : FnOk pw w (frag w.params) mg base (CX1 pw w) 1 T7.f T7.fd ["number"] (spP (frag w.params) ca R_at_most) := fn_ok (n := 200) (Γ := gm_at_most) T7.F sc_at_most rfl rfl all_nil rfl all_nil fns_nil all_nil mus_nil rfl ck_at_most
  let D7 : DefX pw w (frag w.params) mg base 1 "at_most" ["number"] (spP (frag w.params) ca R_at_most) := ⟨T7.f, T7.fd, K7, T7.m, T7.F.kp, T7.b⟩
  have K8 : FnOk pw w (frag w.params) mg base (CX1 pw w) 2 T8.f T8.fd ["rows"] (spP (frag w.params) ca R_is_broken) := fn_ok (n := 200) (Γ := gm_is_broken) T8.F sc_is_broken rfl rfl all_nil rfl (all_cons b_any (all_cons b_enumerate all_nil)) (fns_cons (by decide) D7 fns_nil) all_nil mus_nil rfl ck_is_broken
  let D8 : DefX pw w (frag w.params) mg base 2 "is_broken" ["rows"] (spP (frag w.params) ca R_is_broken) := ⟨T8.f, T8.fd, K8, T8.m, T8.F.kp, T8.b⟩
  have K9 : FnOk pw w (frag w.params) mg base (CX1 pw w) 1 T9.f T9.fd ["one", "other"] (spP (frag w.params) ca R_narrower) := fn_ok (n := 200) (Γ := gm_narrower) T9.F sc_narrower rfl rfl all_nil rfl (all_cons b_min all_nil) fns_nil all_nil mus_nil rfl ck_narrower
  let D9 : DefX pw w (frag w.params) mg base 1 "narrower" ["one", "other"] (spP (frag w.params) ca R_narrower) := ⟨T9.f, T9.fd, K9, T9.m, T9.F.kp, T9.b⟩
  have K10 : FnOk pw w (frag w.params) mg base (CX1 pw w) 2 T10.f T10.fd ["i", "j"] (spP (frag w.params) ca R_free_bound) := fn_ok (n := 200) (Γ := gm_free_bound) T10.F sc_free_bound rfl rfl all_nil rfl all_nil (fns_cons (by decide) D7 fns_nil) all_nil mus_nil rfl ck_free_bound
  let D10 : DefX pw w (frag w.params) mg base 2 "free_bound" ["i", "j"] (spP (frag w.params) ca R_free_bound) := ⟨T10.f, T10.fd, K10, T10.m, T10.F.kp, T10.b⟩
  have K11 : FnOk pw w (frag w.params) mg base (CX1 pw w) 1 T11.f T11.fd ["row", "first", "rest"] (spP (frag w.params) ca R_row_over) := fn_ok (n := 200) (Γ := gm_row_over) T11.F sc_row_over rfl rfl all_nil rfl (all_cons b_zip all_nil) fns_nil all_nil mus_nil rfl ck_row_over
  let D11 : DefX pw w (frag w.params) mg base 1 "row_over" ["row", "first", "rest"] (spP (frag w.params) ca R_row_over) := ⟨T11.f, T11.fd, K11, T11.m, T11.F.kp, T11.b⟩
  have K12 : FnOk pw w (frag w.params) mg base (CX1 pw w) 3 T12.f T12.fd ["zone"] (spP (frag w.params) ca R_narrowest) := fn_ok (n := 200) (Γ := gm_narrowest) T12.F sc_narrowest rfl rfl (all_cons (by rfl) (all_cons (by rfl) all_nil)) rfl (all_cons b_range (all_cons b_len (all_cons b_enumerate all_nil))) (fns_cons (by decide) D11 (fns_cons (by decide) D8 (fns_cons (by decide) D9 (fns_cons (by decide) D10 fns_nil)))) all_nil mus_nil rfl ck_narrowest
  let D12 : DefX pw w (frag w.params) mg base 3 "narrowest" ["zone"] (spP (frag w.params) ca R_narrowest) := ⟨T12.f, T12.fd, K12, T12.m, T12.F.kp, T12.b⟩
  have K13 : FnOk pw w (frag w.params) mg base (CX1 pw w) 1 T13.f T13.fd ["_law_cell", "_law_many"] (spP (frag w.params) ca R_Lstream) := fn_ok (n := 200) (Γ := gm_Lstream) T13.F sc_Lstream rfl rfl all_nil rfl (all_cons b_range all_nil) fns_nil all_nil mus_nil rfl ck_Lstream
  let D13 : DefX pw w (frag w.params) mg base 1 "_law_stream" ["_law_cell", "_law_many"] (spP (frag w.params) ca R_Lstream) := ⟨T13.f, T13.fd, K13, T13.m, T13.F.kp, T13.b⟩
  have K14 : FnOk pw w (frag w.params) mg base (CX1 pw w) 1 T14.f T14.fd ["_law_bound_here", "_law_value"] (spP (frag w.params) ca R_Llets) := fn_ok (n := 200) (Γ := gm_Llets) T14.F sc_Llets rfl rfl all_nil rfl all_nil fns_nil all_nil mus_nil rfl ck_Llets
  let D14 : DefX pw w (frag w.params) mg base 1 "_law_lets" ["_law_bound_here", "_law_value"] (spP (frag w.params) ca R_Llets) := ⟨T14.f, T14.fd, K14, T14.m, T14.F.kp, T14.b⟩
  have K15 : FnOk pw w (frag w.params) mg base (CX1 pw w) 2 T15.f T15.fd ["_law_zone", "_law_values_here"] (spP (frag w.params) ca R_Llies) := fn_ok (n := 200) (Γ := gm_Llies) T15.F sc_Llies rfl rfl all_nil rfl (all_cons b_range (all_cons b_len all_nil)) (fns_cons (by decide) D14 (fns_cons (by decide) D5 fns_nil)) all_nil mus_nil rfl ck_Llies
  let D15 : DefX pw w (frag w.params) mg base 2 "_law_lies" ["_law_zone", "_law_values_here"] (spP (frag w.params) ca R_Llies) := ⟨T15.f, T15.fd, K15, T15.m, T15.F.kp, T15.b⟩
  have K16 : FnOk pw w (frag w.params) mg base (CX1 pw w) 1 T16.f T16.fd ["bound"] (spP (frag w.params) ca R_is_open) := fn_ok (n := 200) (Γ := gm_is_open) T16.F sc_is_open rfl rfl all_nil rfl all_nil fns_nil all_nil mus_nil rfl ck_is_open
  let D16 : DefX pw w (frag w.params) mg base 1 "is_open" ["bound"] (spP (frag w.params) ca R_is_open) := ⟨T16.f, T16.fd, K16, T16.m, T16.F.kp, T16.b⟩
  have K17 : FnOk pw w (frag w.params) mg base (CX1 pw w) 1 T17.f T17.fd ["bound"] (spP (frag w.params) ca R_number_of) := fn_ok (n := 200) (Γ := gm_number_of) T17.F sc_number_of rfl rfl all_nil rfl all_nil fns_nil all_nil mus_nil rfl ck_number_of
  let D17 : DefX pw w (frag w.params) mg base 1 "number_of" ["bound"] (spP (frag w.params) ca R_number_of) := ⟨T17.f, T17.fd, K17, T17.m, T17.F.kp, T17.b⟩
  have K18 : FnOk pw w (frag w.params) mg base (CX1 pw w) 1 T18.f T18.fd ["one", "other"] (spP (frag w.params) ca R_under) := fn_ok (n := 200) (Γ := gm_under) T18.F sc_under rfl rfl all_nil rfl all_nil fns_nil all_nil mus_nil rfl ck_under
  let D18 : DefX pw w (frag w.params) mg base 1 "under" ["one", "other"] (spP (frag w.params) ca R_under) := ⟨T18.f, T18.fd, K18, T18.m, T18.F.kp, T18.b⟩
  have K19 : FnOk pw w (frag w.params) mg base (CX1 pw w) 2 T19.f T19.fd ["bound", "value"] (spP (frag w.params) ca R_lets) := fn_ok (n := 200) (Γ := gm_lets) T19.F sc_lets rfl rfl all_nil rfl all_nil (fns_cons (by decide) D18 (fns_cons (by decide) D16 (fns_cons (by decide) D17 fns_nil))) all_nil mus_nil rfl ck_lets
  let D19 : DefX pw w (frag w.params) mg base 2 "lets" ["bound", "value"] (spP (frag w.params) ca R_lets) := ⟨T19.f, T19.fd, K19, T19.m, T19.F.kp, T19.b⟩
  have K20 : FnOk pw w (frag w.params) mg base (CX1 pw w) 1 T20.f T20.fd ["one", "other"] (spP (frag w.params) ca R_greatest_divisor) := fn_ok (n := 200) (Γ := gm_greatest_divisor) T20.F sc_greatest_divisor rfl rfl all_nil rfl (all_cons b_abs all_nil) fns_nil all_nil mus_nil rfl ck_greatest_divisor
  let D20 : DefX pw w (frag w.params) mg base 1 "greatest_divisor" ["one", "other"] (spP (frag w.params) ca R_greatest_divisor) := ⟨T20.f, T20.fd, K20, T20.m, T20.F.kp, T20.b⟩
  have K21 : FnOk pw w (frag w.params) mg base (CX1 pw w) 1 T21.f T21.fd ["thing"] (spP (frag w.params) ca R_is_whole) := fn_ok (n := 200) (Γ := gm_is_whole) T21.F sc_is_whole rfl rfl all_nil rfl (all_cons b_isinstance (all_cons b_int (all_cons b_bool all_nil))) fns_nil all_nil mus_nil rfl ck_is_whole
  let D21 : DefX pw w (frag w.params) mg base 1 "is_whole" ["thing"] (spP (frag w.params) ca R_is_whole) := ⟨T21.f, T21.fd, K21, T21.m, T21.F.kp, T21.b⟩
  have K22 : FnOk pw w (frag w.params) mg base (CX1 pw w) 2 T22.f T22.fd ["top", "bottom"] (spP (frag w.params) ca R_fraction) := fn_ok (n := 200) (Γ := gm_fraction) T22.F sc_fraction rfl rfl all_nil rfl all_nil (fns_cons (by decide) D20 (fns_cons (by decide) D21 fns_nil)) (all_cons E_NoNumber all_nil) mus_nil rfl ck_fraction
  let D22 : DefX pw w (frag w.params) mg base 2 "fraction" ["top", "bottom"] (spP (frag w.params) ca R_fraction) := ⟨T22.f, T22.fd, K22, T22.m, T22.F.kp, T22.b⟩
  have K23 : FnOk pw w (frag w.params) mg base (CX1 pw w) 3 T23.f T23.fd ["one", "other"] (spP (frag w.params) ca R_minus) := fn_ok (n := 200) (Γ := gm_minus) T23.F sc_minus rfl rfl all_nil rfl all_nil (fns_cons (by decide) D22 fns_nil) all_nil mus_nil rfl ck_minus
  let D23 : DefX pw w (frag w.params) mg base 3 "minus" ["one", "other"] (spP (frag w.params) ca R_minus) := ⟨T23.f, T23.fd, K23, T23.m, T23.F.kp, T23.b⟩
  have K24 : FnOk pw w (frag w.params) mg base (CX1 pw w) 4 T24.f T24.fd ["zone", "values"] (spP (frag w.params) ca R_lies_in) := fn_ok (n := 200) (Γ := gm_lies_in) T24.F sc_lies_in rfl rfl all_nil rfl (all_cons b_enumerate all_nil) (fns_cons (by decide) D19 (fns_cons (by decide) D23 fns_nil)) all_nil mus_nil rfl ck_lies_in
  let D24 : DefX pw w (frag w.params) mg base 4 "lies_in" ["zone", "values"] (spP (frag w.params) ca R_lies_in) := ⟨T24.f, T24.fd, K24, T24.m, T24.F.kp, T24.b⟩
  have K25 : FnOk pw w (frag w.params) mg base (CX1 pw w) 1 T25.f T25.fd ["_law_zone", "_law_many"] (spP (frag w.params) ca R_Lis_zone) := fn_ok (n := 200) (Γ := gm_Lis_zone) T25.F sc_Lis_zone rfl rfl all_nil rfl (all_cons b_isinstance (all_cons b_int (all_cons b_bool (all_cons b_list (all_cons b_len all_nil))))) fns_nil all_nil mus_nil rfl ck_Lis_zone
  let D25 : DefX pw w (frag w.params) mg base 1 "_law_is_zone" ["_law_zone", "_law_many"] (spP (frag w.params) ca R_Lis_zone) := ⟨T25.f, T25.fd, K25, T25.m, T25.F.kp, T25.b⟩
  have K26 : FnOk pw w (frag w.params) mg base (CX1 pw w) 1 T26.f T26.fd ["_law_one", "_law_other"] (spP (frag w.params) ca R_Lwider) := fn_ok (n := 200) (Γ := gm_Lwider) T26.F sc_Lwider rfl rfl all_nil rfl all_nil fns_nil all_nil mus_nil rfl ck_Lwider
  let D26 : DefX pw w (frag w.params) mg base 1 "_law_wider" ["_law_one", "_law_other"] (spP (frag w.params) ca R_Lwider) := ⟨T26.f, T26.fd, K26, T26.m, T26.F.kp, T26.b⟩
  have K27 : FnOk pw w (frag w.params) mg base (CX1 pw w) 1 T27.f T27.fd ["_law_one", "_law_other"] (spP (frag w.params) ca R_Lsum) := fn_ok (n := 200) (Γ := gm_Lsum) T27.F sc_Lsum rfl rfl all_nil rfl all_nil fns_nil all_nil mus_nil rfl ck_Lsum
  let D27 : DefX pw w (frag w.params) mg base 1 "_law_sum" ["_law_one", "_law_other"] (spP (frag w.params) ca R_Lsum) := ⟨T27.f, T27.fd, K27, T27.m, T27.F.kp, T27.b⟩
  have K28 : FnOk pw w (frag w.params) mg base (CX1 pw w) 2 T28.f T28.fd ["_law_found", "_law_zone"] (spP (frag w.params) ca R_Lnarrow) := fn_ok (n := 200) (Γ := gm_Lnarrow) T28.F sc_Lnarrow rfl rfl all_nil rfl (all_cons b_range (all_cons b_len all_nil)) (fns_cons (by decide) D26 (fns_cons (by decide) D27 fns_nil)) all_nil mus_nil rfl ck_Lnarrow
  let D28 : DefX pw w (frag w.params) mg base 2 "_law_narrow" ["_law_found", "_law_zone"] (spP (frag w.params) ca R_Lnarrow) := ⟨T28.f, T28.fd, K28, T28.m, T28.F.kp, T28.b⟩
  have K29 : FnOk pw w (frag w.params) mg base (CX1 pw w) 5 T29.f T29.fd ["_law_script"] (spB (frag w.params) R_law) := fn_okL (ca := ca) (n := 200) (Γ := gm_law) T29.F sc_law rfl rfl all_nil rfl (all_cons b_list (all_cons b_isinstance (all_cons b_bool all_nil))) (fns_cons (by decide) D12 (fns_cons (by decide) D24 (fns_cons (by decide) D15 (fns_cons (by decide) D2 (fns_cons (by decide) D3 (fns_cons (by decide) D13 (fns_cons (by decide) D25 (fns_cons (by decide) D28 (fns_cons (by decide) D6 (fns_cons (by decide) D1 fns_nil)))))))))) all_nil mus_nil rfl ck_law
  exact law_fnL K29 fun ns h => law_true ns h
theorem walk {l : PySem.W.OpenLaw} {q : Program} {loose : List Str} {XP : (Str → Option Value) → Heap → Prop} {YP : World → Heap → Prop} {d : DefRec} {K : Params → PySem.W.Frag} (hn : l.most = some 63) (hdf : d.params.defaults = [])
    (hY : ∀ (w : World) (h : Heap), YP w h → (K w.params).In h)
    (F : ∀ (w : World) (mg : Str → Option Value) (fa : Addr) (h : Heap), (K w.params).In h → h.Ns mainGlobals mg → mg d.name = some (.ref fa) →
      ∃ fd : FuncData, (∀ (s : Shared) (u : Value), BindsTo s fd ⟨[u], []⟩ [("_law_script", u)]) ∧ ∀ base : Heap, (K w.params).In base → base.Ns mainGlobals mg → FnOk l.prog w (K w.params) mg base CX0 5 fa fd ["_law_script"] (spLaw (K w.params))) :
    PySem.W.WalkO q loose XP YP l.row.toRowW d [] (fun f vs => PySem.call f vs) :=
  L2.walk_of (n := 63) (k := 5) (x := "_law_script") (CX := fun _ => CX0) (sp := fun w => spLaw (K w.params)) hn (by decide) hdf ⟨rfl, by decide, by decide⟩ hY F (fun _ _ a ns hl _ hS => ⟨a, ns, rfl, hS, hl, fun _ => rfl⟩) fun _ _ _ _ _ z => z
end Zl
open PySem PySem.W PyProof.Rows
set_option maxRecDepth 100000 in
set_option maxHeartbeats 0 in
theorem PySem.Challenge.cw_zonewalk_k11_narrowest_holds : PySem.Challenge.rw_zonewalk_k11_narrowest.Holds := by
  refine holds_law Zl.said fun s => ?_
  refine holds_open (q := Zl.vq) (loose := Zl.loo) (Xt := Hd.xt PySem.Challenge.rw_zonewalk_k11_narrowest.row.toRowW Zl.vq) (XP := XL Zl.vq []) (Yf := Zl.hk.obs) (Ya := Zl.hk.val) (YP := Zl.hk.says) Zl.left Zl.hk.of Zl.hk.keeps (fun s e => xl_of s (Bool.and_eq_true_iff.mp e).1) XL.keeps (by rfl) (by rfl) (by rfl) (fun s e => recFacts_of (Bool.and_eq_true_iff.mp e).2) (by rfl) s (by decide +kernel) ⟨rfl, rfl, rfl, rfl, rfl, by decide +kernel⟩ ?hw ?hc
  case hw => w_witness2
  case hc => exact Zl.walk (l := PySem.Challenge.rw_zonewalk_k11_narrowest) rfl rfl (fun w h Y => kIn_of Y) fun w mg fa h X G e => Zl.all_mk X G e
