import PyProof.Rows.All
import Wide.All
import OpenK.AllK
import Wide.FinOn
import Lean
import PyProof.EqAt
import PyProof.EqKinds
import PyProof.TupleCall
import PySem.Challenge.RW_zonewalk_k32_totals
set_option Elab.async false
set_option linter.all false
set_option maxRecDepth 100000
/-! THE HAND LAYER, for ints, bools, texts, own classes, LISTS and tuples (index, slices, in, append, pop ..), calls, loops. Paste it whole ahead of your own text; what your proof does not reach may be deleted. -/
namespace L2
open PySem PySem.Spec PyProof.Rows

/-- a key: an int or a str -/
abbrev Key := Sum Int Str
def keyIs : Key → Value → Bool
  | .inl k, v => Value.isInt k v
  | .inr x, v => Value.isStrOf x v
def keyH (w : World) : Key → Int
  | .inl k => hashInt k
  | .inr x => hashStr w x
theorem keyIs_shape : ∀ {k : Key} {v : Value}, keyIs k v = true → (∃ i t, k = Sum.inl i ∧ v = Value.int i t) ∨ (∃ x t, k = Sum.inr x ∧ v = Value.str x t)
  | .inl i, v, h => by
    obtain ⟨t, e⟩ := Value.isInt_shape (k := i) (v := v) h
    exact .inl ⟨i, t, rfl, e⟩
  | .inr x, v, h => by
    obtain ⟨t, e⟩ := Value.isStrOf_shape (x := x) (v := v) h
    exact .inr ⟨x, t, rfl, e⟩
theorem keyIs_int (i : Int) (t : Tok) : keyIs (.inl i) (.int i t) = true := by simp [keyIs, Value.isInt]
theorem keyIs_str (x : Str) (t : Tok) : keyIs (.inr x) (.str x t) = true := by simp [keyIs, Value.isStrOf]
theorem key_ll (a b : Int) : decide ((Sum.inl a : Key) = Sum.inl b) = (a == b) := by
  by_cases e : a = b
  · subst e; simp
  · have h : ¬ (Sum.inl a : Key) = Sum.inl b := fun q => e (Sum.inl.inj q)
    rw [decide_eq_false h]
    exact (beq_eq_false_iff_ne.mpr e).symm
theorem key_rr (a b : Str) : decide ((Sum.inr a : Key) = Sum.inr b) = decide (a = b) := by
  by_cases e : a = b
  · subst e; simp
  · have h : ¬ (Sum.inr a : Key) = Sum.inr b := fun q => e (Sum.inr.inj q)
    rw [decide_eq_false h, decide_eq_false e]
theorem key_lr (a : Int) (b : Str) : decide ((Sum.inl a : Key) = Sum.inr b) = false := decide_eq_false (fun q => nomatch q)
theorem key_rl (a : Str) (b : Int) : decide ((Sum.inr a : Key) = Sum.inl b) = false := decide_eq_false (fun q => nomatch q)

def mixKind (prog : Program) (w : World) : PySem.KeyKind prog w Key where
  is := keyIs
  hash := keyH w
  inj := fun v a b ha hb => by
    rcases keyIs_shape ha with ⟨i, t, rfl, rfl⟩ | ⟨x, t, rfl, rfl⟩
    · rcases keyIs_shape hb with ⟨j, u, rfl, e⟩ | ⟨y, u, rfl, e⟩
      · injection e with e1 _; rw [e1]
      · exact nomatch e
    · rcases keyIs_shape hb with ⟨j, u, rfl, e⟩ | ⟨y, u, rfl, e⟩
      · exact nomatch e
      · injection e with e1 _; rw [e1]
  byValue := fun k v h => by
    rcases keyIs_shape h with ⟨i, t, rfl, rfl⟩ | ⟨x, t, rfl, rfl⟩ <;> rfl
  pyHash := fun hv h => by
    rcases keyIs_shape hv with ⟨i, t, rfl, rfl⟩ | ⟨x, t, rfl, rfl⟩
    · exact wpAny_pyHash_int h
    · exact wpAny_pyHash_str h
  eqBool := fun hu hv h => by
    rcases keyIs_shape hu with ⟨i, t, rfl, rfl⟩ | ⟨x, t, rfl, rfl⟩
    · rcases keyIs_shape hv with ⟨j, u, rfl, rfl⟩ | ⟨y, u, rfl, rfl⟩
      · rw [key_ll] at h; exact wpAny_eqBool_int h
      · rw [key_lr] at h; exact SeqAt.EqAt.int_str i t y u _ _ _ _ h
    · rcases keyIs_shape hv with ⟨j, u, rfl, rfl⟩ | ⟨y, u, rfl, rfl⟩
      · rw [key_rl] at h; exact SeqAt.EqAt.str_int x t j u _ _ _ _ h
      · rw [key_rr] at h; exact wpAny_eqBool_str h
  «strs» := fun k x t v h => by
    rcases keyIs_shape h with ⟨i, u, rfl, e⟩ | ⟨y, u, rfl, e⟩
    · exact nomatch e
    · injection e with e1 _
      subst e1
      cases v <;> rfl

theorem mixKind_is (prog : Program) (w : World) (k : Key) (v : Value) : (mixKind prog w).is k v = keyIs k v := rfl
theorem mixKind_int (prog : Program) (w : World) (i : Int) (t : Tok) : (mixKind prog w).is (.inl i) (.int i t) = true := keyIs_int i t
theorem mixKind_str (prog : Program) (w : World) (x : Str) (t : Tok) : (mixKind prog w).is (.inr x) (.str x t) = true := keyIs_str x t
end L2

namespace L2
open PySem PySem.Spec PyProof.Rows

/-- a value, without the heap -/
inductive V where
  | non | bl (b : Bool) | int (i : Int) | str (x : Str) | byt (b : Array UInt8) | flt (b : UInt64) | ref (a : Addr) | ty (n : String)
  deriving DecidableEq

def RelV : V → Value → Prop
  | .non, u => u = Value.none
  | .bl b, u => u = Value.bool b
  | .int i, u => ∃ t, u = Value.int i t
  | .str x, u => ∃ t, u = Value.str x t
  | .byt b, u => ∃ t, u = Value.bytes b t
  | .flt b, u => ∃ t, u = Value.float b t
  | .ref a, u => u = Value.ref a
  | .ty n, u => u = Value.type n

abbrev Vals : List V → List Value → Prop := Paired RelV
theorem Vals.length {xs : List V} {us : List Value} (r : Vals xs us) : xs.length = us.length := Paired.length r
theorem Vals.get : ∀ {xs : List V} {us : List Value} {i : Nat} {x : V}, Vals xs us → xs[i]? = some x → ∃ u, us[i]? = some u ∧ RelV x u
  | _, _, _, _, .nil, e => by simp at e
  | _, _, 0, _, .cons r _, e => by simp at e; subst e; exact ⟨_, rfl, r⟩
  | _, _, i + 1, x, .cons _ t, e => by
    obtain ⟨u, h1, h2⟩ := Vals.get (i := i) (x := x) t (by simpa using e)
    exact ⟨u, by simpa using h1, h2⟩
theorem Vals.set {x : V} {u : Value} (r : RelV x u) : ∀ {xs : List V} {us : List Value} (i : Nat), Vals xs us → Vals (xs.set i x) (us.set i u)
  | _, _, _, .nil => .nil
  | _, _, 0, .cons _ t => .cons r t
  | _, _, i + 1, .cons q t => .cons q (Vals.set r i t)
theorem Vals.append : ∀ {xs ys : List V} {us ws : List Value}, Vals xs us → Vals ys ws → Vals (xs ++ ys) (us ++ ws)
  | _, _, _, _, .nil, s => s
  | _, _, _, _, .cons r t, s => .cons r (Vals.append t s)
theorem Vals.take : ∀ {xs : List V} {us : List Value} (n : Nat), Vals xs us → Vals (xs.take n) (us.take n)
  | _, _, 0, _ => .nil
  | _, _, _ + 1, .nil => .nil
  | _, _, n + 1, .cons r t => .cons r (Vals.take n t)
theorem Vals.drop : ∀ {xs : List V} {us : List Value} (n : Nat), Vals xs us → Vals (xs.drop n) (us.drop n)
  | _, _, 0, r => r
  | _, _, _ + 1, .nil => .nil
  | _, _, n + 1, .cons _ t => Vals.drop n t
theorem Vals.none_of : ∀ {xs : List V} {us : List Value} {i : Nat}, Vals xs us → xs[i]? = none → us[i]? = none := fun {xs us i} r e => by
  have h1 := r.length
  have h2 : xs.length ≤ i := List.getElem?_eq_none_iff.mp e
  exact List.getElem?_eq_none_iff.mpr (by omega)

def RelO : Option V → Option Value → Prop
  | some v, some u => RelV v u
  | none, none => True
  | _, _ => False
def KV {κ : Type} : List (κ × V) → List (κ × Value) → Prop := Paired fun (p : κ × V) (q : κ × Value) => p.1 = q.1 ∧ RelV p.2 q.2

/-- a key of a dict (00_mix): an int or a text -/
def kV : Key → V
  | .inl i => .int i
  | .inr x => .str x

/-- what stands at a tracked address -/
inductive HO where
  /-- a list -/
  | lst (xs : List V)
  /-- a tuple (never changes) -/
  | tup (xs : List V)
  /-- a dict whose keys are ints and texts; one whose keys are tuples of ints and texts (the empty one is both) -/
  | dK (kvs : List (Key × V)) | dT (kvs : List (List Key × V))
  /-- a set of ints: its members, its size -/
  | set (S : Int → Bool) (n : Nat)
  /-- an instance of the class at C, its dict at dx, its attributes -/
  | ins (C dx : Addr) (fs : List (Str × V))
  /-- the dict of the instance at x -/
  | own (x : Addr)
  /-- the dict of an exception -/
  | xd (fs : List (Str × V))
  /-- a bound method, f of x -/
  | met (f x : Addr)
  /-- a range object lo, lo + 1, .. below hi -/
  | rng (lo hi : Int)
  /-- a thing that is known to the object (the script; a dict while a loop walks it): read, never written while it is so -/
  | frz (o : Obj) (u : HO)
  /-- a code object's table -/
  | tbl (ps : Array Value)
  /-- any other thing, by what is true of its one object (a def of one's own: SetO a S n := HO.ext fun h => ..) -/
  | ext (φ : Heap → Prop)

abbrev Hp := Addr → Option HO
def upd (H : Hp) (a : Addr) (o : HO) : Hp := fun b => if b = a then some o else H b
theorem upd_same {H : Hp} {a : Addr} {o : HO} : upd H a o a = some o := by unfold upd; rw [if_pos rfl]
theorem upd_ne {H : Hp} {a b : Addr} {o : HO} (h : b ≠ a) : upd H a o b = H b := by unfold upd; rw [if_neg h]
theorem upd_upd {H : Hp} {a : Addr} {o u : HO} : upd (upd H a o) a u = upd H a u := by
  funext b; unfold upd; split <;> rfl
/-- two objects of different content stand apart -/
theorem ne_of {H : Hp} {a b : Addr} {o u : HO} (h : H a = some o) (h' : H b = some u) (d : o ≠ u) : a ≠ b := by
  intro e; subst e; rw [h] at h'; exact d (Option.some.inj h')
theorem ne_of_none {H : Hp} {a b : Addr} {o : HO} (h : H a = some o) (h' : H b = none) : a ≠ b := by
  intro e; subst e; rw [h] at h'; cases h'

section
variable (P : Program) (w : World)
def ObjOk (H : Hp) (h : Heap) (a : Addr) : HO → Prop
  | .lst xs => xs.length ≤ sizeLine ∧ ∃ (its : List Value) (n : Nat), Vals xs its ∧ h.get? a = some { cls := .type "list", data := .seq its.toArray n }
  | .tup xs => xs.length ≤ sizeLine ∧ ∃ its : List Value, Vals xs its ∧ IsTup h a its.toArray
  | .dK kvs => kvs.length ≤ sizeLine ∧ (a == sysModules) = false ∧ ∃ vs, KV kvs vs ∧ h.DictOf (mixKind P w) a vs
  | .dT kvs => kvs.length ≤ sizeLine ∧ (a == sysModules) = false ∧ ∃ xs : List (List Key × Addr × Value),
      Paired (fun (p : List Key × V) (q : List Key × Addr × Value) => p.1 = q.1 ∧ H q.2.1 = some (.tup (p.1.map kV)) ∧ RelV p.2 q.2.2) kvs xs ∧
      ∃ o es ep, h.get? a = some o ∧ o.ExactDict ∧ o.data = .dict es ep ∧ es.toList = xs.map (entryOfKey (tupleKind (mixKind P w))) ∧ (xs.map (·.1)).Nodup
  | .set S n => h.SetOf (intKind P w) a S n
  | .ins C dx fs => H dx = some (.own a) ∧ fs.length ≤ 1000 ∧ dx ≠ a ∧ h.get? a = some (PySem.W.instObj C dx) ∧
      ∃ mA, h.Ns1 dx mA ∧ (∀ f, RelO (fs.lookup f) (mA f)) ∧ PySem.Within mA (fs.map (·.1))
  | .own _ => ∃ o, h.get? a = some o
  | .xd fs => ∃ mA, h.Ns1 a mA ∧ ∀ f, RelO (fs.lookup f) (mA f)
  | .rng lo hi => ∃ t u v, h.get? a = some { cls := .type "range", data := .fields #[.int lo t, .int hi u, .int 1 v] }
  | .frz o u => h.get? a = some o ∧ ObjOk H h a u
  | .tbl ps => h.get? a = some { cls := .none, data := .fields ps }
  | .met f x => h.get? a = some (PySem.W.methodObj (.ref f) (.ref x))
  | .ext φ => φ h ∧ (∃ o, h.get? a = some o) ∧ ∀ h1 h2 : Heap, φ h1 → (∀ o, h1.get? a = some o → h2.get? a = some o) → φ h2
/-- the abstract heap is held -/
def HOk (H : Hp) (h : Heap) : Prop := ∀ a o, H a = some o → ObjOk P w H h a o
end

section
variable {P : Program} {w : World} {H H' : Hp} {h h' : Heap} {a : Addr} {o : HO}
theorem ObjOk.lt (x : ObjOk P w H h a o) : a < h.objs.size := by
  cases o with
  | lst xs => obtain ⟨_, _, _, _, e⟩ := x; exact Heap.lt_size e
  | tup xs => obtain ⟨_, _, _, p⟩ := x; exact p.lt
  | dK kvs => obtain ⟨_, _, _, _, o, _, _, e, _⟩ := x; exact Heap.lt_size e
  | dT kvs => obtain ⟨_, _, _, _, o, _, _, e, _⟩ := x; exact Heap.lt_size e
  | set S n => obtain ⟨o, _, _, _, e, _⟩ := x; exact Heap.lt_size e
  | ins C dx fs => obtain ⟨_, _, _, e, _⟩ := x; exact Heap.lt_size e
  | own y => obtain ⟨_, e⟩ := x; exact Heap.lt_size e
  | xd fs => obtain ⟨_, ⟨_, _, _, e, _⟩, _⟩ := x; exact Heap.lt_size e
  | rng lo hi => obtain ⟨_, _, _, e⟩ := x; exact Heap.lt_size e
  | frz ob u => obtain ⟨e, _⟩ := x; exact Heap.lt_size e
  | tbl ps => exact Heap.lt_size (show h.get? a = some _ from x)
  | met f y => exact Heap.lt_size (show h.get? a = some _ from x)
  | ext φ => obtain ⟨_, ⟨_, e⟩, _⟩ := x; exact Heap.lt_size e
theorem Paired.mapP {α β : Type} {F G : α → β → Prop} : ∀ {l₁ : List α} {l₂ : List β}, Paired F l₁ l₂ → (∀ a b, F a b → G a b) → Paired G l₁ l₂
  | _, _, .nil, _ => .nil
  | _, _, .cons r t, f => .cons (f _ _ r) (Paired.mapP t f)
theorem Paired.imp' {α β : Type} {F G : α → β → Prop} (f : ∀ a b, F a b → G a b) {l₁ : List α} {l₂ : List β} (r : Paired F l₁ l₂) : Paired G l₁ l₂ := Paired.mapP r f
/-- what an object's description leans on: its own object, its own dict, the tuples -/
theorem ObjOk.stay (x : ObjOk P w H h a o) (k : ∀ b u, (b = a ∨ H b = some (.own a)) → h.get? b = some u → h'.get? b = some u)
    (ho : ∀ b, H b = some (.own a) → H' b = some (.own a)) (ht : ∀ b xs, H b = some (.tup xs) → H' b = some (.tup xs)) : ObjOk P w H' h' a o := by
  induction o with
  | lst xs => obtain ⟨z, its, n, r, e⟩ := x; exact ⟨z, its, n, r, k _ _ (.inl rfl) e⟩
  | tup xs => obtain ⟨z, its, r, ob, e, c⟩ := x; exact ⟨z, its, r, ob, k _ _ (.inl rfl) e, c⟩
  | dK kvs => obtain ⟨z, y, vs, r, ob, es, ep, e, c⟩ := x; exact ⟨z, y, vs, r, ob, es, ep, k _ _ (.inl rfl) e, c⟩
  | dT kvs =>
    obtain ⟨z, y, xs, r, ob, es, ep, e, c⟩ := x
    exact ⟨z, y, xs, Paired.mapP r fun p q z => ⟨z.1, ht _ _ z.2.1, z.2.2⟩, ob, es, ep, k _ _ (.inl rfl) e, c⟩
  | set S n => obtain ⟨ob, es, ep, t, e, c⟩ := x; exact ⟨ob, es, ep, t, k _ _ (.inl rfl) e, c⟩
  | ins C dx fs =>
    obtain ⟨d, z, ne, e, mA, ⟨od, es, ep, e2, c⟩, r⟩ := x
    exact ⟨ho _ d, z, ne, k _ _ (.inl rfl) e, mA, ⟨od, es, ep, k _ _ (.inr d) e2, c⟩, r⟩
  | own y => obtain ⟨ob, e⟩ := x; exact ⟨ob, k _ _ (.inl rfl) e⟩
  | xd fs => obtain ⟨mA, ⟨od, es, ep, e, c⟩, r⟩ := x; exact ⟨mA, ⟨od, es, ep, k _ _ (.inl rfl) e, c⟩, r⟩
  | rng lo hi => obtain ⟨t, u, v, e⟩ := x; exact ⟨t, u, v, k _ _ (.inl rfl) e⟩
  | frz ob u ih => obtain ⟨e, q⟩ := x; exact ⟨k _ _ (.inl rfl) e, ih q⟩
  | tbl ps =>
    have e : h.get? a = some { cls := .none, data := .fields ps } := x
    show h'.get? a = some { cls := .none, data := .fields ps }
    exact k a _ (.inl rfl) e
  | met f y =>
    have e : h.get? a = some (PySem.W.methodObj (.ref f) (.ref y)) := x
    show h'.get? a = some (PySem.W.methodObj (.ref f) (.ref y))
    exact k a _ (.inl rfl) e
  | ext φ => obtain ⟨p, ⟨o, e⟩, st⟩ := x; exact ⟨st _ _ p fun o q => k _ _ (.inl rfl) q, ⟨o, k _ _ (.inl rfl) e⟩, st⟩
theorem HOk.lt (x : HOk P w H h) (e : H a = some o) : a < h.objs.size := (x a o e).lt
theorem HOk.fresh (x : HOk P w H h) (e : h.objs.size ≤ a) : H a = none := by
  cases q : H a with
  | none => rfl
  | some u => exact absurd (Nat.lt_of_lt_of_le (x.lt q) e) (Nat.lt_irrefl _)
/-- every object of the heap is kept -/
theorem HOk.kept (x : HOk P w H h) (k : ∀ b u, h.get? b = some u → h'.get? b = some u) : HOk P w H h' := fun a o e =>
  (x a o e).stay (fun b u _ q => k b u q) (fun _ q => q) fun _ _ q => q
/-- a new object is laid and tracked -/
theorem HOk.laid (x : HOk P w H h) (k : ∀ b u, h.get? b = some u → h'.get? b = some u) (hp : h.objs.size ≤ a) (new : ObjOk P w (upd H a o) h' a o) : HOk P w (upd H a o) h' := fun b u e => by
  have hn := x.fresh hp
  by_cases hb : b = a
  · subst hb; rw [upd_same] at e; cases e; exact new
  · rw [upd_ne hb] at e
    exact (x b u e).stay (fun c v _ q => k c v q) (fun c q => by rw [upd_ne (ne_of_none q hn)]; exact q) fun c xs q => by rw [upd_ne (ne_of_none q hn)]; exact q
end

/-- what may be read as u: it is u, or a known u -/
def Rd (H : Hp) (a : Addr) (u : HO) : Prop := H a = some u ∨ ∃ o, H a = some (.frz o u)
theorem Rd.of {H : Hp} {a : Addr} {u : HO} (h : H a = some u) : Rd H a u := .inl h
theorem Rd.ok {P : Program} {w : World} {H : Hp} {h : Heap} {a : Addr} {u : HO} (r : Rd H a u) (x : HOk P w H h) : ObjOk P w H h a u := by
  rcases r with r | ⟨o, r⟩
  · exact x a u r
  · obtain ⟨_, q⟩ := x a _ r
    exact q
/-- what may be written -/
def Mut : Option HO → Prop
  | some (.lst _) => True
  | some (.dK _) => True
  | some (.dT _) => True
  | some (.set _ _) => True
  | some (.ins _ _ _) => True
  | some (.ext _) => True
  | _ => False
section
variable {P : Program} {w : World} {H : Hp} {h h' : Heap} {x e : Addr} {o' : HO}
/-- the object at e is changed: x itself, or the dict of the instance x -/
theorem HOk.write (ok : HOk P w H h) (mu : Mut (H x)) (he : e = x ∨ H e = some (.own x)) (k : ∀ b u, b ≠ e → h.get? b = some u → h'.get? b = some u) (heo : ∃ u, h'.get? e = some u)
    (new : ObjOk P w (upd H x o') h' x o') : HOk P w (upd H x o') h' := fun b u q => by
  have nown : ∀ c y, H c = some (.own y) → c ≠ x := fun c y r z => by subst z; rw [r] at mu; exact mu
  have ntup : ∀ c xs, H c = some (.tup xs) → c ≠ x := fun c xs r z => by subst z; rw [r] at mu; exact mu
  by_cases hb : b = x
  · subst hb; rw [upd_same] at q; cases q; exact new
  · rw [upd_ne hb] at q
    by_cases hbe : b = e
    · have q' : H b = some (.own x) := by
        rcases he with z | z
        · exact absurd (hbe.trans z) hb
        · rw [hbe]; exact z
      rw [q] at q'; cases q'
      obtain ⟨v, hv⟩ := heo
      exact ⟨v, by rw [hbe]; exact hv⟩
    · refine (ok b u q).stay (fun c v hc r => k c v ?_ r) (fun c r => by rw [upd_ne (nown c b r)]; exact r) fun c xs r => by rw [upd_ne (ntup c xs r)]; exact r
      rcases hc with rfl | hc
      · exact hbe
      · rintro rfl
        rcases he with z | z
        · exact nown c b hc z
        · rw [hc] at z; cases z; exact hb rfl
end

/-! ### kept unless tracked; of the frames at fs (the callers') the slots may change (an exception that passes writes there); of the records at ex (iterators) nothing is said -/
structure Un (fs ex : List Addr) (H H' : Hp) (h h' : Heap) : Prop where
  keep : ∀ b o, h.get? b = some o → H b = none → b ∉ fs → b ∉ ex → h'.get? b = some o
  slot : ∀ b o, h.get? b = some o → H b = none → b ∈ fs → b ∉ ex → ∃ sl, h'.get? b = some { o with slots := sl }
  free : ∀ b o, h.get? b = some o → H b = none → b ∉ ex → H' b = none
  there : ∀ b o, h.get? b = some o → b ∉ ex → ∃ o', h'.get? b = some o'
  tups : ∀ b xs, H b = some (.tup xs) → H' b = some (.tup xs)
  frzs : ∀ b o u, H b = some (.frz o u) → H' b = some (.frz o u)
  tbls : ∀ b ps, H b = some (.tbl ps) → ∃ more, H' b = some (.tbl (ps ++ more))
section
variable {fs fs' ex ex' : List Addr} {H H1 H2 : Hp} {h h1 h2 h' : Heap} {a x e : Addr} {o : HO}
theorem Un.any (u : Un fs ex H H1 h h1) {b : Addr} {ob : Obj} (q : h.get? b = some ob) (n : H b = none) (hx : b ∉ ex) : ∃ sl, h1.get? b = some { ob with slots := sl } := by
  by_cases hb : b ∈ fs
  · exact u.slot b ob q n hb hx
  · exact ⟨ob.slots, u.keep b ob q n hb hx⟩
theorem Un.trans (a : Un fs ex H H1 h h1) (b : Un fs ex H1 H2 h1 h2) : Un fs ex H H2 h h2 where
  keep := fun c ob q n hc hx => b.keep c ob (a.keep c ob q n hc hx) (a.free c ob q n hx) hc hx
  slot := fun c ob q n hc hx => by
    obtain ⟨sl, e1⟩ := a.slot c ob q n hc hx
    obtain ⟨sl', e2⟩ := b.slot c _ e1 (a.free c ob q n hx) hc hx
    exact ⟨sl', e2⟩
  free := fun c ob q n hx => by
    obtain ⟨o', e1⟩ := a.there c ob q hx
    exact b.free c o' e1 (a.free c ob q n hx) hx
  there := fun c ob q hx => by
    obtain ⟨o', e1⟩ := a.there c ob q hx
    exact b.there c o' e1 hx
  tups := fun c xs q => b.tups c xs (a.tups c xs q)
  frzs := fun c ob xs q => b.frzs c ob xs (a.frzs c ob xs q)
  tbls := fun c ps q => by
    obtain ⟨m1, e1⟩ := a.tbls c ps q
    obtain ⟨m2, e2⟩ := b.tbls c _ e1
    exact ⟨m1 ++ m2, by rw [e2, Array.append_assoc]⟩
theorem Un.kept (k : ∀ b u, h.get? b = some u → h'.get? b = some u) : Un fs ex H H h h' :=
  ⟨fun b ob q _ _ _ => k b ob q, fun b ob q _ _ _ => ⟨ob.slots, k b ob q⟩, fun _ _ _ n _ => n, fun b ob q _ => ⟨ob, k b ob q⟩, fun _ _ q => q, fun _ _ _ q => q, fun _ ps q => ⟨#[], by rw [q]; simp⟩⟩
theorem Un.refl : Un fs ex H H h h := Un.kept fun _ _ q => q
theorem Un.laid (k : ∀ b u, h.get? b = some u → h'.get? b = some u) (hp : h.objs.size ≤ a) (hn : H a = none) : Un fs ex H (upd H a o) h h' where
  keep := fun b u q _ _ _ => k b u q
  slot := fun b u q _ _ _ => ⟨u.slots, k b u q⟩
  free := fun b u q n _ => by rw [upd_ne (Nat.ne_of_lt (Nat.lt_of_lt_of_le (Heap.lt_size q) hp))]; exact n
  there := fun b u q _ => ⟨u, k b u q⟩
  tups := fun b xs q => by rw [upd_ne (ne_of_none q hn)]; exact q
  frzs := fun b u xs q => by rw [upd_ne (ne_of_none q hn)]; exact q
  tbls := fun b ps q => ⟨#[], by rw [upd_ne (ne_of_none q hn), q]; simp⟩
theorem Un.write (mu : Mut (H x)) (he : e = x ∨ H e = some (.own x)) (k : ∀ b u, b ≠ e → h.get? b = some u → h'.get? b = some u) (heo : ∃ u, h'.get? e = some u) : Un fs ex H (upd H x o) h h' := by
  have hx : ∀ b, H b = none → b ≠ x := fun b n z => by subst z; rw [n] at mu; exact mu
  have hb : ∀ b, H b = none → b ≠ e := fun b n z => by
    subst z
    rcases he with r | r
    · exact hx b n r
    · rw [n] at r; cases r
  have hm : ∀ b u, H b = some u → ¬ Mut (some u) → b ≠ x := fun b u q nm z => by subst z; rw [q] at mu; exact nm mu
  refine ⟨fun b u q n _ _ => k b u (hb b n) q, fun b u q n _ _ => ⟨u.slots, k b u (hb b n) q⟩, fun b u q n _ => by rw [upd_ne (hx b n)]; exact n, fun b u q _ => ?_,
    fun b xs q => by rw [upd_ne (hm b _ q fun z => z)]; exact q, fun b u xs q => by rw [upd_ne (hm b _ q fun z => z)]; exact q, fun b ps q => ⟨#[], by rw [upd_ne (hm b _ q fun z => z), q]; simp⟩⟩
  by_cases hbe : b = e
  · subst hbe; exact heo
  · exact ⟨u, k b u hbe q⟩
theorem Un.mono (u : Un fs ex H H1 h h1) (hs : ∀ b ∈ fs, b ∈ fs') (hx : ∀ b ∈ ex, b ∈ ex') : Un fs' ex' H H1 h h1 :=
  ⟨fun b ob q n hb he => u.keep b ob q n (fun z => hb (hs b z)) fun z => he (hx b z), fun _ _ q n _ he => u.any q n fun z => he (hx _ z), fun b ob q n he => u.free b ob q n fun z => he (hx b z), fun b ob q he => u.there b ob q fun z => he (hx b z), u.tups, u.frzs, u.tbls⟩
end

/-! ### the heap without what is tracked -/
def trk (h : Heap) (H : Hp) : List Addr := (List.range h.objs.size).filter fun a => (H a).isSome
def hidT (h : Heap) (H : Hp) : Heap := PySem.W.hideAll h (trk h H)
theorem hidT_size (h : Heap) (H : Hp) : (hidT h H).objs.size = h.objs.size := PySem.W.hideAll_size _ _
theorem hidT_get {h : Heap} {H : Hp} {b : Addr} {o : Obj} (e : h.get? b = some o) (n : H b = none) : (hidT h H).get? b = some o :=
  PySem.W.hideAll_get _ e fun hm => by
    have q : (H b).isSome = true := (List.mem_filter.mp hm).2
    rw [n] at q; simp at q
theorem of_hidT {h : Heap} {H : Hp} {b : Addr} {o : Obj} (e : (hidT h H).get? b = some o) : h.get? b = some o ∧ H b = none := by
  have e' : h.get? b = some o := PySem.W.of_hideAll (trk h H) e
  refine ⟨e', ?_⟩
  cases q : H b with
  | none => rfl
  | some x =>
    have hm : b ∈ trk h H := List.mem_filter.mpr ⟨List.mem_range.mpr (Heap.lt_size e'), by simp [q]⟩
    have z : (hidT h H).get? b = none := PySem.W.hideAll_none (trk h H) hm
    rw [z] at e; cases e

/-! ### OpenK's ledger, filled with every new object but one -/
def allNews (g h : Heap) (L : Addr) : List (Addr × Obj) := (List.range h.objs.size).filterMap fun a => if a = L ∨ (g.get? a).isSome = true then none else (h.get? a).map fun o => (a, o)
theorem mem_allNews {g h : Heap} {L a : Addr} {o : Obj} (h1 : a ≠ L) (h2 : g.get? a = none) (h3 : h.get? a = some o) : (a, o) ∈ allNews g h L :=
  List.mem_filterMap.mpr ⟨a, List.mem_range.mpr (Heap.lt_size h3), by simp [h1, h2, h3]⟩
theorem of_mem_allNews {g h : Heap} {L : Addr} {p : Addr × Obj} (hp : p ∈ allNews g h L) : p.1 ≠ L ∧ g.get? p.1 = none ∧ h.get? p.1 = some p.2 := by
  obtain ⟨b, _, e⟩ := List.mem_filterMap.mp hp
  split at e
  · cases e
  · rename_i hn
    cases q : h.get? b with
    | none => rw [q] at e; simp at e
    | some u =>
      rw [q] at e
      simp only [Option.map_some, Option.some.injEq] at e
      subst e
      refine ⟨fun z => hn (.inl z), ?_, q⟩
      show g.get? b = none
      cases r : g.get? b with
      | none => rfl
      | some v => exact (hn (.inr (by simp [r]))).elim
def rest (g h : Heap) (L d : Addr) : List (Addr × Obj) := (allNews g h L).filter fun p => decide (p.1 ≠ d)
theorem rest_ne {g h : Heap} {L d : Addr} : ∀ p ∈ rest g h L d, p.1 ≠ d := fun p hp => of_decide_eq_true (List.mem_filter.mp hp).2
theorem mem_rest {g h : Heap} {L d a : Addr} {o : Obj} (h1 : a ≠ L) (h2 : g.get? a = none) (h3 : h.get? a = some o) (h4 : a ≠ d) : (a, o) ∈ rest g h L d :=
  List.mem_filter.mpr ⟨mem_allNews h1 h2 h3, decide_eq_true h4⟩
theorem news_all {g h : Heap} {L : Addr} : News g L h (allNews g h L) := fun p hp => let ⟨a, b, c⟩ := of_mem_allNews hp; ⟨c, a, b⟩
theorem news_at {g h : Heap} {L d : Addr} {o : Obj} (h1 : d ≠ L) (h2 : g.get? d = none) (h3 : h.get? d = some o) : News g L h ((d, o) :: rest g h L d) := fun p hp => by
  rcases List.mem_cons.mp hp with rfl | hp
  · exact ⟨h3, h1, h2⟩
  · exact news_all p (List.mem_filter.mp hp).1
/-- behind a rule that changed d alone: all else but the frame is kept -/
theorem kept_of_news {g h h' : Heap} {L d : Addr} {m : Str → Option Value} (k : ∀ b o, g.get? b = some o → h.get? b = some o) (F : Fr g L h' m) (N : News g L h' (rest g h L d)) :
    ∀ b o, b ≠ L → b ≠ d → h.get? b = some o → h'.get? b = some o := fun b o h1 h2 e => by
  cases q : g.get? b with
  | some u =>
    have := k b u q
    rw [e] at this; cases this
    exact F.keep b _ q
  | none => exact (N (b, o) (mem_rest h1 q e h2)).1
end L2

namespace L2
open PySem PySem.Spec PyProof.Rows

/-- the module's facts, over the base: the heap at the law's entry without what is tracked there -/
structure Mod (K : PySem.W.Frag) (mg : Str → Option Value) (base : Heap) : Prop where
  kin : K.In base
  glob : base.Ns mainGlobals mg
  blt : ∃ mb, base.Ns builtinsNs mb ∧ ∀ x : Str, x ≠ "__name__" → mb x = bootBuiltins x
  nolimit : base.NoLimit

/-- the context: a def's body (or a comprehension's block) running. base: fixed through the whole law; s₀, H₀: the entry; outer: the frames whose slots others may change (a def's callers); stack: all frames that run;
   ex: iterators that were made ahead of the entry and are walked here (a comprehension's); fn: the names whose cells were made at the entry (a def: all; a comprehension's block: its own); calm: not within an except suite; pn: pins that every state bears; xe: what is wanted of an exception that leaves the code -/
structure Cx where
  prog : Program
  w : World
  K : PySem.W.Frag
  mg : Str → Option Value
  base : Heap
  A : Around
  N : List Str
  s₀ : Shared
  H₀ : Hp
  env : Env
  outer : List Env
  stack : List Env
  ex : List Addr
  fn : Str → Bool
  calm : Bool
  pn : List (Addr × Obj)
  xe : Value → Shared → Prop
/-- the callers' frames -/
def frs (l : List Env) : List Addr := l.filterMap (·.frame)
abbrev Cx.fs (X : Cx) : List Addr := frs X.outer

def Vis (sc : Scope) (x : Str) : Prop := sc.names.lookup x = some .local ∨ sc.names.lookup x = some .cell ∨ sc.names.lookup x = some .free
def Loc (sc : Scope) (x : Str) : Prop := sc.names.lookup x = some .local ∨ sc.names.lookup x = some .cell
def Look (env : Env) (h : Heap) (m : Str → Option Value) (x : Str) (u : Value) : Prop :=
  (env.kindOf x = some .local ∧ m x = some u) ∨ ((env.kindOf x = some .cell ∨ env.kindOf x = some .free) ∧ ∃ c, env.cells.lookup x = some c ∧ h.IsCell c (some u))

structure Cx.Ok (X : Cx) : Prop where
  mod : Mod X.K X.mg X.base
  kind : X.env.scope.kind = .function
  glob : X.env.globals = mainGlobals
  blt : X.env.builtins = builtinsNs
  above : X.s₀.heap.objs.size ≤ X.env.locals
  inj : ∀ x y c, X.env.cells.lookup x = some c → X.env.cells.lookup y = some c → x = y
  has : ∀ x, (X.env.kindOf x = some .cell ∨ X.env.kindOf x = some .free) → ∃ c, X.env.cells.lookup x = some c
  cab : ∀ x c, X.fn x = true → X.env.cells.lookup x = some c → X.s₀.heap.objs.size ≤ c
  hd : X.calm = true → X.A.handled = none
  frames : X.A.frames = some X.stack
  stk : X.stack = X.outer ∨ (X.stack = X.env :: X.outer ∧ X.env.frame = some X.env.locals)
  exf : ∀ b ∈ X.ex, b ≠ X.env.locals ∧ ∀ x c, X.env.cells.lookup x = some c → c ≠ b
  bs : ∀ b o, X.base.get? b = some o → X.s₀.heap.get? b = some o ∧ X.H₀ b = none
  bsz : X.base.objs.size ≤ X.s₀.heap.objs.size
  noex : ∀ b o, X.base.get? b = some o → b ∉ X.ex
  exfs : ∀ b ∈ X.ex, b ∉ X.fs
  funs : X.s₀.heap.FunFrames X.base X.outer
  frf : ∀ b ∈ X.fs, X.H₀ b = none

structure Inv (X : Cx) (pins : List (Addr × Obj)) (σ : List (Option V)) (H : Hp) (s : Shared) : Prop where
  ok : X.Ok
  os : s.os = X.s₀.os
  bare : AllBare s.gens
  base : Un X.fs X.ex X.H₀ H X.s₀.heap s.heap
  loc : ∃ m, s.heap.Ns X.env.locals m ∧ ∀ (i : Nat) (x : Str) (v : V), X.N[i]? = some x → σ[i]? = some (some v) → Vis X.env.scope x → ∃ u, RelV v u ∧ Look X.env s.heap m x u
  cell : ∀ x c, X.env.cells.lookup x = some c → ∃ v, s.heap.IsCell c v
  free : H X.env.locals = none
  freeC : ∀ x c, X.env.cells.lookup x = some c → H c = none
  pin : ∀ p ∈ X.pn ++ pins, s.heap.get? p.1 = some p.2 ∧ H p.1 = none ∧ p.1 ≠ X.env.locals ∧ p.1 ∉ X.fs ∧ ∀ v, p.2.data ≠ .cell v
  hok : HOk X.prog X.w H s.heap
  len : σ.length = X.N.length

section
variable {X : Cx} {pins : List (Addr × Obj)} {σ : List (Option V)} {H H' : Hp} {s : Shared} {h' : Heap}

theorem Cx.Ok.nofr (ok : X.Ok) {b : Addr} {o : Obj} (e : X.base.get? b = some o) : b ∉ X.fs := fun hb => by
  have := (ok.funs.mem hb).1
  rw [e] at this; cases this
theorem Inv.bs (I : Inv X pins σ H s) : ∀ b o, X.base.get? b = some o → s.heap.get? b = some o ∧ H b = none := fun b o e =>
  ⟨I.base.keep b o (I.ok.bs b o e).1 (I.ok.bs b o e).2 (I.ok.nofr e) (I.ok.noex b o e), I.base.free b o (I.ok.bs b o e).1 (I.ok.bs b o e).2 (I.ok.noex b o e)⟩
theorem Inv.bk (I : Inv X pins σ H s) : ∀ b o, X.base.get? b = some o → s.heap.get? b = some o := fun b o e => (I.bs b o e).1
theorem Inv.mod (I : Inv X pins σ H s) : Mod X.K X.mg X.base := I.ok.mod
theorem Inv.kIn (I : Inv X pins σ H s) : X.K.In s.heap := I.ok.mod.kin.keeps I.bk
theorem Inv.nolimit (I : Inv X pins σ H s) : s.heap.NoLimit := I.ok.mod.nolimit.keeps I.bk
/-- the frame over the base: for OpenK's rules (K.In X.base is I.mod.kin) -/
theorem Inv.fr (I : Inv X pins σ H s) : ∃ m, Fr X.base X.env.locals s.heap m :=
  let ⟨m, hn, _⟩ := I.loc
  ⟨m, hn, I.bk, Nat.le_trans I.ok.bsz I.ok.above⟩
theorem Inv.lt (I : Inv X pins σ H s) : X.env.locals < s.heap.objs.size := let ⟨_, hn, _⟩ := I.loc; hn.lt
theorem Inv.sz (I : Inv X pins σ H s) : X.s₀.heap.objs.size ≤ s.heap.objs.size := Nat.le_trans I.ok.above (Nat.le_of_lt I.lt)
theorem Inv.nofs (I : Inv X pins σ H s) {a : Addr} (h : s.heap.objs.size ≤ a) : a ∉ X.fs := fun hb => by
  obtain ⟨_, o, ho, _⟩ := I.ok.funs.mem hb
  exact absurd (Nat.lt_of_lt_of_le (Heap.lt_size ho) (Nat.le_trans I.sz h)) (Nat.lt_irrefl _)
theorem Inv.cne (I : Inv X pins σ H s) : ∀ x c, X.env.cells.lookup x = some c → c ≠ X.env.locals := fun x c e z => by
  obtain ⟨v, o, ho, hd⟩ := I.cell x c e
  obtain ⟨m, ⟨o', es, ep, ho', hd', _⟩, _⟩ := I.loc
  rw [z, ho'] at ho; cases ho; rw [hd'] at hd; cases hd
theorem Inv.funs (I : Inv X pins σ H s) : s.heap.FunFrames X.base X.outer := by
  have all : ∀ (l : List Env), (∀ b ∈ frs l, b ∈ X.fs) → X.s₀.heap.FunFrames X.base l → s.heap.FunFrames X.base l := by
    intro l
    induction l with
    | nil => intro _ _; trivial
    | cons env r ih =>
      intro hs hl
      obtain ⟨hk, ⟨L, o, hf, hn, ho, hd⟩, hr⟩ := hl
      have hL : L ∈ X.fs := hs L (by unfold frs; rw [List.filterMap_cons, hf]; exact List.mem_cons_self)
      obtain ⟨sl, e⟩ := I.base.slot L o ho (I.ok.frf L hL) hL fun z => I.ok.exfs L z hL
      exact ⟨hk, ⟨L, _, hf, hn, e, hd⟩, ih (fun b hb => hs b (by unfold frs; rw [List.filterMap_cons, hf]; exact List.mem_cons_of_mem _ hb)) hr⟩
  exact all X.outer (fun _ hb => hb) I.ok.funs

/-- the frames that run, for a call -/
theorem Inv.stack (I : Inv X pins σ H s) : s.heap.FunFrames X.base X.stack := by
  rcases I.ok.stk with e | ⟨e, hf⟩
  · rw [e]; exact I.funs
  · rw [e]
    obtain ⟨m, hn, _⟩ := I.loc
    refine .cons (by rw [I.ok.kind]; decide) hf hn ?_ I.funs
    exact Heap.get?_none_of_le (Nat.le_trans I.ok.bsz I.ok.above)
theorem Inv.stkSub (I : Inv X pins σ H s) : ∀ b ∈ frs X.stack, b ∈ X.env.locals :: X.fs := fun b hb => by
  rcases I.ok.stk with e | ⟨e, hf⟩
  · rw [e] at hb; exact List.mem_cons_of_mem _ hb
  · rw [e] at hb
    unfold frs at hb
    rw [List.filterMap_cons, hf] at hb
    exact hb
theorem Inv.stkFree (I : Inv X pins σ H s) : ∀ b ∈ frs X.stack, H b = none := fun b hb => by
  rcases List.mem_cons.mp (I.stkSub b hb) with e | hb
  · rw [e]; exact I.free
  · obtain ⟨_, o, ho, _⟩ := I.ok.funs.mem hb
    exact I.base.free b o ho (I.ok.frf b hb) fun z => I.ok.exfs b z hb

/-- THE STEP: the untracked objects but the frame and the records at ch are kept (the callers' frames up to slots), the frame's map is kept, the new abstract heap is held -/
theorem Inv.step {g' : Array GenState} {t' : Nat} {d' : Drawn} {ch : List Addr} (I : Inv X pins σ H s)
    (hch : ∀ b ∈ ch, (b ∈ X.ex ∨ X.s₀.heap.objs.size ≤ b) ∧ b ≠ X.env.locals ∧ (∀ x c, X.env.cells.lookup x = some c → c ≠ b) ∧ ∀ p ∈ X.pn ++ pins, p.1 ≠ b)
    (keep : ∀ b o, b ≠ X.env.locals → b ∉ X.fs → b ∉ ch → s.heap.get? b = some o → H b = none → h'.get? b = some o)
    (slot : ∀ b o, b ≠ X.env.locals → b ∈ X.fs → b ∉ ch → s.heap.get? b = some o → H b = none → ∃ sl, h'.get? b = some { o with slots := sl }) (free : ∀ b o, b ∉ ch → s.heap.get? b = some o → H b = none → H' b = none)
    (there : ∀ b o, b ∉ ch → s.heap.get? b = some o → ∃ o', h'.get? b = some o')
    (tups : ∀ b xs, H b = some (.tup xs) → H' b = some (.tup xs)) (frzs : ∀ b o u, H b = some (.frz o u) → H' b = some (.frz o u)) (tbls : ∀ b ps, H b = some (.tbl ps) → ∃ more, H' b = some (.tbl (ps ++ more)))
    (ns : ∀ m, s.heap.Ns X.env.locals m → h'.Ns X.env.locals m) (hok : HOk X.prog X.w H' h') (hg : AllBare g') :
    Inv X pins σ H' { s with heap := h', gens := g', drawn := d', toks := t' } := by
  have neL : ∀ b o, X.s₀.heap.get? b = some o → b ≠ X.env.locals := fun b o e => Nat.ne_of_lt (Nat.lt_of_lt_of_le (Heap.lt_size e) I.ok.above)
  have neC : ∀ b o, X.s₀.heap.get? b = some o → b ∉ X.ex → b ∉ ch := fun b o e hx hb => by
    rcases (hch b hb).1 with z | z
    · exact hx z
    · exact absurd (Nat.lt_of_lt_of_le (Heap.lt_size e) z) (Nat.lt_irrefl _)
  have cellK : ∀ x c, X.env.cells.lookup x = some c → ∀ v, s.heap.IsCell c v → h'.IsCell c v := fun x c e v ⟨o, ho, hd⟩ => by
    have nch : c ∉ ch := fun z => (hch c z).2.2.1 x c e rfl
    by_cases hc : c ∈ X.fs
    · obtain ⟨sl, q⟩ := slot c o (I.cne x c e) hc nch ho (I.freeC x c e)
      exact ⟨_, q, hd⟩
    · exact ⟨o, keep c o (I.cne x c e) hc nch ho (I.freeC x c e), hd⟩
  refine ⟨I.ok, I.os, hg, ⟨fun b o e n hb hx => ?_, fun b o e n hb hx => ?_, fun b o e n hx => ?_, fun b o e hx => ?_, fun b xs e => tups b xs (I.base.tups b xs e), fun b o xs e => frzs b o xs (I.base.frzs b o xs e), fun b ps e => ?_⟩, ?_, fun x c e => ?_, ?_, fun x c e => ?_, fun p hp => ?_, hok, I.len⟩
  · exact keep b o (neL b o e) hb (neC b o e hx) (I.base.keep b o e n hb hx) (I.base.free b o e n hx)
  · obtain ⟨sl, e1⟩ := I.base.slot b o e n hb hx
    obtain ⟨sl', e2⟩ := slot b _ (neL b o e) hb (neC b o e hx) e1 (I.base.free b o e n hx)
    exact ⟨sl', e2⟩
  · obtain ⟨o', e1⟩ := I.base.there b o e hx
    exact free b o' (neC b o e hx) e1 (I.base.free b o e n hx)
  · obtain ⟨o', e1⟩ := I.base.there b o e hx
    exact there b o' (neC b o e hx) e1
  · obtain ⟨m1, e1⟩ := I.base.tbls b ps e
    obtain ⟨m2, e2⟩ := tbls b _ e1
    exact ⟨m1 ++ m2, by rw [e2, Array.append_assoc]⟩
  · obtain ⟨m, hn, hl⟩ := I.loc
    refine ⟨m, ns m hn, fun i x v e1 e2 e3 => ?_⟩
    obtain ⟨u, r, l⟩ := hl i x v e1 e2 e3
    refine ⟨u, r, ?_⟩
    rcases l with l | ⟨k, c, e, z⟩
    · exact .inl l
    · exact .inr ⟨k, c, e, cellK x c e _ z⟩
  · obtain ⟨v, z⟩ := I.cell x c e
    exact ⟨v, cellK x c e v z⟩
  · obtain ⟨m, ⟨o, _, _, ho, _⟩, _⟩ := I.loc
    exact free _ o (fun z => (hch _ z).2.1 rfl) ho I.free
  · obtain ⟨v, o, ho, hd⟩ := I.cell x c e
    exact free c o (fun z => (hch c z).2.2.1 x c e rfl) ho (I.freeC x c e)
  · obtain ⟨e, n, ne, nf, d⟩ := I.pin p hp
    have nch : p.1 ∉ ch := fun z => (hch p.1 z).2.2.2 p hp rfl
    exact ⟨keep p.1 p.2 ne nf nch e n, free p.1 p.2 nch e n, ne, nf, d⟩
/-- .. where the frame's own object is kept too -/
theorem Inv.un {t' : Nat} (I : Inv X pins σ H s) (u : Un X.fs [] H H' s.heap h') (hok : HOk X.prog X.w H' h') : Inv X pins σ H' { s with heap := h', toks := t' } := by
  obtain ⟨m, ⟨o, es, ep, ho, r⟩, _⟩ := id I.loc
  obtain ⟨sl, hL⟩ := u.any ho I.free (by simp)
  exact I.step (g' := s.gens) (d' := s.drawn) (ch := []) (fun _ z => nomatch z) (fun b o _ hb _ e n => u.keep b o e n hb (by simp)) (fun b o _ hb _ e n => u.slot b o e n hb (by simp)) (fun b o _ e n => u.free b o e n (by simp)) (fun b o _ e => u.there b o e (by simp)) u.tups u.frzs u.tbls (fun m' hm => by
    obtain ⟨o', es', ep', ho', r'⟩ := hm
    rw [ho] at ho'; cases ho'
    exact ⟨_, es', ep', hL, r'⟩) hok I.bare
/-- behind a call (or a comprehension's block): the slots of this frame may have changed too, the records at ch may have turned -/
theorem Inv.call {g' : Array GenState} {t' : Nat} {d' : Drawn} {ch : List Addr} (I : Inv X pins σ H s) (u : Un (frs X.stack) ch H H' s.heap h') (hok : HOk X.prog X.w H' h') (hg : AllBare g')
    (hch : ∀ b ∈ ch, (b ∈ X.ex ∨ X.s₀.heap.objs.size ≤ b) ∧ b ≠ X.env.locals ∧ (∀ x c, X.env.cells.lookup x = some c → c ≠ b) ∧ ∀ p ∈ X.pn ++ pins, p.1 ≠ b) :
    Inv X pins σ H' { s with heap := h', gens := g', drawn := d', toks := t' } := by
  obtain ⟨m, ⟨o, es, ep, ho, r⟩, _⟩ := id I.loc
  obtain ⟨sl, hL⟩ := u.any ho I.free fun z => (hch _ z).2.1 rfl
  exact I.step (ch := ch) hch (fun b o hL hb hc e n => u.keep b o e n (fun z => (List.mem_cons.mp (I.stkSub b z)).elim hL hb) hc) (fun b o _ _ hc e n => u.any e n hc) (fun b o hc e n => u.free b o e n hc) (fun b o hc e => u.there b o e hc) u.tups u.frzs u.tbls (fun m' hm => by
    obtain ⟨o', es', ep', ho', r'⟩ := hm
    rw [ho] at ho'; cases ho'
    exact ⟨_, es', ep', hL, r'⟩) hok hg
/-- an untracked record of ours (an iterator) has turned -/
theorem Inv.turned {t' : Nat} {it : Addr} (I : Inv X pins σ H s) (k : ∀ b o, b ≠ it → s.heap.get? b = some o → h'.get? b = some o) (hn : H it = none) (hL : it ≠ X.env.locals)
    (h1 : it ∈ X.ex ∨ X.s₀.heap.objs.size ≤ it) (h2 : ∀ x c, X.env.cells.lookup x = some c → c ≠ it) (h3 : ∀ p ∈ X.pn ++ pins, p.1 ≠ it) : Inv X pins σ H { s with heap := h', toks := t' } := by
  have nit : ∀ b u, H b = some u → b ≠ it := fun b u e z => by rw [z, hn] at e; cases e
  refine I.step (g' := s.gens) (d' := s.drawn) (ch := [it]) (fun b hb => ?_) (fun b o _ _ hc e _ => k b o (fun z => hc (by simp [z])) e) (fun b o _ _ hc e _ => ⟨o.slots, k b o (fun z => hc (by simp [z])) e⟩) (fun _ _ _ _ n => n)
    (fun b o hc e => ⟨o, k b o (fun z => hc (by simp [z])) e⟩) (fun _ _ e => e) (fun _ _ _ e => e) (fun b ps e => ⟨#[], by rw [e]; simp⟩) (fun m hm => ?_) (fun b u e => ?_) I.bare
  · have e : b = it := by simpa using hb
    subst e
    exact ⟨h1, hL, h2, h3⟩
  · obtain ⟨o, es, ep, ho, r⟩ := hm
    exact ⟨o, es, ep, k _ o (Ne.symm hL) ho, r⟩
  · refine (I.hok b u e).stay (fun c v hc q => k c v ?_ q) (fun _ q => q) fun _ _ q => q
    rcases hc with z | z
    · rw [z]; exact nit b u e
    · exact nit c _ z
theorem Inv.tok (I : Inv X pins σ H s) (t : Nat) : Inv X pins σ H { s with toks := t } := I.un (h' := s.heap) (t' := t) Un.refl I.hok
/-- all objects kept -/
theorem Inv.kept {t' : Nat} (I : Inv X pins σ H s) (k : ∀ b u, s.heap.get? b = some u → h'.get? b = some u) : Inv X pins σ H { s with heap := h', toks := t' } := I.un (Un.kept k) (I.hok.kept k)
/-- a new object laid and tracked -/
theorem Inv.laid {a : Addr} {o : HO} {t' : Nat} (I : Inv X pins σ H s) (k : ∀ b u, s.heap.get? b = some u → h'.get? b = some u) (hp : s.heap.objs.size ≤ a) (new : ObjOk X.prog X.w (upd H a o) h' a o) :
    Inv X pins σ (upd H a o) { s with heap := h', toks := t' } := I.un (Un.laid k hp (I.hok.fresh hp)) (I.hok.laid k hp new)
/-- an object written -/
theorem Inv.write {x e : Addr} {o : HO} {t' : Nat} (I : Inv X pins σ H s) (mu : Mut (H x)) (he : e = x ∨ H e = some (.own x)) (k : ∀ b u, b ≠ e → s.heap.get? b = some u → h'.get? b = some u) (heo : ∃ u, h'.get? e = some u)
    (new : ObjOk X.prog X.w (upd H x o) h' x o) : Inv X pins σ (upd H x o) { s with heap := h', toks := t' } := I.un (Un.write mu he k heo) (I.hok.write mu he k heo new)
/-- forgetting slots, pins -/
theorem Inv.weak {σ' : List (Option V)} (I : Inv X pins σ H s) (hl : σ'.length = σ.length) (w : ∀ (i : Nat) v, σ'[i]? = some (some v) → σ[i]? = some (some v)) : Inv X pins σ' H s :=
  ⟨I.ok, I.os, I.bare, I.base, let ⟨m, hn, hl'⟩ := I.loc; ⟨m, hn, fun i x v e1 e2 e3 => hl' i x v e1 (w i v e2) e3⟩, I.cell, I.free, I.freeC, I.pin, I.hok, hl.trans I.len⟩
theorem Inv.pins_of {pins' : List (Addr × Obj)} (I : Inv X pins σ H s) (h : ∀ p ∈ pins', s.heap.get? p.1 = some p.2 ∧ H p.1 = none ∧ p.1 ≠ X.env.locals ∧ p.1 ∉ X.fs ∧ ∀ v, p.2.data ≠ .cell v) : Inv X pins' σ H s :=
  ⟨I.ok, I.os, I.bare, I.base, I.loc, I.cell, I.free, I.freeC, fun p hp => (List.mem_append.mp hp).elim (fun z => I.pin p (List.mem_append_left _ z)) (h p), I.hok, I.len⟩

theorem nodup_ix {N : List Str} (hN : N.Nodup) {i j : Nat} {x : Str} (a : N[i]? = some x) (b : N[j]? = some x) : i = j := by
  obtain ⟨h1, e1⟩ := List.getElem?_eq_some_iff.mp a
  obtain ⟨h2, e2⟩ := List.getElem?_eq_some_iff.mp b
  exact (List.getElem_inj hN).mp (e1.trans e2.symm)

/-- a name is stored; what changed -/
theorem store_ok2 {M : Model} {A : Around} {E : Value → Shared → Prop} {i : Nat} {x : Str} {v : V} {u : Value} {Q : Unit → Shared → Prop} (I : Inv X pins σ H s) (hN : X.N.Nodup) (hi : X.N[i]? = some x) (hx : Loc X.env.scope x) (r : RelV v u)
    (h : ∀ s', Inv X pins (σ.set i (some v)) H s' → (∃ a, Heap.SameBut a s.heap s'.heap ∧ (a = X.env.locals ∨ X.env.cells.lookup x = some a)) → Q () s') (hf : X.fn x = true ∨ X.env.scope.names.lookup x = some .local := by first | exact .inl rfl | exact .inr rfl | assumption) : wpAny M A (storeName X.env x u) Q E s := by
  obtain ⟨m, hn, hl⟩ := id I.loc
  have hcls : (X.env.scope.kind == .class || (X.env.scope.kind == .module && X.env.locals != X.env.globals)) = false := by rw [I.ok.kind]; rfl
  have hiσ : i < σ.length := by rw [I.len]; exact (List.getElem?_eq_some_iff.mp hi).1
  have cne := I.cne
  have tracked : ∀ {a : Addr} {h' : Heap}, (∃ o, s.heap.get? a = some o ∧ H a = none) → Heap.SameBut a s.heap h' → HOk X.prog X.w H h' := fun {a h'} ha hs b ob e => by
    obtain ⟨_, _, hfree⟩ := ha
    refine (I.hok b ob e).stay (fun c w' hc q => (hs.2 c ?_).trans q) (fun _ q => q) fun _ _ q => q
    rintro rfl
    rcases hc with rfl | hc
    · rw [hfree] at e; cases e
    · rw [hfree] at hc; cases hc
  rcases hx with hk | hk
  · refine wpAny_storeName_local hk hn (fun h' hn' hs => ?_) hcls
    obtain ⟨oL, _, _, hoL, _⟩ := id hn
    refine h _ ⟨I.ok, I.os, I.bare, ⟨fun b o e n hb hx => ?_, fun b o e n hb hx => ?_, I.base.free, fun b o e hx => ?_, I.base.tups, I.base.frzs, I.base.tbls⟩, ⟨_, hn', fun j y v' e1 e2 e3 => ?_⟩, fun y c e => ?_, I.free, I.freeC, fun p hp => ?_, tracked ⟨oL, hoL, I.free⟩ hs, by simpa using I.len⟩ ⟨_, hs, .inl rfl⟩
    · exact (hs.2 b (Nat.ne_of_lt (Nat.lt_of_lt_of_le (Heap.lt_size e) I.ok.above))).trans (I.base.keep b o e n hb hx)
    · obtain ⟨sl, e1⟩ := I.base.slot b o e n hb hx
      exact ⟨sl, (hs.2 b (Nat.ne_of_lt (Nat.lt_of_lt_of_le (Heap.lt_size e) I.ok.above))).trans e1⟩
    · obtain ⟨o', e1⟩ := I.base.there b o e hx
      exact ⟨o', (hs.2 b (Nat.ne_of_lt (Nat.lt_of_lt_of_le (Heap.lt_size e) I.ok.above))).trans e1⟩
    · by_cases hj : j = i
      · subst hj
        rw [hi] at e1; cases e1
        rw [List.getElem?_set_self hiσ] at e2
        cases e2
        exact ⟨u, r, .inl ⟨hk, by simp⟩⟩
      · rw [List.getElem?_set_ne (Ne.symm hj)] at e2
        obtain ⟨u', r', q⟩ := hl j y v' e1 e2 e3
        refine ⟨u', r', ?_⟩
        rcases q with ⟨k, e⟩ | ⟨k, c, e, z⟩
        · refine .inl ⟨k, ?_⟩
          have : y ≠ x := fun e => hj (nodup_ix hN e1 (e ▸ hi))
          simp [this, e]
        · exact .inr ⟨k, c, e, z.sameBut hs (cne y c e)⟩
    · obtain ⟨w', z⟩ := I.cell y c e
      exact ⟨w', z.sameBut hs (cne y c e)⟩
    · obtain ⟨e, n, ne, nf, d⟩ := I.pin p hp
      exact ⟨(hs.2 p.1 ne).trans e, n, ne, nf, d⟩
  · have hfn : X.fn x = true := by
      rcases hf with z | z
      · exact z
      · rw [z] at hk; cases hk
    obtain ⟨c, hc⟩ := I.ok.has x (.inl hk)
    obtain ⟨w', z⟩ := I.cell x c hc
    refine wpAny_storeName_cell I.ok.kind hk hc z (fun h' hc' hs => ?_)
    obtain ⟨oc, hoc, hocd⟩ := id z
    refine h { s with heap := h' } ⟨I.ok, I.os, I.bare, ⟨fun b o e n hb hx => ?_, fun b o e n hb hx => ?_, I.base.free, fun b o e hx => ?_, I.base.tups, I.base.frzs, I.base.tbls⟩, ⟨m, hn.sameBut hs (Ne.symm (cne x c hc)), fun j y v' e1 e2 e3 => ?_⟩, fun y c' e => ?_, I.free, I.freeC, fun p hp => ?_, tracked ⟨oc, hoc, I.freeC x c hc⟩ hs, by simpa using I.len⟩ ⟨c, hs, .inr hc⟩
    · exact (hs.2 b (Nat.ne_of_lt (Nat.lt_of_lt_of_le (Heap.lt_size e) (I.ok.cab x c hfn hc)))).trans (I.base.keep b o e n hb hx)
    · obtain ⟨sl, e1⟩ := I.base.slot b o e n hb hx
      exact ⟨sl, (hs.2 b (Nat.ne_of_lt (Nat.lt_of_lt_of_le (Heap.lt_size e) (I.ok.cab x c hfn hc)))).trans e1⟩
    · obtain ⟨o', e1⟩ := I.base.there b o e hx
      exact ⟨o', (hs.2 b (Nat.ne_of_lt (Nat.lt_of_lt_of_le (Heap.lt_size e) (I.ok.cab x c hfn hc)))).trans e1⟩
    · by_cases hj : j = i
      · subst hj
        rw [hi] at e1; cases e1
        rw [List.getElem?_set_self hiσ] at e2
        cases e2
        exact ⟨u, r, .inr ⟨.inl hk, c, hc, hc'⟩⟩
      · rw [List.getElem?_set_ne (Ne.symm hj)] at e2
        obtain ⟨u', r', q⟩ := hl j y v' e1 e2 e3
        refine ⟨u', r', ?_⟩
        rcases q with q | ⟨k, c', e, z'⟩
        · exact .inl q
        · refine .inr ⟨k, c', e, z'.sameBut hs ?_⟩
          rintro rfl
          exact hj (nodup_ix hN e1 (I.ok.inj _ _ _ e hc ▸ hi))
    · by_cases hcc : c' = c
      · subst hcc; exact ⟨_, hc'⟩
      · obtain ⟨w2, z2⟩ := I.cell y c' e
        exact ⟨w2, z2.sameBut hs hcc⟩
    · obtain ⟨e, n, ne, nf, d⟩ := I.pin p hp
      refine ⟨(hs.2 p.1 ?_).trans e, n, ne, nf, d⟩
      intro q
      rw [q, hoc] at e
      have q' : oc = p.2 := Option.some.inj e
      exact d w' (by rw [← q']; exact hocd)
theorem store_ok {M : Model} {A : Around} {E : Value → Shared → Prop} {i : Nat} {x : Str} {v : V} {u : Value} {Q : Unit → Shared → Prop} (I : Inv X pins σ H s) (hN : X.N.Nodup) (hi : X.N[i]? = some x) (hx : Loc X.env.scope x) (r : RelV v u)
    (h : ∀ s', Inv X pins (σ.set i (some v)) H s' → Q () s') (hf : X.fn x = true ∨ X.env.scope.names.lookup x = some .local := by first | exact .inl rfl | exact .inr rfl | assumption) : wpAny M A (storeName X.env x u) Q E s :=
  store_ok2 I hN hi hx r (fun s' I' _ => h s' I') hf
/-- behind a call or a block, the state as it is -/
theorem Inv.call' {s' : Shared} {ch : List Addr} (I : Inv X pins σ H s) (ho : s'.os = s.os) (u : Un (frs X.stack) ch H H' s.heap s'.heap) (hok : HOk X.prog X.w H' s'.heap) (hg : AllBare s'.gens)
    (hch : ∀ b ∈ ch, (b ∈ X.ex ∨ X.s₀.heap.objs.size ≤ b) ∧ b ≠ X.env.locals ∧ (∀ x c, X.env.cells.lookup x = some c → c ≠ b) ∧ ∀ p ∈ X.pn ++ pins, p.1 ≠ b) : Inv X pins σ H' s' := by
  obtain ⟨h', g', d', t', o'⟩ := s'
  have e : o' = s.os := ho
  subst e
  exact I.call (g' := g') (t' := t') (d' := d') u hok hg hch
end

/-! ### the judgements -/
/-- an exception: its class, its own dict's address (where it has one), the abstract heap behind it -/
abbrev XK := Value → Option Addr → Hp → Prop
abbrev St := List (Option V)
abbrev VK := V → Hp → Prop
/-- an expression's reading; a test's; an argument list's -/
abbrev TE := St → Hp → VK → Prop
abbrev TT := St → Hp → (Bool → Hp → Prop) → Prop
abbrev TA := St → Hp → (List V → Hp → Prop) → Prop
/-- what is wanted behind a statement -/
structure Ends where
  nx : St → Hp → Prop
  rt : VK
  bk : St → Hp → Prop := fun _ _ => False
  ct : St → Hp → Prop := fun _ _ => False
abbrev TS := Ends → St → Hp → Prop

def EP (X : Cx) (pins : List (Addr × Obj)) (σ : St) (Q : VK) (u : Value) (s' : Shared) : Prop := ∃ v H', Inv X pins σ H' s' ∧ RelV v u ∧ Q v H'
def TP (X : Cx) (pins : List (Addr × Obj)) (σ : St) (Q : Bool → Hp → Prop) (b : Bool) (s' : Shared) : Prop := ∃ H', Inv X pins σ H' s' ∧ Q b H'
def AP (X : Cx) (pins : List (Addr × Obj)) (σ : St) (Q : List V → Hp → Prop) (us : List Value) (s' : Shared) : Prop := ∃ vs H', Inv X pins σ H' s' ∧ Vals vs us ∧ Q vs H'
def SP (X : Cx) (pins : List (Addr × Obj)) (D : Ends) (f : Flow) (s' : Shared) : Prop :=
  match f with
  | .next => ∃ σ' H', Inv X pins σ' H' s' ∧ D.nx σ' H'
  | .brk => ∃ σ' H', Inv X pins σ' H' s' ∧ D.bk σ' H'
  | .cont => ∃ σ' H', Inv X pins σ' H' s' ∧ D.ct σ' H'
  | .ret u => ∃ v σ' H', Inv X pins σ' H' s' ∧ RelV v u ∧ D.rt v H'

def PE (X : Cx) (e : Expr) (t : TE) : Prop :=
  ∀ (pins : List (Addr × Obj)) (s : Shared) (σ : St) (H : Hp) (Q : VK), Inv X pins σ H s → t σ H Q → wpAny (model X.prog X.w) X.A (eval e X.env) (EP X pins σ Q) X.xe s
def PT (X : Cx) (e : Expr) (t : TT) : Prop :=
  ∀ (pins : List (Addr × Obj)) (s : Shared) (σ : St) (H : Hp) (Q : Bool → Hp → Prop), Inv X pins σ H s → t σ H Q → wpAny (model X.prog X.w) X.A (isTrue e X.env (eval e X.env)) (TP X pins σ Q) X.xe s
/-- a test whatever its 'whole' is (and, or) -/
def PW (X : Cx) (e : Expr) (t : TT) : Prop :=
  ∀ (whole : Sem Value) (pins : List (Addr × Obj)) (s : Shared) (σ : St) (H : Hp) (Q : Bool → Hp → Prop), Inv X pins σ H s → t σ H Q → wpAny (model X.prog X.w) X.A (isTrue e X.env whole) (TP X pins σ Q) X.xe s
theorem PW.pt {X : Cx} {e : Expr} {t : TT} (h : PW X e t) : PT X e t := h _
/-- an argument list (no star), from the left -/
def PA (X : Cx) (es : List Expr) (t : TA) : Prop :=
  ∀ (pos : Pos) (pins : List (Addr × Obj)) (s : Shared) (σ : St) (H : Hp) (Q : List V → Hp → Prop), Inv X pins σ H s → t σ H Q → wpAny (model X.prog X.w) X.A (spliced (backTo pos (starEach es X.env))) (AP X pins σ Q) X.xe s
def PS (X : Cx) (st : Stmt) (t : TS) : Prop :=
  ∀ (pins : List (Addr × Obj)) (s : Shared) (σ : St) (H : Hp) (D : Ends), Inv X pins σ H s → t D σ H → wpAny (model X.prog X.w) X.A (exec st X.env) (SP X pins D) X.xe s
def PSs (X : Cx) (st : List Stmt) (t : TS) : Prop :=
  ∀ (pins : List (Addr × Obj)) (s : Shared) (σ : St) (H : Hp) (D : Ends), Inv X pins σ H s → t D σ H → wpAny (model X.prog X.w) X.A (execs st X.env) (SP X pins D) X.xe s
/-- weaken the end -/
theorem thn {α : Type} {t : Sem α} {Q Q' : α → Shared → Prop} {M : Model} {A : Around} {E : Value → Shared → Prop} {s : Shared} (h : wpAny M A t Q E s) (hQ : ∀ a s, Q a s → Q' a s) : wpAny M A t Q' E s := wpAny_mono h hQ fun _ _ x => x
end L2

namespace L2
open PySem PySem.Spec PyProof.Rows
section
variable {X : Cx}

/-- two expressions in a row -/
theorem bin {a b : Expr} {ta tb : TE} (ha : PE X a ta) (hb : PE X b tb) {pins : List (Addr × Obj)} {s : Shared} {σ : St} {H : Hp} {R : V → V → Hp → Prop} (I : Inv X pins σ H s) (h : ta σ H fun x H1 => tb σ H1 fun y H2 => R x y H2)
    {α : Type} {Q : α → Shared → Prop} {f : Value → Value → Sem α}
    (hf : ∀ v u s2 x y H2, Inv X pins σ H2 s2 → RelV x v → RelV y u → R x y H2 → wpAny (model X.prog X.w) X.A (f v u) Q X.xe s2) :
    wpAny (model X.prog X.w) X.A (eval a X.env) (fun v s₁ => wpAny (model X.prog X.w) X.A (eval b X.env) (fun u s₂ => wpAny (model X.prog X.w) X.A (f v u) Q X.xe s₂) X.xe s₁) X.xe s := by
  refine thn (ha pins s σ H _ I h) fun v s1 ⟨x, H1, I1, r1, q1⟩ => ?_
  refine thn (hb pins s1 σ H1 _ I1 q1) fun u s2 ⟨y, H2, I2, r2, q2⟩ => ?_
  exact hf v u s2 x y H2 I2 r1 r2 q2

/-! ### names and constants -/
def tVar (i : Nat) : TE := fun σ H Q => ∃ v, σ[i]? = some (some v) ∧ Q v H
def tC (v : V) : TE := fun _ H Q => Q v H
theorem pe_var {i : Nat} {x : Str} {pos : Pos} (hN : X.N[i]? = some x) (hv : Vis X.env.scope x) (hd : (x == ("__debug__" : Str)) = false := by decide) (hcd : (x == ("__classdict__" : Str)) = false := by decide) : PE X (.Name x pos) (tVar i) := by
  intro pins s σ H Q I h
  obtain ⟨v, e, h⟩ := h
  obtain ⟨m, hn, hl⟩ := I.loc
  obtain ⟨u, r, l⟩ := hl i x v hN e hv
  have fin : EP X pins σ Q u s := ⟨v, H, I, r, h⟩
  rcases l with ⟨hk, hm⟩ | ⟨hk, c, hc, hcell⟩
  · exact wpAny_Name (wpAny_loadName_local I.ok.kind hk hn hm fin) hd
  · rcases hk with hk | hk
    · exact wpAny_Name (wpAny_loadName_cell I.ok.kind hk hc hcell fin) hd
    · exact wpAny_Name (wpAny_loadName_free I.ok.kind hk hc hcell fin hcd) hd
theorem pe_int {i j pos} : PE X (.Constant (.int i) j pos) (tC (.int i)) := fun _ _ _ H _ I h => wpAny_Constant_int ⟨.int i, H, I.tok _, ⟨_, rfl⟩, h⟩
theorem pe_bl {b j pos} : PE X (.Constant (.bool b) j pos) (tC (.bl b)) := fun _ _ _ H _ I h => Constant_bool ⟨.bl b, H, I, rfl, h⟩
theorem pe_non {j pos} : PE X (.Constant .none j pos) (tC .non) := fun _ _ _ H _ I h => Constant_none ⟨.non, H, I, rfl, h⟩
theorem pe_str {x j pos} : PE X (.Constant (.str x) j pos) (tC (.str x)) := fun _ _ _ H _ I h => Calls.Constant_str ⟨.str x, H, I.tok _, ⟨_, rfl⟩, h⟩

/-- a global name of the def -/
def Gl (X : Cx) (x : Str) : Prop := X.env.kindOf x = some .globalImplicit
theorem ld_glob {E : Value → Shared → Prop} {pins : List (Addr × Obj)} {s : Shared} {σ : St} {H : Hp} {x : Str} {u : Value} {pos : Pos} {Q : Value → Shared → Prop} (I : Inv X pins σ H s) (hg : Gl X x) (hm : X.mg x = some u) (h : Q u s)
    (hd : (x == ("__debug__" : Str)) = false := by decide) : wpAny (model X.prog X.w) X.A (eval (.Name x pos) X.env) Q E s :=
  Calls.Name_function_global I.ok.kind hg (Calls.loadGlobal_global (by rw [I.ok.glob]; exact I.mod.glob.keeps I.bk) hm h) hd
theorem ld_blt {E : Value → Shared → Prop} {pins : List (Addr × Obj)} {s : Shared} {σ : St} {H : Hp} {x : Str} {u : Value} {pos : Pos} {Q : Value → Shared → Prop} (I : Inv X pins σ H s) (hg : Gl X x) (hm : X.mg x = none) (hv : bootBuiltins x = some u) (h : Q u s)
    (hn : x ≠ "__name__" := by decide) (hd : (x == ("__debug__" : Str)) = false := by decide) : wpAny (model X.prog X.w) X.A (eval (.Name x pos) X.env) Q E s := by
  obtain ⟨mb, h1, h2⟩ := I.mod.blt
  exact Calls.Name_function_global I.ok.kind hg (Calls.loadGlobal_builtin (by rw [I.ok.glob]; exact I.mod.glob.keeps I.bk) hm (by rw [I.ok.blt]; exact h1.keeps I.bk) ((h2 x hn).trans hv) h) hd
/-- a module's constant, a class, a function, as a value -/
theorem pe_glob {x : Str} {v : V} {u : Value} {pos : Pos} (hg : Gl X x) (hm : X.mg x = some u) (r : RelV v u) (hd : (x == ("__debug__" : Str)) = false := by decide) : PE X (.Name x pos) (tC v) :=
  fun _ _ _ H _ I h => ld_glob I hg hm ⟨v, H, I, r, h⟩ hd
theorem pe_bltn {x : Str} {v : V} {u : Value} {pos : Pos} (hg : Gl X x) (hm : X.mg x = none) (hv : bootBuiltins x = some u) (r : RelV v u) (hn : x ≠ "__name__" := by decide) (hd : (x == ("__debug__" : Str)) = false := by decide) : PE X (.Name x pos) (tC v) :=
  fun _ _ _ H _ I h => ld_blt I hg hm hv ⟨v, H, I, r, h⟩ hn hd

/-! ### arithmetic -/
/-- two ints -/
def t2I (ta tb : TE) (k : Int → Int → Hp → Prop) : St → Hp → Prop := fun σ H => ta σ H fun x H1 => tb σ H1 fun y H2 => ∃ i j, x = .int i ∧ y = .int j ∧ k i j H2
def tAdd (ta tb : TE) : TE := fun σ H Q => t2I ta tb (fun i j H2 => Q (.int (i + j)) H2) σ H
def tSub (ta tb : TE) : TE := fun σ H Q => t2I ta tb (fun i j H2 => Q (.int (i - j)) H2) σ H
/-- the left factor below 2^64 -/
def tMul (ta tb : TE) : TE := fun σ H Q => t2I ta tb (fun i j H2 => (-(2 ^ 64) < i ∧ i < 2 ^ 64) ∧ Q (.int (i * j)) H2) σ H
variable {a b : Expr} {ta tb : TE} {pos : Pos}
theorem pe_add (ha : PE X a ta) (hb : PE X b tb) : PE X (.BinOp a .Add b pos) (tAdd ta tb) := by
  intro pins s σ H Q I h
  refine wpAny_BinOp (bin ha hb I h fun v u s2 x y H2 I2 rx ry q => ?_)
  obtain ⟨i, j, rfl, rfl, q⟩ := q
  obtain ⟨t, rfl⟩ := rx
  obtain ⟨t', rfl⟩ := ry
  exact add_int ⟨.int _, H2, I2.tok _, ⟨_, rfl⟩, q⟩
theorem pe_sub (ha : PE X a ta) (hb : PE X b tb) : PE X (.BinOp a .Sub b pos) (tSub ta tb) := by
  intro pins s σ H Q I h
  refine wpAny_BinOp (bin ha hb I h fun v u s2 x y H2 I2 rx ry q => ?_)
  obtain ⟨i, j, rfl, rfl, q⟩ := q
  obtain ⟨t, rfl⟩ := rx
  obtain ⟨t', rfl⟩ := ry
  exact sub_int ⟨.int _, H2, I2.tok _, ⟨_, rfl⟩, q⟩
theorem pe_mul (ha : PE X a ta) (hb : PE X b tb) : PE X (.BinOp a .Mult b pos) (tMul ta tb) := by
  intro pins s σ H Q I h
  refine wpAny_BinOp (bin ha hb I h fun v u s2 x y H2 I2 rx ry q => ?_)
  obtain ⟨i, j, rfl, rfl, ⟨q1, q2⟩, q⟩ := q
  obtain ⟨t, rfl⟩ := rx
  obtain ⟨t', rfl⟩ := ry
  exact mul_int ⟨.int _, H2, I2.tok _, ⟨_, rfl⟩, q⟩ (.of_left (intBits_le_64 q1 q2))

/-! ### comparisons -/
def PC (X : Cx) (op : CmpOp) (a b : Expr) (t : TE) : Prop :=
  ∀ (pins : List (Addr × Obj)) (s : Shared) (σ : St) (H : Hp) (Q : VK), Inv X pins σ H s → t σ H Q →
    wpAny (model X.prog X.w) X.A (eval a X.env) (fun v s₁ => wpAny (model X.prog X.w) X.A (eval b X.env) (fun u s₂ => wpAny (model X.prog X.w) X.A (compareOp op v u) (EP X pins σ Q) X.xe s₂) X.xe s₁) X.xe s
theorem nobehind (b : Expr) {op : CmpOp} (h : op ≠ .In) (h2 : op ≠ .NotIn) : behindInMarks op b = false := by
  have e1 : (op == CmpOp.In) = false := by cases op <;> first | rfl | exact absurd rfl h
  have e2 : (op == CmpOp.NotIn) = false := by cases op <;> first | rfl | exact absurd rfl h2
  cases b <;> simp [behindInMarks, e1, e2]
def tCmp (p : Int → Int → Bool) (ta tb : TE) : TE := fun σ H Q => t2I ta tb (fun i j H2 => Q (.bl (p i j)) H2) σ H
abbrev tLt : TE → TE → TE := tCmp fun i j => decide (i < j)
abbrev tLe : TE → TE → TE := tCmp fun i j => decide (i ≤ j)
abbrev tGt : TE → TE → TE := tCmp fun i j => decide (j < i)
abbrev tGe : TE → TE → TE := tCmp fun i j => decide (j ≤ i)
abbrev tEqI : TE → TE → TE := tCmp fun i j => decide (i = j)
abbrev tNeI : TE → TE → TE := tCmp fun i j => !decide (i = j)
/-- a comparison of two ints, by its rule -/
theorem pc_int {op : CmpOp} {p : Int → Int → Bool} (ha : PE X a ta) (hb : PE X b tb)
    (rule : ∀ (i j : Int) (t u : Tok) (Q : Value → Shared → Prop) (s : Shared), Q (.bool (p i j)) s → wpAny (model X.prog X.w) X.A (compareOp op (.int i t) (.int j u)) Q X.xe s) : PC X op a b (tCmp p ta tb) := by
  intro pins s σ H Q I h
  refine bin ha hb I h fun v u s2 x y H2 I2 rx ry q => ?_
  obtain ⟨i, j, rfl, rfl, q⟩ := q
  obtain ⟨t, rfl⟩ := rx
  obtain ⟨t', rfl⟩ := ry
  exact rule i j t t' _ s2 ⟨.bl _, H2, I2, rfl, q⟩
theorem pc_lt (ha : PE X a ta) (hb : PE X b tb) : PC X .Lt a b (tLt ta tb) := pc_int ha hb fun _ _ _ _ _ _ h => lt_int h
theorem pc_le (ha : PE X a ta) (hb : PE X b tb) : PC X .LtE a b (tLe ta tb) := pc_int ha hb fun _ _ _ _ _ _ h => le_int h
theorem pc_gt (ha : PE X a ta) (hb : PE X b tb) : PC X .Gt a b (tGt ta tb) := pc_int ha hb fun _ _ _ _ _ _ h => gt_int h
theorem pc_ge (ha : PE X a ta) (hb : PE X b tb) : PC X .GtE a b (tGe ta tb) := pc_int ha hb fun _ _ _ _ _ _ h => ge_int h
theorem pc_eqI (ha : PE X a ta) (hb : PE X b tb) : PC X .Eq a b (tEqI ta tb) := pc_int ha hb fun _ _ _ _ _ _ h => eq_int (by rw [Bool.beq_eq_decide_eq]; exact h)
theorem pc_neI (ha : PE X a ta) (hb : PE X b tb) : PC X .NotEq a b (tNeI ta tb) := pc_int ha hb fun _ _ _ _ _ _ h => ne_int (by rw [bne, Bool.beq_eq_decide_eq]; exact h)
/-- is None -/
def tIsN (ta : TE) : TE := fun σ H Q => ta σ H fun x H1 => Q (.bl (decide (x = .non))) H1
def tNotN (ta : TE) : TE := fun σ H Q => ta σ H fun x H1 => Q (.bl (!decide (x = .non))) H1
theorem RelV.none_iff {x : V} {v : Value} (r : RelV x v) : (v == Value.none) = decide (x = .non) := by
  cases x with
  | non => cases r; rfl
  | bl _ => cases r; rfl
  | int _ => obtain ⟨t, rfl⟩ := r; rfl
  | str _ => obtain ⟨t, rfl⟩ := r; rfl
  | byt _ => obtain ⟨t, rfl⟩ := r; rfl
  | flt _ => obtain ⟨t, rfl⟩ := r; rfl
  | ref _ => cases r; rfl
  | ty _ => cases r; rfl
theorem pc_isN {j pos'} (ha : PE X a ta) : PC X .Is a (.Constant .none j pos') (tIsN ta) := by
  intro pins s σ H Q I h
  refine thn (ha pins s σ H _ I h) fun v s1 ⟨x, H1, I1, r1, q1⟩ => ?_
  exact Constant_none (is_none_gen ⟨.bl _, H1, I1, by rw [r1.none_iff]; rfl, q1⟩)
theorem pc_notN {j pos'} (ha : PE X a ta) : PC X .IsNot a (.Constant .none j pos') (tNotN ta) := by
  intro pins s σ H Q I h
  refine thn (ha pins s σ H _ I h) fun v s1 ⟨x, H1, I1, r1, q1⟩ => ?_
  exact Constant_none (isnot_none_gen ⟨.bl _, H1, I1, by rw [r1.none_iff]; rfl, q1⟩)
/-- a comparison as a value, as a test -/
def tB (t : TE) : TT := fun σ H Q => t σ H fun x H1 => ∃ c, x = .bl c ∧ Q c H1
theorem pe_cmp {op : CmpOp} {t : TE} (h : PC X op a b t) (h1 : behindInMarks op b = false := by first | exact nobehind _ (by decide) (by decide) | rfl) : PE X (.Compare a [op] [b] pos) t := fun pins s σ H Q I hw => wpAny_Compare1 (h pins s σ H Q I hw) h1
theorem pt_cmp {op : CmpOp} {t : TE} (h : PC X op a b t) (h1 : behindInMarks op b = false := by first | exact nobehind _ (by decide) (by decide) | rfl) : PT X (.Compare a [op] [b] pos) (tB t) := by
  intro pins s σ H Q I hw
  refine wpAny_isTrue_Compare1 (thn (h pins s σ H _ I hw) fun v s1 h1 => thn h1 fun u s2 h2 => thn h2 fun c s3 ⟨x, H1, I1, r1, q1⟩ => ?_) h1
  obtain ⟨d, rfl, q⟩ := q1
  cases r1
  exact wpAny_truthy_bool ⟨H1, I1, q⟩
/-- an expression whose value is a bool, as a test -/
theorem pt_val {e : Expr} {t : TE} (h : PE X e t) (he : ∀ whole, isTrue e X.env whole = (do let v ← whole; standAt e.pos; holding [v] (truthy v)) := by intro _; rfl) : PT X e (tB t) := by
  intro pins s σ H Q I hw
  refine isTrue_plain (thn (h pins s σ H _ I hw) fun v s1 ⟨x, H1, I1, r1, q1⟩ => ?_) (he _)
  obtain ⟨d, rfl, q⟩ := q1
  cases r1
  exact wpAny_truthy_bool ⟨H1, I1, q⟩

/-! ### and, or, not -/
variable {tA tB' : TT} {rest : List Expr}
def tAnd (t u : TT) : TT := fun σ H Q => t σ H fun c H1 => if c = true then u σ H1 Q else Q false H1
def tOr (t u : TT) : TT := fun σ H Q => t σ H fun c H1 => if c = true then Q true H1 else u σ H1 Q
def tNot (t : TT) : TT := fun σ H Q => t σ H fun c H1 => Q (!c) H1
theorem pw_and1 (ha : PT X a tA) : PW X (.BoolOp .And [a] pos) tA := by
  intro wh pins s σ H Q I h
  refine isTrue_and (thn (ha pins s σ H Q I h) fun c s1 e => ?_)
  cases c with
  | true => exact isTrue_and_nil e
  | false => exact e
theorem pw_or1 (ha : PT X a tA) : PW X (.BoolOp .Or [a] pos) tA := by
  intro wh pins s σ H Q I h
  refine isTrue_or (thn (ha pins s σ H Q I h) fun c s1 e => ?_)
  cases c with
  | false => exact isTrue_or_nil e
  | true => exact e
theorem pw_and (ha : PT X a tA) (hb : PW X (.BoolOp .And (b :: rest) pos) tB') : PW X (.BoolOp .And (a :: b :: rest) pos) (tAnd tA tB') := by
  intro wh pins s σ H Q I h
  refine isTrue_and (thn (ha pins s σ H _ I h) fun c s1 ⟨H1, I1, q1⟩ => ?_)
  cases c with
  | true => exact hb wh pins s1 σ H1 Q I1 q1
  | false => exact ⟨H1, I1, q1⟩
theorem pw_or (ha : PT X a tA) (hb : PW X (.BoolOp .Or (b :: rest) pos) tB') : PW X (.BoolOp .Or (a :: b :: rest) pos) (tOr tA tB') := by
  intro wh pins s σ H Q I h
  refine isTrue_or (thn (ha pins s σ H _ I h) fun c s1 ⟨H1, I1, q1⟩ => ?_)
  cases c with
  | true => exact ⟨H1, I1, q1⟩
  | false => exact hb wh pins s1 σ H1 Q I1 q1
theorem pt_not (ha : PT X a tA) : PT X (.UnaryOp .Not a pos) (tNot tA) := by
  intro pins s σ H Q I h
  exact isTrue_not (ha pins s σ H (fun c H1 => Q (!c) H1) I h)
/-- .. as values (bools) -/
def tAndV (ta tb : TE) : TE := fun σ H Q => ta σ H fun x H1 => ∃ c, x = .bl c ∧ if c = true then tb σ H1 Q else Q (.bl false) H1
def tOrV (ta tb : TE) : TE := fun σ H Q => ta σ H fun x H1 => ∃ c, x = .bl c ∧ if c = true then Q (.bl true) H1 else tb σ H1 Q
def tNotV (ta : TE) : TE := fun σ H Q => ta σ H fun x H1 => ∃ c, x = .bl c ∧ Q (.bl (!c)) H1
theorem pe_one {op} {t : TE} (h : PE X a t) : PE X (.BoolOp op [a] pos) t := fun pins s σ H Q I hw => BoolOp_one (h pins s σ H Q I hw)
theorem pe_and (ha : PE X a ta) (hb : PE X (.BoolOp .And (b :: rest) pos) tb) : PE X (.BoolOp .And (a :: b :: rest) pos) (tAndV ta tb) := by
  intro pins s σ H Q I h
  refine BoolOp_and (thn (ha pins s σ H _ I h) fun v s1 ⟨x, H1, I1, r1, q1⟩ => ?_)
  obtain ⟨c, rfl, q1⟩ := q1
  cases r1
  refine wpAny_truthy_bool ?_
  cases c with
  | true => exact hb pins s1 σ H1 Q I1 q1
  | false => exact ⟨.bl false, H1, I1, rfl, q1⟩
theorem pe_or (ha : PE X a ta) (hb : PE X (.BoolOp .Or (b :: rest) pos) tb) : PE X (.BoolOp .Or (a :: b :: rest) pos) (tOrV ta tb) := by
  intro pins s σ H Q I h
  refine BoolOp_or (thn (ha pins s σ H _ I h) fun v s1 ⟨x, H1, I1, r1, q1⟩ => ?_)
  obtain ⟨c, rfl, q1⟩ := q1
  cases r1
  refine wpAny_truthy_bool ?_
  cases c with
  | false => exact hb pins s1 σ H1 Q I1 q1
  | true => exact ⟨.bl true, H1, I1, rfl, q1⟩
theorem pe_not (ha : PE X a ta) : PE X (.UnaryOp .Not a pos) (tNotV ta) := by
  intro pins s σ H Q I h
  refine UnaryOp_ (thn (ha pins s σ H _ I h) fun v s1 ⟨x, H1, I1, r1, q1⟩ => ?_)
  obtain ⟨c, rfl, q1⟩ := q1
  cases r1
  exact not_of (wpAny_truthy_bool ⟨.bl (!c), H1, I1, rfl, q1⟩)
/-- a if t else b -/
def tIf (t : TT) (ta tb : TE) : TE := fun σ H Q => t σ H fun c H1 => if c = true then ta σ H1 Q else tb σ H1 Q
theorem pe_ifExp {c : Expr} (hc : PT X c tA) (ha : PE X a ta) (hb : PE X b tb) : PE X (.IfExp c a b pos) (tIf tA ta tb) := by
  intro pins s σ H Q I h
  refine wpAny_IfExp (thn (hc pins s σ H _ I h) fun d s1 ⟨H1, I1, q1⟩ => ?_)
  cases d with
  | true => exact ha pins s1 σ H1 Q I1 q1
  | false => exact hb pins s1 σ H1 Q I1 q1
end
end L2

namespace L2
open PySem PySem.Spec PyProof.Rows

/-! ### a list, a tuple that is read: tracked, frozen, or an object of the module -/
def SqL (K : PySem.W.Frag) (H : Hp) (a : Addr) (xs : List V) : Prop :=
  Rd H a (.lst xs) ∨
    ∃ (o : Obj) (its : Array Value) (n : Nat), K.lookup a = some o ∧ o.cls = .type "list" ∧ o.dict = none ∧ o.data = .seq its n ∧ its.size ≤ sizeLine ∧ Vals xs its.toList
def SqT (K : PySem.W.Frag) (H : Hp) (a : Addr) (xs : List V) : Prop :=
  Rd H a (.tup xs) ∨
    ∃ (o : Obj) (its : Array Value) (n : Nat), K.lookup a = some o ∧ o.cls = .type "tuple" ∧ o.data = .seq its n ∧ its.size ≤ sizeLine ∧ Vals xs its.toList
def absV : Value → Option V
  | .none => some .non
  | .bool b => some (.bl b)
  | .int i _ => some (.int i)
  | .str x _ => some (.str x)
  | .bytes b _ => some (.byt b)
  | .float b _ => some (.flt b)
  | .ref a => some (.ref a)
  | .type n => some (.ty n)
  | _ => none
theorem RelV.abs {x : V} {u : Value} (r : RelV x u) : absV u = some x := by
  cases x with
  | non => cases r; rfl
  | bl _ => cases r; rfl
  | int _ => obtain ⟨t, rfl⟩ := r; rfl
  | str _ => obtain ⟨t, rfl⟩ := r; rfl
  | byt _ => obtain ⟨t, rfl⟩ := r; rfl
  | flt _ => obtain ⟨t, rfl⟩ := r; rfl
  | ref _ => cases r; rfl
  | ty _ => cases r; rfl
theorem RelV.inj {x y : V} {u : Value} (r : RelV x u) (q : RelV y u) : x = y := Option.some.inj (r.abs.symm.trans q.abs)
theorem Vals.inj : ∀ {xs ys : List V} {us : List Value}, Vals xs us → Vals ys us → xs = ys
  | _, _, _, .nil, .nil => rfl
  | _, _, _, .cons r t, .cons r' t' => by rw [r.inj r', Vals.inj t t']
section
variable {X : Cx} {pins : List (Addr × Obj)} {σ : St} {H : Hp} {s : Shared} {a : Addr} {xs ys : List V}
theorem SqL.of {K : PySem.W.Frag} (h : H a = some (.lst xs)) : SqL K H a xs := .inl (.inl h)
theorem SqT.of {K : PySem.W.Frag} (h : H a = some (.tup xs)) : SqT K H a xs := .inl (.inl h)
theorem Inv.list (I : Inv X pins σ H s) (h : SqL X.K H a xs) : ∃ its : List Value, Vals xs its ∧ PlainL s.heap a its.toArray ∧ xs.length ≤ sizeLine := by
  rcases h with h | ⟨o, its, n, hk, hc, hd, hs, hz, r⟩
  · obtain ⟨z, its, n, r, e⟩ := h.ok I.hok
    exact ⟨its, r, ⟨_, n, e, rfl, rfl, rfl⟩, z⟩
  · refine ⟨its.toList, r, ⟨o, n, I.kIn a o hk, hc, hd, by simpa using hs⟩, ?_⟩
    have e := r.length
    simp only [Array.length_toList] at e
    omega
theorem Inv.tuple (I : Inv X pins σ H s) (h : SqT X.K H a xs) : ∃ its : List Value, Vals xs its ∧ IsTup s.heap a its.toArray ∧ xs.length ≤ sizeLine := by
  rcases h with h | ⟨o, its, n, hk, hc, hs, hz, r⟩
  · obtain ⟨z, its, r, p⟩ := h.ok I.hok
    exact ⟨its, r, p, z⟩
  · refine ⟨its.toList, r, ⟨o, I.kIn a o hk, hc, n, by simpa using hs⟩, ?_⟩
    have e := r.length
    simp only [Array.length_toList] at e
    omega
theorem Inv.list_inj (I : Inv X pins σ H s) (h : SqL X.K H a xs) (h' : SqL X.K H a ys) : xs = ys := by
  obtain ⟨its, r, ⟨o, n, e, _, _, d⟩, _⟩ := I.list h
  obtain ⟨its', r', ⟨o', n', e', _, _, d'⟩, _⟩ := I.list h'
  rw [e] at e'; cases e'
  rw [d] at d'
  injection d' with d1 _
  have : its = its' := by simpa using congrArg Array.toList d1
  subst this
  exact r.inj r'
theorem Inv.tuple_inj (I : Inv X pins σ H s) (h : SqT X.K H a xs) (h' : SqT X.K H a ys) : xs = ys := by
  obtain ⟨its, r, ⟨o, e, _, n, d⟩, _⟩ := I.tuple h
  obtain ⟨its', r', ⟨o', e', _, n', d'⟩, _⟩ := I.tuple h'
  rw [e] at e'; cases e'
  rw [d] at d'
  injection d' with d1 _
  have : its = its' := by simpa using congrArg Array.toList d1
  subst this
  exact r.inj r'
end

/-! ### another wish about exceptions -/
abbrev Cx.wish (X : Cx) (E : Value → Shared → Prop) : Cx := { X with xe := E }
/-- no exception leaves -/
abbrev Cx.nox (X : Cx) : Cx := X.wish fun _ _ => False
theorem Cx.Ok.wish {X : Cx} (ok : X.Ok) (E : Value → Shared → Prop) : (X.wish E).Ok :=
  ⟨ok.mod, ok.kind, ok.glob, ok.blt, ok.above, ok.inj, ok.has, ok.cab, ok.hd, ok.frames, ok.stk, ok.exf, ok.bs, ok.bsz, ok.noex, ok.exfs, ok.funs, ok.frf⟩
theorem Cx.Ok.unwish {X : Cx} {E : Value → Shared → Prop} (ok : (X.wish E).Ok) : X.Ok :=
  ⟨ok.mod, ok.kind, ok.glob, ok.blt, ok.above, ok.inj, ok.has, ok.cab, ok.hd, ok.frames, ok.stk, ok.exf, ok.bs, ok.bsz, ok.noex, ok.exfs, ok.funs, ok.frf⟩
section
variable {X : Cx} {pins : List (Addr × Obj)} {σ : St} {H : Hp} {s : Shared} {E : Value → Shared → Prop}
theorem Inv.wish (I : Inv X pins σ H s) (E : Value → Shared → Prop) : Inv (X.wish E) pins σ H s := ⟨I.ok.wish E, I.os, I.bare, I.base, I.loc, I.cell, I.free, I.freeC, I.pin, I.hok, I.len⟩
theorem Inv.unwish (I : Inv (X.wish E) pins σ H s) : Inv X pins σ H s := ⟨I.ok.unwish, I.os, I.bare, I.base, I.loc, I.cell, I.free, I.freeC, I.pin, I.hok, I.len⟩
theorem SP.unwish {D : Ends} {f : Flow} {s' : Shared} (h : SP (X.wish E) pins D f s') : SP X pins D f s' := by
  cases f with
  | next => obtain ⟨σ', H', I, q⟩ := h; exact ⟨σ', H', I.unwish, q⟩
  | brk => obtain ⟨σ', H', I, q⟩ := h; exact ⟨σ', H', I.unwish, q⟩
  | cont => obtain ⟨σ', H', I, q⟩ := h; exact ⟨σ', H', I.unwish, q⟩
  | ret u => obtain ⟨v, σ', H', I, r, q⟩ := h; exact ⟨v, σ', H', I.unwish, r, q⟩
theorem PE.nox {e : Expr} {t : TE} (h : PE X.nox e t) : PE X e t := fun pins s σ H Q I hw =>
  wpAny_mono (h pins s σ H Q (I.wish _) hw) (fun _ _ ⟨v, H', I', r, q⟩ => ⟨v, H', I'.unwish, r, q⟩) fun _ _ z => False.elim z
theorem PT.nox {e : Expr} {t : TT} (h : PT X.nox e t) : PT X e t := fun pins s σ H Q I hw =>
  wpAny_mono (h pins s σ H Q (I.wish _) hw) (fun _ _ ⟨H', I', q⟩ => ⟨H', I'.unwish, q⟩) fun _ _ z => False.elim z
theorem PSs.nox {st : List Stmt} {t : TS} (h : PSs X.nox st t) : PSs X st t := fun pins s σ H D I hw =>
  wpAny_mono (h pins s σ H D (I.wish _) hw) (fun _ _ q => q.unwish) fun _ _ z => False.elim z
end

/-! ### blocks and small statements -/
section
variable {X : Cx} {st : Stmt} {rest : List Stmt} {t u : TS} {e : Expr} {te : TE} {pos : Pos}
def tNext : TS := fun D σ H => D.nx σ H
def tSeq (t u : TS) : TS := fun D σ H => t { D with nx := u D } σ H
theorem pss_nil : PSs X [] tNext := fun _ _ σ H _ I h => wpAny_execs_nil ⟨σ, H, I, h⟩
theorem pss_cons (h1 : PS X st t) (h2 : PSs X rest u) : PSs X (st :: rest) (tSeq t u) := by
  intro pins s σ H D I h
  refine wpAny_execs_cons (thn (h1 pins s σ H { D with nx := u D } I h) fun f s1 q => ?_)
  cases f with
  | next =>
    obtain ⟨σ', H', I', q⟩ := q
    exact h2 pins s1 σ' H' D I' q
  | ret v => exact q
  | brk => exact q
  | cont => exact q
theorem pss_one (h1 : PS X st t) : PSs X [st] t := by
  intro pins s σ H D I h
  refine wpAny_execs_cons (thn (h1 pins s σ H D I h) fun f s1 q => ?_)
  cases f with
  | next => exact wpAny_execs_nil q
  | ret v => exact q
  | brk => exact q
  | cont => exact q
def tBreak : TS := fun D σ H => D.bk σ H
def tCont : TS := fun D σ H => D.ct σ H
theorem ps_pass : PS X (.Pass pos) tNext := fun _ _ σ H _ I h => wpAny_Pass ⟨σ, H, I, h⟩
theorem ps_break : PS X (.Break pos) tBreak := fun _ _ σ H _ I h => wpAny_Break ⟨σ, H, I, h⟩
theorem ps_continue : PS X (.Continue pos) tCont := fun _ _ σ H _ I h => wpAny_Continue ⟨σ, H, I, h⟩
/-- in a def's body nothing is shown -/
theorem Inv.quiet {pins : List (Addr × Obj)} {σ : St} {H : Hp} {s : Shared} (I : Inv X pins σ H s) : interactive X.env = false := by simp [interactive, I.ok.kind]
/-- a docstring -/
theorem ps_doc {x j pos pos'} : PS X (.Expr (.Constant (.str x) j pos) pos') tNext := fun _ s σ H _ I h => wpAny_Expr (Calls.Constant_str (show SP X _ _ .next { s with toks := s.toks + 1 } from ⟨σ, H, I.tok _, h⟩)) I.quiet
/-- an expression whose value is dropped -/
def tDrop (te : TE) : TS := fun D σ H => te σ H fun _ H1 => D.nx σ H1
theorem ps_expr (he : PE X e te) (hs : swapsWith e none pos.line X.env = pure false := by rfl) : PS X (.Expr e pos) (tDrop te) := by
  intro pins s σ H D I h
  exact wpAny_Expr_any (thn (he pins s σ H _ I h) fun v s1 ⟨x, H1, I1, r1, q1⟩ => ⟨σ, H1, I1, q1⟩) I.quiet hs
def tRet (te : TE) : TS := fun D σ H => te σ H D.rt
theorem ps_ret (he : PE X e te) : PS X (.Return (some e) pos) (tRet te) := by
  intro pins s σ H D I h
  exact wpAny_Return_some (thn (he pins s σ H _ I h) fun v s1 ⟨x, H1, I1, r1, q1⟩ => ⟨x, σ, H1, I1, r1, q1⟩)
def tRetN : TS := fun D _ H => D.rt .non H
theorem ps_retN : PS X (.Return none pos) tRetN := fun _ _ σ H _ I h => wpAny_Return_none ⟨.non, σ, H, I, rfl, h⟩
def tIfS (c : TT) (t u : TS) : TS := fun D σ H => c σ H fun b H1 => if b = true then t D σ H1 else u D σ H1
theorem ps_if {c : Expr} {a b : List Stmt} {tc : TT} (hc : PT X c tc) (ha : PSs X a t) (hb : PSs X b u) : PS X (.If c a b pos) (tIfS tc t u) := by
  intro pins s σ H D I h
  refine wpAny_If (thn (hc pins s σ H _ I h) fun d s1 ⟨H1, I1, q1⟩ => ?_)
  cases d with
  | true => exact ha pins s1 σ H1 D I1 q1
  | false => exact hb pins s1 σ H1 D I1 q1
/-- code that the proof never comes to -/
def tNever : TS := fun _ _ _ => False
theorem ps_never : PS X st tNever := fun _ _ _ _ _ _ h => h.elim
theorem pss_never {sts : List Stmt} : PSs X sts tNever := fun _ _ _ _ _ _ h => h.elim
end

/-! ### targets -/
abbrev TG := V → St → Hp → (St → Hp → Prop) → Prop
abbrev TGs := List V → St → Hp → (St → Hp → Prop) → Prop
def PG (X : Cx) (target : Expr) (t : TG) : Prop :=
  ∀ (pins : List (Addr × Obj)) (s : Shared) (σ : St) (H : Hp) (v : V) (u : Value) (Q : St → Hp → Prop), Inv X pins σ H s → RelV v u → t v σ H Q →
    wpAny (model X.prog X.w) X.A (assign target X.env u) (fun _ s' => ∃ σ' H', Inv X pins σ' H' s' ∧ Q σ' H') X.xe s
/-- several targets, one after another -/
def PGs (X : Cx) (ts : List Expr) (t : TGs) : Prop :=
  ∀ (pins : List (Addr × Obj)) (s : Shared) (σ : St) (H : Hp) (vs : List V) (us : List Value) (Q : St → Hp → Prop), Inv X pins σ H s → Vals vs us → t vs σ H Q →
    wpAny (model X.prog X.w) X.A (assignInOrder ((assignEach ts X.env).map (·.2)) us) (fun _ s' => ∃ σ' H', Inv X pins σ' H' s' ∧ Q σ' H') X.xe s
/-- o[i] = v, by values -/
abbrev TSet := V → V → V → Hp → (Hp → Prop) → Prop
def PSet (X : Cx) (t : TSet) : Prop :=
  ∀ (pins : List (Addr × Obj)) (s : Shared) (σ : St) (H : Hp) (o i v : V) (ov iv u : Value) (Q : Hp → Prop), Inv X pins σ H s → RelV o ov → RelV i iv → RelV v u → t o i v H Q →
    wpAny (model X.prog X.w) X.A (setItem ov iv u) (fun _ s' => ∃ H', Inv X pins σ H' s' ∧ Q H') X.xe s
/-- a op= b, by values -/
abbrev TIp := V → V → Hp → VK → Prop
def PIp (X : Cx) (op : Operator) (t : TIp) : Prop :=
  ∀ (pins : List (Addr × Obj)) (s : Shared) (σ : St) (H : Hp) (x y : V) (v u : Value) (Q : VK), Inv X pins σ H s → RelV x v → RelV y u → t x y H Q →
    wpAny (model X.prog X.w) X.A (inplaceOp op v u) (EP X pins σ Q) X.xe s
section
variable {X : Cx} {pos : Pos}
def gName (i : Nat) : TG := fun v σ H Q => Q (σ.set i (some v)) H
theorem pg_name {i : Nat} {x : Str} (hN : X.N.Nodup) (hi : X.N[i]? = some x) (hx : Loc X.env.scope x) (hf : X.fn x = true ∨ X.env.scope.names.lookup x = some .local := by first | exact .inl rfl | exact .inr rfl | assumption) : PG X (.Name x pos) (gName i) := by
  intro pins s σ H v u Q I r h
  exact wpAny_assign_Name (store_ok I hN hi hx r (fun s' I' => ⟨_, H, I', h⟩) hf)
def gNil : TGs := fun vs σ H Q => vs = [] ∧ Q σ H
def gCons (t : TG) (u : TGs) : TGs := fun vs σ H Q => ∃ v r, vs = v :: r ∧ t v σ H fun σ' H' => u r σ' H' Q
theorem pgs_nil : PGs X [] gNil := by
  intro pins s σ H vs us Q I r h
  obtain ⟨e, h⟩ := h
  subst e
  cases r
  exact assignInOrder_nil ⟨σ, H, I, h⟩
theorem pgs_cons {e : Expr} {es : List Expr} {t : TG} {u : TGs} (h1 : PG X e t) (h2 : PGs X es u)
    (hs : (assignEach (e :: es) X.env).map (·.2) = assign e X.env :: (assignEach es X.env).map (·.2) := by rfl) : PGs X (e :: es) (gCons t u) := by
  intro pins s σ H vs us Q I r h
  obtain ⟨v, vr, e1, h⟩ := h
  subst e1
  cases r with
  | cons r rr =>
    rw [hs]
    refine assignInOrder_cons (thn (h1 pins s σ H _ _ _ I r h) fun _ s1 ⟨σ1, H1, I1, q1⟩ => ?_)
    exact h2 pins s1 σ1 H1 _ _ Q I1 rr q1
/-- (a, b, ..) = a tuple of that length -/
def gTup (K : PySem.W.Frag) (n : Nat) (t : TGs) : TG := fun v σ H Q => ∃ a xs, v = .ref a ∧ SqT K H a xs ∧ xs.length = n ∧ t xs σ H Q
theorem pg_tup {es : List Expr} {k : Nat} {t : TGs} {n : Nat} (hc : X.calm = true) (h : PGs X es t)
    (hn : (assignEach es X.env).length = n := by rfl) (hst : (assignEach es X.env).findIdx? (·.1) = none := by rfl) : PG X (.Tuple es k pos) (gTup X.K n t) := by
  intro pins s σ H v u Q I r hw
  obtain ⟨a, xs, e1, hq, hl, hw⟩ := hw
  subst e1
  cases r
  obtain ⟨its, rv, ht, hz⟩ := I.tuple hq
  refine assign_Tuple_tuple (I.ok.hd hc) ht (by simp [hn, ← hl, rv.length]) hst fun h' hx => ?_
  have I1 : Inv X pins σ H { s with heap := h' } := I.kept (t' := s.toks) fun b o e => hx b o (Nat.ne_of_lt (Heap.lt_size e)) e
  exact h pins _ σ H xs _ Q I1 (by simpa using rv) hw
/-- o[i] = .. -/
def gSub (to ti : TE) (t : TSet) : TG := fun v σ H Q => to σ H fun o H1 => ti σ H1 fun i H2 => t o i v H2 fun H3 => Q σ H3
theorem pg_sub {o i : Expr} {to ti : TE} {t : TSet} (ho : PE X o to) (hi : PE X i ti) (hs : PSet X t)
    (ha : ∀ v, assign (.Subscript o i pos) X.env v = (do
      let ov ← holding [v] (eval o X.env)
      let iv ← holding [v, ov] (eval i X.env)
      standAt pos
      holding [v, ov, iv] (setItem ov iv v)
      release [v, ov, iv] []) := by intro _; rfl) : PG X (.Subscript o i pos) (gSub to ti t) := by
  intro pins s σ H v u Q I r h
  rw [ha]
  refine wpAny_bind (wpAny_holding (thn (ho pins s σ H _ I h) fun ov s1 ⟨x, H1, I1, r1, q1⟩ => ?_))
  refine wpAny_bind (wpAny_holding (thn (hi pins s1 σ H1 _ I1 q1) fun iv s2 ⟨y, H2, I2, r2, q2⟩ => ?_))
  refine wpAny_bind (wpAny_standAt (wpAny_bind (wpAny_holding (thn (hs pins s2 σ H2 x y v ov iv u _ I2 r1 r2 r q2) fun _ s3 ⟨H3, I3, q3⟩ => ?_))))
  exact wpAny_release ⟨σ, H3, I3, q3⟩
/-- target = value -/
def tAsg (te : TE) (g : TG) : TS := fun D σ H => te σ H fun x H1 => g x σ H1 D.nx
theorem ps_asg {tg e : Expr} {te : TE} {g : TG} (he : PE X e te) (hg : PG X tg g) (hs : swapsWithSole [tg] e pos.line X.env = pure false := by rfl) (hw : swappedStores [tg] e X.env = pure none := by rfl)
    (h1 : (assignEach [tg] X.env).map (·.2) = [assign tg X.env] := by rfl) : PS X (.Assign [tg] e pos) (tAsg te g) := by
  intro pins s σ H D I h
  refine wpAny_Assign_stores (thn (he pins s σ H _ I h) fun v s1 ⟨x, H1, I1, r1, q1⟩ => ?_) hs hw
  rw [h1]
  exact thn (hg pins s1 σ H1 x v _ I1 r1 q1) fun _ s2 q => q
/-- name = value -/
theorem ps_set {i : Nat} {x : Str} {e : Expr} {te : TE} {pos' : Pos} (hN : X.N.Nodup) (hi : X.N[i]? = some x) (hx : Loc X.env.scope x) (he : PE X e te) (hs : swapsWith e (some (.Name x pos')) pos.line X.env = pure false := by rfl) (hf : X.fn x = true ∨ X.env.scope.names.lookup x = some .local := by first | exact .inl rfl | exact .inr rfl | assumption) :
    PS X (.Assign [.Name x pos'] e pos) (tAsg te (gName i)) := by
  intro pins s σ H D I h
  refine wpAny_Assign_Name (thn (he pins s σ H _ I h) fun v s1 ⟨y, H1, I1, r1, q1⟩ => ?_) hs
  exact store_ok I1 hN hi hx r1 (fun s2 I2 => ⟨_, H1, I2, q1⟩) hf
/-- a, b = x, y with plain local names: stored from the right; the pair itself is not tracked (the opening rows as in PyProof/Rows/TupAssign.lean:23) -/
def tPar (i j : Nat) (ta : TA) : TS := fun D σ H => ta σ H fun vs H1 => ∃ v w, vs = [v, w] ∧ D.nx ((σ.set i (some v)).set j (some w)) H1
theorem ps_par {i j : Nat} {x y : Str} {a b : Expr} {ta : TA} {px py pt : Pos} {kt k2 pt2} (hc : X.calm = true) (hN : X.N.Nodup) (hi : X.N[i]? = some x) (hj : X.N[j]? = some y) (hij : i ≠ j)
    (hx : X.env.scope.names.lookup x = some .local) (hy : X.env.scope.names.lookup y = some .local) (ha : PA X [a, b] ta)
    (hw : swappedStores [.Tuple [.Name x px, .Name y py] kt pt] (.Tuple [a, b] k2 pt2) X.env = pure (some [x, y]))
    (hs : swapsWithSole [.Tuple [.Name x px, .Name y py] kt pt] (.Tuple [a, b] k2 pt2) pos.line X.env = pure false := by rfl) :
    PS X (.Assign [.Tuple [.Name x px, .Name y py] kt pt] (.Tuple [a, b] k2 pt2) pos) (tPar i j ta) := by
  intro pins s σ H D I h
  rw [exec_Assign_arm]
  refine wpAny_bind (wpAny_standAt ?_)
  rw [hs]
  refine wpAny_bind (wpAny_pure ?_)
  rw [if_neg (by decide)]
  refine wpAny_bind (Tuple_ (thn (ha _ pins s σ H _ I h) fun us s1 ⟨vs, H1, I1, r1, q1⟩ => ?_))
  obtain ⟨v, w, e1, q1⟩ := q1
  subst e1
  obtain ⟨u1, u2, rfl, rv, rw'⟩ : ∃ u1 u2, us = [u1, u2] ∧ RelV v u1 ∧ RelV w u2 := by
    cases r1 with
    | cons p q =>
      cases q with
      | cons p' q' =>
        cases q'
        exact ⟨_, _, rfl, p, p'⟩
  refine wpAny_newObj_type ?_ (by show 2 ≤ sizeLine; decide)
  have I2 : Inv X pins σ H1 { s1 with heap := s1.heap.push { cls := .type "tuple", data := .seq [u1, u2].toArray } } := I1.kept (t' := s1.toks) fun b o e => Heap.get?_push_of_some _ e
  rw [hw]
  refine wpAny_bind (wpAny_pure ?_)
  show wpAny (model X.prog X.w) X.A (do rule "assign.swapped-stores"; let items ← unpackItems (.ref s1.heap.objs.size) 2 none; assignInOrder [fun v => bindName X.env y v, fun v => bindName X.env x v] items.reverse; pure Flow.next) _ _ _
  refine wpAny_bind (wpAny_rule (wpAny_bind (unpackItems_tuple (items := #[u1, u2]) (I.ok.hd hc) (IsTup.new s1.heap _) fun h' hx' => ?_)))
  have I3 := I2.kept (h' := h') (t' := s1.toks) fun b o e => hx' b o (Nat.ne_of_lt (Heap.lt_size e)) e
  show wpAny _ _ (assignInOrder [fun v => bindName X.env y v, fun v => bindName X.env x v] [u2, u1] >>= fun _ => pure Flow.next) _ _ _
  refine wpAny_bind (assignInOrder_cons (wpAny_bindName (store_ok I3 hN hj (.inl hy) rw' (fun s2 I4 => ?_) (.inr hy))))
  refine assignInOrder_cons (wpAny_bindName (store_ok I4 hN hi (.inl hx) rv (fun s3 I5 => assignInOrder_nil (wpAny_pure ?_)) (.inr hx)))
  rw [List.set_comm _ _ (Ne.symm hij)] at I5
  exact ⟨_, H1, I5, q1⟩
/-- name op= e -/
def tAug (i : Nat) (te : TE) (ti : TIp) : TS := fun D σ H => ∃ x, σ[i]? = some (some x) ∧ te σ H fun y H1 => ti x y H1 fun z H2 => D.nx (σ.set i (some z)) H2
theorem ps_aug {i : Nat} {x : Str} {e : Expr} {te : TE} {op : Operator} {ti : TIp} {pos' : Pos} (hN : X.N.Nodup) (hi : X.N[i]? = some x) (hx : Loc X.env.scope x) (he : PE X e te) (ho : PIp X op ti) (hf : X.fn x = true ∨ X.env.scope.names.lookup x = some .local := by first | exact .inl rfl | exact .inr rfl | assumption) :
    PS X (.AugAssign (.Name x pos') op e pos) (tAug i te ti) := by
  intro pins s σ H D I h
  obtain ⟨v, e1, h⟩ := h
  obtain ⟨m, hn, hl⟩ := I.loc
  have vis : Vis X.env.scope x := by rcases hx with k | k; exact .inl k; exact .inr (.inl k)
  obtain ⟨u, r, l⟩ := hl i x v hi e1 vis
  refine wpAny_AugAssign_Name ?_
  have go : wpAny (model X.prog X.w) X.A (eval e X.env) (fun w s₂ => wpAny (model X.prog X.w) X.A (inplaceOp op u w) (fun r s₃ => wpAny (model X.prog X.w) X.A (storeName X.env x r) (fun _ => SP X pins D .next) X.xe s₃) X.xe s₂) X.xe s := by
    refine thn (he pins s σ H _ I h) fun w s1 ⟨y, H1, I1, r1, q1⟩ => ?_
    refine thn (ho pins s1 σ H1 v y u w _ I1 r r1 q1) fun z s2 ⟨zv, H2, I2, r2, q2⟩ => ?_
    exact store_ok I2 hN hi hx r2 (fun s3 I3 => ⟨_, H2, I3, q2⟩) hf
  rcases l with ⟨hk, hm⟩ | ⟨hk, c, hc, hcell⟩
  · exact wpAny_loadName_local I.ok.kind hk hn hm go
  · rcases hk with hk | hk
    · exact wpAny_loadName_cell I.ok.kind hk hc hcell go
    · rcases hx with k | k
      · have : X.env.scope.names.lookup x = some .free := hk
        rw [k] at this; cases this
      · have : X.env.scope.names.lookup x = some .free := hk
        rw [k] at this; cases this
/-- o[i] op= e -/
def tAugS (to ti te : TE) (tget : V → V → Hp → VK → Prop) (tip : TIp) (tset : TSet) : TS := fun D σ H => to σ H fun o H1 => ti σ H1 fun i H2 => tget o i H2 fun x H3 => te σ H3 fun y H4 => tip x y H4 fun z H5 => tset o i z H5 fun H6 => D.nx σ H6
/-- o[i], by values -/
def PGet (X : Cx) (t : V → V → Hp → VK → Prop) : Prop :=
  ∀ (pins : List (Addr × Obj)) (s : Shared) (σ : St) (H : Hp) (o i : V) (ov iv : Value) (Q : VK), Inv X pins σ H s → RelV o ov → RelV i iv → t o i H Q →
    wpAny (model X.prog X.w) X.A (getItem ov iv) (EP X pins σ Q) X.xe s
theorem ps_augS {o i e : Expr} {to ti te : TE} {tget : V → V → Hp → VK → Prop} {tip : TIp} {tset : TSet} {op : Operator} {tpos : Pos} (ho : PE X o to) (hi : PE X i ti) (hg : PGet X tget) (he : PE X e te) (hp : PIp X op tip) (hs : PSet X tset)
    (ha : ∀ ov iv new, augStore i ov iv new = (do holding [new, ov, iv] (setItem ov iv new); release [new, ov, iv] []; pure .next) := by intros; rfl) : PS X (.AugAssign (.Subscript o i tpos) op e pos) (tAugS to ti te tget tip tset) := by
  intro pins s σ H D I h
  refine wpAny_AugAssign_SubscriptAny (thn (ho pins s σ H _ I h) fun ov s1 ⟨x1, H1, I1, r1, q1⟩ => ?_) ha
  refine thn (hi pins s1 σ H1 _ I1 q1) fun iv s2 ⟨x2, H2, I2, r2, q2⟩ => ?_
  refine thn (hg pins s2 σ H2 x1 x2 ov iv _ I2 r1 r2 q2) fun old s3 ⟨x3, H3, I3, r3, q3⟩ => ?_
  refine thn (he pins s3 σ H3 _ I3 q3) fun v s4 ⟨x4, H4, I4, r4, q4⟩ => ?_
  refine thn (hp pins s4 σ H4 x3 x4 old v _ I4 r3 r4 q4) fun new s5 ⟨x5, H5, I5, r5, q5⟩ => ?_
  exact thn (hs pins s5 σ H5 x1 x2 x5 ov iv new _ I5 r1 r2 r5 q5) fun _ s6 ⟨H6, I6, q6⟩ => ⟨σ, H6, I6, q6⟩
/-- ints -/
def ipI (f : Int → Int → Int) : TIp := fun x y H Q => ∃ i j, x = .int i ∧ y = .int j ∧ Q (.int (f i j)) H
theorem ip_add : PIp X .Add (ipI fun i j => i + j) := by
  intro pins s σ H x y v u Q I r1 r2 h
  obtain ⟨i, j, e1, e2, q⟩ := h
  subst e1; subst e2
  obtain ⟨t, rfl⟩ := r1
  obtain ⟨t', rfl⟩ := r2
  exact iadd_int ⟨.int _, H, I.tok _, ⟨_, rfl⟩, q⟩
theorem ip_sub : PIp X .Sub (ipI fun i j => i - j) := by
  intro pins s σ H x y v u Q I r1 r2 h
  obtain ⟨i, j, e1, e2, q⟩ := h
  subst e1; subst e2
  obtain ⟨t, rfl⟩ := r1
  obtain ⟨t', rfl⟩ := r2
  exact isub_int ⟨.int _, H, I.tok _, ⟨_, rfl⟩, q⟩
end

/-! ### while -/
section
variable {X : Cx} {pos : Pos}
/-- the invariant W with its measure -/
def tWhile (c : TT) (tb : TS) : TS := fun D σ H => ∃ W : Nat → St → Hp → Prop, (∃ m, W m σ H) ∧ ∀ m σ H, W m σ H →
  c σ H fun b H1 => if b = true then ∃ N : St → Hp → Prop, (∀ σ' H', N σ' H' → ∃ m', m' < m ∧ W m' σ' H') ∧ tb { D with nx := N, ct := N, bk := D.nx } σ H1 else D.nx σ H1
theorem ps_while {c : Expr} {body : List Stmt} {tc : TT} {tb : TS} (hp : PassesOwn (model X.prog X.w) X.A X.env X.xe) (hc : PT X c tc) (hb : PSs X body tb) : PS X (.While c body [] pos) (tWhile tc tb) := by
  intro pins s σ H D I h
  obtain ⟨W, ⟨m0, w0⟩, turn⟩ := h
  refine wpAny_While (codeAny_whileLoop (fun n s' => ∃ σ' H', Inv X pins σ' H' s' ∧ W n σ' H') ?_ m0 ⟨σ, H, I, w0⟩)
  rintro n s1 ⟨σ1, H1, I1, w1⟩
  refine wpAny_passesOwn hp (thn (hc pins s1 σ1 H1 _ I1 (turn n σ1 H1 w1)) fun b s2 ⟨H2, I2, q2⟩ => ?_)
  cases b with
  | true =>
    obtain ⟨N, hN, q2⟩ := q2
    rw [if_pos rfl]
    refine wpAny_passesOwn hp (thn (hb pins s2 σ1 H2 _ I2 q2) fun f s3 q3 => ?_)
    cases f with
    | next =>
      obtain ⟨σ3, H3, I3, n3⟩ := q3
      obtain ⟨m', hm, w3⟩ := hN σ3 H3 n3
      exact ⟨m', hm, σ3, H3, I3, w3⟩
    | cont =>
      obtain ⟨σ3, H3, I3, n3⟩ := q3
      obtain ⟨m', hm, w3⟩ := hN σ3 H3 n3
      exact ⟨m', hm, σ3, H3, I3, w3⟩
    | brk => exact q3
    | ret v => exact q3
  | false =>
    rw [if_neg Bool.false_ne_true]
    exact wpAny_execs_nil ⟨σ1, H2, I2, q2⟩
end

/-! ### what a loop or a comprehension walks -/
/-- at turn i: it yields x (the heap may grow), or it stops -/
structure It where
  go : Nat → Hp → Prop
  yld : Nat → Hp → V → Hp → Prop
  stop : Nat → Hp → Prop
/-- the iterator's own objects may turn: they are not the frame's, not pinned, younger than the entry (or a comprehension's own) -/
def FpOk (X : Cx) (pins : List (Addr × Obj)) (H : Hp) (b : Addr) : Prop :=
  H b = none ∧ b ≠ X.env.locals ∧ b ∉ X.fs ∧ (b ∈ X.ex ∨ X.s₀.heap.objs.size ≤ b) ∧ (∀ x c, X.env.cells.lookup x = some c → c ≠ b) ∧ ∀ p ∈ X.pn ++ pins, p.1 ≠ b
theorem Inv.fpOk {X : Cx} {pins : List (Addr × Obj)} {σ : St} {H H' : Hp} {s : Shared} {b : Addr} (I : Inv X pins σ H s) (hb : s.heap.objs.size ≤ b) (hn : H' b = none) : FpOk X pins H' b := by
  refine ⟨hn, Nat.ne_of_gt (Nat.lt_of_lt_of_le I.lt hb), I.nofs hb, .inr (Nat.le_trans I.sz hb), fun x c e z => ?_, fun p hp z => ?_⟩
  · obtain ⟨v, q⟩ := I.cell x c e
    exact absurd (Nat.lt_of_lt_of_le q.lt (by rw [z]; exact hb)) (Nat.lt_irrefl _)
  · exact absurd (Nat.lt_of_lt_of_le (Heap.lt_size (I.pin p hp).1) (by rw [z]; exact hb)) (Nat.lt_irrefl _)
structure Turn (P : Program) (w : World) (K : PySem.W.Frag) (tg : Expr) (J : It) (fp : List Addr) (it : Addr) (tn : Nat → Heap → Prop) : Prop where
  mem : it ∈ fp
  obj : ∀ i h, tn i h → ∀ b ∈ fp, ∃ o, h.get? b = some o ∧ ∀ v, o.data ≠ .cell v
  keep : ∀ i h h', tn i h → (∀ b ∈ fp, ∀ o, h.get? b = some o → h'.get? b = some o) → tn i h'
  item : ∀ (X : Cx), X.prog = P → X.w = w → X.K = K → X.calm = true → ∀ (i : Nat) (pins : List (Addr × Obj)) (s : Shared) (σ : St) (H : Hp) (E : Value → Shared → Prop), Inv X pins σ H s → (∀ b ∈ fp, FpOk X pins H b) → tn i s.heap → J.go i H →
    wpAny (model P w) X.A (pyNext (.ref it)) (fun r s1 => ∃ u, r = some u ∧
      wpAny (model P w) X.A (letOwnedTupleGo tg (.ref it) u) (fun _ s2 => ∃ x H', Inv X pins σ H' s2 ∧ RelV x u ∧ J.yld i H x H' ∧ tn (i + 1) s2.heap ∧ ∀ b ∈ fp, H' b = none) E s1) E s
  done : ∀ (X : Cx), X.prog = P → X.w = w → X.K = K → X.calm = true → ∀ (i : Nat) (pins : List (Addr × Obj)) (s : Shared) (σ : St) (H : Hp) (E : Value → Shared → Prop), Inv X pins σ H s → (∀ b ∈ fp, FpOk X pins H b) → tn i s.heap → J.stop i H →
    wpAny (model P w) X.A (pyNext (.ref it)) (fun r s1 => r = none ∧ Inv X pins σ H s1) E s
  self : ∀ (A : Around) (i : Nat) (s : Shared) (Q : Value → Shared → Prop) (E : Value → Shared → Prop), tn i s.heap → Q (.ref it) s → wpAny (model P w) A (pyIter (.ref it)) Q E s
abbrev TI := St → Hp → (It → Hp → Prop) → Prop
/-- an iterator has come -/
def PIE (X : Cx) (pins : List (Addr × Obj)) (σ : St) (tg : Expr) (R : It → Hp → Prop) (itv : Value) (s2 : Shared) : Prop :=
  ∃ (it : Addr) (fp : List Addr) (tn : Nat → Heap → Prop) (J : It) (H' : Hp), itv = .ref it ∧ Inv X pins σ H' s2 ∧ Turn X.prog X.w X.K tg J fp it tn ∧ tn 0 s2.heap ∧ (∀ b ∈ fp, FpOk X pins H' b) ∧ R J H'
def PI (X : Cx) (tg iter : Expr) (wi : TI) : Prop :=
  ∀ (pins : List (Addr × Obj)) (s : Shared) (σ : St) (H : Hp) (R : It → Hp → Prop), Inv X pins σ H s → wi σ H R →
    wpAny (model X.prog X.w) X.A (eval iter X.env) (fun v s1 => wpAny (model X.prog X.w) X.A (pyIter v) (PIE X pins σ tg R) X.xe s1) X.xe s

/-- the step ahead of the store is nothing for an iterator that keeps no tuple -/
theorem go_of {M : Model} {A : Around} {E : Value → Shared → Prop} {s : Shared} {tg : Expr} {it : Addr} {u : Value} {o : Obj} {n : String} {vs : Array Value} {Q : Unit → Shared → Prop} (ho : s.heap.get? it = some o) (hc : o.cls = .type n) (hd : o.data = .fields vs)
    (hn : ["enumerate", "zip", "dict_itemiterator", "dict_reverseitemiterator", "odict_iterator", "itertools.zip_longest", "itertools.pairwise"].contains n = false) (hQ : Q () s) : wpAny M A (letOwnedTupleGo tg (.ref it) u) Q E s := by
  unfold letOwnedTupleGo
  cases tg <;> first
    | exact wpAny_pure hQ
    | (cases u <;> first
        | exact wpAny_pure hQ
        | (refine wpAny_bind (wpAny_load ho ?_)
           rw [hc, hd]
           show wpAny M A (if (["enumerate", "zip", "dict_itemiterator", "dict_reverseitemiterator", "odict_iterator", "itertools.zip_longest", "itertools.pairwise"].contains n && vs[0]? == some (rawInt _)) = true then _ else _) Q E s
           rw [if_neg (by intro h; rw [hn, Bool.false_and] at h; cases h)]
           exact wpAny_pure hQ))

/-- the list at a, as it stands at each turn (a loop may append to it) -/
def Itl (K : PySem.W.Frag) (a : Addr) : It :=
  ⟨fun i H => ∃ xs x, SqL K H a xs ∧ xs[i]? = some x, fun i H x H' => H' = H ∧ ∀ xs, SqL K H a xs → xs[i]? = some x, fun i H => ∃ xs, SqL K H a xs ∧ xs.length ≤ i⟩
def Itt (K : PySem.W.Frag) (a : Addr) : It :=
  ⟨fun i H => ∃ xs x, SqT K H a xs ∧ xs[i]? = some x, fun i H x H' => H' = H ∧ ∀ xs, SqT K H a xs → xs[i]? = some x, fun i H => ∃ xs, SqT K H a xs ∧ xs.length ≤ i⟩
/-- lo, lo + 1, .. (n of them) -/
def Itr (lo : Int) (n : Nat) : It := ⟨fun i _ => i < n, fun i H x H' => H' = H ∧ x = .int (lo + i), fun i _ => n ≤ i⟩
theorem turn_list {P : Program} {w : World} {K : PySem.W.Frag} {tg : Expr} (a it : Addr) : Turn P w K tg (Itl K a) [it] it (fun i h => h.IsListIter it a i) where
  mem := by simp
  obj := fun i h st b hb => by
    have e : b = it := by simpa using hb
    subst e
    obtain ⟨o, e, c, d⟩ := st
    exact ⟨o, e, fun v z => by rw [d] at z; cases z⟩
  keep := fun i h h' st k => st.at fun o e => k it (by simp) o e
  item := by
    intro X hP hw hK hc i pins s σ H E I hf st hg
    subst hP hw hK
    obtain ⟨xs, x, hq, hx⟩ := hg
    obtain ⟨its, rv, p, hz⟩ := I.list hq
    obtain ⟨u, hu, ru⟩ := rv.get hx
    obtain ⟨f0, f1, f2, f3, f4, f5⟩ := hf it (by simp)
    refine wpAny_pyNext_list_item st p.isList (x := u) (by simpa using hu) fun h' st' sb => ?_
    have I1 : Inv X pins σ H { s with heap := h' } := I.turned (t' := s.toks) (fun b o hb e => (sb.2 b hb).trans e) f0 f1 f3 f4 f5
    obtain ⟨o, e, c, d⟩ := id st'
    exact ⟨u, rfl, go_of (s := { s with heap := h' }) e c d (by decide) ⟨x, H, I1, ru, ⟨rfl, fun ys hy => by rw [I.list_inj hy hq]; exact hx⟩, st', fun b hb => (hf b hb).1⟩⟩
  done := by
    intro X hP hw hK hc i pins s σ H E I hf st hg
    subst hP hw hK
    obtain ⟨xs, hq, hx⟩ := hg
    obtain ⟨its, rv, p, hz⟩ := I.list hq
    obtain ⟨f0, f1, f2, f3, f4, f5⟩ := hf it (by simp)
    have hl := rv.length
    exact wpAny_pyNext_list_end (I.ok.hd hc) st p.isList (by simp; omega) fun h' eb => ⟨rfl, I.turned (t' := s.toks) (fun b o hb e => eb b o hb e) f0 f1 f3 f4 f5⟩
  self := fun _ _ _ _ _ st h => wpAny_pyIter_listiter st h
theorem turn_tuple {P : Program} {w : World} {K : PySem.W.Frag} {tg : Expr} (a it : Addr) : Turn P w K tg (Itt K a) [it] it (fun i h => h.IsTupleIter it a i) where
  mem := by simp
  obj := fun i h st b hb => by
    have e : b = it := by simpa using hb
    subst e
    obtain ⟨o, e, c, d⟩ := st
    exact ⟨o, e, fun v z => by rw [d] at z; cases z⟩
  keep := fun i h h' st k => st.at fun o e => k it (by simp) o e
  item := by
    intro X hP hw hK hc i pins s σ H E I hf st hg
    subst hP hw hK
    obtain ⟨xs, x, hq, hx⟩ := hg
    obtain ⟨its, rv, p, hz⟩ := I.tuple hq
    obtain ⟨u, hu, ru⟩ := rv.get hx
    obtain ⟨f0, f1, f2, f3, f4, f5⟩ := hf it (by simp)
    refine wpAny_pyNext_tuple_item st (show s.heap.IsTuple a its.toArray from p) (x := u) (by simpa using hu) fun h' st' sb => ?_
    have I1 : Inv X pins σ H { s with heap := h' } := I.turned (t' := s.toks) (fun b o hb e => (sb.2 b hb).trans e) f0 f1 f3 f4 f5
    obtain ⟨o, e, c, d⟩ := id st'
    exact ⟨u, rfl, go_of (s := { s with heap := h' }) e c d (by decide) ⟨x, H, I1, ru, ⟨rfl, fun ys hy => by rw [I.tuple_inj hy hq]; exact hx⟩, st', fun b hb => (hf b hb).1⟩⟩
  done := by
    intro X hP hw hK hc i pins s σ H E I hf st hg
    subst hP hw hK
    obtain ⟨xs, hq, hx⟩ := hg
    obtain ⟨its, rv, p, hz⟩ := I.tuple hq
    obtain ⟨f0, f1, f2, f3, f4, f5⟩ := hf it (by simp)
    have hl := rv.length
    exact wpAny_pyNext_tuple_end (I.ok.hd hc) st (show s.heap.IsTuple a its.toArray from p) (by simp; omega) fun h' eb => ⟨rfl, I.turned (t' := s.toks) (fun b o hb e => eb b o hb e) f0 f1 f3 f4 f5⟩
  self := fun _ _ _ _ _ st h => wpAny_pyIter_tupleiter st h
theorem turn_range {P : Program} {w : World} {K : PySem.W.Frag} {tg : Expr} (it : Addr) (lo : Int) (n : Nat) : Turn P w K tg (Itr lo n) [it] it (fun i h => IsRangeIter h it (lo + (i : Nat) * 1) ((n : Int) - (i : Nat)) 1) where
  mem := by simp
  obj := fun i h st b hb => by
    have e : b = it := by simpa using hb
    subst e
    exact ⟨_, st, fun v z => by
      have z' : Data.fields _ = Data.cell v := z
      cases z'⟩
  keep := fun i h h' st k => k it (by simp) _ st
  item := by
    intro X hP hw hK hc i pins s σ H E I hf st hg
    subst hP hw hK
    obtain ⟨f0, f1, f2, f3, f4, f5⟩ := hf it (by simp)
    have W := Walks.range (prog := X.prog) (w := X.w) (I.ok.hd hc) it lo 1 n
    refine W.item i s _ _ hg st fun v h' tk hv st' kk => ?_
    obtain ⟨t, rfl⟩ := hv
    have I1 : Inv X pins σ H { s with heap := h', toks := tk } := I.turned (fun b o hb e => kk b o (by simpa using hb) e) f0 f1 f3 f4 f5
    refine ⟨_, rfl, go_of (s := { s with heap := h', toks := tk }) (n := "range_iterator") st' rfl rfl (by decide) ⟨.int (lo + i), H, I1, ⟨t, ?_⟩, ⟨rfl, rfl⟩, st', fun b hb => (hf b hb).1⟩⟩
    rw [Int.mul_one]
  done := by
    intro X hP hw hK hc i pins s σ H E I hf st hg
    subst hP hw hK
    obtain ⟨f0, f1, f2, f3, f4, f5⟩ := hf it (by simp)
    exact wpAny_pyNext_range_end (I.ok.hd hc) st (by have : n ≤ i := hg; omega) fun h' eb => ⟨rfl, I.turned (t' := s.toks) (fun b o hb e => eb b o hb e) f0 f1 f3 f4 f5⟩
  self := fun _ _ _ _ _ st h => wpAny_pyIter_rangeiter st h
end L2

namespace L2
open PySem PySem.Spec PyProof.Rows
section
variable {X : Cx} {tg : Expr}
def iList (K : PySem.W.Frag) (tl : TE) : TI := fun σ H R => tl σ H fun x H1 => ∃ a, x = .ref a ∧ (∃ xs, SqL K H1 a xs) ∧ R (Itl K a) H1
def iTup (K : PySem.W.Frag) (tl : TE) : TI := fun σ H R => tl σ H fun x H1 => ∃ a, x = .ref a ∧ (∃ xs, SqT K H1 a xs) ∧ R (Itt K a) H1
theorem pi_list {l : Expr} {tl : TE} (hl : PE X l tl) : PI X tg l (iList X.K tl) := by
  intro pins s σ H R I h
  refine thn (hl pins s σ H _ I h) fun v s1 ⟨x, H1, I1, r1, q1⟩ => ?_
  obtain ⟨a, e, ⟨xs, hq⟩, q⟩ := q1
  subst e
  cases r1
  obtain ⟨its, rv, p, hz⟩ := I1.list hq
  refine wpAny_pyIter_list p.isList ?_
  refine ⟨s1.heap.objs.size, [s1.heap.objs.size], _, _, H1, rfl, I1.kept (t' := s1.toks) fun b o e => Heap.get?_push_of_some _ e, turn_list a _, ⟨_, Heap.get?_push_size _ rfl, rfl, rfl⟩, fun b hb => ?_, q⟩
  have e : b = s1.heap.objs.size := by simpa using hb
  subst e
  exact I1.fpOk (Nat.le_refl _) (I1.hok.fresh (Nat.le_refl _))
theorem pi_tup {l : Expr} {tl : TE} (hl : PE X l tl) : PI X tg l (iTup X.K tl) := by
  intro pins s σ H R I h
  refine thn (hl pins s σ H _ I h) fun v s1 ⟨x, H1, I1, r1, q1⟩ => ?_
  obtain ⟨a, e, ⟨xs, hq⟩, q⟩ := q1
  subst e
  cases r1
  obtain ⟨its, rv, p, hz⟩ := I1.tuple hq
  refine wpAny_pyIter_tuple (show s1.heap.IsTuple a its.toArray from p) ?_
  refine ⟨s1.heap.objs.size, [s1.heap.objs.size], _, _, H1, rfl, I1.kept (t' := s1.toks) fun b o e => Heap.get?_push_of_some _ e, turn_tuple a _, ⟨_, Heap.get?_push_size _ rfl, rfl, rfl⟩, fun b hb => ?_, q⟩
  have e : b = s1.heap.objs.size := by simpa using hb
  subst e
  exact I1.fpOk (Nat.le_refl _) (I1.hok.fresh (Nat.le_refl _))
/-- a range object just made, walked -/
theorem range_it {pins : List (Addr × Obj)} {σ : St} {H : Hp} {s : Shared} {R : It → Hp → Prop} {E : Value → Shared → Prop} {lo hi : Int} {t u v : Tok} {tk : Nat} (I : Inv X pins σ H s) (h1 : -(2 ^ 62) ≤ lo) (h2 : lo < 2 ^ 62) (h3 : -(2 ^ 62) ≤ hi) (h4 : hi < 2 ^ 62)
    (q : R (Itr lo (hi - lo).toNat) H) : wpAny (model X.prog X.w) X.A (pyIter (.ref s.heap.objs.size)) (PIE X pins σ tg R) E { s with heap := s.heap.push { cls := .type "range", data := .fields #[.int lo t, .int hi u, .int 1 v] }, toks := tk } := by
  refine wpAny_pyIter_range (IsRange.new ..) (small_one h1 h2 h3 h4) ?_
  have I1 : Inv X pins σ H { s with heap := s.heap.push { cls := .type "range", data := .fields #[.int lo t, .int hi u, .int 1 v] }, toks := tk } := I.kept fun b o e => Heap.get?_push_of_some _ e
  refine ⟨(s.heap.push { cls := .type "range", data := .fields #[.int lo t, .int hi u, .int 1 v] }).objs.size, [(s.heap.push { cls := .type "range", data := .fields #[.int lo t, .int hi u, .int 1 v] }).objs.size], _, _, H, rfl,
    I1.kept (t' := tk) fun b o e => Heap.get?_push_of_some _ e, turn_range _ lo (hi - lo).toNat, ?_, fun b hb => ?_, q⟩
  · have e1 : lo + ((0 : Nat) : Int) * 1 = lo := by simp
    have e2 : (((hi - lo).toNat : Nat) : Int) - ((0 : Nat) : Int) = Builtin.Range.rangeSize lo hi 1 := by rw [rangeSize_one]; split <;> omega
    show IsRangeIter _ _ (lo + ((0 : Nat) : Int) * 1) ((((hi - lo).toNat : Nat) : Int) - ((0 : Nat) : Int)) 1
    rw [e1, e2]
    exact Heap.get?_push_size _ rfl
  · have e : b = (s.heap.push { cls := .type "range", data := .fields #[.int lo t, .int hi u, .int 1 v] }).objs.size := by simpa using hb
    subst e
    exact I1.fpOk (Nat.le_refl _) (I1.hok.fresh (Nat.le_refl _))
def iRng1 (ta : TA) : TI := fun σ H R => ta σ H fun vs H1 => ∃ j : Int, vs = [.int j] ∧ -(2 ^ 62) ≤ j ∧ j < 2 ^ 62 ∧ R (Itr 0 j.toNat) H1
def iRng2 (ta : TA) : TI := fun σ H R => ta σ H fun vs H1 => ∃ i j : Int, vs = [.int i, .int j] ∧ (-(2 ^ 62) ≤ i ∧ i < 2 ^ 62 ∧ -(2 ^ 62) ≤ j ∧ j < 2 ^ 62) ∧ R (Itr i (j - i).toNat) H1
theorem pi_range1 {a : Expr} {ta : TA} {p pos : Pos} (hg : Gl X "range") (hm : X.mg "range" = none) (ha : PA X [a] ta) (hs : starEach [a] X.env = [(false, eval a X.env)] := by rfl) : PI X tg (.Call (.Name "range" p) [a] [] pos) (iRng1 ta) := by
  intro pins s σ H R I h
  refine Call_ (ld_blt I hg hm boot_range (PyProof.Rows.callWith_type1 (thn (ha pos pins s σ H _ I h) fun us s1 ⟨vs, H1, I1, r1, q1⟩ => ?_) hs rfl))
  obtain ⟨j, e, q1, q2, q⟩ := q1
  subst e
  cases r1 with
  | cons r rr =>
    cases rr
    obtain ⟨t, rfl⟩ := r
    exact call_range_1 (range_it I1 (by omega) (by omega) q1 q2 (by simpa using q))
theorem pi_range2 {a b : Expr} {ta : TA} {p pos : Pos} (hg : Gl X "range") (hm : X.mg "range" = none) (ha : PA X [a, b] ta) (hs : starEach [a, b] X.env = [(false, eval a X.env), (false, eval b X.env)] := by rfl) (hs2 : starEach [b] X.env = [(false, eval b X.env)] := by rfl) :
    PI X tg (.Call (.Name "range" p) [a, b] [] pos) (iRng2 ta) := by
  intro pins s σ H R I h
  refine Call_ (ld_blt I hg hm boot_range (PyProof.Rows.callWith_type1 (thn (ha pos pins s σ H _ I h) fun us s1 ⟨vs, H1, I1, r1, q1⟩ => ?_) (by rw [hs, hs2]) (by rw [hs2]; rfl)))
  obtain ⟨i, j, e, ⟨q1, q2, q3, q4⟩, q⟩ := q1
  subst e
  cases r1 with
  | cons r rr =>
    cases rr with
    | cons r' rr =>
      cases rr
      obtain ⟨t, rfl⟩ := r
      obtain ⟨t', rfl⟩ := r'
      exact call_range_2 (range_it I1 q1 q2 q3 q4 q)

/-! ### for -/
/-- W: the invariant by the turn and a measure; N: what the body is to reach -/
def tFor (wi : TI) (g : TG) (tb : TS) : TS := fun D σ H => wi σ H fun J H1 => ∃ W : Nat → Nat → St → Hp → Prop, (∃ m, W 0 m σ H1) ∧ ∀ i m σ H, W i m σ H →
  (J.stop i H ∧ D.nx σ H) ∨ (J.go i H ∧ ∃ N : St → Hp → Prop, (∀ σ' H', N σ' H' → ∃ m', m' < m ∧ W (i + 1) m' σ' H') ∧ ∀ x H', J.yld i H x H' → g x σ H' fun σ2 H2 => tb { D with nx := N, ct := N, bk := D.nx } σ2 H2)
/-- the records at fp as they stand -/
def pinsAt (fp : List Addr) (h : Heap) : List (Addr × Obj) := fp.filterMap fun b => (h.get? b).map fun o => (b, o)
theorem mem_pinsAt {fp : List Addr} {h : Heap} {b : Addr} {o : Obj} (hb : b ∈ fp) (e : h.get? b = some o) : (b, o) ∈ pinsAt fp h := List.mem_filterMap.mpr ⟨b, hb, by rw [e]; rfl⟩
theorem of_pinsAt {fp : List Addr} {h : Heap} {p : Addr × Obj} (hp : p ∈ pinsAt fp h) : p.1 ∈ fp ∧ h.get? p.1 = some p.2 := by
  obtain ⟨b, hb, e⟩ := List.mem_filterMap.mp hp
  cases q : h.get? b with
  | none => rw [q] at e; cases e
  | some o =>
    rw [q] at e
    have e' : (b, o) = p := Option.some.inj e
    subst e'
    exact ⟨hb, q⟩
theorem Inv.pinned {pins : List (Addr × Obj)} {σ : St} {H : Hp} {s : Shared} {fp : List Addr} (I : Inv X pins σ H s) (hf : ∀ b ∈ fp, FpOk X pins H b) (ho : ∀ b ∈ fp, ∃ o, s.heap.get? b = some o ∧ ∀ v, o.data ≠ .cell v) : Inv X (pins ++ pinsAt fp s.heap) σ H s :=
  I.pins_of fun p hp => (List.mem_append.mp hp).elim (fun z => I.pin p (List.mem_append_right _ z)) fun z => by
    obtain ⟨hb, e⟩ := of_pinsAt z
    obtain ⟨f0, f1, f2, _⟩ := hf p.1 hb
    obtain ⟨o, e', d⟩ := ho p.1 hb
    rw [e] at e'; cases e'
    exact ⟨e, f0, f1, f2, d⟩
theorem Inv.unpinned {pins pl : List (Addr × Obj)} {σ : St} {H : Hp} {s : Shared} (I : Inv X (pins ++ pl) σ H s) : Inv X pins σ H s := I.pins_of fun p hp => I.pin p (List.mem_append_right _ (List.mem_append_left _ hp))
theorem ps_for {iter : Expr} {body : List Stmt} {wi : TI} {g : TG} {tb : TS} {pos : Pos} (hp : PassesOwn (model X.prog X.w) X.A X.env X.xe) (hc : X.calm = true) (hi : PI X tg iter wi) (hg : PG X tg g) (hb : PSs X body tb)
    (hs : ∀ x, foldedSetIterable iter X.env x = pure x := by intro _; rfl) : PS X (.For tg iter body [] pos) (tFor wi g tb) := by
  intro pins s σ H D I h
  refine wpAny_For (thn (hi pins s σ H _ I h) fun v s1 h1 => thn h1 fun itv s2 h2 => ?_) hs
  obtain ⟨it, fp, tn, J, H2, e, I2, T, st2, f2, W, ⟨m0, w0⟩, turn⟩ := h2
  subst e
  -- what stays true of the iterator's objects through the loop
  have stat : ∀ {H' : Hp}, (∀ b ∈ fp, H' b = none) → ∀ b ∈ fp, FpOk X pins H' b := fun hn b hb => ⟨hn b hb, (f2 b hb).2⟩
  refine codeAny_forLoop_any (fun n s' => ∃ i σ' H', Inv X pins σ' H' s' ∧ tn i s'.heap ∧ (∀ b ∈ fp, H' b = none) ∧ W i n σ' H') ?_ m0 ⟨0, σ, H2, I2, st2, fun b hb => (f2 b hb).1, w0⟩
  rintro n s3 ⟨i, σ3, H3, I3, st3, fr3, w3⟩
  rcases turn i n σ3 H3 w3 with ⟨stop, qn⟩ | ⟨go, N, hN, step⟩
  · refine wpAny_passesOwn hp (thn (T.done X rfl rfl rfl hc i pins s3 σ3 H3 X.xe I3 (stat fr3) st3 stop) fun r s4 ⟨hr, I4⟩ => ?_)
    subst hr
    exact wpAny_execs_nil ⟨σ3, H3, I4, qn⟩
  · refine wpAny_passesOwn hp (thn (T.item X rfl rfl rfl hc i pins s3 σ3 H3 X.xe I3 (stat fr3) st3 go) fun r s4 ⟨u, hr, h4⟩ => ?_)
    subst hr
    refine wpAny_passesOwn hp (thn h4 fun _ s5 ⟨x, H5, I5, r5, y5, st5, fr5⟩ => ?_)
    have I5' := I5.pinned (stat fr5) (T.obj _ _ st5)
    refine wpAny_passesOwn hp (thn (hg _ s5 σ3 H5 x u _ I5' r5 (step x H5 y5)) fun _ s6 ⟨σ6, H6, I6, q6⟩ => ?_)
    refine wpAny_passesOwn hp (thn (hb _ s6 σ6 H6 _ I6 q6) fun f s7 q7 => ?_)
    have again : ∀ {σ7 : St} {H7 : Hp}, Inv X (pins ++ pinsAt fp s5.heap) σ7 H7 s7 → N σ7 H7 → ∃ m, m < n ∧ ∃ i σ' H', Inv X pins σ' H' s7 ∧ tn i s7.heap ∧ (∀ b ∈ fp, H' b = none) ∧ W i m σ' H' := fun {σ7 H7} I7 n7 => by
      obtain ⟨m', hm, w7⟩ := hN σ7 H7 n7
      refine ⟨m', hm, i + 1, σ7, H7, I7.unpinned, T.keep _ _ _ st5 fun b hb o e => (I7.pin (b, o) (List.mem_append_right _ (List.mem_append_right _ (mem_pinsAt hb e)))).1, fun b hb => ?_, w7⟩
      obtain ⟨o, e, d⟩ := T.obj _ _ st5 b hb
      exact (I7.pin (b, o) (List.mem_append_right _ (List.mem_append_right _ (mem_pinsAt hb e)))).2.1
    cases f with
    | next => obtain ⟨σ7, H7, I7, n7⟩ := q7; exact again I7 n7
    | cont => obtain ⟨σ7, H7, I7, n7⟩ := q7; exact again I7 n7
    | brk => obtain ⟨σ7, H7, I7, q7⟩ := q7; exact ⟨σ7, H7, I7.unpinned, q7⟩
    | ret v => obtain ⟨x7, σ7, H7, I7, r7, q7⟩ := q7; exact ⟨x7, σ7, H7, I7.unpinned, r7, q7⟩
end

/-! ### the forms one uses -/
/-- over a list that the body leaves as it is -/
theorem for_list {K : PySem.W.Frag} {a : Addr} {xs : List V} {g : TG} {tb : TS} {D : Ends} {σ : St} {H : Hp} (Pv : Nat → St → Hp → Prop) (h0 : Pv 0 σ H) (hl : ∀ i σ H, i ≤ xs.length → Pv i σ H → SqL K H a xs)
    (hs : ∀ i x σ H, xs[i]? = some x → Pv i σ H → g x σ H fun σ2 H2 => tb { D with nx := Pv (i + 1), ct := Pv (i + 1), bk := D.nx } σ2 H2) (hd : ∀ σ H, Pv xs.length σ H → D.nx σ H) :
    ∃ W : Nat → Nat → St → Hp → Prop, (∃ m, W 0 m σ H) ∧ ∀ i m σ H, W i m σ H →
      ((Itl K a).stop i H ∧ D.nx σ H) ∨ ((Itl K a).go i H ∧ ∃ N : St → Hp → Prop, (∀ σ' H', N σ' H' → ∃ m', m' < m ∧ W (i + 1) m' σ' H') ∧ ∀ x H', (Itl K a).yld i H x H' → g x σ H' fun σ2 H2 => tb { D with nx := N, ct := N, bk := D.nx } σ2 H2) := by
  refine ⟨fun i m σ H => m = xs.length - i ∧ i ≤ xs.length ∧ Pv i σ H, ⟨xs.length, by simp, Nat.zero_le _, h0⟩, ?_⟩
  rintro i m σ H ⟨rfl, hi, p⟩
  have q := hl i σ H hi p
  by_cases hlt : i < xs.length
  · refine .inr ⟨⟨xs, xs[i], q, by simp [hlt]⟩, Pv (i + 1), fun σ' H' p' => ⟨xs.length - (i + 1), by omega, rfl, hlt, p'⟩, fun x H' y => ?_⟩
    obtain ⟨e, y⟩ := y
    subst e
    exact hs i x σ _ (y xs q) p
  · have e : i = xs.length := by omega
    subst e
    exact .inl ⟨⟨xs, q, Nat.le_refl _⟩, hd σ H p⟩
theorem for_tup {K : PySem.W.Frag} {a : Addr} {xs : List V} {g : TG} {tb : TS} {D : Ends} {σ : St} {H : Hp} (Pv : Nat → St → Hp → Prop) (h0 : Pv 0 σ H) (hl : ∀ i σ H, i ≤ xs.length → Pv i σ H → SqT K H a xs)
    (hs : ∀ i x σ H, xs[i]? = some x → Pv i σ H → g x σ H fun σ2 H2 => tb { D with nx := Pv (i + 1), ct := Pv (i + 1), bk := D.nx } σ2 H2) (hd : ∀ σ H, Pv xs.length σ H → D.nx σ H) :
    ∃ W : Nat → Nat → St → Hp → Prop, (∃ m, W 0 m σ H) ∧ ∀ i m σ H, W i m σ H →
      ((Itt K a).stop i H ∧ D.nx σ H) ∨ ((Itt K a).go i H ∧ ∃ N : St → Hp → Prop, (∀ σ' H', N σ' H' → ∃ m', m' < m ∧ W (i + 1) m' σ' H') ∧ ∀ x H', (Itt K a).yld i H x H' → g x σ H' fun σ2 H2 => tb { D with nx := N, ct := N, bk := D.nx } σ2 H2) := by
  refine ⟨fun i m σ H => m = xs.length - i ∧ i ≤ xs.length ∧ Pv i σ H, ⟨xs.length, by simp, Nat.zero_le _, h0⟩, ?_⟩
  rintro i m σ H ⟨rfl, hi, p⟩
  have q := hl i σ H hi p
  by_cases hlt : i < xs.length
  · refine .inr ⟨⟨xs, xs[i], q, by simp [hlt]⟩, Pv (i + 1), fun σ' H' p' => ⟨xs.length - (i + 1), by omega, rfl, hlt, p'⟩, fun x H' y => ?_⟩
    obtain ⟨e, y⟩ := y
    subst e
    exact hs i x σ _ (y xs q) p
  · have e : i = xs.length := by omega
    subst e
    exact .inl ⟨⟨xs, q, Nat.le_refl _⟩, hd σ H p⟩
theorem for_range {lo : Int} {n : Nat} {g : TG} {tb : TS} {D : Ends} {σ : St} {H : Hp} (Pv : Nat → St → Hp → Prop) (h0 : Pv 0 σ H)
    (hs : ∀ i σ H, i < n → Pv i σ H → g (.int (lo + i)) σ H fun σ2 H2 => tb { D with nx := Pv (i + 1), ct := Pv (i + 1), bk := D.nx } σ2 H2) (hd : ∀ σ H, Pv n σ H → D.nx σ H) :
    ∃ W : Nat → Nat → St → Hp → Prop, (∃ m, W 0 m σ H) ∧ ∀ i m σ H, W i m σ H →
      ((Itr lo n).stop i H ∧ D.nx σ H) ∨ ((Itr lo n).go i H ∧ ∃ N : St → Hp → Prop, (∀ σ' H', N σ' H' → ∃ m', m' < m ∧ W (i + 1) m' σ' H') ∧ ∀ x H', (Itr lo n).yld i H x H' → g x σ H' fun σ2 H2 => tb { D with nx := N, ct := N, bk := D.nx } σ2 H2) := by
  refine ⟨fun i m σ H => m = n - i ∧ i ≤ n ∧ Pv i σ H, ⟨n, by simp, Nat.zero_le _, h0⟩, ?_⟩
  rintro i m σ H ⟨rfl, hi, p⟩
  by_cases hlt : i < n
  · refine .inr ⟨hlt, Pv (i + 1), fun σ' H' p' => ⟨n - (i + 1), by omega, rfl, hlt, p'⟩, fun x H' y => ?_⟩
    obtain ⟨e, y⟩ := y
    subst e y
    exact hs i σ _ hlt p
  · have e : i = n := by omega
    subst e
    exact .inl ⟨Nat.le_refl _, hd σ H p⟩
/-- while, by a word and a measure of the state -/
theorem while_by {c : TT} {tb : TS} {D : Ends} {σ : St} {H : Hp} (Pv : St → Hp → Prop) (μ : St → Hp → Nat) (h0 : Pv σ H)
    (hs : ∀ σ H, Pv σ H → c σ H fun b H1 => if b = true then tb { D with nx := fun σ' H' => Pv σ' H' ∧ μ σ' H' < μ σ H, ct := fun σ' H' => Pv σ' H' ∧ μ σ' H' < μ σ H, bk := D.nx } σ H1 else D.nx σ H1)
    (mono : ∀ σ H Q Q', (∀ b H1, Q b H1 → Q' b H1) → c σ H Q → c σ H Q') : tWhile c tb D σ H := by
  refine ⟨fun m σ H => m = μ σ H ∧ Pv σ H, ⟨_, rfl, h0⟩, ?_⟩
  rintro m σ H ⟨rfl, p⟩
  refine mono σ H _ _ (fun b H1 q => ?_) (hs σ H p)
  cases b with
  | true => exact ⟨_, fun σ' H' ⟨p', l⟩ => ⟨_, l, rfl, p'⟩, q⟩
  | false => exact q
end L2

namespace L2
open PySem PySem.Spec PyProof.Rows

abbrev R2 := V → V → Hp → VK → Prop
/-- a two-place operation on values: f is binaryOp op, inplaceOp op or compareOp op -/
def OpR (X : Cx) (f : Value → Value → Sem Value) (r : R2) : Prop :=
  ∀ (pins : List (Addr × Obj)) (s : Shared) (σ : St) (H : Hp) (x y : V) (v u : Value) (Q : VK), Inv X pins σ H s → RelV x v → RelV y u → r x y H Q →
    wpAny (model X.prog X.w) X.A (f v u) (EP X pins σ Q) X.xe s
/-- a one-place operation -/
def UnR (X : Cx) (f : Value → Sem Value) (r : V → Hp → VK → Prop) : Prop :=
  ∀ (pins : List (Addr × Obj)) (s : Shared) (σ : St) (H : Hp) (x : V) (v : Value) (Q : VK), Inv X pins σ H s → RelV x v → r x H Q →
    wpAny (model X.prog X.w) X.A (f v) (EP X pins σ Q) X.xe s
/-- a call of a value that is known (a builtin, a type) with values -/
def CallR (X : Cx) (f : Value) (r : List V → Hp → VK → Prop) : Prop :=
  ∀ (pins : List (Addr × Obj)) (s : Shared) (σ : St) (H : Hp) (xs : List V) (us : List Value) (Q : VK), Inv X pins σ H s → Vals xs us → r xs H Q →
    wpAny (model X.prog X.w) X.A (call f us) (EP X pins σ Q) X.xe s
/-- a value's truth -/
def TruR (X : Cx) (r : V → Hp → (Bool → Hp → Prop) → Prop) : Prop :=
  ∀ (pins : List (Addr × Obj)) (s : Shared) (σ : St) (H : Hp) (x : V) (v : Value) (Q : Bool → Hp → Prop), Inv X pins σ H s → RelV x v → r x H Q →
    wpAny (model X.prog X.w) X.A (truthy v) (TP X pins σ Q) X.xe s

def tOp (r : R2) (ta tb : TE) : TE := fun σ H Q => ta σ H fun x H1 => tb σ H1 fun y H2 => r x y H2 Q
def tUn (r : V → Hp → VK → Prop) (ta : TE) : TE := fun σ H Q => ta σ H fun x H1 => r x H1 Q
/-- ints in, under C, and a value out -/
def rI (C : Int → Int → Prop) (g : Int → Int → V) : R2 := fun x y H Q => ∃ i j, x = .int i ∧ y = .int j ∧ C i j ∧ Q (g i j) H
def rI0 (g : Int → Int → V) : R2 := fun x y H Q => ∃ i j, x = .int i ∧ y = .int j ∧ Q (g i j) H
def rU (g : Int → V) : V → Hp → VK → Prop := fun x H Q => ∃ i, x = .int i ∧ Q (g i) H

section
variable {X : Cx} {a b c : Expr} {ta tb tc : TE} {pos : Pos}

theorem binT (ha : PE X a ta) (hb : PE X b tb) {pins : List (Addr × Obj)} {s : Shared} {σ : St} {H : Hp} {R : V → V → Hp → Prop} (I : Inv X pins σ H s)
    (h : ta σ H fun x H1 => tb σ H1 fun y H2 => R x y H2) {Q : Value → Shared → Prop} {f : Value → Value → Sem Value}
    (hf : ∀ v u s2 x y H2, Inv X pins σ H2 s2 → RelV x v → RelV y u → R x y H2 → wpAny (model X.prog X.w) X.A (f v u) Q X.xe s2) :
    wpAny (model X.prog X.w) X.A (eval a X.env) (fun v s₁ => wpAny (model X.prog X.w) X.A (eval b X.env) (fun u s₂ => wpAny (model X.prog X.w) X.A (f v u) Q X.xe s₂) X.xe s₁) X.xe s := by
  refine thn (ha pins s σ H _ I h) fun v s1 ⟨x, H1, I1, r1, q1⟩ => ?_
  refine thn (hb pins s1 σ H1 _ I1 q1) fun u s2 ⟨y, H2, I2, r2, q2⟩ => ?_
  exact hf v u s2 x y H2 I2 r1 r2 q2

theorem pe_op {op : Operator} {r : R2} (ho : OpR X (binaryOp op) r) (ha : PE X a ta) (hb : PE X b tb) : PE X (.BinOp a op b pos) (tOp r ta tb) := by
  intro pins s σ H Q I h
  exact wpAny_BinOp (binT ha hb I h fun v u s2 x y H2 I2 rx ry q => ho pins s2 σ H2 x y v u Q I2 rx ry q)
theorem pe_un {op : UnaryOp} {r : V → Hp → VK → Prop} (ho : UnR X (unaryOp op) r) (ha : PE X a ta) : PE X (.UnaryOp op a pos) (tUn r ta) := by
  intro pins s σ H Q I h
  exact UnaryOp_ (thn (ha pins s σ H _ I h) fun v s1 ⟨x, H1, I1, r1, q1⟩ => ho pins s1 σ H1 x v Q I1 r1 q1)
/-- a op= e at a name: the name's slot i -/
theorem augR {op : Operator} {r : R2} (ho : OpR X (inplaceOp op) r) {pins : List (Addr × Obj)} {s : Shared} {σ : St} {H : Hp} {x y : V} {v u : Value} {Q : VK} (I : Inv X pins σ H s)
    (rx : RelV x v) (ry : RelV y u) (q : r x y H Q) : wpAny (model X.prog X.w) X.A (inplaceOp op v u) (EP X pins σ Q) X.xe s := ho pins s σ H x y v u Q I rx ry q

/-! ### ints -/
theorem opI {f : Value → Value → Sem Value} {C : Int → Int → Prop} {g : Int → Int → Int}
    (rule : ∀ (i j : Int) (t u : Tok) (s : Shared) (Q : Value → Shared → Prop) (E : Value → Shared → Prop), C i j → Q (.int (g i j) s.toks) { s with toks := s.toks + 1 } → wpAny (model X.prog X.w) X.A (f (.int i t) (.int j u)) Q E s) :
    OpR X f (rI C fun i j => .int (g i j)) := by
  intro pins s σ H x y v u Q I rx ry h
  obtain ⟨i, j, rfl, rfl, hc, q⟩ := h
  obtain ⟨t, rfl⟩ := rx
  obtain ⟨t', rfl⟩ := ry
  exact rule i j t t' s _ _ hc ⟨.int (g i j), H, I.tok _, ⟨_, rfl⟩, q⟩
theorem opI0 {f : Value → Value → Sem Value} {g : Int → Int → Int}
    (rule : ∀ (i j : Int) (t u : Tok) (s : Shared) (Q : Value → Shared → Prop) (E : Value → Shared → Prop), Q (.int (g i j) s.toks) { s with toks := s.toks + 1 } → wpAny (model X.prog X.w) X.A (f (.int i t) (.int j u)) Q E s) :
    OpR X f (rI0 fun i j => .int (g i j)) := by
  intro pins s σ H x y v u Q I rx ry h
  obtain ⟨i, j, rfl, rfl, q⟩ := h
  obtain ⟨t, rfl⟩ := rx
  obtain ⟨t', rfl⟩ := ry
  exact rule i j t t' s _ _ ⟨.int (g i j), H, I.tok _, ⟨_, rfl⟩, q⟩
theorem opB0 {f : Value → Value → Sem Value} {g : Int → Int → Bool}
    (rule : ∀ (i j : Int) (t u : Tok) (s : Shared) (Q : Value → Shared → Prop) (E : Value → Shared → Prop), Q (.bool (g i j)) s → wpAny (model X.prog X.w) X.A (f (.int i t) (.int j u)) Q E s) :
    OpR X f (rI0 fun i j => .bl (g i j)) := by
  intro pins s σ H x y v u Q I rx ry h
  obtain ⟨i, j, rfl, rfl, q⟩ := h
  obtain ⟨t, rfl⟩ := rx
  obtain ⟨t', rfl⟩ := ry
  exact rule i j t t' s _ _ ⟨.bl (g i j), H, I, rfl, q⟩

def CDiv (i j : Int) : Prop := 0 < j ∧ j < 1073741824
def CDivN (i j : Int) : Prop := j ≠ 0 ∧ j.natAbs < 1073741824
def CPow (i j : Int) : Prop := 0 ≤ j ∧ j ≤ 1000000 ∧ i.natAbs < 2 ^ 64
def CMul (i j : Int) : Prop := (-(2 ^ 64) < i ∧ i < 2 ^ 64) ∨ (-(2 ^ 64) < j ∧ j < 2 ^ 64)
theorem CMul.ok {i j : Int} (h : CMul i j) : IntMulOk i j := by
  rcases h with ⟨h1, h2⟩ | ⟨h1, h2⟩
  · exact .of_left (intBits_le_64 h1 h2)
  · exact .of_right (intBits_le_64 h1 h2)
theorem two_pow_nn (k : Nat) : (0 : Int) ≤ 2 ^ k := by
  rw [two_pow_cast]
  exact Int.natCast_nonneg _

theorem op_add : OpR X (binaryOp .Add) (rI0 fun i j => .int (i + j)) := opI0 fun _ _ _ _ _ _ _ q => add_int q
theorem op_sub : OpR X (binaryOp .Sub) (rI0 fun i j => .int (i - j)) := opI0 fun _ _ _ _ _ _ _ q => sub_int q
theorem op_mul : OpR X (binaryOp .Mult) (rI CMul fun i j => .int (i * j)) := opI fun _ _ _ _ _ _ _ hc q => mul_int q hc.ok
/-- // by a positive divisor -/
theorem op_fdiv : OpR X (binaryOp .FloorDiv) (rI CDiv fun i j => .int (i / j)) := opI fun i j _ _ _ _ _ hc q => by
  have h1 : (0 : Int) < j := hc.1
  have h2 : j < 1073741824 := hc.2
  exact floordiv_int (by omega) (by rw [Int.fdiv_eq_ediv_of_nonneg i (by omega)]; exact q) (.inl (PyProof.noPylong_small (by omega)))
theorem op_fdivN : OpR X (binaryOp .FloorDiv) (rI CDivN fun i j => .int (i.fdiv j)) := opI fun _ _ _ _ _ _ _ hc q => floordiv_int hc.1 q (.inl (PyProof.noPylong_small hc.2))
/-- % by a positive divisor of any size -/
theorem op_mod : OpR X (binaryOp .Mod) (rI (fun _ j => 0 < j) fun i j => .int (i % j)) := opI fun i j _ _ _ _ _ hc q => by
  have h1 : (0 : Int) < j := hc
  exact mod_int' (by omega) (by rw [Int.fmod_eq_emod_of_nonneg i (by omega)]; exact q)
theorem op_modN : OpR X (binaryOp .Mod) (rI (fun _ j => j ≠ 0) fun i j => .int (i.fmod j)) := opI fun _ _ _ _ _ _ _ hc q => mod_int' hc q
theorem op_pow : OpR X (binaryOp .Pow) (rI CPow fun i j => .int (i ^ j.toNat)) := opI fun _ _ _ _ _ _ _ hc q => pow_int_small hc.1 hc.2.1 hc.2.2 q
theorem op_shl : OpR X (binaryOp .LShift) (rI CPow fun i j => .int (i * 2 ^ j.toNat)) := opI fun _ _ _ _ _ _ _ hc q => lshift_int_small hc.1 hc.2.1 hc.2.2 q
theorem op_shr : OpR X (binaryOp .RShift) (rI (fun _ j => 0 ≤ j) fun i j => .int (i / 2 ^ j.toNat)) := opI fun i j _ _ _ _ _ hc q =>
  rshift_int hc (by rw [Int.fdiv_eq_ediv_of_nonneg i (two_pow_nn _)]; exact q)
theorem op_and : OpR X (binaryOp .BitAnd) (rI0 fun i j => .int (Builtin.bitAnd i j)) := opI0 fun _ _ _ _ _ _ _ q => and_int q
theorem op_or : OpR X (binaryOp .BitOr) (rI0 fun i j => .int (Builtin.bitOr i j)) := opI0 fun _ _ _ _ _ _ _ q => or_int q
theorem op_xor : OpR X (binaryOp .BitXor) (rI0 fun i j => .int (Builtin.bitXor i j)) := opI0 fun _ _ _ _ _ _ _ q => xor_int q

theorem iop_add : OpR X (inplaceOp .Add) (rI0 fun i j => .int (i + j)) := opI0 fun _ _ _ _ _ _ _ q => iadd_int q
theorem iop_sub : OpR X (inplaceOp .Sub) (rI0 fun i j => .int (i - j)) := opI0 fun _ _ _ _ _ _ _ q => isub_int q
theorem iop_mul : OpR X (inplaceOp .Mult) (rI CMul fun i j => .int (i * j)) := opI fun _ _ _ _ _ _ _ hc q => imul_int q hc.ok
theorem iop_fdiv : OpR X (inplaceOp .FloorDiv) (rI CDiv fun i j => .int (i / j)) := opI fun i j _ _ _ _ _ hc q => by
  have h1 : (0 : Int) < j := hc.1
  have h2 : j < 1073741824 := hc.2
  exact ifloordiv_int (by omega) (by rw [Int.fdiv_eq_ediv_of_nonneg i (by omega)]; exact q) (.inl (PyProof.noPylong_small (by omega)))
theorem iop_mod : OpR X (inplaceOp .Mod) (rI (fun _ j => 0 < j) fun i j => .int (i % j)) := opI fun i j _ _ _ _ _ hc q => by
  have h1 : (0 : Int) < j := hc
  exact imod_int (by omega) (by rw [Int.fmod_eq_emod_of_nonneg i (by omega)]; exact q)
theorem iop_shl : OpR X (inplaceOp .LShift) (rI CPow fun i j => .int (i * 2 ^ j.toNat)) := opI fun _ _ _ _ _ _ _ hc q => ilshift_int_small hc.1 hc.2.1 hc.2.2 q
theorem iop_shr : OpR X (inplaceOp .RShift) (rI (fun _ j => 0 ≤ j) fun i j => .int (i / 2 ^ j.toNat)) := opI fun i j _ _ _ _ _ hc q =>
  irshift_int hc (by rw [Int.fdiv_eq_ediv_of_nonneg i (two_pow_nn _)]; exact q)
theorem iop_and : OpR X (inplaceOp .BitAnd) (rI0 fun i j => .int (Builtin.bitAnd i j)) := opI0 fun _ _ _ _ _ _ _ q => iand_int q
theorem iop_or : OpR X (inplaceOp .BitOr) (rI0 fun i j => .int (Builtin.bitOr i j)) := opI0 fun _ _ _ _ _ _ _ q => ior_int q
theorem iop_xor : OpR X (inplaceOp .BitXor) (rI0 fun i j => .int (Builtin.bitXor i j)) := opI0 fun _ _ _ _ _ _ _ q => ixor_int q

theorem unI {f : Value → Sem Value} {g : Int → Int}
    (rule : ∀ (i : Int) (t : Tok) (s : Shared) (Q : Value → Shared → Prop) (E : Value → Shared → Prop), Q (.int (g i) s.toks) { s with toks := s.toks + 1 } → wpAny (model X.prog X.w) X.A (f (.int i t)) Q E s) :
    UnR X f (rU fun i => .int (g i)) := by
  intro pins s σ H x v Q I rx h
  obtain ⟨i, rfl, q⟩ := h
  obtain ⟨t, rfl⟩ := rx
  exact rule i t s _ _ ⟨.int (g i), H, I.tok _, ⟨_, rfl⟩, q⟩
theorem un_neg : UnR X (unaryOp .USub) (rU fun i => .int (-i)) := unI fun _ _ _ _ _ q => neg_int q
theorem un_inv : UnR X (unaryOp .Invert) (rU fun i => .int (Builtin.bitNot i)) := unI fun _ _ _ _ _ q => invert_int q

/-! ### bools among ints: n += (a < b) -/
theorem op_add_ib : OpR X (binaryOp .Add) (fun x y H Q => ∃ i k, x = .int i ∧ y = .bl k ∧ Q (.int (i + b2i k)) H) := by
  intro pins s σ H x y v u Q I rx ry h
  obtain ⟨i, k, rfl, rfl, q⟩ := h
  obtain ⟨t, rfl⟩ := rx
  cases ry
  exact add_int_bool ⟨.int (i + b2i k), H, I.tok _, ⟨_, rfl⟩, q⟩
end

/-! ### comparisons -/
/-- the scalars that == tells apart as data does -/
def scal : V → V → Bool
  | .non, .non => true | .non, .int _ => true | .int _, .non => true | .non, .bl _ => true | .bl _, .non => true | .non, .str _ => true | .str _, .non => true
  | .int _, .int _ => true | .bl _, .bl _ => true | .str _, .str _ => true | .byt _, .byt _ => true
  | .int _, .str _ => true | .str _, .int _ => true | .bl _, .str _ => true | .str _, .bl _ => true
  | _, _ => false
def rEq : R2 := fun x y H Q => scal x y = true ∧ Q (.bl (decide (x = y))) H
def rNe : R2 := fun x y H Q => scal x y = true ∧ Q (.bl (!decide (x = y))) H

theorem dec_int {i j : Int} : decide (V.int i = V.int j) = (i == j) := by
  rw [Bool.eq_iff_iff]
  simp
theorem dec_bl {i j : Bool} : decide (V.bl i = V.bl j) = (i == j) := by
  rw [Bool.eq_iff_iff]
  simp
theorem dec_str {i j : Str} : decide (V.str i = V.str j) = (i == j) := by
  rw [Bool.eq_iff_iff]
  simp
theorem dec_byt {i j : Array UInt8} : decide (V.byt i = V.byt j) = (i.toList == j.toList) := by
  rw [Bool.eq_iff_iff]
  cases i
  cases j
  simp

section
variable {X : Cx} {a b c : Expr} {ta tb tc : TE} {pos : Pos}
theorem fin_bl {pins : List (Addr × Obj)} {σ : St} {H : Hp} {s : Shared} {Q : VK} {k k' : Bool} (I : Inv X pins σ H s) (q : Q (.bl k) H) (e : k = k') : EP X pins σ Q (.bool k') s := by
  subst e
  exact ⟨.bl k, H, I, rfl, q⟩
theorem op_eq : OpR X (compareOp .Eq) rEq := by
  intro pins s σ H x y v u Q I rx ry h
  obtain ⟨hs, q⟩ := h
  cases x with
  | non =>
    cases rx
    cases y with
    | non => cases ry; exact PySem.EqNone.eq_none_none (fin_bl I q (by simp))
    | bl j => cases ry; exact PySem.EqNone.eq_none_bool (fin_bl I q (by simp))
    | int j => obtain ⟨t', rfl⟩ := ry; exact PySem.EqNone.eq_none_int (fin_bl I q (by simp))
    | str j => obtain ⟨t', rfl⟩ := ry; exact PySem.EqNone.eq_none_str (fin_bl I q (by simp))
    | _ => exact absurd (show false = true from hs) Bool.false_ne_true
  | bl i =>
    cases rx
    cases y with
    | non => cases ry; exact PySem.EqNone.eq_bool_none (fin_bl I q (by simp))
    | bl j => cases ry; exact eq_bool (fin_bl I q dec_bl)
    | str j => obtain ⟨t', rfl⟩ := ry; exact PySem.EqMixed.eq_bool_str (fin_bl I q (by simp))
    | _ => exact absurd (show false = true from hs) Bool.false_ne_true
  | int i =>
    obtain ⟨t, rfl⟩ := rx
    cases y with
    | non => cases ry; exact PySem.EqNone.eq_int_none (fin_bl I q (by simp))
    | int j => obtain ⟨t', rfl⟩ := ry; exact eq_int (fin_bl I q dec_int)
    | str j => obtain ⟨t', rfl⟩ := ry; exact PySem.EqMixed.eq_int_str (fin_bl I q (by simp))
    | _ => exact absurd (show false = true from hs) Bool.false_ne_true
  | str i =>
    obtain ⟨t, rfl⟩ := rx
    cases y with
    | non => cases ry; exact PySem.EqNone.eq_str_none (fin_bl I q (by simp))
    | bl j => cases ry; exact PySem.EqMixed.eq_str_bool (fin_bl I q (by simp))
    | int j => obtain ⟨t', rfl⟩ := ry; exact PySem.EqMixed.eq_str_int (fin_bl I q (by simp))
    | str j => obtain ⟨t', rfl⟩ := ry; exact eq_str (fin_bl I q dec_str)
    | _ => exact absurd (show false = true from hs) Bool.false_ne_true
  | byt i =>
    obtain ⟨t, rfl⟩ := rx
    cases y with
    | byt j => obtain ⟨t', rfl⟩ := ry; exact PySem.W.eq_bytes (fin_bl I q dec_byt)
    | _ => exact absurd (show false = true from hs) Bool.false_ne_true
  | _ => cases y <;> exact absurd (show false = true from hs) Bool.false_ne_true
theorem op_ne : OpR X (compareOp .NotEq) rNe := by
  intro pins s σ H x y v u Q I rx ry h
  obtain ⟨hs, q⟩ := h
  cases x with
  | non =>
    cases rx
    cases y with
    | non => cases ry; exact PySem.EqNone.ne_none_none (fin_bl I q (by simp))
    | bl j => cases ry; exact PySem.EqNone.ne_none_bool (fin_bl I q (by simp))
    | int j => obtain ⟨t', rfl⟩ := ry; exact PySem.EqNone.ne_none_int (fin_bl I q (by simp))
    | str j => obtain ⟨t', rfl⟩ := ry; exact PySem.EqNone.ne_none_str (fin_bl I q (by simp))
    | _ => exact absurd (show false = true from hs) Bool.false_ne_true
  | bl i =>
    cases rx
    cases y with
    | non => cases ry; exact PySem.EqNone.ne_bool_none (fin_bl I q (by simp))
    | bl j => cases ry; exact ne_bool (fin_bl I q (congrArg not dec_bl))
    | str j => obtain ⟨t', rfl⟩ := ry; exact PySem.EqMixed.ne_bool_str (fin_bl I q (by simp))
    | _ => exact absurd (show false = true from hs) Bool.false_ne_true
  | int i =>
    obtain ⟨t, rfl⟩ := rx
    cases y with
    | non => cases ry; exact PySem.EqNone.ne_int_none (fin_bl I q (by simp))
    | int j => obtain ⟨t', rfl⟩ := ry; exact ne_int (fin_bl I q (congrArg not dec_int))
    | str j => obtain ⟨t', rfl⟩ := ry; exact PySem.EqMixed.ne_int_str (fin_bl I q (by simp))
    | _ => exact absurd (show false = true from hs) Bool.false_ne_true
  | str i =>
    obtain ⟨t, rfl⟩ := rx
    cases y with
    | non => cases ry; exact PySem.EqNone.ne_str_none (fin_bl I q (by simp))
    | bl j => cases ry; exact PySem.EqMixed.ne_str_bool (fin_bl I q (by simp))
    | int j => obtain ⟨t', rfl⟩ := ry; exact PySem.EqMixed.ne_str_int (fin_bl I q (by simp))
    | str j => obtain ⟨t', rfl⟩ := ry; exact ne_str (fin_bl I q (congrArg not dec_str))
    | _ => exact absurd (show false = true from hs) Bool.false_ne_true
  | byt i =>
    obtain ⟨t, rfl⟩ := rx
    cases y with
    | byt j => obtain ⟨t', rfl⟩ := ry; exact PySem.W.ne_bytes (fin_bl I q (congrArg not dec_byt))
    | _ => exact absurd (show false = true from hs) Bool.false_ne_true
  | _ => cases y <;> exact absurd (show false = true from hs) Bool.false_ne_true

theorem op_lt : OpR X (compareOp .Lt) (rI0 fun i j => .bl (decide (i < j))) := opB0 fun _ _ _ _ _ _ _ q => lt_int q
theorem op_le : OpR X (compareOp .LtE) (rI0 fun i j => .bl (decide (i ≤ j))) := opB0 fun _ _ _ _ _ _ _ q => le_int q
theorem op_gt : OpR X (compareOp .Gt) (rI0 fun i j => .bl (decide (j < i))) := opB0 fun _ _ _ _ _ _ _ q => gt_int q
theorem op_ge : OpR X (compareOp .GtE) (rI0 fun i j => .bl (decide (j ≤ i))) := opB0 fun _ _ _ _ _ _ _ q => ge_int q
theorem op_lt_str : OpR X (compareOp .Lt) (fun x y H Q => ∃ i j, x = .str i ∧ y = .str j ∧ Q (.bl (decide (i.cps.toList < j.cps.toList))) H) := by
  intro pins s σ H x y v u Q I rx ry h
  obtain ⟨i, j, rfl, rfl, q⟩ := h
  obtain ⟨t, rfl⟩ := rx
  obtain ⟨t', rfl⟩ := ry
  exact lt_str (fin_bl I q rfl)
/-- the one string within the other -/
theorem op_in_str : OpR X (compareOp .In) (fun x y H Q => ∃ i j, x = .str i ∧ y = .str j ∧ Q (.bl (!(Builtin.Str.occurrences j i 0 j.length 1).isEmpty)) H) := by
  intro pins s σ H x y v u Q I rx ry h
  obtain ⟨i, j, rfl, rfl, q⟩ := h
  obtain ⟨t, rfl⟩ := rx
  obtain ⟨t', rfl⟩ := ry
  exact in_str (fin_bl I q rfl)

/-- is None, is not None: the right side a value none -/
theorem op_isN : OpR X (compareOp .Is) (fun x y H Q => y = .non ∧ Q (.bl (decide (x = .non))) H) := by
  intro pins s σ H x y v u Q I rx ry h
  obtain ⟨rfl, q⟩ := h
  cases ry
  refine is_none_gen (fin_bl I q ?_)
  cases x <;> first
    | (cases rx; rfl)
    | (obtain ⟨t, rfl⟩ := rx; rfl)
theorem op_notN : OpR X (compareOp .IsNot) (fun x y H Q => y = .non ∧ Q (.bl (!decide (x = .non))) H) := by
  intro pins s σ H x y v u Q I rx ry h
  obtain ⟨rfl, q⟩ := h
  cases ry
  refine isnot_none_gen (fin_bl I q ?_)
  cases x <;> first
    | (cases rx; rfl)
    | (obtain ⟨t, rfl⟩ := rx; rfl)

theorem op_notin_str : OpR X (compareOp .NotIn) (fun x y H Q => ∃ i j, x = .str i ∧ y = .str j ∧ Q (.bl (!(!(Builtin.Str.occurrences j i 0 j.length 1).isEmpty))) H) := by
  intro pins s σ H x y v u Q I rx ry h
  obtain ⟨i, j, rfl, rfl, q⟩ := h
  obtain ⟨t, rfl⟩ := rx
  obtain ⟨t', rfl⟩ := ry
  exact notIn_str (fin_bl I q rfl)
/-- is, is not of two objects that are tracked lists or instances -/
def isObj : HO → Bool
  | .lst _ => true
  | .ins _ _ _ => true
  | _ => false
theorem obj_there {pins : List (Addr × Obj)} {s : Shared} {σ : St} {H : Hp} {a : Addr} {o : HO} (I : Inv X pins σ H s) (h : H a = some o) (p : isObj o = true) : ∃ ob, s.heap.get? a = some ob ∧ ob.cls ≠ .type "tuple" := by
  cases o with
  | lst xs =>
    obtain ⟨_, its, n, _, e⟩ : xs.length ≤ sizeLine ∧ ∃ (its : List Value) (n : Nat), Vals xs its ∧ s.heap.get? a = some { cls := .type "list", data := .seq its.toArray n } := I.hok a _ h
    exact ⟨_, e, (by show Value.type "list" ≠ .type "tuple"; decide +kernel)⟩
  | ins C dx fs =>
    have x := I.hok a _ h
    obtain ⟨_, _, _, e, _⟩ := x
    exact ⟨_, e, (by show Value.ref C ≠ .type "tuple"; exact fun z => by cases z)⟩
  | _ => exact absurd (show false = true from p) Bool.false_ne_true
theorem op_is_ref : OpR X (compareOp .Is) (fun x y H Q => ∃ a b oa ob, x = .ref a ∧ y = .ref b ∧ H a = some oa ∧ isObj oa = true ∧ H b = some ob ∧ isObj ob = true ∧ Q (.bl (decide (a = b))) H) := by
  intro pins s σ H x y v u Q I rx ry h
  obtain ⟨a, b, oa, ob, rfl, rfl, ha, pa, hb, pb, q⟩ := h
  cases rx
  cases ry
  obtain ⟨o1, e1, n1⟩ := obj_there I ha pa
  obtain ⟨o2, e2, _⟩ := obj_there I hb pb
  by_cases z : a = b
  · subst z
    exact wpAny_is_ref_self (fin_bl I q (by simp))
  · exact wpAny_is_ref_other z e1 e2 n1 (fin_bl I q (by simp [z]))
theorem op_isnot_ref : OpR X (compareOp .IsNot) (fun x y H Q => ∃ a b oa ob, x = .ref a ∧ y = .ref b ∧ H a = some oa ∧ isObj oa = true ∧ H b = some ob ∧ isObj ob = true ∧ Q (.bl (!decide (a = b))) H) := by
  intro pins s σ H x y v u Q I rx ry h
  obtain ⟨a, b, oa, ob, rfl, rfl, ha, pa, hb, pb, q⟩ := h
  cases rx
  cases ry
  obtain ⟨o1, e1, n1⟩ := obj_there I ha pa
  obtain ⟨o2, e2, _⟩ := obj_there I hb pb
  by_cases z : a = b
  · subst z
    exact wpAny_isNot_ref_self (fin_bl I q (by simp))
  · exact wpAny_isNot_ref_other z e1 e2 n1 (fin_bl I q (by simp [z]))

/-- two rules for one operation: by cases -/
theorem OpR.or {f : Value → Value → Sem Value} {r r' : R2} (h : OpR X f r) (h' : OpR X f r') : OpR X f (fun x y H Q => r x y H Q ∨ r' x y H Q) := by
  intro pins s σ H x y v u Q I rx ry q
  rcases q with q | q
  · exact h pins s σ H x y v u Q I rx ry q
  · exact h' pins s σ H x y v u Q I rx ry q

theorem nomark (b : Expr) {op : CmpOp} (h : op ≠ .In := by decide) (h2 : op ≠ .NotIn := by decide) : behindInMarks op b = false := by
  have e1 : (op == CmpOp.In) = false := by cases op <;> first | rfl | exact absurd rfl h
  have e2 : (op == CmpOp.NotIn) = false := by cases op <;> first | rfl | exact absurd rfl h2
  cases b <;> simp [behindInMarks, e1, e2]
/-- a comparison as a value; hm: nomark b, or (for in, not in) by with_unfolding_all rfl -/
theorem pe_cmpR {op : CmpOp} {r : R2} (ho : OpR X (compareOp op) r) (ha : PE X a ta) (hb : PE X b tb) (hm : behindInMarks op b = false) : PE X (.Compare a [op] [b] pos) (tOp r ta tb) := by
  intro pins s σ H Q I h
  exact wpAny_Compare1 (binT ha hb I h fun v u s2 x y H2 I2 rx ry q => ho pins s2 σ H2 x y v u Q I2 rx ry q) hm
/-- a reading of a value as a test -/
def tTest (t : TE) : TT := fun σ H Q => t σ H fun x H' => ∃ k, x = .bl k ∧ Q k H'
theorem pt_cmpR {op : CmpOp} {r : R2} (ho : OpR X (compareOp op) r) (ha : PE X a ta) (hb : PE X b tb) (hm : behindInMarks op b = false) : PT X (.Compare a [op] [b] pos) (tTest (tOp r ta tb)) := by
  intro pins s σ H Q I h
  refine wpAny_isTrue_Compare1 (thn (ha pins s σ H _ I h) fun v s1 ⟨x, H1, I1, r1, q1⟩ => thn (hb pins s1 σ H1 _ I1 q1) fun u s2 ⟨y, H2, I2, r2, q2⟩ =>
    thn (ho pins s2 σ H2 x y v u _ I2 r1 r2 q2) fun c s3 ⟨z, H3, I3, r3, k, e, q3⟩ => ?_) hm
  subst e
  cases r3
  exact wpAny_truthy_bool ⟨H3, I3, q3⟩
/-- a op1 b op2 c -/
def tChain (r r' : R2) (ta tb tc : TE) : TE := fun σ H Q => ta σ H fun x H1 => tb σ H1 fun y H2 => r x y H2 fun z H3 => ∃ k, z = .bl k ∧
  (if k = true then tc σ H3 fun w' H4 => r' y w' H4 Q else Q (.bl false) H3)
theorem pe_chain {op op' : CmpOp} {r r' : R2} (ho : OpR X (compareOp op) r) (ho' : OpR X (compareOp op') r') (ha : PE X a ta) (hb : PE X b tb) (hc : PE X c tc)
    (hm : lastMarks [op, op'] [b, c] = false := by with_unfolding_all rfl) : PE X (.Compare a [op, op'] [b, c] pos) (tChain r r' ta tb tc) := by
  intro pins s σ H Q I h
  refine Compare_chain (thn (ha pins s σ H _ I h) fun v s1 ⟨x, H1, I1, r1, q1⟩ => chain_link (thn (hb pins s1 σ H1 _ I1 q1) fun u s2 ⟨y, H2, I2, r2, q2⟩ =>
    thn (ho pins s2 σ H2 x y v u _ I2 r1 r2 q2) fun d s3 ⟨z, H3, I3, r3, k, e, q3⟩ => ?_)) hm
  subst e
  cases r3
  refine wpAny_truthy_bool ?_
  cases k with
  | false => exact ite_ff ⟨.bl false, H3, I3, rfl, q3⟩
  | true => exact ite_tt (chain_last (thn (hc pins s3 σ H3 _ I3 q3) fun w' s4 ⟨z', H4, I4, r4, q4⟩ => ho' pins s4 σ H4 y z' u w' Q I4 r2 r4 q4))
theorem pt_chain {op op' : CmpOp} {r r' : R2} (ho : OpR X (compareOp op) r) (ho' : OpR X (compareOp op') r') (ha : PE X a ta) (hb : PE X b tb) (hc : PE X c tc)
    (hm : lastMarks [op, op'] [b, c] = false := by with_unfolding_all rfl) : PT X (.Compare a [op, op'] [b, c] pos) (tTest (tChain r r' ta tb tc)) := by
  intro pins s σ H Q I h
  refine isTrue_chain (thn (ha pins s σ H _ I h) fun v s1 ⟨x, H1, I1, r1, q1⟩ => test_link (thn (hb pins s1 σ H1 _ I1 q1) fun u s2 ⟨y, H2, I2, r2, q2⟩ =>
    thn (ho pins s2 σ H2 x y v u _ I2 r1 r2 q2) fun d s3 ⟨z, H3, I3, r3, k, e, q3⟩ => ?_)) hm
  subst e
  cases r3
  refine wpAny_truthy_bool ?_
  cases k with
  | false =>
    obtain ⟨k', e', q'⟩ := q3
    cases e'
    exact ite_ff ⟨H3, I3, q'⟩
  | true =>
    refine ite_tt (test_last (thn (hc pins s3 σ H3 _ I3 q3) fun w' s4 ⟨z', H4, I4, r4, q4⟩ => thn (ho' pins s4 σ H4 y z' u w' _ I4 r2 r4 q4) fun d' s5 ⟨z2, H5, I5, r5, k2, e2, q5⟩ => ?_))
    subst e2
    cases r5
    exact wpAny_truthy_bool ⟨H5, I5, q5⟩

/-! ### truth -/
/-- a value's truth by the abstract heap -/
def TruV (K : PySem.W.Frag) (x : V) (H : Hp) (k : Bool) : Prop :=
  match x with
  | .non => k = false
  | .bl b => k = b
  | .int i => k = (i != 0)
  | .str y => y.length ≤ sizeLine ∧ k = ((y.length : Int) != 0)
  | .byt y => y.size ≤ sizeLine ∧ k = ((y.size : Int) != 0)
  | .ref p => (∃ xs, SqL K H p xs ∧ k = !xs.isEmpty) ∨ (∃ xs, SqT K H p xs ∧ k = !xs.isEmpty) ∨ ∃ kvs, H p = some (.dK kvs) ∧ k = !kvs.isEmpty
  | _ => False
theorem isEmpty_kv {κ : Type} {kvs : List (κ × V)} {vs : List (κ × Value)} (r : KV kvs vs) : (!vs.isEmpty) = !kvs.isEmpty := by
  cases r <;> rfl
theorem isEmpty_of {xs : List V} {its : List Value} (r : Vals xs its) : (!its.toArray.isEmpty) = !xs.isEmpty := by
  cases r <;> simp
theorem line63 : (sizeLine : Nat) < 2 ^ 63 := by rw [sizeLine_eq]; decide
theorem tru_ok : TruR X (fun x H Q => ∃ k, TruV X.K x H k ∧ Q k H) := by
  intro pins s σ H x v Q I rx h
  obtain ⟨k, e, q⟩ := h
  have hl := line63
  have hs : sizeLine = 16777216 := sizeLine_eq
  cases x with
  | non =>
    cases rx
    have e' : k = false := e
    subst e'
    exact truthy_none ⟨H, I, q⟩
  | bl b =>
    cases rx
    have e' : k = b := e
    subst e'
    exact wpAny_truthy_bool ⟨H, I, q⟩
  | int i =>
    obtain ⟨t, rfl⟩ := rx
    have e' : k = (i != 0) := e
    subst e'
    exact PySem.P.truthy_int ⟨H, I, q⟩
  | str y =>
    obtain ⟨t, rfl⟩ := rx
    obtain ⟨hy, e'⟩ : y.length ≤ sizeLine ∧ k = ((y.length : Int) != 0) := e
    subst e'
    exact PySem.P.truthy_str (by omega) ⟨H, I.tok _, q⟩
  | byt y =>
    obtain ⟨t, rfl⟩ := rx
    obtain ⟨hy, e'⟩ : y.size ≤ sizeLine ∧ k = ((y.size : Int) != 0) := e
    subst e'
    exact PySem.W.truthy_bytes (by omega) ⟨H, I.tok _, q⟩
  | ref p =>
    cases rx
    have e' : (∃ xs, SqL X.K H p xs ∧ k = !xs.isEmpty) ∨ (∃ xs, SqT X.K H p xs ∧ k = !xs.isEmpty) ∨ ∃ kvs, H p = some (.dK kvs) ∧ k = !kvs.isEmpty := e
    rcases e' with ⟨xs, hx, e'⟩ | ⟨xs, hx, e'⟩ | ⟨kvs, hx, e'⟩
    · subst e'
      obtain ⟨its, r, pl, hz⟩ := I.list hx
      have hlen := r.length
      exact wpAny_truthy_list pl.isList (by simp only [List.size_toArray]; omega) ⟨H, I.tok _, by rw [isEmpty_of r]; exact q⟩
    · subst e'
      obtain ⟨its, r, pl, hz⟩ := I.tuple hx
      have hlen := r.length
      exact truthy_tuple pl (by simp only [List.size_toArray]; omega) ⟨H, I.tok _, by rw [isEmpty_of r]; exact q⟩
    · subst e'
      obtain ⟨hz, hS, vs, r, m⟩ : kvs.length ≤ sizeLine ∧ (p == sysModules) = false ∧ ∃ vs, KV kvs vs ∧ s.heap.DictOf (mixKind X.prog X.w) p vs := I.hok p _ hx
      have hlen : kvs.length = vs.length := Paired.length r
      exact wpAny_truthy_dict hS m (by omega) ⟨H, I.tok _, by rw [isEmpty_kv r]; exact q⟩
  | _ => exact (show False from e).elim
/-- any expression whose test is its value's truth (a name, a call, a subscript, a field ..: he by fun _ => rfl) -/
theorem pt_truth (ha : PE X a ta) (he : ∀ whole, isTrue a X.env whole = (do let v ← whole; standAt a.pos; holding [v] (truthy v))) :
    PT X a (fun σ H Q => ta σ H fun x H' => ∃ k, TruV X.K x H' k ∧ Q k H') := by
  intro pins s σ H Q I h
  exact isTrue_plain (thn (ha pins s σ H _ I h) fun v s1 ⟨x, H1, I1, r1, q1⟩ => tru_ok pins s1 σ H1 x v Q I1 r1 q1) (he _)

/-! ### strs and bytes -/
theorem pe_byt {x : List UInt8} {k : Nat} : PE X (.Constant (.bytes x) k pos) (fun _ H Q => Q (.byt x.toArray) H) := fun _ _ _ H _ I h => PySem.W.Constant_bytes ⟨.byt x.toArray, H, I.tok _, ⟨_, rfl⟩, h⟩
theorem op_add_str : OpR X (binaryOp .Add) (fun x y H Q => ∃ i j, x = .str i ∧ y = .str j ∧ i.length + j.length ≤ sizeLine ∧ Q (.str (i ++ j)) H) := by
  intro pins s σ H x y v u Q I rx ry h
  obtain ⟨i, j, rfl, rfl, hz, q⟩ := h
  obtain ⟨t, rfl⟩ := rx
  obtain ⟨t', rfl⟩ := ry
  exact add_str (fun t' tk => ⟨.str (i ++ j), H, I.tok _, ⟨_, rfl⟩, q⟩) hz
theorem iop_add_str : OpR X (inplaceOp .Add) (fun x y H Q => ∃ i j, x = .str i ∧ y = .str j ∧ i.length + j.length ≤ sizeLine ∧ Q (.str (i ++ j)) H) := by
  intro pins s σ H x y v u Q I rx ry h
  obtain ⟨i, j, rfl, rfl, hz, q⟩ := h
  obtain ⟨t, rfl⟩ := rx
  obtain ⟨t', rfl⟩ := ry
  exact iadd_str (fun t' tk => ⟨.str (i ++ j), H, I.tok _, ⟨_, rfl⟩, q⟩) hz
theorem op_add_byt : OpR X (binaryOp .Add) (fun x y H Q => ∃ i j, x = .byt i ∧ y = .byt j ∧ i.size + j.size ≤ 16777216 ∧ Q (.byt (i ++ j)) H) := by
  intro pins s σ H x y v u Q I rx ry h
  obtain ⟨i, j, rfl, rfl, hz, q⟩ := h
  obtain ⟨t, rfl⟩ := rx
  obtain ⟨t', rfl⟩ := ry
  exact PySem.W.KBy.add_bytes hz (fun t' tk => ⟨.byt (i ++ j), H, I.tok _, ⟨_, rfl⟩, q⟩)

def PlainIxT (b : Expr) : Prop := ∀ o i, subscripted b false o i = operate [o, i] (getItem o i)
/-- s[i], 0 ≤ i < len -/
theorem pe_item_str (ha : PE X a ta) (hb : PE X b tb) (hs : PlainIxT b) :
    PE X (.Subscript a b pos) (tOp (fun x y H Q => ∃ z i c, x = .str z ∧ y = .int i ∧ 0 ≤ i ∧ i < 2 ^ 63 ∧ i < z.length ∧ z.cps[i.toNat]? = some c ∧ Q (.str ⟨#[c]⟩) H) ta tb) := by
  intro pins s σ H Q I h
  refine Subscript_ (binT ha hb I h fun v u s2 x y H2 I2 rx ry q => ?_)
  obtain ⟨z, i, c, rfl, rfl, h0, h63, h1, hc, q⟩ := q
  obtain ⟨t, rfl⟩ := rx
  obtain ⟨t', rfl⟩ := ry
  have e : seqIndex? i z.length = some i.toNat := PySem.StrLaws.seqIndex_nonneg h0 h1
  exact tail_any (typeIs_str s2 z t) slot_str_getitem.lookup (getItem_str (c := c) (by
    have e1 : decide (i < -(2 ^ 63 : Int)) = false := decide_eq_false (by omega)
    have e2 : decide (i ≥ 2 ^ 63) = false := decide_eq_false (by omega)
    rw [e1, e2] <;> rfl) (by rw [e]; exact hc) ⟨.str ⟨#[c]⟩, H2, I2.tok _, ⟨_, rfl⟩, q⟩) (hs _ _)
/-- b[i], 0 ≤ i < len -/
theorem pe_item_byt (ha : PE X a ta) (hb : PE X b tb) (hs : PlainIxT b) :
    PE X (.Subscript a b pos) (tOp (fun x y H Q => ∃ (z : List UInt8) (i : Int), x = .byt z.toArray ∧ y = .int i ∧ z.length ≤ sizeLine ∧ 0 ≤ i ∧ i < z.length ∧ Q (.int ((z.getD i.toNat 0).toNat : Nat)) H) ta tb) := by
  intro pins s σ H Q I h
  refine Subscript_ (binT ha hb I h fun v u s2 x y H2 I2 rx ry q => ?_)
  obtain ⟨z, i, rfl, rfl, hz, h0, h1, q⟩ := q
  obtain ⟨t, rfl⟩ := rx
  obtain ⟨t', rfl⟩ := ry
  have hl : sizeLine = 16777216 := sizeLine_eq
  exact tail_any (PySem.W.typeIs_bytes s2 z.toArray t) PySem.W.FB.slot_bytes_getitem.lookup (PySem.W.getItem_bytes (by omega) h0 h1 ⟨.int ((z.getD i.toNat 0).toNat : Nat), H2, I2.tok _, ⟨_, rfl⟩, q⟩) (hs _ _)

/-! ### scalar builtins, by CallR -/
theorem vals1 {x : V} {us : List Value} (r : Vals [x] us) : ∃ u, us = [u] ∧ RelV x u := by
  cases r with
  | cons r1 r2 => cases r2; exact ⟨_, rfl, r1⟩
theorem vals2 {x y : V} {us : List Value} (r : Vals [x, y] us) : ∃ u w', us = [u, w'] ∧ RelV x u ∧ RelV y w' := by
  cases r with
  | cons r1 r2 =>
    cases r2 with
    | cons r3 r4 => cases r4; exact ⟨_, _, rfl, r1, r3⟩
theorem call_abs : CallR X (.builtin "abs") (fun xs H Q => ∃ i, xs = [.int i] ∧ Q (.int (if i < 0 then -i else i)) H) := by
  intro pins s σ H xs us Q I r h
  obtain ⟨i, rfl, q⟩ := h
  obtain ⟨u, rfl, t, rfl⟩ := vals1 r
  exact call_abs_int fun u tk => ⟨.int (if i < 0 then -i else i), H, I.tok _, ⟨_, rfl⟩, q⟩
theorem call_max2 (hc : X.calm = true) : CallR X (.builtin "max") (fun xs H Q => ∃ i j, xs = [.int i, .int j] ∧ Q (.int (if j > i then j else i)) H) := by
  intro pins s σ H xs us Q I r h
  obtain ⟨i, j, rfl, q⟩ := h
  obtain ⟨u, w', rfl, ⟨t, rfl⟩, ⟨t', rfl⟩⟩ := vals2 r
  refine max_two_ints (I.ok.hd hc) fun h' tk k => ⟨_, H, I.kept k, ?_, q⟩
  by_cases hj : j > i
  · rw [if_pos hj, if_pos hj]; exact ⟨_, rfl⟩
  · rw [if_neg hj, if_neg hj]; exact ⟨_, rfl⟩
theorem call_min2 (hc : X.calm = true) : CallR X (.builtin "min") (fun xs H Q => ∃ i j, xs = [.int i, .int j] ∧ Q (.int (if j < i then j else i)) H) := by
  intro pins s σ H xs us Q I r h
  obtain ⟨i, j, rfl, q⟩ := h
  obtain ⟨u, w', rfl, ⟨t, rfl⟩, ⟨t', rfl⟩⟩ := vals2 r
  refine min_two_ints (I.ok.hd hc) fun h' tk k => ⟨_, H, I.kept k, ?_, q⟩
  by_cases hj : j < i
  · rw [if_pos hj, if_pos hj]; exact ⟨_, rfl⟩
  · rw [if_neg hj, if_neg hj]; exact ⟨_, rfl⟩
theorem call_int1 : CallR X (.type "int") (fun xs H Q => (∃ i, xs = [.int i] ∧ Q (.int i) H) ∨ ∃ k, xs = [.bl k] ∧ Q (.int (if k then 1 else 0)) H) := by
  intro pins s σ H xs us Q I r h
  rcases h with ⟨i, rfl, q⟩ | ⟨k, rfl, q⟩
  · obtain ⟨u, rfl, t, rfl⟩ := vals1 r
    exact call_int_int ⟨.int i, H, I, ⟨_, rfl⟩, q⟩
  · obtain ⟨u, rfl, r1⟩ := vals1 r
    cases r1
    exact call_int_bool ⟨.int (if k then 1 else 0), H, I.tok _, ⟨_, rfl⟩, q⟩
theorem call_bool1 : CallR X (.type "bool") (fun xs H Q => (∃ i, xs = [.int i] ∧ Q (.bl (i != 0)) H) ∨ ∃ k, xs = [.bl k] ∧ Q (.bl k) H) := by
  intro pins s σ H xs us Q I r h
  rcases h with ⟨i, rfl, q⟩ | ⟨k, rfl, q⟩
  · obtain ⟨u, rfl, t, rfl⟩ := vals1 r
    exact call_bool_int ⟨.bl (i != 0), H, I, rfl, q⟩
  · obtain ⟨u, rfl, r1⟩ := vals1 r
    cases r1
    exact call_bool_bool ⟨.bl k, H, I, rfl, q⟩
theorem call_str_int : CallR X (.type "str") (fun xs H Q => ∃ i, xs = [.int i] ∧ i.natAbs.log2 < 1920 ∧ Q (.str (toString i)) H) := by
  intro pins s σ H xs us Q I r h
  obtain ⟨i, rfl, hz, q⟩ := h
  obtain ⟨u, rfl, t, rfl⟩ := vals1 r
  exact PySem.P.str_of_int hz ⟨.str _, H, I.tok _, ⟨_, rfl⟩, q⟩
theorem call_ord : CallR X (.builtin "ord") (fun xs H Q => ∃ x, xs = [.str x] ∧ x.length = 1 ∧ Q (.int (x.cps.getD 0 0 : Nat)) H) := by
  intro pins s σ H xs us Q I r h
  obtain ⟨x, rfl, hz, q⟩ := h
  obtain ⟨u, rfl, t, rfl⟩ := vals1 r
  exact ord_of_one hz ⟨.int _, H, I.tok _, ⟨_, rfl⟩, q⟩
theorem call_chr : CallR X (.builtin "chr") (fun xs H Q => ∃ i, xs = [.int i] ∧ 0 ≤ i ∧ i ≤ 1114111 ∧ Q (.str ⟨#[i.toNat]⟩) H) := by
  intro pins s σ H xs us Q I r h
  obtain ⟨i, rfl, h0, h1, q⟩ := h
  obtain ⟨u, rfl, t, rfl⟩ := vals1 r
  exact chr_of_range h0 h1 ⟨.str _, H, I.tok _, ⟨_, rfl⟩, q⟩
/-- len of a str, a bytes, a list, a tuple -/
def LenV (K : PySem.W.Frag) (x : V) (H : Hp) (n : Nat) : Prop :=
  match x with
  | .str y => y.length ≤ sizeLine ∧ n = y.length
  | .byt y => y.size ≤ sizeLine ∧ n = y.size
  | .ref p => (∃ xs, SqL K H p xs ∧ n = xs.length) ∨ ∃ xs, SqT K H p xs ∧ n = xs.length
  | _ => False
theorem call_len : CallR X (.builtin "len") (fun xs H Q => ∃ x n, xs = [x] ∧ LenV X.K x H n ∧ Q (.int n) H) := by
  intro pins s σ H xs us Q I r h
  obtain ⟨x, n, rfl, e, q⟩ := h
  obtain ⟨u, rfl, rx⟩ := vals1 r
  have hl := line63
  have hs : sizeLine = 16777216 := sizeLine_eq
  cases x with
  | str y =>
    obtain ⟨t, rfl⟩ := rx
    obtain ⟨hy, e'⟩ : y.length ≤ sizeLine ∧ n = y.length := e
    subst e'
    exact len_str (by omega) ⟨.int _, H, I.tok _, ⟨_, rfl⟩, q⟩
  | byt y =>
    obtain ⟨t, rfl⟩ := rx
    obtain ⟨hy, e'⟩ : y.size ≤ sizeLine ∧ n = y.size := e
    subst e'
    exact PySem.W.len_bytes (by omega) ⟨.int _, H, I.tok _, ⟨_, rfl⟩, q⟩
  | ref p =>
    cases rx
    have e' : (∃ xs, SqL X.K H p xs ∧ n = xs.length) ∨ ∃ xs, SqT X.K H p xs ∧ n = xs.length := e
    rcases e' with ⟨xs, hx, e'⟩ | ⟨xs, hx, e'⟩
    · subst e'
      obtain ⟨its, r', pl, hz⟩ := I.list hx
      have hlen := r'.length
      exact Calls.call_len_list pl.isList (by simp only [List.size_toArray]; omega) ⟨.int xs.length, H, I.tok _, ⟨_, by simp only [List.size_toArray]; rw [hlen]⟩, q⟩
    · subst e'
      obtain ⟨its, r', pl, hz⟩ := I.tuple hx
      have hlen := r'.length
      exact len_tuple pl (by simp only [List.size_toArray]; omega) ⟨.int xs.length, H, I.tok _, ⟨_, by simp only [List.size_toArray]; rw [hlen]⟩, q⟩
  | _ => exact (show False from e).elim
/-- divmod: a new tuple -/
theorem call_divmod : CallR X (.builtin "divmod") (fun xs H Q => ∃ i j, xs = [.int i, .int j] ∧ CDiv i j ∧ ∀ p, H p = none → Q (.ref p) (upd H p (.tup [.int (i / j), .int (i % j)]))) := by
  intro pins s σ H xs us Q I r h
  obtain ⟨i, j, rfl, ⟨h1, h2⟩, q⟩ := h
  obtain ⟨u, w', rfl, ⟨t, rfl⟩, ⟨t', rfl⟩⟩ := vals2 r
  refine divmod_int (by omega) ?_ (.inl (PyProof.noPylong_small (by omega)))
  rw [Int.fdiv_eq_ediv_of_nonneg i (by omega), Int.fmod_eq_emod_of_nonneg i (by omega)]
  have hn : H s.heap.objs.size = none := I.hok.fresh (Nat.le_refl _)
  refine ⟨.ref s.heap.objs.size, _, ?_, rfl, q _ hn⟩
  refine I.laid (fun b o e => Heap.get?_push_of_some _ e) (Nat.le_refl _) ⟨by simp only [List.length_cons, List.length_nil]; rw [sizeLine_eq]; decide, [.int (i / j) s.toks, .int (i % j) (s.toks + 1)], .cons ⟨_, rfl⟩ (.cons ⟨_, rfl⟩ .nil), ?_⟩
  exact ⟨_, Heap.get?_push_size s.heap rfl, rfl, 0, rfl⟩
end
end L2

namespace L2
open PySem PySem.Spec PyProof.Rows

/-! ### an instance, its attributes a map -/
structure ObjM (h : Heap) (x dx C : Addr) (mA : Str → Option Value) : Prop where
  obj : h.get? x = some (PySem.W.instObj C dx)
  ns : h.Ns1 dx mA
  ne : dx ≠ x

theorem lookIn_ns {h : Heap} {dx : Addr} {mA : Str → Option Value} (n : h.Ns1 dx mA) : ∃ od, h.get? dx = some od ∧ ∀ name, PySem.W.lookIn name od = some (mA name) := by
  obtain ⟨o, es, ep, ho, hd, hk, _, hm⟩ := n
  refine ⟨o, ho, fun name => ?_⟩
  have e := hm name
  unfold nsFind findBy at e
  rw [← Array.find?_toList] at e
  unfold PySem.W.lookIn
  rw [hd]
  dsimp only
  split
  · rename_i y q
    rw [q] at e
    exact congrArg some e
  · rename_i q
    rw [q] at e
    have a : es.toList.any (·.refKey) = false := by
      rw [List.any_eq_false]
      intro y hy
      obtain ⟨z, t, hkey⟩ := hk y (Array.mem_toList_iff.mp hy)
      simp [DictEntry.refKey, hkey]
    have a' : ¬ es.toList.any (·.refKey) = true := by rw [a]; exact Bool.false_ne_true
    rw [if_neg a']
    exact congrArg some e

theorem ObjM.look {h : Heap} {x dx C : Addr} {mA : Str → Option Value} (I : ObjM h x dx C mA) : ∃ od, PySem.W.InstAt h x (PySem.W.instObj C dx) C (some od) ∧ ∀ name, PySem.W.lookIn name od = some (mA name) :=
  let ⟨od, ho, hl⟩ := lookIn_ns I.ns
  ⟨od, ⟨I.obj, rfl, rfl, ho⟩, hl⟩

section
variable {prog : Program} {w : World} {A : Around} {E : Value → Shared → Prop} {s : Shared} {K : PySem.W.Frag} {x dx C f : Addr} {mA : Str → Option Value} {name : Str} {v : Value}

theorem get_map {expr : Bool} {Q : Value → Shared → Prop} (X : K.In s.heap) (I : ObjM s.heap x dx C mA) (hg : PySem.W.plainGet K C name = true) (hh : PySem.W.hasDictIn K C = true)
    (ha : PySem.W.findIn K (.ref C) name = some none) (hv : mA name = some v) (hv' : PySem.W.handedIn v = true) (h : Q v { s with toks := s.toks + 1 }) :
    wpAny (model prog w) A (getAttr (.ref x) name expr) Q E s := by
  obtain ⟨od, J, hl⟩ := I.look
  exact PySem.W.get_value X J (PySem.W.plainGet_of hg).1 (PySem.W.findObj_own hh ha rfl (by rw [hl, hv])) hv' h

theorem get_const {expr : Bool} {a : Value} {Q : Value → Shared → Prop} (X : K.In s.heap) (I : ObjM s.heap x dx C mA) (hg : PySem.W.plainGet K C name = true) (hh : PySem.W.hasDictIn K C = true)
    (ha : PySem.W.findIn K (.ref C) name = some (some a)) (hn : PySem.W.specialIn K a "__get__" = some none) (hc : PySem.W.copiedNames.contains name = false) (hv : mA name = none) (hv' : PySem.W.handedIn a = true)
    (h : Q a { s with toks := s.toks + 1 }) : wpAny (model prog w) A (getAttr (.ref x) name expr) Q E s := by
  obtain ⟨od, J, hl⟩ := I.look
  exact PySem.W.get_value X J (PySem.W.plainGet_of hg).1 (PySem.W.findObj_cls hh ha hn hv' hc (by rw [hl, hv])) hv' h

theorem get_meth {pl : Sem Bool} {Q : Value × List Value → Shared → Prop} (X : K.In s.heap) (I : ObjM s.heap x dx C mA) (hg : PySem.W.plainGet K C name = true)
    (hf : PySem.W.findIn K (.ref C) name = some (some (.ref f))) (ht : PySem.W.isFn K (.ref f) = true) (hv : mA name = none) (h : Q (.ref f, [.ref x]) s) :
    wpAny (model prog w) A (getMethod (.ref x) name pl) Q E s := by
  obtain ⟨od, J, hl⟩ := I.look
  exact PySem.W.method_fn X J (PySem.W.plainGet_of hg).1 (PySem.W.plainGet_of hg).2 hf (beq_iff_eq.mp ht) (by show (PySem.W.lookIn name od).map (·.isSome) = some false; rw [hl, hv]; rfl) h

theorem set_map {ns : List Str} {Q : Unit → Shared → Prop} (X : K.In s.heap) (I : ObjM s.heap x dx C mA)
    (hs : PySem.W.findIn K (.ref C) "__setattr__" = some (some (.builtin "object.__setattr__"))) (hp : PySem.W.plainOver K C = true) (ht : PySem.W.takerIn K C name = some none) (hh : PySem.W.hasDictIn K C = true)
    (hw : PySem.Within mA ns) (hsz : ns.length ≤ sizeLine)
    (h : ∀ h', ObjM h' x dx C (fun y => if y = name then some v else mA y) → Heap.SameBut dx s.heap h' → Q () { s with heap := h', toks := s.toks + 2 }) :
    wpAny (model prog w) A (setAttr (.ref x) name v) Q E s := by
  obtain ⟨od, J, hl⟩ := I.look
  refine PySem.W.set_plain X J hs (PySem.W.osa_open (s := { s with toks := s.toks + 1 }) (r := none) X J hp ht fun b => ?_)
  obtain ⟨cd, hc, hd'⟩ := PySem.W.any_some hh
  have hx : s.heap.get? x = some ⟨.ref C, some dx, .plain, #[]⟩ := I.obj
  refine wpAny_bind (wpAny_pure (wpAny_bind (wpAny_bind (wpAny_loadPart hx (wpAny_bind (PySem.W.Looks.here (s := { s with toks := s.toks + 1 }) (PySem.W.looks_clsIn X hc) ?_))))))
  rw [hd']
  refine wpAny_pure (a := some dx) (wpAny_bind (wpAny_pure (wpAny_bind ?_)))
  refine wpAny_nsSet1 (s := { s with toks := s.toks + 1 }) I.ns fun h' hn2 hs2 => ?_
  obtain ⟨oD, esD, epD, hoD, hdD, hcD⟩ := hn2.count (PySem.Within.cons name v hw)
  refine wpAny_bind (wpAny_lookBehind hoD (by rw [hdD]; exact pastItsLine_dict (Nat.le_trans hcD (by rw [List.length_cons]; omega))) ?_)
  exact wpAny_pure (h _ ⟨(hs2.2 _ (Ne.symm I.ne)).trans I.obj, hn2, I.ne⟩ hs2)

/-- C(..): the dict at the heap's end, the instance behind it; then its __init__ -/
theorem make_map {R : Result → Shared → Prop} {vs : List Value} {kw : List (Str × Value)} (X : K.In s.heap) (hm : PySem.W.makesIn K C = true)
    (hi : PySem.W.findIn K (.ref C) "__init__" = some (some (.ref f))) (hf : PySem.W.typeIn K (.ref f) = some (.type "function"))
    (h : codeAny (model prog w) (A.under (.builtin "type.__call__" ⟨.ref C :: vs, kw⟩)) (.call (.ref f) ⟨.ref (s.heap.objs.size + 1) :: vs, kw⟩) (PySem.W.InitBack (s.heap.objs.size + 1) R)
      { s with heap := (s.heap.push PySem.W.emptyDict).push (PySem.W.instObj C s.heap.objs.size) }) :
    codeAny (model prog w) A (.call (.ref C) ⟨vs, kw⟩) R s := by
  obtain ⟨hh, g, d, t, os⟩ := s
  exact PySem.W.make_core (PySem.W.makes_of X hm) (PySem.W.looks_findIn X hi) (fun self => PySem.W.bind_fn X self hf) (.inl rfl) h
/-- C() where there is no __init__ but object's -/
theorem make_map0 {R : Result → Shared → Prop} (X : K.In s.heap) (hm : PySem.W.makesIn K C = true)
    (hi : PySem.W.findIn K (.ref C) "__init__" = some (some (.builtin "object.__init__")))
    (hb : ∀ self, PySem.W.Looks (model prog w) s.heap (bindSpecial (.builtin "object.__init__") self) (.builtin "object.__init__", [self]))
    (h : codeAny (model prog w) (A.under (.builtin "type.__call__" ⟨[.ref C], []⟩)) (.call (.builtin "object.__init__") ⟨[.ref (s.heap.objs.size + 1)], []⟩) (PySem.W.InitBack (s.heap.objs.size + 1) R)
      { s with heap := (s.heap.push PySem.W.emptyDict).push (PySem.W.instObj C s.heap.objs.size) }) :
    codeAny (model prog w) A (.call (.ref C) ⟨[], []⟩) R s := by
  obtain ⟨hh, g, d, t, os⟩ := s
  exact PySem.W.make_core (PySem.W.makes_of X hm) (PySem.W.looks_findIn X hi) hb (.inr ⟨rfl, rfl⟩) h
end

/-! ### the attributes as a list of pairs -/
def putF (f : Str) (v : V) : List (Str × V) → List (Str × V)
  | [] => [(f, v)]
  | (g, x) :: r => if g = f then (g, v) :: r else (g, x) :: putF f v r
theorem lookup_putF (f g : Str) (v : V) : ∀ fs : List (Str × V), (putF f v fs).lookup g = if g = f then some v else fs.lookup g
  | [] => by
    show List.lookup g [(f, v)] = _
    by_cases h : g = f
    · have hb : (g == f) = true := beq_iff_eq.mpr h
      simp only [List.lookup, hb, if_pos h]
    · have hb : (g == f) = false := beq_eq_false_iff_ne.mpr h
      simp only [List.lookup, hb, if_neg h]
  | (k, x) :: r => by
    have ih := lookup_putF f g v r
    rw [show putF f v ((k, x) :: r) = (if k = f then (k, v) :: r else (k, x) :: putF f v r) from rfl]
    by_cases hk : k = f
    · rw [if_pos hk]
      by_cases h : g = k
      · have hb : (g == k) = true := beq_iff_eq.mpr h
        simp only [List.lookup, hb, if_pos (h.trans hk)]
      · have hb : (g == k) = false := beq_eq_false_iff_ne.mpr h
        simp only [List.lookup, hb, if_neg (fun e : g = f => h (e.trans hk.symm))]
    · rw [if_neg hk]
      by_cases h : g = k
      · have hb : (g == k) = true := beq_iff_eq.mpr h
        simp only [List.lookup, hb, if_neg (fun e : g = f => hk (h.symm.trans e))]
      · have hb : (g == k) = false := beq_eq_false_iff_ne.mpr h
        simp only [List.lookup, hb]
        exact ih
theorem keys_putF (f : Str) (v : V) : ∀ fs : List (Str × V), f ∈ (putF f v fs).map (·.1) ∧ ∀ g, g ∈ fs.map (·.1) → g ∈ (putF f v fs).map (·.1)
  | [] => ⟨by simp [putF], fun g h => by simp at h⟩
  | (k, x) :: r => by
    obtain ⟨i1, i2⟩ := keys_putF f v r
    rw [show putF f v ((k, x) :: r) = (if k = f then (k, v) :: r else (k, x) :: putF f v r) from rfl]
    by_cases hk : k = f
    · rw [if_pos hk]
      subst hk
      exact ⟨by simp, fun g h => by simpa using h⟩
    · rw [if_neg hk]
      refine ⟨?_, fun g h => ?_⟩
      · rw [List.map_cons]
        exact List.mem_cons_of_mem _ i1
      · rw [List.map_cons] at h ⊢
        rcases List.mem_cons.mp h with e | e
        · exact List.mem_cons.mpr (.inl e)
        · exact List.mem_cons_of_mem _ (i2 g e)
theorem length_putF (f : Str) (v : V) : ∀ fs : List (Str × V), (putF f v fs).length ≤ fs.length + 1
  | [] => by simp [putF]
  | (k, x) :: r => by
    have ih := length_putF f v r
    rw [show putF f v ((k, x) :: r) = (if k = f then (k, v) :: r else (k, x) :: putF f v r) from rfl]
    by_cases hk : k = f
    · rw [if_pos hk, List.length_cons, List.length_cons]; omega
    · rw [if_neg hk, List.length_cons, List.length_cons]; omega

theorem RelO.some_of {v : V} {o : Option Value} (r : RelO (some v) o) : ∃ u, o = some u ∧ RelV v u := by
  cases o with
  | none => exact (show False from r).elim
  | some u => exact ⟨u, rfl, r⟩
theorem RelO.none_of {o : Option Value} (r : RelO none o) : o = none := by
  cases o with
  | none => rfl
  | some u => exact (show False from r).elim
theorem handed_of {v : V} {u : Value} (r : RelV v u) : PySem.W.handedIn u = true := by
  cases v with
  | non => cases (show u = Value.none from r); rfl
  | bl b => cases (show u = Value.bool b from r); rfl
  | int i => obtain ⟨t, e⟩ := (show ∃ t, u = Value.int i t from r); cases e; rfl
  | str x => obtain ⟨t, e⟩ := (show ∃ t, u = Value.str x t from r); cases e; rfl
  | byt b => obtain ⟨t, e⟩ := (show ∃ t, u = Value.bytes b t from r); cases e; rfl
  | flt b => obtain ⟨t, e⟩ := (show ∃ t, u = Value.float b t from r); cases e; rfl
  | ref a => cases (show u = Value.ref a from r); rfl
  | ty n => cases (show u = Value.type n from r); rfl

section
variable {P : Program} {w : World} {H H' : Hp} {h h' : Heap} {a C dx : Addr} {fs fs' : List (Str × V)}
theorem ins_get (hok : HOk P w H h) (e : H a = some (.ins C dx fs)) : ∃ mA, ObjM h a dx C mA ∧ (∀ f, RelO (fs.lookup f) (mA f)) ∧ PySem.Within mA (fs.map (·.1)) ∧ fs.length ≤ 1000 ∧ H dx = some (.own a) := by
  obtain ⟨d, z, ne, ob, mA, n, r, q⟩ := (show ObjOk P w H h a (.ins C dx fs) from hok a _ e)
  exact ⟨mA, ⟨ob, n, ne⟩, r, q, z, d⟩
end

/-! ### what of the text a class must have -/
structure Cls (K : PySem.W.Frag) (C : Addr) : Prop where
  pg : PySem.W.plainGet K C Str.empty = true
  hd : PySem.W.hasDictIn K C = true
  po : PySem.W.plainOver K C = true
  sa : PySem.W.findIn K (.ref C) "__setattr__" = some (some (.builtin "object.__setattr__"))
theorem Cls.get {K : PySem.W.Frag} {C : Addr} (c : Cls K C) (f : Str) : PySem.W.plainGet K C f = true := c.pg
/-- no class of it has the name -/
def NoAttr (K : PySem.W.Frag) (C : Addr) (f : Str) : Prop := PySem.W.findIn K (.ref C) f = some none
theorem NoAttr.taker {K : PySem.W.Frag} {C : Addr} {f : Str} (n : NoAttr K C f) : PySem.W.takerIn K C f = some none := by
  unfold PySem.W.takerIn
  rw [show PySem.W.findIn K (.ref C) f = some none from n]
  rfl
/-- a constant of the class -/
structure Con (K : PySem.W.Frag) (C : Addr) (f : Str) (v : V) (u : Value) : Prop where
  at_ : PySem.W.findIn K (.ref C) f = some (some u)
  rel : RelV v u
  get : PySem.W.specialIn K u "__get__" = some none
  cp : PySem.W.copiedNames.contains f = false
/-- a method: a plain def of the class or of one above it -/
structure Meth (K : PySem.W.Frag) (C : Addr) (m : Str) (f : Addr) : Prop where
  at_ : PySem.W.findIn K (.ref C) m = some (some (.ref f))
  fn : PySem.W.isFn K (.ref f) = true
  kp : PySem.W.keepIn K (.ref f) = true

section
variable {X : Cx} {pins : List (Addr × Obj)} {σ : St} {H : Hp} {s : Shared} {a C dx : Addr} {fs : List (Str × V)} {f : Str} {v : V} {A : Around} {E : Value → Shared → Prop}

theorem getattr_ok {b : Bool} {Q : Value → Shared → Prop} (I : Inv X pins σ H s) (e : H a = some (.ins C dx fs)) (c : Cls X.K C) (n : NoAttr X.K C f) (l : fs.lookup f = some v)
    (h : ∀ u s', Inv X pins σ H s' → RelV v u → Q u s') : wpAny (model X.prog X.w) A (getAttr (.ref a) f b) Q E s := by
  obtain ⟨mA, O, r, _, _, _⟩ := ins_get I.hok e
  obtain ⟨u, hu, ru⟩ := RelO.some_of (v := v) (o := mA f) (by rw [← l]; exact r f)
  exact get_map I.kIn O (c.get f) c.hd n hu (handed_of ru) (h u _ (I.tok _) ru)

theorem getcon_ok {b : Bool} {u : Value} {Q : Value → Shared → Prop} (I : Inv X pins σ H s) (e : H a = some (.ins C dx fs)) (c : Cls X.K C) (k : Con X.K C f v u) (l : fs.lookup f = none)
    (h : ∀ s', Inv X pins σ H s' → Q u s') : wpAny (model X.prog X.w) A (getAttr (.ref a) f b) Q E s := by
  obtain ⟨mA, O, r, _, _, _⟩ := ins_get I.hok e
  have hn : mA f = none := RelO.none_of (by rw [← l]; exact r f)
  exact get_const I.kIn O (c.get f) c.hd k.at_ k.get k.cp hn (handed_of k.rel) (h _ (I.tok _))

theorem getmeth_ok {m : Str} {g : Addr} {pl : Sem Bool} {Q : Value × List Value → Shared → Prop} (I : Inv X pins σ H s) (e : H a = some (.ins C dx fs)) (c : Cls X.K C) (k : Meth X.K C m g) (l : fs.lookup m = none)
    (h : Q (.ref g, [.ref a]) s) : wpAny (model X.prog X.w) A (getMethod (.ref a) m pl) Q E s := by
  obtain ⟨mA, O, r, _, _, _⟩ := ins_get I.hok e
  have hn : mA m = none := RelO.none_of (by rw [← l]; exact r m)
  exact get_meth I.kIn O (c.get m) k.at_ k.fn hn h

theorem setattr_ok {y : V} {u : Value} {Q : Unit → Shared → Prop} (I : Inv X pins σ H s) (e : H a = some (.ins C dx fs)) (c : Cls X.K C) (n : NoAttr X.K C f) (hl : fs.length < 1000) (ry : RelV y u)
    (h : ∀ s', Inv X pins σ (upd H a (.ins C dx (putF f y fs))) s' → Q () s') : wpAny (model X.prog X.w) A (setAttr (.ref a) f u) Q E s := by
  obtain ⟨mA, O, r, wi, _, ho⟩ := ins_get I.hok e
  have hz : (fs.map (·.1)).length ≤ sizeLine := by rw [List.length_map, sizeLine_eq]; omega
  refine set_map I.kIn O c.sa c.po n.taker c.hd wi hz fun h' O' sb => h _ ?_
  have hd : ∃ o, h'.get? dx = some o := let ⟨o, _, _, e', _⟩ := O'.ns; ⟨o, e'⟩
  refine I.write (x := a) (e := dx) (by rw [e]; exact True.intro) (.inr ho) (fun b q hb z => (sb.2 b hb).trans z) hd ?_
  refine ⟨by rw [upd_ne O.ne]; exact ho, ?_, O.ne, O'.obj, _, O'.ns, fun g => ?_, fun g hg => ?_⟩
  · have := length_putF f y fs; omega
  · show RelO ((putF f y fs).lookup g) (if g = f then some u else mA g)
    rw [lookup_putF]
    by_cases q : g = f
    · rw [if_pos q, if_pos q]; exact ry
    · rw [if_neg q, if_neg q]; exact r g
  · by_cases q : g = f
    · rw [q]; exact (keys_putF f y fs).1
    · refine (keys_putF f y fs).2 g (wi g fun z => hg ?_)
      show (if g = f then some u else mA g) = none
      rw [if_neg q]; exact z

/-- a new instance, tracked, without attributes -/
theorem Inv.made (I : Inv X pins σ H s) : Inv X pins σ (upd (upd H s.heap.objs.size (.own (s.heap.objs.size + 1))) (s.heap.objs.size + 1) (.ins C s.heap.objs.size []))
    { s with heap := (s.heap.push PySem.W.emptyDict).push (PySem.W.instObj C s.heap.objs.size) } := by
  have e1 : (s.heap.push PySem.W.emptyDict).get? s.heap.objs.size = some PySem.W.emptyDict := Heap.get?_push_size s.heap rfl
  have e2 : ((s.heap.push PySem.W.emptyDict).push (PySem.W.instObj C s.heap.objs.size)).get? (s.heap.objs.size + 1) = some (PySem.W.instObj C s.heap.objs.size) := by
    have := Heap.get?_push_size (s.heap.push PySem.W.emptyDict) (o := PySem.W.instObj C s.heap.objs.size) rfl
    rwa [Heap.size_push] at this
  have e3 : (s.heap.push PySem.W.emptyDict).Ns s.heap.objs.size (fun _ => none) := ⟨PySem.W.emptyDict, #[], _, e1, rfl, (fun e he => absurd he (by simp)), fun _ => rfl⟩
  have I1 := I.laid (a := s.heap.objs.size) (o := .own (s.heap.objs.size + 1)) (h' := s.heap.push PySem.W.emptyDict) (t' := s.toks) (fun b u q => Heap.get?_push_of_some _ q) (Nat.le_refl _) ⟨_, e1⟩
  refine I1.laid (a := s.heap.objs.size + 1) (o := .ins C s.heap.objs.size []) (t' := s.toks) (fun b u q => Heap.get?_push_of_some _ q) (Nat.le_of_eq (Heap.size_push _ _)) ?_
  have ne : s.heap.objs.size ≠ s.heap.objs.size + 1 := Nat.ne_of_lt (Nat.lt_succ_self _)
  refine ⟨by rw [upd_ne ne, upd_same], Nat.zero_le _, ne, e2, fun _ => none, (Heap.Ns1.of_empty e3).at fun o q => Heap.get?_push_of_some _ q, fun _ => True.intro, fun y hy => absurd rfl hy⟩

/-- e.f where nothing but the object is asked: through attributeBase (super) and the last hold -/
theorem attr_of {prog : Program} {w : World} {env : Env} {e : Expr} {f : Str} {pos : Pos} {s : Shared} {Q : Value → Shared → Prop} (hb : attributeBase e f env (eval e env) = eval e env)
    (h : wpAny (model prog w) A (eval e env) (fun o s₁ => wpAny (model prog w) A (getAttr o f true) Q E s₁) E s) : wpAny (model prog w) A (eval (.Attribute e f pos) env) Q E s :=
  Attribute_any_ h (by rw [arm_eval_Attribute, hb])
end

/-! ### readings and rules -/
/-- e.f, an attribute of the instance -/
def tFld (K : PySem.W.Frag) (ta : TE) (f : Str) : TE := fun σ H Q => ta σ H fun x H1 => ∃ a C dx fs v, x = .ref a ∧ H1 a = some (.ins C dx fs) ∧ Cls K C ∧ NoAttr K C f ∧ fs.lookup f = some v ∧ Q v H1
/-- e.f, a constant of the class -/
def tCon (K : PySem.W.Frag) (ta : TE) (f : Str) : TE := fun σ H Q => ta σ H fun x H1 => ∃ a C dx fs v u, x = .ref a ∧ H1 a = some (.ins C dx fs) ∧ Cls K C ∧ Con K C f v u ∧ fs.lookup f = none ∧ Q v H1
/-- e.f = value -/
def sFld (K : PySem.W.Frag) (ta tv : TE) (f : Str) : TS := fun D σ H => tv σ H fun y H1 => ta σ H1 fun x H2 => ∃ a C dx fs, x = .ref a ∧ H2 a = some (.ins C dx fs) ∧ Cls K C ∧ NoAttr K C f ∧ fs.length < 1000 ∧
  D.nx σ (upd H2 a (.ins C dx (putF f y fs)))
/-- an augmented operator on two values -/
def InOp (X : Cx) (op : Operator) (rd : V → V → Hp → VK → Prop) : Prop :=
  ∀ (pins : List (Addr × Obj)) (s : Shared) (σ : St) (H : Hp) (x y : V) (u v : Value) (Q : VK), Inv X pins σ H s → RelV x u → RelV y v → rd x y H Q → wpAny (model X.prog X.w) X.A (inplaceOp op u v) (EP X pins σ Q) X.xe s
/-- e.f op= value -/
def sFldAug (K : PySem.W.Frag) (ta tv : TE) (rd : V → V → Hp → VK → Prop) (f : Str) : TS := fun D σ H => ta σ H fun x H1 => ∃ a C dx fs v, x = .ref a ∧ H1 a = some (.ins C dx fs) ∧ Cls K C ∧ NoAttr K C f ∧ fs.lookup f = some v ∧
  tv σ H1 fun y H2 => rd v y H2 fun z H3 => ∃ dx' fs', H3 a = some (.ins C dx' fs') ∧ fs'.length < 1000 ∧ D.nx σ (upd H3 a (.ins C dx' (putF f z fs')))

section
variable {X : Cx} {o e value : Expr} {f : Str} {pos pos' tpos : Pos} {ta tv : TE}
theorem pe_fld (he : PE X e ta) (hb : attributeBase e f X.env (eval e X.env) = eval e X.env) : PE X (.Attribute e f pos) (tFld X.K ta f) := by
  intro pins s σ H Q I h
  refine attr_of hb (thn (he pins s σ H _ I h) fun u s1 ⟨x, H1, I1, rx, a, C, dx, fs, v, ex, ea, c, n, l, q⟩ => ?_)
  subst ex
  obtain rfl : u = Value.ref a := rx
  exact getattr_ok I1 ea c n l fun u' s2 I2 ru => ⟨v, H1, I2, ru, q⟩
theorem pe_con (he : PE X e ta) (hb : attributeBase e f X.env (eval e X.env) = eval e X.env) : PE X (.Attribute e f pos) (tCon X.K ta f) := by
  intro pins s σ H Q I h
  refine attr_of hb (thn (he pins s σ H _ I h) fun u s1 ⟨x, H1, I1, rx, a, C, dx, fs, v, u0, ex, ea, c, k, l, q⟩ => ?_)
  subst ex
  obtain rfl : u = Value.ref a := rx
  exact getcon_ok I1 ea c k l fun s2 I2 => ⟨v, H1, I2, k.rel, q⟩
theorem ps_fld (ha : PE X o ta) (hv : PE X value tv) (hs : swapsWith value (some (.Attribute o f pos')) pos.line X.env = pure false) : PS X (.Assign [.Attribute o f pos'] value pos) (sFld X.K ta tv f) := by
  intro pins s σ H D I h
  refine plainObj_wpAny_Assign_Attribute (thn (hv pins s σ H _ I h) fun u s1 ⟨y, H1, I1, ry, q⟩ => thn (ha pins s1 σ H1 _ I1 q) fun ov s2 ⟨x, H2, I2, rx, a, C, dx, fs, ex, ea, c, n, l, q2⟩ => ?_) hs
  subst ex
  obtain rfl : ov = Value.ref a := rx
  exact setattr_ok I2 ea c n l ry fun s3 I3 => ⟨σ, _, I3, q2⟩
theorem ps_fldaug {op : Operator} {rd : V → V → Hp → VK → Prop} (ha : PE X o ta) (hv : PE X value tv) (hop : InOp X op rd) : PS X (.AugAssign (.Attribute o f tpos) op value pos) (sFldAug X.K ta tv rd f) := by
  intro pins s σ H D I h
  refine wpAny_AugAssign_AttributeAny (thn (ha pins s σ H _ I h) fun ov s1 ⟨x, H1, I1, rx, a, C, dx, fs, v, ex, ea, c, n, l, q⟩ => ?_)
  subst ex
  obtain rfl : ov = Value.ref a := rx
  refine getattr_ok I1 ea c n l fun u s2 I2 ru => thn (hv pins s2 σ H1 _ I2 q) fun w3 s3 ⟨y, H2, I3, ry, q3⟩ => thn (hop pins s3 σ H2 v y u w3 _ I3 ru ry q3) fun w4 s4 ⟨z, H3, I4, rz, dx', fs', ea', l', q4⟩ => ?_
  exact setattr_ok I4 ea' c n l' rz fun s5 I5 => ⟨σ, _, I5, q4⟩
def rAdd : V → V → Hp → VK → Prop := fun x y H Q => ∃ i j, x = .int i ∧ y = .int j ∧ Q (.int (i + j)) H
def rSub : V → V → Hp → VK → Prop := fun x y H Q => ∃ i j, x = .int i ∧ y = .int j ∧ Q (.int (i - j)) H
theorem in_add : InOp X .Add rAdd := by
  rintro pins s σ H x y u v Q I rx ry ⟨i, j, rfl, rfl, q⟩
  obtain ⟨t, rfl⟩ := (show ∃ t, u = Value.int i t from rx)
  obtain ⟨t', rfl⟩ := (show ∃ t', v = Value.int j t' from ry)
  exact PyProof.Rows.iadd_int ⟨.int (i + j), H, I.tok _, ⟨_, rfl⟩, q⟩
theorem in_sub : InOp X .Sub rSub := by
  rintro pins s σ H x y u v Q I rx ry ⟨i, j, rfl, rfl, q⟩
  obtain ⟨t, rfl⟩ := (show ∃ t, u = Value.int i t from rx)
  obtain ⟨t', rfl⟩ := (show ∃ t', v = Value.int j t' from ry)
  exact PyProof.Rows.isub_int ⟨.int (i - j), H, I.tok _, ⟨_, rfl⟩, q⟩

/-- what is between an instance and its method: the tree of a method call -/
theorem methcall_of {pl : Sem Bool} {m : Str} {apos : Pos} {args : List Expr} {pins : List (Addr × Obj)} {s : Shared} {σ : St} {H : Hp} {Q : Value → Shared → Prop} {te : TE} (he : PE X e te) (I : Inv X pins σ H s)
    (h : te σ H fun x H1 => ∃ a C dx fs g, x = .ref a ∧ H1 a = some (.ins C dx fs) ∧ Cls X.K C ∧ Meth X.K C m g ∧ fs.lookup m = none ∧
      ∀ s1, Inv X pins σ H1 s1 → wpAny (model X.prog X.w) X.A (callWith pos (.ref g) [.ref a] (backTo pos (starEach args X.env)) (backToKw pos (keywordEach [] X.env))) Q X.xe s1)
    (ht : eval (.Call (.Attribute e m apos) args [] pos) X.env = (do
      let ov ← eval e X.env
      standAt apos.atName
      let (f, first) ← holding [ov] (getMethod ov m pl)
      callWith pos f first (backTo pos (starEach args X.env)) (backToKw pos (keywordEach [] X.env)))) :
    wpAny (model X.prog X.w) X.A (eval (.Call (.Attribute e m apos) args [] pos) X.env) Q X.xe s := by
  refine PySem.W.methodCall_KW (pl := pl) (thn (he pins s σ H _ I h) fun u s1 ⟨x, H1, I1, rx, a, C, dx, fs, g, ex, ea, c, k, l, q⟩ => ?_) ht
  subst ex
  obtain rfl : u = Value.ref a := rx
  exact getmeth_ok I1 ea c k l (q s1 I1)
end

/-! ### isinstance -/
section
variable {X : Cx} {pins : List (Addr × Obj)} {σ : St} {H : Hp} {s : Shared} {A : Around} {E : Value → Shared → Prop} {Q : Value → Shared → Prop} {c : Value} {b : Bool}
/-- the type of a value, as the fragment's deciders take it; for an instance its class -/
inductive TyOf (K : PySem.W.Frag) (H : Hp) : V → Value → Prop where
  | non : TyOf K H .non (.type "NoneType")
  | bl (x : Bool) : TyOf K H (.bl x) (.type "bool")
  | int (i : Int) : TyOf K H (.int i) (.type "int")
  | str (x : Str) : TyOf K H (.str x) (.type "str")
  | flt (x : UInt64) : TyOf K H (.flt x) (.type "float")
  | lst {a : Addr} {xs : List V} (e : H a = some (.lst xs)) : TyOf K H (.ref a) (.type "list")
  | frz {a : Addr} {o : Obj} {xs : List V} (e : H a = some (.frz o (.lst xs))) : TyOf K H (.ref a) (.type "list")
  | tup {a : Addr} {xs : List V} (e : H a = some (.tup xs)) : TyOf K H (.ref a) (.type "tuple")
  | dK {a : Addr} {kvs : List (Key × V)} (e : H a = some (.dK kvs)) : TyOf K H (.ref a) (.type "dict")
  | dT {a : Addr} {kvs : List (List Key × V)} (e : H a = some (.dT kvs)) : TyOf K H (.ref a) (.type "dict")
  | ins {a C dx : Addr} {fs : List (Str × V)} (e : H a = some (.ins C dx fs)) (cl : Cls K C) (ha : PySem.W.findIn K (.ref C) "__class__" = some (some (.builtin "object.__class__")))
      (hn : PySem.W.specialIn K (.builtin "object.__class__") "__get__" = some (some (.builtin "getset_descriptor.__get__"))) (htk : PySem.W.takesIn K (.builtin "object.__class__") = some true)
      (hm : PySem.W.mroIn K C (.type "object") = some true) : TyOf K H (.ref a) (.ref C)
/-- isinstance(x, c) for one class c, a built-in or an own one: kitOne's answer -/
theorem isinst_ok {x : V} {u t : Value} (I : Inv X pins σ H s) (rx : RelV x u) (ty : TyOf X.K H x t) (e : PySem.W.kitOne X.K t c = some b) (h : ∀ tk, Q (.bool b) { s with toks := tk }) :
    wpAny (model X.prog X.w) A (call (.builtin "isinstance") [u, c]) Q E s := by
  cases ty with
  | non => cases (show u = Value.none from rx); exact PySem.W.kia_one PySem.W.kitx_none I.kIn True.intro e (fun z => nomatch z) h
  | bl y => cases (show u = Value.bool y from rx); exact PySem.W.kia_one PySem.W.kitx_bool I.kIn True.intro e (fun z => nomatch z) h
  | int i => obtain ⟨t, q⟩ := (show ∃ t, u = Value.int i t from rx); cases q; exact PySem.W.kia_one PySem.W.kitx_int I.kIn True.intro e (fun z => nomatch z) h
  | str y => obtain ⟨t, q⟩ := (show ∃ t, u = Value.str y t from rx); cases q; exact PySem.W.kia_one PySem.W.kitx_str I.kIn True.intro e (fun z => nomatch z) h
  | flt y => obtain ⟨t, q⟩ := (show ∃ t, u = Value.float y t from rx); cases q; exact PySem.W.kia_one PySem.W.kitx_float I.kIn True.intro e (fun z => nomatch z) h
  | @lst a xs ea =>
    cases (show u = Value.ref a from rx)
    obtain ⟨_, _, n, _, h1⟩ := (show ObjOk X.prog X.w H s.heap a (.lst xs) from I.hok a _ ea)
    exact PySem.W.kia_one PySem.W.kitx_list I.kIn ⟨_, h1, rfl⟩ e (fun z => nomatch z) h
  | @frz a ob xs ea =>
    cases (show u = Value.ref a from rx)
    obtain ⟨_, _, _, n, _, h1⟩ := (show ObjOk X.prog X.w H s.heap a (.frz ob (.lst xs)) from I.hok a _ ea)
    exact PySem.W.kia_one PySem.W.kitx_list I.kIn ⟨_, h1, rfl⟩ e (fun z => nomatch z) h
  | @tup a xs ea =>
    cases (show u = Value.ref a from rx)
    obtain ⟨_, _, _, p⟩ := (show ObjOk X.prog X.w H s.heap a (.tup xs) from I.hok a _ ea)
    obtain ⟨o, h1, h2, _⟩ := p
    exact PySem.W.kia_one PySem.W.kitx_tuple I.kIn ⟨o, h1, h2⟩ e (fun z => nomatch z) h
  | @dK a kvs ea =>
    cases (show u = Value.ref a from rx)
    obtain ⟨_, _, vs, _, p⟩ := (show ObjOk X.prog X.w H s.heap a (.dK kvs) from I.hok a _ ea)
    obtain ⟨o, es, ep, h1, h2, _⟩ := p
    exact PySem.W.kia_one PySem.W.kitx_dict I.kIn ⟨o, h1, h2.1⟩ e (fun z => nomatch z) h
  | @dT a kvs ea =>
    cases (show u = Value.ref a from rx)
    obtain ⟨_, _, xs, _, o, es, ep, h1, h2, _⟩ := (show ObjOk X.prog X.w H s.heap a (.dT kvs) from I.hok a _ ea)
    exact PySem.W.kia_one PySem.W.kitx_dict I.kIn ⟨o, h1, h2.1⟩ e (fun z => nomatch z) h
  | @ins a C dx fs ea cl ha hn htk hm =>
    cases (show u = Value.ref a from rx)
    obtain ⟨mA, O, _⟩ := ins_get I.hok ea
    obtain ⟨od, J, _⟩ := O.look
    exact PySem.W.kia_one (PySem.W.kitx_own (cl.get _) cl.hd ha hn htk hm) I.kIn J e (fun z => nomatch z) h
end
end L2

namespace L2
open PySem PySem.Spec PyProof.Rows

/-! ### room -/
structure Room (k : Nat) (A : Around) : Prop where
  hd : A.handled = none
  dp : A.depth + 3 * k + 5 < recursionLimit
  un : A.units + 16 * k + 200 < cLine
theorem Room.mono {j k : Nat} {A : Around} (r : Room k A) (h : j ≤ k) : Room j A := ⟨r.hd, by have := r.dp; omega, by have := r.un; omega⟩
theorem Room.deeper {k : Nat} {A : Around} (r : Room (k + 1) A) (env : Env) : Room k (A.deeper env) :=
  ⟨r.hd, by have := r.dp; show A.depth + 1 + 3 * k + 5 < _; omega, by have := r.un; show A.units + 3 + 16 * k + 200 < _; omega⟩
theorem Room.in1 {k : Nat} {A : Around} (r : Room (k + 1) A) : Room k A.in1 :=
  ⟨r.hd, by have := r.dp; show A.depth + 3 * k + 5 < _; omega, by have := r.un; show A.units + 1 + 16 * k + 200 < _; omega⟩
theorem make_depth {A : Around} {C : Addr} {us : List Value} {kw : List (Str × Value)} : (A.under (.builtin "type.__call__" ⟨.ref C :: us, kw⟩)).depth = A.depth + 1 := by
  first | rfl | simp [Around.under, Code.weight, Code.isCreation, Code.isGuard, Code.isCaller, Code.frames, Code.isFrame, guardIds]
theorem make_units {A : Around} {C : Addr} {us : List Value} {kw : List (Str × Value)} : (A.under (.builtin "type.__call__" ⟨.ref C :: us, kw⟩)).units = A.units + 1 := by
  first | rfl | simp [Around.under, Code.cUnits, Code.frames, Code.isFrame]
theorem Room.make {k : Nat} {A : Around} (r : Room (k + 1) A) (C : Addr) (us : List Value) (kw : List (Str × Value)) : Room k (A.under (.builtin "type.__call__" ⟨.ref C :: us, kw⟩)) :=
  ⟨r.hd, by have := r.dp; rw [make_depth]; omega, by have := r.un; rw [make_units]; omega⟩
theorem Room.depth {k : Nat} {A : Around} (r : Room k A) : A.depth < recursionLimit := by have := r.dp; omega
theorem Room.units {k : Nat} {A : Around} (r : Room k A) : A.units + 64 < cLine := by have := r.un; omega
theorem Room.units0 {k : Nat} {A : Around} (r : Room k A) : A.units < cLine := by have := r.un; omega

/-! ### argument lists and displays -/
def tNil : TA := fun _ H Q => Q [] H
def tCons (ta : TE) (tr : TA) : TA := fun σ H Q => ta σ H fun x H1 => tr σ H1 fun xs H2 => Q (x :: xs) H2
section
variable {X : Cx} {e : Expr} {es : List Expr} {te : TE} {t : TA} {pos : Pos}
theorem pa_nil : PA X [] tNil := fun _ _ _ _ H Q I h => Calls.spliced_nil ⟨[], H, I, .nil, h⟩
theorem pa_cons (ha : PE X e te) (hr : PA X es t) (hs : starEach (e :: es) X.env = (false, eval e X.env) :: starEach es X.env := by rfl) : PA X (e :: es) (tCons te t) := by
  intro pos pins s σ H Q I h
  rw [hs]
  show wpAny _ _ (spliced ((false, eval e X.env) :: backTo pos (starEach es X.env))) _ _ s
  refine Calls.spliced_cons (thn (ha pins s σ H _ I h) fun u s1 ⟨x, H1, I1, r1, q1⟩ => ?_)
  exact thn (hr pos pins s1 σ H1 _ I1 q1) fun us s2 ⟨xs, H2, I2, r2, q2⟩ => ⟨x :: xs, H2, I2, .cons r1 r2, q2⟩

/-- a tuple, a list of written items -/
def tTup (t : TA) : TE := fun σ H Q => t σ H fun xs H1 => xs.length ≤ sizeLine ∧ ∀ p, H1 p = none → Q (.ref p) (upd H1 p (.tup xs))
def tLst (t : TA) : TE := fun σ H Q => t σ H fun xs H1 => xs.length ≤ sizeLine ∧ ∀ p, H1 p = none → Q (.ref p) (upd H1 p (.lst xs))
theorem pe_tup {x1} (h : PA X es t) : PE X (.Tuple es x1 pos) (tTup t) := by
  intro pins s σ H Q I hq
  refine wpAny_Tuple_spliced (thn (h pos pins s σ H _ I hq) fun us s1 ⟨xs, H1, I1, r, z, q⟩ => ⟨by rw [← r.length]; exact z, ?_⟩)
  have hf : H1 s1.heap.objs.size = none := I1.hok.fresh (Nat.le_refl _)
  refine ⟨.ref s1.heap.objs.size, upd H1 s1.heap.objs.size (.tup xs), I1.laid (t' := s1.toks) (fun b u e => Heap.get?_push_of_some _ e) (Nat.le_refl _) ?_, rfl, q _ hf⟩
  exact ⟨z, us, r, ⟨_, Heap.get?_push_size _ rfl, rfl, _, rfl⟩⟩
theorem pe_lst (h : PA X es t) : PE X (.List es pos) (tLst t) := by
  intro pins s σ H Q I hq
  refine wpAny_List_spliced (thn (h pos pins s σ H _ I hq) fun us s1 ⟨xs, H1, I1, r, z, q⟩ => ⟨by rw [← r.length]; exact z, ?_⟩)
  have hf : H1 s1.heap.objs.size = none := I1.hok.fresh (Nat.le_refl _)
  refine ⟨.ref s1.heap.objs.size, upd H1 s1.heap.objs.size (.lst xs), I1.laid (t' := s1.toks) (fun b u e => Heap.get?_push_of_some _ e) (Nat.le_refl _) ?_, rfl, q _ hf⟩
  exact ⟨z, us, 0, r, Heap.get?_push_size _ rfl⟩
end

/-! ### what a def promises -/
/-- a def's promise: the bound arguments in the parameters' order, the heap, the wanted end, the wanted exception -/
abbrev Sp := List V → Hp → VK → XK → Prop
/-- how an exception lies behind a call (file 08 gives it): the callers' frames, abstract heap and state ahead of the call, the wish, the exception, the state -/
abbrev CXT := List Env → Hp → Shared → XK → Value → Shared → Prop

/-- the state at a call -/
structure Env0 (P : Program) (w : World) (K : PySem.W.Frag) (mg : Str → Option Value) (base : Heap) (A : Around) (outer : List Env) (s : Shared) (H : Hp) : Prop where
  frames : A.frames = some outer
  mod : Mod K mg base
  bs : ∀ b o, base.get? b = some o → s.heap.get? b = some o ∧ H b = none
  bsz : base.objs.size ≤ s.heap.objs.size
  funs : s.heap.FunFrames base outer
  frf : ∀ b ∈ frs outer, H b = none
  hok : HOk P w H s.heap
  bare : AllBare s.gens
/-- a call's end -/
def CE (outer : List Env) (P : Program) (w : World) (H : Hp) (s : Shared) (Q : VK) (u : Value) (s' : Shared) : Prop :=
  ∃ v H', s'.os = s.os ∧ AllBare s'.gens ∧ Un (frs outer) [] H H' s.heap s'.heap ∧ HOk P w H' s'.heap ∧ RelV v u ∧ Q v H'
def CR (CX : CXT) (outer : List Env) (P : Program) (w : World) (H : Hp) (s : Shared) (Q : VK) (E : XK) (r : Result) (s' : Shared) : Prop :=
  match r with
  | .ok (.ret u) => CE outer P w H s Q u s'
  | .ok _ => False
  | .error e => CX outer H s E e s'
structure FnOk (P : Program) (w : World) (K : PySem.W.Frag) (mg : Str → Option Value) (base : Heap) (CX : CXT) (k : Nat) (f : Addr) (fd : FuncData) (ps : List Str) (sp : Sp) : Prop where
  len : ∀ vs H Q E, sp vs H Q E → vs.length = ps.length
  run : ∀ (A : Around) (outer : List Env) (s : Shared) (H : Hp) (args : Args) (us : List Value) (vs : List V) (Q : VK) (E : XK), Room k A → Env0 P w K mg base A outer s H → BindsTo s fd args (ps.zip us) → Vals vs us → sp vs H Q E →
    codeAny (model P w) A (.call (.ref f) args) (CR CX outer P w H s Q E) s
theorem FnOk.mono {P : Program} {w : World} {K : PySem.W.Frag} {mg : Str → Option Value} {base : Heap} {CX : CXT} {j k : Nat} {f : Addr} {fd : FuncData} {ps : List Str} {sp : Sp} (F : FnOk P w K mg base CX j f fd ps sp) (h : j ≤ k) :
    FnOk P w K mg base CX k f fd ps sp := ⟨F.len, fun A outer s H args us vs Q E hr => F.run A outer s H args us vs Q E (hr.mono h)⟩
/-- a weaker promise -/
theorem FnOk.imp {P : Program} {w : World} {K : PySem.W.Frag} {mg : Str → Option Value} {base : Heap} {CX : CXT} {k : Nat} {f : Addr} {fd : FuncData} {ps : List Str} {sp sp' : Sp} (F : FnOk P w K mg base CX k f fd ps sp)
    (h : ∀ vs H Q E, sp' vs H Q E → sp vs H Q E) : FnOk P w K mg base CX k f fd ps sp' :=
  ⟨fun vs H Q E q => F.len vs H Q E (h _ _ _ _ q), fun A outer s H args us vs Q E hr he hb hv hs => F.run A outer s H args us vs Q E hr he hb hv (h _ _ _ _ hs)⟩

theorem Env0.make {P : Program} {w : World} {K : PySem.W.Frag} {mg : Str → Option Value} {base : Heap} {A : Around} {outer : List Env} {s : Shared} {H : Hp} (e : Env0 P w K mg base A outer s H) (C : Addr) (us : List Value) (kw : List (Str × Value)) :
    Env0 P w K mg base (A.under (.builtin "type.__call__" ⟨.ref C :: us, kw⟩)) outer s H := ⟨by first | exact e.frames | (simpa [Around.under, Code.envs, Code.isFrame, pushEnvs] using e.frames), e.mod, e.bs, e.bsz, e.funs, e.frf, e.hok, e.bare⟩
theorem Env0.in1 {P : Program} {w : World} {K : PySem.W.Frag} {mg : Str → Option Value} {base : Heap} {A : Around} {outer : List Env} {s : Shared} {H : Hp} (e : Env0 P w K mg base A outer s H) :
    Env0 P w K mg base A.in1 outer s H := ⟨e.frames, e.mod, e.bs, e.bsz, e.funs, e.frf, e.hok, e.bare⟩

section
variable {X : Cx} {pins : List (Addr × Obj)} {σ : St} {H : Hp} {s s' : Shared}
/-- from a body: what a callee wants -/
theorem Inv.env0 (I : Inv X pins σ H s) : Env0 X.prog X.w X.K X.mg X.base X.A X.stack s H :=
  ⟨I.ok.frames, I.ok.mod, I.bs, Nat.le_trans I.ok.bsz I.sz, I.stack, I.stkFree, I.hok, I.bare⟩
/-- behind a call -/
theorem Inv.after {Q : VK} {u : Value} (I : Inv X pins σ H s) (h : CE X.stack X.prog X.w H s Q u s') : EP X pins σ Q u s' := by
  obtain ⟨v, H', os, bare, un, hok, r, q⟩ := h
  obtain ⟨hh, g, d, t, os'⟩ := s'
  obtain rfl : os' = s.os := os
  exact ⟨v, H', I.call (h' := hh) (g' := g) (d' := d) (t' := t) (ch := []) un hok bare (fun b z => absurd z (by simp)), r, q⟩
end

/-! ### calls -/
/-- f(..): the written arguments, then the defaults dvs; E: what is wanted of an exception -/
def tCall (sp : Sp) (dvs : List V) (E : XK) (t : TA) : TE := fun σ H Q => t σ H fun vs H1 => sp (vs ++ dvs) H1 Q E
/-- o.m(..) of an instance of the class at C -/
def tMeth (C : Addr) (m : Str) (sp : Sp) (dvs : List V) (E : XK) (ta : TE) (t : TA) : TE := fun σ H Q => ta σ H fun x H1 => ∃ a dx fs, x = .ref a ∧ H1 a = some (.ins C dx fs) ∧ fs.lookup m = none ∧
  t σ H1 fun vs H2 => sp (x :: (vs ++ dvs)) H2 Q E
/-- C(..): a new instance and its dict, then __init__ -/
def tMake (C : Addr) (sp : Sp) (dvs : List V) (E : XK) (t : TA) : TE := fun σ H Q => t σ H fun vs H1 => ∀ x dx, H1 x = none → H1 dx = none → dx ≠ x →
  sp (.ref x :: (vs ++ dvs)) (upd (upd H1 dx (.own x)) x (.ins C dx [])) (fun v H2 => v = .non ∧ Q (.ref x) H2) E

/-- how the parameters are bound: us the positional arguments, kw the keywords' values by name, ds the defaults that fill up -/
def Binds (K : PySem.W.Frag) (fd : FuncData) (ps : List Str) (ds : List Value) : Prop :=
  ∀ (s : Shared) (us : List Value), K.In s.heap → (us ++ ds).length = ps.length → BindsTo s fd ⟨us, []⟩ (ps.zip (us ++ ds))
/-- every parameter is given -/
theorem Binds.all {K : PySem.W.Frag} {fd : FuncData} {ps : List Str} (h : ∀ us : List Value, us.length = ps.length → bindArgs fd ⟨us, []⟩ = pure (ps.zip us)) : Binds K fd ps [] := fun s us _ hl => by
  rw [List.append_nil] at hl ⊢
  exact .of_eq (h us hl)

/-- an exception of a callee reaches what this body wants of exceptions -/
def Passes (CX : CXT) (X : Cx) (E : XK) : Prop := ∀ (pins : List (Addr × Obj)) (σ : St) (H : Hp) (s : Shared) (e : Value) (s' : Shared), Inv X pins σ H s → CX X.stack H s E e s' → X.xe e s'

section
variable {X : Cx} {CX : CXT} {k : Nat} {f C : Addr} {fd : FuncData} {ps : List Str} {sp : Sp} {dvs : List V} {ds : List Value} {E : XK} {x m : Str} {p pos apos : Pos} {e o : Expr} {es : List Expr} {ta : TE} {t : TA}

/-- the callee runs -/
theorem run_fn {pins : List (Addr × Obj)} {σ : St} {H : Hp} {s : Shared} {Q : VK} {us : List Value} {vs : List V} (F : FnOk X.prog X.w X.K X.mg X.base CX k f fd ps sp) (hr : Room k X.A) (hb : Binds X.K fd ps ds) (hd : Vals dvs ds) (hx : Passes CX X E)
    (I : Inv X pins σ H s) (r : Vals vs us) (h : sp (vs ++ dvs) H Q E) : wpAny (model X.prog X.w) X.A (call (.ref f) us) (EP X pins σ Q) X.xe s := by
  have r2 : Vals (vs ++ dvs) (us ++ ds) := r.append hd
  have hl : (us ++ ds).length = ps.length := by rw [← r2.length]; exact F.len _ _ _ _ h
  refine wpAny_call (codeAny_mono (F.run X.A X.stack s H ⟨us, []⟩ (us ++ ds) (vs ++ dvs) Q E hr I.env0 (hb s us I.kIn hl) r2 h) fun r s' hq => ?_)
  cases r with
  | error e => exact hx pins σ H s e s' I hq
  | ok fl =>
    cases fl with
    | ret u => exact I.after hq
    | next => exact False.elim hq
    | brk => exact False.elim hq
    | cont => exact False.elim hq

theorem pe_call (F : FnOk X.prog X.w X.K X.mg X.base CX k f fd ps sp) (hr : Room k X.A) (hg : Gl X x) (hm : X.mg x = some (.ref f)) (hk : PySem.W.keepIn X.K (.ref f) = true) (hb : Binds X.K fd ps ds) (hd : Vals dvs ds) (hx : Passes CX X E)
    (ha : PA X (e :: es) t) (hdb : (x == ("__debug__" : Str)) = false := by decide) (he : starEach (e :: es) X.env = (false, eval e X.env) :: starEach es X.env := by rfl) (hpl : (backTo pos (starEach es X.env)).any (·.1) = false := by rfl) :
    PE X (.Call (.Name x p) (e :: es) [] pos) (tCall sp dvs E t) := by
  intro pins s σ H Q I h
  refine wpAny_Call_Name_kw (ld_glob I hg hm ?_ hdb)
  refine PySem.W.callWith_K (h₀ := X.base) I.ok.mod.kin hk (thn (ha pos pins s σ H _ I h) fun us s1 ⟨vs, H1, I1, r, q⟩ => ⟨I1.kIn, ?_⟩) he hpl
  exact run_fn F hr hb hd hx I1 r q
theorem pe_call0 (F : FnOk X.prog X.w X.K X.mg X.base CX k f fd ps sp) (hr : Room k X.A) (hg : Gl X x) (hm : X.mg x = some (.ref f)) (hk : PySem.W.keepIn X.K (.ref f) = true) (hb : Binds X.K fd ps ds) (hd : Vals dvs ds) (hx : Passes CX X E)
    (hdb : (x == ("__debug__" : Str)) = false := by decide) : PE X (.Call (.Name x p) [] [] pos) (tCall sp dvs E tNil) := by
  intro pins s σ H Q I h
  refine wpAny_Call_Name_kw (ld_glob I hg hm ?_ hdb)
  exact PySem.W.callWith_K0 I.kIn hk (run_fn (us := []) F hr hb hd hx I .nil h)

/-- o.m(e, ..) -/
theorem pe_meth {pl : Sem Bool} (he : PE X o ta) (c : Cls X.K C) (hm : Meth X.K C m f) (F : FnOk X.prog X.w X.K X.mg X.base CX k f fd ps sp) (hr : Room k X.A) (hb : Binds X.K fd ps ds) (hd : Vals dvs ds) (hx : Passes CX X E) (ha : PA X (e :: es) t)
    (hst : starEach (e :: es) X.env = (false, eval e X.env) :: starEach es X.env := by rfl) (hpl : (backTo pos (starEach es X.env)).any (·.1) = false := by rfl)
    (ht : eval (.Call (.Attribute o m apos) (e :: es) [] pos) X.env = (do
      let ov ← eval o X.env
      standAt apos.atName
      let (f, first) ← holding [ov] (getMethod ov m pl)
      callWith pos f first (backTo pos (starEach (e :: es) X.env)) (backToKw pos (keywordEach [] X.env))) := by rfl) :
    PE X (.Call (.Attribute o m apos) (e :: es) [] pos) (tMeth C m sp dvs E ta t) := by
  intro pins s σ H Q I h
  refine PySem.W.methodCall_KW (pl := pl) (thn (he pins s σ H _ I h) fun u s1 ⟨x, H1, I1, rx, a, dx, fs, ex, ea, l, q⟩ => ?_) ht
  subst ex
  obtain rfl : u = Value.ref a := rx
  refine getmeth_ok I1 ea c hm l ?_
  refine PySem.W.callWith_K (first := [.ref a]) (h₀ := X.base) I.ok.mod.kin hm.kp (thn (ha pos pins s1 σ H1 _ I1 q) fun us s2 ⟨vs, H2, I2, r, q2⟩ => ⟨I2.kIn, ?_⟩) hst hpl
  exact run_fn (us := .ref a :: us) (vs := .ref a :: vs) F hr hb hd hx I2 (.cons rfl r) q2
/-- o.m() -/
theorem pe_meth0 {pl : Sem Bool} (he : PE X o ta) (c : Cls X.K C) (hm : Meth X.K C m f) (F : FnOk X.prog X.w X.K X.mg X.base CX k f fd ps sp) (hr : Room k X.A) (hb : Binds X.K fd ps ds) (hd : Vals dvs ds) (hx : Passes CX X E)
    (ht : eval (.Call (.Attribute o m apos) [] [] pos) X.env = (do
      let ov ← eval o X.env
      standAt apos.atName
      let (f, first) ← holding [ov] (getMethod ov m pl)
      callWith pos f first (backTo pos (starEach [] X.env)) (backToKw pos (keywordEach [] X.env))) := by rfl) :
    PE X (.Call (.Attribute o m apos) [] [] pos) (tMeth C m sp dvs E ta tNil) := by
  intro pins s σ H Q I h
  refine PySem.W.methodCall_KW (pl := pl) (thn (he pins s σ H _ I h) fun u s1 ⟨x, H1, I1, rx, a, dx, fs, ex, ea, l, q⟩ => ?_) ht
  subst ex
  obtain rfl : u = Value.ref a := rx
  refine getmeth_ok I1 ea c hm l ?_
  exact PySem.W.callWith_K0 (first := [.ref a]) I1.kIn hm.kp (run_fn (us := [.ref a]) (vs := [.ref a]) F hr hb hd hx I1 (.cons rfl .nil) q)

/-- what a class must have to be made -/
structure Mk (K : PySem.W.Frag) (C f : Addr) : Prop where
  makes : PySem.W.makesIn K C = true
  init : PySem.W.findIn K (.ref C) "__init__" = some (some (.ref f))
  fn : PySem.W.isFn K (.ref f) = true
  kp : PySem.W.keepIn K (.ref C) = true

theorem run_make {pins : List (Addr × Obj)} {σ : St} {H : Hp} {s : Shared} {Q : VK} {us : List Value} {vs : List V} (M : Mk X.K C f) (F : FnOk X.prog X.w X.K X.mg X.base CX k f fd ps sp) (hr : Room (k + 1) X.A) (hb : Binds X.K fd ps ds) (hd : Vals dvs ds)
    (hx : Passes CX X E) (I : Inv X pins σ H s) (r : Vals vs us)
    (h : ∀ x dx, H x = none → H dx = none → dx ≠ x → sp (.ref x :: (vs ++ dvs)) (upd (upd H dx (.own x)) x (.ins C dx [])) (fun v H2 => v = .non ∧ Q (.ref x) H2) E) :
    wpAny (model X.prog X.w) X.A (call (.ref C) us) (EP X pins σ Q) X.xe s := by
  have hq := h (s.heap.objs.size + 1) s.heap.objs.size (I.hok.fresh (Nat.le_succ _)) (I.hok.fresh (Nat.le_refl _)) (Nat.ne_of_lt (Nat.lt_succ_self _))
  have I2 := Inv.made (C := C) I
  have r2 : Vals (V.ref (s.heap.objs.size + 1) :: (vs ++ dvs)) (Value.ref (s.heap.objs.size + 1) :: (us ++ ds)) := .cons rfl (r.append hd)
  have hl : (Value.ref (s.heap.objs.size + 1) :: us ++ ds).length = ps.length := by
    have e := r2.length
    rw [F.len _ _ _ _ hq] at e
    exact e.symm
  refine wpAny_call (make_map (f := f) I.kIn M.makes M.init (beq_iff_eq.mp M.fn) (codeAny_mono (F.run _ X.stack _ _ ⟨Value.ref (s.heap.objs.size + 1) :: us, []⟩ (Value.ref (s.heap.objs.size + 1) :: (us ++ ds)) _ _ E (hr.make C us [])
    (I2.env0.make C us []) (hb _ (Value.ref (s.heap.objs.size + 1) :: us) I2.kIn hl) r2 hq) fun r s' hq' => ?_))
  cases r with
  | error e => exact hx pins σ _ _ e s' I2 hq'
  | ok fl =>
    cases fl with
    | ret u =>
      obtain ⟨v, H', I3, rv, ev, q3⟩ := I2.after hq'
      subst ev
      exact ⟨rv, ⟨V.ref (s.heap.objs.size + 1), H', I3, rfl, q3⟩⟩
    | next => exact False.elim hq'
    | brk => exact False.elim hq'
    | cont => exact False.elim hq'
theorem pe_make (M : Mk X.K C f) (F : FnOk X.prog X.w X.K X.mg X.base CX k f fd ps sp) (hr : Room (k + 1) X.A) (hg : Gl X x) (hm : X.mg x = some (.ref C)) (hb : Binds X.K fd ps ds) (hd : Vals dvs ds) (hx : Passes CX X E)
    (ha : PA X (e :: es) t) (hdb : (x == ("__debug__" : Str)) = false := by decide) (he : starEach (e :: es) X.env = (false, eval e X.env) :: starEach es X.env := by rfl) (hpl : (backTo pos (starEach es X.env)).any (·.1) = false := by rfl) :
    PE X (.Call (.Name x p) (e :: es) [] pos) (tMake C sp dvs E t) := by
  intro pins s σ H Q I h
  refine wpAny_Call_Name_kw (ld_glob I hg hm ?_ hdb)
  refine PySem.W.callWith_K (h₀ := X.base) I.ok.mod.kin M.kp (thn (ha pos pins s σ H _ I h) fun us s1 ⟨vs, H1, I1, r, q⟩ => ⟨I1.kIn, ?_⟩) he hpl
  exact run_make M F hr hb hd hx I1 r q
theorem pe_make0 (M : Mk X.K C f) (F : FnOk X.prog X.w X.K X.mg X.base CX k f fd ps sp) (hr : Room (k + 1) X.A) (hg : Gl X x) (hm : X.mg x = some (.ref C)) (hb : Binds X.K fd ps ds) (hd : Vals dvs ds) (hx : Passes CX X E)
    (hdb : (x == ("__debug__" : Str)) = false := by decide) : PE X (.Call (.Name x p) [] [] pos) (tMake C sp dvs E tNil) := by
  intro pins s σ H Q I h
  refine wpAny_Call_Name_kw (ld_glob I hg hm ?_ hdb)
  exact PySem.W.callWith_K0 I.kIn M.kp (run_make (us := []) M F hr hb hd hx I .nil h)
end

/-! ### keywords -/
/-- the values of the keywords, from the left -/
def PK (X : Cx) (kws : List Keyword) (t : TA) : Prop :=
  ∀ (pos : Pos) (pins : List (Addr × Obj)) (s : Shared) (σ : St) (H : Hp) (Q : List V → Hp → Prop), Inv X pins σ H s → t σ H Q → wpAny (model X.prog X.w) X.A (evalAll ((backToKw pos (keywordEach kws X.env)).map (·.2))) (AP X pins σ Q) X.xe s
section
variable {X : Cx} {CX : CXT} {k : Nat} {f C : Addr} {fd : FuncData} {ps ks : List Str} {sp : Sp} {E : XK} {x m : Str} {p pos apos kpos : Pos} {e o : Expr} {es : List Expr} {kws : List Keyword} {te ta : TE} {t tk : TA} {nm : Option Str}
theorem pk_nil : PK X [] tNil := fun _ _ _ _ H Q I h => wpAny_evalAll_nil ⟨[], H, I, .nil, h⟩
theorem pk_cons (ha : PE X e te) (hr : PK X kws t) : PK X (⟨nm, e, kpos⟩ :: kws) (tCons te t) := by
  intro pos pins s σ H Q I h
  show wpAny _ _ (evalAll ((do let v ← eval e X.env; standAt pos; pure v) :: (backToKw pos (keywordEach kws X.env)).map (·.2))) _ _ s
  refine wpAny_evalAll_cons (wpAny_bind (thn (ha pins s σ H _ I h) fun u s1 ⟨x, H1, I1, r1, q1⟩ => wpAny_bind (wpAny_standAt (wpAny_pure ?_))))
  exact thn (hr pos pins s1 σ H1 _ I1 q1) fun us s2 ⟨xs, H2, I2, r2, q2⟩ => ⟨x :: xs, H2, I2, .cons r1 r2, q2⟩

/-- how a call with keywords binds: g puts the positional values us and the keywords' values ws (names ks) in the parameters' order, defaults among them -/
structure KBinds (K : PySem.W.Frag) (fd : FuncData) (ps ks : List Str) (g : List Value → List Value → List Value) (gV : List V → List V → List V) : Prop where
  to : ∀ (s : Shared) (us ws : List Value), K.In s.heap → (g us ws).length = ps.length → BindsTo s fd ⟨us, ks.zip ws⟩ (ps.zip (g us ws))
  rel : ∀ {vs : List V} {us : List Value} {zs : List V} {ws : List Value}, Vals vs us → Vals zs ws → Vals (gV vs zs) (g us ws)
def tCallK (sp : Sp) (gV : List V → List V → List V) (E : XK) (t tk : TA) : TE := fun σ H Q => t σ H fun vs H1 => tk σ H1 fun zs H2 => sp (gV vs zs) H2 Q E
variable {g : List Value → List Value → List Value} {gV : List V → List V → List V}
theorem run_fnk {pins : List (Addr × Obj)} {σ : St} {H : Hp} {s : Shared} {Q : VK} {us ws : List Value} {vs zs : List V} (F : FnOk X.prog X.w X.K X.mg X.base CX k f fd ps sp) (hr : Room k X.A) (hb : KBinds X.K fd ps ks g gV) (hx : Passes CX X E)
    (I : Inv X pins σ H s) (r : Vals vs us) (rz : Vals zs ws) (h : sp (gV vs zs) H Q E) : wpAny (model X.prog X.w) X.A (call (.ref f) us (ks.zip ws)) (EP X pins σ Q) X.xe s := by
  have r2 := hb.rel r rz
  have hl : (g us ws).length = ps.length := by rw [← r2.length]; exact F.len _ _ _ _ h
  refine wpAny_call (codeAny_mono (F.run X.A X.stack s H ⟨us, ks.zip ws⟩ (g us ws) (gV vs zs) Q E hr I.env0 (hb.to s us ws I.kIn hl) r2 h) fun r s' hq => ?_)
  cases r with
  | error e => exact hx pins σ H s e s' I hq
  | ok fl =>
    cases fl with
    | ret u => exact I.after hq
    | next => exact False.elim hq
    | brk => exact False.elim hq
    | cont => exact False.elim hq
/-- f(e, .., k = v, ..) -/
theorem pe_callK (F : FnOk X.prog X.w X.K X.mg X.base CX k f fd ps sp) (hr : Room k X.A) (hg : Gl X x) (hm : X.mg x = some (.ref f)) (hk : PySem.W.keepIn X.K (.ref f) = true) (hb : KBinds X.K fd ps ks g gV) (hx : Passes CX X E)
    (ha : PA X (e :: es) t) (hkw : PK X kws tk) (hall : (backToKw pos (keywordEach kws X.env)).all (·.1.isSome) = true := by rfl) (hks : (backToKw pos (keywordEach kws X.env)).filterMap (·.1) = ks := by rfl)
    (hdb : (x == ("__debug__" : Str)) = false := by decide) (he : starEach (e :: es) X.env = (false, eval e X.env) :: starEach es X.env := by rfl)
    (hpl : ((backTo pos (starEach (e :: es) X.env)).any (·.1) || (backToKw pos (keywordEach kws X.env)).any (·.1.isNone)) = false := by rfl) :
    PE X (.Call (.Name x p) (e :: es) kws pos) (tCallK sp gV E t tk) := by
  intro pins s σ H Q I h
  refine wpAny_Call_Name_kw (ld_glob I hg hm ?_ hdb)
  refine PySem.W.callWith_KW (h₀ := X.base) I.ok.mod.kin hk hall (thn (ha pos pins s σ H _ I h) fun us s1 ⟨vs, H1, I1, r, q⟩ => ?_) hpl he
  refine thn (hkw pos pins s1 σ H1 _ I1 q) fun ws s2 ⟨zs, H2, I2, rz, q2⟩ => ⟨I2.kIn, ?_⟩
  rw [hks]
  exact run_fnk F hr hb hx I2 r rz q2
end

/-! ### a def's body keeps its promise -/
/-- names: the parameters first -/
structure FnScope (N P : List Str) (sc : Scope) : Prop where
  kind : sc.kind = .function
  co : sc.isCoroutine = false
  gen : sc.isGenerator = false
  nd : N.Nodup
  pre : N.take P.length = P
  par : ∀ x ∈ P, sc.names.lookup x = some .local ∨ sc.names.lookup x = some .cell
  nofree : ∀ y ∈ sc.names, y.2 ≠ .free

theorem bindL_out {kindOf : Str → Option NameKind} {x : Str} : ∀ {binds : List (Str × Value)} {m : Str → Option Value}, (∀ v, (x, v) ∉ binds) → bindL kindOf binds m x = m x
  | [], _, _ => rfl
  | (n, v) :: r, m, h => by
    unfold bindL
    rw [bindL_out fun w hw => h w (List.mem_cons_of_mem _ hw)]
    split
    · have : x ≠ n := by rintro rfl; exact h v List.mem_cons_self
      simp [this]
    · rfl
theorem bindC_out {kindOf : Str → Option NameKind} {x : Str} : ∀ {binds : List (Str × Value)} {m : Str → Option Value}, (∀ v, (x, v) ∉ binds) → bindC kindOf binds m x = m x
  | [], _, _ => rfl
  | (n, v) :: r, m, h => by
    unfold bindC
    rw [bindC_out fun w hw => h w (List.mem_cons_of_mem _ hw)]
    split
    · rfl
    · have : x ≠ n := by rintro rfl; exact h v List.mem_cons_self
      simp [this]
theorem bindL_get {kindOf : Str → Option NameKind} {x : Str} {v : Value} : ∀ {P : List Str} {vs : List Value} {i : Nat} {m : Str → Option Value}, P.Nodup → P[i]? = some x → vs[i]? = some v → kindOf x = some .local →
    bindL kindOf (P.zip vs) m x = some v
  | [], _, _, _, _, h, _, _ => by simp at h
  | _ :: _, [], _, _, _, _, h, _ => by simp at h
  | p :: P, w :: vs, 0, m, nd, h1, h2, hk => by
    simp at h1 h2; subst h1; subst h2
    show bindL kindOf ((p, w) :: P.zip vs) m p = _
    unfold bindL
    rw [bindL_out fun v hv => (List.nodup_cons.mp nd).1 (List.of_mem_zip hv).1, if_pos hk]
    simp
  | p :: P, w :: vs, i + 1, m, nd, h1, h2, hk => by
    show bindL kindOf ((p, w) :: P.zip vs) m x = _
    unfold bindL
    exact bindL_get (i := i) (List.nodup_cons.mp nd).2 (by simpa using h1) (by simpa using h2) hk
theorem bindC_get {kindOf : Str → Option NameKind} {x : Str} {v : Value} : ∀ {P : List Str} {vs : List Value} {i : Nat} {m : Str → Option Value}, P.Nodup → P[i]? = some x → vs[i]? = some v → kindOf x ≠ some .local →
    bindC kindOf (P.zip vs) m x = some v
  | [], _, _, _, _, h, _, _ => by simp at h
  | _ :: _, [], _, _, _, _, h, _ => by simp at h
  | p :: P, w :: vs, 0, m, nd, h1, h2, hk => by
    simp at h1 h2; subst h1; subst h2
    show bindC kindOf ((p, w) :: P.zip vs) m p = _
    unfold bindC
    rw [bindC_out fun v hv => (List.nodup_cons.mp nd).1 (List.of_mem_zip hv).1, if_neg hk]
    simp
  | p :: P, w :: vs, i + 1, m, nd, h1, h2, hk => by
    show bindC kindOf ((p, w) :: P.zip vs) m x = _
    unfold bindC
    exact bindC_get (i := i) (List.nodup_cons.mp nd).2 (by simpa using h1) (by simpa using h2) hk

/-- the names' values at the entry -/
def start (N : List Str) (vs : List V) : St := vs.map some ++ List.replicate (N.length - vs.length) none

/-- the context of a def's body, at its entry; an exception leaves the frame, then lies as CX says -/
def cxOf (CX : CXT) (P : Program) (w : World) (K : PySem.W.Frag) (mg : Str → Option Value) (base : Heap) (N : List Str) (qual : Str) (scope : Scope) (f : Addr) (cd : Value) (A : Around) (outer : List Env) (s : Shared) (H : Hp) (E : XK) : Cx where
  prog := P
  w := w
  K := K
  mg := mg
  base := base
  A := A.deeper (envOfC qual scope s.heap.objs.size f cd)
  N := N
  s₀ := s
  H₀ := H
  env := envOfC qual scope s.heap.objs.size f cd
  outer := outer
  stack := envOfC qual scope s.heap.objs.size f cd :: outer
  ex := []
  calm := true
  fn := fun _ => true
  pn := []
  xe := fun e s' => wpAny (model P w) (A.deeper (envOfC qual scope s.heap.objs.size f cd)) (leaving (envOfC qual scope s.heap.objs.size f cd) e) (fun _ s'' => CX outer H s E e s'') (fun e' s'' => CX outer H s E e' s'') s'

theorem cell_has {sc : Scope} {n : Nat} {x : Str} (h : sc.names.lookup x = some .cell) : ∃ c, (cellsFrom n sc.names []).lookup x = some c := by
  have q := PySem.W.cellsFrom_some sc.names n [] (.inl h)
  exact Option.isSome_iff_exists.mp q

theorem inv_start {CX : CXT} {P : Program} {w : World} {K : PySem.W.Frag} {mg : Str → Option Value} {base : Heap} {N ps : List Str} {qual : Str} {scope : Scope} {f : Addr} {cd : Value} {A : Around} {outer : List Env} {s s1 : Shared} {H : Hp} {E : XK} {us : List Value} {vs : List V}
    (S : FnScope N ps scope) (hd : A.handled = none) (e0 : Env0 P w K mg base A outer s H) (hl : vs.length = ps.length) (r : Vals vs us)
    (x : InCallC s s.heap.objs.size (bindL (envOfC qual scope s.heap.objs.size f cd).kindOf (ps.zip us) fun _ => none) (cellsFrom (s.heap.objs.size + 1) scope.names []) (bindC (envOfC qual scope s.heap.objs.size f cd).kindOf (ps.zip us) fun _ => none) s1) :
    Inv (cxOf CX P w K mg base N qual scope f cd A outer s H E) [] (start N vs) H s1 := by
  have hpl : ps.length ≤ N.length := by have := congrArg List.length S.pre; rw [List.length_take] at this; omega
  obtain ⟨h1, tk, rfl, hk⟩ := x.done
  have noA : ∀ b : Addr, b ∉ (cxOf CX P w K mg base N qual scope f cd A outer s H E).ex := fun b z => absurd (show b ∈ ([] : List Addr) from z) (by simp)
  refine ⟨⟨e0.mod, S.kind, rfl, rfl, Nat.le_refl _, fun y z c h1 h2 => ?_, fun y hy => ?_, fun y c _ h => ?_, fun _ => hd, Around.frames_deeper e0.frames, .inr ⟨rfl, rfl⟩, fun b z => absurd z (noA b), e0.bs, e0.bsz, fun b _ _ => noA b, fun b z => absurd z (noA b), e0.funs, e0.frf⟩,
    rfl, e0.bare, Un.kept hk, ⟨_, x.toInCall.ns, fun i y v h1 h2 h3 => ?_⟩, fun y c h => ⟨_, x.cell y c h⟩, e0.hok.fresh (Nat.le_refl _), fun y c h => ?_, fun p hp => absurd (show p ∈ ([] : List (Addr × Obj)) from hp) (by simp), e0.hok.kept hk, ?_⟩
  · exact name_of_addr x.apart (PySem.mem_of_lookup h1) (PySem.mem_of_lookup h2)
  · have hy : scope.names.lookup y = some .cell ∨ scope.names.lookup y = some .free := hy
    rcases hy with hy | hy
    · exact cell_has hy
    · exact absurd rfl (S.nofree _ (PySem.mem_of_lookup hy))
  · exact Nat.le_of_lt (x.above y c (PySem.mem_of_lookup h))
  · have hi : i < vs.length := by
      unfold start at h2
      by_cases hi : i < vs.length
      · exact hi
      · rw [List.getElem?_append_right (by simpa using hi)] at h2
        rw [List.getElem?_replicate] at h2
        split at h2 <;> cases h2
    have ha : vs[i]? = some v := by
      unfold start at h2
      rw [List.getElem?_append_left (by simpa using hi), List.getElem?_map] at h2
      cases e : vs[i]? with
      | none => rw [e] at h2; cases h2
      | some a => rw [e] at h2; cases h2; rfl
    obtain ⟨u, hu, rv⟩ := r.get ha
    have hp : ps[i]? = some y := by
      rw [← S.pre, List.getElem?_take_of_lt (by omega)]; exact h1
    have ndP : ps.Nodup := by rw [← S.pre]; exact S.nd.sublist (List.take_sublist _ _)
    refine ⟨u, rv, ?_⟩
    rcases S.par y (List.mem_of_getElem? hp) with k | k
    · exact .inl ⟨k, bindL_get ndP hp hu k⟩
    · obtain ⟨c, e⟩ := cell_has (n := s.heap.objs.size + 1) k
      refine .inr ⟨.inl k, c, e, ?_⟩
      have q := x.cell y c e
      rw [bindC_get ndP hp hu (by show scope.names.lookup y ≠ _; rw [k]; decide)] at q
      exact q
  · exact e0.hok.fresh (Nat.le_of_lt (x.above y c (PySem.mem_of_lookup h)))
  · unfold start
    show _ = N.length
    rw [List.length_append, List.length_map, List.length_replicate]
    omega

/-- THE RULE: a def (or a method) of the text, by its body. The body's reading t is chosen for each entry; it is run at the parameters' values -/
theorem fn_of {CX : CXT} {P : Program} {w : World} {K : PySem.W.Frag} {mg : Str → Option Value} {base : Heap} {k : Nat} {f : Addr} {name qual : Str} {params : Arguments} {body : List Stmt} {scope : Scope} {dV kV doc pm cdv ct oc : Value} {an od : Option Addr}
    {osl : Array (Option Value)} {N ps : List Str} {sp : Sp} (lk : K.lookup f = some ⟨oc, od, .func (PySem.W.fnOf name qual params body scope dV kV doc pm an cdv ct), osl⟩) (hcd : PySem.W.codeIn K cdv qual = true) (S : FnScope N ps scope)
    (len : ∀ vs H Q E, sp vs H Q E → vs.length = ps.length)
    (hbody : ∀ (A : Around) (outer : List Env) (s : Shared) (H : Hp) (vs : List V) (Q : VK) (E : XK), Room k (A.deeper (envOfC qual scope s.heap.objs.size f cdv)) → sp vs H Q E →
      ∃ t, PSs (cxOf CX P w K mg base N qual scope f cdv A outer s H E) body t ∧ t { nx := fun _ H' => Q .non H', rt := Q } (start N vs) H) :
    FnOk P w K mg base CX (k + 1) f (PySem.W.fnOf name qual params body scope dV kV doc pm an cdv ct) ps sp := by
  refine ⟨len, fun A outer s H args us vs Q E hr e0 hb r hsp => ?_⟩
  have hl := len _ _ _ _ hsp
  have KX : K.In s.heap := e0.mod.kin.keeps fun b o e => (e0.bs b o e).1
  have lim : s.heap.NoLimit := e0.mod.nolimit.keeps fun b o e => (e0.bs b o e).1
  have hkind : ∀ y ∈ ps.zip us, scope.names.lookup y.1 = some .local ∨ (scope.names.lookup y.1 = some .cell ∧ ((cellsFrom (s.heap.objs.size + 1) scope.names []).lookup y.1).isSome = true) := fun ⟨n, v⟩ hy => by
    rcases S.par n (List.of_mem_zip hy).1 with q | q
    · exact .inl q
    · exact .inr ⟨q, PySem.W.cellsFrom_some _ _ _ (.inl q)⟩
  refine codeAny_call_function hr.depth (KX _ _ lk) rfl S.co S.gen rfl (PySem.W.codeRec_of KX hcd) (hb _ _ _ _ ?_)
  refine wpAny_newFunctionEnv_cells S.kind hkind fun env he s1 x => ?_
  subst he
  refine ⟨lim.keeps x.toInCall.keep, codeAny_func ?_⟩
  obtain ⟨t, ht, hq⟩ := hbody A outer s H vs Q E (hr.deeper _) hsp
  have I : Inv (cxOf CX P w K mg base N qual scope f cdv A outer s H E) [] (start N vs) H s1 := inv_start S hr.hd e0 hl r x
  refine wpAny_mono (ht [] s1 (start N vs) H _ I hq) (fun fl s' hs => ?_) fun e s' hs => hs
  have fin : ∀ {σ' : St} {H' : Hp} {v : V} {u : Value}, Inv (cxOf CX P w K mg base N qual scope f cdv A outer s H E) [] σ' H' s' → RelV v u → Q v H' → CE outer P w H s Q u s' :=
    fun {σ' H' v u} J rv q => ⟨v, H', J.os, J.bare, J.base, J.hok, rv, q⟩
  cases fl with
  | ret u =>
    obtain ⟨v, σ', H', J, rv, q⟩ := hs
    exact fin J rv q
  | next =>
    obtain ⟨σ', H', J, q⟩ := hs
    exact fin (v := V.non) (u := Value.none) J rfl q
  | brk =>
    obtain ⟨_, _, _, q⟩ := hs
    exact False.elim q
  | cont =>
    obtain ⟨_, _, _, q⟩ := hs
    exact False.elim q
end L2

namespace L2
open PySem PySem.Spec PyProof.Rows
section
variable {X : Cx} {x : Str} {p pos : Pos} {e : Expr} {es : List Expr} {t : TA} {id T : String} {r : List V → Hp → VK → Prop}

def tCB (r : List V → Hp → VK → Prop) (t : TA) : TE := fun σ H Q => t σ H fun vs H1 => r vs H1 Q
/-- f(e, ..), f a built-in function -/
theorem pe_callB (hc : CallR X (.builtin id) r) (hg : Gl X x) (hm : X.mg x = none) (hv : bootBuiltins x = some (.builtin id)) (ha : PA X (e :: es) t) (hn : x ≠ "__name__" := by decide) (hdb : (x == ("__debug__" : Str)) = false := by decide)
    (he : starEach (e :: es) X.env = (false, eval e X.env) :: starEach es X.env := by rfl) (hpl : (backTo pos (starEach es X.env)).any (·.1) = false := by rfl) : PE X (.Call (.Name x p) (e :: es) [] pos) (tCB r t) := by
  intro pins s σ H Q I h
  refine wpAny_Call_Name_kw (ld_blt I hg hm hv ?_ hn hdb)
  exact PyProof.Rows.callWith_builtin1 (thn (ha pos pins s σ H _ I h) fun us s1 ⟨vs, H1, I1, r1, q1⟩ => hc pins s1 σ H1 vs us Q I1 r1 q1) he hpl
/-- T(e, ..), T a built-in type -/
theorem pe_callTy (hc : CallR X (.type T) r) (hg : Gl X x) (hm : X.mg x = none) (hv : bootBuiltins x = some (.type T)) (ha : PA X (e :: es) t) (hn : x ≠ "__name__" := by decide) (hdb : (x == ("__debug__" : Str)) = false := by decide)
    (he : starEach (e :: es) X.env = (false, eval e X.env) :: starEach es X.env := by rfl) (hpl : (backTo pos (starEach es X.env)).any (·.1) = false := by rfl) : PE X (.Call (.Name x p) (e :: es) [] pos) (tCB r t) := by
  intro pins s σ H Q I h
  refine wpAny_Call_Name_kw (ld_blt I hg hm hv ?_ hn hdb)
  exact PyProof.Rows.callWith_type1 (thn (ha pos pins s σ H _ I h) fun us s1 ⟨vs, H1, I1, r1, q1⟩ => hc pins s1 σ H1 vs us Q I1 r1 q1) he hpl
/-- T() -/
theorem pe_callTy0 (hc : CallR X (.type T) r) (hg : Gl X x) (hm : X.mg x = none) (hv : bootBuiltins x = some (.type T)) (hn : x ≠ "__name__" := by decide) (hdb : (x == ("__debug__" : Str)) = false := by decide) :
    PE X (.Call (.Name x p) [] [] pos) (tCB r tNil) := by
  intro pins s σ H Q I h
  refine wpAny_Call_Name_kw (ld_blt I hg hm hv ?_ hn hdb)
  exact PyProof.Rows.callWith_type0 (hc pins s σ H [] [] Q I .nil h)
end
end L2

namespace HT
open PySem PyProof.Rows

/-- t < u of tuples of ints -/
def lexLt : List Int → List Int → Bool
  | [], [] => false
  | [], _ :: _ => true
  | _ :: _, [] => false
  | x :: xs, y :: ys => if x = y then lexLt xs ys else decide (x < y)
theorem lexLt_cons (x y : Int) (xs ys : List Int) : lexLt (x :: xs) (y :: ys) = if x = y then lexLt xs ys else decide (x < y) := rfl
theorem lexLt_nil_nil : lexLt [] [] = false := rfl
theorem lexLt_nil_cons (y : Int) (ys : List Int) : lexLt [] (y :: ys) = true := rfl
theorem lexLt_cons_nil (x : Int) (xs : List Int) : lexLt (x :: xs) [] = false := rfl

theorem eqAt_int (A : Around) (s : Shared) (a : Int) (t : Tok) (c : Int) (u : Tok) : ∃ e, SeqAt.EqAt A s (.int a t) (.int c u) e ∧ (e = true ↔ a = c) :=
  ⟨(a == c), SeqAt.EqAt.int_int a t c u, by simp⟩
theorem rcLt_int (A : Around) (s : Shared) (a : Int) (t : Tok) (c : Int) (u : Tok) (prog : Program) (w : World) (E : Value → Shared → Prop) (Q : Value → Shared → Prop) (h : Q (.bool (decide (a < c))) s) :
    wpAny (model prog w) A (richCompare .Lt (.int a t) (.int c u)) Q E s :=
  (PyProof.Rows.lt_int h : wpAny (model prog w) A (compareOp .Lt (.int a t) (.int c u)) Q E s)

section
open PySem.SeqAt
open PySem.AutoSeq1 (wpAny_loadPart')
open PySem.MeetsSeq PySem.MeetsSeq2 PySem.MeetsSeq3

theorem tuple_lt_ints (l b : Addr) (items items2 : Array Value) (n n2 : Nat) (dd dd2 : Option Addr) (sl sl2 : Array (Option Value)) (ns ms : List Int) (hi : IntsAre items.toList ns) (hj : IntsAre items2.toList ms) :
    Meets (Builtin.«tuple.__lt__» ⟨[.ref l, .ref b], []⟩)
      (fun _ R s => s.heap.get? l = some { cls := .type "tuple", dict := dd, data := .seq items n, slots := sl } ∧ s.heap.get? b = some { cls := .type "tuple", dict := dd2, data := .seq items2 n2, slots := sl2 } ∧
        R (.ok (.ret (.bool (lexLt ns ms)))) s) :=
  .of_wp fun prog w A R s h => by
    obtain ⟨hp, g, d, tk, os⟩ := s; obtain ⟨hl, hb, h⟩ := h
    have f2 := AutoSeq1.sub_tuple_tuple
    have z1 : items.size = ns.length := by rw [← hi.length]; simp
    have z2 : items2.size = ms.length := by rw [← hj.length]; simp
    wp_walk using wpAny_loadPart' hl, wpAny_loadPart' hb, wpAny_forIn_list _ (fun rest b s' => b.1 = none ∧ s' = ⟨hp, g, d, tk, os⟩ ∧ ∃ (vs ws : List Value) (ns' ms' : List Int), rest = vs.zip ws ∧
      IntsAre vs ns' ∧ IntsAre ws ms' ∧ ns'.length + items2.size = ms'.length + items.size ∧ R (.ok (.ret (.bool (lexLt ns' ms')))) ⟨hp, g, d, tk, os⟩) _
    case turn =>
      rintro ⟨y, x⟩ rest b s' ⟨hb', rfl, vs, ws, ns', ms', hz, hvi, hwi, hlen, hR⟩
      cases hvi with
      | nil => rw [List.zip_nil_left] at hz; cases hz
      | cons a t hvi' =>
        cases hwi with
        | nil => rw [List.zip_nil_right] at hz; cases hz
        | cons c u hwi' =>
          rw [List.zip_cons_cons] at hz
          injection hz with hyx hrest
          injection hyx with hy hx
          subst hy hx
          rw [lexLt_cons] at hR
          simp only [List.length_cons] at hlen
          obtain ⟨e, he, hiff⟩ := eqAt_int A.in1 ⟨hp, g, d, tk, os⟩ a t c u
          refine wpAny_bind (he prog w _ _ ?_)
          cases e with
          | true =>
            rw [if_pos (hiff.mp rfl)] at hR
            wp_walk
            exact ⟨rfl, rfl, _, _, _, _, hrest, hvi', hwi', by omega, hR⟩
          | false =>
            rw [if_neg (fun q => absurd (hiff.mpr q) Bool.false_ne_true)] at hR
            have hri := rcLt_int A.in1 ⟨hp, g, d, tk, os⟩ a t c u prog w
            wp_walk using hri
            exact ⟨_, rfl, by simpa using hR⟩
    case fin =>
      rintro ⟨b1, b2⟩ s' ⟨hb', rfl, vs, ws, ns', ms', hz, hvi, hwi, hlen, hR⟩
      simp only at hb'
      subst hb'
      have hv : lexLt ns' ms' = decide (items.size < items2.size) := by
        cases hvi with
        | nil =>
          cases hwi with
          | nil =>
            simp only [List.length_nil] at hlen
            rw [lexLt_nil_nil]
            exact (decide_eq_false (by omega)).symm
          | cons c u hw =>
            simp only [List.length_nil, List.length_cons] at hlen
            rw [lexLt_nil_cons]
            exact (decide_eq_true (by omega)).symm
        | cons a t hv =>
          cases hwi with
          | nil =>
            simp only [List.length_nil, List.length_cons] at hlen
            rw [lexLt_cons_nil]
            exact (decide_eq_false (by omega)).symm
          | cons c u hw =>
            rw [List.zip_cons_cons] at hz
            cases hz
      rw [hv] at hR
      wp_walk
      exact ⟨_, rfl, by simpa [Builtin.Tuple.tupleCompareSizes] using hR⟩
    case h =>
      exact ⟨rfl, rfl, items.toList, items2.toList, ns, ms, rfl, hi, hj, by omega, h⟩
end

section
variable {prog : Program} {w : World} {A : Around} {E : Value → Shared → Prop} {s : Shared}

theorem lt_tupInts {l b : Addr} {items items2 : Array Value} {ns ms : List Int} {Q : Value → Shared → Prop} (hl : IsTup s.heap l items) (hb : IsTup s.heap b items2) (hi : IntsAre items.toList ns) (hj : IntsAre items2.toList ms)
    (hu : A.units < cLine) (h : Q (.bool (lexLt ns ms)) s) : wpAny (model prog w) A (compareOp .Lt (.ref l) (.ref b)) Q E s := by
  obtain ⟨⟨cls, dd, data, sl⟩, ho, hc, n, hd⟩ := id hl
  obtain ⟨⟨cls2, dd2, data2, sl2⟩, ho2, hc2, n2, hd2⟩ := id hb
  simp only at hc hd hc2 hd2
  subst hc hd hc2 hd2
  exact richCompare_meets_room (op := .Lt) ⟨_, ho, rfl⟩ ⟨_, ho2, rfl⟩ PySem.F.slot_tuple_lt PySem.F.entry_tuple_lt (PySem.F.args_tuple_lt_2 _ _) (tuple_lt_ints l b items items2 n n2 dd dd2 sl sl2 ns ms hi hj)
    ⟨ho, ho2, show Value.bool (lexLt ns ms) ≠ Value.notImplemented ∧ Q (.bool (lexLt ns ms)) s from ⟨(fun x => nomatch x), h⟩⟩ hu

/-- t + u, t not empty -/
theorem cat_tup {t b : Addr} {vs ws : List Value} {Q : Value → Shared → Prop} (ht : IsTup s.heap t vs.toArray) (hb : IsTup s.heap b ws.toArray) (hv : vs ≠ [])
    (h1 : ws = [] → Q (.ref t) s) (h2 : ws ≠ [] → Q (.ref s.heap.objs.size) { s with heap := s.heap.push { cls := .type "tuple", data := .seq (vs ++ ws).toArray } })
    (hsz : vs.length + ws.length ≤ sizeLine) : wpAny (model prog w) A (binaryOp .Add (.ref t) (.ref b)) Q E s := by
  obtain ⟨⟨cls, dd, data, sl⟩, ho, hc, n, hd⟩ := id ht
  obtain ⟨⟨cls2, dd2, data2, sl2⟩, ho2, hc2, n2, hd2⟩ := id hb
  simp only at hc hd hc2 hd2
  subst hc hd hc2 hd2
  have e : vs.toArray ++ ws.toArray = (vs ++ ws).toArray := by simp
  by_cases hw : ws = []
  · exact concat_meets ⟨_, ho, rfl⟩ ⟨_, ho2, rfl⟩ noFill_tuple_add seq_tuple_add PySem.F.slot_tuple_add PySem.F.entry_tuple_add (PySem.F.args_tuple_add_2 _ _)
      (tuple_addW1 t b vs.toArray ws.toArray n n2 dd dd2 sl sl2 (by simpa using hv) (by simp [hw])) ⟨ho, ho2, h1 hw⟩
  · refine concat_meets ⟨_, ho, rfl⟩ ⟨_, ho2, rfl⟩ noFill_tuple_add seq_tuple_add PySem.F.slot_tuple_add PySem.F.entry_tuple_add (PySem.F.args_tuple_add_2 _ _)
      (tuple_addW2 t b vs.toArray ws.toArray n n2 dd dd2 sl sl2 (by simpa using hv) (by simpa using hw) (by rw [List.size_toArray, List.size_toArray]; exact hsz)) ⟨ho, ho2, ?_⟩
    rw [e]
    exact h2 hw

/-! ### t[a:b], not the whole -/
/-- a slice's bound as a place among n (d where it is left out) -/
def sIx (n d : Nat) : Option Int → Nat
  | none => d
  | some v => if v < 0 then (v + (n : Int)).toNat else min v.toNat n
theorem sIx_none (n d : Nat) : sIx n d none = d := rfl
theorem sIx_nat (n d k : Nat) : sIx n d (some (k : Int)) = min k n := by
  show (if (k : Int) < 0 then ((k : Int) + (n : Int)).toNat else min (k : Int).toNat n) = min k n
  rw [if_neg (by omega), Int.toNat_natCast]
theorem sIx_le (n d : Nat) (hd : d ≤ n) (o : Option Int) : sIx n d o ≤ n := by
  cases o with
  | none => exact hd
  | some v =>
    show (if v < 0 then (v + (n : Int)).toNat else min v.toNat n) ≤ n
    by_cases hv : v < 0
    · rw [if_pos hv]; omega
    · rw [if_neg hv]; exact Nat.min_le_right _ _
theorem clip_eq (v : Int) (n d : Nat) : (if v < 0 then max (v + (n : Int)) 0 else min v (n : Int)) = ((sIx n d (some v) : Nat) : Int) := by
  show (if v < 0 then max (v + (n : Int)) 0 else min v (n : Int)) = (((if v < 0 then (v + (n : Int)).toNat else min v.toNat n) : Nat) : Int)
  by_cases hv : v < 0
  · simp only [if_pos hv]; omega
  · simp only [if_neg hv]; omega
theorem adjust_gen (lo hi : Option Int) (n : Nat) : Builtin.Slice.sliceAdjust lo hi 1 (n : Int) = (((sIx n 0 lo : Nat) : Int), ((sIx n n hi : Nat) : Int)) := by
  have h1 : ¬ ((1 : Int) < 0) := by omega
  unfold Builtin.Slice.sliceAdjust
  simp only [h1, if_false]
  refine Prod.ext ?_ ?_
  · cases lo with
    | none => rfl
    | some v => exact clip_eq v n 0
  · cases hi with
    | none => rfl
    | some v => exact clip_eq v n n
theorem places_gen (i j : Nat) : Builtin.Slice.slicePlaces (i : Int) (j : Int) 1 = j - i := by
  unfold Builtin.Slice.slicePlaces
  have h1 : (1 : Int) > 0 := by omega
  simp only [h1, if_true, Int.ediv_one]
  split <;> omega
theorem slicePart_ {v : Value} {o : Option Int} {Q : Option Int → Shared → Prop} (p : IsPart v o) (h : Q o s) : wpAny (model prog w) A (Builtin.Slice.slicePartIndex v) Q E s := by
  cases p with
  | none => exact slicePart_none h
  | int i t => exact slicePart_int h
theorem sliceApplied_gen {sl : Addr} {vl vu : Value} {lo hi : Option Int} {n : Nat} {Q : Int × Int × Nat → Shared → Prop} (hs : s.heap.IsSliceOf sl vl vu .none) (pl : IsPart vl lo) (pu : IsPart vu hi)
    (h : Q (((sIx n 0 lo : Nat) : Int), 1, sIx n n hi - sIx n 0 lo) s) : wpAny (model prog w) A (Builtin.Slice.sliceApplied (.ref sl) (pure (n : Int))) Q E s := by
  obtain ⟨os, hos, hcs, hds⟩ := id hs
  unfold Builtin.Slice.sliceApplied Builtin.Slice.sliceFields
  refine wpAny_bind (wpAny_bind (wpAny_field hos hds (x := vl) rfl (wpAny_bind (wpAny_field hos hds (x := vu) rfl (wpAny_bind (wpAny_field hos hds (x := .none) rfl (wpAny_pure ?_)))))))
  refine wpAny_bind (slicePart_none ?_)
  show wpAny _ _ (if ((1 : Int) == 0) = true then _ else _) _ _ s
  rw [if_neg (by decide)]
  refine wpAny_bind (slicePart_ pl (wpAny_bind (slicePart_ pu (wpAny_bind (wpAny_pure ?_)))))
  show wpAny _ _ (match Builtin.Slice.sliceAdjust lo hi 1 (n : Int) with | (lo, hi) => pure (lo, (1 : Int), Builtin.Slice.slicePlaces lo hi 1)) _ _ s
  rw [adjust_gen lo hi n]
  show wpAny _ _ (pure (((sIx n 0 lo : Nat) : Int), (1 : Int), Builtin.Slice.slicePlaces ((sIx n 0 lo : Nat) : Int) ((sIx n n hi : Nat) : Int) 1)) _ _ s
  rw [places_gen]
  exact wpAny_pure h
theorem pick_gen (xs : Array Value) (i k : Nat) : ((List.range k).filterMap fun (m : Nat) => xs[((i : Int) + (m : Int) * 1).toNat]?).toArray = ((xs.toList.drop i).take k).toArray := by
  have e : (fun (m : Nat) => xs[((i : Int) + (m : Int) * 1).toNat]?) = fun m => xs[i + m]? := by
    funext m
    have : ((i : Int) + (m : Int) * 1).toNat = i + m := by omega
    rw [this]
  rw [e]
  have := pick_run xs i k
  rw [List.filterMap_map] at this
  have e2 : ((fun x => xs[x]?) ∘ fun x => i + x) = fun m => xs[i + m]? := rfl
  rw [e2] at this
  rw [this]

theorem getItem_tuple_cut {t sl : Addr} {items : Array Value} {vl vu : Value} {lo hi : Option Int} {Q : Value → Shared → Prop} (ht : IsTup s.heap t items) (hs : s.heap.IsSliceOf sl vl vu .none) (pl : IsPart vl lo) (pu : IsPart vu hi)
    (hw : ¬ (sIx items.size 0 lo = 0 ∧ sIx items.size items.size hi = items.size))
    (h : Q (.ref s.heap.objs.size) { s with heap := s.heap.push { cls := .type "tuple", data := .seq ((items.toList.drop (sIx items.size 0 lo)).take (sIx items.size items.size hi - sIx items.size 0 lo)).toArray } })
    (hsz : items.size ≤ sizeLine) : wpAny (model prog w) A (getItem (.ref t) (.ref sl)) Q E s := by
  have htake : sizeOk (.seq ((items.toList.drop (sIx items.size 0 lo)).take (sIx items.size items.size hi - sIx items.size 0 lo)).toArray) := by
    show ((items.toList.drop (sIx items.size 0 lo)).take (sIx items.size items.size hi - sIx items.size 0 lo)).toArray.size ≤ sizeLine
    rw [List.size_toArray, List.length_take, List.length_drop, Array.length_toList]
    omega
  have hj : sIx items.size items.size hi ≤ items.size := sIx_le _ _ (Nat.le_refl _) hi
  obtain ⟨os, hos, hcs, hds⟩ := id hs
  have hTs : s.TypeIs (.ref sl) "slice" := ⟨os, hos, hcs⟩
  unfold getItem
  try with_reducible refine wpAny_holding ?_
  first | refine wpAny_bind (wpAny_pure ?_) | skip
  refine wpAny_bind (wpAny_sequenceKey ht.typeIs (by decide) ?_)
  refine wpAny_bind (wpAny_callSpecial?_slot (name := Str.ofString "__getitem__") ht.typeIs PyProof.Rows.slot_tuple_getitem
    (wpAny_call_entry PyProof.Rows.slot_tuple_getitem ht.typeIs entry_tuple_getitem ?_ (args_tuple_getitem _ _)))
  show wpAny _ _ (Builtin.Tuple.tupleItemsOf (.ref t) >>= _) _ _ s
  refine wpAny_bind (tupleItemsOf_ ht ?_)
  refine wpAny_bind (wpAny_typeOf hTs ?_)
  rw [if_pos (by decide)]
  refine wpAny_bind (sliceApplied_gen hs pl pu ?_)
  have hno : ¬ ((((sIx items.size 0 lo : Nat) : Int) == 0 && (1 : Int) == 1 && (sIx items.size items.size hi - sIx items.size 0 lo) == items.size) = true) := by
    intro q
    rw [Bool.and_eq_true, Bool.and_eq_true] at q
    have q1 : ((sIx items.size 0 lo : Nat) : Int) = 0 := eq_of_beq q.1.1
    have q2 : sIx items.size items.size hi - sIx items.size 0 lo = items.size := eq_of_beq q.2
    exact hw ⟨by omega, by omega⟩
  show wpAny _ _ (if (((sIx items.size 0 lo : Nat) : Int) == 0 && (1 : Int) == 1 && (sIx items.size items.size hi - sIx items.size 0 lo) == items.size) = true then _ else _) _ _ s
  rw [if_neg hno, pick_gen]
  first
    | exact wpAny_bind (m := Builtin.Tuple.tupleExact _) (wpAny_newObj_type (wpAny_pure ⟨_, rfl, wpAny_pure h⟩) htake)
    | exact wpAny_bind (m := Builtin.Tuple.tupleExact _) (wpAny_newObj_type (wpAny_bind (wpAny_pure (wpAny_pure ⟨_, rfl, wpAny_pure h⟩))) htake)
    | exact wpAny_bind (wpAny_bind (m := Builtin.Tuple.tupleExact _) (wpAny_newObj_type (wpAny_pure (wpAny_pure ⟨_, rfl, wpAny_pure h⟩)) htake))
    | exact wpAny_bind (wpAny_bind (m := Builtin.Tuple.tupleExact _) (wpAny_newObj_type (wpAny_pure ⟨_, rfl, wpAny_pure h⟩) htake))
end
end HT

namespace L2
open PySem PySem.Spec PyProof.Rows

/-! ### the parts of a slice -/
abbrev TO := St → Hp → (Option Int → Hp → Prop) → Prop
/-- a slice's part (left out, or an int) -/
def PO (X : Cx) (e : Option Expr) (t : TO) : Prop :=
  ∀ (pins : List (Addr × Obj)) (s : Shared) (σ : St) (H : Hp) (Q : Option Int → Hp → Prop), Inv X pins σ H s → t σ H Q →
    wpAny (model X.prog X.w) X.A (evalPart e X.env) (fun u s' => ∃ o H', Inv X pins σ H' s' ∧ IsPart u o ∧ Q o H') X.xe s
def tNoPart : TO := fun _ H Q => Q none H
def tPart (t : TE) : TO := fun σ H Q => t σ H fun x H1 => ∃ i, x = .int i ∧ Q (some i) H1

theorem intsAre_of {ns : List Int} : ∀ {us : List Value}, Vals (ns.map V.int) us → IntsAre us ns := by
  induction ns with
  | nil => intro us r; rw [List.map_nil] at r; cases r; exact .nil
  | cons n ns ih =>
    intro us r
    rw [List.map_cons] at r
    cases r with
    | cons r1 r2 =>
      obtain ⟨t, e⟩ := r1
      subst e
      exact .cons n t (ih r2)

section
variable {X : Cx} {e : Expr} {te : TE} {lo hi : Option Expr} {tl th : TO} {pos p2 : Pos}

theorem po_none : PO X none tNoPart := by
  intro pins s σ H Q I h
  rw [evalPart_none]
  exact wpAny_pure ⟨none, H, I, .none, h⟩
theorem po_some (h : PE X e te) : PO X (some e) (tPart te) := by
  intro pins s σ H Q I hw
  rw [evalPart_some]
  refine thn (h pins s σ H _ I hw) fun u s1 ⟨x, H1, I1, r1, q1⟩ => ?_
  obtain ⟨i, rfl, q⟩ := q1
  obtain ⟨t, rfl⟩ := r1
  exact ⟨some i, H1, I1, .int i t, q⟩

/-- what a slice of a value is, by values: the slice object stands at sl -/
def SlR (X : Cx) (r : V → Option Int → Option Int → Hp → VK → Prop) : Prop :=
  ∀ (pins : List (Addr × Obj)) (s : Shared) (σ : St) (H : Hp) (x : V) (v vl vu : Value) (lo hi : Option Int) (sl : Addr) (Q : VK), Inv X pins σ H s → RelV x v → s.heap.IsSliceOf sl vl vu .none → IsPart vl lo → IsPart vu hi → r x lo hi H Q →
    ∃ T id, typeLookup (.type T) "__getitem__" = pure (some (.builtin id)) ∧ s.TypeIs v T ∧ wpAny (model X.prog X.w) X.A (getItem v (.ref sl)) (EP X pins σ Q) X.xe s
theorem SlR.or {r r' : V → Option Int → Option Int → Hp → VK → Prop} (h : SlR X r) (h' : SlR X r') : SlR X (fun x lo hi H Q => r x lo hi H Q ∨ r' x lo hi H Q) := by
  intro pins s σ H x v vl vu lo hi sl Q I rx hs pl pu q
  rcases q with q | q
  · exact h pins s σ H x v vl vu lo hi sl Q I rx hs pl pu q
  · exact h' pins s σ H x v vl vu lo hi sl Q I rx hs pl pu q
def tSl (r : V → Option Int → Option Int → Hp → VK → Prop) (te : TE) (tl th : TO) : TE := fun σ H Q => te σ H fun x H1 => tl σ H1 fun l H2 => th σ H2 fun u H3 => r x l u H3 Q
/-- a[lo:hi], any a -/
theorem pe_slice {r : V → Option Int → Option Int → Hp → VK → Prop} (hr : SlR X r) (he : PE X e te) (hl : PO X lo tl) (hu : PO X hi th) : PE X (.Subscript e (.Slice lo hi none p2) pos) (tSl r te tl th) := by
  intro pins s σ H Q I h
  refine Subscript_ (thn (he pins s σ H _ I h) fun v s1 ⟨x, H1, I1, r1, q1⟩ => ?_)
  refine wpAny_Slice (thn (hl pins s1 σ H1 _ I1 q1) fun vl s2 ⟨l, H2, I2, pl, q2⟩ => thn (hu pins s2 σ H2 _ I2 q2) fun vu s3 ⟨u, H3, I3, pu, q3⟩ => ?_)
  rw [evalPart_none]
  refine wpAny_pure ?_
  have I4 : Inv X pins σ H3 { s3 with heap := s3.heap.push { cls := .type "slice", data := .fields #[vl, vu, .none] } } := I3.kept (t' := s3.toks) fun b ob q => Heap.get?_push_of_some _ q
  obtain ⟨T, id, hT, ht, hg⟩ := hr pins { s3 with heap := s3.heap.push { cls := .type "slice", data := .fields #[vl, vu, .none] } } σ H3 x v vl vu l u s3.heap.objs.size Q I4 r1 (Heap.IsSliceOf.new ..) pl pu q3
  show wpAny (model X.prog X.w) X.A (subscriptTail e (.Slice lo hi none p2) v (.ref s3.heap.objs.size)) (EP X pins σ Q) X.xe { s3 with heap := s3.heap.push { cls := .type "slice", data := .fields #[vl, vu, .none] } }
  exact tail_any (ops := [.ref s3.heap.objs.size, v]) ht hT hg (by with_unfolding_all rfl)

/-- the items of xs[lo:hi] -/
def cutV (xs : List V) (lo hi : Option Int) : List V := (xs.drop (HT.sIx xs.length 0 lo)).take (HT.sIx xs.length xs.length hi - HT.sIx xs.length 0 lo)
theorem cutV_length (xs : List V) (lo hi : Option Int) : (cutV xs lo hi).length ≤ xs.length := by
  unfold cutV
  rw [List.length_take, List.length_drop]
  omega
/-- t[lo:hi], not the whole of it (the whole would be t itself) -/
def rSlT (K : PySem.W.Frag) : V → Option Int → Option Int → Hp → VK → Prop := fun x lo hi H Q => ∃ a xs, x = .ref a ∧ SqT K H a xs ∧
  ¬ (HT.sIx xs.length 0 lo = 0 ∧ HT.sIx xs.length xs.length hi = xs.length) ∧ ∀ p, H p = none → Q (.ref p) (upd H p (.tup (cutV xs lo hi)))
theorem sl_tup : SlR X (rSlT X.K) := by
  intro pins s σ H x v vl vu lo hi sl Q I rx hs pl pu h
  obtain ⟨a, xs, rfl, hx, hw, q⟩ := h
  cases rx
  obtain ⟨its, r, ht, hz⟩ := I.tuple hx
  have hlen : its.toArray.size = xs.length := by rw [List.size_toArray]; exact r.length.symm
  refine ⟨"tuple", _, PyProof.Rows.slot_tuple_getitem.lookup, ht.typeIs, ?_⟩
  refine HT.getItem_tuple_cut ht hs pl pu (by rw [hlen]; exact hw) ?_ (by rw [hlen]; exact hz)
  rw [hlen]
  refine ⟨.ref s.heap.objs.size, _, I.laid (t' := s.toks) (o := .tup (cutV xs lo hi)) (fun b ob q => Heap.get?_push_of_some _ q) (Nat.le_refl _) ?_, rfl, q _ (I.hok.fresh (Nat.le_refl _))⟩
  exact ⟨Nat.le_trans (cutV_length xs lo hi) hz, _, (r.drop (HT.sIx xs.length 0 lo)).take (HT.sIx xs.length xs.length hi - HT.sIx xs.length 0 lo), IsTup.new _ _⟩

/-! ### t < u, t + u -/
def rLtT (K : PySem.W.Frag) : R2 := fun x y H Q => ∃ a b ns ms, x = .ref a ∧ y = .ref b ∧ SqT K H a (ns.map V.int) ∧ SqT K H b (ms.map V.int) ∧ Q (.bl (HT.lexLt ns ms)) H
theorem op_ltT (hu : X.A.units < cLine) : OpR X (compareOp .Lt) (rLtT X.K) := by
  intro pins s σ H x y v u Q I rx ry h
  obtain ⟨a, b, ns, ms, rfl, rfl, ha, hb, q⟩ := h
  cases rx
  cases ry
  obtain ⟨its, r1, p1, _⟩ := I.tuple ha
  obtain ⟨its2, r2, p2, _⟩ := I.tuple hb
  have i1 : IntsAre its.toArray.toList ns := intsAre_of r1
  have i2 : IntsAre its2.toArray.toList ms := intsAre_of r2
  exact HT.lt_tupInts p1 p2 i1 i2 hu ⟨.bl (HT.lexLt ns ms), H, I, rfl, q⟩
/-- t + u, t not empty: u empty gives t itself -/
def rCatT (K : PySem.W.Frag) : R2 := fun x y H Q => ∃ a b xs ys, x = .ref a ∧ y = .ref b ∧ SqT K H a xs ∧ SqT K H b ys ∧ xs ≠ [] ∧ xs.length + ys.length ≤ sizeLine ∧
  (ys = [] → Q (.ref a) H) ∧ (ys ≠ [] → ∀ p, H p = none → Q (.ref p) (upd H p (.tup (xs ++ ys))))
theorem Vals.nil_iff {xs : List V} {us : List Value} (r : Vals xs us) : us = [] ↔ xs = [] := by
  cases r with
  | nil => simp
  | cons _ _ => simp
theorem op_catT : OpR X (binaryOp .Add) (rCatT X.K) := by
  intro pins s σ H x y v u Q I rx ry h
  obtain ⟨a, b, xs, ys, rfl, rfl, ha, hb, hx, hz, q1, q2⟩ := h
  cases rx
  cases ry
  obtain ⟨its, r1, p1, _⟩ := I.tuple ha
  obtain ⟨its2, r2, p2, _⟩ := I.tuple hb
  refine HT.cat_tup p1 p2 (fun z => hx (r1.nil_iff.mp z)) (fun z => ⟨.ref a, H, I, rfl, q1 (r2.nil_iff.mp z)⟩) (fun z => ?_) (by rw [← r1.length, ← r2.length]; exact hz)
  refine ⟨.ref s.heap.objs.size, _, I.laid (t' := s.toks) (o := .tup (xs ++ ys)) (fun b ob q => Heap.get?_push_of_some _ q) (Nat.le_refl _) ?_, rfl, q2 (fun w => z (r2.nil_iff.mpr w)) _ (I.hok.fresh (Nat.le_refl _))⟩
  exact ⟨by rw [List.length_append]; exact hz, _, r1.append r2, IsTup.new _ _⟩
/-- tuple(t) -/
theorem call_tupleT : CallR X (.type "tuple") (fun xs H Q => ∃ a ys, xs = [.ref a] ∧ SqT X.K H a ys ∧ Q (.ref a) H) := by
  intro pins s σ H xs us Q I r h
  obtain ⟨a, ys, rfl, ha, q⟩ := h
  obtain ⟨u, rfl, ru⟩ := vals1 r
  cases ru
  obtain ⟨its, _, p1, _⟩ := I.tuple ha
  exact call_tuple_same (items := its.toArray) p1 ⟨.ref a, H, I, rfl, q⟩
end
end L2

namespace L2
open PySem PySem.Spec PyProof.Rows

/-! ### places -/
/-- the place that an index of any sign means -/
def ixN (n : Nat) (i : Int) : Option Nat := if 0 ≤ i then (if i < n then some i.toNat else none) else if -(n : Int) ≤ i then some (i + n).toNat else none
def atI {α : Type} (xs : List α) (i : Int) : Option α := (ixN xs.length i).bind fun j => xs[j]?
theorem ixN_seq {n : Nat} {i : Int} {j : Nat} (h : ixN n i = some j) : seqIndex? i n = some j ∧ j < n ∧ -(n : Int) ≤ i ∧ i < n := by
  unfold ixN at h
  by_cases h0 : 0 ≤ i
  · rw [if_pos h0] at h
    by_cases h1 : i < n
    · rw [if_pos h1] at h
      have e : i.toNat = j := Option.some.inj h
      exact ⟨by rw [seqIndex_of h0 h1, e], by omega, by omega, h1⟩
    · rw [if_neg h1] at h; cases h
  · rw [if_neg h0] at h
    by_cases h1 : -(n : Int) ≤ i
    · rw [if_pos h1] at h
      have e : (i + n).toNat = j := Option.some.inj h
      exact ⟨by rw [seqIndex_neg (by omega) h1, e], by omega, h1, by omega⟩
    · rw [if_neg h1] at h; cases h
theorem atI_get {α : Type} {xs : List α} {i : Int} {v : α} (h : atI xs i = some v) : ∃ j, seqIndex? i xs.length = some j ∧ xs[j]? = some v ∧ j < xs.length ∧ -(xs.length : Int) ≤ i ∧ i < xs.length := by
  unfold atI at h
  cases e : ixN xs.length i with
  | none => rw [e] at h; cases h
  | some j =>
    rw [e] at h
    obtain ⟨h1, h2, h3, h4⟩ := ixN_seq e
    exact ⟨j, h1, h, h2, h3, h4⟩
theorem atI_nat {α : Type} {xs : List α} {j : Nat} {v : α} (h : xs[j]? = some v) : atI xs (j : Int) = some v := by
  have hj : j < xs.length := (List.getElem?_eq_some_iff.mp h).1
  have e : ixN xs.length (j : Int) = some j := by
    unfold ixN
    rw [if_pos (by omega), if_pos (by omega)]; simp
  unfold atI; rw [e]; exact h
theorem atI_last {α : Type} (xs : List α) (v : α) : atI (xs ++ [v]) (-1) = some v := by
  have hl : (xs ++ [v]).length = xs.length + 1 := by simp
  have e : ixN (xs ++ [v]).length (-1) = some xs.length := by
    unfold ixN
    rw [hl, if_neg (by decide), if_pos (by omega)]
    congr 1
    omega
  unfold atI
  rw [e]
  show (xs ++ [v])[xs.length]? = some v
  simp

/-! ### what may be subscripted -/
/-- what stands as an index of a plain subscript -/
def PlainIx (b : Expr) : Prop := ∀ o i, subscripted b false o i = operate [o, i] (getItem o i)
/-- a subscript by values -/
def IxR (X : Cx) (r : R2) : Prop :=
  ∀ (value slice : Expr) (pins : List (Addr × Obj)) (s : Shared) (σ : St) (H : Hp) (x y : V) (v u : Value) (Q : VK), Inv X pins σ H s → RelV x v → RelV y u → r x y H Q →
    subscripted slice false v u = operate [v, u] (getItem v u) → wpAny (model X.prog X.w) X.A (subscriptTail value slice v u) (EP X pins σ Q) X.xe s
/-- a call of a builtin's method by values: the receiver, the arguments -/
def MtR (X : Cx) (id : String) (r : V → List V → Hp → VK → Prop) : Prop :=
  ∀ (pins : List (Addr × Obj)) (s : Shared) (σ : St) (H : Hp) (x : V) (xs : List V) (v : Value) (us : List Value) (Q : VK), Inv X pins σ H s → RelV x v → Vals xs us → r x xs H Q →
    wpAny (model X.prog X.w) X.A (call (.builtin id) (v :: us)) (EP X pins σ Q) X.xe s
section
variable {X : Cx} {a b : Expr} {ta tb : TE} {pos : Pos}
theorem IxR.or {r r' : R2} (h : IxR X r) (h' : IxR X r') : IxR X (fun x y H Q => r x y H Q ∨ r' x y H Q) := by
  intro value slice pins s σ H x y v u Q I rx ry q hs
  rcases q with q | q
  · exact h value slice pins s σ H x y v u Q I rx ry q hs
  · exact h' value slice pins s σ H x y v u Q I rx ry q hs
theorem MtR.or {id : String} {r r' : V → List V → Hp → VK → Prop} (h : MtR X id r) (h' : MtR X id r') : MtR X id (fun x xs H Q => r x xs H Q ∨ r' x xs H Q) := by
  intro pins s σ H x xs v us Q I rx rs q
  rcases q with q | q
  · exact h pins s σ H x xs v us Q I rx rs q
  · exact h' pins s σ H x xs v us Q I rx rs q
/-- a[b] -/
theorem pe_ix {r : R2} (hr : IxR X r) (ha : PE X a ta) (hb : PE X b tb) (hs : PlainIx b) : PE X (.Subscript a b pos) (tOp r ta tb) := by
  intro pins s σ H Q I h
  exact Subscript_ (binT ha hb I h fun v u s2 x y H2 I2 rx ry q => hr a b pins s2 σ H2 x y v u Q I2 rx ry q (hs _ _))

def rIxL (K : PySem.W.Frag) : R2 := fun x y H Q => ∃ p xs i v, x = .ref p ∧ y = .int i ∧ SqL K H p xs ∧ atI xs i = some v ∧ Q v H
def rIxT (K : PySem.W.Frag) : R2 := fun x y H Q => ∃ p xs i v, x = .ref p ∧ y = .int i ∧ SqT K H p xs ∧ atI xs i = some v ∧ Q v H
def rIxS : R2 := fun x y H Q => ∃ z i c, x = .str z ∧ y = .int i ∧ z.length ≤ sizeLine ∧ atI z.cps.toList i = some c ∧ Q (.str ⟨#[c]⟩) H
theorem ix_list : IxR X (rIxL X.K) := by
  intro value slice pins s σ H x y v u Q I rx ry h hs
  obtain ⟨p, xs, i, z, rfl, rfl, hq, he, q⟩ := h
  cases rx
  obtain ⟨t, rfl⟩ := ry
  obtain ⟨its, r, pl, hz⟩ := I.list hq
  obtain ⟨j, h1, h2, h3, h4, h5⟩ := atI_get he
  obtain ⟨w, ew, rw'⟩ := r.get h2
  have hl := r.length
  have hn := line63
  have fin : EP X pins σ Q w s := ⟨z, H, I, rw', q⟩
  by_cases h0 : 0 ≤ i
  · have hj : i.toNat = j := by
      rw [seqIndex_of h0 h5] at h1
      exact Option.some.inj h1
    exact item_listR pl.isList h0 (by omega) (by rw [hj]; simpa using ew) fin hs
  · have hj : (i + (its.toArray.size : Int)).toNat = j := by
      rw [seqIndex_neg (by omega) h4] at h1
      rw [List.size_toArray, ← hl]
      exact Option.some.inj h1
    exact subscriptTail_builtinR (x := w) pl.isList.typeIs slot_list_getitem.lookup
      (wpAny_getItem_list_neg (Q := fun r s' => r = w ∧ EP X pins σ Q r s') pl.isList (by omega) (by rw [List.size_toArray] <;> omega) (by omega) (by rw [hj]; simpa using ew) ⟨rfl, fin⟩) hs
theorem ix_tup : IxR X (rIxT X.K) := by
  intro value slice pins s σ H x y v u Q I rx ry h hs
  obtain ⟨p, xs, i, z, rfl, rfl, hq, he, q⟩ := h
  cases rx
  obtain ⟨t, rfl⟩ := ry
  obtain ⟨its, r, pl, hz⟩ := I.tuple hq
  obtain ⟨j, h1, h2, h3, h4, h5⟩ := atI_get he
  obtain ⟨w, ew, rw'⟩ := r.get h2
  have hl := r.length
  have hn := line63
  have fin : EP X pins σ Q w s := ⟨z, H, I, rw', q⟩
  exact subscriptTail_builtinR (x := w) pl.typeIs slot_tuple_getitem.lookup
    (getItem_tuple (j := j) (Q := fun r s' => r = w ∧ EP X pins σ Q r s') pl (by omega) (by omega) (by rw [List.size_toArray, ← hl]; exact h1) (by simpa using ew) ⟨rfl, fin⟩) hs
theorem ix_str : IxR X rIxS := by
  intro value slice pins s σ H x y v u Q I rx ry h hs
  obtain ⟨z, i, c, rfl, rfl, hz, he, q⟩ := h
  obtain ⟨t, rfl⟩ := rx
  obtain ⟨t', rfl⟩ := ry
  obtain ⟨j, h1, h2, h3, h4, h5⟩ := atI_get he
  have hl : z.cps.toList.length = z.length := by simp [Str.length]
  rw [hl] at h1 h4 h5
  have hn := line63
  exact tail_any (typeIs_str s z t) slot_str_getitem.lookup (getItem_str (c := c) (by
    have e1 : decide (i < -(2 ^ 63 : Int)) = false := decide_eq_false (by omega)
    have e2 : decide (i ≥ 2 ^ 63) = false := decide_eq_false (by omega)
    rw [e1, e2, Bool.or_false]) (by rw [h1]; simpa using h2) ⟨.str ⟨#[c]⟩, H, I.tok _, ⟨_, rfl⟩, q⟩) hs
/-- list, tuple or str -/
def rIx (K : PySem.W.Frag) : R2 := fun x y H Q => rIxL K x y H Q ∨ rIxT K x y H Q ∨ rIxS x y H Q
theorem ix_seq : IxR X (rIx X.K) := ix_list.or (ix_tup.or ix_str)

/-! ### xs[i] = v, any sign -/
/-- the list's object behind a store -/
theorem mapSeq_set (its : List Value) (n j : Nat) (u : Value) : Obj.mapSeq (·.setIfInBounds j u) { cls := .type "list", data := .seq its.toArray n } = { cls := .type "list", data := .seq (its.set j u).toArray n } := by
  simp [Obj.mapSeq]
theorem Inv.lst {pins : List (Addr × Obj)} {σ : St} {H : Hp} {s : Shared} {p : Addr} {xs : List V} (I : Inv X pins σ H s) (h : H p = some (.lst xs)) :
    ∃ (its : List Value) (n : Nat), Vals xs its ∧ s.heap.get? p = some { cls := .type "list", data := .seq its.toArray n } ∧ xs.length ≤ sizeLine := by
  obtain ⟨z, its, n, r, e⟩ := I.hok p _ h
  exact ⟨its, n, r, e, z⟩
/-- the list at p is written by an update of its object -/
theorem Inv.lstUpd {pins : List (Addr × Obj)} {σ : St} {H : Hp} {s : Shared} {p : Addr} {xs ys : List V} {its its' : List Value} {n n' : Nat} {f : Obj → Obj} (I : Inv X pins σ H s) (h : H p = some (.lst xs))
    (ho : s.heap.get? p = some { cls := .type "list", data := .seq its.toArray n }) (hf : f { cls := .type "list", data := .seq its.toArray n } = { cls := .type "list", data := .seq its'.toArray n' }) (r : Vals ys its') (hz : ys.length ≤ sizeLine) (t : Nat) :
    Inv X pins σ (upd H p (.lst ys)) { s with heap := s.heap.update p f, toks := t } := by
  have e : (s.heap.update p f).get? p = some { cls := .type "list", data := .seq its'.toArray n' } := by
    rw [Heap.get?_update_self f ho (by rw [hf] <;> rfl), hf]
  refine I.write (x := p) (e := p) (by rw [h]; trivial) (.inl rfl) (fun b u hb q => (Heap.get?_update_other _ _ (Ne.symm hb)).trans q) ⟨_, e⟩ ?_
  exact ⟨hz, its', n', r, e⟩
def rSetL : V → V → V → Hp → (Hp → Prop) → Prop := fun o i v H Q => ∃ p xs k j, o = .ref p ∧ i = .int k ∧ H p = some (.lst xs) ∧ ixN xs.length k = some j ∧ Q (upd H p (.lst (xs.set j v)))
theorem set_list : PSet X rSetL := by
  intro pins s σ H o i v ov iv u Q I ro ri rv h
  obtain ⟨p, xs, k, j, rfl, rfl, hp, hj, q⟩ := h
  cases ro
  obtain ⟨t, rfl⟩ := ri
  obtain ⟨its, n, r, ho, hz⟩ := I.lst hp
  obtain ⟨h1, h2, h3, h4⟩ := ixN_seq hj
  have hl := r.length
  have hn := line63
  have I' : Inv X pins σ (upd H p (.lst (xs.set j v))) { s with heap := s.heap.update p (Obj.mapSeq (·.setIfInBounds j u)) } :=
    I.lstUpd hp ho (mapSeq_set its n j u) (r.set rv j) (by rw [List.length_set]; exact hz) s.toks
  by_cases h0 : 0 ≤ k
  · have hk : k.toNat = j := by
      rw [seqIndex_of h0 h4] at h1
      exact Option.some.inj h1
    exact PySem.W.ki_setAt ho h0 (by omega) (by rw [List.size_toArray, ← hl]; exact h4) (by rw [hk]; exact ⟨_, I', q⟩)
  · have hk : (k + (its.toArray.size : Int)).toNat = j := by
      rw [seqIndex_neg (by omega) h3] at h1
      rw [List.size_toArray, ← hl]
      exact Option.some.inj h1
    exact PySem.W.ki_setBack ho (by omega) (by rw [List.size_toArray, ← hl]; exact h3) (by omega) (by rw [hk]; exact ⟨_, I', q⟩)

/-! ### slices -/
theorem slice_bounds (lo hi : Option Int) (n : Nat) : (sliceBounds lo hi none n).1 = ((HT.sIx n 0 lo : Nat) : Int) ∧ (sliceBounds lo hi none n).2.1 = ((HT.sIx n n hi : Nat) : Int) ∧ (sliceBounds lo hi none n).2.2 = 1 := by
  refine ⟨?_, ?_, rfl⟩
  · cases lo with
    | none => simp [sliceBounds, HT.sIx]
    | some i =>
      simp only [sliceBounds, HT.sIx, Option.getD_none, show (1 : Int) > 0 by decide, if_true]
      by_cases h : i < 0
      · simp only [h, if_true] <;> omega
      · simp only [h, if_false] <;> omega
  · cases hi with
    | none => simp [sliceBounds, HT.sIx]
    | some i =>
      simp only [sliceBounds, HT.sIx, Option.getD_none, show (1 : Int) > 0 by decide, if_true]
      by_cases h : i < 0
      · simp only [h, if_true] <;> omega
      · simp only [h, if_false] <;> omega
theorem slicePick_cut (its : List Value) (lo hi : Option Int) : slicePick its.toArray lo hi none = ((its.drop (HT.sIx its.length 0 lo)).take (HT.sIx its.length its.length hi - HT.sIx its.length 0 lo)).toArray := by
  obtain ⟨h1, h2, h3⟩ := slice_bounds lo hi its.toArray.size
  unfold slicePick
  rw [h1, h2, h3]
  simp only [sliceRange_one, pick_run, List.size_toArray] <;> rfl
/-- xs[lo:hi] of a list: a new list -/
def rSlL (K : PySem.W.Frag) : V → Option Int → Option Int → Hp → VK → Prop := fun x lo hi H Q => ∃ a xs, x = .ref a ∧ SqL K H a xs ∧ ∀ p, H p = none → Q (.ref p) (upd H p (.lst (cutV xs lo hi)))
theorem sl_list : SlR X (rSlL X.K) := by
  intro pins s σ H x v vl vu lo hi sl Q I rx hs pl pu h
  obtain ⟨a, xs, rfl, hx, q⟩ := h
  cases rx
  obtain ⟨its, r, ht, hz⟩ := I.list hx
  have hlen := r.length
  refine ⟨"list", _, slot_list_getitem.lookup, ht.isList.typeIs, ?_⟩
  refine wpAny_getItem_list_slice ht.isList hs pl pu .none (by simp) ?_ (by rw [List.size_toArray] <;> omega)
  rw [slicePick_cut, ← hlen]
  refine ⟨.ref s.heap.objs.size, _, I.laid (t' := s.toks) (o := .lst (cutV xs lo hi)) (fun b ob q => Heap.get?_push_of_some _ q) (Nat.le_refl _) ?_, rfl, q _ (I.hok.fresh (Nat.le_refl _))⟩
  exact ⟨Nat.le_trans (cutV_length xs lo hi) hz, _, 0, (r.drop (HT.sIx xs.length 0 lo)).take (HT.sIx xs.length xs.length hi - HT.sIx xs.length 0 lo), Heap.get?_push_size _ rfl⟩

/-! ### in, not in: flat items -/
def flatV : V → Bool
  | .non => true
  | .bl _ => true
  | .int _ => true
  | .str _ => true
  | _ => false
/-- == of flat values -/
def eqV : V → V → Bool
  | .non, .non => true
  | .bl a, .bl b => a == b
  | .bl a, .int b => (if a then 1 else 0) == b
  | .int a, .bl b => a == (if b then 1 else 0)
  | .int a, .int b => a == b
  | .str a, .str b => a == b
  | _, _ => false
theorem eqAt_V {A : Around} {s : Shared} {y x : V} {u v : Value} (ry : RelV y u) (rx : RelV x v) (fy : flatV y = true) (fx : flatV x = true) : SeqAt.EqAt A s u v (eqV y x) := by
  cases y with
  | non =>
    cases ry
    cases x with
    | non => cases rx; exact SeqAt.EqAt.same _
    | bl b => cases rx; exact SeqAt.EqAt.none_bool b
    | int b => obtain ⟨t, rfl⟩ := rx; exact SeqAt.EqAt.none_int b t
    | str b => obtain ⟨t, rfl⟩ := rx; exact SeqAt.EqAt.none_str b t
    | _ => exact absurd (show false = true from fx) Bool.false_ne_true
  | bl a =>
    cases ry
    cases x with
    | non => cases rx; exact SeqAt.EqAt.bool_none a
    | bl b => cases rx; exact SeqAt.EqAt.bool_bool a b
    | int b => obtain ⟨t, rfl⟩ := rx; exact SeqAt.EqAt.bool_int a b t
    | str b => obtain ⟨t, rfl⟩ := rx; exact SeqAt.EqAt.bool_str a b t
    | _ => exact absurd (show false = true from fx) Bool.false_ne_true
  | int a =>
    obtain ⟨t', rfl⟩ := ry
    cases x with
    | non => cases rx; exact SeqAt.EqAt.int_none a t'
    | bl b => cases rx; exact SeqAt.EqAt.int_bool a t' b
    | int b => obtain ⟨t, rfl⟩ := rx; exact SeqAt.EqAt.int_int a t' b t
    | str b => obtain ⟨t, rfl⟩ := rx; exact SeqAt.EqAt.int_str a t' b t
    | _ => exact absurd (show false = true from fx) Bool.false_ne_true
  | str a =>
    obtain ⟨t', rfl⟩ := ry
    cases x with
    | non => cases rx; exact SeqAt.EqAt.str_none a t'
    | bl b => cases rx; exact SeqAt.EqAt.str_bool a t' b
    | int b => obtain ⟨t, rfl⟩ := rx; exact SeqAt.EqAt.str_int a t' b t
    | str b => obtain ⟨t, rfl⟩ := rx; exact SeqAt.EqAt.str_str a t' b t
    | _ => exact absurd (show false = true from fx) Bool.false_ne_true
  | _ => exact absurd (show false = true from fy) Bool.false_ne_true
/-- the items' answers, read off the values (a value's own answer does not lean on its token) -/
def eqU (x : V) (u : Value) : Bool := match u with
  | .none => eqV .non x
  | .bool b => eqV (.bl b) x
  | .int i _ => eqV (.int i) x
  | .str z _ => eqV (.str z) x
  | _ => false
theorem eqU_of {x y : V} {u : Value} (r : RelV y u) (f : flatV y = true) : eqU x u = eqV y x := by
  cases y with
  | non => cases r; rfl
  | bl b => cases r; rfl
  | int i => obtain ⟨t, rfl⟩ := r; rfl
  | str z => obtain ⟨t, rfl⟩ := r; rfl
  | _ => exact absurd (show false = true from f) Bool.false_ne_true
theorem any_eqU {x : V} : ∀ {xs : List V} {us : List Value}, Vals xs us → xs.all flatV = true → us.any (eqU x) = xs.any fun y => eqV y x
  | _, _, .nil, _ => rfl
  | y :: xs, u :: us, .cons r t, f => by
    rw [List.all_cons, Bool.and_eq_true] at f
    rw [List.any_cons, List.any_cons, eqU_of r f.1, any_eqU t f.2]
theorem mem_eqAt {A : Around} {s : Shared} {x : V} {v : Value} (rx : RelV x v) (fx : flatV x = true) : ∀ {xs : List V} {us : List Value}, Vals xs us → xs.all flatV = true → ∀ u ∈ us, SeqAt.EqAt A s u v (eqU x u)
  | _, _, .nil, _ => fun u hu => by cases hu
  | y :: xs, u :: us, .cons r t, f => fun u' hu => by
    rw [List.all_cons, Bool.and_eq_true] at f
    rcases List.mem_cons.mp hu with rfl | hu
    · rw [eqU_of r f.1]; exact eqAt_V r rx f.1 fx
    · exact mem_eqAt rx fx t f.2 u' hu
def inV (x : V) (xs : List V) : Bool := xs.any fun y => eqV y x
/-- x in a list or tuple of flat items -/
def rIn (K : PySem.W.Frag) (neg : Bool) : R2 := fun x y H Q => ∃ p xs, y = .ref p ∧ (SqL K H p xs ∨ SqT K H p xs) ∧ flatV x = true ∧ xs.all flatV = true ∧ Q (.bl (if neg then !inV x xs else inV x xs)) H
theorem op_in_seq : OpR X (compareOp .In) (rIn X.K false) := by
  intro pins s σ H x y v u Q I rx ry h
  obtain ⟨p, xs, rfl, hq, fx, fs, q⟩ := h
  cases ry
  rcases hq with hq | hq
  · obtain ⟨its, r, pl, hz⟩ := I.list hq
    refine SeqAt.in_listAt (eqU x) pl.isList (fun w hw => mem_eqAt rx fx r fs w (by simpa using hw)) ⟨.bl _, H, I, rfl, ?_⟩
    rw [show its.toArray.any (eqU x) = its.any (eqU x) by simp, any_eqU r fs]
    exact q
  · obtain ⟨its, r, pl, hz⟩ := I.tuple hq
    refine SeqAt.in_tupleAt (eqU x) pl (fun w hw => mem_eqAt rx fx r fs w (by simpa using hw)) ⟨.bl _, H, I, rfl, ?_⟩
    rw [show its.toArray.any (eqU x) = its.any (eqU x) by simp, any_eqU r fs]
    exact q
theorem op_notIn_seq : OpR X (compareOp .NotIn) (rIn X.K true) := by
  intro pins s σ H x y v u Q I rx ry h
  obtain ⟨p, xs, rfl, hq, fx, fs, q⟩ := h
  cases ry
  rcases hq with hq | hq
  · obtain ⟨its, r, pl, hz⟩ := I.list hq
    refine SeqAt.notIn_listAt (eqU x) pl.isList (fun w hw => mem_eqAt rx fx r fs w (by simpa using hw)) ⟨.bl _, H, I, rfl, ?_⟩
    rw [show its.toArray.any (eqU x) = its.any (eqU x) by simp, any_eqU r fs]
    exact q
  · obtain ⟨its, r, pl, hz⟩ := I.tuple hq
    refine SeqAt.notIn_tupleAt (eqU x) pl (fun w hw => mem_eqAt rx fx r fs w (by simpa using hw)) ⟨.bl _, H, I, rfl, ?_⟩
    rw [show its.toArray.any (eqU x) = its.any (eqU x) by simp, any_eqU r fs]
    exact q
theorem op_notIn_str : OpR X (compareOp .NotIn) (fun x y H Q => ∃ i j, x = .str i ∧ y = .str j ∧ Q (.bl (!(!(Builtin.Str.occurrences j i 0 j.length 1).isEmpty))) H) := by
  intro pins s σ H x y v u Q I rx ry h
  obtain ⟨i, j, rfl, rfl, q⟩ := h
  obtain ⟨t, rfl⟩ := rx
  obtain ⟨t', rfl⟩ := ry
  exact notIn_str ⟨.bl _, H, I, rfl, q⟩

/-! ### len, list(x), tuple(x) of any list or tuple that is read -/
theorem call_len_seq : CallR X (.builtin "len") (fun xs H Q => ∃ p ys, xs = [.ref p] ∧ (SqL X.K H p ys ∨ SqT X.K H p ys) ∧ Q (.int ys.length) H) := by
  intro pins s σ H xs us Q I r h
  obtain ⟨p, ys, rfl, hq, q⟩ := h
  obtain ⟨u, rfl, rx⟩ := vals1 r
  cases rx
  have hn := line63
  rcases hq with hq | hq
  · obtain ⟨its, r', pl, hz⟩ := I.list hq
    have hlen := r'.length
    exact Calls.call_len_list pl.isList (by simp only [List.size_toArray] <;> omega) ⟨.int ys.length, H, I.tok _, ⟨s.toks + 1, by rw [List.size_toArray, hlen]⟩, q⟩
  · obtain ⟨its, r', pl, hz⟩ := I.tuple hq
    have hlen := r'.length
    exact len_tuple pl (by simp only [List.size_toArray] <;> omega) ⟨.int ys.length, H, I.tok _, ⟨s.toks + 1, by rw [List.size_toArray, hlen]⟩, q⟩
theorem call_len_str : CallR X (.builtin "len") (fun xs H Q => ∃ z, xs = [.str z] ∧ z.length ≤ sizeLine ∧ Q (.int z.length) H) := by
  intro pins s σ H xs us Q I r h
  obtain ⟨z, rfl, hz, q⟩ := h
  obtain ⟨u, rfl, t, rfl⟩ := vals1 r
  have hn := line63
  exact len_str (by omega) ⟨.int z.length, H, I.tok _, ⟨_, rfl⟩, q⟩
theorem CallR.or {f : Value} {r r' : List V → Hp → VK → Prop} (h : CallR X f r) (h' : CallR X f r') : CallR X f (fun xs H Q => r xs H Q ∨ r' xs H Q) := by
  intro pins s σ H xs us Q I rs q
  rcases q with q | q
  · exact h pins s σ H xs us Q I rs q
  · exact h' pins s σ H xs us Q I rs q
theorem call_list_of : CallR X (.type "list") (fun xs H Q => ∃ p ys, xs = [.ref p] ∧ (SqL X.K H p ys ∨ SqT X.K H p ys) ∧ ∀ l, H l = none → Q (.ref l) (upd H l (.lst ys))) := by
  intro pins s σ H xs us Q I r h
  obtain ⟨p, ys, rfl, hq, q⟩ := h
  obtain ⟨u, rfl, rx⟩ := vals1 r
  cases rx
  have fin : ∀ (its : List Value), Vals ys its → ys.length ≤ sizeLine → ∀ (h' : Heap) (c' : Nat), (∀ b o', s.heap.get? b = some o' → h'.get? b = some o') →
      h'.get? s.heap.objs.size = some { cls := .type "list", dict := none, data := .seq its.toArray c', slots := #[] } → EP X pins σ Q (.ref s.heap.objs.size) { s with heap := h' } := fun its r' hz h' c' kp e =>
    ⟨.ref s.heap.objs.size, _, I.laid (t' := s.toks) kp (Nat.le_refl _) (show ObjOk X.prog X.w _ h' _ (.lst ys) from ⟨hz, its, c', r', e⟩), rfl, q _ (I.hok.fresh (Nat.le_refl _))⟩
  rcases hq with hq | hq
  · obtain ⟨its, r', pl, hz⟩ := I.list hq
    have hlen := r'.length
    obtain ⟨o, ho, hc, n, hd⟩ := pl.isList
    exact call_list_seq p (.inl rfl) ho hc hd (fun h' c' kp e => fin its r' hz h' c' kp e) (by simp only [List.size_toArray] <;> omega)
  · obtain ⟨its, r', pl, hz⟩ := I.tuple hq
    have hlen := r'.length
    obtain ⟨o, ho, hc, n, hd⟩ := pl
    exact call_list_seq p (.inr rfl) ho hc hd (fun h' c' kp e => fin its r' hz h' c' kp e) (by simp only [List.size_toArray] <;> omega)
theorem call_tuple_of : CallR X (.type "tuple") (fun xs H Q => ∃ p ys, xs = [.ref p] ∧ ((SqL X.K H p ys ∧ ∀ l, H l = none → Q (.ref l) (upd H l (.tup ys))) ∨ (SqT X.K H p ys ∧ Q (.ref p) H))) := by
  intro pins s σ H xs us Q I r h
  obtain ⟨p, ys, rfl, h⟩ := h
  obtain ⟨u, rfl, rx⟩ := vals1 r
  cases rx
  rcases h with ⟨hq, q⟩ | ⟨hq, q⟩
  · obtain ⟨its, r', pl, hz⟩ := I.list hq
    have hlen := r'.length
    refine call_tuple_list pl.isList (fun h' kp => ?_) (by simp only [List.size_toArray] <;> omega)
    have I1 : Inv X pins σ H { s with heap := h' } := I.kept (t' := s.toks) kp
    have I2 : Inv X pins σ (upd H h'.objs.size (.tup ys)) { s with heap := h'.push { cls := .type "tuple", data := .seq its.toArray } } :=
      I1.laid (t' := s.toks) (fun b o e => Heap.get?_push_of_some _ e) (Nat.le_refl _) (show ObjOk X.prog X.w _ _ _ (.tup ys) from ⟨hz, its, r', IsTup.new _ _⟩)
    exact ⟨.ref h'.objs.size, _, I2, rfl, q _ (I1.hok.fresh (Nat.le_refl _))⟩
  · obtain ⟨its, r', pl, hz⟩ := I.tuple hq
    exact call_tuple_same pl ⟨.ref p, H, I, rfl, q⟩

/-! ### the call of a builtin's method: o.m(..) -/
/-- the value is of that builtin type -/
def tyV (K : PySem.W.Frag) (T : String) (x : V) (H : Hp) : Prop := match x with
  | .str _ => T = "str"
  | .int _ => T = "int"
  | .ref p => (T = "list" ∧ ∃ xs, SqL K H p xs) ∨ (T = "tuple" ∧ ∃ o, K.lookup p = some o ∧ o.cls = .type "tuple" ∧ o.dict = none) ∨
      (T = "dict" ∧ ((∃ kvs, H p = some (.dK kvs)) ∨ ∃ kvs, H p = some (.dT kvs))) ∨ (T = "set" ∧ ∃ S n, H p = some (.set S n))
  | _ => False
theorem tyV_is {pins : List (Addr × Obj)} {σ : St} {H : Hp} {s : Shared} {T : String} {x : V} {v : Value} (I : Inv X pins σ H s) (r : RelV x v) (ty : tyV X.K T x H) :
    s.TypeIs v T ∧ ∀ a, v = .ref a → ∃ ob, s.heap.get? a = some ob ∧ ob.dict = none := by
  cases x with
  | str z =>
    obtain ⟨t, rfl⟩ := r
    cases (show T = "str" from ty)
    exact ⟨typeIs_str s z t, fun _ e => nomatch e⟩
  | int i =>
    obtain ⟨t, rfl⟩ := r
    cases (show T = "int" from ty)
    exact ⟨typeIs_int s i t, fun _ e => nomatch e⟩
  | ref p =>
    cases r
    rcases ty with ⟨rfl, xs, hq⟩ | ⟨rfl, o, hk, hc, hd⟩ | ⟨rfl, hk⟩ | ⟨rfl, S, n, hk⟩
    · obtain ⟨its, _, pl, _⟩ := I.list hq
      refine ⟨pl.isList.typeIs, fun a e => ?_⟩
      cases e
      obtain ⟨o, n, e, c, hd, _⟩ := pl
      exact ⟨o, e, hd⟩
    · refine ⟨⟨o, I.kIn p o hk, hc⟩, fun a e => ?_⟩
      cases e
      exact ⟨o, I.kIn _ o hk, hd⟩
    · have z : ∃ o, s.heap.get? p = some o ∧ o.ExactDict := by
        rcases hk with ⟨kvs, hk⟩ | ⟨kvs, hk⟩
        · obtain ⟨_, _, _, _, o, _, _, e, ex, _⟩ := I.hok p _ hk
          exact ⟨o, e, ex⟩
        · obtain ⟨_, _, _, _, o, _, _, e, ex, _⟩ := I.hok p _ hk
          exact ⟨o, e, ex⟩
      obtain ⟨o, e, ex⟩ := z
      refine ⟨⟨o, e, ex.1⟩, fun a e2 => ?_⟩
      cases e2
      exact ⟨o, e, ex.2.1⟩
    · obtain ⟨o, _, _, _, e, ex, _⟩ := I.hok p _ hk
      refine ⟨⟨o, e, ex.1⟩, fun a e2 => ?_⟩
      cases e2
      exact ⟨o, e, ex.2.1⟩
  | _ => exact False.elim ty
def tBM0 (K : PySem.W.Frag) (T : String) (r : V → List V → Hp → VK → Prop) (to : TE) : TE := fun σ H Q => to σ H fun x H1 => tyV K T x H1 ∧ r x [] H1 Q
def tBM (K : PySem.W.Frag) (T : String) (r : V → List V → Hp → VK → Prop) (to : TE) (t : TA) : TE := fun σ H Q => to σ H fun x H1 => tyV K T x H1 ∧ t σ H1 fun xs H2 => r x xs H2 Q
variable {o e : Expr} {es : List Expr} {to : TE} {t : TA} {name : Str} {apos cpos : Pos} {T id : String} {r : V → List V → Hp → VK → Prop}
theorem pe_bm0 (pa : PlainAttrs T) (slot : Slot T name id) (hty : typeOf (.builtin id) = pure (.type "method_descriptor")) (hm : MtR X id r) (ho : PE X o to)
    (hbase : attributeBase o name X.env (eval o X.env) = eval o X.env := by rfl) (hline : (apos.endLine == cpos.line) = true := by rfl) : PE X (.Call (.Attribute o name apos) [] [] cpos) (tBM0 X.K T r to) := by
  intro pins s σ H Q I h
  refine wpAny_Call_method0_late hbase hline (thn (ho pins s σ H _ I h) fun v s1 ⟨x, H1, I1, r1, ty, q1⟩ => ?_)
  obtain ⟨h1, h2⟩ := tyV_is I1 r1 ty
  exact ⟨T, id, pa, slot, hty, h1, h2, Calls.callWith_builtin rfl (PySem.evalArgs_none (hm pins s1 σ H1 x [] v [] Q I1 r1 .nil q1))⟩
theorem pe_bm (pa : PlainAttrs T) (slot : Slot T name id) (hty : typeOf (.builtin id) = pure (.type "method_descriptor")) (hm : MtR X id r) (ho : PE X o to) (ha : PA X (e :: es) t)
    (hbase : attributeBase o name X.env (eval o X.env) = eval o X.env := by rfl)
    (hfew : ((backTo cpos (starEach (e :: es) X.env)).all (fun x => !x.1) && (backToKw cpos (keywordEach [] X.env)).all (fun x => x.1.isSome)
      && decide ((e :: es).length + ([] : List Keyword).length + (if ([] : List Keyword).isEmpty then 0 else 1) < 30)) = true := by rfl)
    (hline : (apos.endLine == cpos.line) = true := by rfl) (hs : starEach (e :: es) X.env = (false, eval e X.env) :: starEach es X.env := by rfl) (hplain : (backTo cpos (starEach es X.env)).any (·.1) = false := by rfl) :
    PE X (.Call (.Attribute o name apos) (e :: es) [] cpos) (tBM X.K T r to t) := by
  intro pins s σ H Q I h
  refine wpAny_Call_method_late hbase hfew hline rfl (thn (ho pins s σ H _ I h) fun v s1 ⟨x, H1, I1, r1, ty, q1⟩ => ?_)
  obtain ⟨h1, h2⟩ := tyV_is I1 r1 ty
  refine ⟨T, id, pa, slot, hty, h1, h2, ?_⟩
  have hA := ha cpos pins s1 σ H1 _ I1 q1
  rw [hs] at hA ⊢
  refine Calls.callWith_builtin (by show (false || (backTo cpos (starEach es X.env)).any (·.1)) = false; rw [hplain] <;> rfl) (Calls.evalArgs_plain ?_)
  exact thn hA fun us s2 ⟨vs, H2, I2, r2, q2⟩ => hm pins s2 σ H2 x vs v us Q I2 r1 r2 q2
/- xs.append(e), list.index on a module's tuple .. are MtR facts of 06m -/
end
end L2

namespace L2
open PySem PySem.Spec PyProof.Rows

def MtM (X : Cx) (id : String) (r : V → List V → Hp → VK → Prop) : Prop :=
  ∀ (pins : List (Addr × Obj)) (s : Shared) (σ : St) (H : Hp) (x : V) (xs : List V) (v : Value) (us : List Value) (Q : VK), Inv X pins σ H s → RelV x v → Vals xs us → r x xs H Q →
    wpAny (model X.prog X.w) X.A (call (.builtin id) (v :: us)) (EP X pins σ Q) X.xe s

/-! ### lists of values -/
theorem Vals.one : ∀ {x : V} {us : List Value}, Vals [x] us → ∃ u, us = [u] ∧ RelV x u
  | _, _, .cons r .nil => ⟨_, rfl, r⟩
theorem Vals.two : ∀ {x y : V} {us : List Value}, Vals [x, y] us → ∃ u v, us = [u, v] ∧ RelV x u ∧ RelV y v
  | _, _, _, .cons r (.cons q .nil) => ⟨_, _, rfl, r, q⟩
theorem Vals.zero : ∀ {us : List Value}, Vals [] us → us = []
  | _, .nil => rfl
theorem Vals.dropLast {xs : List V} {us : List Value} (h : Vals xs us) : Vals xs.dropLast us.dropLast := by
  induction h with
  | nil => exact .nil
  | cons r t ih =>
    cases t with
    | nil => exact .nil
    | cons q t' => exact .cons r ih
theorem Vals.eraseIdx : ∀ {xs : List V} {us : List Value} (i : Nat), Vals xs us → Vals (xs.eraseIdx i) (us.eraseIdx i)
  | _, _, _, .nil => .nil
  | _, _, 0, .cons _ t => t
  | _, _, i + 1, .cons r t => .cons r (Vals.eraseIdx i t)
theorem Vals.reverse {xs : List V} {us : List Value} (h : Vals xs us) : Vals xs.reverse us.reverse := by
  induction h with
  | nil => exact .nil
  | cons r t ih => rw [List.reverse_cons, List.reverse_cons]; exact Vals.append ih (.cons r .nil)
theorem Vals.rep {xs : List V} {us : List Value} (h : Vals xs us) : ∀ k : Nat, Vals (List.replicate k xs).flatten (List.replicate k us).flatten
  | 0 => .nil
  | k + 1 => by
    rw [List.replicate_succ, List.replicate_succ, List.flatten_cons, List.flatten_cons]
    exact Vals.append h (Vals.rep h k)
theorem erase_last {α : Type} (l : List α) : l.eraseIdx (l.length - 1) = l.dropLast := by
  induction l with
  | nil => rfl
  | cons a r ih =>
    cases r with
    | nil => rfl
    | cons b r =>
      have e : (a :: b :: r).length - 1 = ((b :: r).length - 1) + 1 := by
        have h1 : (a :: b :: r).length = r.length + 2 := rfl
        have h2 : (b :: r).length = r.length + 1 := rfl
        omega
      rw [e, List.eraseIdx_cons_succ, ih]
      all_goals rfl
theorem len_erase {α : Type} : ∀ (l : List α) (i : Nat), (l.eraseIdx i).length ≤ l.length
  | [], _ => Nat.le_refl _
  | _ :: _, 0 => Nat.le_succ _
  | _ :: r, i + 1 => Nat.succ_le_succ (len_erase r i)
theorem foldl_rep (its : List Value) : ∀ (k : Nat) (acc : List Value),
    List.foldl (fun x1 x2 => x1 ++ x2) acc.toArray (List.replicate k its.toArray) = (acc ++ (List.replicate k its).flatten).toArray
  | 0, acc => by simp
  | k + 1, acc => by
    have e : acc.toArray ++ its.toArray = (acc ++ its).toArray := by simp
    have e2 : (acc ++ its) ++ (List.replicate k its).flatten = acc ++ (List.replicate (k + 1) its).flatten := by
      rw [List.replicate_succ, List.flatten_cons, List.append_assoc]
    rw [← e2, ← foldl_rep its k (acc ++ its), ← e, List.replicate_succ, List.foldl_cons]

section
variable {X : Cx} {pins : List (Addr × Obj)} {σ : St} {H : Hp} {s : Shared} {l b : Addr} {xs ys zs : List V}

/-! ### the two steps: a tracked list is rewritten, a new list is laid -/
theorem Inv.lset {its its' : List Value} {n : Nat} {f : Array Value → Array Value} {t' : Nat} (I : Inv X pins σ H s) (hH : H l = some (.lst xs))
    (e : s.heap.get? l = some { cls := .type "list", data := .seq its.toArray n }) (hf : f its.toArray = its'.toArray) (hv : Vals ys its') (hz : ys.length ≤ sizeLine) :
    Inv X pins σ (upd H l (.lst ys)) { s with heap := s.heap.update l (Obj.mapSeq f), toks := t' } := by
  have q := PySem.IsL.update e f
  rw [hf] at q
  refine I.write (x := l) (e := l) (by rw [hH]; exact trivial) (.inl rfl) (fun b' u hb hu => (Heap.get?_update_other s.heap (Obj.mapSeq f) (Ne.symm hb)).trans hu) ⟨_, q⟩ ?_
  exact ⟨hz, its', _, hv, q⟩
theorem Inv.lnew {its : List Value} {t' : Nat} (I : Inv X pins σ H s) (hv : Vals ys its) (hz : ys.length ≤ sizeLine) :
    Inv X pins σ (upd H s.heap.objs.size (.lst ys)) { s with heap := s.heap.push { cls := .type "list", data := .seq its.toArray }, toks := t' } :=
  I.laid (fun _ _ q => Heap.get?_push_of_some _ q) (Nat.le_refl _) ⟨hz, its, 0, hv, Heap.get?_push_size _ rfl⟩
theorem Inv.fresh (I : Inv X pins σ H s) : H s.heap.objs.size = none := I.hok.fresh (Nat.le_refl _)
theorem Inv.lstM (I : Inv X pins σ H s) (hH : H l = some (.lst xs)) : xs.length ≤ sizeLine ∧ ∃ (its : List Value) (n : Nat), Vals xs its ∧ xs.length = its.length ∧ s.heap.get? l = some { cls := .type "list", data := .seq its.toArray n } := by
  obtain ⟨z, its, n, r, e⟩ := I.hok l _ hH
  exact ⟨z, its, n, r, r.length, e⟩

theorem notLongL {n : Nat} (h : n ≤ sizeLine) : Builtin.List.listTooLong n = false := by
  unfold Builtin.List.listTooLong
  exact decide_eq_false (by omega)
end

section
variable {X : Cx}

/-! ### methods -/
def rAppend : V → List V → Hp → VK → Prop := fun x vs H Q => ∃ l xs y, x = .ref l ∧ vs = [y] ∧ H l = some (.lst xs) ∧ xs.length < sizeLine ∧ Q .non (upd H l (.lst (xs ++ [y])))
theorem mt_append : MtM X "list.append" rAppend := by
  intro pins s σ H x vs v us Q I rx rv h
  obtain ⟨l, xs, y, rfl, rfl, hH, hz, q⟩ := h
  cases rx
  obtain ⟨u, rfl, ru⟩ := rv.one
  obtain ⟨z, its, n, r, hl, e⟩ := I.lstM hH
  refine call_meets F.slot_list_append ⟨_, e, rfl⟩ F.entry_list_append (F.args_list_append_2 _ _) (PySem.list_append l its.toArray n u (by rw [List.size_toArray]; omega)) ⟨e, ?_⟩
  refine ⟨.non, _, I.lset (its' := its ++ [u]) hH e (by simp) (r.append (.cons ru .nil)) ?_, rfl, q⟩
  rw [List.length_append, List.length_singleton]
  omega

def rExtend : V → List V → Hp → VK → Prop := fun x vs H Q => ∃ l b xs zs, x = .ref l ∧ vs = [.ref b] ∧ H l = some (.lst xs) ∧ H b = some (.lst zs) ∧ xs.length + zs.length ≤ sizeLine ∧ Q .non (upd H l (.lst (xs ++ zs)))
theorem mt_extend : MtM X "list.extend" rExtend := by
  intro pins s σ H x vs v us Q I rx rv h
  obtain ⟨l, b, xs, zs, rfl, rfl, hH, hB, hz, q⟩ := h
  cases rx
  obtain ⟨u, rfl, ru⟩ := rv.one
  cases ru
  obtain ⟨z, its, n, r, hl, e⟩ := I.lstM hH
  obtain ⟨z2, its2, n2, r2, hl2, e2⟩ := I.lstM hB
  have hsz : its.toArray.size + its2.toArray.size ≤ sizeLine := by rw [List.size_toArray, List.size_toArray]; omega
  have hlong : ¬ (!its.toArray.isEmpty && Builtin.List.listTooLong (its.toArray.size + its2.toArray.size)) = true := by
    rw [notLongL hsz, Bool.and_false]
    exact Bool.false_ne_true
  refine call_meets F.slot_list_extend ⟨_, e, rfl⟩ F.entry_list_extend (F.args_list_extend_2 _ _)
    (AutoSeq1.list_extend_list_list_0 l its.toArray n b its2.toArray n2 hlong (by rw [List.size_toArray]; omega) (by omega)) ⟨e, e2, ?_⟩
  refine ⟨.non, _, I.lset (its' := its ++ its2) hH e (by simp) (r.append r2) ?_, rfl, q⟩
  rw [List.length_append]
  omega

def rPop : V → List V → Hp → VK → Prop := fun x vs H Q => ∃ l xs y, x = .ref l ∧ vs = [] ∧ H l = some (.lst xs) ∧ xs[xs.length - 1]? = some y ∧ Q y (upd H l (.lst xs.dropLast))
theorem mt_pop : MtM X "list.pop" rPop := by
  intro pins s σ H x vs v us Q I rx rv h
  obtain ⟨l, xs, y, rfl, rfl, hH, hy, q⟩ := h
  cases rx
  have hus := rv.zero
  subst hus
  obtain ⟨z, its, n, r, hl, e⟩ := I.lstM hH
  obtain ⟨u, hu, ru⟩ := r.get hy
  have hy' : its.toArray[its.toArray.size - 1]? = some u := by
    show its.toArray[its.length - 1]? = some u
    rw [← Array.getElem?_toList, ← hl]
    exact hu
  refine call_meets F.slot_list_pop ⟨_, e, rfl⟩ F.entry_list_pop (F.args_list_pop_1 _) (MeetsSeq.list_pop_last l its.toArray n u hy' (by rw [List.size_toArray]; omega)) ⟨e, ?_⟩
  refine ⟨y, _, I.lset (its' := its.dropLast) hH e ?_ r.dropLast ?_, ru, q⟩
  · show its.toArray.eraseIdxIfInBounds (its.toArray.size - 1) = its.dropLast.toArray
    rw [List.size_toArray, List.eraseIdxIfInBounds_toArray, erase_last]
  · rw [List.length_dropLast]
    omega

def rPopAt : V → List V → Hp → VK → Prop := fun x vs H Q => ∃ l xs i k y, x = .ref l ∧ vs = [.int i] ∧ H l = some (.lst xs) ∧ -(2 ^ 63) ≤ i ∧ i < 2 ^ 63 ∧ seqIndex? i xs.length = some k ∧ xs[k]? = some y ∧ Q y (upd H l (.lst (xs.eraseIdx k)))
theorem mt_popAt : MtM X "list.pop" rPopAt := by
  intro pins s σ H x vs v us Q I rx rv h
  obtain ⟨l, xs, i, k, y, rfl, rfl, hH, h1, h2, hk, hy, q⟩ := h
  cases rx
  obtain ⟨u, rfl, ru⟩ := rv.one
  obtain ⟨t, rfl⟩ := ru
  obtain ⟨z, its, n, r, hl, e⟩ := I.lstM hH
  obtain ⟨w, hw, rw'⟩ := r.get hy
  refine call_meets F.slot_list_pop ⟨_, e, rfl⟩ F.entry_list_pop (F.args_list_pop_2 _ _)
    (MeetsSeq.list_pop_at l its.toArray n i t k w (fitsIndex_both h1 h2) (by rw [List.size_toArray, ← hl]; exact hk) (by rw [← Array.getElem?_toList]; exact hw) (by rw [List.size_toArray]; omega)) ⟨e, ?_⟩
  refine ⟨y, _, I.lset (its' := its.eraseIdx k) hH e ?_ (r.eraseIdx k) ?_, rw', q⟩
  · show its.toArray.eraseIdxIfInBounds k = (its.eraseIdx k).toArray
    rw [List.eraseIdxIfInBounds_toArray]
  · have := len_erase xs k
    omega

def rReverse : V → List V → Hp → VK → Prop := fun x vs H Q => ∃ l xs, x = .ref l ∧ vs = [] ∧ H l = some (.lst xs) ∧ Q .non (upd H l (.lst xs.reverse))
theorem mt_reverse : MtM X "list.reverse" rReverse := by
  intro pins s σ H x vs v us Q I rx rv h
  obtain ⟨l, xs, rfl, rfl, hH, q⟩ := h
  cases rx
  have hus := rv.zero
  subst hus
  obtain ⟨z, its, n, r, hl, e⟩ := I.lstM hH
  refine call_meets F.slot_list_reverse ⟨_, e, rfl⟩ F.entry_list_reverse (F.args_list_reverse_1 _) (AutoSeq1.list_reverse_list_0 l its.toArray n (by rw [List.size_toArray]; omega)) ⟨e, ?_⟩
  refine ⟨.non, _, I.lset (its' := its.reverse) hH e (by simp) r.reverse ?_, rfl, q⟩
  rw [List.length_reverse]
  omega

def rClear : V → List V → Hp → VK → Prop := fun x vs H Q => ∃ l xs, x = .ref l ∧ vs = [] ∧ H l = some (.lst xs) ∧ Q .non (upd H l (.lst []))
theorem mt_clear : MtM X "list.clear" rClear := by
  intro pins s σ H x vs v us Q I rx rv h
  obtain ⟨l, xs, rfl, rfl, hH, q⟩ := h
  cases rx
  have hus := rv.zero
  subst hus
  obtain ⟨z, its, n, r, hl, e⟩ := I.lstM hH
  refine call_meets F.slot_list_clear ⟨_, e, rfl⟩ F.entry_list_clear (F.args_list_clear_1 _) (AutoSeq1.list_clear_list_0 l its.toArray n (by rw [List.size_toArray]; omega)) ⟨e, ?_⟩
  exact ⟨.non, _, I.lset (its' := []) (ys := []) hH e rfl .nil (Nat.zero_le _), rfl, q⟩

/-! ### list + list, list += list, list * int -/
def rCat : R2 := fun x y H Q => ∃ l b xs zs, x = .ref l ∧ y = .ref b ∧ H l = some (.lst xs) ∧ H b = some (.lst zs) ∧ xs.length + zs.length ≤ sizeLine ∧ ∀ p, H p = none → Q (.ref p) (upd H p (.lst (xs ++ zs)))
theorem op_cat : OpR X (binaryOp .Add) rCat := by
  intro pins s σ H x y v u Q I rx ry h
  obtain ⟨l, b, xs, zs, rfl, rfl, hH, hB, hz, q⟩ := h
  cases rx
  cases ry
  obtain ⟨z, its, n, r, hl, e⟩ := I.lstM hH
  obtain ⟨z2, its2, n2, r2, hl2, e2⟩ := I.lstM hB
  refine PySem.P.add_list e e2 ?_ (by rw [List.size_toArray, List.size_toArray]; omega)
  have ea : its.toArray ++ its2.toArray = (its ++ its2).toArray := by simp
  rw [ea]
  exact ⟨.ref _, _, I.lnew (t' := s.toks) (r.append r2) (by rw [List.length_append]; omega), rfl, q _ I.fresh⟩
/-- a list times an int (a negative one is nothing) -/
def rRep : R2 := fun x y H Q => ∃ l k xs, x = .ref l ∧ y = .int k ∧ H l = some (.lst xs) ∧ -(2 ^ 63) ≤ k ∧ k < 2 ^ 63 ∧ xs.length * k.toNat ≤ sizeLine ∧
  ∀ p, H p = none → Q (.ref p) (upd H p (.lst (List.replicate k.toNat xs).flatten))
theorem len_rep {α : Type} (xs : List α) (k : Nat) : (List.replicate k xs).flatten.length = k * xs.length := by
  induction k with
  | zero => simp
  | succ k ih => rw [List.replicate_succ, List.flatten_cons, List.length_append, ih, Nat.succ_mul, Nat.add_comm]
theorem op_rep : OpR X (binaryOp .Mult) rRep := by
  intro pins s σ H x y v u Q I rx ry h
  obtain ⟨l, k, xs, rfl, rfl, hH, h1, h2, hz, q⟩ := h
  cases rx
  obtain ⟨t, rfl⟩ := ry
  obtain ⟨z, its, n, r, hl, e⟩ := I.lstM hH
  have hlen : its.toArray.size * k.toNat ≤ sizeLine := by rw [List.size_toArray, ← hl]; exact hz
  have hcap : ¬ its.toArray.size * k.toNat > (2 ^ 63 - 1) / 8 := by
    have : (sizeLine : Nat) ≤ (2 ^ 63 - 1) / 8 := by decide
    omega
  have hfit : ¬ (!Builtin.List.listFitsIndex k) = true := by
    rw [fitsIndex_both h1 h2]
    exact Bool.false_ne_true
  have hlong : ¬ Builtin.List.listTooLong (its.toArray.size * k.toNat) = true := by
    rw [notLongL hlen]
    exact Bool.false_ne_true
  have hnew : List.foldl (fun x1 x2 => x1 ++ x2) #[] (List.replicate (if its.toArray.isEmpty = true then 0 else k.toNat) its.toArray) = (List.replicate k.toNat its).flatten.toArray := by
    have f0 : ∀ m : Nat, List.foldl (fun x1 x2 => x1 ++ x2) #[] (List.replicate m its.toArray) = (List.replicate m its).flatten.toArray := fun m => by
      have := foldl_rep its m []
      rw [List.nil_append] at this
      exact this
    rw [f0]
    cases its with
    | nil => simp
    | cons a r' => rw [if_neg (by simp)]
  refine wpAny_binaryOp_repeat_ref (T := "list") (U := "int") (by decide) ⟨_, e, rfl⟩ (fun s' => typeIs_int s' k t) noFill_list_mul F.fills_int_mul F.slot_int_rmul repeat_list F.slot_int_index.lookup
    (call_meets F.slot_int_rmul (typeIs_int s k t) F.entry_int_rmul (F.args_int_rmul_2 _ _) (int___rmul___int_list k t l its.toArray n)
      ⟨e, rfl, ⟨_, e, rfl⟩, call_meets F.slot_list_mul ⟨_, e, rfl⟩ F.entry_list_mul (F.args_list_mul_2 _ _) (AutoListH.list___mul___list_int_3 l its.toArray n k t hfit hcap hlong) ⟨e, ?_⟩⟩)
  rw [hnew]
  exact ⟨.ref _, _, I.lnew (t' := s.toks) (r.rep k.toNat) (by rw [len_rep, Nat.mul_comm]; exact hz), rfl, q _ I.fresh⟩

/-! ### del xs[i] -/
theorem del_list {pins : List (Addr × Obj)} {s : Shared} {σ : St} {H : Hp} {l : Addr} {xs : List V} {i : Int} {t : Tok} {k : Nat} {Q : Unit → Shared → Prop} (I : Inv X pins σ H s) (hH : H l = some (.lst xs))
    (h1 : -(2 ^ 63) ≤ i) (h2 : i < 2 ^ 63) (hk : seqIndex? i xs.length = some k) (h : ∀ s', Inv X pins σ (upd H l (.lst (xs.eraseIdx k))) s' → Q () s') :
    wpAny (model X.prog X.w) X.A (delItem (.ref l) (.int i t)) Q X.xe s := by
  obtain ⟨z, its, n, r, hl, e⟩ := I.lstM hH
  refine PySem.P.delItem_list (k := k) e (fitsIndex_both h1 h2) (by rw [List.size_toArray, ← hl]; exact hk) (h _ ?_) (by rw [List.size_toArray]; omega)
  refine I.lset (its' := its.eraseIdx k) (t' := s.toks) hH e ?_ (r.eraseIdx k) ?_
  · show its.toArray.eraseIdxIfInBounds k = (its.eraseIdx k).toArray
    rw [List.eraseIdxIfInBounds_toArray]
  · have := len_erase xs k
    omega
end

/-! ### xs[a:b] = ys -/
section
variable {prog : Program} {w : World} {A : Around} {E : Value → Shared → Prop} {s : Shared}
theorem splice_eq (its its2 : List Value) (a c : Nat) : its.toArray.extract 0 a ++ its2.toArray ++ its.toArray.extract c its.toArray.size = (its.take a ++ its2 ++ its.drop c).toArray := by
  apply Array.toList_inj.mp
  first
    | (simp
       exact List.take_of_length_le (by simp))
    | simp [List.take_of_length_le]
    | simp
theorem bounds_run {a c n : Nat} (hac : a ≤ c) (hc : c ≤ n) : sliceBounds (some (a : Int)) (some (c : Int)) none n = ((a : Int), (c : Int), 1) := by
  simp only [sliceBounds, Option.getD_none]
  have h1 : ¬ ((a : Int) < 0) := by omega
  have h2 : ¬ ((c : Int) < 0) := by omega
  simp only [h1, h2, if_false, show (1 : Int) > 0 by decide, if_true]
  congr 1
  · omega
  · congr 1; omega
set_option maxRecDepth 100000 in
/-- list.__setitem__ with a slice of step one and another list -/
theorem setItem_slice {l b sl : Addr} {items new : Array Value} {n n2 : Nat} {vl vu : Value} {a c : Nat} {Q : Unit → Shared → Prop}
    (e : s.heap.get? l = some { cls := .type "list", data := .seq items n }) (e2 : s.heap.get? b = some { cls := .type "list", data := .seq new n2 }) (hne : l ≠ b)
    (hs : s.heap.IsSliceOf sl vl vu .none) (pl : IsPart vl (some (a : Int))) (pu : IsPart vu (some (c : Int))) (hac : a ≤ c) (hc : c ≤ items.size)
    (hsz : items.size + new.size ≤ sizeLine) (h : Q () { s with heap := s.heap.update l (Obj.mapSeq fun xs => xs.extract 0 a ++ new ++ xs.extract c xs.size) }) :
    wpAny (model prog w) A (setItem (.ref l) (.ref sl) (.ref b)) Q E s := by
  have hl : s.heap.IsList l items := PySem.IsL.isList e
  have hb : s.heap.IsList b new := PySem.IsL.isList e2
  obtain ⟨os, hos, hcs, hds⟩ := id hs
  have hTs : s.TypeIs (.ref sl) "slice" := ⟨os, hos, hcs⟩
  have hstep : ¬ ((rawPart none == rawInt 0) = true) := Bool.false_ne_true
  have hsame : Builtin.List.listSameRef (.ref l) (.ref b) = false := by
    unfold Builtin.List.listSameRef
    exact beq_eq_false_iff_ne.mpr hne
  have hmax : (max (a : Int) (c : Int)).toNat = c := by omega
  have hz' : ((fun xs : Array Value => xs.extract 0 a ++ new ++ xs.extract c xs.size) items).size ≤ sizeLine + 1 := by
    simp only [Array.size_append, Array.size_extract]
    omega
  unfold setItem
  try with_reducible refine wpAny_holding ?_
  first | refine wpAny_bind (wpAny_pure ?_) | skip
  refine wpAny_bind (wpAny_sequenceKey hl.typeIs (by decide) ?_)
  refine wpAny_bind (wpAny_callSpecial?_slot (name := Str.ofString "__setitem__") hl.typeIs slot_list_setitem
    (wpAny_call_entry slot_list_setitem hl.typeIs entry_list_setitem ?_ (args_list_setitem _ _ _)))
  show wpAny _ _ (Builtin.List.listSubscript? (.ref sl) >>= _) _ _ s
  refine wpAny_bind ?_
  unfold Builtin.List.listSubscript?
  refine wpAny_bind (wpAny_specialOf hTs slice_no_index ?_)
  simp only [Option.isNone_none, if_true]
  refine wpAny_pure ?_
  show wpAny _ _ (typeOf (.ref sl) >>= _) _ _ s
  refine wpAny_bind (wpAny_typeOf hTs ?_)
  first
    | rw [if_neg (by decide)]
    | refine PySem.W.KFB.if_not (by decide) ?_
  rw [listSliceParts_eq]
  refine wpAny_bind (wpAny_bind (wpAny_field hos hds (x := .none) rfl (wpAny_bind (wpAny_listPart .none ?_))))
  rw [if_neg hstep]
  refine wpAny_bind (wpAny_field hos hds (x := vl) rfl (wpAny_bind (wpAny_listPart pl ?_)))
  refine wpAny_bind (wpAny_field hos hds (x := vu) rfl (wpAny_bind (wpAny_listPart pu (wpAny_pure ?_))))
  first
    | simp only [hsame, Bool.false_eq_true, if_false]
    | refine PySem.W.KFB.if_not hsame ?_
    | (dsimp only
       rw [if_neg (by rw [hsame]; exact Bool.false_ne_true)])
  refine wpAny_bind (m := Builtin.List.listAllItems (.ref b) "must assign iterable to extended slice") ?_
  unfold Builtin.List.listAllItems
  refine wpAny_bind (wpAny_typeOf hb.typeIs ?_)
  first
    | refine PySem.W.KFB.if_so (by decide) ?_
    | rw [if_pos (by decide)]
    | simp only [beq_self_eq_true, Bool.true_or, if_true]
  unfold Builtin.List.listItems
  refine wpAny_bind (wpAny_seqItems e2 rfl (wpAny_pure ?_))
  refine wpAny_bind (wpAny_bind (wpAny_seqItems e rfl (wpAny_pure ?_)))
  refine wpAny_bind (wpAny_of_eq ((sliceIndices_raw (some (a : Int)) (some (c : Int)) none items.size (by simp)).trans (congrArg (pure : Int × Int × Int → Sem (Int × Int × Int)) (bounds_run hac hc))) ?_)
  show wpAny _ _ (if ((1 : Int) == 1) = true then _ else _) _ _ s
  rw [if_pos (by decide)]
  refine wpAny_bind (wpAny_rule ?_)
  first
    | simp only [notLongL hsz, Bool.false_eq_true, if_false]
    | refine PySem.W.KFB.if_not (notLongL hsz) ?_
  first | refine wpAny_bind (wpAny_pure ?_) | skip
  show wpAny _ _ (updateSeq l (fun xs => xs.extract 0 ((a : Int)).toNat ++ new ++ xs.extract (max (a : Int) (c : Int)).toNat xs.size) >>= _) _ _ s
  rw [hmax, Int.toNat_natCast]
  refine wpAny_bind (wpAny_updateSeq (hz := Nat.le_trans (Nat.le_add_right _ _) hsz) (_hz' := hz') e rfl ?_)
  refine wpAny_bind (wpAny_letGo ?_)
  first
    | exact wpAny_bind (wpAny_pure (wpAny_pure ⟨.none, rfl, wpAny_pure h⟩))
    | exact wpAny_pure ⟨.none, rfl, wpAny_pure h⟩
end

section
variable {X : Cx}
/-- xs[a:c] = ys of another list, at the value level: sl is the slice object that was just made -/
theorem set_slice {pins : List (Addr × Obj)} {s : Shared} {σ : St} {H : Hp} {l b sl : Addr} {xs ys : List V} {a c : Int} {vl vu : Value} {Q : Unit → Shared → Prop} (I : Inv X pins σ H s)
    (hH : H l = some (.lst xs)) (hB : H b = some (.lst ys)) (hne : l ≠ b) (hs : s.heap.IsSliceOf sl vl vu .none) (ra : RelV (.int a) vl) (rc : RelV (.int c) vu) (h0 : 0 ≤ a) (hac : a ≤ c) (hc : c ≤ xs.length)
    (hz : xs.length + ys.length ≤ sizeLine) (h : ∀ s', Inv X pins σ (upd H l (.lst (xs.take a.toNat ++ ys ++ xs.drop c.toNat))) s' → Q () s') :
    wpAny (model X.prog X.w) X.A (setItem (.ref l) (.ref sl) (.ref b)) Q X.xe s := by
  obtain ⟨ta, rfl⟩ := ra
  obtain ⟨tc, rfl⟩ := rc
  obtain ⟨z, its, n, r, hl, e⟩ := I.lstM hH
  obtain ⟨z2, its2, n2, r2, hl2, e2⟩ := I.lstM hB
  obtain ⟨a', rfl⟩ := Int.eq_ofNat_of_zero_le h0
  obtain ⟨c', rfl⟩ := Int.eq_ofNat_of_zero_le (Int.le_trans h0 hac)
  simp only [Int.toNat_natCast] at h
  refine setItem_slice (a := a') (c := c') e e2 hne hs (.int _ _) (.int _ _) (by omega) (by rw [List.size_toArray]; omega) (by rw [List.size_toArray, List.size_toArray]; omega) (h _ ?_)
  refine I.lset (its' := its.take a' ++ its2 ++ its.drop c') (t' := s.toks) hH e ?_ (Vals.append (Vals.append (r.take _) r2) (r.drop _)) ?_
  · exact splice_eq its its2 a' c'
  · rw [List.length_append, List.length_append, List.length_take, List.length_drop]
    omega
end
end L2

namespace Att
open PySem PySem.W PySem.Calls PyProof.Rows

/-! ### the script -/
theorem ints_of_wellAll {P : Params} {h : Heap} : ∀ (ns : List Int) (vs : List Value), WellAll P h vs (ns.map WData.int) → IntsAre vs ns := by
  intro ns
  induction ns with
  | nil =>
    intro vs w
    rw [List.map_nil] at w
    cases w
    exact .nil
  | cons n ns ih =>
    intro vs w
    rw [List.map_cons] at w
    cases w with
    | cons a b =>
      cases a
      exact .cons _ _ (ih _ b)

theorem script_of {l : OpenLaw} {n : Nat} (hn : l.most = some n) {P : Params} {h : Heap} {args : List WData} {vals : List Value}
    (hpre : l.row.toRowW.claim.pre args = true) (hwl : WellAll P h vals args) :
    ∃ a vs ns, vals = [Value.ref a] ∧ args = [WData.list (ns.map WData.int)] ∧ h.get? a = some { cls := .type "list", data := .seq vs.toArray } ∧ IntsAre vs ns ∧ ns.length ≤ n := by
  have hsh : WShape.hasAll [] args [.list .int] = true := (pre_splitW hpre).1
  have hc : l.pre.holds [] { args := args } = true := (pre_splitW hpre).2
  obtain ⟨d, r, rfl, h1, h2⟩ := hasAllW_cons hsh
  obtain rfl := hasAllW_nil h2
  obtain ⟨xs, rfl, h3⟩ := hasW_list h1
  obtain ⟨ns, rfl⟩ := items_int h3
  have hlen : ns.length ≤ n := by
    unfold OpenLaw.pre at hc
    have h4 : (WTm.not (.lt (.lit (.int (n : Int))) (.len (.arg 0)))).holds [] { args := [.list (ns.map .int)] } = true := by
      have h4 := (holds_andW hc).1
      rw [hn] at h4
      exact h4
    have h5 := condW_of h4 (w_not (w_lt w_lit (w_len_list (w_arg rfl))))
    rw [List.length_map] at h5
    refine Nat.le_of_not_lt fun q => ?_
    have q' : (n : Int) < ((ns.length : Nat) : Int) := by omega
    first
      | (rw [decide_eq_true q'] at h5; exact absurd h5 (by decide))
      | (simp at h5; omega)
  cases hwl with
  | cons w1 w2 =>
    cases w2
    cases w1 with
    | list ho hall => exact ⟨_, _, ns, rfl, rfl, ho, ints_of_wellAll ns _ hall, hlen⟩

theorem post_true (l : OpenLaw) (args : List WData) : l.row.toRowW.claim.post args (.bool true) args = true :=
  postW_of (r := l.row.toRowW) (X := (true == true))
    (show WShape.has [] (.bool true) .bool = true by first | rfl | decide | simp [WShape.has, WShape.arms, WShape.armsAll])
    (show (WTm.eq .res (.lit (.bool true))).value [] { args := args, res := some (.bool true), after := args } = some (.bool (true == true)) from w_eq_bool (w_res rfl) w_lit) rfl

/-! ### the attachment: holds_open's last premise (the goal 'hc' behind k_head) from a wpAny of the law's body -/
theorem attach {l : OpenLaw} {n : Nat} {q : Program} {loose : List Str} {XP : (Str → Option Value) → Heap → Prop} {YP : World → Heap → Prop} {d : DefRec} {x : Str}
    (hn : l.most = some n) (hdf : d.params.defaults = [])
    (hbind : ∀ pm cd doc v : Value, bindArgs (docDef d.name d.params d.body d.scope pm cd doc) ⟨[v], []⟩ = pure [(x, v)])
    (hx : d.scope.names.lookup x = some .local ∨ d.scope.names.lookup x = some .cell)
    (hk : d.scope.kind = .function) (hco : d.scope.isCoroutine = false) (hgen : d.scope.isGenerator = false)
    (body : ∀ (w : World) (s₀ s₁ s : Shared) (mg mb : Str → Option Value) (fa : Addr) (o : Obj) (pm cd doc : Value) (a : Addr) (vs : List Value) (ns : List Int),
      Ground q loose [] XP w s₀ mg mb s₁.heap → YP w s₁.heap →
      s₁.heap.get? fa = some o → o.data = .func (docDef d.name d.params d.body d.scope pm cd doc) → s₁.heap.CodeRec cd d.name → mg d.name = some (.ref fa) →
      s₁.heap.get? a = some { cls := .type "list", data := .seq vs.toArray } → IntsAre vs ns → ns.length ≤ n →
      s.gens = #[] → s.os = s₁.os →
      Fr s₁.heap s₁.heap.objs.size s.heap (bindL (envOfC d.name d.scope s₁.heap.objs.size fa cd).kindOf [(x, .ref a)] fun _ => none) →
      Cl s₁.heap.objs.size (cellsFrom (s₁.heap.objs.size + 1) d.scope.names []) s.heap (bindC (envOfC d.name d.scope s₁.heap.objs.size fa cd).kindOf [(x, .ref a)] fun _ => none) →
      wpAny (model l.prog w) (callerA.deeper (envOfC d.name d.scope s₁.heap.objs.size fa cd)) (execs d.body (envOfC d.name d.scope s₁.heap.objs.size fa cd))
        (fun f s' => f = .ret (.bool true) ∧ OldK s₁.heap s'.heap ∧ s'.os = s₁.os ∧ AllBare s'.gens) (fun _ _ => False) s) :
    WalkO q loose XP YP l.row.toRowW d [] (fun f vs => PySem.call f vs) := by
  intro w s₀ s₁ mg mb G Y fa o pm cd doc dV kV ho hd hcd hD hmg hg args vals as hpre hlay hrd hwl hlo
  obtain rfl : dV = .none := Dflts.none hD hdf
  obtain rfl : kV = .none := Dflts.noKw hD
  obtain ⟨a, vs, ns, rfl, rfl, hobj, hints, hlen⟩ := script_of hn hpre hwl
  refine enter_call ?_
  refine call_cells_ret (o := o) (by rw [depth_caller]; decide) ho (fd_plain hd) G.T.nolimit hcd (hbind pm cd doc (.ref a)) (fun y hy => ?_) (fun h₁ tk F X => ?_) hco hgen hk
  · obtain rfl : y = (x, Value.ref a) := List.mem_singleton.mp hy
    rcases hx with e | e
    · exact .inl e
    · exact .inr ⟨e, cellsFrom_some _ _ _ (.inl e)⟩
  · refine wpAny_mono (body w s₀ s₁ { s₁ with heap := h₁, toks := tk } mg mb fa o pm cd doc a vs ns G Y ho (fd_plain hd) hcd hmg hobj hints hlen hg rfl F X) (fun f s' hq => ?_) (fun _ _ hq => hq)
    obtain ⟨rfl, h2, h3, h4⟩ := hq
    exact ⟨.inl ⟨.bool true, .bool true, [], rfl, fun _ => rfl, .bool true, post_true l _, fun _ => ⟨List.Pairwise.nil, fun _ hm => (nomatch hm)⟩⟩, h2, h3, h4⟩

/-- the same from a codeAny of the CALL (for a layer whose function contracts speak of calls) -/
theorem attach_call {l : OpenLaw} {n : Nat} {q : Program} {loose : List Str} {XP : (Str → Option Value) → Heap → Prop} {YP : World → Heap → Prop} {d : DefRec}
    (hn : l.most = some n) (hdf : d.params.defaults = [])
    (call : ∀ (w : World) (s₀ s₁ : Shared) (mg mb : Str → Option Value) (fa : Addr) (o : Obj) (pm cd doc : Value) (a : Addr) (vs : List Value) (ns : List Int),
      Ground q loose [] XP w s₀ mg mb s₁.heap → YP w s₁.heap →
      s₁.heap.get? fa = some o → o.data = .func (docDef d.name d.params d.body d.scope pm cd doc) → s₁.heap.CodeRec cd d.name → mg d.name = some (.ref fa) →
      s₁.heap.get? a = some { cls := .type "list", data := .seq vs.toArray } → IntsAre vs ns → ns.length ≤ n → s₁.gens = #[] →
      codeAny (model l.prog w) callerA (.call (.ref fa) ⟨[.ref a], []⟩) (fun r s' => r = .ok (.ret (.bool true)) ∧ OldK s₁.heap s'.heap ∧ s'.os = s₁.os ∧ AllBare s'.gens) s₁) :
    WalkO q loose XP YP l.row.toRowW d [] (fun f vs => PySem.call f vs) := by
  intro w s₀ s₁ mg mb G Y fa o pm cd doc dV kV ho hd hcd hD hmg hg args vals as hpre hlay hrd hwl hlo
  obtain rfl : dV = .none := Dflts.none hD hdf
  obtain rfl : kV = .none := Dflts.noKw hD
  obtain ⟨a, vs, ns, rfl, rfl, hobj, hints, hlen⟩ := script_of hn hpre hwl
  refine enter_call (codeAny_mono (call w s₀ s₁ mg mb fa o pm cd doc a vs ns G Y ho (fd_plain hd) hcd hmg hobj hints hlen hg) fun r s' hq => ?_)
  obtain ⟨rfl, h2, h3, h4⟩ := hq
  exact ⟨.inl ⟨.bool true, .bool true, [], rfl, fun _ => rfl, .bool true, post_true l _, fun _ => ⟨List.Pairwise.nil, fun _ hm => (nomatch hm)⟩⟩, h2, h3, h4⟩

/-- the same where the top left finished generators (o_head chose holds_openN): nothing may have changed at all and no generator may be left -/
theorem attachN {l : OpenLaw} {n : Nat} {q : Program} {loose : List Str} {XP : (Str → Option Value) → Heap → Prop} {YP : World → Heap → Prop} {d : DefRec} {x : Str}
    (hn : l.most = some n) (hdf : d.params.defaults = [])
    (hbind : ∀ pm cd doc v : Value, bindArgs (docDef d.name d.params d.body d.scope pm cd doc) ⟨[v], []⟩ = pure [(x, v)])
    (hx : d.scope.names.lookup x = some .local ∨ d.scope.names.lookup x = some .cell)
    (hk : d.scope.kind = .function) (hco : d.scope.isCoroutine = false) (hgen : d.scope.isGenerator = false)
    (body : ∀ (w : World) (s₀ s₁ s : Shared) (mg mb : Str → Option Value) (fa : Addr) (o : Obj) (pm cd doc : Value) (a : Addr) (vs : List Value) (ns : List Int),
      Ground q loose [] XP w s₀ mg mb s₁.heap → YP w s₁.heap →
      s₁.heap.get? fa = some o → o.data = .func (docDef d.name d.params d.body d.scope pm cd doc) → s₁.heap.CodeRec cd d.name → mg d.name = some (.ref fa) →
      s₁.heap.get? a = some { cls := .type "list", data := .seq vs.toArray } → IntsAre vs ns → ns.length ≤ n →
      s.gens = #[] → s.os = s₁.os →
      Fr s₁.heap s₁.heap.objs.size s.heap (bindL (envOfC d.name d.scope s₁.heap.objs.size fa cd).kindOf [(x, .ref a)] fun _ => none) →
      Cl s₁.heap.objs.size (cellsFrom (s₁.heap.objs.size + 1) d.scope.names []) s.heap (bindC (envOfC d.name d.scope s₁.heap.objs.size fa cd).kindOf [(x, .ref a)] fun _ => none) →
      wpAny (model l.prog w) (callerA.deeper (envOfC d.name d.scope s₁.heap.objs.size fa cd)) (execs d.body (envOfC d.name d.scope s₁.heap.objs.size fa cd))
        (fun f s' => f = .ret (.bool true) ∧ (∀ b o, s₁.heap.get? b = some o → s'.heap.get? b = some o) ∧ s'.os = s₁.os ∧ s'.gens = #[]) (fun _ _ => False) s) :
    WalkN q loose XP YP l.row.toRowW d [] (fun f vs => PySem.call f vs) := by
  intro w s₀ s₁ mg mb G Y fa o pm cd doc dV kV ho hd hcd hD hmg hg args vals as hpre hlay hrd hwl hlo
  obtain rfl : dV = .none := Dflts.none hD hdf
  obtain rfl : kV = .none := Dflts.noKw hD
  obtain ⟨a, vs, ns, rfl, rfl, hobj, hints, hlen⟩ := script_of hn hpre hwl
  refine enter_callW ?_
  refine call_cells_ret (o := o) (by rw [depth_caller]; decide) ho (fd_plain hd) G.T.nolimit hcd (hbind pm cd doc (.ref a)) (fun y hy => ?_) (fun h₁ tk F X => ?_) hco hgen hk
  · obtain rfl : y = (x, Value.ref a) := List.mem_singleton.mp hy
    rcases hx with e | e
    · exact .inl e
    · exact .inr ⟨e, cellsFrom_some _ _ _ (.inl e)⟩
  · refine wpAny_mono (body w s₀ s₁ { s₁ with heap := h₁, toks := tk } mg mb fa o pm cd doc a vs ns G Y ho (fd_plain hd) hcd hmg hobj hints hlen hg rfl F X) (fun f s' hq => ?_) (fun _ _ hq => hq)
    obtain ⟨rfl, h2, h3, h4⟩ := hq
    exact ⟨.inl ⟨.bool true, .bool true, [], rfl, fun _ => rfl, .bool true, post_true l _, fun _ => ⟨List.Pairwise.nil, fun _ hm => (nomatch hm)⟩⟩, h2, h3, h4⟩

/-! ### rules over ANY heap (no ledger) from facts about the written part K: the library's own take a ledger (News) for what they write -/
section
variable {prog : Program} {w : World} {A : Around} {E : Value → Shared → Prop} {s : Shared} {K : Frag}

/-- a def of the module, or a method (qual 'C.m'), entered: the frame is the next address; cells behind it -/
theorem call_fn {R : Result → Shared → Prop} {name qual : Str} {params : Arguments} {body : List Stmt} {scope : Scope} {dV kV doc pm cdv ct oc : Value} {an od : Option Addr} {osl : Array (Option Value)} {f : Addr} {args : Args} {binds : List (Str × Value)}
    (X : K.In s.heap) (hlim : s.heap.NoLimit) (ho : K.lookup f = some ⟨oc, od, .func (fnOf name qual params body scope dV kV doc pm an cdv ct), osl⟩) (hcd : codeIn K cdv qual = true) (hroom : A.depth < recursionLimit)
    (hbind : BindsTo s (fnOf name qual params body scope dV kV doc pm an cdv ct) args binds)
    (hkind : (binds.all fun y => scope.names.lookup y.1 == some .local || scope.names.lookup y.1 == some .cell) = true)
    (h : ∀ s₁, InCallC s s.heap.objs.size (bindL (envOfC qual scope s.heap.objs.size f cdv).kindOf binds fun _ => none) (cellsFrom (s.heap.objs.size + 1) scope.names [])
        (bindC (envOfC qual scope s.heap.objs.size f cdv).kindOf binds fun _ => none) s₁ →
      wpAny (model prog w) (A.deeper (envOfC qual scope s.heap.objs.size f cdv)) (execs body (envOfC qual scope s.heap.objs.size f cdv))
        (fun fl s' => R (.ok (.ret (match fl with | .ret v => v | _ => .none))) s')
        (fun e s' => wpAny (model prog w) (A.deeper (envOfC qual scope s.heap.objs.size f cdv)) (leaving (envOfC qual scope s.heap.objs.size f cdv) e) (fun _ s'' => R (.error e) s'') (fun e' s'' => R (.error e') s'') s') s₁)
    (hco : scope.isCoroutine = false) (hgen : scope.isGenerator = false) (hk : scope.kind = .function) : codeAny (model prog w) A (.call (.ref f) args) R s := by
  refine codeAny_call_function hroom (X _ _ ho) rfl hco hgen rfl (codeRec_of X hcd) (hbind _ _ _ _ ?_)
  refine wpAny_newFunctionEnv_cells hk (kindsX hkind _) fun env he s₁ x => ?_
  subst he
  exact ⟨hlim.keeps x.toInCall.keep, codeAny_func (h s₁ x)⟩

/-- C(..): dict at size, instance at size + 1, then __init__ -/
theorem make_obj {R : Result → Shared → Prop} {C fI : Addr} {rest : List Value} {kw : List (Str × Value)}
    (X : K.In s.heap) (hm : makesIn K C = true) (hi : findIn K (.ref C) "__init__" = some (some (.ref fI))) (hf : isFn K (.ref fI) = true)
    (h : codeAny (model prog w) (A.under (.builtin "type.__call__" ⟨.ref C :: rest, kw⟩)) (.call (.ref fI) ⟨.ref (s.heap.objs.size + 1) :: rest, kw⟩) (InitBack (s.heap.objs.size + 1) R)
      { s with heap := (s.heap.push emptyDict).push (instObj C s.heap.objs.size) }) : codeAny (model prog w) A (.call (.ref C) ⟨rest, kw⟩) R s := by
  obtain ⟨hh, g, d, t, os⟩ := s
  exact make_core (makes_of X hm) (looks_findIn X hi) (fun self => bind_fn X self (beq_iff_eq.mp hf)) (.inl rfl) h

/-- x.name where the instance's dict holds the name and the class does not -/
theorem get_field {x C : Addr} {ox : Obj} {es : List DictEntry} {n : Nat} {name : Str} {expr : Bool} {v : Value} {Q : Value → Shared → Prop}
    (X : K.In s.heap) (I : PySem.W.InstAt s.heap x ox C (some (dictOf es n))) (hg : plainGet K C name = true) (hh : hasDictIn K C = true) (ha : findIn K (.ref C) name = some none)
    (hl : getL name es = some (some v)) (hv : handedIn v = true) (h : Q v { s with toks := s.toks + 1 }) : wpAny (model prog w) A (getAttr (.ref x) name expr) Q E s :=
  get_value X I (plainGet_of hg).1 (findObj_own hh ha rfl hl) hv h

/-- x.m(..): the method found in the class -/
theorem get_method {x C f : Addr} {ox : Obj} {es : List DictEntry} {n : Nat} {name : Str} {pl : Sem Bool} {Q : Value × List Value → Shared → Prop}
    (X : K.In s.heap) (I : PySem.W.InstAt s.heap x ox C (some (dictOf es n))) (hg : plainGet K C name = true) (hf : findIn K (.ref C) name = some (some (.ref f))) (ht : isFn K (.ref f) = true)
    (hl : getL name es = some none) (h : Q (.ref f, [.ref x]) s) : wpAny (model prog w) A (getMethod (.ref x) name pl) Q E s :=
  method_fn X I (plainGet_of hg).1 (plainGet_of hg).2 hf (beq_iff_eq.mp ht) (by show (lookIn name (dictOf es n)).map _ = _; rw [lookIn_dict, hl]; rfl) h

/-! the whole heap as the ledger: makes every rule that writes through a ledger a rule over any heap -/
def noObjs (h : Heap) : Heap := { h with objs := #[] }
theorem noObjs_get (h : Heap) (b : Addr) : (noObjs h).get? b = none := by
  cases e : (noObjs h).get? b with
  | none => rfl
  | some o => exact absurd (Heap.lt_size e) (Nat.not_lt_zero _)
def ledger (h : Heap) (L d : Addr) : List (Addr × Obj) := (List.range h.objs.size).filterMap fun a => if a = L ∨ a = d then none else (h.get? a).map fun o => (a, o)
theorem mem_ledger {h : Heap} {L d a : Addr} {o : Obj} : (a, o) ∈ ledger h L d ↔ a ≠ L ∧ a ≠ d ∧ h.get? a = some o := by
  unfold ledger
  rw [List.mem_filterMap]
  constructor
  · rintro ⟨b, _, e⟩
    split at e
    · cases e
    · rename_i hb
      obtain ⟨o', ho, e'⟩ := Option.map_eq_some_iff.mp e
      cases e'
      exact ⟨fun q => hb (.inl q), fun q => hb (.inr q), ho⟩
  · rintro ⟨n1, n2, ho⟩
    refine ⟨a, List.mem_range.mpr (Heap.lt_size ho), ?_⟩
    rw [if_neg (show ¬ (a = L ∨ a = d) from fun q => q.elim n1 n2), ho] <;> rfl
theorem news_ledger {h : Heap} {L d : Addr} {od : Obj} (hne : d ≠ L) (ho : h.get? d = some od) : News (noObjs h) L h ([] ++ (d, od) :: ledger h L d) := by
  rintro ⟨a, o⟩ hp
  rcases List.mem_cons.mp hp with e | hp
  · cases e
    exact ⟨ho, hne, noObjs_get _ _⟩
  · obtain ⟨n1, n2, e⟩ := mem_ledger.mp hp
    exact ⟨e, n1, noObjs_get _ _⟩
theorem fr_all {h : Heap} {L : Addr} {m : Str → Option Value} (n : h.Ns L m) : Fr (noObjs h) L h m :=
  ⟨n, fun b o e => (by rw [noObjs_get] at e; cases e), Nat.zero_le _⟩
/-- Upd of the head entry (for append_K, setItem_K ..) -/
theorem upd_ledger {h : Heap} {L d : Addr} {o o' : Obj} : Upd d o o' ((d, o) :: ledger h L d) ((d, o') :: ledger h L d) :=
  .head fun ⟨_, _⟩ hp => (mem_ledger.mp hp).2.1

/-- x.name = v over any heap: L is any namespace of the heap (the frame's, say): its map stays, its object is not told; all else but the dict stays -/
theorem set_field {x C dx L : Addr} {ox : Obj} {m : Str → Option Value} {es es' : List DictEntry} {n n' : Nat} {name : Str} {v : Value} {Q : Unit → Shared → Prop}
    (X : K.In s.heap) (I : PySem.W.InstAt s.heap x ox C (some (dictOf es n))) (hd : ox.dict = some dx) (hL : s.heap.Ns L m) (hne : dx ≠ L)
    (hs : findIn K (.ref C) "__setattr__" = some (some (.builtin "object.__setattr__"))) (hp : plainOver K C = true) (ht : takerIn K C name = some none) (hh : hasDictIn K C = true) (hl : (getL name es).isSome = true)
    (e : (putL name (PyData.keyHash w.params name) (.str name (s.toks + 1)) v es, putN name es n) = (es', n')) (hz : es'.length ≤ 1000)
    (h : ∀ h' : Heap, h'.Ns L m → h'.get? dx = some (dictOf es' n') → (∀ b o, b ≠ dx → b ≠ L → s.heap.get? b = some o → h'.get? b = some o) → Q () { s with heap := h', toks := s.toks + 2 }) :
    wpAny (model prog w) A (setAttr (.ref x) name v) Q E s := by
  obtain ⟨e1, e2⟩ := Prod.mk.inj e
  have hdx : s.heap.get? dx = some (dictOf es n) := by
    have := I.dict
    rw [hd] at this
    exact this
  refine set_plain X I hs (osa_dict (s := { s with toks := s.toks + 1 }) (h₀ := noObjs s.heap) (L := L) (m := m) (od := dictOf es n) (od' := dictOf es' n') (es := es') (n := n') (pre := []) (post := ledger s.heap L dx)
    (fr_all hL) (news_ledger hne hdx) X I hd hp ht hh hl (fun _ q => nomatch q) (fun ⟨_, _⟩ q => (mem_ledger.mp q).2.1) (by rw [putName_dict, e1, e2]) rfl hz fun h' F' N' => ?_)
  exact h h' F'.ns (N'.get (List.Mem.head _)) fun b o n1 n2 ho => N'.get (List.Mem.tail _ (mem_ledger.mpr ⟨n2, n1, ho⟩))
end
end Att

namespace L2
open PySem PySem.Spec PyProof.Rows

theorem vals_ints : ∀ {vs : List Value} {ns : List Int}, IntsAre vs ns → Vals (ns.map V.int) vs
  | _, _, .nil => .nil
  | _, _, .cons n t h => .cons ⟨t, rfl⟩ (vals_ints h)

/-- nothing is tracked but the script, known to the object (or it is an object of the module) -/
def Only (H : Hp) : Prop := ∀ b, H b = none ∨ ∃ o xs, H b = some (.frz o (.lst xs))

/-- THE HEAD: the law's promise, at the heap behind the top. F, the promise of the law's def, may use that base is part of the heap (so K.In base, base.Ns mainGlobals mg stand in Mod) -/
theorem law_call {P : Program} {w : World} {K : PySem.W.Frag} {mg mb : Str → Option Value} {CX : CXT} {k : Nat} {fa a : Addr} {fd : FuncData} {x : Str} {sp : Sp} {s₁ : Shared} {vs : List Value} {ns : List Int}
    (KX : K.In s₁.heap) (hns : s₁.heap.Ns mainGlobals mg) (hb : s₁.heap.Ns builtinsNs mb) (hbb : ∀ x : Str, x ≠ "__name__" → mb x = bootBuiltins x) (hlim : s₁.heap.NoLimit) (hg : s₁.gens = #[])
    (ha : s₁.heap.get? a = some { cls := .type "list", data := .seq vs.toArray }) (hi : IntsAre vs ns) (hl : ns.length ≤ sizeLine) (hr : Room k callerA)
    (F : ∀ base : Heap, K.In base → base.Ns mainGlobals mg → FnOk P w K mg base CX k fa fd [x] sp) (hbind : ∀ (s : Shared) (u : Value), BindsTo s fd ⟨[u], []⟩ [(x, u)])
    (hsp : ∀ H : Hp, Only H → SqL K H a (ns.map V.int) → sp [.ref a] H (fun v _ => v = .bl true) fun _ _ _ => False)
    (hCX : ∀ H e s', CX [] H s₁ (fun _ _ _ => False) e s' → False) :
    codeAny (model P w) callerA (.call (.ref fa) ⟨[.ref a], []⟩) (fun r s' => r = .ok (.ret (.bool true)) ∧ OldK s₁.heap s'.heap ∧ s'.os = s₁.os ∧ AllBare s'.gens) s₁ := by
  have rv := vals_ints hi
  have lenV := hi.length
  -- from an abstract heap in which nothing but the script may be tracked
  have core : ∀ H : Hp, Only H → SqL K H a (ns.map V.int) → HOk P w H s₁.heap → (∀ b, H b ≠ none → b = a) → (H a ≠ none → K.lookup a = none) →
      codeAny (model P w) callerA (.call (.ref fa) ⟨[.ref a], []⟩) (fun r s' => r = .ok (.ret (.bool true)) ∧ OldK s₁.heap s'.heap ∧ s'.os = s₁.os ∧ AllBare s'.gens) s₁ := by
    intro H hO hS hok hA hK
    have base_of : ∀ {b : Addr} {o : Obj}, s₁.heap.get? b = some o → H b = none → (hidT s₁.heap H).get? b = some o := fun e n => hidT_get e n
    have noA : ∀ {b : Addr} {o : Obj} {es : Array DictEntry} {ep : Nat}, s₁.heap.get? b = some o → o.data = .dict es ep → H b = none := fun {b o es ep} e d => by
      cases q : H b with
      | none => rfl
      | some u =>
        have e' : b = a := hA b (by rw [q]; simp)
        subst e'
        rw [ha] at e; cases e
        have d' : Data.seq vs.toArray _ = Data.dict es ep := d
        cases d'
    have nsK : ∀ {b : Addr} {m : Str → Option Value}, s₁.heap.Ns b m → (hidT s₁.heap H).Ns b m := fun {b m} ⟨o, es, ep, e, d, r⟩ => ⟨o, es, ep, base_of e (noA e d), d, r⟩
    have hKb : K.In (hidT s₁.heap H) := fun b o e => base_of (KX b o e) (by
      cases q : H b with
      | none => rfl
      | some u =>
        have e' : b = a := hA b (by rw [q]; simp)
        subst e'
        rw [hK (by rw [q]; simp)] at e; cases e)
    have hM : Mod K mg (hidT s₁.heap H) := ⟨hKb, nsK hns, ⟨mb, nsK hb, hbb⟩, let ⟨mc, h1, h2⟩ := hlim; ⟨mc, nsK h1, h2⟩⟩
    have e0 : Env0 P w K mg (hidT s₁.heap H) callerA [] s₁ H := ⟨rfl, hM, fun b o e => of_hidT e, Nat.le_of_eq (hidT_size _ _), trivial, fun b hb => absurd (show b ∈ ([] : List Addr) from hb) (by simp), hok, .of_eq hg⟩
    refine codeAny_mono ((F _ hKb (nsK hns)).run callerA [] s₁ H ⟨[.ref a], []⟩ [.ref a] [.ref a] _ _ hr e0 (hbind s₁ (.ref a)) (.cons rfl .nil) (hsp H hO hS)) fun r s' h => ?_
    cases r with
    | error e => exact (hCX H e s' h).elim
    | ok fl =>
      cases fl with
      | next => exact False.elim h
      | brk => exact False.elim h
      | cont => exact False.elim h
      | ret u =>
        obtain ⟨v, H', os, bare, un, hok', r', q⟩ := h
        have q' : v = .bl true := q
        subst q'
        obtain rfl : u = Value.bool true := r'
        refine ⟨rfl, OldK.of_keep fun b o e => ?_, os, bare⟩
        cases q : H b with
        | none => exact un.keep b o e q (by intro z; exact absurd (show b ∈ ([] : List Addr) from z) (by simp)) (by simp)
        | some u =>
          rcases hO b with z | ⟨ob, xs, z⟩
          · rw [q] at z; cases z
          · have z2 := un.frzs b ob _ z
            obtain ⟨e1, _⟩ := hok b _ z
            obtain ⟨e2, _⟩ := hok' b _ z2
            rw [e] at e1; cases e1
            exact e2
  cases hk : K.lookup a with
  | some o =>
    -- the script is one of the module's own objects
    have e := KX a o hk
    rw [ha] at e
    cases e
    refine core (fun _ => none) (fun _ => .inl rfl) (.inr ⟨_, vs.toArray, _, hk, rfl, rfl, rfl, by rw [List.size_toArray, lenV]; exact hl, by simpa using rv⟩) (fun b u z => by have z' : (none : Option HO) = some u := z; cases z') (fun b z => absurd rfl z) fun z => absurd rfl z
  | none =>
    refine core (fun b => if b = a then some (.frz { cls := .type "list", data := .seq vs.toArray } (.lst (ns.map V.int))) else none) (fun b => ?_) (.inl (.inr ⟨{ cls := .type "list", data := .seq vs.toArray }, if_pos rfl⟩)) (fun b u z => ?_) (fun b z => ?_) fun _ => hk
    · by_cases hb : b = a
      · exact .inr ⟨_, _, if_pos hb⟩
      · exact .inl (if_neg hb)
    · by_cases hb : b = a
      · have z' := (if_pos hb).symm.trans z
        cases z'
        subst hb
        exact ⟨ha, by rw [List.length_map]; exact hl, vs, _, rv, ha⟩
      · have z' := (if_neg hb).symm.trans z
        cases z'
    · by_cases hb : b = a
      · exact hb
      · exact absurd (if_neg hb) z
end L2

namespace L2
open PySem PySem.Spec PyProof.Rows

abbrev KOf {K : PySem.W.Frag} {h : Heap} (_ : K.In h) : PySem.W.Frag := K

/-- the goal that k_head leaves (case hc), from the law's promise. F gives the function object fd (K's own) once, then the promise over every base -/
theorem walk_of {l : PySem.W.OpenLaw} {n k : Nat} {q : Program} {loose : List Str} {XP : (Str → Option Value) → Heap → Prop} {YP : World → Heap → Prop} {d : DefRec} {K : Params → PySem.W.Frag} {CX : World → CXT} {sp : World → Sp} {x : Str}
    (hn : l.most = some n) (hn2 : n ≤ sizeLine) (hdf : d.params.defaults = []) (hr : Room k callerA)
    (hY : ∀ (w : World) (h : Heap), YP w h → (K w.params).In h)
    (F : ∀ (w : World) (mg : Str → Option Value) (fa : Addr) (h : Heap), (K w.params).In h → h.Ns mainGlobals mg → mg d.name = some (.ref fa) →
      ∃ fd : FuncData, (∀ (s : Shared) (u : Value), BindsTo s fd ⟨[u], []⟩ [(x, u)]) ∧
        ∀ base : Heap, (K w.params).In base → base.Ns mainGlobals mg → FnOk l.prog w (K w.params) mg base (CX w) k fa fd [x] (sp w))
    (hsp : ∀ (w : World) (H : Hp) (a : Addr) (ns : List Int), ns.length ≤ n → Only H → SqL (K w.params) H a (ns.map V.int) → sp w [.ref a] H (fun v _ => v = .bl true) fun _ _ _ => False)
    (hCX : ∀ (w : World) (H : Hp) (s : Shared) (e : Value) (s' : Shared), CX w [] H s (fun _ _ _ => False) e s' → False) :
    PySem.W.WalkO q loose XP YP l.row.toRowW d [] (fun f vs => PySem.call f vs) := by
  refine Att.attach_call hn hdf fun w s₀ s₁ mg mb fa o pm cd doc a vs ns G Y ho hd hcd hmg hobj hints hlen hg => ?_
  have KX := hY w _ Y
  obtain ⟨fd, hb, hF⟩ := F w mg fa _ KX G.T.g hmg
  exact law_call KX G.T.g G.T.b G.T.builtins G.T.nolimit hg hobj hints (Nat.le_trans hlen hn2) hr hF hb (fun H hO hS => hsp w H a ns hlen hO hS) fun H e s' => hCX w H s₁ e s'
/-- the same where the promise hangs on the written part alone: (sp := My.sp_law), no hole under a binder -/
theorem walk_ofK {l : PySem.W.OpenLaw} {n k : Nat} {q : Program} {loose : List Str} {XP : (Str → Option Value) → Heap → Prop} {YP : World → Heap → Prop} {d : DefRec} {K : Params → PySem.W.Frag} {CX : CXT} {sp : PySem.W.Frag → Sp} {x : Str}
    (hn : l.most = some n) (hn2 : n ≤ sizeLine) (hdf : d.params.defaults = []) (hr : Room k callerA)
    (hY : ∀ (w : World) (h : Heap), YP w h → (K w.params).In h)
    (F : ∀ (w : World) (mg : Str → Option Value) (fa : Addr) (h : Heap), (K w.params).In h → h.Ns mainGlobals mg → mg d.name = some (.ref fa) →
      ∃ fd : FuncData, (∀ (s : Shared) (u : Value), BindsTo s fd ⟨[u], []⟩ [(x, u)]) ∧
        ∀ base : Heap, (K w.params).In base → base.Ns mainGlobals mg → FnOk l.prog w (K w.params) mg base CX k fa fd [x] (sp (K w.params)))
    (hsp : ∀ (K : PySem.W.Frag) (H : Hp) (a : Addr) (ns : List Int), ns.length ≤ n → Only H → SqL K H a (ns.map V.int) → sp K [.ref a] H (fun v _ => v = .bl true) fun _ _ _ => False)
    (hCX : ∀ (H : Hp) (s : Shared) (e : Value) (s' : Shared), CX [] H s (fun _ _ _ => False) e s' → False) :
    PySem.W.WalkO q loose XP YP l.row.toRowW d [] (fun f vs => PySem.call f vs) :=
  walk_of (K := K) (CX := fun _ => CX) (sp := fun w => sp (K w.params)) hn hn2 hdf hr hY F (fun w H a ns h1 h2 h3 => hsp (K w.params) H a ns h1 h2 h3) fun _ H s e s' => hCX H s e s'
end L2

/- THE LAST THEOREM (shape; LID, My.* are yours):
   My.Adr: a structure of the addresses that your layer names (classes, functions); My.Txt K t: a structure (Prop) of the equations over K;
   My.txt_mk : {K} {implicit addresses ..} (e1 : nsIn K mainGlobals "law" = some (some (.ref f))) (e2 : K.lookup f = some ⟨oc, od, .func (fnOf "law" "law" params body scope dV kV doc pm an cdv ct), sl⟩) (e3 : codeIn K cdv "law" = true) .. : ∃ t, My.Txt K t

set_option maxRecDepth 100000 in
set_option maxHeartbeats 0 in
theorem PySem.Challenge.cw_LID_holds : PySem.Challenge.rw_LID.Holds := by
  w_on; o_law; k_head; (case hw => w_witness2)
  k_fill
  refine L2.walk_of (l := PySem.Challenge.rw_LID) (n := 63) (k := 40) (x := "script") (CX := fun w => ..) (sp := fun _ => My.sp_law) rfl (by decide) rfl ⟨rfl, by decide, by decide⟩ (fun w h Y => PySem.W.kIn_of Y) ?F ?S ?C
  case F =>
    intro w mg fa h KX G hmg
    have T : ∃ t, My.Txt (L2.KOf KX) t := by
      dsimp only [L2.KOf]                          -- K must stand as «<heap const> w.params» for k_is
      refine' My.txt_mk ?e1 ?e2 ?e3 ..
      (case e1 => PySem.W.k_is)                    -- in the order: a name -> its address -> its object -> its parts
      (case e2 => PySem.W.k_is)
      ..
    obtain ⟨t, T⟩ := T
    have e0 := hmg.symm.trans (PySem.W.mg_of KX G T.law)
    cases e0                                       -- fa is the law's own address
    exact ⟨_, fun s u => .of_eq rfl, fun base kb nb => My.law_fn T kb nb⟩     -- if «.of_eq rfl» comes too early: refine' ⟨_, ?b, fun base kb nb => My.law_fn T kb nb⟩; exact fun s u => .of_eq rfl
  case S => exact fun w H a ns hl hO hS => ..
  case C => exact ..
(the tactic k_is has no namespace: write k_is) -/

/-! SHORT WORDS over the layer: a def of the text, its body, what a loop and a test want. -/
namespace L2
open PySem PySem.Spec PyProof.Rows

/-! ### the text by places -/
/-- the j-th statement of a class's body -/
def inClass (s : Stmt) (j : Nat) : Stmt := match s with
  | .ClassDef _ _ _ body _ _ _ _ _ _ _ => body.getD j (.Pass ⟨0, 0, 0, 0⟩)
  | _ => .Pass ⟨0, 0, 0, 0⟩
def defArgs (s : Stmt) : Arguments := match s with
  | .FunctionDef _ a _ _ _ _ _ _ _ _ => a
  | _ => { posonlyargs := [], args := [], vararg := none, kwonlyargs := [], kw_defaults := [], kwarg := none, defaults := [] }
def defBody (s : Stmt) : List Stmt := match s with
  | .FunctionDef _ _ b _ _ _ _ _ _ _ => b
  | _ => []
def defScope (s : Stmt) : Scope := match s with
  | .FunctionDef _ _ _ _ _ _ sc _ _ _ => sc
  | _ => { kind := .function, names := [], isGenerator := false, isCoroutine := false }

/-! ### no exception leaves a def -/
abbrev CX0 : CXT := fun _ _ _ _ _ _ => False
abbrev E0 : XK := fun _ _ _ => False
theorem pass0 {X : Cx} : Passes CX0 X E0 := fun _ _ _ _ _ _ _ h => h.elim

/-! ### a def (or method) of the text as it stands behind the top -/
structure Fun (K : PySem.W.Frag) (x qual : Str) (st : Stmt) (f : Addr) (fd : FuncData) : Prop where
  ex : ∃ (oc : Value) (od : Option Addr) (kV doc pm : Value) (an : Option Addr) (cdv ct : Value) (osl : Array (Option Value)),
    fd = PySem.W.fnOf x qual (defArgs st) (defBody st) (defScope st) .none kV doc pm an cdv ct ∧ K.lookup f = some ⟨oc, od, .func fd, osl⟩ ∧ PySem.W.codeIn K cdv qual = true
  kp : PySem.W.keepIn K (.ref f) = true
section
variable {P : Program} {w : World} {K : PySem.W.Frag} {mg : Str → Option Value} {base : Heap}
/-- THE RULE for a def: its body as a term of rules, and the reading of that term -/
theorem Fun.ok {x qual : Str} {st : Stmt} {f : Addr} {fd : FuncData} {N ps : List Str} {k : Nat} {sp : Sp} (F : Fun K x qual st f fd) (S : FnScope N ps (defScope st)) (len : ∀ vs H Q E, sp vs H Q E → vs.length = ps.length)
    (hbody : ∀ (cdv : Value) (A : Around) (outer : List Env) (s : Shared) (H : Hp) (vs : List V) (Q : VK) (E : XK), Room k (A.deeper (envOfC qual (defScope st) s.heap.objs.size f cdv)) → sp vs H Q E →
      ∃ t, PSs (cxOf CX0 P w K mg base N qual (defScope st) f cdv A outer s H E).nox (defBody st) t ∧ t { nx := fun _ H' => Q .non H', rt := Q } (start N vs) H) : FnOk P w K mg base CX0 (k + 1) f fd ps sp := by
  obtain ⟨oc, od, kV, doc, pm, an, cdv, ct, osl, rfl, lk, hcd⟩ := F.ex
  refine fn_of lk hcd S len fun A outer s H vs Q E hr hsp => ?_
  obtain ⟨t, h, q⟩ := hbody cdv A outer s H vs Q E hr hsp
  exact ⟨t, h.nox, q⟩
/-- how its arguments bind (no defaults): h is «fun _ _ _ _ _ _ us hl => match us, hl with | [_, _], _ => rfl», one _ a parameter -/
theorem Fun.binds {x qual : Str} {st : Stmt} {f : Addr} {fd : FuncData} {ps : List Str} (F : Fun K x qual st f fd)
    (h : ∀ (kV doc pm : Value) (an : Option Addr) (cdv ct : Value) (us : List Value), us.length = ps.length → bindArgs (PySem.W.fnOf x qual (defArgs st) (defBody st) (defScope st) .none kV doc pm an cdv ct) ⟨us, []⟩ = pure (ps.zip us)) : Binds K fd ps [] := by
  obtain ⟨oc, od, kV, doc, pm, an, cdv, ct, osl, rfl, lk, hcd⟩ := F.ex
  exact .all (h kV doc pm an cdv ct)
theorem fun_mk {x qual : Str} {st : Stmt} {f : Addr} {oc : Value} {od an : Option Addr} {osl : Array (Option Value)} {kV doc pm cdv ct : Value} (l : K.lookup f = some ⟨oc, od, .func (PySem.W.fnOf x qual (defArgs st) (defBody st) (defScope st) .none kV doc pm an cdv ct), osl⟩)
    (c : PySem.W.codeIn K cdv qual = true) (k : PySem.W.keepIn K (.ref f) = true) : Fun K x qual st f (PySem.W.fnOf x qual (defArgs st) (defBody st) (defScope st) .none kV doc pm an cdv ct) := ⟨⟨oc, od, kV, doc, pm, an, cdv, ct, osl, rfl, l, c⟩, k⟩
end
theorem hu_of {A : Around} {k : Nat} (hr : Room k A) : A.units + 1 < cLine := Nat.lt_of_le_of_lt (Nat.add_le_add_left (by decide : 1 ≤ 64) _) hr.units
theorem small1000 {n : Nat} (h : n ≤ 1000) : n < sizeLine := Nat.lt_of_le_of_lt h (by decide)

/-! ### expressions in short: the name that stands in the i-th slot -/
section
variable {X : Cx}
theorem pv (i : Nat) {x : Str} {pos : Pos} (hN : X.N[i]? = some x := by rfl) (hv : Vis X.env.scope x := by first | exact Or.inl rfl | exact Or.inr (Or.inl rfl) | exact Or.inr (Or.inr rfl)) (hd : (x == ("__debug__" : Str)) = false := by decide)
    (hcd : (x == ("__classdict__" : Str)) = false := by decide) : PE X (.Name x pos) (tVar i) := pe_var hN hv hd hcd
end

/-! ### tests -/
theorem iteF {A B : Prop} (h : B) : if false = true then A else B := by
  rw [if_neg Bool.false_ne_true]
  exact h
theorem iteT {A B : Prop} (h : A) : if true = true then A else B := by
  rw [if_pos rfl]
  exact h
theorem ite2 {c A B : Prop} [Decidable c] (h1 : c → A) (h2 : ¬ c → B) : if c then A else B := by
  by_cases h : c
  · rw [if_pos h]
    exact h1 h
  · rw [if_neg h]
    exact h2 h
theorem iteNS {c A B : Prop} [Decidable c] (hc : c) (h : B) : if (!decide c) = true then A else B := by
  rw [decide_eq_true hc]
  exact iteF h

/-! ### heaps -/
/-- all that was tracked is as it was -/
def Same (H H' : Hp) : Prop := ∀ b o, H b = some o → H' b = some o
theorem Same.refl (H : Hp) : Same H H := fun _ _ h => h
theorem Same.trans {H H1 H2 : Hp} (a : Same H H1) (b : Same H1 H2) : Same H H2 := fun c o h => b c o (a c o h)
theorem Same.free {H H' : Hp} (e : Same H H') {l : Addr} (h : H' l = Option.none) : H l = Option.none := by
  cases q : H l with
  | none => rfl
  | some o =>
    rw [e l o q] at h
    cases h
theorem Same.seq {K : PySem.W.Frag} {H H' : Hp} {a : Addr} {xs : List V} (e : Same H H') (h : SqL K H a xs) : SqL K H' a xs := by
  rcases h with (h | ⟨o, h⟩) | h
  · exact .inl (.inl (e _ _ h))
  · exact .inl (.inr ⟨o, e _ _ h⟩)
  · exact .inr h

end L2

namespace Zm
/-! ### gcd by Python's loops; lowest terms -/
theorem gcd_fmod (a b : Int) : Int.gcd b (a.fmod b) = Int.gcd a b := by
  rw [Int.fmod_def, Int.gcd_comm a b, Int.mul_comm]
  exact Int.gcd_sub_mul_right_right b a (a.fdiv b)
theorem fmod_less (a : Int) {b : Int} (h : b ≠ 0) : (a.fmod b).natAbs < b.natAbs := by
  rcases Int.lt_or_gt_of_ne h with hb | hb
  · have e : a.fmod b = -((-a).fmod (-b)) := by rw [Int.neg_fmod_neg, Int.neg_neg]
    have h1 := Int.fmod_nonneg_of_pos (-a) (show 0 < -b by omega)
    have h2 := Int.fmod_lt_of_pos (-a) (show 0 < -b by omega)
    omega
  · have h1 := Int.fmod_nonneg_of_pos a hb
    have h2 := Int.fmod_lt_of_pos a hb
    omega
/-- the greatest divisor, as an int -/
def gd (a b : Int) : Int := (Int.gcd a b : Nat)
theorem gd_end {a b a0 b0 : Int} (hg : gd a b = gd a0 b0) (hb : b = 0) : (if a < 0 then -a else a) = gd a0 b0 := by
  subst hb
  rw [← hg]
  unfold gd
  rw [Int.gcd_zero_right]
  split <;> omega
theorem gd_turn {a b a0 b0 : Int} (hg : gd a b = gd a0 b0) : gd b (a.fmod b) = gd a0 b0 := by
  rw [← hg]
  unfold gd
  rw [gcd_fmod]
theorem gd_abs (a b : Int) : gd (if a < 0 then -a else a) (if b < 0 then -b else b) = gd a b := by
  unfold gd
  have e1 : Int.gcd (if a < 0 then -a else a) (if b < 0 then -b else b) = Int.gcd a b := by
    split <;> split <;> simp [Int.gcd_neg, Int.neg_gcd]
  rw [e1]
theorem gd_pos {a b : Int} (h : b ≠ 0) : 0 < gd a b := by
  unfold gd
  have := Int.gcd_pos_of_ne_zero_right a h
  omega
theorem gd_le {a b : Int} (h : 0 < b) : gd a b ≤ b := by
  unfold gd
  exact Int.le_of_dvd h (Int.gcd_dvd_right a b)
theorem gd_le' {a b : Int} (h : b ≠ 0) : gd a b ≤ b.natAbs := by
  unfold gd
  have h2 : (Int.gcd a b : Int) ∣ ((b.natAbs : Nat) : Int) := Int.dvd_natAbs.mpr (Int.gcd_dvd_right a b)
  exact Int.le_of_dvd (by omega) h2
/-- a fraction's lowest terms -/
def lt (t b : Int) : Int := t.fdiv (gd t b)
def lb (t b : Int) : Int := b.fdiv (gd t b)
theorem fdiv_exact {x g : Int} (hg : g ≠ 0) (h : g ∣ x) : x.fdiv g * g = x := by
  rw [Int.mul_comm]; exact Int.mul_fdiv_cancel' h
theorem lt_mul {t b : Int} (h : b ≠ 0) : lt t b * gd t b = t := by
  unfold lt
  exact fdiv_exact (by have := gd_pos (a := t) h; omega) (Int.gcd_dvd_left t b)
theorem lb_mul {t b : Int} (h : b ≠ 0) : lb t b * gd t b = b := by
  unfold lb
  exact fdiv_exact (by have := gd_pos (a := t) h; omega) (Int.gcd_dvd_right t b)
theorem lb_pos {t b : Int} (h : 0 < b) : 0 < lb t b := by
  have h1 := lb_mul (t := t) (show b ≠ 0 by omega)
  have h2 := gd_pos (a := t) (show b ≠ 0 by omega)
  rcases Int.lt_or_le 0 (lb t b) with q | q
  · exact q
  · have := Int.mul_nonpos_of_nonpos_of_nonneg q (Int.le_of_lt h2)
    omega
theorem abs_le_mul {x g : Int} (h : 0 < g) : x.natAbs ≤ (x * g).natAbs := by
  rw [Int.natAbs_mul]
  exact Nat.le_mul_of_pos_right _ (by omega)
theorem lb_le {t b : Int} (h : 0 < b) : lb t b ≤ b := by
  have h1 := lb_mul (t := t) (show b ≠ 0 by omega)
  have h2 := abs_le_mul (x := lb t b) (gd_pos (a := t) (show b ≠ 0 by omega))
  have h3 := lb_pos (t := t) h
  omega
theorem lt_abs {t b : Int} (h : b ≠ 0) : (lt t b).natAbs ≤ t.natAbs := by
  have h1 := lt_mul (t := t) h
  have h2 := abs_le_mul (x := lt t b) (gd_pos (a := t) h)
  omega
theorem gd_low {t b : Int} (h : b ≠ 0) : gd (lt t b) (lb t b) = 1 := by
  have hp := gd_pos (a := t) h
  unfold lt lb gd
  have hp' : 0 < Int.gcd t b := by unfold gd at hp; omega
  have e := Int.gcd_ediv_gcd_ediv_gcd hp'
  rw [Int.fdiv_eq_ediv_of_nonneg _ (Int.natCast_nonneg _), Int.fdiv_eq_ediv_of_nonneg _ (Int.natCast_nonneg _), e]
  rfl
/-- cross products -/
theorem cross {t b g T B : Int} (hg : 0 < g) (ht : T * g = t) (hb : B * g = b) : T * b = t * B := by
  rw [← ht, ← hb, Int.mul_assoc, Int.mul_comm g B]
/-- order through a common factor -/
theorem lt_of_mul {x y g : Int} (hg : 0 < g) (h : x * g < y * g) : x < y := Int.lt_of_mul_lt_mul_right h (Int.le_of_lt hg)
theorem le_of_mul {x y g : Int} (hg : 0 < g) (h : x * g ≤ y * g) : x ≤ y := Int.le_of_mul_le_mul_right h hg
/-- a value below a number n: n * b0 less something -/
theorem low_lt {n t0 b0 : Int} (hb : 0 < b0) (h : t0 < n * b0) : lt t0 b0 < n * lb t0 b0 := by
  refine lt_of_mul (gd_pos (a := t0) (show b0 ≠ 0 by omega)) ?_
  rw [lt_mul (show b0 ≠ 0 by omega), Int.mul_assoc, lb_mul (show b0 ≠ 0 by omega)]
  exact h
theorem low_le {n t0 b0 : Int} (hb : 0 < b0) (h : t0 ≤ n * b0) : lt t0 b0 ≤ n * lb t0 b0 := by
  refine le_of_mul (gd_pos (a := t0) (show b0 ≠ 0 by omega)) ?_
  rw [lt_mul (show b0 ≠ 0 by omega), Int.mul_assoc, lb_mul (show b0 ≠ 0 by omega)]
  exact h
theorem low_gt {n t0 b0 : Int} (hb : 0 < b0) (h : n * b0 < t0) : n * lb t0 b0 < lt t0 b0 := by
  refine lt_of_mul (gd_pos (a := t0) (show b0 ≠ 0 by omega)) ?_
  rw [lt_mul (show b0 ≠ 0 by omega), Int.mul_assoc, lb_mul (show b0 ≠ 0 by omega)]
  exact h
/-- sums below the sum of two numbers -/
theorem sum_le {n m t b u c : Int} (hb : 0 < b) (hc : 0 < c) (h1 : t ≤ n * b) (h2 : u ≤ m * c) : t * c + u * b ≤ (n + m) * (b * c) := by
  have e1 := Int.mul_le_mul_of_nonneg_right h1 (Int.le_of_lt hc)
  have e2 := Int.mul_le_mul_of_nonneg_right h2 (Int.le_of_lt hb)
  have e3 : (n + m) * (b * c) = n * b * c + m * c * b := by
    rw [Int.add_mul, Int.mul_assoc, Int.mul_assoc, Int.mul_comm c b]
  omega
theorem sum_lt {n m t b u c : Int} (hb : 0 < b) (hc : 0 < c) (h1 : t ≤ n * b) (h2 : u ≤ m * c) (h : t < n * b ∨ u < m * c) : t * c + u * b < (n + m) * (b * c) := by
  have e1 := Int.mul_le_mul_of_nonneg_right h1 (Int.le_of_lt hc)
  have e2 := Int.mul_le_mul_of_nonneg_right h2 (Int.le_of_lt hb)
  have e3 : (n + m) * (b * c) = n * b * c + m * c * b := by
    rw [Int.add_mul, Int.mul_assoc, Int.mul_assoc, Int.mul_comm c b]
  rcases h with h | h
  · have := Int.mul_lt_mul_of_pos_right h hc
    omega
  · have := Int.mul_lt_mul_of_pos_right h hb
    omega
/-- sizes of products -/
theorem mul_abs {x y : Int} {m n : Nat} (hx : x.natAbs ≤ m) (hy : y.natAbs ≤ n) : (x * y).natAbs ≤ m * n := by
  rw [Int.natAbs_mul]
  exact Nat.mul_le_mul hx hy
/-! ### lowest terms with the sign on top -/
def sg (t b : Int) : Int := if b < 0 then -(gd t b) else gd t b
def ft (t b : Int) : Int := t.fdiv (sg t b)
def fb (t b : Int) : Int := b.fdiv (sg t b)
theorem sg_ne {t b : Int} (h : b ≠ 0) : sg t b ≠ 0 := by
  have := gd_pos (a := t) h
  unfold sg
  split <;> omega
theorem sg_dvd_l (t b : Int) : sg t b ∣ t := by
  unfold sg
  split
  · exact Int.neg_dvd.mpr (Int.gcd_dvd_left t b)
  · exact Int.gcd_dvd_left t b
theorem sg_dvd_r (t b : Int) : sg t b ∣ b := by
  unfold sg
  split
  · exact Int.neg_dvd.mpr (Int.gcd_dvd_right t b)
  · exact Int.gcd_dvd_right t b
theorem ft_mul {t b : Int} (h : b ≠ 0) : ft t b * sg t b = t := fdiv_exact (sg_ne h) (sg_dvd_l t b)
theorem fb_mul {t b : Int} (h : b ≠ 0) : fb t b * sg t b = b := fdiv_exact (sg_ne h) (sg_dvd_r t b)
theorem fb_pos {t b : Int} (h : b ≠ 0) : 0 < fb t b := by
  have h1 := fb_mul (t := t) h
  have h2 := gd_pos (a := t) h
  rcases Int.lt_or_le 0 (fb t b) with q | q
  · exact q
  · exfalso
    by_cases hb : b < 0
    · have e : sg t b = -(gd t b) := if_pos hb
      have := Int.mul_nonneg_of_nonpos_of_nonpos q (show sg t b ≤ 0 by omega)
      omega
    · have e : sg t b = gd t b := if_neg hb
      have := Int.mul_nonpos_of_nonpos_of_nonneg q (show 0 ≤ sg t b by omega)
      omega
theorem sg_abs (t b : Int) : (sg t b).natAbs = Int.gcd t b := by
  unfold sg gd
  split <;> omega
theorem gd_f {t b : Int} (h : b ≠ 0) : gd (ft t b) (fb t b) = 1 := by
  have h1 := ft_mul (t := t) h
  have h2 := fb_mul (t := t) h
  have h3 : Int.gcd (ft t b * sg t b) (fb t b * sg t b) = Int.gcd (ft t b) (fb t b) * (sg t b).natAbs := Int.gcd_mul_right _ _ _
  rw [h1, h2, sg_abs] at h3
  have h4 : 0 < Int.gcd t b := Int.gcd_pos_of_ne_zero_right t h
  have h5 : Int.gcd (ft t b) (fb t b) = 1 := Nat.eq_of_mul_eq_mul_right h4 (by omega)
  unfold gd
  rw [h5]
  rfl
theorem f_cross {t b : Int} (h : b ≠ 0) : ft t b * b = t * fb t b := by
  have h1 := ft_mul (t := t) h
  have h2 := fb_mul (t := t) h
  have e : ft t b * (fb t b * sg t b) = ft t b * sg t b * fb t b := by rw [Int.mul_assoc, Int.mul_comm (sg t b)]
  rw [h1, h2] at e
  exact e
theorem abs_mul_ne {x g : Int} (h : g ≠ 0) : x.natAbs ≤ (x * g).natAbs := by
  rw [Int.natAbs_mul]
  exact Nat.le_mul_of_pos_right _ (by omega)
theorem ft_abs {t b : Int} (h : b ≠ 0) : (ft t b).natAbs ≤ t.natAbs := by
  have h1 := abs_mul_ne (x := ft t b) (sg_ne (t := t) h)
  rw [ft_mul h] at h1
  exact h1
theorem fb_abs {t b : Int} (h : b ≠ 0) : (fb t b).natAbs ≤ b.natAbs := by
  have h1 := abs_mul_ne (x := fb t b) (sg_ne (t := t) h)
  rw [fb_mul h] at h1
  exact h1
end Zm

/-! ### own rules over the hand layer: sizes, products, quotients, «is True», isinstance -/
namespace Zw
open PySem PySem.Spec PyProof.Rows L2

def Sm (i : Int) : Prop := -(10 ^ 70) < i ∧ i < 10 ^ 70
theorem Sm.nat {i : Int} (h : Sm i) : i.natAbs < 10 ^ 70 := by
  unfold Sm at h
  omega
theorem pow300 : 10 ^ 70 ≤ 2 ^ 300 := by decide +kernel
theorem Sm.log {i : Int} (h : Sm i) : i.natAbs.log2 < 300 := by
  by_cases z : i.natAbs = 0
  · rw [z]
    decide
  · exact (Nat.log2_lt z).mpr (Nat.lt_of_lt_of_le h.nat pow300)
theorem Sm.bits {i : Int} (h : Sm i) : Builtin.Int.intBits i ≤ 2 ^ 20 := by
  have q := h.log
  have e20 : (2 : Nat) ^ 20 = 1048576 := by decide
  unfold Builtin.Int.intBits
  split <;> omega
theorem Sm.of {i : Int} (h1 : -(10 ^ 70) < i) (h2 : i < 10 ^ 70) : Sm i := ⟨h1, h2⟩
theorem Sm.abs {i : Int} {m : Nat} (h : i.natAbs ≤ m) (hm : m < 10 ^ 70) : Sm i := by
  constructor <;> omega
section
variable {X : Cx}
theorem op_mulS : OpR X (binaryOp .Mult) (rI (fun i j => Sm i ∧ Sm j) fun i j => .int (i * j)) := opI fun _ _ _ _ _ _ _ hc q => mul_int q (.of_bits hc.1.bits hc.2.bits)
theorem op_fdivL : OpR X (binaryOp .FloorDiv) (rI (fun _ j => j ≠ 0 ∧ Sm j) fun i j => .int (i.fdiv j)) :=
  opI fun _ _ _ _ _ _ _ hc q => floordiv_int hc.1 q (.inl (PyProof.noPylong_of_log2 (Nat.lt_trans hc.2.log (by decide))))
theorem isB_val {x : V} {v : Value} {b : Bool} (r : RelV x v) : PySem.plainIs v (.bool b) = true ∧ (v == Value.bool b) = decide (x = V.bl b) := by
  cases x with
  | non => cases r; exact ⟨rfl, by simp⟩
  | bl c => cases r; exact ⟨rfl, by cases c <;> cases b <;> simp⟩
  | int i => obtain ⟨t, rfl⟩ := r; exact ⟨rfl, by simp⟩
  | str i => obtain ⟨t, rfl⟩ := r; exact ⟨rfl, by simp⟩
  | byt i => obtain ⟨t, rfl⟩ := r; exact ⟨rfl, by simp⟩
  | flt i => obtain ⟨t, rfl⟩ := r; exact ⟨rfl, by simp⟩
  | ref i => cases r; exact ⟨rfl, by simp⟩
  | ty i => cases r; exact ⟨rfl, by simp⟩
/-- is True, is False -/
theorem op_isB : OpR X (compareOp .Is) (fun x y H Q => ∃ b, y = .bl b ∧ Q (.bl (decide (x = .bl b))) H) := by
  intro pins s σ H x y v u Q I rx ry h
  obtain ⟨b, rfl, q⟩ := h
  cases ry
  obtain ⟨e1, e2⟩ := isB_val (b := b) rx
  exact wpAny_is_plain e1 (fin_bl I q e2.symm)
theorem op_notB : OpR X (compareOp .IsNot) (fun x y H Q => ∃ b, y = .bl b ∧ Q (.bl (!decide (x = .bl b))) H) := by
  intro pins s σ H x y v u Q I rx ry h
  obtain ⟨b, rfl, q⟩ := h
  cases ry
  obtain ⟨e1, e2⟩ := isB_val (b := b) rx
  exact wpAny_isNot_plain e1 (fin_bl I q (by rw [e2]))
/-- isinstance(x, T), T a built-in type -/
theorem call_isT {c : String} : CallR X (.builtin "isinstance") (fun xs H Q => ∃ x t b, xs = [x, .ty c] ∧ TyOf X.K H x t ∧ PySem.W.kitOne X.K t (.type c) = some b ∧ Q (.bl b) H) := by
  intro pins s σ H xs us Q I r h
  obtain ⟨x, t, b, rfl, ty, e, q⟩ := h
  obtain ⟨u, w', rfl, rx, ry⟩ := vals2 r
  cases ry
  exact isinst_ok I rx ty e fun tk => ⟨.bl b, H, I.tok _, rfl, q⟩
end
section
variable {X : Cx}
theorem call_isTK {c : String} {K' : PySem.W.Frag} (hK : X.K = K') : CallR X (.builtin "isinstance") (fun xs H Q => ∃ x t b, xs = [x, .ty c] ∧ TyOf K' H x t ∧ PySem.W.kitOne K' t (.type c) = some b ∧ Q (.bl b) H) := by
  subst hK
  exact call_isT
end
section
variable {X : Cx} {pos : Pos}
/-- an empty dict -/
theorem pe_dict0 : PE X (.Dict [] [] pos) (fun _ H Q => ∀ p, H p = none → Q (.ref p) (upd H p (.dK []))) := by
  intro pins s σ H Q I h
  have big : sysModules < s.heap.objs.size := Nat.lt_trans (by decide) (I.mod.glob.keeps I.bk).lt
  have hn : H s.heap.objs.size = none := I.hok.fresh (Nat.le_refl _)
  refine wpAny_Dict_empty ⟨.ref s.heap.objs.size, _, I.laid (o := .dK []) (t' := s.toks) (fun _ _ q => Heap.get?_push_of_some _ q) (Nat.le_refl _) ?_, rfl, h _ hn⟩
  exact ⟨Nat.zero_le _, beq_eq_false_iff_ne.mpr (Ne.symm (Nat.ne_of_lt big)), [], .nil, Heap.DictOf.new _⟩
end
section
variable {X : Cx}
theorem eqV_same {x : V} (h : flatV x = true) : eqV x x = true := by
  cases x with
  | non => rfl
  | bl b => simp [eqV]
  | int i => simp [eqV]
  | str y => simp [eqV]
  | _ => cases h
theorem vals_eq {A : Around} {s : Shared} {xs : List V} {us ws : List Value} (r : Vals xs us) (q : Vals xs ws) (f : xs.all flatV = true) (j : Nat) (h1 : j < us.toArray.size) (h2 : j < ws.toArray.size) : SeqAt.EqAt A s us.toArray[j] ws.toArray[j] true := by
  have hl := r.length
  rw [List.size_toArray] at h1 h2
  have hj : j < xs.length := by omega
  obtain ⟨u, e1, r1⟩ := r.get (List.getElem?_eq_getElem hj)
  obtain ⟨w', e2, r2⟩ := q.get (List.getElem?_eq_getElem hj)
  have fx : flatV xs[j] = true := List.all_eq_true.mp f _ (List.getElem_mem hj)
  have z := eqAt_V (A := A) (s := s) r1 r2 fx fx
  rw [eqV_same fx] at z
  have g1 : us.toArray[j] = u := by
    have := (List.getElem?_eq_some_iff.mp e1).2
    simpa using this
  have g2 : ws.toArray[j] = w' := by
    have := (List.getElem?_eq_some_iff.mp e2).2
    simpa using this
  rw [g1, g2]
  exact z
/-- == of two tuples, or two lists, of the same flat items -/
theorem op_eqS (hu : X.A.units < cLine) : OpR X (compareOp .Eq) (fun x y H Q => ∃ a b xs, x = .ref a ∧ y = .ref b ∧ ((SqT X.K H a xs ∧ SqT X.K H b xs) ∨ (SqL X.K H a xs ∧ SqL X.K H b xs)) ∧ xs.all flatV = true ∧ Q (.bl true) H) := by
  intro pins s σ H x y v u Q I rx ry h
  obtain ⟨a, b, xs, rfl, rfl, hq, f, q⟩ := h
  cases rx
  cases ry
  rcases hq with ⟨ha, hb⟩ | ⟨ha, hb⟩
  · obtain ⟨its, r1, p1, _⟩ := I.tuple ha
    obtain ⟨its2, r2, p2, _⟩ := I.tuple hb
    refine SeqAt.eq_tupleAt (e := fun _ => true) p1 p2 hu (fun j h1 h2 => vals_eq r1 r2 f j h1 h2) (fin_bl I q ?_)
    have l1 := r1.length
    have l2 := r2.length
    simp
    omega
  · obtain ⟨its, r1, p1, _⟩ := I.list ha
    obtain ⟨its2, r2, p2, _⟩ := I.list hb
    have l1 := r1.length
    have l2 := r2.length
    refine SeqAt.eq_listAt (e := fun _ => true) p1.isList p2.isList (by simp; omega) hu (fun j h1 h2 => vals_eq r1 r2 f j h1 h2) (fin_bl I q ?_)
    simp
/-- all(xs), each item True -/
theorem call_allT (hc : X.calm = true) : CallR X (.builtin "all") (fun xs H Q => ∃ p ys, xs = [.ref p] ∧ SqL X.K H p ys ∧ (∀ y ∈ ys, y = .bl true) ∧ Q (.bl true) H) := by
  intro pins s σ H xs us Q I r h
  obtain ⟨p, ys, rfl, hq, ht, q⟩ := h
  obtain ⟨u, rfl, rx⟩ := vals1 r
  cases rx
  obtain ⟨its, rv, pl, hz⟩ := I.list hq
  have hne : p ≠ s.heap.objs.size := Nat.ne_of_lt (by
    obtain ⟨o, n, e, _⟩ := pl
    exact Heap.lt_size e)
  have hh : X.A.in1.handled = none := I.ok.hd hc
  refine call_all_walk (wpAny_pyIter_list pl.isList ⟨s.heap.objs.size, _, _, _, _, _, fun _ => true, rfl, Walks.list hh s.heap.objs.size p hne its.toArray, ⟨⟨_, Heap.get?_push_size _ rfl, rfl, rfl⟩, ?_⟩, ?_, fun h' tk k => ?_⟩)
  · obtain ⟨o, ho, hr⟩ := pl.isList
    exact ⟨o, Heap.get?_push_of_some _ ho, hr⟩
  · intro i v s' Q' E' hv hq'
    have e : v = .bool true := by
      rw [List.getElem?_toArray] at hv
      have hl := rv.length
      have hi : i < ys.length := by
        have := (List.getElem?_eq_some_iff.mp hv).1
        omega
      obtain ⟨u, e1, r1⟩ := rv.get (List.getElem?_eq_getElem hi)
      rw [hv] at e1
      cases e1
      have ey := ht _ (List.getElem_mem hi)
      rw [ey] at r1
      exact r1
    rw [e]
    exact wpAny_truthy_bool hq'
  · refine ⟨.bl true, H, I.kept fun b o e => k b o (fun z => ?_) (Heap.get?_push_of_some _ e), ?_, q⟩
    · rw [List.mem_singleton] at z
      exact absurd (Heap.lt_size e) (by rw [z]; exact Nat.lt_irrefl _)
    · show _ = Value.bool true
      simp
end
theorem kitMeta_int : PySem.W.kitMeta "int" = true := by decide +kernel
theorem kitMeta_bool : PySem.W.kitMeta "bool" = true := by decide +kernel
theorem kitMeta_tuple : PySem.W.kitMeta "tuple" = true := by decide +kernel
theorem kit_same (K : PySem.W.Frag) (c : String) : PySem.W.kitOne K (.type c) (.type c) = some true := by
  unfold PySem.W.kitOne
  rw [if_pos (by simp)]
theorem kit_ne (K : PySem.W.Frag) {t c : String} {l : List Value} {b : Bool} (h : t ≠ c) (hm : PySem.W.kitMeta c = true) (hl : (fastBuiltinMro t).map (·.contains (Value.type c)) = some b) : PySem.W.kitOne K (.type t) (.type c) = some b := by
  unfold PySem.W.kitOne
  rw [if_neg (by simpa using h)]
  unfold PySem.W.kitCls
  show (if PySem.W.kitMeta c = true then PySem.W.subIn K (.type t) (.type c) else none) = some b
  rw [if_pos hm]
  exact hl
theorem kit_int_bool (K : PySem.W.Frag) : PySem.W.kitOne K (.type "int") (.type "bool") = some false := kit_ne K (l := []) (by decide) kitMeta_bool (by decide +kernel)
theorem kit_bool_int (K : PySem.W.Frag) : PySem.W.kitOne K (.type "bool") (.type "int") = some true := kit_ne K (l := []) (by decide) kitMeta_int (by decide +kernel)
theorem kit_none_int (K : PySem.W.Frag) : PySem.W.kitOne K (.type "NoneType") (.type "int") = some false := kit_ne K (l := []) (by decide) kitMeta_int (by decide +kernel)
theorem kit_str_int (K : PySem.W.Frag) : PySem.W.kitOne K (.type "str") (.type "int") = some false := kit_ne K (l := []) (by decide) kitMeta_int (by decide +kernel)
theorem kit_list_int (K : PySem.W.Frag) : PySem.W.kitOne K (.type "list") (.type "int") = some false := kit_ne K (l := []) (by decide) kitMeta_int (by decide +kernel)
theorem kit_tuple_int (K : PySem.W.Frag) : PySem.W.kitOne K (.type "tuple") (.type "int") = some false := kit_ne K (l := []) (by decide) kitMeta_int (by decide +kernel)
theorem kit_dict_int (K : PySem.W.Frag) : PySem.W.kitOne K (.type "dict") (.type "int") = some false := kit_ne K (l := []) (by decide) kitMeta_int (by decide +kernel)
theorem kit_none_tuple (K : PySem.W.Frag) : PySem.W.kitOne K (.type "NoneType") (.type "tuple") = some false := kit_ne K (l := []) (by decide) kitMeta_tuple (by decide +kernel)
theorem kit_bool_tuple (K : PySem.W.Frag) : PySem.W.kitOne K (.type "bool") (.type "tuple") = some false := kit_ne K (l := []) (by decide) kitMeta_tuple (by decide +kernel)
theorem kit_int_tuple (K : PySem.W.Frag) : PySem.W.kitOne K (.type "int") (.type "tuple") = some false := kit_ne K (l := []) (by decide) kitMeta_tuple (by decide +kernel)
theorem kit_str_tuple (K : PySem.W.Frag) : PySem.W.kitOne K (.type "str") (.type "tuple") = some false := kit_ne K (l := []) (by decide) kitMeta_tuple (by decide +kernel)
theorem kit_list_tuple (K : PySem.W.Frag) : PySem.W.kitOne K (.type "list") (.type "tuple") = some false := kit_ne K (l := []) (by decide) kitMeta_tuple (by decide +kernel)
theorem kit_dict_tuple (K : PySem.W.Frag) : PySem.W.kitOne K (.type "dict") (.type "tuple") = some false := kit_ne K (l := []) (by decide) kitMeta_tuple (by decide +kernel)

/-- a thing whose kind is known -/
inductive Known (H : Hp) : V → Prop where
  | non : Known H .non
  | bl (b : Bool) : Known H (.bl b)
  | int (i : Int) : Known H (.int i)
  | str (x : Str) : Known H (.str x)
  | lst {p : Addr} {xs : List V} (e : H p = some (.lst xs)) : Known H (.ref p)
  | tup {p : Addr} {xs : List V} (e : H p = some (.tup xs)) : Known H (.ref p)
  | dic {p : Addr} {kvs : List (Key × V)} (e : H p = some (.dK kvs)) : Known H (.ref p)
theorem Known.same {H H' : Hp} {x : V} (h : Known H x) (s : Same H H') : Known H' x := by
  cases h with
  | non => exact .non
  | bl b => exact .bl b
  | int i => exact .int i
  | str y => exact .str y
  | lst e => exact .lst (s _ _ e)
  | tup e => exact .tup (s _ _ e)
  | dic e => exact .dic (s _ _ e)
def isI : V → Bool
  | .int _ => true
  | .bl _ => true
  | _ => false
def isW : V → Bool
  | .int _ => true
  | _ => false
theorem Known.int_of (K : PySem.W.Frag) {H : Hp} {x : V} (h : Known H x) : ∃ t, TyOf K H x t ∧ PySem.W.kitOne K t (.type "int") = some (isI x) := by
  cases h with
  | non => exact ⟨_, .non, kit_none_int K⟩
  | bl b => exact ⟨_, .bl b, kit_bool_int K⟩
  | int i => exact ⟨_, .int i, kit_same K _⟩
  | str y => exact ⟨_, .str y, kit_str_int K⟩
  | lst e => exact ⟨_, .lst e, kit_list_int K⟩
  | tup e => exact ⟨_, .tup e, kit_tuple_int K⟩
  | dic e => exact ⟨_, .dK e, kit_dict_int K⟩
/-! ### tests whose truth is known -/
theorem ifT {b : Bool} {A B : Prop} (e : b = true) (h : A) : if b = true then A else B := by
  rw [if_pos e]
  exact h
theorem ifF {b : Bool} {A B : Prop} (e : b = false) (h : B) : if b = true then A else B := by
  rw [if_neg (by rw [e]; exact Bool.false_ne_true)]
  exact h
theorem ifB {b : Bool} {A B : Prop} (h1 : b = true → A) (h2 : b = false → B) : if b = true then A else B := by
  cases b with
  | true => exact iteT (h1 rfl)
  | false => exact iteF (h2 rfl)
theorem dec_VI {i j : Int} : decide (V.int i = V.int j) = decide (i = j) := by
  rw [Bool.eq_iff_iff]
  simp
theorem dec_VB {i j : Bool} : decide (V.bl i = V.bl j) = (i == j) := dec_bl
/-! ### a def of the text, and what it promises -/
/-- a def with or without defaults -/
structure FunD (K : PySem.W.Frag) (x qual : Str) (st : Stmt) (f : Addr) (fd : FuncData) : Prop where
  ex : ∃ (oc : Value) (od : Option Addr) (dV kV doc pm : Value) (an : Option Addr) (cdv ct : Value) (osl : Array (Option Value)),
    fd = PySem.W.fnOf x qual (defArgs st) (defBody st) (defScope st) dV kV doc pm an cdv ct ∧ K.lookup f = some ⟨oc, od, .func fd, osl⟩ ∧ PySem.W.codeIn K cdv qual = true
  kp : PySem.W.keepIn K (.ref f) = true
theorem FunD.ok {P : Program} {w : World} {K : PySem.W.Frag} {mg : Str → Option Value} {base : Heap} {x qual : Str} {st : Stmt} {f : Addr} {fd : FuncData} {N ps : List Str} {k : Nat} {sp : Sp} (F : FunD K x qual st f fd) (S : FnScope N ps (defScope st)) (len : ∀ vs H Q E, sp vs H Q E → vs.length = ps.length)
    (hbody : ∀ (cdv : Value) (A : Around) (outer : List Env) (s : Shared) (H : Hp) (vs : List V) (Q : VK) (E : XK), Room k (A.deeper (envOfC qual (defScope st) s.heap.objs.size f cdv)) → sp vs H Q E →
      ∃ t, PSs (cxOf CX0 P w K mg base N qual (defScope st) f cdv A outer s H E).nox (defBody st) t ∧ t { nx := fun _ H' => Q .non H', rt := Q } (start N vs) H) : FnOk P w K mg base CX0 (k + 1) f fd ps sp := by
  obtain ⟨oc, od, dV, kV, doc, pm, an, cdv, ct, osl, rfl, lk, hcd⟩ := F.ex
  refine fn_of lk hcd S len fun A outer s H vs Q E hr hsp => ?_
  obtain ⟨t, h, q⟩ := hbody cdv A outer s H vs Q E hr hsp
  exact ⟨t, h.nox, q⟩
theorem fund_mk {K : PySem.W.Frag} {x qual : Str} {st : Stmt} {f : Addr} {oc : Value} {od an : Option Addr} {osl : Array (Option Value)} {dV kV doc pm cdv ct : Value} (l : K.lookup f = some ⟨oc, od, .func (PySem.W.fnOf x qual (defArgs st) (defBody st) (defScope st) dV kV doc pm an cdv ct), osl⟩)
    (c : PySem.W.codeIn K cdv qual = true) (k : PySem.W.keepIn K (.ref f) = true) : FunD K x qual st f (PySem.W.fnOf x qual (defArgs st) (defBody st) (defScope st) dV kV doc pm an cdv ct) := ⟨⟨oc, od, dV, kV, doc, pm, an, cdv, ct, osl, rfl, l, c⟩, k⟩
structure Tx (K : PySem.W.Frag) (mg : Str → Option Value) (x : Str) (st : Stmt) (ps : List Str) where
  f : Addr
  fd : FuncData
  F : FunD K x x st f fd
  m : mg x = some (.ref f)
  b : Binds K fd ps []
structure Def (P : Program) (w : World) (K : PySem.W.Frag) (mg : Str → Option Value) (base : Heap) (k : Nat) (x : Str) (ps : List Str) (sp : Sp) where
  f : Addr
  fd : FuncData
  ok : FnOk P w K mg base CX0 k f fd ps sp
  m : mg x = some (.ref f)
  kp : PySem.W.keepIn K (.ref f) = true
  b : Binds K fd ps []
section
variable {X : Cx} {k j : Nat} {x : Str} {ps : List Str} {sp : Sp} {p pos : Pos} {e : Expr} {es : List Expr} {t : TA}
/-- a call of such a def -/
theorem pd (D : Def X.prog X.w X.K X.mg X.base k x ps sp) (hr : Room j X.A) (ha : PA X (e :: es) t) (hk : k ≤ j := by decide) (hg : Gl X x := by rfl) (hdb : (x == ("__debug__" : Str)) = false := by decide)
    (he : starEach (e :: es) X.env = (false, eval e X.env) :: starEach es X.env := by rfl) (hpl : (backTo pos (starEach es X.env)).any (·.1) = false := by rfl) :
    PE X (.Call (.Name x p) (e :: es) [] pos) (tCall sp [] E0 t) := pe_call D.ok (hr.mono hk) hg D.m D.kp D.b .nil pass0 ha hdb he hpl
end
theorem same_new {H : Hp} {p : Addr} (h : H p = none) (o : HO) : Same H (upd H p o) := fun b u q => by
  rw [upd_ne (ne_of_none q h)]
  exact q
/-- a pair of ints stands at p -/
def Fra (H : Hp) (p : Addr) (a b : Int) : Prop := H p = some (.tup [.int a, .int b])
theorem Fra.same {H H' : Hp} {p : Addr} {a b : Int} (h : Fra H p a b) (s : Same H H') : Fra H' p a b := s _ _ h
theorem Fra.new {H : Hp} {p : Addr} {a b : Int} : Fra (upd H p (.tup [.int a, .int b])) p a b := upd_same
theorem sz {n : Nat} (h : n ≤ 1000 := by exact Nat.le_of_ble_eq_true rfl) : n ≤ sizeLine := Nat.le_of_lt (small1000 h)
theorem ints_at {ns : List Int} {k : Int} (h0 : 0 ≤ k) (h : k < (ns.length : Int)) : atI (ns.map V.int) k = some (.int (ns.getD k.toNat 0)) := by
  have hkn : k.toNat < ns.length := by omega
  have ek : k = ((k.toNat : Nat) : Int) := by omega
  have q : atI (ns.map V.int) ((k.toNat : Nat) : Int) = some (.int (ns.getD k.toNat 0)) := atI_nat (by
    rw [List.getElem?_map, List.getElem?_eq_getElem hkn, List.getD_eq_getElem?_getD, List.getElem?_eq_getElem hkn]
    rfl)
  rw [← ek] at q
  exact q
/-- the menu [m, n] at a rest by 2 -/
theorem menu2 (c : Int) (x y : V) : ∃ z, (z = x ∨ z = y) ∧ atI [x, y] (c % 2) = some z := by
  rcases (by omega : c % 2 = 0 ∨ c % 2 = 1) with e | e
  · rw [e]
    exact ⟨x, .inl rfl, rfl⟩
  · rw [e]
    exact ⟨y, .inr rfl, rfl⟩
/-- a loop over a list that the body leaves as it is; the ends as they stand -/
theorem for_listN {K : PySem.W.Frag} {a : Addr} {xs : List V} {g : TG} {tb : TS} {nx : L2.St → Hp → Prop} {rt : VK} {σ : L2.St} {H : Hp} (Pv : Nat → L2.St → Hp → Prop) (h0 : Pv 0 σ H) (hl : ∀ i σ H, i ≤ xs.length → Pv i σ H → SqL K H a xs)
    (hs : ∀ i x σ H, xs[i]? = some x → Pv i σ H → g x σ H fun σ2 H2 => tb { nx := Pv (i + 1), rt := rt, bk := nx, ct := Pv (i + 1) } σ2 H2) (hd : ∀ σ H, Pv xs.length σ H → nx σ H) :
    ∃ W : Nat → Nat → L2.St → Hp → Prop, (∃ m, W 0 m σ H) ∧ ∀ i m σ H, W i m σ H →
      ((Itl K a).stop i H ∧ nx σ H) ∨ ((Itl K a).go i H ∧ ∃ N : L2.St → Hp → Prop, (∀ σ' H', N σ' H' → ∃ m', m' < m ∧ W (i + 1) m' σ' H') ∧ ∀ x H', (Itl K a).yld i H x H' → g x σ H' fun σ2 H2 => tb { nx := N, rt := rt, bk := nx, ct := N } σ2 H2) :=
  for_list (D := { nx := nx, rt := rt }) Pv h0 hl hs hd
end Zw

/-! ### list comprehensions over the hand layer -/
namespace Zw
open PySem PySem.Spec PyProof.Rows L2

/-- the block of a comprehension in the body X: its own names and those it sees -/
def compCx (X : Cx) (scope : Scope) (cl : List (Str × Addr)) (N' : List Str) (C : Addr) (s₀ : Shared) (H₀ : Hp) (ex : List Addr) : Cx :=
  { X with N := N', s₀ := s₀, H₀ := H₀, env := compEnvC scope cl C X.env, outer := X.stack, ex := ex, fn := fun _ => false, xe := fun _ _ => False }
theorem HOk.adopt {P : Program} {w : World} {H : Hp} {h : Heap} {a : Addr} {o : HO} (x : HOk P w H h) (hn : H a = none) (new : ObjOk P w (upd H a o) h a o) : HOk P w (upd H a o) h := fun b u e => by
  by_cases hb : b = a
  · subst hb
    rw [upd_same] at e
    cases e
    exact new
  · rw [upd_ne hb] at e
    exact (x b u e).stay (fun c v _ q => q) (fun c q => by rw [upd_ne (ne_of_none q hn)]; exact q) fun c xs q => by rw [upd_ne (ne_of_none q hn)]; exact q

/-- one turn: target, tests, element -/
theorem comp_turn0 {elt target iter : Expr} {scope : Scope} {pos : Pos} {it acc : Value} {env : Env} : compTurn (.ListComp elt [⟨target, iter, [], 0⟩] scope pos) 0 it acc env = (standAt iter.pos >>= fun _ => pyNext it >>= fun r => match r with
    | none => pure (.done .next)
    | some u => letOwnedTupleGo target it u >>= fun _ => assign target env u >>= fun _ =>
      (eval elt env >>= fun x => call (.builtin "list.append") [acc, x] >>= fun _ => pure ()) >>= fun _ => again (.compLoop (.ListComp elt [⟨target, iter, [], 0⟩] scope pos) 0 it acc env)) := by rfl
theorem comp_loop {prog : Program} {w : World} {A : Around} {R : Result → Shared → Prop} {s : Shared} {elt target iter : Expr} {scope : Scope} {pos : Pos} {it acc : Value} {env : Env} (I : Nat → Shared → Prop)
    (hturn : ∀ n s, I n s → wpAny (model prog w) A (pyNext it) (fun r s₁ => match r with
      | none => R (.ok .next) s₁
      | some v => wpAny (model prog w) A (letOwnedTupleGo target it v) (fun _ s₁' => wpAny (model prog w) A (assign target env v) (fun _ s₂ => wpAny (model prog w) A (eval elt env) (fun x s₃ =>
          wpAny (model prog w) A (call (.builtin "list.append") [acc, x]) (fun _ s₄ => ∃ m, m < n ∧ I m s₄) (fun _ _ => False) s₃)
          (fun _ _ => False) s₂) (fun _ _ => False) s₁') (fun _ _ => False) s₁) (fun _ _ => False) s)
    (k : Nat) (hk : I k s) : codeAny (model prog w) A (.compLoop (.ListComp elt [⟨target, iter, [], 0⟩] scope pos) 0 it acc env) R s := by
  refine codeAny_loop rfl I (fun n s hI => ?_) k hk
  show wpAny _ _ ((compTurn (.ListComp elt [⟨target, iter, [], 0⟩] scope pos) 0 it acc env).onRaise (fun y => do noteFrame y env; theTreesLotGoes y)) _ _ s
  refine wpAny_noted ?_
  rw [comp_turn0]
  refine wpAny_bind (wpAny_standAt (wpAny_bind (wpAny_mono (hturn n s hI) (fun r s₁ h₁ => ?_) fun _ _ z => z.elim)))
  cases r with
  | none => exact wpAny_pure h₁
  | some v =>
    refine wpAny_bind (wpAny_mono h₁ (fun _ s₁' h₁' => ?_) fun _ _ z => z.elim)
    exact wpAny_bind (wpAny_mono h₁' (fun _ s₂ h₂ => wpAny_bind (wpAny_bind (wpAny_mono h₂ (fun x s₃ h₃ => wpAny_bind (wpAny_mono h₃
      (fun _ s₄ h₄ => wpAny_pure (wpAny_pure ⟨rfl, h₄⟩)) fun _ _ z => z.elim)) fun _ _ z => z.elim))) fun _ _ z => z.elim)

theorem compNone {scope : Scope} {env : Env} (h : ∀ z ∈ scope.names, z.2 ≠ .cell ∧ z.2 ≠ .free) (y : Str) (hy : (relabel scope env).names.lookup y = some .cell ∨ (relabel scope env).names.lookup y = some .free) : ∃ c : Addr, ([] : List (Str × Addr)).lookup y = some c := by
  exfalso
  have key : ∀ k, (relabel scope env).names.lookup y = some k → k ≠ .cell ∧ k ≠ .free := fun k hk => by
    obtain ⟨z, hz, e⟩ := List.mem_map.mp (PySem.mem_of_lookup hk)
    have q := h z hz
    obtain ⟨n, kk⟩ := z
    have q2 : (kk == NameKind.free) = false := by simpa using q.2
    simp only [q2, Bool.false_and, Bool.false_eq_true, if_false] at e
    cases e
    exact q
  rcases hy with hy | hy
  · exact (key _ hy).1 rfl
  · exact (key _ hy).2 rfl
theorem compNone2 {α : Prop} {i : Nat} {v : V} (h : ([none] : L2.St)[i]? = some (some v)) : α := by
  cases i with
  | zero => cases h
  | succ j => cases h
section
variable {X : Cx} {elt iter tg : Expr} {scope : Scope} {pos : Pos} {cl : List (Str × Addr)} {N' : List Str} {wi : TI} {g : TG} {te : TE}
/-- W: what holds ahead of turn i of the items so far; n: a bound of the turns; σ': the block's names at its start -/
def tLC (σ' : L2.St → L2.St) (wi : TI) (g : TG) (te : TE) : TE := fun σ H Q => wi σ H fun J H1 => ∃ (W : Nat → List V → L2.St → Hp → Prop) (n : Nat), n ≤ sizeLine ∧ W 0 [] (σ' σ) H1 ∧ ∀ i ys τ H, W i ys τ H → ys.length ≤ i ∧ i ≤ n ∧
  ((J.stop i H ∧ ∀ p, H p = none → Q (.ref p) (upd H p (.lst ys))) ∨ (i < n ∧ J.go i H ∧ ∀ x H', J.yld i H x H' → g x τ H' fun τ2 H2 => te τ2 H2 fun y H3 => W (i + 1) (ys ++ [y]) τ2 H3))
theorem pe_lc (σ' : L2.St → L2.St) (hclos : closureFor scope X.env = pure cl) (hkind : scope.kind = .function) (hcell : ∀ y ∈ scope.names, y.2 ≠ .cell) (hnames : ∀ y ∈ scope.names, y.2 = .local → scope.names.lookup y.1 = some .local)
    (hcl : ∀ y c, cl.lookup y = some c → X.env.cells.lookup y = some c) (hhas : ∀ y, (relabel scope X.env).names.lookup y = some .cell ∨ (relabel scope X.env).names.lookup y = some .free → ∃ c, cl.lookup y = some c)
    (hσ : ∀ σ : L2.St, σ.length = X.N.length → (σ' σ).length = N'.length)
    (hvis : ∀ (σ : L2.St) (i : Nat) (y : Str) (v : V), N'[i]? = some y → (σ' σ)[i]? = some (some v) → ((relabel scope X.env).names.lookup y = some .cell ∨ (relabel scope X.env).names.lookup y = some .free) ∧ ∃ j : Nat, X.N[j]? = some y ∧ σ[j]? = some (some v) ∧ Vis X.env.scope y ∧ X.env.kindOf y ≠ some .local)
    (hc : X.calm = true) (hi : PI X tg iter wi) (hg : ∀ C s₀ H₀ ex, PG (compCx X scope cl N' C s₀ H₀ ex) tg g) (he : ∀ C s₀ H₀ ex, PE (compCx X scope cl N' C s₀ H₀ ex) elt te)
    (hs : ∀ x, foldedSetIterable iter X.env x = pure x := by intro _; rfl) : PE X (.ListComp elt [⟨tg, iter, [], 0⟩] scope pos) (tLC σ' wi g te) := by
  intro pins s σ H Q I h
  rw [eval_ListComp]
  refine wpAny_comprehension_free (use := none) rfl hs hclos hkind hnames (thn (hi pins s σ H _ I h) fun v s1 h1 => thn h1 fun itv s2 h2 => ?_)
  obtain ⟨it, fp, tn, J, H2, e, I2, T, st2, f2, W, n, hn, w0, turn⟩ := h2
  subst e
  refine wpAny_newObj_type (wpAny_newFunctionEnv hcell (by intro y hy; cases hy) (fun h₁ hns₁ hsb₁ => ?_) hkind)
  dsimp only at hns₁ hsb₁ ⊢
  generalize hHp : s2.heap.push { cls := .type "list", dict := none, data := .seq ([] : List Value).toArray } = P2 at hns₁ hsb₁ ⊢
  have hC : P2.objs.size = s2.heap.objs.size + 1 := by rw [← hHp, Heap.size_push]
  have hDC : s2.heap.objs.size ≠ P2.objs.size := by rw [hC]; exact Nat.ne_of_lt (Nat.lt_succ_self _)
  have below : ∀ b, b < s2.heap.objs.size → b ≠ P2.objs.size ∧ b ≠ s2.heap.objs.size := fun b hb => ⟨by rw [hC]; exact Nat.ne_of_lt (Nat.lt_succ_of_lt hb), Nat.ne_of_lt hb⟩
  have old : ∀ b o, s2.heap.get? b = some o → h₁.get? b = some o := fun b o e => hsb₁.extBut b o (below b (Heap.lt_size e)).1 (Heap.get?_push_of_some _ (hHp ▸ Heap.get?_push_of_some _ e))
  have hacc : h₁.PlainList s2.heap.objs.size #[] := ⟨_, hsb₁.extBut _ _ hDC (Heap.get?_push_of_some _ (hHp ▸ Heap.get?_push_size _ rfl))⟩
  have fsub : ∀ b ∈ frs X.stack, b ∈ X.env.locals :: X.fs := I2.stkSub
  have fpfs : ∀ b ∈ fp, b ∉ frs X.stack := fun b hb z => by
    obtain ⟨_, h2, h3, _⟩ := f2 b hb
    rcases List.mem_cons.mp (fsub b z) with q | q
    · exact h2 q
    · exact h3 q
  have fpold : ∀ b ∈ fp, b < s2.heap.objs.size := fun b hb => by
    obtain ⟨o, e, _⟩ := T.obj 0 _ st2 b hb
    exact Heap.lt_size e
  have cold : ∀ y c, cl.lookup y = some c → c < s2.heap.objs.size := fun y c e => by
    obtain ⟨v, q⟩ := I2.cell y c (hcl y c e)
    exact q.lt
  have fresh2 : ∀ b, s2.heap.objs.size ≤ b → H2 b = none := fun b hb => I2.hok.fresh hb
  have CS : s2.heap.objs.size ≤ P2.objs.size := by rw [hC]; exact Nat.le_succ _
  -- the block's own context and its start
  have ok' : (compCx X scope cl N' P2.objs.size s2 H2 fp).Ok := by
    refine ⟨I2.ok.mod, hkind, I2.ok.glob, I2.ok.blt, CS, fun y z c h1 h2 => I2.ok.inj y z c (hcl y c h1) (hcl z c h2), fun y hy => hhas y hy, fun _ _ z => (by cases z), I2.ok.hd, I2.ok.frames, .inl rfl, fun b hb => ⟨(below b (fpold b hb)).1, fun y c e z => ?_⟩,
      fun b o e => I2.bs b o e, Nat.le_trans I2.ok.bsz I2.sz, fun b o e hb => ?_, fun b hb => fpfs b hb, I2.stack, I2.stkFree⟩
    · exact (f2 b hb).2.2.2.2.1 y c (hcl y c e) z
    · obtain ⟨_, _, _, q, _⟩ := f2 b hb
      rcases q with q | q
      · exact I2.ok.noex b o e q
      · exact absurd (Nat.lt_of_lt_of_le (Heap.lt_size e) (Nat.le_trans I2.ok.bsz q)) (Nat.lt_irrefl _)
  have I' : Inv (compCx X scope cl N' P2.objs.size s2 H2 fp) pins (σ' σ) H2 { s2 with heap := h₁, toks := s2.toks + ([] : List (Str × Value)).length } := by
    refine ⟨ok', rfl, I2.bare, Un.kept old, ⟨_, hns₁, fun i y v h1 h2 h3 => ?_⟩, fun y c e => ?_, fresh2 _ CS, fun y c e => I2.freeC y c (hcl y c e), fun p hp => ?_, I2.hok.kept old, hσ σ I2.len⟩
    · obtain ⟨hk, j, h4, h5, h6, h7⟩ := hvis σ i y v h1 h2
      obtain ⟨m, hn', hl⟩ := I2.loc
      obtain ⟨u, r, l⟩ := hl j y v h4 h5 h6
      obtain ⟨c, hcc⟩ := hhas y hk
      refine ⟨u, r, .inr ⟨hk, c, hcc, ?_⟩⟩
      rcases l with ⟨k1, _⟩ | ⟨_, c', e', z⟩
      · exact absurd k1 h7
      · rw [hcl y c hcc] at e'
        cases e'
        obtain ⟨o, ho, hd⟩ := z
        exact ⟨o, old _ _ ho, hd⟩
    · obtain ⟨v, o, ho, hd⟩ := I2.cell y c (hcl y c e)
      exact ⟨v, o, old _ _ ho, hd⟩
    · obtain ⟨e1, e2, e3, e4, e5⟩ := I2.pin p hp
      refine ⟨old _ _ e1, e2, (below _ (Heap.lt_size e1)).1, fun z => ?_, e5⟩
      rcases List.mem_cons.mp (fsub _ z) with q | q
      · exact e3 q
      · exact e4 q
  have stat : ∀ {H' : Hp}, (∀ b ∈ fp, H' b = none) → ∀ b ∈ fp, FpOk (compCx X scope cl N' P2.objs.size s2 H2 fp) pins H' b := fun hn' b hb =>
    ⟨hn' b hb, (below b (fpold b hb)).1, fpfs b hb, .inl hb, fun y c e => (f2 b hb).2.2.2.2.1 y c (hcl y c e), (f2 b hb).2.2.2.2.2⟩
  have Dok : ∀ {H' : Hp}, H' s2.heap.objs.size = none → FpOk (compCx X scope cl N' P2.objs.size s2 H2 fp) pins H' s2.heap.objs.size := fun hn' =>
    ⟨hn', hDC, (fun z => by
      obtain ⟨o, ho, _⟩ := (I2.stack.mem z).2
      exact absurd (Heap.lt_size ho) (Nat.lt_irrefl _)), .inr (Nat.le_refl _), fun y c e z => absurd (cold y c e) (by rw [z]; exact Nat.lt_irrefl _), fun p hp z => absurd (Heap.lt_size (I2.pin p hp).1) (by rw [z]; exact Nat.lt_irrefl _)⟩
  -- the loop
  have loop : ∀ s3 : Shared, s3 = { s2 with heap := h₁, toks := s2.toks + ([] : List (Str × Value)).length } →
      codeAny (model X.prog X.w) X.A (.compLoop (.ListComp elt [⟨tg, iter, [], 0⟩] scope pos) 0 (.ref it) (.ref s2.heap.objs.size) (compEnvC scope cl P2.objs.size X.env))
        (compPost (model X.prog X.w) X.A X.xe none (EP X pins σ Q) (.ref s2.heap.objs.size) P2.objs.size) s3 := by
    rintro s3 rfl
    refine comp_loop (fun m s' => ∃ i ys τ H', m = n - i ∧ Inv (compCx X scope cl N' P2.objs.size s2 H2 fp) pins τ H' s' ∧ tn i s'.heap ∧ (∀ b ∈ fp, H' b = none) ∧ H' s2.heap.objs.size = none ∧ (∃ its : List Value, Vals ys its ∧ s'.heap.PlainList s2.heap.objs.size its.toArray) ∧ W i ys τ H')
      ?_ n ⟨0, [], σ' σ, H2, rfl, I', T.keep _ _ _ st2 fun b _ o e => old b o e, fun b hb => (f2 b hb).1, fresh2 _ (Nat.le_refl _), ⟨[], .nil, hacc⟩, w0⟩
    rintro m s4 ⟨i, ys, τ, H4, rfl, I4, st4, fr4, hD4, ⟨its, rv, hpl⟩, w4⟩
    obtain ⟨hly, hin, c⟩ := turn i ys τ H4 w4
    rcases c with ⟨stop, q⟩ | ⟨hlt, go, step⟩
    · obtain ⟨k, hDo⟩ := hpl
      have I4p := I4.pinned (fp := [s2.heap.objs.size]) (fun b hb => by rw [List.mem_singleton.mp hb]; exact Dok hD4) (fun b hb => by rw [List.mem_singleton.mp hb]; exact ⟨_, hDo, fun v z => (by cases z)⟩)
      have statp : ∀ b ∈ fp, FpOk (compCx X scope cl N' P2.objs.size s2 H2 fp) (pins ++ pinsAt [s2.heap.objs.size] s4.heap) H4 b := fun b hb => by
        obtain ⟨g1, g2, g3, g4, g5, g6⟩ := stat fr4 b hb
        refine ⟨g1, g2, g3, g4, g5, fun p hp z => ?_⟩
        rcases List.mem_append.mp hp with y | y
        · exact g6 p (List.mem_append_left _ y) z
        · rcases List.mem_append.mp y with y | y
          · exact g6 p (List.mem_append_right _ y) z
          · obtain ⟨hb', _⟩ := of_pinsAt y
            rw [z, List.mem_singleton] at hb'
            exact absurd (fpold b hb) (by rw [hb']; exact Nat.lt_irrefl _)
      refine thn (T.done (compCx X scope cl N' P2.objs.size s2 H2 fp) rfl rfl rfl hc i _ s4 τ H4 _ I4p statp st4 stop) fun r s5 ⟨hr, I5⟩ => ?_
      subst hr
      have hD5 : s5.heap.get? s2.heap.objs.size = some { cls := .type "list", data := .seq its.toArray k } := (I5.pin (s2.heap.objs.size, _) (List.mem_append_right _ (List.mem_append_right _ (mem_pinsAt (List.mem_singleton.mpr rfl) hDo)))).1
      obtain ⟨m5, hn5, _⟩ := I5.loc
      refine ⟨m5, hn5, fun h' sb => ?_⟩
      have kC : ∀ b o, b ≠ P2.objs.size → s5.heap.get? b = some o → h'.get? b = some o := fun b o hb e => (sb.2 b hb).trans e
      have ok5 : HOk X.prog X.w H4 h' := fun b u e => by
        have fC : H4 P2.objs.size = none := I5.free
        refine (I5.hok b u e).stay (fun c v hc' q' => kC c v ?_ q') (fun _ q' => q') fun _ _ q' => q'
        rintro rfl
        rcases hc' with z | z
        · rw [← z, fC] at e
          cases e
        · rw [fC] at z
          cases z
      have U5 : Un (frs X.stack) fp H2 (upd H4 s2.heap.objs.size (.lst ys)) s2.heap h' := by
        have B := I5.base
        refine ⟨fun b o e1 e2 e3 e4 => kC b o (below b (Heap.lt_size e1)).1 (B.keep b o e1 e2 e3 e4), fun b o e1 e2 e3 e4 => ?_, fun b o e1 e2 e4 => ?_, fun b o e1 e4 => ?_, fun b xs e1 => ?_, fun b o u e1 => ?_, fun b ps e1 => ?_⟩
        · obtain ⟨sl, e5⟩ := B.slot b o e1 e2 e3 e4
          exact ⟨sl, kC b _ (below b (Heap.lt_size e1)).1 e5⟩
        · rw [upd_ne (below b (Heap.lt_size e1)).2]
          exact B.free b o e1 e2 e4
        · obtain ⟨o', e5⟩ := B.there b o e1 e4
          exact ⟨o', kC b _ (below b (Heap.lt_size e1)).1 e5⟩
        · have q' := B.tups b xs e1
          rw [upd_ne (ne_of_none q' hD4)]
          exact q'
        · have q' := B.frzs b o u e1
          rw [upd_ne (ne_of_none q' hD4)]
          exact q'
        · obtain ⟨more, q'⟩ := B.tbls b ps e1
          exact ⟨more, by rw [upd_ne (ne_of_none q' hD4)]; exact q'⟩
      have hzy : ys.length ≤ sizeLine := Nat.le_trans hly (Nat.le_trans hin hn)
      have HK : HOk X.prog X.w (upd H4 s2.heap.objs.size (.lst ys)) h' := HOk.adopt ok5 hD4 ⟨hzy, its, k, rv, kC _ _ hDC hD5⟩
      have os5 : s5.os = s2.os := I5.os
      refine ⟨.ref s2.heap.objs.size, _, I2.call' (s' := { s5 with heap := h' }) (ch := fp) os5 U5 HK I5.bare (fun b hb => ?_), rfl, q _ hD4⟩
      obtain ⟨g1, g2, g3, g4, g5, g6⟩ := f2 b hb
      exact ⟨g4, g2, g5, g6⟩
    · obtain ⟨k, hDo⟩ := hpl
      have I4p := I4.pinned (fp := [s2.heap.objs.size]) (fun b hb => by rw [List.mem_singleton.mp hb]; exact Dok hD4) (fun b hb => by rw [List.mem_singleton.mp hb]; exact ⟨_, hDo, fun v z => (by cases z)⟩)
      have statp : ∀ {H' : Hp}, (∀ b ∈ fp, H' b = none) → ∀ b ∈ fp, FpOk (compCx X scope cl N' P2.objs.size s2 H2 fp) (pins ++ pinsAt [s2.heap.objs.size] s4.heap) H' b := fun {H'} fr' b hb => by
        obtain ⟨g1, g2, g3, g4, g5, g6⟩ := stat fr' b hb
        refine ⟨g1, g2, g3, g4, g5, fun p hp z => ?_⟩
        rcases List.mem_append.mp hp with y | y
        · exact g6 p (List.mem_append_left _ y) z
        · rcases List.mem_append.mp y with y | y
          · exact g6 p (List.mem_append_right _ y) z
          · obtain ⟨hb', _⟩ := of_pinsAt y
            rw [z, List.mem_singleton] at hb'
            exact absurd (fpold b hb) (by rw [hb']; exact Nat.lt_irrefl _)
      refine thn (T.item (compCx X scope cl N' P2.objs.size s2 H2 fp) rfl rfl rfl hc i _ s4 τ H4 _ I4p (statp fr4) st4 go) fun r s5 ⟨u, hr, h5⟩ => ?_
      subst hr
      refine thn h5 fun _ s6 ⟨x, H6, I6, r6, y6, st6, fr6⟩ => ?_
      have I6' := I6.pinned (statp fr6) (T.obj _ _ st6)
      refine thn (hg _ _ _ _ _ s6 τ H6 x u _ I6' r6 (step x H6 y6)) fun _ s7 ⟨τ7, H7, I7, q7⟩ => ?_
      refine thn (he _ _ _ _ _ s7 τ7 H7 _ I7 q7) fun uy s8 ⟨y, H8, I8, ry, w8⟩ => ?_
      have hD8 := I8.pin (s2.heap.objs.size, _) (List.mem_append_right _ (List.mem_append_left _ (List.mem_append_right _ (mem_pinsAt (List.mem_singleton.mpr rfl) hDo))))
      have P8 : s8.heap.PlainList s2.heap.objs.size its.toArray := ⟨k, hD8.1⟩
      have hlen := rv.length
      refine wpAny_list_append_plain P8 (fun h' pl' sb => ?_) (by rw [List.size_toArray, ← hlen]; omega)
      have I8u : Inv (compCx X scope cl N' P2.objs.size s2 H2 fp) pins τ7 H8 s8 := I8.unpinned.unpinned
      obtain ⟨d1, d2, d3, d4, d5, d6⟩ := Dok hD8.2.1
      have I9 : Inv (compCx X scope cl N' P2.objs.size s2 H2 fp) pins τ7 H8 { s8 with heap := h' } := I8u.turned (t' := s8.toks) (fun b o hb e => (sb.2 b hb).trans e) d1 d2 d4 d5 d6
      refine ⟨n - (i + 1), by omega, i + 1, ys ++ [y], τ7, H8, rfl, I9, ?_, fun b hb => ?_, hD8.2.1, ⟨its ++ [uy], rv.append (.cons ry .nil), by simpa using pl'⟩, w8⟩
      · refine T.keep _ _ _ st6 fun b hb o e => ?_
        have z : b ≠ s2.heap.objs.size := (below b (fpold b hb)).2
        exact (sb.2 b z).trans (I8.pin (b, o) (List.mem_append_right _ (List.mem_append_right _ (mem_pinsAt hb e)))).1
      · obtain ⟨o, e, d⟩ := T.obj _ _ st6 b hb
        exact (I8.pin (b, o) (List.mem_append_right _ (List.mem_append_right _ (mem_pinsAt hb e)))).2.1
  refine codeAny_compStart_list (loop _ rfl) (T.self _ 0 _ _ _ (T.keep _ _ _ st2 fun b _ o e => old b o e) (loop _ rfl))
end
end Zw

/-! ### exceptions of the text's own classes: raised in a def, passing the callers' frames, caught by name -/
namespace Zx
open PySem PySem.Spec PyProof.Rows L2 Zw

/-- how an exception lies behind a call: its address and class; the abstract heap, which B (all that stays while it flies) bears; what is wanted of it -/
def CX1 (P : Program) (w : World) : CXT := fun outer H s E e s' => ∃ (a : Addr) (cls : Value) (H' : Hp) (B : Heap) (a0 : Value),
  e = .ref a ∧ s'.os = s.os ∧ AllBare s'.gens ∧ Un (frs outer) [] H H' s.heap s'.heap ∧ HOk P w H' B ∧ (∀ b o, s.heap.get? b = some o → H b = none → b ∉ frs outer → B.get? b = some o) ∧
  (∀ b o, s.heap.get? b = some o → b ∉ frs outer → ∃ o', B.get? b = some o') ∧ Heap.FlyingW B outer a cls a0 s'.heap ∧ E cls none H'

theorem fn_up {P : Program} {w : World} {K : PySem.W.Frag} {mg : Str → Option Value} {base : Heap} {CX : CXT} {k : Nat} {f : Addr} {fd : FuncData} {ps : List Str} {sp : Sp} (F : FnOk P w K mg base CX0 k f fd ps sp) : FnOk P w K mg base CX k f fd ps sp := by
  refine ⟨F.len, fun A outer s H args us vs Q E hr e0 hb hv hs => codeAny_mono (F.run A outer s H args us vs Q E hr e0 hb hv hs) fun r s' h => ?_⟩
  cases r with
  | error e => exact False.elim h
  | ok fl => cases fl <;> exact h
theorem pass1 {X : Cx} {P : Program} {w : World} : Passes (CX1 P w) X E0 := fun _ _ _ _ _ _ _ h => by
  obtain ⟨_, _, _, _, _, _, _, _, _, _, _, _, _, z⟩ := h
  exact z.elim

/-- every tracked thing has its object -/
theorem there_of {P : Program} {w : World} {H : Hp} {h : Heap} {a : Addr} {o : HO} (x : ObjOk P w H h a o) : ∃ ob, h.get? a = some ob := by
  cases o with
  | lst xs => obtain ⟨_, _, _, _, e⟩ := x; exact ⟨_, e⟩
  | tup xs => obtain ⟨_, _, _, o', e, _⟩ := x; exact ⟨o', e⟩
  | dK kvs => obtain ⟨_, _, _, _, o', _, _, e, _⟩ := x; exact ⟨o', e⟩
  | dT kvs => obtain ⟨_, _, _, _, o', _, _, e, _⟩ := x; exact ⟨o', e⟩
  | set S n => obtain ⟨o', _, _, _, e, _⟩ := x; exact ⟨o', e⟩
  | ins C dx fs => obtain ⟨_, _, _, e, _⟩ := x; exact ⟨_, e⟩
  | own y => exact x
  | xd fs => obtain ⟨_, ⟨o', _, _, e, _⟩, _⟩ := x; exact ⟨o', e⟩
  | rng lo hi => obtain ⟨_, _, _, e⟩ := x; exact ⟨_, e⟩
  | frz ob u => obtain ⟨e, _⟩ := x; exact ⟨_, e⟩
  | tbl ps => exact ⟨_, (show h.get? a = some _ from x)⟩
  | met f y => exact ⟨_, (show h.get? a = some _ from x)⟩
  | ext φ => obtain ⟨_, e, _⟩ := x; exact e
theorem none_of {P : Program} {w : World} {H : Hp} {h : Heap} {a : Addr} (x : HOk P w H h) (e : h.get? a = none) : H a = none := by
  cases q : H a with
  | none => rfl
  | some u =>
    obtain ⟨ob, z⟩ := there_of (x a u q)
    rw [e] at z
    cases z
/-- a thing that lies there already is tracked from now on -/
theorem adopt1 {P : Program} {w : World} {H : Hp} {h : Heap} {a : Addr} {o : HO} (x : HOk P w H h) (hn : H a = none) (new : ObjOk P w (upd H a o) h a o) : HOk P w (upd H a o) h := fun b u e => by
  by_cases hb : b = a
  · subst hb
    have e' := upd_same.symm.trans e
    cases e'
    exact new
  · have e' := (upd_ne (H := H) (o := o) hb).symm.trans e
    exact (x b u e').stay (fun c v _ q => q) (fun c q => (upd_ne (ne_of_none q hn)).trans q) fun c xs q => (upd_ne (ne_of_none q hn)).trans q

/-- what is wanted of exceptions, by the names' values at the place: those of callees reach X.xe .. -/
def PassS (X : Cx) (E : L2.St → XK) : Prop := ∀ (pins : List (Addr × Obj)) (σ : L2.St) (H : Hp) (s : Shared) (e : Value) (s' : Shared), Inv X pins σ H s → CX1 X.prog X.w X.stack H s (E σ) e s' → X.xe e s'
/-- .. and those that are made here -/
def MadeS (X : Cx) (E : L2.St → XK) : Prop := ∀ (pins : List (Addr × Obj)) (σ : L2.St) (H : Hp) (s : Shared) (a : Addr) (cls : Value) (vs : List Value) (h' : Heap), Inv X pins σ H s → Heap.MadeExcOf s.heap h' a cls vs → E σ cls none H → X.xe (.ref a) { s with heap := h' }

section
variable {X : Cx} {pins : List (Addr × Obj)} {σ : L2.St} {H : Hp} {s : Shared}
theorem noframe (I : Inv X pins σ H s) {b : Addr} {o : Obj} (e : X.s₀.heap.get? b = some o) (hb : b ∉ frs X.outer) : b ∉ frs X.stack := fun z => by
  rcases List.mem_cons.mp (I.stkSub b z) with q | q
  · exact absurd (Nat.lt_of_lt_of_le (Heap.lt_size e) I.ok.above) (by rw [q]; exact Nat.lt_irrefl _)
  · exact hb q
theorem stack_sub (hst : X.stack = X.env :: X.outer) {b : Addr} (hb : b ∈ frs X.outer) : b ∈ frs X.stack := by
  rw [hst]
  obtain ⟨v, h1, h2⟩ := List.mem_filterMap.mp hb
  exact List.mem_filterMap.mpr ⟨v, List.mem_cons_of_mem _ h1, h2⟩
theorem hid_ok (I : Inv X pins σ H s) : HOk X.prog X.w H (PySem.W.hideAll s.heap (frs X.stack)) := fun b u e => (I.hok b u e).stay (fun c v hc q => PySem.W.hideAll_get _ q fun z => by
    have f := I.stkFree c z
    rcases hc with y | y
    · rw [y, e] at f
      cases f
    · rw [y] at f
      cases f) (fun _ q => q) fun _ _ q => q

/-- an exception made in this body leaves its frame -/
theorem made_ok (hst : X.stack = X.env :: X.outer) (hf : X.env.frame = some X.env.locals) (hex : X.ex = []) {E : XK} {a : Addr} {cls : Value} {vs : List Value} {h' : Heap} {Ex : Value → Shared → Prop} (I : Inv X pins σ H s) (hx : Heap.MadeExcOf s.heap h' a cls vs) (he : E cls none H) :
    wpAny (model X.prog X.w) X.A (leaving X.env (.ref a)) (fun _ s2 => CX1 X.prog X.w X.outer X.H₀ X.s₀ E (.ref a) s2) Ex { s with heap := h' } := by
  have nex : ∀ b : Addr, b ∉ X.ex := fun b z => by rw [hex] at z; cases z
  have hfr : X.A.frames = some (X.env :: X.outer) := hst ▸ I.ok.frames
  have FF : s.heap.FunFrames (PySem.W.hideAll s.heap (frs X.stack)) (X.env :: X.outer) := by
    rw [← hst]
    exact PySem.W.funFrames_hide I.stack fun v hv b hb => List.mem_filterMap.mpr ⟨v, hv, hb⟩
  refine wpAny_leaves_madeW (base := PySem.W.hideAll s.heap (frs X.stack)) (h := s.heap) (args := vs) hfr hf (fun b o q => PySem.W.of_hideAll _ q) FF hx fun h2 t fl _ _ sm => ?_
  have kB : ∀ b o, X.s₀.heap.get? b = some o → X.H₀ b = none → b ∉ frs X.outer → (PySem.W.hideAll s.heap (frs X.stack)).get? b = some o := fun b o e n hb => PySem.W.hideAll_get _ (I.base.keep b o e n hb (nex b)) (noframe I e hb)
  have tB : ∀ b o, X.s₀.heap.get? b = some o → b ∉ frs X.outer → ∃ o', (PySem.W.hideAll s.heap (frs X.stack)).get? b = some o' := fun b o e hb => by
    obtain ⟨o', e'⟩ := I.base.there b o e (nex b)
    exact ⟨o', PySem.W.hideAll_get _ e' (noframe I e hb)⟩
  have sl : ∀ b o, X.s₀.heap.get? b = some o → X.H₀ b = none → b ∈ frs X.outer → ∃ z, h2.get? b = some { o with slots := z } := fun b o e n hb => by
    obtain ⟨z, e1⟩ := I.base.slot b o e n hb (nex b)
    obtain ⟨_, o2, ho2, hd⟩ := I.funs.mem hb
    rw [e1] at ho2
    cases ho2
    obtain ⟨z3, e3⟩ := sm b { o with slots := z } (hx.keeps b _ e1) hd
    exact ⟨z3, e3⟩
  refine ⟨a, cls, H, _, _, rfl, I.os, I.bare, ⟨fun b o e n hb _ => fl.1 b o (kB b o e n hb), fun b o e n hb _ => sl b o e n hb, fun b o e n _ => I.base.free b o e n (nex b), fun b o e _ => ?_, I.base.tups, I.base.frzs, I.base.tbls⟩, hid_ok I, kB, tB, fl, he⟩
  by_cases hb : b ∈ frs X.outer
  · obtain ⟨z, q⟩ := sl b o e (I.ok.frf b hb) hb
    exact ⟨_, q⟩
  · obtain ⟨o', q⟩ := tB b o e hb
    exact ⟨o', fl.1 b o' q⟩
/-- an exception of a callee leaves this frame, too -/
theorem pass_ok (hst : X.stack = X.env :: X.outer) (hf : X.env.frame = some X.env.locals) (hex : X.ex = []) {E : XK} {e : Value} {s' : Shared} {Ex : Value → Shared → Prop} (I : Inv X pins σ H s) (h : CX1 X.prog X.w X.stack H s E e s') :
    wpAny (model X.prog X.w) X.A (leaving X.env e) (fun _ s2 => CX1 X.prog X.w X.outer X.H₀ X.s₀ E e s2) Ex s' := by
  obtain ⟨a, cls, H', B, a0, rfl, os, bare, un, hok, kB0, tB0, fl0, he⟩ := h
  have nex : ∀ b : Addr, b ∉ X.ex := fun b z => by rw [hex] at z; cases z
  have hfr : X.A.frames = some (X.env :: X.outer) := hst ▸ I.ok.frames
  have fl1 : Heap.FlyingW B (X.env :: X.outer) a cls a0 s'.heap := hst ▸ fl0
  refine wpAny_leaves_onW hfr hf fl1 fun h2 fl sm => ?_
  have kB : ∀ b o, X.s₀.heap.get? b = some o → X.H₀ b = none → b ∉ frs X.outer → B.get? b = some o := fun b o e n hb => kB0 b o (I.base.keep b o e n hb (nex b)) (I.base.free b o e n (nex b)) (noframe I e hb)
  have tB : ∀ b o, X.s₀.heap.get? b = some o → b ∉ frs X.outer → ∃ o', B.get? b = some o' := fun b o e hb => by
    obtain ⟨o', e'⟩ := I.base.there b o e (nex b)
    exact tB0 b o' e' (noframe I e hb)
  have sl : ∀ b o, X.s₀.heap.get? b = some o → X.H₀ b = none → b ∈ frs X.outer → ∃ z, h2.get? b = some { o with slots := z } := fun b o e n hb => by
    obtain ⟨z, e1⟩ := I.base.slot b o e n hb (nex b)
    obtain ⟨_, o2, ho2, hd⟩ := I.funs.mem hb
    rw [e1] at ho2
    cases ho2
    obtain ⟨z2, e2⟩ := un.slot b { o with slots := z } e1 (I.base.free b o e n (nex b)) (stack_sub hst hb) (by simp)
    obtain ⟨z3, e3⟩ := sm b { o with slots := z2 } e2 hd
    exact ⟨z3, e3⟩
  refine ⟨a, cls, H', B, a0, rfl, os.trans I.os, bare, ⟨fun b o e n hb _ => fl.1 b o (kB b o e n hb), fun b o e n hb _ => sl b o e n hb, fun b o e n _ => ?_, fun b o e _ => ?_, fun b xs e => un.tups b xs (I.base.tups b xs e), fun b o u e => un.frzs b o u (I.base.frzs b o u e), fun b ps e => ?_⟩, hok, kB, tB, fl, he⟩
  · obtain ⟨o', e'⟩ := I.base.there b o e (nex b)
    exact un.free b o' e' (I.base.free b o e n (nex b)) (by simp)
  · by_cases hb : b ∈ frs X.outer
    · obtain ⟨z, q⟩ := sl b o e (I.ok.frf b hb) hb
      exact ⟨_, q⟩
    · obtain ⟨o', q⟩ := tB b o e hb
      exact ⟨o', fl.1 b o' q⟩
  · obtain ⟨m1, e1⟩ := I.base.tbls b ps e
    obtain ⟨m2, e2⟩ := un.tbls b _ e1
    exact ⟨m1 ++ m2, e2.trans (by rw [Array.append_assoc])⟩
end

section
variable {P : Program} {w : World} {K : PySem.W.Frag} {mg : Str → Option Value} {base : Heap}
theorem passD {N : List Str} {qual : Str} {sc : Scope} {f : Addr} {cd : Value} {A : Around} {outer : List Env} {s : Shared} {H : Hp} {E : XK} : PassS (cxOf (CX1 P w) P w K mg base N qual sc f cd A outer s H E) (fun _ => E) :=
  fun _ _ _ _ _ _ I h => pass_ok rfl rfl rfl I h
theorem madeD {N : List Str} {qual : Str} {sc : Scope} {f : Addr} {cd : Value} {A : Around} {outer : List Env} {s : Shared} {H : Hp} {E : XK} : MadeS (cxOf (CX1 P w) P w K mg base N qual sc f cd A outer s H E) (fun _ => E) :=
  fun _ _ _ _ _ _ _ _ I hx he => made_ok rfl rfl rfl I hx he
/-- THE RULE for a def that may raise -/
theorem okX {x qual : Str} {st : Stmt} {f : Addr} {fd : FuncData} {N ps : List Str} {k : Nat} {sp : Sp} (F : FunD K x qual st f fd) (S : FnScope N ps (defScope st)) (len : ∀ vs H Q E, sp vs H Q E → vs.length = ps.length)
    (hbody : ∀ (cdv : Value) (A : Around) (outer : List Env) (s : Shared) (H : Hp) (vs : List V) (Q : VK) (E : XK), Room k (A.deeper (envOfC qual (defScope st) s.heap.objs.size f cdv)) → sp vs H Q E →
      ∃ t, PSs (cxOf (CX1 P w) P w K mg base N qual (defScope st) f cdv A outer s H E) (defBody st) t ∧ t { nx := fun _ H' => Q .non H', rt := Q } (start N vs) H) : FnOk P w K mg base (CX1 P w) (k + 1) f fd ps sp := by
  obtain ⟨oc, od, dV, kV, doc, pm, an, cdv, ct, osl, rfl, lk, hcd⟩ := F.ex
  exact fn_of lk hcd S len fun A outer s H vs Q E hr hsp => hbody cdv A outer s H vs Q E hr hsp
end

/-- a def that may raise, and its promise -/
structure DefX (P : Program) (w : World) (K : PySem.W.Frag) (mg : Str → Option Value) (base : Heap) (k : Nat) (x : Str) (ps : List Str) (sp : Sp) where
  f : Addr
  fd : FuncData
  ok : FnOk P w K mg base (CX1 P w) k f fd ps sp
  m : mg x = some (.ref f)
  kp : PySem.W.keepIn K (.ref f) = true
  b : Binds K fd ps []
/-- a def whose last parameters have int defaults: how they bind when left out -/
structure DefsX (K : PySem.W.Frag) (fd : FuncData) (ps : List Str) (dvs : List V) : Prop where
  ex : ∃ ds, Binds K fd ps ds ∧ Vals dvs ds
/-- two parameters, the second left out -/
theorem binds1 {K : PySem.W.Frag} {fd : FuncData} {a b : Str} {d : Value} (h : ∀ (s : Shared) (u : Value), K.In s.heap → BindsTo s fd ⟨[u], []⟩ [(a, u), (b, d)]) : Binds K fd [a, b] [d] := fun s us X hl => by
  rcases us with _ | ⟨u, us⟩
  · cases hl
  · rcases us with _ | ⟨u2, us⟩
    · exact h s u X
    · simp at hl
section
variable {X : Cx} {k j : Nat} {f : Addr} {fd : FuncData} {x : Str} {ps : List Str} {sp : Sp} {p pos : Pos} {e : Expr} {es : List Expr} {t : TA} {E : L2.St → XK} {dvs : List V}
/-- the callee runs; its exceptions are wanted so -/
theorem run_fnX {pins : List (Addr × Obj)} {σ : L2.St} {H : Hp} {s : Shared} {Q : VK} {us ds : List Value} {vs : List V} (F : FnOk X.prog X.w X.K X.mg X.base (CX1 X.prog X.w) k f fd ps sp) (hr : Room k X.A) (hb : Binds X.K fd ps ds) (hd : Vals dvs ds) (hx : PassS X E)
    (I : Inv X pins σ H s) (r : Vals vs us) (h : sp (vs ++ dvs) H Q (E σ)) : wpAny (model X.prog X.w) X.A (call (.ref f) us) (EP X pins σ Q) X.xe s := by
  have r2 : Vals (vs ++ dvs) (us ++ ds) := r.append hd
  have hl : (us ++ ds).length = ps.length := r2.length.symm.trans (F.len _ _ _ _ h)
  refine wpAny_call (codeAny_mono (F.run X.A X.stack s H ⟨us, []⟩ (us ++ ds) (vs ++ dvs) Q (E σ) hr I.env0 (hb s us I.kIn hl) r2 h) fun r s' hq => ?_)
  cases r with
  | error v => exact hx pins σ H s v s' I hq
  | ok fl =>
    cases fl with
    | ret u => exact I.after hq
    | _ => exact False.elim hq
def tCallX (sp : Sp) (dvs : List V) (E : L2.St → XK) (t : TA) : TE := fun σ H Q => t σ H fun vs H1 => sp (vs ++ dvs) H1 Q (E σ)
/-- f(..) of a def that may raise -/
theorem px (D : DefX X.prog X.w X.K X.mg X.base k x ps sp) (hr : Room j X.A) (hx : PassS X E) (ha : PA X (e :: es) t) (hk : k ≤ j := by decide) (hg : Gl X x := by rfl) (hdb : (x == ("__debug__" : Str)) = false := by decide)
    (he : starEach (e :: es) X.env = (false, eval e X.env) :: starEach es X.env := by rfl) (hpl : (backTo pos (starEach es X.env)).any (·.1) = false := by rfl) : PE X (.Call (.Name x p) (e :: es) [] pos) (tCallX sp [] E t) := by
  intro pins s σ H Q I h
  refine wpAny_Call_Name_kw (ld_glob I hg D.m ?_ hdb)
  refine PySem.W.callWith_K (h₀ := X.base) I.ok.mod.kin D.kp (thn (ha pos pins s σ H _ I h) fun us s1 ⟨vs, H1, I1, r, q⟩ => ⟨I1.kIn, ?_⟩) he hpl
  exact run_fnX D.ok (hr.mono hk) D.b .nil hx I1 r q
/-- .. with parameters left out -/
theorem pxd (D : DefX X.prog X.w X.K X.mg X.base k x ps sp) (DD : DefsX X.K D.fd ps dvs) (hr : Room j X.A) (hx : PassS X E) (ha : PA X (e :: es) t) (hk : k ≤ j := by decide) (hg : Gl X x := by rfl) (hdb : (x == ("__debug__" : Str)) = false := by decide)
    (he : starEach (e :: es) X.env = (false, eval e X.env) :: starEach es X.env := by rfl) (hpl : (backTo pos (starEach es X.env)).any (·.1) = false := by rfl) : PE X (.Call (.Name x p) (e :: es) [] pos) (tCallX sp dvs E t) := by
  intro pins s σ H Q I h
  obtain ⟨ds, hb, hd⟩ := DD.ex
  refine wpAny_Call_Name_kw (ld_glob I hg D.m ?_ hdb)
  refine PySem.W.callWith_K (h₀ := X.base) I.ok.mod.kin D.kp (thn (ha pos pins s σ H _ I h) fun us s1 ⟨vs, H1, I1, r, q⟩ => ⟨I1.kIn, ?_⟩) he hpl
  exact run_fnX D.ok (hr.mono hk) hb hd hx I1 r q
/-- no exception is wanted here -/
theorem pass00 : PassS X (fun _ => E0) := fun _ _ _ _ _ _ _ h => by
  obtain ⟨_, _, _, _, _, _, _, _, _, _, _, _, _, z⟩ := h
  exact z.elim
end

/-! ### an own class of errors -/
abbrev vmro : List Value := [.type "ValueError", .type "Exception", .type "BaseException", .type "object"]
/-- what is known of the class of an exception -/
structure ExcK (K : PySem.W.Frag) (C : Addr) : Prop where
  q : PySem.W.excIn K C vmro "ValueError.__new__" = true
  self : PySem.W.subIn K (.ref C) (.ref C) = some true
  cd : ∃ cd, PySem.W.clsIn K C = some cd
  ty : PySem.W.typeIn K (.ref C) = some (.type "type")
  ga : PySem.W.findIn K (.ref C) "__getattribute__" = some (some (.builtin "BaseException.__getattribute__"))
  gt : PySem.W.findIn K (.ref C) "__getattr__" = some none
  ca : PySem.W.findIn K (.ref C) "__class__" = some (some (.builtin "object.__class__"))
  ob : PySem.W.mroIn K C (.type "object") = some true
  be : PySem.W.mroIn K C (.type "BaseException") = some true
  gs : PySem.W.specialIn K (.builtin "object.__class__") "__get__" = some (some (.builtin "getset_descriptor.__get__"))
  tk : PySem.W.takesIn K (.builtin "object.__class__") = some true
structure ECls (K : PySem.W.Frag) (mg : Str → Option Value) (x : Str) where
  C : Addr
  m : mg x = some (.ref C)
  k : ExcK K C
theorem exc_in {K : PySem.W.Frag} {h : Heap} {C : Addr} {bmB : List Value} {newId : String} (X : K.In h) (q : PySem.W.excIn K C bmB newId = true) : ∃ bm N nm qn bs hd sn sub ab col dd k0 k1 k2 k3 k5 mN,
    h.get? C = some (excClassObj nm qn C N bs bm hd sn sub ab col dd k0 k1 k2 k3 k5 newId) ∧ h.Ns N mN ∧ mN "__init__" = none ∧ OwnTail h bmB bm := by
  unfold PySem.W.excIn at q
  split at q
  · rename_i dd cd sl ho
    split at q
    · rename_i C2 bm k0 k1 k2 k3 nid k5 hm hs
      simp only [Bool.not_eq_true', Bool.and_eq_true, beq_iff_eq] at q
      obtain ⟨⟨⟨⟨⟨z1, z2⟩, hdel⟩, ht⟩, hok⟩, hni⟩ := q
      subst z1
      subst z2
      obtain ⟨nm, bs, mro, nsp, qn, hd, sn, sub, ab, col, dl⟩ := cd
      dsimp only at hm hok hni hdel
      subst hm
      subst hdel
      have hsl : sl = #[k0, k1, k2, k3, some (.builtin nid), k5] := by
        obtain ⟨l⟩ := sl
        have hs' : l = [k0, k1, k2, k3, some (.builtin nid), k5] := hs
        rw [hs']
      subst hsl
      exact ⟨bm, nsp, nm, qn, bs, hd, sn, sub, ab, col, dd, k0, k1, k2, k3, k5, _, X _ _ ho, .of_isNs (PySem.W.isNs_of_in X hok), PySem.W.nsMap_none_of_in X hok hni, PySem.W.tail_of_in X ht⟩
    · exact absurd q Bool.false_ne_true
  · exact absurd q Bool.false_ne_true

section
variable {X : Cx} {x : Str} {p cpos pos : Pos} {e : Expr} {es : List Expr} {t : TA} {E : L2.St → XK}
/-- raise C(..) -/
def tRaise (C : Addr) (E : L2.St → XK) (t : TA) : TS := fun _ σ H => t σ H fun vs H1 => vs.length ≤ sizeLine ∧ E σ (.ref C) none H1
theorem ps_raise (T : ECls X.K X.mg x) (hc : X.calm = true) (hx : MadeS X E) (ha : PA X (e :: es) t) (hg : Gl X x := by rfl) (hdb : (x == ("__debug__" : Str)) = false := by decide)
    (he : starEach (e :: es) X.env = (false, eval e X.env) :: starEach es X.env := by rfl) (hpl : (backTo cpos (starEach (e :: es) X.env)).any (·.1) = false := by rfl) :
    PS X (.Raise (some (.Call (.Name x p) (e :: es) [] cpos)) none pos) (tRaise T.C E t) := by
  intro pins s σ H D I h
  obtain ⟨bm, N, nm, qn, bs, hd, sn, sub, ab, col, dd, k0, k1, k2, k3, k5, mN, hC, hN, hni, TL⟩ := exc_in I.mod.kin T.k.q
  refine wpAny_Raise_call_subT (C := T.C) (nm := nm) (q := qn) (N := N) (bs := bs) (bm := bm) (hdct := hd) (sn := sn) (sub := sub) (ab := ab) (col := col) (dd := dd) (k0 := k0) (k1 := k1) (k2 := k2) (k3 := k3) (k5 := k5) (mN := mN)
    PySem.F.excBase_ValueError (TL.hasType PySem.F.excBase_ValueError.hasBase) (I.ok.hd hc) hpl hni (ld_glob I hg T.m ⟨rfl, ?_⟩ hdb)
  have h2 := ha cpos pins s σ H _ I h
  rw [he] at h2 ⊢
  exact Calls.evalArgs_plain (thn h2 fun us s1 ⟨vs, H1, I1, r, z, q1⟩ => ⟨rfl, r.length ▸ z, I1.bk _ _ hC, hN.keeps I1.bk, TL.keeps I1.bk, fun h' a hm => hx pins σ H1 s1 a _ us h' I1 hm q1⟩)
end

/-! ### the caught exception as a value: isinstance -/
/-- an exception of the class at C lies at a -/
def ExcO (a C : Addr) : HO := .ext fun h => ∃ o, h.get? a = some o ∧ o.cls = .ref C
section
variable {K : PySem.W.Frag} {a C : Addr}
open PySem.W PySem.Builtin PySem.Builtin.ObjectAttr PySem.Builtin.Getset_descriptor in
theorem xc_get {prog : Program} {w : World} {A : Around} {R : Result → Shared → Prop} {s : Shared} {tp : Value} (X : K.In s.heap) (k : ExcK K C) (h0 : ∃ o, s.heap.get? a = some o ∧ o.cls = .ref C)
    (h : R (.ok (.ret (.ref C))) s) : codeAny (model prog w) A (.call (.builtin "getset_descriptor.__get__") ⟨[.builtin "object.__class__", .ref a, tp], []⟩) R s := by
  obtain ⟨o, ho, hc⟩ := h0
  obtain ⟨hp9, g, dr, t, os⟩ := s
  have L0 : Looks (model prog w) hp9 (typeOf (.ref a)) (.ref C) := hc ▸ (Looks.ld ho).andThen .now
  have L1 := looks_mroIn (M := model prog w) X k.ob
  refine (codeAny_call_builtin KF.slot_gs.plain KF.entry_gs (KF.slot_gs.check _ _ _ _ _ _ _ _ KF.type_class (KF.args_gs _ _ _) ?_))
  unfold Builtin.«getset_descriptor.__get__» descrGet; rw [dga_obj]
  refine wpAny_bind (wpAny_pure ?_); unfold descrGetter descrCheckInstance descrNameAndClass isInstance
  simp only [KF.owner_class]
  repeat lk
  refine ⟨(Code.quiet_builtin _ (by decide +kernel)), (codeAny_builtin KF.entry_class ?_)⟩
  (unfold Builtin.«object.__class__» shownTypeOf)
  repeat lk
  exact h
open PySem.W PySem.Builtin PySem.Builtin.ObjectAttr in
theorem xc_find {M : Model} {h : Heap} (X : K.In h) (k : ExcK K C) : Looks M h (Builtin.ObjectAttr.find (.ref a) (.ref C) "__class__") (.bind (.builtin "getset_descriptor.__get__") (.builtin "object.__class__")) := by
  have L1 := looks_findIn (M := M) X k.ca
  have L2 : Looks M h (getOf (some (.builtin "object.__class__"))) (some (.builtin "getset_descriptor.__get__")) := looks_specialIn X k.gs
  have L3 := looks_takesIn (M := M) X k.tk
  exact L1.andThen (L2.andThen ((show Looks M h (dataDescriptor? (some (.builtin "object.__class__")) (some (.builtin "getset_descriptor.__get__"))) (some (.builtin "getset_descriptor.__get__", .builtin "object.__class__")) from L3.andThen .now).andThen (Looks.tag .now)))
theorem xc_ga_ne : (Value.builtin "BaseException.__getattribute__" == Value.builtin "object.__getattribute__") = false := by decide +kernel
theorem xc_kind : builtinKind "BaseException.__getattribute__" = some .slot := by decide +kernel
theorem xc_split : splitId "BaseException.__getattribute__" = some ("BaseException", "__getattribute__") := by decide +kernel
open PySem.W in
theorem xc_attr {prog : Program} {w : World} {A : Around} {E : Value → Shared → Prop} {Q : Option Value → Shared → Prop} {s : Shared} (X : K.In s.heap) (k : ExcK K C) (h0 : ∃ o, s.heap.get? a = some o ∧ o.cls = .ref C)
    (h : Q (some (.ref C)) { s with toks := s.toks + 1 }) : wpAny (model prog w) A (getAttr? (.ref a) "__class__") Q E s := by
  obtain ⟨o, ho, hc⟩ := id h0
  obtain ⟨hp9, g, dr, t, os⟩ := s
  have L0 : Looks (model prog w) hp9 (typeOf (.ref a)) (.ref C) := hc ▸ (Looks.ld ho).andThen .now
  have L1 := looks_findIn (M := model prog w) X k.ga
  have L2 := looks_findIn (M := model prog w) X k.gt
  have LI : Looks (model prog w) hp9 (isInstance (.ref a) (.type "BaseException")) true := L0.andThen (looks_mroIn X k.be)
  have LF := xc_find (M := model prog w) (a := a) X k
  (unfold getAttr? getAttrBy? getAttrBy)
  refine wpAny_bind (wpAny_mkText (wpAny_bind (wpAny_attempt (wpAny_holding (wpAny_bind (L0.at (wpAny_bind (L1.at ?ga))))))))
  case ga =>
    have hx1 : (onTheHeap (Value.ref C) && Value.builtin "BaseException.__getattribute__" == Value.builtin "object.__getattribute__") = false := by
      rw [xc_ga_ne]
      rfl
    dsimp only
    rw [if_neg (by rw [hx1]; exact Bool.false_ne_true)]
    unfold getAttrByItsOwn hookBefore
    rw [if_pos (show onTheHeap (Value.ref C) = true from rfl)]
    refine wpAny_bind (L2.at (wpAny_bind (wpAny_attempt (wpAny_holding ?_))))
    unfold callGetattribute boundAndCalled
    rw [if_neg (by exact Bool.false_ne_true)]
    refine wpAny_bind (wpAny_of_eq (PySem.F.excAttr_ValueError.ga.bind (.ref a)) ?_)
    show wpAny _ _ (call (.builtin "BaseException.__getattribute__") [.ref a, .str "__class__" t]) _ _ _
    refine wpAny_call (codeAny_call_builtin PySem.F.excAttr_ValueError.ga.plain PySem.F.entry_bexc_ga ?_)
    have ha := PySem.F.args_bexc_ga (.ref a) (.str (Str.ofString "__class__") t)
    obtain ⟨i, hi⟩ : ∃ i, i = "BaseException.__getattribute__" := ⟨_, rfl⟩
    have k1 := xc_kind
    have k2 := xc_split
    rw [← hi] at k1 k2 ha ⊢
    refine PySem.W.check_slot k1 k2 LI ha ?_
    refine wpAny_bind (wpAny_pure (wpAny_bind (wpAny_pure (wpAny_bind (L0.at (wpAny_bind (LF.at ?_)))))))
    show wpAny _ _ (holding [.builtin "object.__class__"] (call (.builtin "getset_descriptor.__get__") [.builtin "object.__class__", .ref a, .ref C]) >>= ret) _ _ _
    refine wpAny_bind (wpAny_holding (wpAny_call (xc_get X k h0 ?_)))
    exact wpAny_pure (handed_on rfl (wpAny_pure h))
open PySem.W in
theorem kitx_exc (k : ExcK K C) : KitX K (.ref a) (.ref C) (fun h => ∃ o, h.get? a = some o ∧ o.cls = .ref C) where
  ty := fun _ _ _ p => by
    obtain ⟨o, ho, hc⟩ := p
    exact hc ▸ (Looks.ld ho).andThen .now
  it := fun _ _ X _ => by
    obtain ⟨cd, hcd⟩ := k.cd
    unfold clsIn at hcd
    split at hcd
    · rename_i c' d' cd' sl' ho
      intro A' Q' E' s' kk q
      unfold isType loadHead
      exact (wpAny_bind (wpAny_loadPart (kk _ _ (X _ _ ho)) (wpAny_pure q)))
    · cases hcd
  ne := fun h tp dd its n sl X hq0 => by
    obtain ⟨cd, hcd⟩ := k.cd
    refine (Bool.eq_false_iff.mpr fun q => ?_)
    have e : C = tp := Value.ref.inj (beq_iff_eq.mp q)
    subst e
    unfold clsIn at hcd
    split at hcd
    · rename_i c' d' cd' sl' ho
      have z := (X _ _ ho).symm.trans hq0
      cases z
    · cases hcd
  ca := fun X p kk => xc_attr X k p kk
/-- own classes as isinstance asks them -/
theorem kit_own {D : Addr} {b : Bool} (k : ExcK K C) (kd : ExcK K D) (hs : PySem.W.subIn K (.ref C) (.ref D) = some b) : PySem.W.kitOne K (.ref C) (.ref D) = some b := by
  unfold PySem.W.kitOne
  split
  · rename_i q
    have e : C = D := Value.ref.inj (beq_iff_eq.mp q)
    subst e
    exact k.self.symm.trans hs
  · unfold PySem.W.kitCls
    obtain ⟨cd, hcd⟩ := kd.cd
    show (if _ then PySem.W.subIn K (.ref C) (.ref D) else none) = some b
    rw [if_pos (by rw [hcd, kd.ty]; rfl)]
    exact hs
theorem kitMeta_VE : PySem.W.kitMeta "ValueError" = true := by decide +kernel
theorem kit_VE (hs : PySem.W.subIn K (.ref C) (.type "ValueError") = some true) : PySem.W.kitOne K (.ref C) (.type "ValueError") = some true := by
  unfold PySem.W.kitOne
  rw [if_neg (fun q => by cases (beq_iff_eq.mp q))]
  unfold PySem.W.kitCls
  show (if _ then PySem.W.subIn K (.ref C) (.type "ValueError") else none) = some true
  rw [if_pos kitMeta_VE]
  exact hs
end
/-- a class as a value -/
def clsV : V → Value
  | .ref C => .ref C
  | .ty T => .type T
  | _ => .none
section
variable {X : Cx}
/-- isinstance(e, C) of a caught exception -/
theorem call_isX : CallR X (.builtin "isinstance") (fun xs H Q => ∃ a C c b, xs = [.ref a, c] ∧ H a = some (ExcO a C) ∧ ExcK X.K C ∧ (∃ D, c = .ref D ∨ ∃ T, c = .ty T) ∧ PySem.W.kitOne X.K (.ref C) (clsV c) = some b ∧ Q (.bl b) H) := by
  intro pins s σ H xs us Q I r h
  obtain ⟨a, C, c, b, rfl, ho, k, hc, e, q⟩ := h
  obtain ⟨u, w', rfl, rx, ry⟩ := vals2 r
  cases rx
  have hv : w' = clsV c := by
    obtain ⟨D, hc | ⟨T, hc⟩⟩ := hc
    · subst hc
      exact ry
    · subst hc
      exact ry
  subst hv
  have p0 : ∃ o, s.heap.get? a = some o ∧ o.cls = .ref C := (I.hok a _ ho).1
  exact PySem.W.kia_one (kitx_exc k) I.kIn p0 e (fun z => nomatch z) fun tk => ⟨.bl b, H, I.tok _, rfl, q⟩
theorem call_isXK {K' : PySem.W.Frag} (hK : X.K = K') : CallR X (.builtin "isinstance") (fun xs H Q => ∃ a C c b, xs = [.ref a, c] ∧ H a = some (ExcO a C) ∧ ExcK K' C ∧ (∃ D, c = .ref D ∨ ∃ T, c = .ty T) ∧ PySem.W.kitOne K' (.ref C) (clsV c) = some b ∧ Q (.bl b) H) := by
  subst hK
  exact call_isX
end

/-! ### try: .. except C as e: .. -/
/-- the context of a try's body -/
abbrev cxTry (X : Cx) (pins : List (Addr × Obj)) (xe : Value → Shared → Prop) : Cx := { X with pn := X.pn ++ pins, xe := xe }
/-- .. of the suite behind except; no exception leaves it -/
abbrev cxSuite (X : Cx) (a : Addr) : Cx := { X with A := X.A.mark (some (.ref a)), calm := false, xe := fun _ _ => False }
section
variable {X : Cx} {pins : List (Addr × Obj)} {σ : L2.St} {H : Hp} {s : Shared} {xe : Value → Shared → Prop}
theorem ok_try (ok : X.Ok) : (cxTry X pins xe).Ok := ⟨ok.mod, ok.kind, ok.glob, ok.blt, ok.above, ok.inj, ok.has, ok.cab, ok.hd, ok.frames, ok.stk, ok.exf, ok.bs, ok.bsz, ok.noex, ok.exfs, ok.funs, ok.frf⟩
theorem ok_suite {a : Addr} (ok : X.Ok) : (cxSuite X a).Ok := ⟨ok.mod, ok.kind, ok.glob, ok.blt, ok.above, ok.inj, ok.has, ok.cab, fun z => Bool.noConfusion z, ok.frames, ok.stk, ok.exf, ok.bs, ok.bsz, ok.noex, ok.exfs, ok.funs, ok.frf⟩
theorem unok_suite {a : Addr} {ok0 : X.calm = true → X.A.handled = none} (ok : (cxSuite X a).Ok) : X.Ok := ⟨ok.mod, ok.kind, ok.glob, ok.blt, ok.above, ok.inj, ok.has, ok.cab, ok0, ok.frames, ok.stk, ok.exf, ok.bs, ok.bsz, ok.noex, ok.exfs, ok.funs, ok.frf⟩
theorem in_try (I : Inv X pins σ H s) : Inv (cxTry X pins xe) [] σ H s := ⟨ok_try I.ok, I.os, I.bare, I.base, I.loc, I.cell, I.free, I.freeC, fun p hp => I.pin p (by simpa using hp), I.hok, I.len⟩
theorem of_try {ok : X.Ok} {pn2 : List (Addr × Obj)} (I : Inv (cxTry X pins xe) pn2 σ H s) : Inv X pins σ H s := ⟨ok, I.os, I.bare, I.base, I.loc, I.cell, I.free, I.freeC, fun p hp => I.pin p (List.mem_append_left _ hp), I.hok, I.len⟩
theorem in_suite {a : Addr} (I : Inv X pins σ H s) : Inv (cxSuite X a) pins σ H s := ⟨ok_suite I.ok, I.os, I.bare, I.base, I.loc, I.cell, I.free, I.freeC, I.pin, I.hok, I.len⟩
theorem of_suite {a : Addr} (ok : X.Ok) (I : Inv (cxSuite X a) pins σ H s) : Inv X pins σ H s := ⟨ok, I.os, I.bare, I.base, I.loc, I.cell, I.free, I.freeC, I.pin, I.hok, I.len⟩
/-- the name goes behind the suite -/
theorem gone {i t : Nat} {n : Str} {v : Option Value} {m : Str → Option Value} {h' : Heap} (I : Inv X pins σ H s) (hN : X.N.Nodup) (hi : X.N[i]? = some n) (hm : s.heap.Ns X.env.locals m) (hn : h'.Ns X.env.locals (fun x => if x = n then v else m x))
    (hs : Heap.SameBut X.env.locals s.heap h') : Inv X pins (σ.set i none) H { s with heap := h', toks := t } := by
  have neL : ∀ b o, X.s₀.heap.get? b = some o → b ≠ X.env.locals := fun b o e => Nat.ne_of_lt (Nat.lt_of_lt_of_le (Heap.lt_size e) I.ok.above)
  have hok : HOk X.prog X.w H h' := fun b u e => (I.hok b u e).stay (fun c x hc q => (hs.2 c (fun z => by
      have f := I.free
      rcases hc with y | y
      · rw [← z, y, e] at f
        cases f
      · rw [← z, y] at f
        cases f)).trans q) (fun _ q => q) fun _ _ q => q
  refine ⟨I.ok, I.os, I.bare, ⟨fun b o e n hb hx => (hs.2 b (neL b o e)).trans (I.base.keep b o e n hb hx), fun b o e n hb hx => ?_, I.base.free, fun b o e hx => ?_, I.base.tups, I.base.frzs, I.base.tbls⟩, ⟨_, hn, fun j y v' e1 e2 e3 => ?_⟩, fun y c e => ?_, I.free, I.freeC, fun p hp => ?_, hok, by rw [List.length_set]; exact I.len⟩
  · obtain ⟨z, e1⟩ := I.base.slot b o e n hb hx
    exact ⟨z, (hs.2 b (neL b o e)).trans e1⟩
  · obtain ⟨o', e1⟩ := I.base.there b o e hx
    exact ⟨o', (hs.2 b (neL b o e)).trans e1⟩
  · have hj : j ≠ i := fun z => by
      subst z
      have hl : j < σ.length := by
        rw [I.len]
        exact (List.getElem?_eq_some_iff.mp hi).1
      rw [List.getElem?_set_self hl] at e2
      cases e2
    rw [List.getElem?_set_ne (Ne.symm hj)] at e2
    obtain ⟨m2, hn2, hl2⟩ := I.loc
    obtain ⟨u, r, q⟩ := hl2 j y v' e1 e2 e3
    refine ⟨u, r, ?_⟩
    rcases q with ⟨kk, e⟩ | ⟨kk, c, e, z⟩
    · refine .inl ⟨kk, ?_⟩
      have hy : y ≠ n := fun z => hj (nodup_ix hN e1 (z ▸ hi))
      have em : m2 y = m y := by
        obtain ⟨o1, es1, ep1, a1, b1, _, c1⟩ := hn2
        obtain ⟨o2, es2, ep2, a2, b2, _, c2⟩ := hm
        rw [a1] at a2
        cases a2
        rw [b1] at b2
        cases b2
        rw [← c1, ← c2]
      show (if y = n then v else m y) = some u
      rw [if_neg hy, ← em]
      exact e
    · exact .inr ⟨kk, c, e, z.sameBut hs (I.cne y c e)⟩
  · obtain ⟨w', z⟩ := I.cell y c e
    exact ⟨w', z.sameBut hs (I.cne y c e)⟩
  · obtain ⟨e, n, ne, nf, d⟩ := I.pin p hp
    exact ⟨(hs.2 p.1 ne).trans e, n, ne, nf, d⟩
end
/-- the ends of a suite whose name goes -/
def goneD (i : Nat) (D : Ends) : Ends := { nx := fun σ H => D.nx (σ.set i none) H, rt := D.rt, bk := fun σ H => D.bk (σ.set i none) H, ct := fun σ H => D.ct (σ.set i none) H }
/-- E: what is known of the exceptions of the body; W: the class that is named behind except; i: the slot of the name -/
def tTry (K : PySem.W.Frag) (W : Addr) (i : Nat) (E : L2.St → XK) (tb th : TS) : TS := fun D σ H => tb D σ H ∧ ∀ σ1 cls H1, E σ1 cls none H1 → ∃ C, cls = .ref C ∧ PySem.W.subIn K (.ref C) (.ref W) = some true ∧
  ∀ a, H1 a = none → th (goneD i D) (σ1.set i (some (.ref a))) (upd H1 a (ExcO a C))
section
variable {A : Around} {E : Value → Shared → Prop} {M : Model}
theorem exm {h : Heap} {g : Array GenState} {d : Drawn} {t : Nat} {os : OsState} {a C W N : Addr} {oe : Obj} {Q : Bool → Shared → Prop} {nm q : Str} {bs bm : List Value} {hdct : Bool} {sn : List Str} {sub : List Value} {ab : Bool} {col : Option Bool} {dd : Option Addr}
    {k0 k1 k2 k3 k5 : Option Value} {newId : String} (hW : h.get? W = some (excClassObj nm q W N bs bm hdct sn sub ab col dd k0 k1 k2 k3 k5 newId)) (he : h.get? a = some oe) (hcls : oe.cls = .ref C) (hb : bm.contains (.type "BaseException") = true)
    (LS : PySem.W.Looks M h (isSubtype (.ref C) (.ref W)) true) (hq : Q true ⟨h, g, d, t, os⟩) : wpAny M A (excMatches (.ref a) (.ref W)) Q E ⟨h, g, d, t, os⟩ := by
  have hcB : (Value.ref W :: bm).contains (.type "BaseException") = true := by
    rw [List.contains_cons, hb]
    exact Bool.or_true _
  have f := tc_notTuple
  unfold excMatches
  repeat (first | (with_reducible refine wpAny_loadPart_at he ?_; rw [hcls]) | with_reducible refine wpAny_loadPart_at hW ?_ | (with_reducible refine wpAny_isSubtype_exc hW ?_; rw [hcB]) | with_reducible refine PySem.W.Looks.at LS ?_ | wp_step)
  exact hq
end
section
variable {X : Cx} {i : Nat} {x n : Str} {np pos hpos : Pos} {body suite : List Stmt} {b₀ : Stmt} {tb th : TS} {E : L2.St → XK}
theorem ps_try (T : ECls X.K X.mg x) (hst : X.stack = X.env :: X.outer) (hf : X.env.frame = some X.env.locals) (hN : X.N.Nodup) (hi : X.N[i]? = some n) (hloc : X.env.scope.names.lookup n = some .local)
    (hb : ∀ pins xe, PassS (cxTry X pins xe) E → PSs (cxTry X pins xe) body tb) (hh : ∀ a, PSs (cxSuite X a) (b₀ :: suite) th) (hg : Gl X x := by rfl) (hdb : (x == ("__debug__" : Str)) = false := by decide) :
    PS X (.Try body [.ExceptHandler (some (.Name x np)) (some n) (b₀ :: suite) hpos] [] [] pos) (tTry X.K T.C i E tb th) := by
  intro pins s σ H D I h
  obtain ⟨h1, h2⟩ := h
  have hkind : (X.env.scope.kind == .class || (X.env.scope.kind == .module && X.env.locals != X.env.globals)) = false := by
    rw [I.ok.kind]
    rfl
  refine wpAny_Try_except (wpAny_mono (hb pins (fun e s₁ => wpAny (model X.prog X.w) X.A (noteFrame e X.env) (fun _ s₂ => wpAny (model X.prog X.w) X.A (setFlight e none) (fun _ s₃ => wpAny (model X.prog X.w) X.A (handleBy e X.env [.ExceptHandler (some (.Name x np)) (some n) (b₀ :: suite) hpos]) (SP X pins D) X.xe s₃) X.xe s₂) X.xe s₁)
    ?pass [] s σ H D (in_try I) h1) (fun f s1 q => ?_) (fun e s1 q => q))
  case pass =>
    intro pins1 σ1 H1 s1 e s' I1t hcx
    have I1 : Inv X pins σ1 H1 s1 := of_try (ok := I.ok) I1t
    obtain ⟨a, cls, H', B, a0, rfl, os, bare, un, hok, kB, tB, fl0, he⟩ := hcx
    obtain ⟨C, rfl, hsub, kk⟩ := h2 σ1 cls H' he
    have fl1 : Heap.FlyingW B (X.env :: X.outer) a (.ref C) a0 s'.heap := hst ▸ fl0
    have hfr : X.A.frames = some (X.env :: X.outer) := hst ▸ I.ok.frames
    have ha : H' a = none := none_of hok fl1.2.1
    -- what holds at each heap from here on
    have sl : ∀ h', s'.heap.UpToSlots h' → ∀ b o, s1.heap.get? b = some o → H1 b = none → b ∈ frs X.stack → ∃ z, h'.get? b = some { o with slots := z } := fun h' sm b o e n hb => by
      obtain ⟨_, o2, ho2, hd⟩ := I1.stack.mem hb
      rw [e] at ho2
      cases ho2
      obtain ⟨z2, e2⟩ := un.slot b o e n hb (by simp)
      obtain ⟨z3, e3⟩ := sm b { o with slots := z2 } e2 hd
      exact ⟨z3, e3⟩
    have th' : ∀ h', B.StaysIn h' → s'.heap.UpToSlots h' → ∀ b o, s1.heap.get? b = some o → ∃ o', h'.get? b = some o' := fun h' st sm b o e => by
      by_cases hb : b ∈ frs X.stack
      · obtain ⟨z, q⟩ := sl h' sm b o e (I1.stkFree b hb) hb
        exact ⟨_, q⟩
      · obtain ⟨o', q⟩ := tB b o e hb
        exact ⟨o', st b o' q⟩
    have inv5 : ∀ h', B.StaysIn h' → s'.heap.UpToSlots h' → Inv X pins σ1 H' { s' with heap := h' } := fun h' st sm =>
      I1.call' (s' := { s' with heap := h' }) (ch := []) os ⟨fun b o e n hb _ => st b o (kB b o e n hb), fun b o e n hb _ => sl h' sm b o e n hb, un.free, fun b o e _ => th' h' st sm b o e, un.tups, un.frzs, un.tbls⟩ (hok.kept st) bare (fun _ z => nomatch z)
    refine wpAny_looks_onW hfr hf fl1 fun h4 held4 sm4 => ?_
    refine wpAny_landsW held4 fun h5 fl5 sm5 => ?_
    have sm45 := sm4.trans sm5
    have I5 := inv5 h5 fl5.1 sm45
    obtain ⟨oe, he5, hc5⟩ := fl5.there
    obtain ⟨bm, N, nm, qn, bs, hd, sn, sub, ab, col, dd, k0, k1, k2, k3, k5, mN, hC, hNs, hni, TL⟩ := exc_in I5.kIn T.k.q
    refine wpAny_handleBy_cons (codeAny_handlers_test (ld_glob (X := cxSuite X a) (in_suite I5) hg T.m ?_ hdb)) (by intro q; cases q)
    refine exm hC he5 hc5 (TL.hasType PySem.F.excBase_ValueError.hasBase) (PySem.W.looks_subIn I5.kIn hsub) ?_
    refine codeAny_handlers_suite_as (lands_againW fl5 fun h6 fl6 sm6 => ?_)
    have sm456 := sm45.trans sm6
    obtain ⟨oe6, ws6, he6, hc6, hd6, _⟩ := fl6.first
    have nea : ∀ b o, s1.heap.get? b = some o → H1 b = none → b ≠ a := fun b o e n z => by
      by_cases hb : b ∈ frs X.stack
      · obtain ⟨_, o2, ho2, hd⟩ := I1.stack.mem hb
        rw [e] at ho2
        cases ho2
        obtain ⟨y, e2⟩ := sl h6 sm456 b o e n hb
        rw [z, he6] at e2
        cases e2
        exact hd _ hd6
      · have e2 := kB b o e n hb
        rw [z, fl6.2.1] at e2
        cases e2
    have I6 : Inv X pins σ1 (upd H' a (ExcO a C)) { s' with heap := h6 } := by
      refine I1.call' (s' := { s' with heap := h6 }) (ch := []) os ⟨fun b o e n hb _ => fl6.1 b o (kB b o e n hb), fun b o e n hb _ => sl h6 sm456 b o e n hb, fun b o e n hx => (upd_ne (nea b o e n)).trans (un.free b o e n hx), fun b o e _ => th' h6 fl6.1 sm456 b o e, fun b xs e => ?_, fun b o u e => ?_, fun b ps e => ?_⟩
        (adopt1 (hok.kept fl6.1) ha ⟨⟨oe6, he6, hc6⟩, ⟨oe6, he6⟩, fun h1 h2 p q => ?_⟩) bare (fun _ z => nomatch z)
      · have q := un.tups b xs e
        exact (upd_ne (ne_of_none q ha)).trans q
      · have q := un.frzs b o u e
        exact (upd_ne (ne_of_none q ha)).trans q
      · obtain ⟨more, q⟩ := un.tbls b ps e
        exact ⟨more, (upd_ne (ne_of_none q ha)).trans q⟩
      · obtain ⟨o, y1, y2⟩ := p
        exact ⟨o, q o y1, y2⟩
    refine store_ok (X := cxSuite X a) (v := .ref a) (in_suite I6) hN hi (.inl hloc) rfl (fun s7 I7 => ?_) (.inr hloc)
    refine wpAny_mono (hh a pins s7 (σ1.set i (some (.ref a))) _ (goneD i D) I7 (kk a ha)) (fun f s8 q8 => ?_) (fun _ _ z => False.elim z)
    have fin : ∀ σ8 H8, Inv (cxSuite X a) pins σ8 H8 s8 → ∀ (G : Unit → Shared → Prop), (∀ s9, Inv X pins (σ8.set i none) H8 s9 → G () s9) → wpAny (model X.prog X.w) X.A (do bindName X.env n .none; unbindBehindTheSuite X.env n hpos) G X.xe s8 := fun σ8 H8 I8 G hG => by
      have J := of_suite I.ok I8
      obtain ⟨m, hm, _⟩ := id J.loc
      exact wpAny_nameGoes_keeps hloc hm hkind fun h' v hn hs => hG _ (gone J hN hi hm hn hs)
    cases f with
    | next =>
      obtain ⟨σ8, H8, I8, d8⟩ := q8
      exact fin σ8 H8 I8 _ fun s9 I9 => ⟨_, H8, I9, d8⟩
    | brk =>
      obtain ⟨σ8, H8, I8, d8⟩ := q8
      exact fin σ8 H8 I8 _ fun s9 I9 => ⟨_, H8, I9, d8⟩
    | cont =>
      obtain ⟨σ8, H8, I8, d8⟩ := q8
      exact fin σ8 H8 I8 _ fun s9 I9 => ⟨_, H8, I9, d8⟩
    | ret u =>
      obtain ⟨v, σ8, H8, I8, r8, d8⟩ := q8
      exact fin σ8 H8 I8 _ fun s9 I9 => ⟨v, _, H8, I9, r8, d8⟩
  have back : ∀ {xe0 : Value → Shared → Prop} {σ' : L2.St} {H' : Hp}, Inv (cxTry X pins xe0) [] σ' H' s1 → Inv X pins σ' H' s1 := fun J => of_try (ok := I.ok) J
  cases f with
  | next =>
    obtain ⟨σ', H', J, d⟩ := q
    exact wpAny_execs_nil ⟨σ', H', back J, d⟩
  | brk =>
    obtain ⟨σ', H', J, d⟩ := q
    exact ⟨σ', H', back J, d⟩
  | cont =>
    obtain ⟨σ', H', J, d⟩ := q
    exact ⟨σ', H', back J, d⟩
  | ret u =>
    obtain ⟨v, σ', H', J, r, d⟩ := q
    exact ⟨v, σ', H', back J, r, d⟩
end
end Zx

set_option Elab.async false
set_option linter.all false
set_option maxRecDepth 100000
/-! ### plain values: lists, tuples and scalars as trees; what stands for them on the abstract heap -/
namespace Pu
open PySem PySem.Spec PyProof.Rows L2 Zw Zx

abbrev Rg := Addr → Prop
def R0 : Rg := fun _ => False
/-- a node's kind: a list, a tuple; one that is only read (the script; a module's) -/
inductive Kd where
  | lst | rl | tup | rt
  deriving DecidableEq
/-- a tree; the mark of a node: nothing else has it -/
inductive T where
  | non | bl (b : Bool) | int (i : Int) | str (x : Str) | nd (o : Bool) (k : Kd) (l : List T)
abbrev T.lst (l : List T) : T := .nd false .lst l
abbrev T.own (l : List T) : T := .nd true .lst l
abbrev T.tup (l : List T) : T := .nd false .tup l
mutual
def T.share : T → T
  | .nd _ k l => .nd false k (shareL l)
  | .non => .non
  | .bl b => .bl b
  | .int i => .int i
  | .str x => .str x
def shareL : List T → List T
  | [] => []
  | t :: r => t.share :: shareL r
end
mutual
def T.sh : T → Bool
  | .nd o _ l => !o && shL l
  | .non => true
  | .bl _ => true
  | .int _ => true
  | .str _ => true
def shL : List T → Bool
  | [] => true
  | t :: r => t.sh && shL r
end
def T.flat : T → Bool
  | .nd _ _ _ => false
  | _ => true
theorem shareL_map : ∀ l : List T, shareL l = l.map T.share
  | [] => rfl
  | t :: r => by rw [shareL, shareL_map r]; rfl
theorem shL_all : ∀ l : List T, shL l = l.all T.sh
  | [] => rfl
  | t :: r => by rw [shL, shL_all r]; rfl
mutual
theorem share_of_sh : ∀ t : T, t.sh = true → t.share = t
  | .nd o k l, h => by
    rw [T.sh, Bool.and_eq_true] at h
    have ho : o = false := by simpa using h.1
    subst ho
    rw [T.share, shareL_of_shL l h.2]
  | .non, _ => rfl
  | .bl _, _ => rfl
  | .int _, _ => rfl
  | .str _, _ => rfl
theorem shareL_of_shL : ∀ l : List T, shL l = true → shareL l = l
  | [], _ => rfl
  | t :: r, h => by
    rw [shL, Bool.and_eq_true] at h
    rw [shareL, share_of_sh t h.1, shareL_of_shL r h.2]
end
mutual
theorem sh_share : ∀ t : T, t.share.sh = true
  | .nd o k l => by
    rw [T.share, T.sh, shL_shareL l]
    rfl
  | .non => rfl
  | .bl _ => rfl
  | .int _ => rfl
  | .str _ => rfl
theorem shL_shareL : ∀ l : List T, shL (shareL l) = true
  | [] => rfl
  | t :: r => by rw [shareL, shL, sh_share t, shL_shareL r]; rfl
end
theorem sh_of_flat {t : T} (h : t.flat = true) : t.sh = true := by
  cases t with
  | nd o k l => cases h
  | _ => rfl
theorem share_share (t : T) : t.share.share = t.share := share_of_sh _ (sh_share t)
theorem shL_get {l : List T} (h : shL l = true) {i : Nat} {t : T} (e : l[i]? = some t) : t.sh = true := by
  rw [shL_all] at h
  exact List.all_eq_true.mp h _ (List.mem_of_getElem? e)

/-- a node that others may have, too: on the part that never changes -/
def NodeS (K : PySem.W.Frag) (F : Hp) (k : Kd) (p : Addr) (xs : List V) : Prop := match k with
  | .lst => F p = some (.lst xs)
  | .rl => SqL K F p xs
  | .tup => F p = some (.tup xs)
  | .rt => SqT K F p xs
theorem seqT_same {K : PySem.W.Frag} {F F' : Hp} {p : Addr} {xs : List V} (s : Same F F') (h : SqT K F p xs) : SqT K F' p xs := by
  rcases h with (h | ⟨o, h⟩) | h
  · exact .inl (.inl (s _ _ h))
  · exact .inl (.inr ⟨o, s _ _ h⟩)
  · exact .inr h
theorem NodeS.same {K : PySem.W.Frag} {F F' : Hp} {k : Kd} {p : Addr} {xs : List V} (h : NodeS K F k p xs) (s : Same F F') : NodeS K F' k p xs := by
  cases k with
  | lst => exact s _ _ h
  | rl => exact s.seq h
  | tup => exact s _ _ h
  | rt => exact seqT_same s h

/-- F: what never changes; H: the heap; x stands for t, the region: what t alone has -/
inductive Rp (K : PySem.W.Frag) (F H : Hp) : T → V → Rg → Prop where
  | non : Rp K F H .non .non R0
  | bl (b : Bool) : Rp K F H (.bl b) (.bl b) R0
  | int (i : Int) : Rp K F H (.int i) (.int i) R0
  | str (x : Str) : Rp K F H (.str x) (.str x) R0
  | shr {k : Kd} {p : Addr} {xs : List V} {l : List T} (h : NodeS K F k p xs) (e : l.length = xs.length) (c : ∀ (i : Nat) (t : T) (x : V), l[i]? = some t → xs[i]? = some x → Rp K F H t x R0) : Rp K F H (.nd false k l) (.ref p) R0
  | own {p : Addr} {xs : List V} {l : List T} (R : Nat → Rg) (f : F p = none) (h : H p = some (.lst xs)) (e : l.length = xs.length) (c : ∀ (i : Nat) (t : T) (x : V), l[i]? = some t → xs[i]? = some x → Rp K F H t x (R i))
      (d : ∀ i j a, i ≠ j → R i a → ¬ R j a) (dp : ∀ i, ¬ R i p) (o : ∀ i a, R i a → i < l.length) : Rp K F H (.nd true .lst l) (.ref p) (fun a => a = p ∨ ∃ i, R i a)
section
variable {K : PySem.W.Frag} {F F' H H' : Hp} {t : T} {x : V} {A : Rg}
theorem Rp.frame (h : Rp K F H t x A) (s : Same F F') (k : ∀ a, A a → H' a = H a ∧ F' a = none) : Rp K F' H' t x A := by
  induction h with
  | non => exact .non
  | bl b => exact .bl b
  | int i => exact .int i
  | str y => exact .str y
  | shr h e c ih => exact .shr (h.same s) e fun i t x h1 h2 => ih i t x h1 h2 fun a z => z.elim
  | own R f h e c d dp o ih =>
    have q := k _ (.inl rfl)
    exact .own R q.2 (q.1.trans h) e (fun i t x h1 h2 => ih i t x h1 h2 fun a z => k a (.inr ⟨i, z⟩)) d dp o
theorem Rp.dom (h : Rp K F H t x A) {a : Addr} (ha : A a) : F a = none ∧ ∃ u, H a = some u := by
  induction h with
  | non => exact ha.elim
  | bl b => exact ha.elim
  | int i => exact ha.elim
  | str y => exact ha.elim
  | shr h e c ih => exact ha.elim
  | @own p xs l R f h e c d dp o ih =>
    rcases ha with rfl | ⟨i, z⟩
    · exact ⟨f, _, h⟩
    · have hi := o i a z
      have hx : i < xs.length := by omega
      exact ih i _ _ (List.getElem?_eq_getElem hi) (List.getElem?_eq_getElem hx) z
theorem Rp.share (h : Rp K F H t x A) (s : Same F F') (k : ∀ a u, A a → H a = some u → F' a = some u) : Rp K F' H' t.share x R0 := by
  induction h with
  | non => exact .non
  | bl b => exact .bl b
  | int i => exact .int i
  | str y => exact .str y
  | @shr k0 p xs l h e c ih =>
    rw [T.share, shareL_map]
    refine .shr (h.same s) (by rw [List.length_map]; exact e) fun i t x h1 h2 => ?_
    rw [List.getElem?_map] at h1
    obtain ⟨t0, e0, rfl⟩ := Option.map_eq_some_iff.mp h1
    exact ih i t0 x e0 h2 fun a u z => z.elim
  | @own p xs l R f h e c d dp o ih =>
    rw [T.share, shareL_map]
    refine .shr (k := .lst) (xs := xs) (k _ _ (.inl rfl) h) (by rw [List.length_map]; exact e) fun i t x h1 h2 => ?_
    rw [List.getElem?_map] at h1
    obtain ⟨t0, e0, rfl⟩ := Option.map_eq_some_iff.mp h1
    exact ih i t0 x e0 h2 fun a u z => k a u (.inr ⟨i, z⟩)
theorem Rp.r0 (h : Rp K F H t x A) (s : t.sh = true) : A = R0 := by
  cases h with
  | own R f h e c d dp o =>
    rw [T.sh] at s
    cases s
  | _ => rfl
/-- what is shared leans on F alone -/
theorem Rp.move (h : Rp K F H t x A) (s : t.sh = true) (q : Same F F') : Rp K F' H' t x R0 := by
  have e := h.r0 s
  subst e
  exact h.frame q fun a z => z.elim
theorem Rp.flat_any (h : Rp K F H t x A) (s : t.flat = true) : Rp K F' H' t x R0 := by
  cases h with
  | non => exact .non
  | bl b => exact .bl b
  | int i => exact .int i
  | str y => exact .str y
  | shr h e c => cases s
  | own R f h e c d dp o => cases s
theorem Rp.int_inv {i : Int} (h : Rp K F H (.int i) x A) : x = .int i := by cases h; rfl
theorem Rp.bl_inv {b : Bool} (h : Rp K F H (.bl b) x A) : x = .bl b := by cases h; rfl
theorem Rp.non_inv (h : Rp K F H .non x A) : x = .non := by cases h; rfl
theorem Rp.str_inv {y : Str} (h : Rp K F H (.str y) x A) : x = .str y := by cases h; rfl
end
/-- several things that others may have, too -/
def Rps (K : PySem.W.Frag) (F : Hp) (ts : List T) (xs : List V) : Prop := ts.length = xs.length ∧ ∀ (i : Nat) (t : T) (x : V), ts[i]? = some t → xs[i]? = some x → Rp K F F t x R0
theorem Rps.nil {K : PySem.W.Frag} {F : Hp} : Rps K F [] [] := ⟨rfl, fun i t x h => by simp at h⟩
theorem Rp.any {K : PySem.W.Frag} {F H H' : Hp} {t : T} {x : V} (h : Rp K F H t x R0) : Rp K F H' t x R0 := h.frame (Same.refl F) fun a z => z.elim
theorem Rps.cons {K : PySem.W.Frag} {F H : Hp} {t : T} {x : V} {ts : List T} {xs : List V} (h : Rp K F H t x R0) (r : Rps K F ts xs) : Rps K F (t :: ts) (x :: xs) := by
  refine ⟨by simp [r.1], fun i t' x' h1 h2 => ?_⟩
  cases i with
  | zero =>
    simp at h1 h2
    subst h1; subst h2
    exact h.any
  | succ j => exact r.2 j t' x' (by simpa using h1) (by simpa using h2)
theorem Rps.inv {K : PySem.W.Frag} {F : Hp} {t : T} {ts : List T} {xs : List V} (r : Rps K F (t :: ts) xs) : ∃ x xs', xs = x :: xs' ∧ Rp K F F t x R0 ∧ Rps K F ts xs' := by
  obtain ⟨e, h⟩ := r
  cases xs with
  | nil => simp at e
  | cons x xs' => exact ⟨x, xs', rfl, h 0 t x rfl rfl, by simpa using e, fun i t' x' h1 h2 => h (i + 1) t' x' (by simpa using h1) (by simpa using h2)⟩
theorem Rps.inv0 {K : PySem.W.Frag} {F : Hp} {xs : List V} (r : Rps K F [] xs) : xs = [] := by
  obtain ⟨e, h⟩ := r
  cases xs with
  | nil => rfl
  | cons x xs' => simp at e
theorem Rps.same {K : PySem.W.Frag} {F F' : Hp} {ts : List T} {xs : List V} (r : Rps K F ts xs) (s : Same F F') : Rps K F' ts xs := ⟨r.1, fun i t x h1 h2 => ((r.2 i t x h1 h2).frame (H' := F') s fun a z => z.elim)⟩
theorem Rps.node {K : PySem.W.Frag} {F H : Hp} {k : Kd} {p : Addr} {l : List T} {A : Rg} (h : Rp K F H (.nd false k l) (.ref p) A) : ∃ xs, NodeS K F k p xs ∧ Rps K F l xs := by
  cases h with
  | shr h e c => exact ⟨_, h, e, fun i t x h1 h2 => (c i t x h1 h2).any⟩
theorem Rp.ref_inv {K : PySem.W.Frag} {F H : Hp} {o : Bool} {k : Kd} {l : List T} {x : V} {A : Rg} (h : Rp K F H (.nd o k l) x A) : ∃ p, x = .ref p := by
  cases h with
  | shr h e c => exact ⟨_, rfl⟩
  | own R f h e c d dp o => exact ⟨_, rfl⟩
theorem Rps.of_node {K : PySem.W.Frag} {F H : Hp} {k : Kd} {p : Addr} {l : List T} {xs : List V} (h : NodeS K F k p xs) (r : Rps K F l xs) : Rp K F H (.nd false k l) (.ref p) R0 := .shr h r.1 fun i t x h1 h2 => (r.2 i t x h1 h2).any

/-! ### steps of expressions: the heap grows -/
structure Ext (F H F' H' : Hp) (B : Rg) : Prop where
  hh : Same H H'
  ff : Same F F'
  fh : Same F' H'
  nb : ∀ b, B b → H b = none
  nf : ∀ b u, F' b = some u → F b = some u ∨ H b = none
theorem none_of_same {H H' : Hp} (s : Same H H') {b : Addr} (h : H' b = none) : H b = none := by
  cases e : H b with
  | none => rfl
  | some u => rw [s b u e] at h; cases h
section
variable {F H F1 H1 F2 H2 : Hp} {B C : Rg}
theorem Ext.refl (s : Same F H) : Ext F H F H R0 := ⟨.refl _, .refl _, s, fun _ z => z.elim, fun _ _ e => .inl e⟩
theorem Ext.trans (a : Ext F H F1 H1 B) (b : Ext F1 H1 F2 H2 C) : Ext F H F2 H2 (fun x => B x ∨ C x) where
  hh := a.hh.trans b.hh
  ff := a.ff.trans b.ff
  fh := b.fh
  nb := fun x z => z.elim (a.nb x) fun z => none_of_same a.hh (b.nb x z)
  nf := fun x u e => (b.nf x u e).elim (a.nf x u) fun z => .inr (none_of_same a.hh z)
theorem Ext.mono (a : Ext F H F1 H1 B) (h : ∀ x, C x → B x) : Ext F H F1 H1 C := ⟨a.hh, a.ff, a.fh, fun x z => a.nb x (h x z), a.nf⟩
theorem Ext.trans0 (a : Ext F H F1 H1 R0) (b : Ext F1 H1 F2 H2 C) : Ext F H F2 H2 C := (a.trans b).mono fun x z => .inr z
open Classical in
/-- what a region has is never changed from here on -/
noncomputable def frz (F H : Hp) (A : Rg) : Hp := fun b => if A b then H b else F b
theorem frz_in {A : Rg} {b : Addr} (h : A b) : frz F H A b = H b := by unfold frz; rw [if_pos h]
theorem frz_out {A : Rg} {b : Addr} (h : ¬ A b) : frz F H A b = F b := by unfold frz; rw [if_neg h]
theorem frz_ff {A : Rg} (n : ∀ a, A a → F a = none) : Same F (frz F H A) := fun b u e => by
  by_cases h : A b
  · rw [n b h] at e; cases e
  · rw [frz_out h]; exact e
theorem frz_fh {A : Rg} (s : Same F H) : Same (frz F H A) H := fun b u e => by
  by_cases h : A b
  · rw [frz_in h] at e; exact e
  · rw [frz_out h] at e; exact s b u e
theorem Ext.frz (a : Ext F H F1 H1 B) (n : ∀ b, B b → F1 b = none) : Ext F H (frz F1 H1 B) H1 R0 where
  hh := a.hh
  ff := a.ff.trans (frz_ff n)
  fh := frz_fh a.fh
  nb := fun _ z => z.elim
  nf := fun b u e => by
    by_cases h : B b
    · exact .inr (a.nb b h)
    · rw [frz_out h] at e; exact a.nf b u e
/-- what stands stays -/
theorem Rp.ext {K : PySem.W.Frag} {t : T} {x : V} {A : Rg} (h : Rp K F H t x A) (a : Ext F H F1 H1 B) : Rp K F1 H1 t x A := h.frame a.ff fun b z => by
  obtain ⟨f, u, e⟩ := h.dom z
  refine ⟨(a.hh b u e).trans e.symm, ?_⟩
  cases q : F1 b with
  | none => rfl
  | some u' =>
    rcases a.nf b u' q with z | z
    · rw [f] at z; cases z
    · rw [e] at z; cases z
theorem Rp.apart {K : PySem.W.Frag} {t : T} {x : V} {A : Rg} (h : Rp K F H t x A) (a : Ext F H F1 H1 B) {b : Addr} (hb : B b) : ¬ A b := fun z => by
  obtain ⟨f, u, e⟩ := h.dom z
  rw [a.nb b hb] at e
  cases e
/-- a new thing, shared from the start -/
theorem Ext.new {p : Addr} {o : HO} (s : Same F H) (h : H p = none) : Ext F H (upd F p o) (upd H p o) R0 where
  hh := same_new h o
  ff := same_new (none_of_same s h) o
  fh := fun b u e => by
    by_cases hb : b = p
    · subst hb; rw [upd_same] at e ⊢; exact e
    · rw [upd_ne hb] at e ⊢; exact s b u e
  nb := fun _ z => z.elim
  nf := fun b u e => by
    by_cases hb : b = p
    · subst hb; exact .inr h
    · rw [upd_ne hb] at e; exact .inl e
/-- .. or had alone -/
theorem Ext.newO {p : Addr} {o : HO} (s : Same F H) (h : H p = none) : Ext F H F (upd H p o) (fun a => a = p) where
  hh := same_new h o
  ff := .refl _
  fh := fun b u e => same_new h o b u (s b u e)
  nb := fun b z => by rw [z]; exact h
  nf := fun b u e => .inl e
end
/-! ### the names' values -/
abbrev PSt := List (Option T)
structure StR (K : PySem.W.Frag) (F H : Hp) (σ : L2.St) (τ : PSt) (R : Nat → Rg) : Prop where
  fh : Same F H
  len : σ.length = τ.length
  rep : ∀ i t, τ[i]? = some (some t) → ∃ x, σ[i]? = some (some x) ∧ Rp K F H t x (R i)
  out : ∀ i a, R i a → ∃ t, τ[i]? = some (some t)
  dis : ∀ i j a, i ≠ j → R i a → ¬ R j a
section
variable {K : PySem.W.Frag} {F H F1 H1 : Hp} {σ : L2.St} {τ : PSt} {R : Nat → Rg} {B : Rg}
theorem StR.dom (h : StR K F H σ τ R) {i : Nat} {a : Addr} (ha : R i a) : F a = none ∧ ∃ u, H a = some u := by
  obtain ⟨t, e⟩ := h.out i a ha
  obtain ⟨x, _, r⟩ := h.rep i t e
  exact r.dom ha
theorem StR.ext (h : StR K F H σ τ R) (a : Ext F H F1 H1 B) : StR K F1 H1 σ τ R where
  fh := a.fh
  len := h.len
  rep := fun i t e => by
    obtain ⟨x, e1, r⟩ := h.rep i t e
    exact ⟨x, e1, r.ext a⟩
  out := h.out
  dis := h.dis
theorem StR.apart (h : StR K F H σ τ R) (a : Ext F H F1 H1 B) {b : Addr} (hb : B b) (i : Nat) : ¬ R i b := fun z => by
  obtain ⟨f, u, e⟩ := h.dom z
  rw [a.nb b hb] at e
  cases e
end
end Pu

set_option Elab.async false
set_option linter.all false
set_option maxRecDepth 100000
namespace Pu
open PySem PySem.Spec PyProof.Rows L2 Zw Zx

/-! ### data, for == and in -/
mutual
def T.data : T → PyData
  | .non => .none
  | .bl b => .bool b
  | .int i => .int i
  | .str x => .str x
  | .nd _ .lst l => .list (dataL l)
  | .nd _ .rl l => .list (dataL l)
  | .nd _ .tup l => .tuple (dataL l)
  | .nd _ .rt l => .tuple (dataL l)
def dataL : List T → List PyData
  | [] => []
  | t :: r => t.data :: dataL r
end
theorem dataL_map : ∀ l : List T, dataL l = l.map T.data
  | [] => rfl
  | t :: r => by rw [dataL, dataL_map r]; rfl
theorem readsAll_of {h : Heap} : ∀ {l : List T} {us : List Value}, l.length = us.length → (∀ (i : Nat) (t : T) (u : Value), l[i]? = some t → us[i]? = some u → ∃ as, Reads h u t.data as) → ∃ as, ReadsAll h us (dataL l) as
  | [], [], _, _ => ⟨_, .nil⟩
  | [], _ :: _, e, _ => by simp at e
  | _ :: _, [], e, _ => by simp at e
  | t :: l, u :: us, e, f => by
    obtain ⟨a1, r1⟩ := f 0 t u rfl rfl
    obtain ⟨a2, r2⟩ := readsAll_of (l := l) (us := us) (by simpa using e) fun i t' u' h1 h2 => f (i + 1) t' u' (by simpa using h1) (by simpa using h2)
    exact ⟨_, .cons r1 r2⟩
section
variable {X : Cx} {pins : List (Addr × Obj)} {σ : L2.St} {F H : Hp} {s : Shared}
theorem rp_reads (I : Inv X pins σ H s) (fh : Same F H) {t : T} {x : V} {A : Rg} (h : Rp X.K F H t x A) : ∀ {u : Value}, RelV x u → ∃ as, Reads s.heap u t.data as := by
  have kids : ∀ {l : List T} {xs : List V} {its : List Value}, Vals xs its → l.length = xs.length → (∀ (i : Nat) (t : T) (x : V), l[i]? = some t → xs[i]? = some x → ∀ {u : Value}, RelV x u → ∃ as, Reads s.heap u t.data as) → ∃ as, ReadsAll s.heap its (dataL l) as := by
    intro l xs its r e ih
    refine readsAll_of (e.trans r.length) fun i t u h1 h2 => ?_
    have hi : i < xs.length := by
      have := (List.getElem?_eq_some_iff.mp h1).1
      omega
    obtain ⟨u', e1, r1⟩ := r.get (List.getElem?_eq_getElem hi)
    rw [h2] at e1
    cases e1
    exact ih i t _ h1 (List.getElem?_eq_getElem hi) r1
  have lsts : ∀ {p : Addr} {l : List T} {xs : List V}, SqL X.K H p xs → l.length = xs.length → (∀ (i : Nat) (t : T) (x : V), l[i]? = some t → xs[i]? = some x → ∀ {u : Value}, RelV x u → ∃ as, Reads s.heap u t.data as) → ∃ as, Reads s.heap (.ref p) (.list (dataL l)) as := by
    intro p l xs hq e ih
    obtain ⟨its, r, ⟨o, n, e1, e2, e3, e4⟩, _⟩ := I.list hq
    obtain ⟨as, ra⟩ := kids r e ih
    exact ⟨_, .list e1 e2 e4 (by simpa using ra)⟩
  have tups : ∀ {p : Addr} {l : List T} {xs : List V}, SqT X.K H p xs → l.length = xs.length → (∀ (i : Nat) (t : T) (x : V), l[i]? = some t → xs[i]? = some x → ∀ {u : Value}, RelV x u → ∃ as, Reads s.heap u t.data as) → ∃ as, Reads s.heap (.ref p) (.tuple (dataL l)) as := by
    intro p l xs hq e ih
    obtain ⟨its, r, ⟨o, e1, e2, n, e4⟩, _⟩ := I.tuple hq
    obtain ⟨as, ra⟩ := kids r e ih
    exact ⟨_, .tuple e1 e2 e4 (by simpa using ra)⟩
  induction h with
  | non => intro u r; cases r; exact ⟨_, .none⟩
  | bl b => intro u r; cases r; exact ⟨_, .bool b⟩
  | int i => intro u r; obtain ⟨t, rfl⟩ := r; exact ⟨_, .int i t⟩
  | str y => intro u r; obtain ⟨t, rfl⟩ := r; exact ⟨_, .str y t⟩
  | @shr k p xs l h e c ih =>
    intro u r
    cases r
    cases k with
    | lst => exact lsts (SqL.of (fh _ _ h)) e ih
    | rl => exact lsts (fh.seq h) e ih
    | tup => exact tups (SqT.of (fh _ _ h)) e ih
    | rt => exact tups (seqT_same fh h) e ih
  | @own p xs l R f h e c d dp o ih =>
    intro u r
    cases r
    exact lsts (SqL.of h) e ih
end
def fitT (t : T) : Bool := t.data.canLay0
def eqvT (t u : T) : Bool := PyData.eqv t.data u.data
def eqOk (t u : T) : Bool := fitT t && fitT u && decide (min t.data.depth u.data.depth ≤ 60)
def eqT (t u : T) : Option T := if eqOk t u then some (.bl (eqvT t u)) else none
def neT (t u : T) : Option T := if eqOk t u then some (.bl (!eqvT t u)) else none
def inOk (t : T) (l : List T) : Bool := fitT t && PyData.canLayAll0 (dataL l) && decide (min (PyData.depthAll (dataL l)) t.data.depth ≤ 60)
def hasT (t : T) (l : List T) : Bool := (dataL l).any fun y => PyData.eqv y t.data
def inT (t c : T) : Option T := match c with
  | .nd _ _ l => if inOk t l then some (.bl (hasT t l)) else none
  | _ => none
def notInT (t c : T) : Option T := match c with
  | .nd _ _ l => if inOk t l then some (.bl (!hasT t l)) else none
  | _ => none

/-! ### rules by plain values -/
/-- what stands behind an operation: its value v -/
def Gets (K : PySem.W.Frag) (F H : Hp) (v : T) (Q : VK) : Prop := ∀ F' H' z C, Ext F H F' H' C → Rp K F' H' v z C → Q z H'
def rT2 (K : PySem.W.Frag) (g : T → T → Option T) : R2 := fun x y H Q => ∃ F t u v, Same F H ∧ Rp K F F t x R0 ∧ Rp K F F u y R0 ∧ g t u = some v ∧ Gets K F H v Q
def rT1 (K : PySem.W.Frag) (g : T → Option T) : V → Hp → VK → Prop := fun x H Q => ∃ F t v, Same F H ∧ Rp K F F t x R0 ∧ g t = some v ∧ Gets K F H v Q
def rTn (K : PySem.W.Frag) (g : List T → Option T) : List V → Hp → VK → Prop := fun xs H Q => ∃ F ts v, Same F H ∧ Rps K F ts xs ∧ g ts = some v ∧ Gets K F H v Q
section
variable {K : PySem.W.Frag} {F H : Hp} {Q : VK}
theorem Gets.int {i : Int} (q : Gets K F H (.int i) Q) (s : Same F H) : Q (.int i) H := q F H _ _ (Ext.refl s) (.int i)
theorem Gets.bl {b : Bool} (q : Gets K F H (.bl b) Q) (s : Same F H) : Q (.bl b) H := q F H _ _ (Ext.refl s) (.bl b)
theorem Gets.str {x : Str} (q : Gets K F H (.str x) Q) (s : Same F H) : Q (.str x) H := q F H _ _ (Ext.refl s) (.str x)
theorem Gets.non (q : Gets K F H .non Q) (s : Same F H) : Q .non H := q F H _ _ (Ext.refl s) .non
/-- a new list of things that others have, too -/
theorem Gets.list {l : List T} {xs : List V} (q : Gets K F H (.own l) Q) (s : Same F H) (r : Rps K F l xs) {p : Addr} (hp : H p = none) : Q (.ref p) (upd H p (.lst xs)) := by
  refine q F (upd H p (.lst xs)) (.ref p) _ ((Ext.newO s hp).mono ?_) (.own (xs := xs) (fun _ => R0) (none_of_same s hp) upd_same r.1 (fun i t x h1 h2 => ?_) (fun _ _ _ _ z => z.elim) (fun _ z => z) (fun _ _ z => z.elim))
  · rintro a (z | ⟨i, z⟩)
    · exact z
    · exact z.elim
  · exact (r.2 i t x h1 h2).any
theorem Gets.tuple {l : List T} {xs : List V} (q : Gets K F H (.tup l) Q) (s : Same F H) (r : Rps K F l xs) {p : Addr} (hp : H p = none) : Q (.ref p) (upd H p (.tup xs)) := by
  have e := Ext.new (o := .tup xs) s hp
  exact q _ _ _ _ e (Rps.of_node (k := .tup) upd_same (r.same e.ff))
theorem Gets.same {t : T} {x : V} (q : Gets K F H t Q) (s : Same F H) (r : Rp K F F t x R0) : Q x H := q F H x _ (Ext.refl s) r.any
end
/-- numbers that may be multiplied -/
def s64 (i : Int) : Bool := decide (-(2 ^ 64) < i) && decide (i < 2 ^ 64)
def s70 (i : Int) : Bool := decide (-(10 ^ 70) < i) && decide (i < 10 ^ 70)
def mulOk (i j : Int) : Bool := s64 i || s64 j || (s70 i && s70 j)
def lim : Nat := 16777216
def addT : T → T → Option T
  | .int i, .int j => some (.int (i + j))
  | .str x, .str y => if x.length + y.length ≤ lim then some (.str (x ++ y)) else none
  | .nd _ .lst l, .nd _ .lst m => if l.length + m.length ≤ lim then some (.own (l ++ m)) else none
  | _, _ => none
def subT : T → T → Option T
  | .int i, .int j => some (.int (i - j))
  | _, _ => none
def mulT : T → T → Option T
  | .int i, .int j => if mulOk i j then some (.int (i * j)) else none
  | .nd _ .lst l, .int k => if k < 2 ^ 63 ∧ -(2 ^ 63) ≤ k ∧ l.length * k.toNat ≤ lim then some (.own (List.replicate k.toNat l).flatten) else none
  | _, _ => none
def modT : T → T → Option T
  | .int i, .int j => if j ≠ 0 then some (.int (i.fmod j)) else none
  | _, _ => none
def fdivT : T → T → Option T
  | .int i, .int j => if j ≠ 0 ∧ s70 j then some (.int (i.fdiv j)) else none
  | _, _ => none
def powT : T → T → Option T
  | .int i, .int j => if 0 ≤ j ∧ j ≤ 1000000 ∧ s64 i then some (.int (i ^ j.toNat)) else none
  | _, _ => none
def borT : T → T → Option T
  | .int i, .int j => some (.int (Builtin.bitOr i j))
  | _, _ => none
def bandT : T → T → Option T
  | .int i, .int j => some (.int (Builtin.bitAnd i j))
  | _, _ => none
def cmpT (f : Int → Int → Bool) : T → T → Option T
  | .int i, .int j => some (.bl (f i j))
  | _, _ => none
def negT : T → Option T
  | .int i => some (.int (-i))
  | _ => none
theorem s64_iff {i : Int} (h : s64 i = true) : -(2 ^ 64) < i ∧ i < 2 ^ 64 := by
  unfold s64 at h
  simpa using h
theorem s70_iff {i : Int} (h : s70 i = true) : Sm i := by
  unfold s70 at h
  rw [Bool.and_eq_true, decide_eq_true_eq, decide_eq_true_eq] at h
  exact h
theorem lim_eq : lim = sizeLine := by rw [sizeLine_eq]; rfl
theorem rps_append {K : PySem.W.Frag} {F : Hp} : ∀ {l m : List T} {xs ys : List V}, Rps K F l xs → Rps K F m ys → Rps K F (l ++ m) (xs ++ ys)
  | [], m, xs, ys, r, q => by rw [r.inv0]; exact q
  | t :: l, m, xs, ys, r, q => by
    obtain ⟨x, xs', rfl, r1, r2⟩ := r.inv
    exact .cons r1 (rps_append r2 q)
theorem rps_rep {K : PySem.W.Frag} {F : Hp} {l : List T} {xs : List V} (r : Rps K F l xs) : ∀ n : Nat, Rps K F (List.replicate n l).flatten (List.replicate n xs).flatten
  | 0 => .nil
  | n + 1 => by
    rw [List.replicate_succ, List.replicate_succ, List.flatten_cons, List.flatten_cons]
    exact rps_append r (rps_rep r n)
section
variable {X : Cx}
theorem node_of {K : PySem.W.Frag} {F H : Hp} {o : Bool} {k : Kd} {l : List T} {x : V} (h : Rp K F H (.nd o k l) x R0) : ∃ p xs, x = .ref p ∧ o = false ∧ NodeS K F k p xs ∧ Rps K F l xs := by
  generalize hA : R0 = A at h
  cases h with
  | shr h e c => exact ⟨_, _, rfl, rfl, h, e, fun i t x h1 h2 => (hA ▸ c i t x h1 h2).any⟩
  | @own p xs l R f h e c d dp o =>
    exfalso
    have z := congrFun hA p
    have : R0 p := by rw [z]; exact .inl rfl
    exact this
theorem opT_add : OpR X (binaryOp .Add) (rT2 X.K addT) := by
  intro pins s σ H x y v u Q I rx ry h
  obtain ⟨F, t1, t2, r, fh, r1, r2, e, q⟩ := h
  unfold addT at e
  split at e
  · cases e
    rw [r1.int_inv] at rx; rw [r2.int_inv] at ry
    exact op_add pins s σ H _ _ v u Q I rx ry ⟨_, _, rfl, rfl, q.int fh⟩
  · split at e
    · cases e
      rename_i hz
      rw [r1.str_inv] at rx; rw [r2.str_inv] at ry
      exact op_add_str pins s σ H _ _ v u Q I rx ry ⟨_, _, rfl, rfl, by rw [← lim_eq]; exact hz, q.str fh⟩
    · cases e
  · split at e
    · cases e
      rename_i hz
      obtain ⟨p, xs, rfl, rfl, n1, k1⟩ := node_of r1
      obtain ⟨p2, ys, rfl, rfl, n2, k2⟩ := node_of r2
      refine op_cat pins s σ H _ _ v u Q I rx ry ⟨p, p2, xs, ys, rfl, rfl, fh _ _ n1, fh _ _ n2, ?_, fun a ha => q.list fh (rps_append k1 k2) ha⟩
      rw [← k1.1, ← k2.1, ← lim_eq]
      exact hz
    · cases e
  · cases e
theorem opT_int {f : Value → Value → Sem Value} {C : Int → Int → Prop} {g : Int → Int → V} {gT : T → T → Option T} (ho : OpR X f (rI C g)) (hg : ∀ t u v, gT t u = some v → ∃ i j, t = .int i ∧ u = .int j ∧ C i j ∧ ((∃ k, v = .int k ∧ g i j = .int k) ∨ ∃ k, v = .bl k ∧ g i j = .bl k)) : OpR X f (rT2 X.K gT) := by
  intro pins s σ H x y v u Q I rx ry h
  obtain ⟨F, t1, t2, r, fh, r1, r2, e, q⟩ := h
  obtain ⟨i, j, rfl, rfl, hc, hv⟩ := hg _ _ _ e
  rw [r1.int_inv] at rx; rw [r2.int_inv] at ry
  refine ho pins s σ H _ _ v u Q I rx ry ⟨i, j, rfl, rfl, hc, ?_⟩
  rcases hv with ⟨k, rfl, ek⟩ | ⟨k, rfl, ek⟩
  · rw [ek]; exact q.int fh
  · rw [ek]; exact q.bl fh
theorem OpR.weak {f : Value → Value → Sem Value} {r r' : R2} (h : OpR X f r) (w : ∀ x y H Q, r' x y H Q → r x y H Q) : OpR X f r' := fun pins s σ H x y v u Q I rx ry q => h pins s σ H x y v u Q I rx ry (w x y H Q q)
theorem ri0 {g : Int → Int → V} {f : Value → Value → Sem Value} (h : OpR X f (rI0 g)) : OpR X f (rI (fun _ _ => True) g) := OpR.weak h fun x y H Q ⟨i, j, a, b, _, q⟩ => ⟨i, j, a, b, q⟩
theorem opT_sub : OpR X (binaryOp .Sub) (rT2 X.K subT) := opT_int (ri0 op_sub) fun t u v h => by
  unfold subT at h
  split at h
  · cases h; exact ⟨_, _, rfl, rfl, trivial, .inl ⟨_, rfl, rfl⟩⟩
  · cases h
theorem opT_bor : OpR X (binaryOp .BitOr) (rT2 X.K borT) := opT_int (ri0 op_or) fun t u v h => by
  unfold borT at h
  split at h
  · cases h; exact ⟨_, _, rfl, rfl, trivial, .inl ⟨_, rfl, rfl⟩⟩
  · cases h
theorem opT_band : OpR X (binaryOp .BitAnd) (rT2 X.K bandT) := opT_int (ri0 op_and) fun t u v h => by
  unfold bandT at h
  split at h
  · cases h; exact ⟨_, _, rfl, rfl, trivial, .inl ⟨_, rfl, rfl⟩⟩
  · cases h
theorem opT_mod : OpR X (binaryOp .Mod) (rT2 X.K modT) := opT_int op_modN fun t u v h => by
  unfold modT at h
  split at h
  · split at h
    · cases h; exact ⟨_, _, rfl, rfl, by assumption, .inl ⟨_, rfl, rfl⟩⟩
    · cases h
  · cases h
theorem opT_fdiv : OpR X (binaryOp .FloorDiv) (rT2 X.K fdivT) := opT_int op_fdivL fun t u v h => by
  unfold fdivT at h
  split at h
  · split at h
    · cases h
      rename_i hc
      exact ⟨_, _, rfl, rfl, ⟨hc.1, s70_iff hc.2⟩, .inl ⟨_, rfl, rfl⟩⟩
    · cases h
  · cases h
theorem opT_pow : OpR X (binaryOp .Pow) (rT2 X.K powT) := opT_int op_pow fun t u v h => by
  unfold powT at h
  split at h
  · split at h
    · cases h
      rename_i hc
      have q := s64_iff hc.2.2
      exact ⟨_, _, rfl, rfl, ⟨hc.1, hc.2.1, by omega⟩, .inl ⟨_, rfl, rfl⟩⟩
    · cases h
  · cases h
theorem opT_cmp {op : CmpOp} {g : Int → Int → Bool} (ho : OpR X (compareOp op) (rI0 fun i j => .bl (g i j))) : OpR X (compareOp op) (rT2 X.K (cmpT g)) := opT_int (ri0 ho) fun t u v h => by
  unfold cmpT at h
  split at h
  · cases h; exact ⟨_, _, rfl, rfl, trivial, .inr ⟨_, rfl, rfl⟩⟩
  · cases h
theorem opT_mul : OpR X (binaryOp .Mult) (rT2 X.K mulT) := by
  intro pins s σ H x y v u Q I rx ry h
  obtain ⟨F, t1, t2, r, fh, r1, r2, e, q⟩ := h
  unfold mulT at e
  split at e
  · rename_i i j
    split at e
    · cases e
      rename_i hc
      rw [r1.int_inv] at rx; rw [r2.int_inv] at ry
      unfold mulOk at hc
      rw [Bool.or_eq_true, Bool.or_eq_true, Bool.and_eq_true] at hc
      rcases hc with (hc | hc) | hc
      · exact op_mul pins s σ H _ _ v u Q I rx ry ⟨i, j, rfl, rfl, .inl (s64_iff hc), q.int fh⟩
      · exact op_mul pins s σ H _ _ v u Q I rx ry ⟨i, j, rfl, rfl, .inr (s64_iff hc), q.int fh⟩
      · exact op_mulS pins s σ H _ _ v u Q I rx ry ⟨i, j, rfl, rfl, ⟨s70_iff hc.1, s70_iff hc.2⟩, q.int fh⟩
    · cases e
  · split at e
    · cases e
      rename_i hc
      obtain ⟨p, xs, rfl, rfl, n1, k1⟩ := node_of r1
      rw [r2.int_inv] at ry
      refine op_rep pins s σ H _ _ v u Q I rx ry ⟨p, _, xs, rfl, rfl, fh _ _ n1, hc.2.1, hc.1, ?_, fun a ha => q.list fh (rps_rep k1 _) ha⟩
      rw [← k1.1, ← lim_eq]
      exact hc.2.2
    · cases e
  · cases e
theorem unT_neg : UnR X (unaryOp .USub) (rT1 X.K negT) := by
  intro pins s σ H x v Q I rx h
  obtain ⟨F, t, r, fh, r1, e, q⟩ := h
  unfold negT at e
  split at e
  · cases e
    rw [r1.int_inv] at rx
    exact un_neg pins s σ H _ v Q I rx ⟨_, rfl, q.int fh⟩
  · cases e
theorem depth_le {A : Around} {n : Nat} (hu : A.units + 64 < cLine) (h : n ≤ 60) : A.units + n < cLine := by omega
theorem opT_eq (hu : X.A.units + 64 < cLine) : OpR X (compareOp .Eq) (rT2 X.K eqT) := by
  intro pins s σ H x y v u Q I rx ry h
  obtain ⟨F, t1, t2, r, fh, r1, r2, e, q⟩ := h
  unfold eqT at e
  split at e
  · cases e
    rename_i hc
    unfold eqOk fitT at hc
    rw [Bool.and_eq_true, Bool.and_eq_true, decide_eq_true_eq] at hc
    obtain ⟨a1, q1⟩ := rp_reads I fh (r1.any) rx
    obtain ⟨a2, q2⟩ := rp_reads I fh (r2.any) ry
    exact SeqAt.compareEq_reads q1 q2 hc.1.1 hc.1.2 (depth_le hu hc.2) ⟨.bl _, H, I, rfl, q.bl fh⟩
  · cases e
theorem opT_ne (hu : X.A.units + 64 < cLine) : OpR X (compareOp .NotEq) (rT2 X.K neT) := by
  intro pins s σ H x y v u Q I rx ry h
  obtain ⟨F, t1, t2, r, fh, r1, r2, e, q⟩ := h
  unfold neT at e
  split at e
  · cases e
    rename_i hc
    unfold eqOk fitT at hc
    rw [Bool.and_eq_true, Bool.and_eq_true, decide_eq_true_eq] at hc
    obtain ⟨a1, q1⟩ := rp_reads I fh (r1.any) rx
    obtain ⟨a2, q2⟩ := rp_reads I fh (r2.any) ry
    exact SeqAt.compareNe_reads q1 q2 hc.1.1 hc.1.2 (depth_le hu hc.2) ⟨.bl _, H, I, rfl, q.bl fh⟩
  · cases e
theorem opT_in (hu : X.A.units + 64 < cLine) : OpR X (compareOp .In) (rT2 X.K inT) := by
  intro pins s σ H x y v u Q I rx ry h
  obtain ⟨F, t1, t2, r, fh, r1, r2, e, q⟩ := h
  unfold inT at e
  split at e
  · rename_i o k l
    split at e
    · cases e
      rename_i hc
      unfold inOk fitT at hc
      rw [Bool.and_eq_true, Bool.and_eq_true, decide_eq_true_eq] at hc
      obtain ⟨a1, q1⟩ := rp_reads I fh (r1.any) rx
      obtain ⟨a2, q2⟩ := rp_reads I fh (r2.any) ry
      have hd : X.A.units + 1 + min (PyData.depthAll (dataL l)) t1.data.depth < cLine := by omega
      cases k with
      | lst => exact SeqAt.in_list_reads q2 q1 hc.1.2 hc.1.1 hd ⟨.bl _, H, I, rfl, q.bl fh⟩
      | rl => exact SeqAt.in_list_reads q2 q1 hc.1.2 hc.1.1 hd ⟨.bl _, H, I, rfl, q.bl fh⟩
      | tup => exact SeqAt.in_tuple_reads q2 q1 hc.1.2 hc.1.1 hd ⟨.bl _, H, I, rfl, q.bl fh⟩
      | rt => exact SeqAt.in_tuple_reads q2 q1 hc.1.2 hc.1.1 hd ⟨.bl _, H, I, rfl, q.bl fh⟩
    · cases e
  · cases e
theorem opT_notIn (hu : X.A.units + 64 < cLine) : OpR X (compareOp .NotIn) (rT2 X.K notInT) := by
  intro pins s σ H x y v u Q I rx ry h
  obtain ⟨F, t1, t2, r, fh, r1, r2, e, q⟩ := h
  unfold notInT at e
  split at e
  · rename_i o k l
    split at e
    · cases e
      rename_i hc
      unfold inOk fitT at hc
      rw [Bool.and_eq_true, Bool.and_eq_true, decide_eq_true_eq] at hc
      obtain ⟨a1, q1⟩ := rp_reads I fh (r1.any) rx
      obtain ⟨a2, q2⟩ := rp_reads I fh (r2.any) ry
      have hd : X.A.units + 1 + min (PyData.depthAll (dataL l)) t1.data.depth < cLine := by omega
      cases k with
      | lst => exact SeqAt.notIn_list_reads q2 q1 hc.1.2 hc.1.1 hd ⟨.bl _, H, I, rfl, q.bl fh⟩
      | rl => exact SeqAt.notIn_list_reads q2 q1 hc.1.2 hc.1.1 hd ⟨.bl _, H, I, rfl, q.bl fh⟩
      | tup => exact SeqAt.notIn_tuple_reads q2 q1 hc.1.2 hc.1.1 hd ⟨.bl _, H, I, rfl, q.bl fh⟩
      | rt => exact SeqAt.notIn_tuple_reads q2 q1 hc.1.2 hc.1.1 hd ⟨.bl _, H, I, rfl, q.bl fh⟩
    · cases e
  · cases e
/-- is None, is True .. -/
def isT (b : T) (neg : Bool) (t _u : T) : Option T := some (.bl (if neg then !(decide (t.data.depth = 0) && eqIs t b) else eqIs t b))
where eqIs : T → T → Bool
  | .non, .non => true
  | .bl x, .bl y => x == y
  | _, _ => false
end
end Pu

set_option Elab.async false
set_option linter.all false
set_option maxRecDepth 100000
namespace Pu
open PySem PySem.Spec PyProof.Rows L2 Zw Zx

/-- what an expression comes to: a value (b: borrowed from a name that has it alone), an exception's class -/
inductive Rs where
  | v (t : T) (b : Bool) | x (c : Str)
inductive RsL where
  | v (ts : List T) (b : Bool) | x (c : Str)
def tot (R : Nat → Rg) : Rg := fun a => ∃ i, R i a
def Got (K : PySem.W.Frag) (F H : Hp) (R : Nat → Rg) (v : T) (b : Bool) (x : V) (B : Rg) : Prop := match b with
  | true => B = R0 ∧ ∃ A, (∀ a, A a → tot R a) ∧ Rp K F H v x A
  | false => Rp K F H v x B
/-- F, with the names' own things where they are borrowed -/
noncomputable def Gz (b : Bool) (F H : Hp) (R : Nat → Rg) : Hp := match b with
  | true => frz F H (tot R)
  | false => F
section
variable {K : PySem.W.Frag} {F H F1 H1 : Hp} {σ : L2.St} {τ : PSt} {R : Nat → Rg} {B : Rg} {b c : Bool} {v : T} {x : V}
theorem StR.tot (S : StR K F H σ τ R) {a : Addr} (h : tot R a) : F a = none ∧ ∃ u, H a = some u := by
  obtain ⟨i, z⟩ := h
  exact S.dom z
theorem gz_ff (S : StR K F H σ τ R) : Same F (Gz b F H R) := by
  cases b with
  | true => exact frz_ff fun a z => (S.tot z).1
  | false => exact .refl _
theorem gz_fh (S : StR K F H σ τ R) : Same (Gz b F H R) H := by
  cases b with
  | true => exact frz_fh S.fh
  | false => exact S.fh
theorem gz_mono (S : StR K F H σ τ R) (e : Ext F H F1 H1 B) (h : b = true → c = true) : Same (Gz b F H R) (Gz c F1 H1 R) := by
  have S1 := S.ext e
  cases b with
  | false => exact e.ff.trans (gz_ff S1)
  | true =>
    rw [h rfl]
    intro a u q
    show frz F1 H1 (Pu.tot R) a = some u
    by_cases z : Pu.tot R a
    · rw [frz_in z]
      have q' : frz F H (Pu.tot R) a = some u := q
      rw [frz_in z] at q'
      exact e.hh _ _ q'
    · rw [frz_out z]
      have q' : frz F H (Pu.tot R) a = some u := q
      rw [frz_out z] at q'
      exact e.ff _ _ q'
/-- what has come is shared from here on -/
theorem Got.frz (S : StR K F H σ τ R) (e : Ext F H F1 H1 B) (g : Got K F1 H1 R v b x B) : ∃ F2, Ext F H F2 H1 R0 ∧ Same F1 F2 ∧ Rp K (Gz b F2 H1 R) (Gz b F2 H1 R) v.share x R0 := by
  have S1 := S.ext e
  cases b with
  | true =>
    obtain ⟨rfl, A, hA, r⟩ := g
    exact ⟨F1, e, .refl _, r.share (gz_ff (b := true) S1) fun a u z q => by
      show Pu.frz F1 H1 (Pu.tot R) a = some u
      rw [frz_in (hA a z)]; exact q⟩
  | false =>
    have g' : Rp K F1 H1 v x B := g
    have n : ∀ a, B a → F1 a = none := fun a z => (g'.dom z).1
    exact ⟨_, e.frz n, frz_ff n, g'.share (frz_ff n) fun a u z q => by
      show Pu.frz F1 H1 B a = some u
      rw [frz_in z]; exact q⟩
theorem Ext.grow {H2 : Hp} (e : Ext F H F1 H1 R0) (s : Same H1 H2) : Ext F H F1 H2 R0 := ⟨e.hh.trans s, e.ff, e.fh.trans s, fun _ z => z.elim, e.nf⟩
end
/-! ### readings by plain values -/
section
variable (K : PySem.W.Frag) (E : L2.St → XK) (ca : Str → Value)
def tM (m : PSt → Option Rs) : TE := fun σ H Q => ∃ F τ R, StR K F H σ τ R ∧ match m τ with
  | some (.v v b) => ∀ F' H' x B, Ext F H F' H' B → Got K F' H' R v b x B → Q x H'
  | some (.x c) => ∀ F' H', Ext F H F' H' R0 → E σ (ca c) none H'
  | none => False
def tMs (m : PSt → Option RsL) : TA := fun σ H Q => ∃ F τ R, StR K F H σ τ R ∧ match m τ with
  | some (.v ts b) => ∀ F' H' xs, Ext F H F' H' R0 → Rps K (Gz b F' H' R) ts xs → Q xs H'
  | some (.x c) => ∀ F' H', Ext F H F' H' R0 → E σ (ca c) none H'
  | none => False
/-- a test -/
def tMB (m : PSt → Option Rs) : TT := fun σ H Q => ∃ F τ R, StR K F H σ τ R ∧ match m τ with
  | some (.v (.bl c) _) => ∀ F' H', Ext F H F' H' R0 → Q c H'
  | some (.v _ _) => False
  | some (.x c) => ∀ F' H', Ext F H F' H' R0 → E σ (ca c) none H'
  | none => False
end
/-! the meanings -/
def mVar (i : Nat) : PSt → Option Rs := fun τ => match τ[i]? with
  | some (some t) => some (.v t (!t.sh))
  | _ => none
def mC (t : T) : PSt → Option Rs := fun _ => some (.v t false)
def mNil : PSt → Option RsL := fun _ => some (.v [] false)
def mCons (m : PSt → Option Rs) (ms : PSt → Option RsL) : PSt → Option RsL := fun τ => match m τ with
  | some (.v t b) => (match ms τ with
    | some (.v ts b') => some (.v (t.share :: ts) (b || b'))
    | r => r)
  | some (.x c) => some (.x c)
  | none => none
def fin (b : Bool) (v : T) : Option Rs := if b && !v.flat then none else some (.v v false)
def mAp (g : List T → Option T) (ms : PSt → Option RsL) : PSt → Option Rs := fun τ => match ms τ with
  | some (.v ts b) => (match g ts with
    | some v => fin b v
    | none => none)
  | some (.x c) => some (.x c)
  | none => none
def g2 (g : T → T → Option T) : List T → Option T
  | [t, u] => g t u
  | _ => none
def g1 (g : T → Option T) : List T → Option T
  | [t] => g t
  | _ => none
/-- a test's truth -/
def mIf (c : PSt → Option Rs) (a b : PSt → Option Rs) : PSt → Option Rs := fun τ => match c τ with
  | some (.v (.bl true) _) => a τ
  | some (.v (.bl false) _) => b τ
  | some (.x c) => some (.x c)
  | _ => none
def mNot (c : PSt → Option Rs) : PSt → Option Rs := fun τ => match c τ with
  | some (.v (.bl b) _) => some (.v (.bl (!b)) false)
  | some (.x c) => some (.x c)
  | _ => none
/-- a bool, else nothing -/
def mB (c : PSt → Option Rs) : PSt → Option Rs := fun τ => match c τ with
  | some (.v (.bl b) _) => some (.v (.bl b) false)
  | some (.x c) => some (.x c)
  | _ => none
def mAnd (a b : PSt → Option Rs) : PSt → Option Rs := mIf a b (mC (.bl false))
def mOr (a b : PSt → Option Rs) : PSt → Option Rs := mIf a (mC (.bl true)) b
section
variable {X : Cx} {E : L2.St → XK} {ca : Str → Value} {σ : L2.St} {H : Hp} {m ma mb mc : PSt → Option Rs} {ms : PSt → Option RsL} {K : PySem.W.Frag} {a b c e : Expr} {es : List Expr} {pos : Pos}
theorem PE.weak {t t' : TE} (h : PE X e t) (w : ∀ σ H Q, t' σ H Q → t σ H Q) : PE X e t' := fun pins s σ H Q I q => h pins s σ H Q I (w σ H Q q)
theorem PT.weak {t t' : TT} (h : PT X e t) (w : ∀ σ H Q, t' σ H Q → t σ H Q) : PT X e t' := fun pins s σ H Q I q => h pins s σ H Q I (w σ H Q q)
theorem PA.weak {t t' : TA} (h : PA X es t) (w : ∀ σ H Q, t' σ H Q → t σ H Q) : PA X es t' := fun pos pins s σ H Q I q => h pos pins s σ H Q I (w σ H Q q)
theorem tM.mono {Q Q' : VK} (h : tM K E ca m σ H Q) (w : ∀ x H', Q x H' → Q' x H') : tM K E ca m σ H Q' := by
  obtain ⟨F, τ, R, S, q⟩ := h
  refine ⟨F, τ, R, S, ?_⟩
  cases hm : m τ with
  | none => rw [hm] at q; exact q
  | some r =>
    rw [hm] at q
    cases r with
    | v v b => exact fun F' H' x B e g => w _ _ (q F' H' x B e g)
    | x c => exact q
theorem tMs.mono {Q Q' : List V → Hp → Prop} (h : tMs K E ca ms σ H Q) (w : ∀ x H', Q x H' → Q' x H') : tMs K E ca ms σ H Q' := by
  obtain ⟨F, τ, R, S, q⟩ := h
  refine ⟨F, τ, R, S, ?_⟩
  cases hm : ms τ with
  | none => rw [hm] at q; exact q
  | some r =>
    rw [hm] at q
    cases r with
    | v v b => exact fun F' H' x e g => w _ _ (q F' H' x e g)
    | x c => exact q
theorem tMs_nil {Q : List V → Hp → Prop} (h : tMs K E ca mNil σ H Q) : Q [] H := by
  obtain ⟨F, τ, R, S, q⟩ := h
  exact q F H [] (Ext.refl S.fh) .nil
theorem tMs_cons {Q : List V → Hp → Prop} (h : tMs K E ca (mCons m ms) σ H Q) : tM K E ca m σ H fun x H1 => tMs K E ca ms σ H1 fun xs H2 => Q (x :: xs) H2 := by
  obtain ⟨F, τ, R, S, q⟩ := h
  refine ⟨F, τ, R, S, ?_⟩
  unfold mCons at q
  cases hm : m τ with
  | none => rw [hm] at q; exact q
  | some r =>
    rw [hm] at q
    cases r with
    | x c => exact q
    | v t b =>
      intro F' H' x B e g
      obtain ⟨F2, e2, _, r2⟩ := Got.frz S e g
      have S2 := S.ext e2
      refine ⟨F2, τ, R, S2, ?_⟩
      cases hs : ms τ with
      | none => simp only [hs] at q
      | some r =>
        simp only [hs] at q
        cases r with
        | x c => exact fun F3 H3 e3 => q F3 H3 (e2.trans0 e3)
        | v ts b' =>
          intro F3 H3 xs e3 rs
          refine q F3 H3 (x :: xs) (e2.trans0 e3) ?_
          refine .cons (H := H3) ((r2.frame (gz_mono S2 e3 (by intro z; simp [z])) fun a z => z.elim)) ?_
          cases b' with
          | true => rw [Bool.or_true]; exact rs
          | false =>
            rw [Bool.or_false]
            cases b with
            | false => exact rs
            | true => exact rs.same (gz_ff (b := true) (S2.ext e3))
theorem tM_ap {g : List T → Option T} {Q : VK} (h : tM K E ca (mAp g ms) σ H Q) : tMs K E ca ms σ H fun xs H1 => rTn K g xs H1 Q := by
  obtain ⟨F, τ, R, S, q⟩ := h
  refine ⟨F, τ, R, S, ?_⟩
  unfold mAp at q
  cases hs : ms τ with
  | none => simp only [hs] at q
  | some r =>
    simp only [hs] at q
    cases r with
    | x c => exact q
    | v ts b =>
      intro F1 H1 xs e1 rs
      have S1 := S.ext e1
      cases hg : g ts with
      | none => simp only [hg] at q
      | some v =>
        simp only [hg] at q
        refine ⟨Gz b F1 H1 R, ts, v, gz_fh S1, rs, hg, fun F2 H2 z C e2 r2 => ?_⟩
        unfold fin at q
        cases b with
        | false => exact q F2 H2 z C (e1.trans0 e2) r2
        | true =>
          cases hf : v.flat with
          | false =>
            rw [hf] at q
            exact False.elim q
          | true =>
            rw [hf] at q
            exact q F1 H2 z R0 (e1.grow e2.hh) (r2.flat_any hf)
theorem rTn2 {g : T → T → Option T} {x y : V} {Q : VK} (h : rTn K (g2 g) [x, y] H Q) : rT2 K g x y H Q := by
  obtain ⟨F, ts, v, fh, rs, e, q⟩ := h
  unfold g2 at e
  split at e
  · obtain ⟨x1, xs1, e1, r1, rs1⟩ := rs.inv
    obtain ⟨x2, xs2, e2, r2, rs2⟩ := rs1.inv
    cases e1
    cases e2
    exact ⟨F, _, _, v, fh, r1, r2, e, q⟩
  · cases e
theorem rTn1 {g : T → Option T} {x : V} {Q : VK} (h : rTn K (g1 g) [x] H Q) : rT1 K g x H Q := by
  obtain ⟨F, ts, v, fh, rs, e, q⟩ := h
  unfold g1 at e
  split at e
  · obtain ⟨x1, xs1, e1, r1, rs1⟩ := rs.inv
    cases e1
    exact ⟨F, _, v, fh, r1, e, q⟩
  · cases e
theorem tM_op2 {g : T → T → Option T} {Q : VK} (h : tM K E ca (mAp (g2 g) (mCons ma (mCons mb mNil))) σ H Q) : tOp (rT2 K g) (tM K E ca ma) (tM K E ca mb) σ H Q :=
  (tMs_cons (tM_ap h)).mono fun x H1 h1 => (tMs_cons h1).mono fun y H2 h2 => rTn2 (tMs_nil h2)
theorem tM_op1 {g : T → Option T} {Q : VK} (h : tM K E ca (mAp (g1 g) (mCons ma mNil)) σ H Q) : tUn (rT1 K g) (tM K E ca ma) σ H Q :=
  (tMs_cons (tM_ap h)).mono fun x H1 h1 => rTn1 (tMs_nil h1)

/-! the rules -/
theorem r_var {i : Nat} {x : Str} (hN : X.N[i]? = some x) (hv : Vis X.env.scope x) (hd : (x == ("__debug__" : Str)) = false) (hcd : (x == ("__classdict__" : Str)) = false) : PE X (.Name x pos) (tM X.K E ca (mVar i)) := by
  refine PE.weak (pe_var hN hv hd hcd) fun σ H Q h => ?_
  obtain ⟨F, τ, R, S, q⟩ := h
  unfold mVar at q
  split at q
  · rename_i t b hm
    split at hm
    · rename_i ht
      cases hm
      obtain ⟨x, e, r⟩ := S.rep i t ht
      refine ⟨x, e, q F H x R0 (Ext.refl S.fh) ?_⟩
      cases hs : t.sh with
      | true => exact r.move hs (.refl _)
      | false => exact ⟨rfl, R i, fun a z => ⟨i, z⟩, r⟩
    · cases hm
  · rename_i c hm
    split at hm <;> cases hm
  · exact q.elim
theorem r_const {t : T} {v : V} (h : PE X e (tC v)) (r : ∀ F H, Rp X.K F H t v R0) : PE X e (tM X.K E ca (mC t)) := PE.weak h fun σ H Q h => by
  obtain ⟨F, τ, R, S, q⟩ := h
  exact q F H v R0 (Ext.refl S.fh) (r _ _)
theorem r_nil : PA X [] (tMs X.K E ca mNil) := PA.weak pa_nil fun σ H Q h => tMs_nil h
theorem r_cons (ha : PE X e (tM X.K E ca m)) (hr : PA X es (tMs X.K E ca ms)) (hs : starEach (e :: es) X.env = (false, eval e X.env) :: starEach es X.env) : PA X (e :: es) (tMs X.K E ca (mCons m ms)) :=
  PA.weak (pa_cons ha hr hs) fun σ H Q h => tMs_cons h
theorem r_bin {op : Operator} {g : T → T → Option T} (ho : OpR X (binaryOp op) (rT2 X.K g)) (ha : PE X a (tM X.K E ca ma)) (hb : PE X b (tM X.K E ca mb)) : PE X (.BinOp a op b pos) (tM X.K E ca (mAp (g2 g) (mCons ma (mCons mb mNil)))) :=
  PE.weak (pe_op ho ha hb) fun σ H Q h => tM_op2 h
theorem r_un {op : UnaryOp} {g : T → Option T} (ho : UnR X (unaryOp op) (rT1 X.K g)) (ha : PE X a (tM X.K E ca ma)) : PE X (.UnaryOp op a pos) (tM X.K E ca (mAp (g1 g) (mCons ma mNil))) :=
  PE.weak (pe_un ho ha) fun σ H Q h => tM_op1 h
theorem r_cmp {op : CmpOp} {g : T → T → Option T} (ho : OpR X (compareOp op) (rT2 X.K g)) (ha : PE X a (tM X.K E ca ma)) (hb : PE X b (tM X.K E ca mb)) (hm : behindInMarks op b = false) : PE X (.Compare a [op] [b] pos) (tM X.K E ca (mAp (g2 g) (mCons ma (mCons mb mNil)))) :=
  PE.weak (pe_cmpR ho ha hb hm) fun σ H Q h => tM_op2 h
/-- a reading of a test, out of the value's -/
theorem tMB_val {Q : Bool → Hp → Prop} (h : tMB K E ca m σ H Q) : tM K E ca m σ H fun x H1 => ∃ k, x = .bl k ∧ Q k H1 := by
  obtain ⟨F, τ, R, S, q⟩ := h
  refine ⟨F, τ, R, S, ?_⟩
  cases hm : m τ with
  | none => rw [hm] at q; exact q
  | some r =>
    rw [hm] at q
    cases r with
    | x c => exact q
    | v v b =>
      cases v with
      | bl k =>
        intro F' H' x B e g
        have hx : x = .bl k := by
          cases b with
          | true => obtain ⟨_, A, _, r⟩ := g; exact r.bl_inv
          | false => exact (show Rp K F' H' _ _ _ from g).bl_inv
        exact ⟨k, hx, q F' H' (e.mono fun _ z => z.elim)⟩
      | _ => exact q.elim
theorem r_tcmp {op : CmpOp} {g : T → T → Option T} (ho : OpR X (compareOp op) (rT2 X.K g)) (ha : PE X a (tM X.K E ca ma)) (hb : PE X b (tM X.K E ca mb)) (hm : behindInMarks op b = false) : PT X (.Compare a [op] [b] pos) (tMB X.K E ca (mAp (g2 g) (mCons ma (mCons mb mNil)))) :=
  PT.weak (pt_cmpR ho ha hb hm) fun σ H Q h => tM_op2 (tMB_val h)
theorem r_tval (h : PE X e (tM X.K E ca m)) (he : ∀ whole, isTrue e X.env whole = (do let v ← whole; standAt e.pos; holding [v] (truthy v))) : PT X e (tMB X.K E ca m) := PT.weak (pt_val h he) fun σ H Q h => tMB_val h
/-- a step of a test -/
theorem tMB_if {Q : Bool → Hp → Prop} (h : tMB K E ca (mIf mc ma mb) σ H Q) : tMB K E ca mc σ H fun k H1 => if k = true then tMB K E ca ma σ H1 Q else tMB K E ca mb σ H1 Q := by
  obtain ⟨F, τ, R, S, q⟩ := h
  refine ⟨F, τ, R, S, ?_⟩
  unfold mIf at q
  cases hm : mc τ with
  | none => simp only [hm] at q
  | some r =>
    simp only [hm] at q
    cases r with
    | x c => exact q
    | v v b =>
      cases v with
      | bl k =>
        intro F1 H1 e1
        have S1 := S.ext e1
        have key : ∀ {mm : PSt → Option Rs}, (match mm τ with
            | some (.v (.bl c) _) => ∀ F' H', Ext F H F' H' R0 → Q c H'
            | some (.v _ _) => False
            | some (.x c) => ∀ F' H', Ext F H F' H' R0 → E σ (ca c) none H'
            | none => False) → tMB K E ca mm σ H1 Q := fun {mm} q => by
          refine ⟨F1, τ, R, S1, ?_⟩
          cases hr : mm τ with
          | none => simp only [hr] at q
          | some r =>
            simp only [hr] at q
            cases r with
            | x c => exact fun F' H' e => q F' H' (e1.trans0 e)
            | v v b =>
              cases v with
              | bl k => exact fun F' H' e => q F' H' (e1.trans0 e)
              | _ => exact q.elim
        cases k with
        | true => exact iteT (key q)
        | false => exact iteF (key q)
      | _ => exact q.elim
theorem tM_if {Q : VK} (h : tM K E ca (mIf mc ma mb) σ H Q) : tMB K E ca mc σ H fun k H1 => if k = true then tM K E ca ma σ H1 Q else tM K E ca mb σ H1 Q := by
  obtain ⟨F, τ, R, S, q⟩ := h
  refine ⟨F, τ, R, S, ?_⟩
  unfold mIf at q
  cases hm : mc τ with
  | none => simp only [hm] at q
  | some r =>
    simp only [hm] at q
    cases r with
    | x c => exact q
    | v v b =>
      cases v with
      | bl k =>
        intro F1 H1 e1
        have S1 := S.ext e1
        have key : ∀ {mm : PSt → Option Rs}, (match mm τ with
            | some (.v v b) => ∀ F' H' x B, Ext F H F' H' B → Got K F' H' R v b x B → Q x H'
            | some (.x c) => ∀ F' H', Ext F H F' H' R0 → E σ (ca c) none H'
            | none => False) → tM K E ca mm σ H1 Q := fun {mm} q => by
          refine ⟨F1, τ, R, S1, ?_⟩
          cases hr : mm τ with
          | none => simp only [hr] at q
          | some r =>
            simp only [hr] at q
            cases r with
            | x c => exact fun F' H' e => q F' H' (e1.trans0 e)
            | v v b => exact fun F' H' x B e g => q F' H' x B (e1.trans0 e) g
        cases k with
        | true => exact iteT (key q)
        | false => exact iteF (key q)
      | _ => exact q.elim
theorem r_ife (hc : PT X c (tMB X.K E ca mc)) (ha : PE X a (tM X.K E ca ma)) (hb : PE X b (tM X.K E ca mb)) : PE X (.IfExp c a b pos) (tM X.K E ca (mIf mc ma mb)) := PE.weak (pe_ifExp hc ha hb) fun σ H Q h => tM_if h
theorem tMB_not {Q : Bool → Hp → Prop} (h : tMB K E ca (mNot mc) σ H Q) : tNot (tMB K E ca mc) σ H Q := by
  obtain ⟨F, τ, R, S, q⟩ := h
  refine ⟨F, τ, R, S, ?_⟩
  unfold mNot at q
  cases hm : mc τ with
  | none => simp only [hm] at q
  | some r =>
    simp only [hm] at q
    cases r with
    | x c => exact q
    | v v b =>
      cases v with
      | bl k => exact q
      | _ => exact q.elim
theorem r_tnot (hc : PT X c (tMB X.K E ca mc)) : PT X (.UnaryOp .Not c pos) (tMB X.K E ca (mNot mc)) := PT.weak (pt_not hc) fun σ H Q h => tMB_not h
/-- the value of a test out of its reading as a value -/
theorem tM_B {Q : VK} (h : tM K E ca (mB mc) σ H Q) : tM K E ca mc σ H fun x H1 => ∃ k, x = .bl k ∧ Q (.bl k) H1 := by
  obtain ⟨F, τ, R, S, q⟩ := h
  refine ⟨F, τ, R, S, ?_⟩
  unfold mB at q
  cases hm : mc τ with
  | none => simp only [hm] at q
  | some r =>
    simp only [hm] at q
    cases r with
    | x c => exact q
    | v v b =>
      cases v with
      | bl k =>
        intro F' H' x B e g
        have hx : x = .bl k := by
          cases b with
          | true => obtain ⟨_, A, _, r⟩ := g; exact r.bl_inv
          | false => exact (show Rp K F' H' _ _ _ from g).bl_inv
        exact ⟨k, hx, q F' H' _ R0 (e.mono fun _ z => z.elim) (.bl k)⟩
      | _ => exact q.elim
theorem tM_not {Q : VK} (h : tM K E ca (mNot mc) σ H Q) : tNotV (tM K E ca mc) σ H Q := by
  obtain ⟨F, τ, R, S, q⟩ := h
  refine ⟨F, τ, R, S, ?_⟩
  unfold mNot at q
  cases hm : mc τ with
  | none => simp only [hm] at q
  | some r =>
    simp only [hm] at q
    cases r with
    | x c => exact q
    | v v b =>
      cases v with
      | bl k =>
        intro F' H' x B e g
        have hx : x = .bl k := by
          cases b with
          | true => obtain ⟨_, A, _, r⟩ := g; exact r.bl_inv
          | false => exact (show Rp K F' H' _ _ _ from g).bl_inv
        exact ⟨k, hx, q F' H' _ R0 (e.mono fun _ z => z.elim) (.bl _)⟩
      | _ => exact q.elim
theorem r_not (ha : PE X a (tM X.K E ca ma)) : PE X (.UnaryOp .Not a pos) (tM X.K E ca (mNot ma)) := PE.weak (pe_not ha) fun σ H Q h => tM_not h
theorem tM_ifV {Q : VK} (h : tM K E ca (mIf mc ma mb) σ H Q) : tM K E ca mc σ H fun x H1 => ∃ k, x = .bl k ∧ if k = true then tM K E ca ma σ H1 Q else tM K E ca mb σ H1 Q := tMB_val (tM_if h)
theorem tM_c {t : T} {v : V} (r : ∀ F H, Rp K F H t v R0) {Q : VK} (h : tM K E ca (mC t) σ H Q) : Q v H := by
  obtain ⟨F, τ, R, S, q⟩ := h
  exact q F H v R0 (Ext.refl S.fh) (r _ _)
theorem r_and {rest : List Expr} (ha : PE X a (tM X.K E ca ma)) (hb : PE X (.BoolOp .And (b :: rest) pos) (tM X.K E ca mb)) : PE X (.BoolOp .And (a :: b :: rest) pos) (tM X.K E ca (mAnd ma mb)) :=
  PE.weak (pe_and ha hb) fun σ H Q h => (tM_ifV h).mono fun x H1 ⟨k, e, q⟩ => ⟨k, e, by
    cases k with
    | true => exact q
    | false => exact tM_c (E := E) (ca := ca) (fun _ _ => .bl _) q⟩
theorem r_or {rest : List Expr} (ha : PE X a (tM X.K E ca ma)) (hb : PE X (.BoolOp .Or (b :: rest) pos) (tM X.K E ca mb)) : PE X (.BoolOp .Or (a :: b :: rest) pos) (tM X.K E ca (mOr ma mb)) :=
  PE.weak (pe_or ha hb) fun σ H Q h => (tM_ifV h).mono fun x H1 ⟨k, e, q⟩ => ⟨k, e, by
    cases k with
    | true => exact tM_c (E := E) (ca := ca) (fun _ _ => .bl _) q
    | false => exact q⟩
theorem r_one {op : BoolOp} (ha : PE X a (tM X.K E ca ma)) : PE X (.BoolOp op [a] pos) (tM X.K E ca ma) := pe_one ha
theorem tMB.mono {Q Q' : Bool → Hp → Prop} (h : tMB K E ca m σ H Q) (w : ∀ x H', Q x H' → Q' x H') : tMB K E ca m σ H Q' := by
  obtain ⟨F, τ, R, S, q⟩ := h
  refine ⟨F, τ, R, S, ?_⟩
  cases hm : m τ with
  | none => rw [hm] at q; exact q
  | some r =>
    rw [hm] at q
    cases r with
    | v v b =>
      cases v with
      | bl k => exact fun F' H' e => w _ _ (q F' H' e)
      | _ => exact q.elim
    | x c => exact q
theorem tMB_c {k : Bool} {Q : Bool → Hp → Prop} (h : tMB K E ca (mC (.bl k)) σ H Q) : Q k H := by
  obtain ⟨F, τ, R, S, q⟩ := h
  exact q F H (Ext.refl S.fh)
theorem PW.weak {t t' : TT} (h : PW X e t) (w : ∀ σ H Q, t' σ H Q → t σ H Q) : PW X e t' := fun wh pins s σ H Q I q => h wh pins s σ H Q I (w σ H Q q)
theorem r_wand {rest : List Expr} (ha : PT X a (tMB X.K E ca ma)) (hb : PW X (.BoolOp .And (b :: rest) pos) (tMB X.K E ca mb)) : PW X (.BoolOp .And (a :: b :: rest) pos) (tMB X.K E ca (mAnd ma mb)) :=
  PW.weak (pw_and ha hb) fun σ H Q h => (tMB_if h).mono fun k H1 q => by
    cases k with
    | true => exact q
    | false => exact tMB_c (E := E) (ca := ca) q
theorem r_wor {rest : List Expr} (ha : PT X a (tMB X.K E ca ma)) (hb : PW X (.BoolOp .Or (b :: rest) pos) (tMB X.K E ca mb)) : PW X (.BoolOp .Or (a :: b :: rest) pos) (tMB X.K E ca (mOr ma mb)) :=
  PW.weak (pw_or ha hb) fun σ H Q h => (tMB_if h).mono fun k H1 q => by
    cases k with
    | true => exact tMB_c (E := E) (ca := ca) q
    | false => exact q
theorem r_wone1 (ha : PT X a (tMB X.K E ca ma)) : PW X (.BoolOp .And [a] pos) (tMB X.K E ca ma) := pw_and1 ha
theorem r_wone2 (ha : PT X a (tMB X.K E ca ma)) : PW X (.BoolOp .Or [a] pos) (tMB X.K E ca ma) := pw_or1 ha
end
end Pu

set_option Elab.async false
set_option linter.all false
set_option maxRecDepth 100000
namespace Pu
open PySem PySem.Spec PyProof.Rows L2 Zw Zx

/-! ### enumerate and zip as what a loop walks -/
section
variable {X : Cx} {pins : List (Addr × Obj)} {σ : L2.St} {H : Hp} {s : Shared} {h' : Heap}
theorem turnedN {t' : Nat} {ch : List Addr} (I : Inv X pins σ H s) (k : ∀ b o, b ∉ ch → s.heap.get? b = some o → h'.get? b = some o) (f : ∀ b ∈ ch, FpOk X pins H b) : Inv X pins σ H { s with heap := h', toks := t' } := by
  have nit : ∀ b u, H b = some u → b ∉ ch := fun b u e z => by rw [(f b z).1] at e; cases e
  refine I.step (g' := s.gens) (d' := s.drawn) (ch := ch) (fun b hb => ?_) (fun b o _ _ hc e _ => k b o hc e) (fun b o _ _ hc e _ => ⟨o.slots, k b o hc e⟩) (fun _ _ _ _ n => n)
    (fun b o hc e => ⟨o, k b o hc e⟩) (fun _ _ e => e) (fun _ _ _ e => e) (fun b ps e => ⟨#[], by rw [e]; simp⟩) (fun m hm => ?_) (fun b u e => ?_) I.bare
  · obtain ⟨_, f1, f2, f3, f4, f5⟩ := f b hb
    exact ⟨f3, f1, f4, f5⟩
  · obtain ⟨o, es, ep, ho, r⟩ := hm
    exact ⟨o, es, ep, k _ o (fun z => (f _ z).2.1 rfl) ho, r⟩
  · refine (I.hok b u e).stay (fun c v hc q => k c v ?_ q) (fun _ q => q) fun _ _ q => q
    rcases hc with z | z
    · rw [z]; exact nit b u e
    · exact nit c _ z
theorem turned_new {t' : Nat} {ch : List Addr} {p : Addr} {o : HO} (I : Inv X pins σ H s) (k : ∀ b o, b ∉ ch → s.heap.get? b = some o → h'.get? b = some o) (f : ∀ b ∈ ch, FpOk X pins H b) (hp : s.heap.objs.size ≤ p) (new : ObjOk X.prog X.w (upd H p o) h' p o) :
    Inv X pins σ (upd H p o) { s with heap := h', toks := t' } := by
  have hn : H p = none := I.hok.fresh hp
  have nit : ∀ b u, H b = some u → b ∉ ch := fun b u e z => by rw [(f b z).1] at e; cases e
  have old : ∀ b ob, s.heap.get? b = some ob → b ≠ p := fun b ob e z => by
    subst z
    exact absurd (Heap.lt_size e) (Nat.not_lt.mpr hp)
  refine I.step (g' := s.gens) (d' := s.drawn) (ch := ch) (fun b hb => ?_) (fun b o _ _ hc e _ => k b o hc e) (fun b o _ _ hc e _ => ⟨o.slots, k b o hc e⟩) (fun b ob hc e n => by rw [upd_ne (old b ob e)]; exact n)
    (fun b o hc e => ⟨o, k b o hc e⟩) (fun b xs e => by rw [upd_ne (ne_of_none e hn)]; exact e) (fun b o u e => by rw [upd_ne (ne_of_none e hn)]; exact e) (fun b ps e => ⟨#[], by rw [upd_ne (ne_of_none e hn), e]; simp⟩) (fun m hm => ?_) (fun b u e => ?_) I.bare
  · obtain ⟨_, f1, f2, f3, f4, f5⟩ := f b hb
    exact ⟨f3, f1, f4, f5⟩
  · obtain ⟨o, es, ep, ho, r⟩ := hm
    exact ⟨o, es, ep, k _ o (fun z => (f _ z).2.1 rfl) ho, r⟩
  · by_cases hb : b = p
    · subst hb
      rw [upd_same] at e
      cases e
      exact new
    · rw [upd_ne hb] at e
      refine (I.hok b u e).stay (fun c v hc q => k c v ?_ q) (fun c q => by rw [upd_ne (ne_of_none q hn)]; exact q) fun c xs q => by rw [upd_ne (ne_of_none q hn)]; exact q
      rcases hc with z | z
      · rw [z]; exact nit b u e
      · exact nit c _ z
theorem fp_upd {p b : Addr} {o : HO} (f : FpOk X pins H b) (h : b ≠ p) : FpOk X pins (upd H p o) b := ⟨by rw [upd_ne h]; exact f.1, f.2⟩
end
/-- (0, x), (1, y) .. of the list at l -/
def Ite (K : PySem.W.Frag) (l : Addr) : It :=
  ⟨fun i H => ∃ xs x, SqL K H l xs ∧ xs[i]? = some x, fun i H x H' => ∃ p y, x = .ref p ∧ H p = none ∧ H' = upd H p (.tup [.int i, y]) ∧ ∀ xs, SqL K H l xs → xs[i]? = some y, fun i H => ∃ xs, SqL K H l xs ∧ xs.length ≤ i⟩
theorem turn_enum {P : Program} {w : World} {K : PySem.W.Frag} {elts : List Expr} {kk : Nat} {tpos : Pos} (l e it : Addr) (hei : e ≠ it) :
    Turn P w K (.Tuple elts kk tpos) (Ite K l) [e, it] e (fun i h => (∃ old, IsEnum h e it i old) ∧ h.IsListIter it l i) where
  mem := by simp
  obj := fun i h st b hb => by
    obtain ⟨⟨old, he⟩, o, hi, hc, hd⟩ := st; obtain rfl | hb := List.mem_cons.mp hb
    · exact ⟨_, he, fun v z => by
        have z' : Data.fields _ = Data.cell v := z
        cases z'⟩
    · have q : b = it := by simpa using hb
      subst q
      exact ⟨o, hi, fun v z => by rw [hd] at z; cases z⟩
  keep := fun i h h' st k => by
    obtain ⟨⟨old, he⟩, hi⟩ := st
    exact ⟨⟨old, k e (by simp) _ he⟩, hi.at fun o q => k it (by simp) o q⟩
  item := by
    intro X hP hw hK hc i pins s σ H E I hf st hg
    subst hP hw hK
    obtain ⟨⟨old, he⟩, hit⟩ := st
    obtain ⟨xs, x, hq, hx⟩ := hg
    obtain ⟨its, rv, p, hz⟩ := I.list hq
    obtain ⟨u, hu, ru⟩ := rv.get hx
    have elt : e < s.heap.objs.size := Heap.lt_size he
    have ilt : it < s.heap.objs.size := by obtain ⟨o, q, _⟩ := hit; exact Heap.lt_size q
    have hn : H s.heap.objs.size = none := I.hok.fresh (Nat.le_refl _)
    refine wpAny_pyNext_enum_item he hit p.isList (x := u) (by simpa using hu) hei fun h' ho hit' hT hsz hk => ?_
    have I1 : Inv X pins σ (upd H s.heap.objs.size (.tup [.int i, x])) { s with heap := h', toks := s.toks + 1 } := by
      refine turned_new (ch := [e, it]) I (fun b o hb q => hk b o (fun z => hb (by simp [z])) (fun z => hb (by simp [z])) q) hf (Nat.le_refl _) ?_
      exact ⟨by simp only [List.length_cons, List.length_nil]; rw [sizeLine_eq]; decide, [.int i s.toks, u], .cons ⟨_, rfl⟩ (.cons ru .nil), _, hT, rfl, 0, rfl⟩
    have f1 : ∀ b ∈ [e, it], FpOk X pins (upd H s.heap.objs.size (.tup [.int i, x])) b := fun b hb => fp_upd (hf b hb) (by
      obtain rfl | hb := List.mem_cons.mp hb
      · exact Nat.ne_of_lt elt
      · have q : b = it := by simpa using hb
        subst q
        exact Nat.ne_of_lt ilt)
    refine ⟨.ref s.heap.objs.size, rfl, wpAny_letOwnedTupleGo_enum ho fun h2 he2 hs2 => ?_⟩
    refine ⟨.ref s.heap.objs.size, _, turnedN (t' := s.toks + 1) (ch := [e]) I1 (fun b o hb q => hs2.extBut b o (fun z => hb (by simp [z])) q) (fun b hb => f1 b (by simp at hb; simp [hb])), rfl, ⟨_, x, rfl, hn, rfl, fun ys hy => by rw [I.list_inj hy hq]; exact hx⟩, ⟨⟨_, by simpa using he2⟩, hit'.extBut hs2.extBut hei.symm⟩, fun b hb => (f1 b hb).1⟩
  done := by
    intro X hP hw hK hc i pins s σ H E I hf st hg
    subst hP hw hK
    obtain ⟨⟨old, he⟩, hit⟩ := st
    obtain ⟨xs, hq, hx⟩ := hg
    obtain ⟨its, rv, p, hz⟩ := I.list hq
    have hl := rv.length
    exact wpAny_pyNext_enum_end (I.ok.hd hc) he hit p.isList (by simp; omega) fun h' eb => ⟨rfl, turnedN (t' := s.toks) (ch := [it]) I (fun b o hb q => eb b o (fun z => hb (by simp [z])) q) (fun b hb => hf b (by simp at hb; simp [hb]))⟩
  self := fun _ _ _ _ _ st h => wpAny_pyIter_enum st.1.choose_spec h
/-- the pairs of two lists -/
def Itz (K : PySem.W.Frag) (l1 l2 : Addr) : It :=
  ⟨fun i H => ∃ xs x ys y, SqL K H l1 xs ∧ xs[i]? = some x ∧ SqL K H l2 ys ∧ ys[i]? = some y,
   fun i H x H' => ∃ p y z, x = .ref p ∧ H p = none ∧ H' = upd H p (.tup [y, z]) ∧ (∀ xs, SqL K H l1 xs → xs[i]? = some y) ∧ ∀ xs, SqL K H l2 xs → xs[i]? = some z,
   fun i H => ∃ xs ys, SqL K H l1 xs ∧ SqL K H l2 ys ∧ (xs.length ≤ i ∨ ys.length ≤ i)⟩
theorem turn_zip {P : Program} {w : World} {K : PySem.W.Frag} {elts : List Expr} {kk : Nat} {tpos : Pos} (z TI TO i1 i2 l1 l2 : Addr) (D : ZipApart z TI TO i1 i2 l1 l2) :
    Turn P w K (.Tuple elts kk tpos) (Itz K l1 l2) [z, TI, TO, i1, i2] z (fun i h => IsZip h z TI TO .none ∧ IsPair h TI (.ref i1) (.ref i2) ∧ (∃ a b, IsPair h TO a b) ∧ h.IsListIter i1 l1 i ∧ h.IsListIter i2 l2 i) where
  mem := by simp
  obj := fun i h st b hb => by
    obtain ⟨hz, hTI, ⟨a, c, hTO⟩, ⟨o1, e1, _, d1⟩, ⟨o2, e2, _, d2⟩⟩ := st
    simp only [List.mem_cons, List.not_mem_nil, or_false] at hb; rcases hb with rfl | rfl | rfl | rfl | rfl
    · exact ⟨_, hz, fun v z => by
        have z' : Data.fields _ = Data.cell v := z
        cases z'⟩
    · exact ⟨_, hTI, fun v z => by
        have z' : Data.seq _ _ = Data.cell v := z
        cases z'⟩
    · exact ⟨_, hTO, fun v z => by
        have z' : Data.seq _ _ = Data.cell v := z
        cases z'⟩
    · exact ⟨o1, e1, fun v z => by rw [d1] at z; cases z⟩
    · exact ⟨o2, e2, fun v z => by rw [d2] at z; cases z⟩
  keep := fun i h h' st k => by
    obtain ⟨hz, hTI, ⟨a, c, hTO⟩, h1, h2⟩ := st
    exact ⟨k z (by simp) _ hz, k TI (by simp) _ hTI, ⟨a, c, k TO (by simp) _ hTO⟩, h1.at fun o q => k i1 (by simp) o q, h2.at fun o q => k i2 (by simp) o q⟩
  item := by
    intro X hP hw hK hc i pins s σ H E I hf st hg
    subst hP hw hK
    obtain ⟨hz, hTI, ⟨a, c, hTO⟩, h1, h2⟩ := st
    obtain ⟨xs, x, ys, y, hq, hx, hq2, hy⟩ := hg
    obtain ⟨its, rv, p, hzz⟩ := I.list hq
    obtain ⟨its2, rv2, p2, hzz2⟩ := I.list hq2
    obtain ⟨u, hu, ru⟩ := rv.get hx
    obtain ⟨u2, hu2, ru2⟩ := rv2.get hy
    have hn : H s.heap.objs.size = none := I.hok.fresh (Nat.le_refl _)
    have lt : ∀ b ∈ [z, TI, TO, i1, i2], b ≠ s.heap.objs.size := fun b hb => by
      simp only [List.mem_cons, List.not_mem_nil, or_false] at hb; rcases hb with rfl | rfl | rfl | rfl | rfl
      · exact Nat.ne_of_lt (Heap.lt_size hz)
      · exact Nat.ne_of_lt (Heap.lt_size hTI)
      · exact Nat.ne_of_lt (Heap.lt_size hTO)
      · obtain ⟨o, q, _⟩ := h1; exact Nat.ne_of_lt (Heap.lt_size q)
      · obtain ⟨o, q, _⟩ := h2; exact Nat.ne_of_lt (Heap.lt_size q)
    refine wpAny_pyNext_zip_item D hz hTI hTO h1 h2 p.isList p2.isList (x := u) (y := u2) (by simpa using hu) (by simpa using hu2) fun h' a1 a2 a3 a4 a5 a6 hk => ?_
    have I1 : Inv X pins σ (upd H s.heap.objs.size (.tup [x, y])) { s with heap := h', toks := s.toks } := by
      refine turned_new (ch := [z, TI, TO, i1, i2]) I (fun b o hb q => hk b o (fun z => hb (by simp [z])) (fun z => hb (by simp [z])) (fun z => hb (by simp [z])) (fun z => hb (by simp [z])) q) hf (Nat.le_refl _) ?_
      exact ⟨by simp only [List.length_cons, List.length_nil]; rw [sizeLine_eq]; decide, [u, u2], .cons ru (.cons ru2 .nil), _, a5, rfl, 0, rfl⟩
    have f1 : ∀ b ∈ [z, TI, TO, i1, i2], FpOk X pins (upd H s.heap.objs.size (.tup [x, y])) b := fun b hb => fp_upd (hf b hb) (lt b hb)
    refine ⟨.ref s.heap.objs.size, rfl, wpAny_letOwnedTupleGo_zip a1 fun h3 hz3 hs3 => ?_⟩
    refine ⟨.ref s.heap.objs.size, _, turnedN (t' := s.toks) (ch := [z]) I1 (fun b o hb q => hs3.extBut b o (fun z => hb (by simp [z])) q) (fun b hb => f1 b (by simp at hb; simp [hb])), rfl, ⟨_, x, y, rfl, hn, rfl, (fun zs hy' => by rw [I.list_inj hy' hq]; exact hx), fun zs hy' => by rw [I.list_inj hy' hq2]; exact hy⟩, ?_, fun b hb => (f1 b hb).1⟩
    exact ⟨hz3, hs3.extBut _ _ D.TIz (hk _ _ D.TIz D.TITO D.TIi1 D.TIi2 hTI), ⟨_, _, hs3.extBut _ _ D.TOz a2⟩, a3.extBut hs3.extBut D.i1z, a4.extBut hs3.extBut D.i2z⟩
  done := by
    intro X hP hw hK hc i pins s σ H E I hf st hg
    subst hP hw hK
    obtain ⟨hz, hTI, ⟨a, c, hTO⟩, h1, h2⟩ := st
    obtain ⟨xs, ys, hq, hq2, hx⟩ := hg
    obtain ⟨its, rv, p, hzz⟩ := I.list hq
    obtain ⟨its2, rv2, p2, hzz2⟩ := I.list hq2
    have hl := rv.length
    have hl2 := rv2.length
    refine wpAny_pyNext_zip_end (I.ok.hd hc) D hz hTI hTO h1 h2 p.isList p2.isList ?_ fun h' hk => ⟨rfl, turnedN (t' := s.toks) (ch := [z, TI, TO, i1, i2]) I (fun b o hb q => hk b o (fun z => hb (by simp [z])) (fun z => hb (by simp [z])) (fun z => hb (by simp [z])) (fun z => hb (by simp [z])) q) hf⟩
    rcases hx with hx | hx
    · exact .inl (by simp; omega)
    · exact .inr (by simp; omega)
  self := fun _ _ _ _ _ st h => wpAny_pyIter_zip st.1 h
section
variable {X : Cx} {elts : List Expr} {kk : Nat} {tpos : Pos}
def iEnum (K : PySem.W.Frag) (ta : TA) : TI := fun σ H R => ta σ H fun vs H1 => ∃ a, vs = [.ref a] ∧ (∃ xs, SqL K H1 a xs) ∧ R (Ite K a) H1
theorem pi_enum {a : Expr} {ta : TA} {p pos : Pos} (hg : Gl X "enumerate") (hm : X.mg "enumerate" = none) (ha : PA X [a] ta) (hs : starEach [a] X.env = [(false, eval a X.env)]) : PI X (.Tuple elts kk tpos) (.Call (.Name "enumerate" p) [a] [] pos) (iEnum X.K ta) := by
  intro pins s σ H R I h
  refine Call_ (ld_blt I hg hm boot_enumerate (PyProof.Rows.callWith_type1 (thn (ha pos pins s σ H _ I h) fun us s1 ⟨vs, H1, I1, r1, q1⟩ => ?_) hs rfl))
  obtain ⟨l, e, ⟨xs, hq⟩, q⟩ := q1
  subst e
  obtain ⟨u, rfl, ru⟩ := vals1 r1
  cases ru
  obtain ⟨its, rv, pl, hz⟩ := I1.list hq
  have llt : l < s1.heap.objs.size := by obtain ⟨o, n, e, _⟩ := pl; exact Heap.lt_size e
  refine call_enumerate_list pl.isList fun h' he hit hsz hk => ?_
  have I2 : Inv X pins σ H1 { s1 with heap := h', toks := s1.toks } := I1.kept hk
  refine wpAny_pyIter_enum he ⟨s1.heap.objs.size + 1, [s1.heap.objs.size + 1, s1.heap.objs.size], _, _, H1, rfl, I2, turn_enum l _ _ (by simp), ⟨⟨_, he⟩, hit⟩, fun b hb => ?_, q⟩
  have hb' : s1.heap.objs.size ≤ b := by
    obtain rfl | hb := List.mem_cons.mp hb
    · exact Nat.le_succ _
    · have e : b = s1.heap.objs.size := by simpa using hb
      subst e
      exact Nat.le_refl _
  exact I1.fpOk hb' (I1.hok.fresh hb')
def iZip (K : PySem.W.Frag) (ta : TA) : TI := fun σ H R => ta σ H fun vs H1 => ∃ a b, vs = [.ref a, .ref b] ∧ (∃ xs, SqL K H1 a xs) ∧ (∃ xs, SqL K H1 b xs) ∧ R (Itz K a b) H1
theorem pi_zip {a b : Expr} {ta : TA} {p pos : Pos} (hg : Gl X "zip") (hm : X.mg "zip" = none) (ha : PA X [a, b] ta) (hs : starEach [a, b] X.env = [(false, eval a X.env), (false, eval b X.env)]) (hs2 : starEach [b] X.env = [(false, eval b X.env)]) : PI X (.Tuple elts kk tpos) (.Call (.Name "zip" p) [a, b] [] pos) (iZip X.K ta) := by
  intro pins s σ H R I h
  refine Call_ (ld_blt I hg hm boot_zip (PyProof.Rows.callWith_type1 (thn (ha pos pins s σ H _ I h) fun us s1 ⟨vs, H1, I1, r1, q1⟩ => ?_) (by rw [hs, hs2]) (by rw [hs2]; rfl)))
  obtain ⟨l1, l2, e, ⟨xs, hq⟩, ⟨ys, hq2⟩, q⟩ := q1
  subst e
  obtain ⟨u, u2, rfl, ru, ru2⟩ := vals2 r1
  cases ru
  cases ru2
  obtain ⟨its, rv, pl, hz⟩ := I1.list hq
  obtain ⟨its2, rv2, pl2, hz2⟩ := I1.list hq2
  have llt : l1 < s1.heap.objs.size := by obtain ⟨o, n, e, _⟩ := pl; exact Heap.lt_size e
  have llt2 : l2 < s1.heap.objs.size := by obtain ⟨o, n, e, _⟩ := pl2; exact Heap.lt_size e
  refine call_zip_2 pl.isList pl2.isList fun h' a1 a2 a3 a4 a5 a6 hk => ?_
  have I2 : Inv X pins σ H1 { s1 with heap := h', toks := s1.toks } := I1.kept hk
  have D : ZipApart (s1.heap.objs.size + 4) (s1.heap.objs.size + 2) (s1.heap.objs.size + 3) s1.heap.objs.size (s1.heap.objs.size + 1) l1 l2 := by
    have n1 : ∀ k : Nat, l1 ≠ s1.heap.objs.size + k := fun k z => Nat.lt_irrefl _ (Nat.lt_of_lt_of_le llt (z ▸ Nat.le_add_right _ _))
    have n2 : ∀ k : Nat, l2 ≠ s1.heap.objs.size + k := fun k z => Nat.lt_irrefl _ (Nat.lt_of_lt_of_le llt2 (z ▸ Nat.le_add_right _ _))
    refine ⟨?_, ?_, ?_, ?_, ?_, ?_, ?_, ?_, ?_, ?_, n1 4, n1 3, n1 0, n1 1, n2 4, n2 3, n2 0, n2 1⟩ <;> intro z <;> simp at z
  refine wpAny_pyIter_zip a1 ⟨_, [s1.heap.objs.size + 4, s1.heap.objs.size + 2, s1.heap.objs.size + 3, s1.heap.objs.size, s1.heap.objs.size + 1], _, _, H1, rfl, I2, turn_zip _ _ _ _ _ l1 l2 D, ⟨a1, a2, ⟨_, _, a3⟩, a4, a5⟩, fun b hb => ?_, q⟩
  have hb' : s1.heap.objs.size ≤ b := by
    simp only [List.mem_cons, List.not_mem_nil, or_false] at hb; rcases hb with rfl | rfl | rfl | rfl | rfl
    · exact Nat.le_add_right _ _
    · exact Nat.le_add_right _ _
    · exact Nat.le_add_right _ _
    · exact Nat.le_refl _
    · exact Nat.le_add_right _ _
  exact I1.fpOk hb' (I1.hok.fresh hb')
end
end Pu

set_option Elab.async false
set_option linter.all false
set_option maxRecDepth 100000
namespace Pu
open PySem PySem.Spec PyProof.Rows L2 Zw Zx

/-! ### comprehensions with a test, stored or not -/
/-- the tests of a clause -/
def testsOf (ifs : List Expr) (env : Env) : Sem Bool := forIn ifs true fun c r => if r = true then do let ok ← isTrue c env (eval c env); pure (ForInStep.yield ok) else pure (ForInStep.yield r)
def PTs (X : Cx) (ifs : List Expr) (t : TT) : Prop :=
  ∀ (pins : List (Addr × Obj)) (s : Shared) (σ : L2.St) (H : Hp) (Q : Bool → Hp → Prop), Inv X pins σ H s → t σ H Q → wpAny (model X.prog X.w) X.A (testsOf ifs X.env) (TP X pins σ Q) X.xe s
theorem pts_nil {X : Cx} : PTs X [] (fun _ H Q => Q true H) := fun pins s σ H Q I h => wpAny_pure ⟨H, I, h⟩
theorem pts_one {X : Cx} {c : Expr} {t : TT} (h : PT X c t) : PTs X [c] t := fun pins s σ H Q I q => by
  have e : testsOf [c] X.env = (isTrue c X.env (eval c X.env) >>= fun ok => pure ok) := by
    unfold testsOf
    simp [List.forIn_cons]
  rw [e]
  exact wpAny_bind (wpAny_mono (h pins s σ H Q I q) (fun b s1 h1 => wpAny_pure h1) fun _ _ z => z)
theorem comp_turn2 {elt target iter : Expr} {ifs : List Expr} {scope : Scope} {pos : Pos} {it acc : Value} {env : Env} : compTurn (.ListComp elt [⟨target, iter, ifs, 0⟩] scope pos) 0 it acc env = (standAt iter.pos >>= fun _ => pyNext it >>= fun r => match r with
    | none => pure (.done .next)
    | some u => letOwnedTupleGo target it u >>= fun _ => assign target env u >>= fun _ => testsOf ifs env >>= fun ok =>
      if ok = true then ((eval elt env >>= fun x => call (.builtin "list.append") [acc, x] >>= fun _ => pure ()) >>= fun _ => again (.compLoop (.ListComp elt [⟨target, iter, ifs, 0⟩] scope pos) 0 it acc env))
      else again (.compLoop (.ListComp elt [⟨target, iter, ifs, 0⟩] scope pos) 0 it acc env)) := by rfl
theorem comp_loop2 {prog : Program} {w : World} {A : Around} {R : Result → Shared → Prop} {s : Shared} {elt target iter : Expr} {ifs : List Expr} {scope : Scope} {pos : Pos} {it acc : Value} {env : Env} (I : Nat → Shared → Prop)
    (hturn : ∀ n s, I n s → wpAny (model prog w) A (pyNext it) (fun r s₁ => match r with
      | none => R (.ok .next) s₁
      | some v => wpAny (model prog w) A (letOwnedTupleGo target it v) (fun _ s₁' => wpAny (model prog w) A (assign target env v) (fun _ s₂ => wpAny (model prog w) A (testsOf ifs env) (fun ok s₂' => if ok = true then wpAny (model prog w) A (eval elt env) (fun x s₃ =>
          wpAny (model prog w) A (call (.builtin "list.append") [acc, x]) (fun _ s₄ => ∃ m, m < n ∧ I m s₄) (fun _ _ => False) s₃)
          (fun _ _ => False) s₂' else ∃ m, m < n ∧ I m s₂') (fun _ _ => False) s₂) (fun _ _ => False) s₁') (fun _ _ => False) s₁) (fun _ _ => False) s)
    (k : Nat) (hk : I k s) : codeAny (model prog w) A (.compLoop (.ListComp elt [⟨target, iter, ifs, 0⟩] scope pos) 0 it acc env) R s := by
  refine codeAny_loop rfl I (fun n s hI => ?_) k hk
  show wpAny _ _ ((compTurn (.ListComp elt [⟨target, iter, ifs, 0⟩] scope pos) 0 it acc env).onRaise (fun y => do noteFrame y env; theTreesLotGoes y)) _ _ s
  refine wpAny_noted ?_
  rw [comp_turn2]
  refine wpAny_bind (wpAny_standAt (wpAny_bind (wpAny_mono (hturn n s hI) (fun r s₁ h₁ => ?_) fun _ _ z => z.elim)))
  cases r with
  | none => exact wpAny_pure h₁
  | some v =>
    refine wpAny_bind (wpAny_mono h₁ (fun _ s₁' h₁' => ?_) fun _ _ z => z.elim)
    refine wpAny_bind (wpAny_mono h₁' (fun _ s₂ h₂ => wpAny_bind (wpAny_mono h₂ (fun ok s₂' h₂' => ?_) fun _ _ z => z.elim)) fun _ _ z => z.elim)
    cases ok with
    | false =>
      rw [if_neg (by decide)] at h₂' ⊢
      exact wpAny_pure ⟨rfl, h₂'⟩
    | true =>
      rw [if_pos rfl] at h₂' ⊢
      exact wpAny_bind (wpAny_bind (wpAny_mono h₂' (fun x s₃ h₃ => wpAny_bind (wpAny_mono h₃ (fun _ s₄ h₄ => wpAny_pure (wpAny_pure ⟨rfl, h₄⟩)) fun _ _ z => z.elim)) fun _ _ z => z.elim))
/-- the cells that a block sees -/
theorem closure_ok (env : Env) : ∀ (names : List (Str × NameKind)), (∀ y ∈ names, y.2 = .free → ∃ c, env.cells.lookup y.1 = some c) → ∀ acc : List (Str × Addr), ∃ cl : List (Str × Addr),
    (forIn names acc fun (x : Str × NameKind) (r : List (Str × Addr)) => (if (x.2 == NameKind.free) = true then do let a ← cellOf env x.1; pure (ForInStep.yield ((x.1, a) :: r)) else pure (ForInStep.yield r) : Sem (ForInStep (List (Str × Addr))))) = (pure cl : Sem (List (Str × Addr))) ∧
    (∀ y c, cl.lookup y = some c → acc.lookup y = some c ∨ env.cells.lookup y = some c) ∧ (∀ y ∈ names, y.2 = .free → ∃ c, cl.lookup y.1 = some c) ∧ ∀ y c, acc.lookup y = some c → ∃ c', cl.lookup y = some c'
  | [], _, acc => ⟨acc, rfl, fun _ _ e => .inl e, (fun _ z => by cases z), fun _ c e => ⟨c, e⟩⟩
  | (n, k) :: r, h, acc => by
    rw [List.forIn_cons]
    by_cases hk : k = .free
    · subst hk
      obtain ⟨c, hc⟩ := h (n, .free) (List.mem_cons_self ..) rfl
      have e1 : cellOf env n = pure c := by unfold cellOf; rw [hc]
      obtain ⟨cl, e, h1, h2, h3⟩ := closure_ok env r (fun y hy => h y (List.mem_cons_of_mem _ hy)) ((n, c) :: acc)
      refine ⟨cl, ?_, fun y c' q => ?_, fun y hy hf => ?_, fun y c' q => ?_⟩
      · simp only [beq_self_eq_true, if_true, e1, pure_bind]
        exact e
      · rcases h1 y c' q with z | z
        · rw [List.lookup_cons] at z
          cases hy : y == n with
          | true =>
            rw [hy] at z
            cases z
            exact .inr (by rw [eq_of_beq hy]; exact hc)
          | false => rw [hy] at z; exact .inl z
        · exact .inr z
      · obtain rfl | hy := List.mem_cons.mp hy
        · exact h3 n c (by simp)
        · exact h2 y hy hf
      · by_cases hy : y = n
        · subst hy
          exact h3 y c (by simp)
        · exact h3 y c' (by rw [List.lookup_cons, beq_eq_false_iff_ne.mpr hy]; exact q)
    · have hk' : (k == NameKind.free) = false := beq_eq_false_iff_ne.mpr hk
      obtain ⟨cl, e, h1, h2, h3⟩ := closure_ok env r (fun y hy => h y (List.mem_cons_of_mem _ hy)) acc
      refine ⟨cl, ?_, h1, fun y hy hf => ?_, h3⟩
      · simp only [hk', pure_bind]
        exact e
      · obtain rfl | hy := List.mem_cons.mp hy
        · exact absurd hf hk
        · exact h2 y hy hf
theorem closure_for (scope : Scope) (env : Env) (h : ∀ y ∈ scope.names, y.2 = .free → ∃ c, env.cells.lookup y.1 = some c) : ∃ cl, closureFor scope env = pure cl ∧ (∀ y c, cl.lookup y = some c → env.cells.lookup y = some c) ∧ ∀ y ∈ scope.names, y.2 = .free → ∃ c, cl.lookup y.1 = some c := by
  obtain ⟨cl, e, h1, h2, _⟩ := closure_ok env scope.names h []
  refine ⟨cl, ?_, fun y c q => ?_, h2⟩
  · have e2 : closureFor scope env = (forIn scope.names [] fun (x : Str × NameKind) (r : List (Str × Addr)) => (if (x.2 == NameKind.free) = true then do let a ← cellOf env x.1; pure (ForInStep.yield ((x.1, a) :: r)) else pure (ForInStep.yield r) : Sem (ForInStep (List (Str × Addr))))) >>= pure := rfl
    rw [e2, e, pure_bind]
  · rcases h1 y c q with z | z
    · cases z
    · exact z
/-- a block's own cells, with those that it sees -/
theorem cells_new : ∀ (names : List (Str × NameKind)) (h : Heap) (acc : List (Str × Addr)) (y : Str) (c : Addr), (cellsFrom h.objs.size names acc).lookup y = some c → acc.lookup y = some c ∨ (h.objs.size ≤ c ∧ (pushCells h names).IsCell c none ∧ (y, NameKind.cell) ∈ names)
  | [], h, acc, y, c, e => .inl e
  | (n, k) :: r, h, acc, y, c, e => by
    unfold cellsFrom at e
    unfold pushCells
    split at e
    · rename_i hk
      rw [if_pos hk]
      have ez : (h.push { cls := .type "cell", data := .cell none }).objs.size = h.objs.size + 1 := Heap.size_push ..
      rw [← ez] at e
      rcases cells_new r _ _ y c e with q | ⟨q1, q2, q3⟩
      · rw [List.lookup_cons] at q
        cases hy : y == n with
        | true =>
          rw [hy] at q
          cases q
          have e1 : y = n := eq_of_beq hy
          subst e1
          exact .inr ⟨Nat.le_refl _, ⟨_, pushCells_keeps _ _ _ _ (Heap.get?_push_size _ rfl), rfl⟩, by rw [eq_of_beq hk]; exact List.mem_cons_self ..⟩
        | false => rw [hy] at q; exact .inl q
      · exact .inr ⟨by rw [ez] at q1; exact Nat.le_trans (Nat.le_succ _) q1, q2, List.mem_cons_of_mem _ q3⟩
    · rename_i hk
      rw [if_neg hk]
      rcases cells_new r h acc y c e with q | ⟨q1, q2, q3⟩
      · exact .inl q
      · exact .inr ⟨q1, q2, List.mem_cons_of_mem _ q3⟩
theorem cells_inj : ∀ (names : List (Str × NameKind)) (h : Heap) (acc : List (Str × Addr)), (∀ y z c, acc.lookup y = some c → acc.lookup z = some c → y = z) → (∀ y c, acc.lookup y = some c → c < h.objs.size) →
    ∀ y z c, (cellsFrom h.objs.size names acc).lookup y = some c → (cellsFrom h.objs.size names acc).lookup z = some c → y = z
  | [], h, acc, hi, _ => hi
  | (n, k) :: r, h, acc, hi, hl => by
    unfold cellsFrom
    split
    · have ez : (h.push { cls := .type "cell", data := .cell none }).objs.size = h.objs.size + 1 := Heap.size_push ..
      rw [← ez]
      refine cells_inj r _ _ (fun y z c h1 h2 => ?_) (fun y c h1 => ?_)
      · rw [List.lookup_cons] at h1 h2
        cases hy : y == n with
        | true =>
          rw [hy] at h1
          cases h1
          cases hz : z == n with
          | true => rw [eq_of_beq hy, eq_of_beq hz]
          | false =>
            rw [hz] at h2
            exact absurd (hl z _ h2) (Nat.lt_irrefl _)
        | false =>
          rw [hy] at h1
          cases hz : z == n with
          | true =>
            rw [hz] at h2
            cases h2
            exact absurd (hl y _ h1) (Nat.lt_irrefl _)
          | false => rw [hz] at h2; exact hi y z c h1 h2
      · rw [List.lookup_cons] at h1
        rw [ez]
        cases hy : y == n with
        | true => rw [hy] at h1; cases h1; exact Nat.lt_succ_self _
        | false => rw [hy] at h1; exact Nat.lt_succ_of_lt (hl y c h1)
    · exact cells_inj r h acc hi hl
theorem cells_own : ∀ (names : List (Str × NameKind)) (n lo : Nat) (acc : List (Str × Addr)) (y : Str) (c : Addr), lo ≤ n → ((y, NameKind.cell) ∈ names ∨ ∃ c0, acc.lookup y = some c0 ∧ lo ≤ c0) → (cellsFrom n names acc).lookup y = some c → lo ≤ c
  | [], n, lo, acc, y, c, hn, h, e => by
    rcases h with h | ⟨c0, h1, h2⟩
    · cases h
    · have e' : acc.lookup y = some c := e
      rw [h1] at e'
      cases e'
      exact h2
  | (m, k) :: r, n, lo, acc, y, c, hn, h, e => by
    unfold cellsFrom at e
    split at e
    · refine cells_own r (n + 1) lo _ y c (Nat.le_succ_of_le hn) ?_ e
      by_cases hy : y = m
      · subst hy
        exact .inr ⟨n, by simp, hn⟩
      · rcases h with h | ⟨c0, h1, h2⟩
        · rcases List.mem_cons.mp h with z | z
          · cases z; exact absurd rfl hy
          · exact .inl z
        · exact .inr ⟨c0, by rw [List.lookup_cons, beq_eq_false_iff_ne.mpr hy]; exact h1, h2⟩
    · rename_i hk
      refine cells_own r n lo acc y c hn ?_ e
      rcases h with h | h
      · rcases List.mem_cons.mp h with z | z
        · cases z; exact absurd rfl hk
        · exact .inl z
      · exact .inr h
theorem newEnv_cells {M : Model} {A : Around} {E : Value → Shared → Prop} {s : Shared} {scope : Scope} {globals : Addr} {cl : List (Str × Addr)} {qual : Str} {func : Option Addr} {code : Value} {outer : Env} {builtins : Addr} {Q : Env → Shared → Prop}
    (hQ : Q (newEnv scope s.heap.objs.size globals (cellsFrom (s.heap.objs.size + 1) scope.names cl) qual func code (some outer) builtins) { s with heap := pushCells (s.heap.push { cls := .type "dict", data := .dict #[] }) scope.names }) :
    wpAny M A (newFunctionEnv scope globals cl [] qual func code (some outer) builtins) Q E s := by
  simp only [newFunctionEnv, Option.isSome_some, if_true]; refine wpAny_bind (wpAny_alloc ?_)
  refine wpAny_bind (wpAny_layCells _ (fun name kind cells => by cases hkc : kind == NameKind.cell <;> simp [hkc]) _ _ _ _ ?_); rw [show ({ s with heap := s.heap.push { cls := .type "dict", data := .dict #[] } } : Shared).heap.objs.size = s.heap.objs.size + 1 from Heap.size_push ..]
  rw [List.forIn_nil]
  exact wpAny_bind (wpAny_pure (wpAny_pure hQ))
/-- the block's context: its own names and cells, and those it sees -/
abbrev compCx2 (X : Cx) (scope : Scope) (cl : List (Str × Addr)) (N' : List Str) (C : Addr) (s₀ : Shared) (H₀ : Hp) (ex : List Addr) : Cx := { compCx X scope cl N' C s₀ H₀ ex with fn := fun x => decide (scope.names.lookup x = some .cell) }
section
variable {X : Cx} {elt iter tg : Expr} {ifs : List Expr} {scope : Scope} {pos pos2 : Pos} {cl : List (Str × Addr)} {N' : List Str} {wi : TI} {g : TG} {tt : TT} {te : TE}
/-- W: what holds ahead of turn i of the items so far; n: a bound of the turns; σ': the block's names at its start -/
def tLC2 (σ' : L2.St → L2.St) (wi : TI) (g : TG) (tt : TT) (te : TE) : TE := fun σ H Q => wi σ H fun J H1 => ∃ (W : Nat → List V → L2.St → Hp → Prop) (n : Nat), n ≤ sizeLine ∧ W 0 [] (σ' σ) H1 ∧ ∀ i ys τ H, W i ys τ H → ys.length ≤ i ∧ i ≤ n ∧
  ((J.stop i H ∧ ∀ p, H p = none → Q (.ref p) (upd H p (.lst ys))) ∨ (i < n ∧ J.go i H ∧ ∀ x H', J.yld i H x H' → g x τ H' fun τ2 H2 => tt τ2 H2 fun k H3 => if k = true then te τ2 H3 fun y H4 => W (i + 1) (ys ++ [y]) τ2 H4 else W (i + 1) ys τ2 H3))
/-- the block, whatever is done with its list -/
theorem lc_any (σ' : L2.St → L2.St) (hclos : closureFor scope X.env = pure cl) (hkind : scope.kind = .function) (hnames : ∀ y ∈ scope.names, y.2 = .local → scope.names.lookup y.1 = some .local)
    (hcl : ∀ y c, cl.lookup y = some c → X.env.cells.lookup y = some c) (hhas : ∀ y, (relabel scope X.env).names.lookup y = some .cell ∨ (relabel scope X.env).names.lookup y = some .free → (y, NameKind.cell) ∈ scope.names ∨ ∃ c, cl.lookup y = some c) (hcap : ∀ (σ : L2.St) (i : Nat) (y : Str) (v : V), N'[i]? = some y → (σ' σ)[i]? = some (some v) → (y, NameKind.cell) ∉ scope.names)
    (hσ : ∀ σ : L2.St, σ.length = X.N.length → (σ' σ).length = N'.length)
    (hvis : ∀ (σ : L2.St) (i : Nat) (y : Str) (v : V), N'[i]? = some y → (σ' σ)[i]? = some (some v) → ((relabel scope X.env).names.lookup y = some .cell ∨ (relabel scope X.env).names.lookup y = some .free) ∧ ∃ j : Nat, X.N[j]? = some y ∧ σ[j]? = some (some v) ∧ Vis X.env.scope y ∧ X.env.kindOf y ≠ some .local)
    (hc : X.calm = true) (hi : PI X tg iter wi) (hg : ∀ cl C s₀ H₀ ex, PG (compCx2 X scope cl N' C s₀ H₀ ex) tg g) (ht : ∀ cl C s₀ H₀ ex, PTs (compCx2 X scope cl N' C s₀ H₀ ex) ifs tt) (he : ∀ cl C s₀ H₀ ex, PE (compCx2 X scope cl N' C s₀ H₀ ex) elt te)
    (hs : ∀ x, foldedSetIterable iter X.env x = pure x) {use : Option (Value → Sem Unit)} {pins : List (Addr × Obj)} {s : Shared} {σ : L2.St} {H : Hp} {Q : VK} {QQ : Value → Shared → Prop} (I : Inv X pins σ H s) (h : tLC2 σ' wi g tt te σ H Q)
    (hend : ∀ (D C : Addr) (s5 : Shared) (H5 : Hp), Inv X pins σ H5 s5 → Q (.ref D) H5 → (∃ m, s5.heap.Ns C m) → FpOk X pins H5 C → compPost (model X.prog X.w) X.A X.xe use QQ (.ref D) C (.ok .next) s5) :
    wpAny (model X.prog X.w) X.A (comprehension (.ListComp elt [⟨tg, iter, ifs, 0⟩] scope pos) scope X.env pos2 (newList []) false (eval iter X.env) use) QQ X.xe s := by
  refine wpAny_comprehension_free (use := use) rfl hs hclos hkind hnames (thn (hi pins s σ H _ I h) fun v s1 h1 => thn h1 fun itv s2 h2 => ?_)
  obtain ⟨it, fp, tn, J, H2, e, I2, T, st2, f2, W, n, hn, w0, turn⟩ := h2
  subst e
  refine wpAny_newObj_type (newEnv_cells ?_)
  dsimp only
  generalize hHp : s2.heap.push { cls := .type "list", dict := none, data := .seq ([] : List Value).toArray } = P2
  generalize hcl' : cellsFrom (P2.objs.size + 1) scope.names cl = cl'
  generalize hh1 : pushCells (P2.push { cls := .type "dict", data := .dict #[] }) scope.names = h₁
  have hC : P2.objs.size = s2.heap.objs.size + 1 := by rw [← hHp, Heap.size_push]
  have hP3 : (P2.push { cls := .type "dict", data := .dict #[] }).objs.size = P2.objs.size + 1 := Heap.size_push ..
  have hDC : s2.heap.objs.size ≠ P2.objs.size := by rw [hC]; exact Nat.ne_of_lt (Nat.lt_succ_self _)
  have below : ∀ b, b < s2.heap.objs.size → b ≠ P2.objs.size ∧ b ≠ s2.heap.objs.size := fun b hb => ⟨by rw [hC]; exact Nat.ne_of_lt (Nat.lt_succ_of_lt hb), Nat.ne_of_lt hb⟩
  have old : ∀ b o, s2.heap.get? b = some o → h₁.get? b = some o := fun b o e => by
    rw [← hh1]
    exact pushCells_keeps _ _ _ _ (Heap.get?_push_of_some _ (hHp ▸ Heap.get?_push_of_some _ e))
  have hacc : h₁.PlainList s2.heap.objs.size #[] := ⟨_, by
    rw [← hh1]
    exact pushCells_keeps _ _ _ _ (Heap.get?_push_of_some _ (hHp ▸ Heap.get?_push_size _ rfl))⟩
  have hns₁ : h₁.Ns P2.objs.size (fun _ => none) := by
    rw [← hh1]
    exact (Heap.Ns.new P2 (.type "dict")).keeps (pushCells_keeps _ _)
  -- the cells: seen ones, own ones
  have cells : ∀ y c, cl'.lookup y = some c → X.env.cells.lookup y = some c ∨ (P2.objs.size < c ∧ h₁.IsCell c none ∧ (y, NameKind.cell) ∈ scope.names) := fun y c e => by
    rw [← hcl', ← hP3] at e
    rcases cells_new _ _ _ y c e with q | ⟨q1, q2, q3⟩
    · exact .inl (hcl y c q)
    · rw [hP3] at q1
      rw [hh1] at q2
      exact .inr ⟨q1, q2, q3⟩
  have has' : ∀ y, (y, NameKind.cell) ∈ scope.names ∨ (∃ c, cl.lookup y = some c) → ∃ c, cl'.lookup y = some c := fun y hy => by
    rw [← hcl']
    have go : ∀ (names : List (Str × NameKind)) (n : Nat) (acc : List (Str × Addr)), ((y, NameKind.cell) ∈ names ∨ ∃ c, acc.lookup y = some c) → ∃ c, (cellsFrom n names acc).lookup y = some c := by
      intro names
      induction names with
      | nil =>
        intro n acc h
        rcases h with h | h
        · cases h
        · exact h
      | cons x r ih =>
        obtain ⟨m, k⟩ := x
        intro n acc h
        unfold cellsFrom
        split
        · refine ih _ _ ?_
          by_cases hm : y = m
          · subst hm
            exact .inr ⟨n, by simp⟩
          · rcases h with h | ⟨c, h⟩
            · rcases List.mem_cons.mp h with z | z
              · cases z; exact absurd rfl hm
              · exact .inl z
            · exact .inr ⟨c, by rw [List.lookup_cons, beq_eq_false_iff_ne.mpr hm]; exact h⟩
        · rename_i hk
          refine ih _ _ ?_
          rcases h with h | h
          · rcases List.mem_cons.mp h with z | z
            · cases z; exact absurd rfl hk
            · exact .inl z
          · exact .inr h
    exact go _ _ _ hy
  have fsub : ∀ b ∈ frs X.stack, b ∈ X.env.locals :: X.fs := I2.stkSub
  have fpfs : ∀ b ∈ fp, b ∉ frs X.stack := fun b hb z => by
    obtain ⟨_, h2, h3, _⟩ := f2 b hb
    rcases List.mem_cons.mp (fsub b z) with q | q
    · exact h2 q
    · exact h3 q
  have fpold : ∀ b ∈ fp, b < s2.heap.objs.size := fun b hb => by
    obtain ⟨o, e, _⟩ := T.obj 0 _ st2 b hb
    exact Heap.lt_size e
  have cold : ∀ y c, cl'.lookup y = some c → c < s2.heap.objs.size ∨ P2.objs.size < c := fun y c e => by
    rcases cells y c e with q | q
    · obtain ⟨v, z⟩ := I2.cell y c q
      exact .inl z.lt
    · exact .inr q.1
  have cneD : ∀ y c, cl'.lookup y = some c → c ≠ s2.heap.objs.size := fun y c e z => by
    rcases cold y c e with q | q
    · rw [z] at q; exact Nat.lt_irrefl _ q
    · rw [z, hC] at q; exact absurd q (Nat.not_lt.mpr (Nat.le_succ _))
  have cneF : ∀ b, b < s2.heap.objs.size → (∀ y c, X.env.cells.lookup y = some c → c ≠ b) → ∀ y c, cl'.lookup y = some c → c ≠ b := fun b hb hx y c e z => by
    rcases cells y c e with q | q
    · exact hx y c q z
    · have := q.1
      rw [z, hC] at this
      exact absurd (Nat.lt_trans hb (Nat.lt_of_succ_lt this)) (Nat.lt_irrefl _)
  have fresh2 : ∀ b, s2.heap.objs.size ≤ b → H2 b = none := fun b hb => I2.hok.fresh hb
  have CS : s2.heap.objs.size ≤ P2.objs.size := by rw [hC]; exact Nat.le_succ _
  -- the block's own context and its start
  have ok' : (compCx2 X scope cl' N' P2.objs.size s2 H2 fp).Ok := by
    refine ⟨I2.ok.mod, hkind, I2.ok.glob, I2.ok.blt, CS, ?inj, fun y hy => has' y (hhas y hy), ?cab, I2.ok.hd, I2.ok.frames, .inl rfl, fun b hb => ⟨(below b (fpold b hb)).1, cneF b (fpold b hb) fun y c e => (f2 b hb).2.2.2.2.1 y c e⟩,
      fun b o e => I2.bs b o e, Nat.le_trans I2.ok.bsz I2.sz, fun b o e hb => ?_, fun b hb => fpfs b hb, I2.stack, I2.stkFree⟩
    case inj =>
      intro y z c h1 h2
      have h1' : (cellsFrom (P2.push { cls := .type "dict", data := .dict #[] }).objs.size scope.names cl).lookup y = some c := by rw [hP3, hcl']; exact h1
      have h2' : (cellsFrom (P2.push { cls := .type "dict", data := .dict #[] }).objs.size scope.names cl).lookup z = some c := by rw [hP3, hcl']; exact h2
      refine cells_inj scope.names _ cl (fun y z c g1 g2 => I2.ok.inj y z c (hcl y c g1) (hcl z c g2)) (fun y c g => ?_) y z c h1' h2'
      obtain ⟨v, q⟩ := I2.cell y c (hcl y c g)
      rw [hP3, hC]
      exact Nat.lt_succ_of_lt (Nat.lt_succ_of_lt q.lt)
    case cab =>
      intro y c hy e
      have hy' : scope.names.lookup y = some .cell := of_decide_eq_true hy
      have e' : (cellsFrom (P2.objs.size + 1) scope.names cl).lookup y = some c := by rw [hcl']; exact e
      exact Nat.le_trans CS (Nat.le_trans (Nat.le_succ _) (cells_own scope.names _ (P2.objs.size + 1) cl y c (Nat.le_refl _) (.inl (PySem.mem_of_lookup hy')) e'))
    · obtain ⟨_, _, _, q, _⟩ := f2 b hb
      rcases q with q | q
      · exact I2.ok.noex b o e q
      · exact absurd (Nat.lt_of_lt_of_le (Heap.lt_size e) (Nat.le_trans I2.ok.bsz q)) (Nat.lt_irrefl _)
  have I' : Inv (compCx2 X scope cl' N' P2.objs.size s2 H2 fp) pins (σ' σ) H2 { s2 with heap := h₁ } := by
    refine ⟨ok', rfl, I2.bare, Un.kept old, ⟨_, hns₁, fun i y v h1 h2 h3 => ?_⟩, fun y c e => ?_, fresh2 _ CS, ?fc, fun p hp => ?_, I2.hok.kept old, hσ σ I2.len⟩
    case fc =>
      intro y c e
      rcases cells y c e with q | q
      · exact I2.freeC y c q
      · exact fresh2 c (Nat.le_trans CS (Nat.le_of_lt q.1))
    · obtain ⟨hk, j, h4, h5, h6, h7⟩ := hvis σ i y v h1 h2
      have hno := hcap σ i y v h1 h2
      obtain ⟨m, hn', hl⟩ := I2.loc
      obtain ⟨u, r, l⟩ := hl j y v h4 h5 h6
      obtain ⟨c, hcc⟩ := has' y (hhas y hk)
      refine ⟨u, r, .inr ⟨hk, c, hcc, ?_⟩⟩
      rcases l with ⟨k1, _⟩ | ⟨_, c', e', z⟩
      · exact absurd k1 h7
      · rcases cells y c hcc with w | w
        · rw [w] at e'
          cases e'
          obtain ⟨o, ho, hd⟩ := z
          exact ⟨o, old _ _ ho, hd⟩
        · exact absurd w.2.2 hno
    · rcases cells y c e with w | w
      · obtain ⟨v, o, ho, hd⟩ := I2.cell y c w
        exact ⟨v, o, old _ _ ho, hd⟩
      · exact ⟨none, w.2.1⟩
    · obtain ⟨e1, e2, e3, e4, e5⟩ := I2.pin p hp
      refine ⟨old _ _ e1, e2, (below _ (Heap.lt_size e1)).1, fun z => ?_, e5⟩
      rcases List.mem_cons.mp (fsub _ z) with q | q
      · exact e3 q
      · exact e4 q
  have stat : ∀ {H' : Hp}, (∀ b ∈ fp, H' b = none) → ∀ b ∈ fp, FpOk (compCx2 X scope cl' N' P2.objs.size s2 H2 fp) pins H' b := fun hn' b hb =>
    ⟨hn' b hb, (below b (fpold b hb)).1, fpfs b hb, .inl hb, cneF b (fpold b hb) fun y c e => (f2 b hb).2.2.2.2.1 y c e, (f2 b hb).2.2.2.2.2⟩
  have Dok : ∀ {H' : Hp}, H' s2.heap.objs.size = none → FpOk (compCx2 X scope cl' N' P2.objs.size s2 H2 fp) pins H' s2.heap.objs.size := fun hn' =>
    ⟨hn', hDC, (fun z => by
      obtain ⟨o, ho, _⟩ := (I2.stack.mem z).2
      exact absurd (Heap.lt_size ho) (Nat.lt_irrefl _)), .inr (Nat.le_refl _), cneD, fun p hp z => absurd (Heap.lt_size (I2.pin p hp).1) (by rw [z]; exact Nat.lt_irrefl _)⟩
  -- the loop
  have loop : ∀ s3 : Shared, s3 = { s2 with heap := h₁ } →
      codeAny (model X.prog X.w) X.A (.compLoop (.ListComp elt [⟨tg, iter, ifs, 0⟩] scope pos) 0 (.ref it) (.ref s2.heap.objs.size) (compEnvC scope cl' P2.objs.size X.env))
        (compPost (model X.prog X.w) X.A X.xe use QQ (.ref s2.heap.objs.size) P2.objs.size) s3 := by
    rintro s3 rfl
    refine comp_loop2 (fun m s' => ∃ i ys τ H', m = n - i ∧ Inv (compCx2 X scope cl' N' P2.objs.size s2 H2 fp) pins τ H' s' ∧ tn i s'.heap ∧ (∀ b ∈ fp, H' b = none) ∧ H' s2.heap.objs.size = none ∧ (∃ its : List Value, Vals ys its ∧ s'.heap.PlainList s2.heap.objs.size its.toArray) ∧ W i ys τ H')
      ?_ n ⟨0, [], σ' σ, H2, rfl, I', T.keep _ _ _ st2 fun b _ o e => old b o e, fun b hb => (f2 b hb).1, fresh2 _ (Nat.le_refl _), ⟨[], .nil, hacc⟩, w0⟩
    rintro m s4 ⟨i, ys, τ, H4, rfl, I4, st4, fr4, hD4, ⟨its, rv, hpl⟩, w4⟩
    obtain ⟨hly, hin, c⟩ := turn i ys τ H4 w4
    have statp : ∀ {H' : Hp}, (∀ b ∈ fp, H' b = none) → ∀ b ∈ fp, FpOk (compCx2 X scope cl' N' P2.objs.size s2 H2 fp) (pins ++ pinsAt [s2.heap.objs.size] s4.heap) H' b := fun {H'} fr' b hb => by
        obtain ⟨g1, g2, g3, g4, g5, g6⟩ := stat fr' b hb
        refine ⟨g1, g2, g3, g4, g5, fun p hp z => ?_⟩
        rcases List.mem_append.mp hp with y | y
        · exact g6 p (List.mem_append_left _ y) z
        · rcases List.mem_append.mp y with y | y
          · exact g6 p (List.mem_append_right _ y) z
          · obtain ⟨hb', _⟩ := of_pinsAt y
            rw [z, List.mem_singleton] at hb'
            exact absurd (fpold b hb) (by rw [hb']; exact Nat.lt_irrefl _)
    rcases c with ⟨stop, q⟩ | ⟨hlt, go, step⟩
    · obtain ⟨k, hDo⟩ := hpl
      have I4p := I4.pinned (fp := [s2.heap.objs.size]) (fun b hb => by rw [List.mem_singleton.mp hb]; exact Dok hD4) (fun b hb => by rw [List.mem_singleton.mp hb]; exact ⟨_, hDo, fun v z => (by cases z)⟩)
      refine thn (T.done (compCx2 X scope cl' N' P2.objs.size s2 H2 fp) rfl rfl rfl hc i _ s4 τ H4 _ I4p (statp fr4) st4 stop) fun r s5 ⟨hr, I5⟩ => ?_
      subst hr
      have hD5 : s5.heap.get? s2.heap.objs.size = some { cls := .type "list", data := .seq its.toArray k } := (I5.pin (s2.heap.objs.size, _) (List.mem_append_right _ (List.mem_append_right _ (mem_pinsAt (List.mem_singleton.mpr rfl) hDo)))).1
      obtain ⟨m5, hn5, _⟩ := I5.loc
      have fC : H4 P2.objs.size = none := I5.free
      have U5 : Un (frs X.stack) fp H2 (upd H4 s2.heap.objs.size (.lst ys)) s2.heap s5.heap := by
        have B := I5.base
        refine ⟨fun b o e1 e2 e3 e4 => B.keep b o e1 e2 e3 e4, fun b o e1 e2 e3 e4 => B.slot b o e1 e2 e3 e4, fun b o e1 e2 e4 => ?_, fun b o e1 e4 => B.there b o e1 e4, fun b xs e1 => ?_, fun b o u e1 => ?_, fun b ps e1 => ?_⟩
        · rw [upd_ne (below b (Heap.lt_size e1)).2]
          exact B.free b o e1 e2 e4
        · have q' := B.tups b xs e1
          rw [upd_ne (ne_of_none q' hD4)]
          exact q'
        · have q' := B.frzs b o u e1
          rw [upd_ne (ne_of_none q' hD4)]
          exact q'
        · obtain ⟨more, q'⟩ := B.tbls b ps e1
          exact ⟨more, by rw [upd_ne (ne_of_none q' hD4)]; exact q'⟩
      have hzy : ys.length ≤ sizeLine := Nat.le_trans hly (Nat.le_trans hin hn)
      have HK : HOk X.prog X.w (upd H4 s2.heap.objs.size (.lst ys)) s5.heap := Zw.HOk.adopt I5.hok hD4 ⟨hzy, its, k, rv, hD5⟩
      have os5 : s5.os = s2.os := I5.os
      have IX : Inv X pins σ (upd H4 s2.heap.objs.size (.lst ys)) s5 := I2.call' (s' := s5) (ch := fp) os5 U5 HK I5.bare (fun b hb => by
        obtain ⟨g1, g2, g3, g4, g5, g6⟩ := f2 b hb
        exact ⟨g4, g2, g5, g6⟩)
      refine hend s2.heap.objs.size P2.objs.size s5 _ IX (q _ hD4) ⟨m5, hn5⟩ ?_
      have CL : s2.heap.objs.size ≤ P2.objs.size := CS
      have fp0 : FpOk X pins H2 P2.objs.size := I2.fpOk CS (fresh2 _ CS)
      exact ⟨by rw [upd_ne (Ne.symm hDC)]; exact fC, fp0.2⟩
    · obtain ⟨k, hDo⟩ := hpl
      have I4p := I4.pinned (fp := [s2.heap.objs.size]) (fun b hb => by rw [List.mem_singleton.mp hb]; exact Dok hD4) (fun b hb => by rw [List.mem_singleton.mp hb]; exact ⟨_, hDo, fun v z => (by cases z)⟩)
      refine thn (T.item (compCx2 X scope cl' N' P2.objs.size s2 H2 fp) rfl rfl rfl hc i _ s4 τ H4 _ I4p (statp fr4) st4 go) fun r s5 ⟨u, hr, h5⟩ => ?_
      subst hr
      refine thn h5 fun _ s6 ⟨x, H6, I6, r6, y6, st6, fr6⟩ => ?_
      have I6' := I6.pinned (statp fr6) (T.obj _ _ st6)
      refine thn (hg _ _ _ _ _ _ s6 τ H6 x u _ I6' r6 (step x H6 y6)) fun _ s7 ⟨τ7, H7, I7, q7⟩ => ?_
      refine thn (ht _ _ _ _ _ _ s7 τ7 H7 _ I7 q7) fun ok s7b ⟨H7b, I7b, q7b⟩ => ?_
      have fin : ∀ {H8 : Hp} {s8 : Shared} {τ8 : L2.St}, Inv (compCx2 X scope cl' N' P2.objs.size s2 H2 fp) (pins ++ pinsAt [s2.heap.objs.size] s4.heap ++ pinsAt fp s6.heap) τ8 H8 s8 → ∀ h9 : Heap, (∀ b o, b ≠ s2.heap.objs.size → s8.heap.get? b = some o → h9.get? b = some o) → tn (i + 1) h9 ∧ ∀ b ∈ fp, H8 b = none := fun {H8 s8 τ8} I8 h9 sb => by
        refine ⟨T.keep _ _ _ st6 fun b hb o e => ?_, fun b hb => ?_⟩
        · exact sb b o (below b (fpold b hb)).2 (I8.pin (b, o) (List.mem_append_right _ (List.mem_append_right _ (mem_pinsAt hb e)))).1
        · obtain ⟨o, e, d⟩ := T.obj _ _ st6 b hb
          exact (I8.pin (b, o) (List.mem_append_right _ (List.mem_append_right _ (mem_pinsAt hb e)))).2.1
      cases ok with
      | false =>
        rw [if_neg (by decide)] at q7b ⊢
        have hD8 := I7b.pin (s2.heap.objs.size, _) (List.mem_append_right _ (List.mem_append_left _ (List.mem_append_right _ (mem_pinsAt (List.mem_singleton.mpr rfl) hDo))))
        obtain ⟨t9, f9⟩ := fin I7b s7b.heap fun b o _ e => e
        exact ⟨n - (i + 1), by omega, i + 1, ys, τ7, H7b, rfl, I7b.unpinned.unpinned, t9, f9, hD8.2.1, ⟨its, rv, k, hD8.1⟩, q7b⟩
      | true =>
        rw [if_pos rfl] at q7b ⊢
        refine thn (he _ _ _ _ _ _ s7b τ7 H7b _ I7b q7b) fun uy s8 ⟨y, H8, I8, ry, w8⟩ => ?_
        have hD8 := I8.pin (s2.heap.objs.size, _) (List.mem_append_right _ (List.mem_append_left _ (List.mem_append_right _ (mem_pinsAt (List.mem_singleton.mpr rfl) hDo))))
        have P8 : s8.heap.PlainList s2.heap.objs.size its.toArray := ⟨k, hD8.1⟩
        have hlen := rv.length
        refine wpAny_list_append_plain P8 (fun h' pl' sb => ?_) (by rw [List.size_toArray, ← hlen]; omega)
        have I8u : Inv (compCx2 X scope cl' N' P2.objs.size s2 H2 fp) pins τ7 H8 s8 := I8.unpinned.unpinned
        obtain ⟨d1, d2, d3, d4, d5, d6⟩ := Dok hD8.2.1
        have I9 : Inv (compCx2 X scope cl' N' P2.objs.size s2 H2 fp) pins τ7 H8 { s8 with heap := h' } := I8u.turned (t' := s8.toks) (fun b o hb e => (sb.2 b hb).trans e) d1 d2 d4 d5 d6
        obtain ⟨t9, f9⟩ := fin I8 h' fun b o hb e => (sb.2 b hb).trans e
        exact ⟨n - (i + 1), by omega, i + 1, ys ++ [y], τ7, H8, rfl, I9, t9, f9, hD8.2.1, ⟨its ++ [uy], rv.append (.cons ry .nil), by simpa using pl'⟩, w8⟩
  refine codeAny_compStart_list (loop _ rfl) (T.self _ 0 _ _ _ (T.keep _ _ _ st2 fun b _ o e => old b o e) (loop _ rfl))
/-- its list as a value -/
theorem lc_val (σ' : L2.St → L2.St) (hclos : closureFor scope X.env = pure cl) (hkind : scope.kind = .function) (hnames : ∀ y ∈ scope.names, y.2 = .local → scope.names.lookup y.1 = some .local)
    (hcl : ∀ y c, cl.lookup y = some c → X.env.cells.lookup y = some c) (hhas : ∀ y, (relabel scope X.env).names.lookup y = some .cell ∨ (relabel scope X.env).names.lookup y = some .free → (y, NameKind.cell) ∈ scope.names ∨ ∃ c, cl.lookup y = some c) (hcap : ∀ (σ : L2.St) (i : Nat) (y : Str) (v : V), N'[i]? = some y → (σ' σ)[i]? = some (some v) → (y, NameKind.cell) ∉ scope.names)
    (hσ : ∀ σ : L2.St, σ.length = X.N.length → (σ' σ).length = N'.length)
    (hvis : ∀ (σ : L2.St) (i : Nat) (y : Str) (v : V), N'[i]? = some y → (σ' σ)[i]? = some (some v) → ((relabel scope X.env).names.lookup y = some .cell ∨ (relabel scope X.env).names.lookup y = some .free) ∧ ∃ j : Nat, X.N[j]? = some y ∧ σ[j]? = some (some v) ∧ Vis X.env.scope y ∧ X.env.kindOf y ≠ some .local)
    (hc : X.calm = true) (hi : PI X tg iter wi) (hg : ∀ cl C s₀ H₀ ex, PG (compCx2 X scope cl N' C s₀ H₀ ex) tg g) (ht : ∀ cl C s₀ H₀ ex, PTs (compCx2 X scope cl N' C s₀ H₀ ex) ifs tt) (he : ∀ cl C s₀ H₀ ex, PE (compCx2 X scope cl N' C s₀ H₀ ex) elt te)
    (hs : ∀ x, foldedSetIterable iter X.env x = pure x) {pins : List (Addr × Obj)} {s : Shared} {σ : L2.St} {H : Hp} {Q : VK} (I : Inv X pins σ H s) (h : tLC2 σ' wi g tt te σ H Q) :
    wpAny (model X.prog X.w) X.A (eval (.ListComp elt [⟨tg, iter, ifs, 0⟩] scope pos) X.env) (EP X pins σ Q) X.xe s := by
  rw [eval_ListComp]
  refine lc_any σ' hclos hkind hnames hcl hhas hcap hσ hvis hc hi hg ht he hs I h fun D C s5 H5 I5 q5 ⟨m, hm⟩ f => ⟨m, hm, fun h' sb => ?_⟩
  exact ⟨.ref D, H5, turnedN (t' := s5.toks) (ch := [C]) I5 (fun b o hb e => (sb.2 b (fun z => hb (by simp [z]))).trans e) (fun b hb => by rw [List.mem_singleton.mp hb]; exact f), rfl, q5⟩
/-- its list stored in a name -/
theorem lc_set (σ' : L2.St → L2.St) (hclos : closureFor scope X.env = pure cl) (hkind : scope.kind = .function) (hnames : ∀ y ∈ scope.names, y.2 = .local → scope.names.lookup y.1 = some .local)
    (hcl : ∀ y c, cl.lookup y = some c → X.env.cells.lookup y = some c) (hhas : ∀ y, (relabel scope X.env).names.lookup y = some .cell ∨ (relabel scope X.env).names.lookup y = some .free → (y, NameKind.cell) ∈ scope.names ∨ ∃ c, cl.lookup y = some c) (hcap : ∀ (σ : L2.St) (i : Nat) (y : Str) (v : V), N'[i]? = some y → (σ' σ)[i]? = some (some v) → (y, NameKind.cell) ∉ scope.names)
    (hσ : ∀ σ : L2.St, σ.length = X.N.length → (σ' σ).length = N'.length)
    (hvis : ∀ (σ : L2.St) (i : Nat) (y : Str) (v : V), N'[i]? = some y → (σ' σ)[i]? = some (some v) → ((relabel scope X.env).names.lookup y = some .cell ∨ (relabel scope X.env).names.lookup y = some .free) ∧ ∃ j : Nat, X.N[j]? = some y ∧ σ[j]? = some (some v) ∧ Vis X.env.scope y ∧ X.env.kindOf y ≠ some .local)
    (hc : X.calm = true) (hi : PI X tg iter wi) (hg : ∀ cl C s₀ H₀ ex, PG (compCx2 X scope cl N' C s₀ H₀ ex) tg g) (ht : ∀ cl C s₀ H₀ ex, PTs (compCx2 X scope cl N' C s₀ H₀ ex) ifs tt) (he : ∀ cl C s₀ H₀ ex, PE (compCx2 X scope cl N' C s₀ H₀ ex) elt te)
    (hs : ∀ x, foldedSetIterable iter X.env x = pure x) {pins : List (Addr × Obj)} {s : Shared} {σ : L2.St} {H : Hp} {D : Ends} {i : Nat} {x : Str} {pos' : Pos} (hN : X.N.Nodup) (hix : X.N[i]? = some x) (hx : X.env.scope.names.lookup x = some .local)
    (hsw : swapsWith (.ListComp elt [⟨tg, iter, ifs, 0⟩] scope pos) (some (.Name x pos')) pos2.line X.env = pure true)
    (I : Inv X pins σ H s) (h : tLC2 σ' wi g tt te σ H fun v H1 => D.nx (σ.set i (some v)) H1) :
    wpAny (model X.prog X.w) X.A (exec (.Assign [.Name x pos'] (.ListComp elt [⟨tg, iter, ifs, 0⟩] scope pos) pos2) X.env) (SP X pins D) X.xe s := by
  rw [exec_Assign_Name_used _ _ _ _ hsw]; refine wpAny_bind (wpAny_standAt (wpAny_bind ?_))
  show wpAny _ X.A (do let _ ← comprehension (.ListComp elt [⟨tg, iter, ifs, 0⟩] scope pos) scope X.env _ (newList []) false (eval iter X.env) (some (assign (.Name x pos') X.env))) _ _ s
  refine wpAny_bind (wpAny_mono (lc_any (QQ := fun _ s' => SP X pins D .next s') σ' hclos hkind hnames hcl hhas hcap hσ hvis hc hi hg ht he hs I h fun A C s5 H5 I5 q5 ⟨m, hm⟩ f => ?_) (fun _ s' hq => wpAny_pure (wpAny_pure hq)) fun _ _ e => e)
  show wpAny _ X.A (assign (.Name x pos') X.env (.ref A)) _ _ _
  refine wpAny_assign_Name (store_ok2 I5 hN hix (.inl hx) (v := .ref A) rfl (fun s6 I6 ⟨a, sb, ha⟩ => ?_) (.inr hx))
  have hCa : C ≠ a := by
    rcases ha with rfl | ha
    · exact f.2.1
    · exact fun z => f.2.2.2.2.1 x a ha z.symm
  refine ⟨m, hm.sameBut sb hCa, fun h' sb2 => ⟨_, H5, turnedN (t' := s6.toks) (ch := [C]) I6 (fun b o hb e => (sb2.2 b (fun z => hb (by simp [z]))).trans e) (fun b hb => by rw [List.mem_singleton.mp hb]; exact f), q5⟩⟩
end
end Pu

set_option Elab.async false
set_option linter.all false
set_option maxRecDepth 100000
namespace Pu
open PySem PySem.Spec PyProof.Rows L2 Zw Zx

/-! ### several things, some had alone -/
structure RpO (K : PySem.W.Frag) (F H : Hp) (l : List T) (xs : List V) (R : Nat → Rg) : Prop where
  len : l.length = xs.length
  rep : ∀ (i : Nat) (t : T) (x : V), l[i]? = some t → xs[i]? = some x → Rp K F H t x (R i)
  dis : ∀ i j a, i ≠ j → R i a → ¬ R j a
  out : ∀ i a, R i a → i < l.length
section
variable {K : PySem.W.Frag} {F H F1 H1 : Hp} {l : List T} {xs : List V} {R : Nat → Rg} {B : Rg}
theorem RpO.nil : RpO K F H [] [] (fun _ => R0) := ⟨rfl, fun i t x h => by simp at h, fun _ _ _ _ z => z.elim, fun _ _ z => z.elim⟩
theorem RpO.dom (h : RpO K F H l xs R) {i : Nat} {a : Addr} (z : R i a) : F a = none ∧ ∃ u, H a = some u := by
  have hi := h.out i a z
  have hx : i < xs.length := by have := h.len; omega
  exact (h.rep i _ _ (List.getElem?_eq_getElem hi) (List.getElem?_eq_getElem hx)).dom z
theorem RpO.ext (h : RpO K F H l xs R) (e : Ext F H F1 H1 B) : RpO K F1 H1 l xs R := ⟨h.len, fun i t x h1 h2 => (h.rep i t x h1 h2).ext e, h.dis, h.out⟩
theorem RpO.apart (h : RpO K F H l xs R) (e : Ext F H F1 H1 B) {b : Addr} (hb : B b) (i : Nat) : ¬ R i b := fun z => by
  obtain ⟨f, u, q⟩ := h.dom z
  rw [e.nb b hb] at q
  cases q
/-- one more at the end -/
theorem RpO.snoc (h : RpO K F H l xs R) {t : T} {x : V} (r : Rp K F H t x B) (d : ∀ i a, R i a → ¬ B a) : RpO K F H (l ++ [t]) (xs ++ [x]) (fun j => if j = l.length then B else R j) := by
  have hl := h.len
  refine ⟨by simp [hl], fun i t' x' h1 h2 => ?_, fun i j a hij z1 z2 => ?_, fun i a z => ?_⟩
  · by_cases hi : i = l.length
    · subst hi
      rw [if_pos rfl]
      have e1 : t = t' := by simpa using h1
      have e2 : x = x' := by rw [hl] at h2; simpa using h2
      subst e1; subst e2
      exact r
    · rw [if_neg hi]
      have hlt : i < l.length := by
        have := (List.getElem?_eq_some_iff.mp h1).1
        simp at this
        omega
      rw [List.getElem?_append_left hlt] at h1
      rw [List.getElem?_append_left (by omega)] at h2
      exact h.rep i t' x' h1 h2
  · by_cases hi : i = l.length
    · simp only [hi, if_true] at z1
      have hj : ¬ j = l.length := fun z => hij (hi.trans z.symm)
      simp only [hj, if_false] at z2
      exact d j a z2 z1
    · simp only [hi, if_false] at z1
      by_cases hj : j = l.length
      · simp only [hj, if_true] at z2
        exact d i a z1 z2
      · simp only [hj, if_false] at z2
        exact h.dis i j a hij z1 z2
  · by_cases hi : i = l.length
    · simp [hi]
    · simp only [hi, if_false] at z
      have := h.out i a z
      simp
      omega
/-- .. or ahead -/
theorem RpO.cons (h : RpO K F H l xs R) {t : T} {x : V} (r : Rp K F H t x B) (d : ∀ i a, R i a → ¬ B a) : RpO K F H (t :: l) (x :: xs) (fun j => match j with | 0 => B | j + 1 => R j) := by
  refine ⟨by simp [h.len], fun i t' x' h1 h2 => ?_, fun i j a hij z1 z2 => ?_, fun i a z => ?_⟩
  · cases i with
    | zero =>
      simp at h1 h2
      subst h1; subst h2
      exact r
    | succ i => exact h.rep i t' x' (by simpa using h1) (by simpa using h2)
  · cases i with
    | zero =>
      cases j with
      | zero => exact hij rfl
      | succ j => exact d j a z2 z1
    | succ i =>
      cases j with
      | zero => exact d i a z1 z2
      | succ j => exact h.dis i j a (fun z => hij (by rw [z])) z1 z2
  · cases i with
    | zero => simp
    | succ i => have := h.out i a z; simp; omega
theorem RpO.r0 (h : RpO K F H l xs R) (s : shL l = true) : Rps K F l xs := ⟨h.len, fun i t x h1 h2 => (h.rep i t x h1 h2).move (shL_get s h1) (.refl _)⟩
/-- a new list of them -/
theorem RpO.list (h : RpO K F H l xs R) (s : Same F H) {p : Addr} (hp : H p = none) : Rp K F (upd H p (.lst xs)) (.own l) (.ref p) (fun a => a = p ∨ ∃ i, R i a) ∧ Ext F H F (upd H p (.lst xs)) (fun a => a = p) := by
  have e := Ext.newO (o := .lst xs) s hp
  have h' := h.ext e
  exact ⟨.own R (none_of_same s hp) upd_same h.len h'.rep h.dis (fun i z => h.apart e rfl i z) h.out, e⟩
end
/-! ### a[i] -/
def mIx (ma mk : PSt → Option Rs) : PSt → Option Rs := fun τ => match ma τ with
  | some (.v t b) => (match mk τ with
    | some (.v (.int i) _) => (match t with
      | .nd _ _ l => (match atI l i with
        | some c => some (.v c (b && !c.sh))
        | none => none)
      | .str z => if z.length ≤ lim then (match atI z.cps.toList i with
        | some c => some (.v (.str ⟨#[c]⟩) false)
        | none => none) else none
      | _ => none)
    | some (.v _ _) => none
    | r => r)
  | r => r
theorem atI_two {α β : Type} {l : List α} {m : List β} {i : Int} {c : α} (e : l.length = m.length) (h : atI l i = some c) : ∃ (j : Nat) (d : β), l[j]? = some c ∧ m[j]? = some d ∧ atI m i = some d := by
  unfold atI at h ⊢
  rw [← e]
  cases q : ixN l.length i with
  | none => rw [q] at h; cases h
  | some j =>
    rw [q] at h
    have h' : l[j]? = some c := h
    have hj : j < m.length := by
      have := (List.getElem?_eq_some_iff.mp h').1
      omega
    exact ⟨j, m[j], h', List.getElem?_eq_getElem hj, List.getElem?_eq_getElem hj⟩
section
variable {K : PySem.W.Frag} {F H : Hp}
/-- a node as it stands on the heap -/
theorem Rp.seq {o : Bool} {k : Kd} {l : List T} {x : V} {A : Rg} (s : Same F H) (h : Rp K F H (.nd o k l) x A) : ∃ p xs, x = .ref p ∧ (SqL K H p xs ∨ SqT K H p xs) ∧ l.length = xs.length ∧ ∀ (i : Nat) (t : T) (x : V), l[i]? = some t → xs[i]? = some x → ∃ B, (∀ a, B a → A a) ∧ Rp K F H t x B := by
  cases h with
  | @shr k p xs l h e c =>
    refine ⟨p, xs, rfl, ?_, e, fun i t x h1 h2 => ⟨R0, fun _ z => z.elim, c i t x h1 h2⟩⟩
    cases k with
    | lst => exact .inl (SqL.of (s _ _ h))
    | rl => exact .inl (s.seq h)
    | tup => exact .inr (SqT.of (s _ _ h))
    | rt => exact .inr (seqT_same s h)
  | @own p xs l R f h e c d dp o => exact ⟨p, xs, rfl, .inl (SqL.of h), e, fun i t x h1 h2 => ⟨R i, fun a z => .inr ⟨i, z⟩, c i t x h1 h2⟩⟩
end
section
variable {X : Cx} {E : L2.St → XK} {ca : Str → Value} {σ : L2.St} {H : Hp} {m ma mb mc : PSt → Option Rs} {ms : PSt → Option RsL} {K : PySem.W.Frag} {a b c e : Expr} {es : List Expr} {pos : Pos}
theorem tM_ix {Q : VK} (h : tM K E ca (mIx ma mb) σ H Q) : tOp (rIx K) (tM K E ca ma) (tM K E ca mb) σ H Q := by
  obtain ⟨F, τ, R, S, q⟩ := h
  refine ⟨F, τ, R, S, ?_⟩
  unfold mIx at q
  cases hm : ma τ with
  | none => simp only [hm] at q
  | some r =>
    simp only [hm] at q
    cases r with
    | x c => exact q
    | v t bb =>
      intro F1 H1 x B e1 g1
      have S1 := S.ext e1
      refine ⟨F1, τ, R, S1, ?_⟩
      cases hk : mb τ with
      | none => simp only [hk] at q
      | some r =>
        simp only [hk] at q
        cases r with
        | x c => exact fun F' H' e => q F' H' ((e1.trans e).mono fun _ z => z.elim)
        | v tk bk =>
          cases tk with
          | int i =>
            intro F2 H2 y C e2 g2
            have hy : y = .int i := by
              cases bk with
              | true => obtain ⟨_, A, _, r⟩ := g2; exact r.int_inv
              | false => exact (show Rp K F2 H2 _ _ _ from g2).int_inv
            subst hy
            have e02 : Ext F H F2 H2 B := (e1.trans e2).mono fun _ z => .inl z
            have S2 := S1.ext e2
            cases t with
            | nd o k l =>
              simp only at q
              cases hc : atI l i with
              | none => simp only [hc] at q
              | some cc =>
                simp only [hc] at q
                -- the node at this time
                have node : ∃ A0, (bb = true → ∀ a, A0 a → tot R a) ∧ (bb = false → ∀ a, A0 a → B a) ∧ Rp K F2 H2 (.nd o k l) x A0 := by
                  cases bb with
                  | true =>
                    obtain ⟨_, A, hA, r⟩ := g1
                    exact ⟨A, fun _ => hA, (fun z => by cases z), r.ext e2⟩
                  | false => exact ⟨B, (fun z => by cases z), fun _ _ z => z, (show Rp K F1 H1 _ _ _ from g1).ext e2⟩
                obtain ⟨A0, hA1, hA2, rn⟩ := node
                obtain ⟨p, xs, rfl, hq, hl, kids⟩ := Rp.seq S2.fh rn
                obtain ⟨j, d, h1, h2, h3⟩ := atI_two hl hc
                obtain ⟨A1, hA, rk⟩ := kids j cc d h1 h2
                have qq : Q d H2 := by
                  cases bb with
                  | false => exact q F2 H2 d A1 (e02.mono fun a z => hA2 rfl a (hA a z)) rk
                  | true =>
                    cases hs : cc.sh with
                    | true =>
                      rw [hs] at q
                      exact q F2 H2 d R0 (e02.mono fun _ z => z.elim) (rk.move hs (.refl _))
                    | false =>
                      rw [hs] at q
                      exact q F2 H2 d R0 (e02.mono fun _ z => z.elim) ⟨rfl, A1, fun a z => hA1 rfl a (hA a z), rk⟩
                rcases hq with hq | hq
                · exact .inl ⟨p, xs, i, d, rfl, rfl, hq, h3, qq⟩
                · exact .inr (.inl ⟨p, xs, i, d, rfl, rfl, hq, h3, qq⟩)
            | str z =>
              by_cases hz : z.length ≤ lim
              · simp only [hz, if_true] at q
                cases hc : atI z.cps.toList i with
                | none => simp only [hc] at q
                | some cc =>
                  simp only [hc] at q
                  have hx : x = .str z := by
                    cases bb with
                    | true => obtain ⟨_, A, _, r⟩ := g1; exact r.str_inv
                    | false => exact (show Rp K F1 H1 _ _ _ from g1).str_inv
                  subst hx
                  exact .inr (.inr ⟨z, i, cc, rfl, rfl, by rw [← lim_eq]; exact hz, hc, q F2 H2 _ R0 (e02.mono fun _ z => z.elim) (.str _)⟩)
              · simp only [hz, if_false] at q
            | _ => exact q.elim
          | _ => exact q.elim
theorem r_ix (ha : PE X a (tM X.K E ca ma)) (hb : PE X b (tM X.K E ca mb)) (hs : PlainIx b) : PE X (.Subscript a b pos) (tM X.K E ca (mIx ma mb)) := PE.weak (pe_ix ix_seq ha hb hs) fun σ H Q h => tM_ix h

/-! ### a[lo:hi] of a list -/
def cutL {α : Type} (l : List α) (lo hi : Option Int) : List α := (l.drop (HT.sIx l.length 0 lo)).take (HT.sIx l.length l.length hi - HT.sIx l.length 0 lo)
def mPart (m : Option (PSt → Option Rs)) : PSt → Option (Option Int) := fun τ => match m with
  | none => some none
  | some m => match m τ with
    | some (.v (.int i) _) => some (some i)
    | _ => none
def mSl (ma : PSt → Option Rs) (ml mh : Option (PSt → Option Rs)) : PSt → Option Rs := fun τ => match ma τ with
  | some (.v t false) => (match mPart ml τ with
    | some lo => (match mPart mh τ with
      | some hi => (match t with
        | .nd _ .lst l => some (.v (.own (cutL (shareL l) lo hi)) false)
        | .nd _ .rl l => some (.v (.own (cutL (shareL l) lo hi)) false)
        | _ => none)
      | none => none)
    | none => none)
  | some (.v _ true) => none
  | r => r
def tPo (K : PySem.W.Frag) (m : Option (PSt → Option Rs)) : TO := fun σ H Q => ∃ F τ R o, StR K F H σ τ R ∧ mPart m τ = some o ∧ ∀ F' H', Ext F H F' H' R0 → Q o H'
theorem r_po0 : PO X none (tPo X.K none) := fun pins s σ H Q I h => by
  obtain ⟨F, τ, R, o, S, e, q⟩ := h
  cases e
  exact po_none pins s σ H Q I (q F H (Ext.refl S.fh))
theorem r_po1 (ha : PE X e (tM X.K E ca m)) : PO X (some e) (tPo X.K (some m)) := fun pins s σ H Q I h => by
  obtain ⟨F, τ, R, o, S, e', q⟩ := h
  refine po_some ha pins s σ H Q I ⟨F, τ, R, S, ?_⟩
  unfold mPart at e'
  simp only at e'
  cases hm : m τ with
  | none => rw [hm] at e'; cases e'
  | some r =>
    rw [hm] at e'
    cases r with
    | x c => cases e'
    | v v b =>
      cases v with
      | int i =>
        cases e'
        intro F' H' x B e g
        have hx : x = .int i := by
          cases b with
          | true => obtain ⟨_, A, _, r⟩ := g; exact r.int_inv
          | false => exact (show Rp X.K F' H' _ _ _ from g).int_inv
        exact ⟨i, hx, q F' H' (e.mono fun _ z => z.elim)⟩
      | _ => cases e'
theorem cutL_rps {F : Hp} {l : List T} {xs : List V} (r : Rps K F l xs) (lo hi : Option Int) : Rps K F (cutL l lo hi) (cutV xs lo hi) := by
  have hl := r.1
  unfold cutL cutV
  rw [hl]
  refine ⟨by simp [hl], fun i t x h1 h2 => ?_⟩
  rw [List.getElem?_take] at h1 h2
  split at h1
  · rename_i hi'
    rw [if_pos hi', List.getElem?_drop] at h2
    rw [List.getElem?_drop] at h1
    exact r.2 _ t x h1 h2
  · cases h1
theorem r_slice {lo hi : Option Expr} {ml mh : Option (PSt → Option Rs)} {p2 : Pos} (ha : PE X a (tM X.K E ca ma)) (hl : PO X lo (tPo X.K ml)) (hh : PO X hi (tPo X.K mh)) : PE X (.Subscript a (.Slice lo hi none p2) pos) (tM X.K E ca (mSl ma ml mh)) := by
  refine PE.weak (pe_slice sl_list ha hl hh) fun σ H Q h => ?_
  obtain ⟨F, τ, R, S, q⟩ := h
  refine ⟨F, τ, R, S, ?_⟩
  unfold mSl at q
  cases hm : ma τ with
  | none => simp only [hm] at q
  | some r =>
    simp only [hm] at q
    cases r with
    | x c => exact q
    | v t bb =>
      cases bb with
      | true => exact q.elim
      | false =>
        intro F1 H1 x B e1 g1
        obtain ⟨F1', e1', _, r1⟩ := Got.frz (b := false) S e1 g1
        have S1 := S.ext e1'
        simp only at q
        cases h1 : mPart ml τ with
        | none => simp only [h1] at q
        | some lo' =>
          simp only [h1] at q
          refine ⟨F1', τ, R, lo', S1, h1, fun F2 H2 e2 => ?_⟩
          have S2 := S1.ext e2
          cases h2 : mPart mh τ with
          | none => simp only [h2] at q
          | some hi' =>
            simp only [h2] at q
            refine ⟨F2, τ, R, hi', S2, h2, fun F3 H3 e3 => ?_⟩
            have S3 := S2.ext e3
            have e03 := e1'.trans0 (e2.trans0 e3)
            have r3 : Rp X.K F3 F3 t.share x R0 := (show Rp X.K F1' F1' t.share x R0 from r1).frame (e2.ff.trans e3.ff) fun _ z => z.elim
            have key : ∀ {o : Bool} {k : Kd} {l : List T}, t = .nd o k l → (k = .lst ∨ k = .rl) → (∀ F' H' x B, Ext F H F' H' B → Rp X.K F' H' (.own (cutL (shareL l) lo' hi')) x B → Q x H') → rSlL X.K x lo' hi' H3 Q := by
              intro o k l et hk qq
              subst et
              rw [T.share] at r3
              obtain ⟨p, xs, rfl, _, n3, k3⟩ := node_of r3
              have sq : SqL X.K H3 p xs := by
                rcases hk with rfl | rfl
                · exact SqL.of (S3.fh _ _ n3)
                · exact S3.fh.seq n3
              refine ⟨p, xs, rfl, sq, fun p' hp' => ?_⟩
              have gg : Gets X.K F3 H3 (.own (cutL (shareL l) lo' hi')) Q := fun F' H' z C e g => qq F' H' z C (e03.trans0 e) g
              exact gg.list S3.fh (cutL_rps k3 lo' hi') hp'
            cases t with
            | nd o k l =>
              cases k with
              | lst => exact key rfl (.inl rfl) q
              | rl => exact key rfl (.inr rfl) q
              | tup => exact q.elim
              | rt => exact q.elim
            | _ => exact q.elim

/-! ### [a, b], (a, b) -/
/-- items that are kept as they are -/
def tMo (K : PySem.W.Frag) (E : L2.St → XK) (ca : Str → Value) (m : PSt → Option RsL) : TA := fun σ H Q => ∃ F τ R, StR K F H σ τ R ∧ match m τ with
  | some (.v ts _) => ∀ F' H' xs (Rr : Nat → Rg), Ext F H F' H' (tot Rr) → RpO K F' H' ts xs Rr → Q xs H'
  | some (.x c) => ∀ F' H', Ext F H F' H' R0 → E σ (ca c) none H'
  | none => False
def mConsO (m : PSt → Option Rs) (ms : PSt → Option RsL) : PSt → Option RsL := fun τ => match m τ with
  | some (.v t false) => (match ms τ with
    | some (.v ts _) => some (.v (t :: ts) false)
    | r => r)
  | some (.v _ true) => none
  | some (.x c) => some (.x c)
  | none => none
theorem r_nilO : PA X [] (tMo X.K E ca mNil) := PA.weak pa_nil fun σ H Q h => by
  obtain ⟨F, τ, R, S, q⟩ := h
  exact q F H [] (fun _ => R0) ((Ext.refl S.fh).mono fun a ⟨i, z⟩ => z.elim) .nil
theorem r_consO (ha : PE X e (tM X.K E ca m)) (hr : PA X es (tMo X.K E ca ms)) (hs : starEach (e :: es) X.env = (false, eval e X.env) :: starEach es X.env) : PA X (e :: es) (tMo X.K E ca (mConsO m ms)) := by
  refine PA.weak (pa_cons ha hr hs) fun σ H Q h => ?_
  obtain ⟨F, τ, R, S, q⟩ := h
  refine ⟨F, τ, R, S, ?_⟩
  unfold mConsO at q
  cases hm : m τ with
  | none => simp only [hm] at q
  | some r =>
    simp only [hm] at q
    cases r with
    | x c => exact q
    | v t bb =>
      cases bb with
      | true => exact q.elim
      | false =>
        intro F1 H1 x B e1 g1
        have S1 := S.ext e1
        refine ⟨F1, τ, R, S1, ?_⟩
        simp only at q
        cases hs : ms τ with
        | none => simp only [hs] at q
        | some r =>
          simp only [hs] at q
          cases r with
          | x c => exact fun F' H' e => q F' H' ((e1.trans e).mono fun _ z => z.elim)
          | v ts b' =>
            intro F2 H2 xs Rr e2 ro
            have g1' : Rp X.K F1 H1 t x B := g1
            refine q F2 H2 (x :: xs) _ ((e1.trans e2).mono ?_) (ro.cons (g1'.ext e2) fun i a z => ?_)
            · rintro a ⟨j, z⟩
              cases j with
              | zero => exact .inl z
              | succ j => exact .inr ⟨j, z⟩
            · exact g1'.apart e2 ⟨i, z⟩
def mLst (ms : PSt → Option RsL) : PSt → Option Rs := fun τ => match ms τ with
  | some (.v ts _) => if ts.length ≤ lim then some (.v (.own ts) false) else none
  | some (.x c) => some (.x c)
  | none => none
theorem r_lst (h : PA X es (tMo X.K E ca ms)) : PE X (.List es pos) (tM X.K E ca (mLst ms)) := by
  refine PE.weak (pe_lst h) fun σ H Q h => ?_
  obtain ⟨F, τ, R, S, q⟩ := h
  refine ⟨F, τ, R, S, ?_⟩
  unfold mLst at q
  cases hm : ms τ with
  | none => simp only [hm] at q
  | some r =>
    simp only [hm] at q
    cases r with
    | x c => exact q
    | v ts b =>
      intro F1 H1 xs Rr e1 ro
      by_cases hz : ts.length ≤ lim
      · simp only [hz, if_true] at q
        refine ⟨by rw [← ro.len, ← lim_eq]; exact hz, fun p hp => ?_⟩
        obtain ⟨r, e2⟩ := ro.list e1.fh hp
        refine q F1 _ _ _ ((e1.trans e2).mono ?_) r
        rintro a (z | ⟨i, z⟩)
        · exact .inr z
        · exact .inl ⟨i, z⟩
      · simp only [hz, if_false] at q
def mTup (ms : PSt → Option RsL) : PSt → Option Rs := fun τ => match ms τ with
  | some (.v ts false) => if ts.length ≤ lim then some (.v (.tup ts) false) else none
  | some (.v _ true) => none
  | some (.x c) => some (.x c)
  | none => none
theorem r_tup {k : Nat} (h : PA X es (tMs X.K E ca ms)) : PE X (.Tuple es k pos) (tM X.K E ca (mTup ms)) := by
  refine PE.weak (pe_tup h) fun σ H Q h => ?_
  obtain ⟨F, τ, R, S, q⟩ := h
  refine ⟨F, τ, R, S, ?_⟩
  unfold mTup at q
  cases hm : ms τ with
  | none => simp only [hm] at q
  | some r =>
    simp only [hm] at q
    cases r with
    | x c => exact q
    | v ts b =>
      cases b with
      | true => exact q.elim
      | false =>
        intro F1 H1 xs e1 rs
        by_cases hz : ts.length ≤ lim
        · simp only [hz, if_true] at q
          refine ⟨by rw [← rs.1, ← lim_eq]; exact hz, fun p hp => ?_⟩
          have gg : Gets X.K F1 H1 (.tup ts) Q := fun F' H' z C e g => q F' H' z C (e1.trans0 e) g
          exact gg.tuple e1.fh rs hp
        · simp only [hz, if_false] at q

/-! ### built-in functions -/
theorem r_bltF {id : String} {x : Str} {p : Pos} {g : List T → Option T} (hc : CallR X (.builtin id) (rTn X.K g)) (hg : Gl X x) (hm : X.mg x = none) (hv : bootBuiltins x = some (.builtin id)) (ha : PA X (e :: es) (tMs X.K E ca ms)) (hn : x ≠ "__name__") (hdb : (x == ("__debug__" : Str)) = false)
    (he : starEach (e :: es) X.env = (false, eval e X.env) :: starEach es X.env) (hpl : (backTo pos (starEach es X.env)).any (·.1) = false) : PE X (.Call (.Name x p) (e :: es) [] pos) (tM X.K E ca (mAp g ms)) :=
  PE.weak (pe_callB hc hg hm hv ha hn hdb he hpl) fun σ H Q h => tM_ap h
theorem r_bltT {T' : String} {x : Str} {p : Pos} {g : List T → Option T} (hc : CallR X (.type T') (rTn X.K g)) (hg : Gl X x) (hm : X.mg x = none) (hv : bootBuiltins x = some (.type T')) (ha : PA X (e :: es) (tMs X.K E ca ms)) (hn : x ≠ "__name__") (hdb : (x == ("__debug__" : Str)) = false)
    (he : starEach (e :: es) X.env = (false, eval e X.env) :: starEach es X.env) (hpl : (backTo pos (starEach es X.env)).any (·.1) = false) : PE X (.Call (.Name x p) (e :: es) [] pos) (tM X.K E ca (mAp g ms)) :=
  PE.weak (pe_callTy hc hg hm hv ha hn hdb he hpl) fun σ H Q h => tM_ap h
end
end Pu

set_option Elab.async false
set_option linter.all false
set_option maxRecDepth 100000
namespace Pu
open PySem PySem.Spec PyProof.Rows L2 Zw Zx

/-! ### built-in functions by plain values -/
def lenT : T → Option T
  | .nd _ _ l => some (.int l.length)
  | .str z => if z.length ≤ lim then some (.int z.length) else none
  | _ => none
def listT : T → Option T
  | .nd _ _ l => some (.own l)
  | _ => none
def tupleT : T → Option T
  | .nd _ .lst l => some (.tup l)
  | .nd _ .tup l => some (.tup l)
  | _ => none
def absT : T → Option T
  | .int i => some (.int (if i < 0 then -i else i))
  | _ => none
def minT : T → T → Option T
  | .int i, .int j => some (.int (if j < i then j else i))
  | _, _ => none
def maxT : T → T → Option T
  | .int i, .int j => some (.int (if j > i then j else i))
  | _, _ => none
def intT : T → Option T
  | .int i => some (.int i)
  | .bl k => some (.int (if k then 1 else 0))
  | _ => none
def strT : T → Option T
  | .int i => if i.natAbs.log2 < 1920 then some (.str (toString i)) else none
  | _ => none
def asB : T → Option Bool
  | .bl b => some b
  | _ => none
def bools : List T → Option (List Bool)
  | [] => some []
  | .bl b :: r => (match bools r with
    | some l => some (b :: l)
    | none => none)
  | _ :: _ => none
def allT : T → Option T
  | .nd _ .lst l => (match bools l with
    | some bs => some (.bl (bs.all id))
    | none => none)
  | _ => none
def anyT : T → Option T
  | .nd _ .lst l => (match bools l with
    | some bs => some (.bl (bs.any id))
    | none => none)
  | _ => none
def tyN : T → Option String
  | .non => some "NoneType"
  | .bl _ => some "bool"
  | .int _ => some "int"
  | .str _ => some "str"
  | .nd _ .lst _ => some "list"
  | .nd _ .tup _ => some "tuple"
  | _ => none
def tyCs : List String := ["int", "bool", "str", "list", "tuple"]
def subTy (a c : String) : Bool := a == c || (a == "bool" && c == "int")
def isTyT (c : String) (t : T) : Option T := match tyN t with
  | some a => if c ∈ tyCs then some (.bl (subTy a c)) else none
  | none => none
theorem kitMeta_str : PySem.W.kitMeta "str" = true := by decide +kernel
theorem kitMeta_list : PySem.W.kitMeta "list" = true := by decide +kernel
theorem kit_ok (K : PySem.W.Frag) {a c : String} (ha : a ∈ ["NoneType", "bool", "int", "str", "list", "tuple"]) (hc : c ∈ tyCs) : PySem.W.kitOne K (.type a) (.type c) = some (subTy a c) := by
  have km : PySem.W.kitMeta c = true := by
    simp only [tyCs, List.mem_cons, List.not_mem_nil, or_false] at hc
    rcases hc with rfl | rfl | rfl | rfl | rfl
    · exact kitMeta_int
    · exact kitMeta_bool
    · exact kitMeta_str
    · exact kitMeta_list
    · exact kitMeta_tuple
  by_cases h : a = c
  · subst h
    rw [kit_same]
    simp [subTy]
  · refine kit_ne K (l := []) h km ?_
    simp only [tyCs, List.mem_cons, List.not_mem_nil, or_false] at hc ha
    rcases ha with rfl | rfl | rfl | rfl | rfl | rfl <;> rcases hc with rfl | rfl | rfl | rfl | rfl <;> first | exact absurd rfl h | decide +kernel
section
variable {X : Cx}
theorem callT_len : CallR X (.builtin "len") (rTn X.K (g1 lenT)) := by
  intro pins s σ H xs us Q I r h
  obtain ⟨F, ts, v, fh, rs, e, q⟩ := h
  unfold g1 at e
  split at e
  · obtain ⟨x1, xs1, rfl, r1, rs1⟩ := rs.inv
    cases rs1.inv0
    unfold lenT at e
    split at e
    · cases e
      obtain ⟨p, ys, rfl, hq, hl, _⟩ := Rp.seq (H := H) fh (r1.any)
      refine call_len pins s σ H _ us Q I r ⟨_, ys.length, rfl, ?_, by rw [← hl]; exact q.int fh⟩
      rcases hq with hq | hq
      · exact .inl ⟨ys, hq, rfl⟩
      · exact .inr ⟨ys, hq, rfl⟩
    · split at e
      · cases e
        rename_i hz
        rw [r1.str_inv] at r
        exact call_len pins s σ H _ us Q I r ⟨_, _, rfl, ⟨by rw [← lim_eq]; exact hz, rfl⟩, q.int fh⟩
      · cases e
    · cases e
  · cases e
theorem nodeS_seq {K : PySem.W.Frag} {F H : Hp} {k : Kd} {p : Addr} {xs : List V} (s : Same F H) (h : NodeS K F k p xs) : SqL K H p xs ∨ SqT K H p xs := by
  cases k with
  | lst => exact .inl (SqL.of (s _ _ h))
  | rl => exact .inl (s.seq h)
  | tup => exact .inr (SqT.of (s _ _ h))
  | rt => exact .inr (seqT_same s h)
theorem callT_list : CallR X (.type "list") (rTn X.K (g1 listT)) := by
  intro pins s σ H xs us Q I r h
  obtain ⟨F, ts, v, fh, rs, e, q⟩ := h
  unfold g1 at e
  split at e
  · obtain ⟨x1, xs1, rfl, r1, rs1⟩ := rs.inv
    cases rs1.inv0
    unfold listT at e
    split at e
    · cases e
      obtain ⟨p, ys, rfl, rfl, n1, k1⟩ := node_of r1
      have hq : SqL X.K H p ys ∨ SqT X.K H p ys := nodeS_seq fh n1
      exact call_list_of pins s σ H _ us Q I r ⟨p, ys, rfl, hq, fun l hl => q.list fh k1 hl⟩
    · cases e
  · cases e
theorem callT_abs : CallR X (.builtin "abs") (rTn X.K (g1 absT)) := by
  intro pins s σ H xs us Q I r h
  obtain ⟨F, ts, v, fh, rs, e, q⟩ := h
  unfold g1 at e
  split at e
  · obtain ⟨x1, xs1, rfl, r1, rs1⟩ := rs.inv
    cases rs1.inv0
    unfold absT at e
    split at e
    · cases e
      rw [r1.int_inv] at r
      exact call_abs pins s σ H _ us Q I r ⟨_, rfl, q.int fh⟩
    · cases e
  · cases e
theorem callT_int : CallR X (.type "int") (rTn X.K (g1 intT)) := by
  intro pins s σ H xs us Q I r h
  obtain ⟨F, ts, v, fh, rs, e, q⟩ := h
  unfold g1 at e
  split at e
  · obtain ⟨x1, xs1, rfl, r1, rs1⟩ := rs.inv
    cases rs1.inv0
    unfold intT at e
    split at e
    · cases e
      rw [r1.int_inv] at r
      exact call_int1 pins s σ H _ us Q I r (.inl ⟨_, rfl, q.int fh⟩)
    · cases e
      rw [r1.bl_inv] at r
      exact call_int1 pins s σ H _ us Q I r (.inr ⟨_, rfl, q.int fh⟩)
    · cases e
  · cases e
theorem callT_str : CallR X (.type "str") (rTn X.K (g1 strT)) := by
  intro pins s σ H xs us Q I r h
  obtain ⟨F, ts, v, fh, rs, e, q⟩ := h
  unfold g1 at e
  split at e
  · obtain ⟨x1, xs1, rfl, r1, rs1⟩ := rs.inv
    cases rs1.inv0
    unfold strT at e
    split at e
    · split at e
      · cases e
        rename_i hz
        rw [r1.int_inv] at r
        exact call_str_int pins s σ H _ us Q I r ⟨_, rfl, hz, q.str fh⟩
      · cases e
    · cases e
  · cases e
theorem callT_two {f : String} {g : T → T → Option T} {gi : Int → Int → Int} (hc : CallR X (.builtin f) (fun xs H Q => ∃ i j, xs = [.int i, .int j] ∧ Q (.int (gi i j)) H)) (hg : ∀ t u v, g t u = some v → ∃ i j, t = .int i ∧ u = .int j ∧ v = .int (gi i j)) : CallR X (.builtin f) (rTn X.K (g2 g)) := by
  intro pins s σ H xs us Q I r h
  obtain ⟨F, ts, v, fh, rs, e, q⟩ := h
  unfold g2 at e
  split at e
  · obtain ⟨x1, xs1, rfl, r1, rs1⟩ := rs.inv
    obtain ⟨x2, xs2, rfl, r2, rs2⟩ := rs1.inv
    cases rs2.inv0
    obtain ⟨i, j, rfl, rfl, rfl⟩ := hg _ _ _ e
    rw [r1.int_inv, r2.int_inv] at r
    exact hc pins s σ H _ us Q I r ⟨_, _, rfl, q.int fh⟩
  · cases e
theorem callT_min (hc : X.calm = true) : CallR X (.builtin "min") (rTn X.K (g2 minT)) := callT_two (call_min2 hc) fun t u v h => by
  unfold minT at h
  split at h
  · cases h; exact ⟨_, _, rfl, rfl, rfl⟩
  · cases h
theorem callT_max (hc : X.calm = true) : CallR X (.builtin "max") (rTn X.K (g2 maxT)) := callT_two (call_max2 hc) fun t u v h => by
  unfold maxT at h
  split at h
  · cases h; exact ⟨_, _, rfl, rfl, rfl⟩
  · cases h
theorem bools_get : ∀ {l : List T} {bs : List Bool}, bools l = some bs → l.length = bs.length ∧ ∀ (i : Nat) (t : T), l[i]? = some t → ∃ b, bs[i]? = some b ∧ t = .bl b
  | [], bs, h => by cases h; exact ⟨rfl, fun i t e => by simp at e⟩
  | t :: r, bs, h => by
    unfold bools at h
    cases t with
    | bl b =>
      simp only at h
      cases hr : bools r with
      | none => simp only [hr] at h; cases h
      | some l =>
        simp only [hr] at h
        cases h
        obtain ⟨h1, h2⟩ := bools_get hr
        refine ⟨by simp [h1], fun i t e => ?_⟩
        cases i with
        | zero => simp at e; exact ⟨b, rfl, e.symm⟩
        | succ i => exact h2 i t (by simpa using e)
    | _ => cases h
theorem range_all {bs : List Bool} {tr : Nat → Bool} (h : ∀ (i : Nat) (b : Bool), bs[i]? = some b → tr i = b) : (List.range bs.length).all tr = bs.all id ∧ (List.range bs.length).any tr = bs.any id := by
  have e : (List.range bs.length).map tr = bs := by
    apply List.ext_getElem?
    intro i
    rw [List.getElem?_map]
    by_cases hi : i < bs.length
    · rw [List.getElem?_range hi, List.getElem?_eq_getElem hi]
      simp only [Option.map_some]
      rw [h i _ (List.getElem?_eq_getElem hi)]
    · rw [List.getElem?_eq_none (by simp; omega), List.getElem?_eq_none (by omega)]
      rfl
  constructor
  · have : (List.range bs.length).all tr = ((List.range bs.length).map tr).all id := by rw [List.all_map]; rfl
    rw [this, e]
  · have : (List.range bs.length).any tr = ((List.range bs.length).map tr).any id := by rw [List.any_map]; rfl
    rw [this, e]
/-- a list of bools, walked by all or any -/
theorem walkB (hc : X.calm = true) {pins : List (Addr × Obj)} {s : Shared} {σ : L2.St} {H : Hp} {F : Hp} {l : List T} {bs : List Bool} {p : Addr} {E' : Value → Shared → Prop} {P : Value → Shared → Prop} {o : Bool} (I : Inv X pins σ H s) (fh : Same F H) (r1 : Rp X.K F F (.nd o .lst l) (.ref p) R0) (hb : bools l = some bs)
    (hP : ∀ (I0 : Addr) (wr fp : List Addr) (St : Nat → Heap → Prop) (PP : Nat → Value → Prop) (tr : Nat → Bool) (s2 : Shared), Walks X.prog X.w X.A.in1 I0 fp wr bs.length PP St → St 0 s2.heap → TruthOf X.prog X.w X.A.in1 PP tr → (∀ (i : Nat) (b : Bool), bs[i]? = some b → tr i = b) →
      (∀ h' tk, (∀ b o, b ∉ wr → s2.heap.get? b = some o → h'.get? b = some o) → Inv X pins σ H { s2 with heap := h', toks := tk }) → P (.ref I0) s2) : wpAny (model X.prog X.w) X.A.in1 (pyIter (.ref p)) P E' s := by
  obtain ⟨p', ys, e', rfl, n1, k1⟩ := node_of r1
  cases e'
  obtain ⟨hlen, hget⟩ := bools_get hb
  obtain ⟨its, rv, pl, hz⟩ := I.list (SqL.of (fh _ _ n1) : SqL X.K H p ys)
  have hl := rv.length
  have hne : p ≠ s.heap.objs.size := Nat.ne_of_lt (by
    obtain ⟨o, n, e, _⟩ := pl
    exact Heap.lt_size e)
  have hh : X.A.in1.handled = none := I.ok.hd hc
  have val : ∀ (i : Nat) (v : Value), its[i]? = some v → ∃ b, bs[i]? = some b ∧ v = .bool b := fun i v hv => by
    have hi : i < ys.length := by
      have := (List.getElem?_eq_some_iff.mp hv).1
      omega
    have hi2 : i < l.length := by rw [k1.1]; exact hi
    obtain ⟨b, h1, h2⟩ := hget i _ (List.getElem?_eq_getElem hi2)
    have rr := k1.2 i _ _ (List.getElem?_eq_getElem hi2) (List.getElem?_eq_getElem hi)
    rw [h2] at rr
    obtain ⟨u, e1, ru⟩ := rv.get (List.getElem?_eq_getElem hi)
    rw [hv] at e1
    cases e1
    rw [rr.bl_inv] at ru
    exact ⟨b, h1, ru⟩
  have hbl : its.toArray.size = bs.length := by rw [List.size_toArray, ← hl, ← k1.1, hlen]
  refine wpAny_pyIter_list pl.isList ?_
  have W := Walks.list (prog := X.prog) (w := X.w) hh s.heap.objs.size p hne its.toArray
  rw [hbl] at W
  refine hP s.heap.objs.size _ _ _ _ (fun i => bs.getD i false) _ W ⟨⟨_, Heap.get?_push_size _ rfl, rfl, rfl⟩, ?_⟩ ?_ ?_ ?_
  · obtain ⟨o, ho, hr⟩ := pl.isList
    exact ⟨o, Heap.get?_push_of_some _ ho, hr⟩
  · intro i v s' Q' E'' hv hq'
    obtain ⟨b, h1, h2⟩ := val i v (by simpa using hv)
    subst h2
    refine wpAny_truthy_bool ?_
    have e : bs.getD i false = b := by rw [List.getD_eq_getElem?_getD, h1]; rfl
    rw [← e]
    exact hq'
  · intro i b hb'
    show bs.getD i false = b
    rw [List.getD_eq_getElem?_getD, hb']
    rfl
  · intro h' tk k
    exact I.kept fun b o e => k b o (fun z => by
      rw [List.mem_singleton] at z
      exact absurd (Heap.lt_size e) (by rw [z]; exact Nat.lt_irrefl _)) (Heap.get?_push_of_some _ e)
theorem callT_all (hc : X.calm = true) : CallR X (.builtin "all") (rTn X.K (g1 allT)) := by
  intro pins s σ H xs us Q I r h
  obtain ⟨F, ts, v, fh, rs, e, q⟩ := h
  unfold g1 at e
  split at e
  · obtain ⟨x1, xs1, rfl, r1, rs1⟩ := rs.inv
    cases rs1.inv0
    unfold allT at e
    split at e
    · split at e
      · cases e
        rename_i bs hbs
        obtain ⟨p, rfl⟩ := r1.ref_inv
        obtain ⟨u, rfl, ru⟩ := vals1 r
        cases ru
        refine call_all_walk (walkB hc I fh r1 hbs fun I0 wr fp St PP tr s2 W st0 tro htr fin => ⟨I0, fp, wr, bs.length, PP, St, tr, rfl, W, st0, tro, fun h' tk k => ?_⟩)
        rw [(range_all htr).1]
        exact ⟨.bl _, H, fin h' tk k, rfl, q.bl fh⟩
      · cases e
    · cases e
  · cases e
theorem callT_any (hc : X.calm = true) : CallR X (.builtin "any") (rTn X.K (g1 anyT)) := by
  intro pins s σ H xs us Q I r h
  obtain ⟨F, ts, v, fh, rs, e, q⟩ := h
  unfold g1 at e
  split at e
  · obtain ⟨x1, xs1, rfl, r1, rs1⟩ := rs.inv
    cases rs1.inv0
    unfold anyT at e
    split at e
    · split at e
      · cases e
        rename_i bs hbs
        obtain ⟨p, rfl⟩ := r1.ref_inv
        obtain ⟨u, rfl, ru⟩ := vals1 r
        cases ru
        refine call_any_walk (walkB hc I fh r1 hbs fun I0 wr fp St PP tr s2 W st0 tro htr fin => ⟨I0, fp, wr, bs.length, PP, St, tr, rfl, W, st0, tro, fun h' tk k => ?_⟩)
        rw [(range_all htr).2]
        exact ⟨.bl _, H, fin h' tk k, rfl, q.bl fh⟩
      · cases e
    · cases e
  · cases e
theorem tyOf_T {F H : Hp} {t : T} {x : V} {a : String} (fh : Same F H) (r : Rp X.K F F t x R0) (h : tyN t = some a) : TyOf X.K H x (.type a) ∧ a ∈ ["NoneType", "bool", "int", "str", "list", "tuple"] := by
  cases t with
  | non => cases h; rw [r.non_inv]; exact ⟨.non, by simp⟩
  | bl b => cases h; rw [r.bl_inv]; exact ⟨.bl b, by simp⟩
  | int i => cases h; rw [r.int_inv]; exact ⟨.int i, by simp⟩
  | str y => cases h; rw [r.str_inv]; exact ⟨.str y, by simp⟩
  | nd o k l =>
    obtain ⟨p, xs, rfl, _, n, _⟩ := node_of r
    cases k with
    | lst => cases h; exact ⟨.lst (fh _ _ n), by simp⟩
    | tup => cases h; exact ⟨.tup (fh _ _ n), by simp⟩
    | rl => cases h
    | rt => cases h
theorem callT_isT {c : String} : CallR X (.builtin "isinstance") (fun xs H Q => ∃ x, xs = [x, .ty c] ∧ rTn X.K (g1 (isTyT c)) [x] H Q) := by
  intro pins s σ H xs us Q I r h
  obtain ⟨x, rfl, F, ts, v, fh, rs, e, q⟩ := h
  unfold g1 at e
  split at e
  · obtain ⟨x1, xs1, e1, r1, rs1⟩ := rs.inv
    cases e1
    unfold isTyT at e
    split at e
    · rename_i a ha
      split at e
      · cases e
        rename_i hc
        obtain ⟨ty, hm⟩ := tyOf_T fh r1 ha
        exact call_isT pins s σ H _ us Q I r ⟨x, _, _, rfl, ty, kit_ok X.K hm hc, q.bl fh⟩
      · cases e
    · cases e
  · cases e
/-- is, is not: None, True, False -/
def T.isN : T → Bool
  | .non => true
  | _ => false
def T.isB (b : Bool) : T → Bool
  | .bl c => c == b
  | _ => false
def isT2 (neg : Bool) (t u : T) : Option T := match u with
  | .non => some (.bl (neg ^^ t.isN))
  | .bl b => some (.bl (neg ^^ t.isB b))
  | _ => none
theorem dec_non {K : PySem.W.Frag} {F H : Hp} {t : T} {x : V} {A : Rg} (r : Rp K F H t x A) : decide (x = V.non) = t.isN := by
  cases r <;> simp [T.isN]
theorem dec_b {K : PySem.W.Frag} {F H : Hp} {t : T} {x : V} {A : Rg} {b : Bool} (r : Rp K F H t x A) : decide (x = V.bl b) = t.isB b := by
  cases r <;> simp [T.isB]
  rename_i c
  cases c <;> cases b <;> rfl
theorem opT_is : OpR X (compareOp .Is) (rT2 X.K (isT2 false)) := by
  intro pins s σ H x y v u Q I rx ry h
  obtain ⟨F, t1, t2, r, fh, r1, r2, e, q⟩ := h
  unfold isT2 at e
  split at e
  · cases e
    rw [r2.non_inv] at ry
    refine op_isN pins s σ H _ _ v u Q I rx ry ⟨rfl, ?_⟩
    rw [dec_non r1]
    have := q.bl fh
    rw [Bool.false_xor] at this
    exact this
  · cases e
    rw [r2.bl_inv] at ry
    refine op_isB pins s σ H _ _ v u Q I rx ry ⟨_, rfl, ?_⟩
    rw [dec_b r1]
    have := q.bl fh
    rw [Bool.false_xor] at this
    exact this
  · cases e
theorem opT_isNot : OpR X (compareOp .IsNot) (rT2 X.K (isT2 true)) := by
  intro pins s σ H x y v u Q I rx ry h
  obtain ⟨F, t1, t2, r, fh, r1, r2, e, q⟩ := h
  unfold isT2 at e
  split at e
  · cases e
    rw [r2.non_inv] at ry
    refine op_notN pins s σ H _ _ v u Q I rx ry ⟨rfl, ?_⟩
    rw [dec_non r1]
    have := q.bl fh
    rw [Bool.true_xor] at this
    exact this
  · cases e
    rw [r2.bl_inv] at ry
    refine op_notB pins s σ H _ _ v u Q I rx ry ⟨_, rfl, ?_⟩
    rw [dec_b r1]
    have := q.bl fh
    rw [Bool.true_xor] at this
    exact this
  · cases e
end
section
variable {X : Cx} {E : L2.St → XK} {ca : Str → Value} {σ : L2.St} {H : Hp} {m ma mb mc : PSt → Option Rs} {ms : PSt → Option RsL} {K : PySem.W.Frag} {a b c e : Expr} {es : List Expr} {pos p p2 : Pos}
theorem r_isT {c : String} {cn : Str} (hv : bootBuiltins cn = some (.type c)) (hg : Gl X "isinstance") (hm : X.mg "isinstance" = none) (hgc : Gl X cn) (hmc : X.mg cn = none) (hn : cn ≠ "__name__") (hd : (cn == ("__debug__" : Str)) = false) (ha : PE X e (tM X.K E ca m)) (he : starEach [e, .Name cn p2] X.env = (false, eval e X.env) :: starEach [.Name cn p2] X.env) :
    PE X (.Call (.Name "isinstance" p) [e, .Name cn p2] [] pos) (tM X.K E ca (mAp (g1 (isTyT c)) (mCons m mNil))) := by
  refine PE.weak (pe_callB (callT_isT (c := c)) hg hm PyProof.Rows.boot_isinstance (pa_cons ha (pa_cons (pe_bltn (v := .ty c) hgc hmc hv rfl hn hd) pa_nil) he) (by decide) (by decide) he rfl) fun σ H Q h => ?_
  exact (tMs_cons (tM_ap h)).mono fun x H1 h1 => ⟨x, rfl, tMs_nil h1⟩

/-! ### calls of the text's own defs -/
inductive Ru where
  | ok (t : T) | exc (c : Str)
def spP (K : PySem.W.Frag) (ca : Str → Value) (g : List T → Option Ru) : Sp := fun vs H Q E => ∃ F ts, Same F H ∧ Rps K F ts vs ∧ match g ts with
  | some (.ok v) => Gets K F H v Q
  | some (.exc c) => ∀ F' H', Ext F H F' H' R0 → E (ca c) none H'
  | none => False
def mCall (g : List T → Option Ru) (ms : PSt → Option RsL) : PSt → Option Rs := fun τ => match ms τ with
  | some (.v ts b) => (match g ts with
    | some (.ok v) => fin b v
    | some (.exc c) => some (.x c)
    | none => none)
  | some (.x c) => some (.x c)
  | none => none
theorem r_call {k j : Nat} {x : Str} {ps : List Str} {g : List T → Option Ru} (D : DefX X.prog X.w X.K X.mg X.base k x ps (spP X.K ca g)) (hr : Room j X.A) (hx : PassS X E) (ha : PA X (e :: es) (tMs X.K E ca ms)) (hk : k ≤ j) (hg : Gl X x) (hdb : (x == ("__debug__" : Str)) = false)
    (he : starEach (e :: es) X.env = (false, eval e X.env) :: starEach es X.env) (hpl : (backTo pos (starEach es X.env)).any (·.1) = false) : PE X (.Call (.Name x p) (e :: es) [] pos) (tM X.K E ca (mCall g ms)) := by
  refine PE.weak (px D hr hx ha hk hg hdb he hpl) fun σ H Q h => ?_
  obtain ⟨F, τ, R, S, q⟩ := h
  refine ⟨F, τ, R, S, ?_⟩
  unfold mCall at q
  cases hs : ms τ with
  | none => simp only [hs] at q
  | some r =>
    simp only [hs] at q
    cases r with
    | x c => exact q
    | v ts b =>
      intro F1 H1 xs e1 rs
      have S1 := S.ext e1
      simp only at q
      rw [List.append_nil]
      refine ⟨Gz b F1 H1 R, ts, gz_fh S1, rs, ?_⟩
      cases hg : g ts with
      | none => simp only [hg] at q
      | some r =>
        simp only [hg] at q
        cases r with
        | exc c => exact fun F' H' e2 => q F1 H' (e1.grow e2.hh)
        | ok v =>
          intro F2 H2 z C e2 r2
          simp only at q
          unfold fin at q
          cases b with
          | false => exact q F2 H2 z C (e1.trans0 e2) r2
          | true =>
            cases hf : v.flat with
            | false => rw [hf] at q; exact False.elim q
            | true => rw [hf] at q; exact q F1 H2 z R0 (e1.grow e2.hh) (r2.flat_any hf)
end
end Pu

set_option Elab.async false
set_option linter.all false
set_option maxRecDepth 100000
namespace Pu
open PySem PySem.Spec PyProof.Rows L2 Zw Zx

/-! ### what is walked, by plain values -/
def Its (K : PySem.W.Frag) (J : It) (F : Hp) (ts : List T) : Prop := ∀ (i : Nat) (F' H' : Hp), Same F F' → Same F' H' →
  (∀ t, ts[i]? = some t → J.go i H' ∧ ∀ x H'', J.yld i H' x H'' → ∃ F'', Ext F' H' F'' H'' R0 ∧ Rp K F'' H'' t x R0) ∧ (i = ts.length → J.stop i H')
section
variable (K : PySem.W.Frag) (E : L2.St → XK) (ca : Str → Value)
def tI (m : PSt → Option RsL) : TI := fun σ H P => ∃ F τ R, StR K F H σ τ R ∧ match m τ with
  | some (.v ts _) => ∀ F' H' J, Ext F H F' H' R0 → Its K J F' ts → P J H'
  | some (.x c) => ∀ F' H', Ext F H F' H' R0 → E σ (ca c) none H'
  | none => False
end
def kidsOf : T → Option (List T)
  | .nd _ _ l => some l
  | _ => none
def isL : T → Bool
  | .nd _ .lst _ => true
  | .nd _ .rl _ => true
  | _ => false
/-- the items of a list or tuple -/
def iVal (m : PSt → Option Rs) : PSt → Option RsL := fun τ => match m τ with
  | some (.v (.nd _ k l) false) => some (.v (shareL l) false)
  | some (.x c) => some (.x c)
  | _ => none
def rangeT (lo : Int) (n : Nat) : List T := (List.range n).map fun (i : Nat) => .int (lo + (i : Int))
def ok62 (j : Int) : Bool := decide (-(2 ^ 62) ≤ j) && decide (j < 2 ^ 62)
def as1 : List T → Option Int
  | [.int j] => some j
  | _ => none
def as2 : List T → Option (Int × Int)
  | [.int i, .int j] => some (i, j)
  | _ => none
def iRange1 (ms : PSt → Option RsL) : PSt → Option RsL := fun τ => match ms τ with
  | some (.v ts _) => (match as1 ts with
    | some j => if ok62 j then some (.v (rangeT 0 j.toNat) false) else none
    | none => none)
  | r => r
def iRange2 (ms : PSt → Option RsL) : PSt → Option RsL := fun τ => match ms τ with
  | some (.v ts _) => (match as2 ts with
    | some (i, j) => if ok62 i && ok62 j then some (.v (rangeT i (j - i).toNat) false) else none
    | none => none)
  | r => r
def enumT : Nat → List T → List T
  | _, [] => []
  | i, t :: r => .tup [.int (i : Int), t] :: enumT (i + 1) r
def asL : List T → Option (List T)
  | [.nd o k l] => if isL (.nd o k l) then some l else none
  | _ => none
def asL2 : List T → Option (List T × List T)
  | [.nd o k l, .nd o' k' m] => if isL (.nd o k l) && isL (.nd o' k' m) then some (l, m) else none
  | _ => none
def iEnumT (ms : PSt → Option RsL) : PSt → Option RsL := fun τ => match ms τ with
  | some (.v ts false) => (match asL ts with
    | some l => some (.v (enumT 0 l) false)
    | none => none)
  | some (.v _ true) => none
  | r => r
def zipT (l m : List T) : List T := List.zipWith (fun a b => T.tup [a, b]) l m
def iZipT (ms : PSt → Option RsL) : PSt → Option RsL := fun τ => match ms τ with
  | some (.v ts false) => (match asL2 ts with
    | some (l, m) => some (.v (zipT l m) false)
    | none => none)
  | some (.v _ true) => none
  | r => r
theorem enumT_get : ∀ (l : List T) (n i : Nat), (enumT n l)[i]? = (l[i]?).map fun t => T.tup [.int ((n + i : Nat) : Int), t]
  | [], n, i => by simp [enumT]
  | t :: r, n, i => by
    cases i with
    | zero => simp [enumT]
    | succ i =>
      simp only [enumT, List.getElem?_cons_succ]
      rw [enumT_get r (n + 1) i]
      have : n + 1 + i = n + (i + 1) := by omega
      rw [this]
theorem enumT_length (l : List T) : ∀ n, (enumT n l).length = l.length := by
  induction l with
  | nil => intro n; rfl
  | cons t r ih => intro n; simp [enumT, ih]
section
variable {X : Cx} {E : L2.St → XK} {ca : Str → Value} {σ : L2.St} {H : Hp} {m ma mb mc : PSt → Option Rs} {ms : PSt → Option RsL} {K : PySem.W.Frag} {a b c e tg : Expr} {es elts : List Expr} {pos p tpos : Pos} {kk : Nat}
theorem its_list {F : Hp} {p : Addr} {xs : List V} {l : List T} (n : ∀ F' H' : Hp, Same F F' → Same F' H' → SqL K H' p xs) (r : Rps K F l xs) : Its K (Itl K p) F l := by
  intro i F' H' s1 s2
  have sq := n F' H' s1 s2
  refine ⟨fun t ht => ?_, fun e => ⟨xs, sq, by rw [e, r.1]; exact Nat.le_refl _⟩⟩
  have hi : i < xs.length := by
    have := (List.getElem?_eq_some_iff.mp ht).1
    have := r.1
    omega
  refine ⟨⟨xs, xs[i], sq, List.getElem?_eq_getElem hi⟩, fun x H'' y => ?_⟩
  obtain ⟨rfl, y⟩ := y
  have hx := y xs sq
  exact ⟨F', Ext.refl s2, ((r.same s1).2 i t x ht hx).any⟩
theorem its_tup {F : Hp} {p : Addr} {xs : List V} {l : List T} (n : ∀ F' H' : Hp, Same F F' → Same F' H' → SqT K H' p xs) (r : Rps K F l xs) : Its K (Itt K p) F l := by
  intro i F' H' s1 s2
  have sq := n F' H' s1 s2
  refine ⟨fun t ht => ?_, fun e => ⟨xs, sq, by rw [e, r.1]; exact Nat.le_refl _⟩⟩
  have hi : i < xs.length := by
    have := (List.getElem?_eq_some_iff.mp ht).1
    have := r.1
    omega
  refine ⟨⟨xs, xs[i], sq, List.getElem?_eq_getElem hi⟩, fun x H'' y => ?_⟩
  obtain ⟨rfl, y⟩ := y
  have hx := y xs sq
  exact ⟨F', Ext.refl s2, ((r.same s1).2 i t x ht hx).any⟩
theorem its_range {F : Hp} {lo : Int} {n : Nat} : Its K (Itr lo n) F (rangeT lo n) := by
  intro i F' H' s1 s2
  refine ⟨fun t ht => ?_, fun e => ?_⟩
  · unfold rangeT at ht
    rw [List.getElem?_map] at ht
    obtain ⟨j, e1, e2⟩ := Option.map_eq_some_iff.mp ht
    have hi : i < n := by
      have := (List.getElem?_eq_some_iff.mp e1).1
      simpa using this
    have hj : i = j := by rw [List.getElem?_range hi] at e1; exact Option.some.inj e1
    subst hj
    subst e2
    refine ⟨hi, fun x H'' y => ?_⟩
    obtain ⟨rfl, rfl⟩ := y
    exact ⟨F', Ext.refl s2, .int _⟩
  · have : n ≤ i := by rw [e]; simp [rangeT]
    exact this
theorem its_enum {F : Hp} {p : Addr} {xs : List V} {l : List T} (n : ∀ F' H' : Hp, Same F F' → Same F' H' → SqL K H' p xs) (r : Rps K F l xs) : Its K (Ite K p) F (enumT 0 l) := by
  intro i F' H' s1 s2
  have sq := n F' H' s1 s2
  refine ⟨fun t ht => ?_, fun e => ⟨xs, sq, by rw [e, enumT_length, r.1]; exact Nat.le_refl _⟩⟩
  rw [enumT_get] at ht
  obtain ⟨t0, h0, rfl⟩ := Option.map_eq_some_iff.mp ht
  have hi : i < xs.length := by
    have := (List.getElem?_eq_some_iff.mp h0).1
    have := r.1
    omega
  refine ⟨⟨xs, xs[i], sq, List.getElem?_eq_getElem hi⟩, fun x H'' y => ?_⟩
  obtain ⟨q, y0, rfl, hq, rfl, y⟩ := y
  have hx := y xs sq
  have e := Ext.new (o := .tup [.int i, y0]) s2 hq
  refine ⟨_, e, Rps.of_node (k := .tup) (xs := [.int i, y0]) upd_same ?_⟩
  have e0 : ((0 + i : Nat) : Int) = (i : Int) := by simp
  rw [e0]
  exact .cons (H := H') (.int _) (.cons (H := H') (((r.same (s1.trans e.ff)).2 i t0 y0 h0 hx).any) .nil)
theorem its_zip {F : Hp} {p p2 : Addr} {xs ys : List V} {l l2 : List T} (n : ∀ F' H' : Hp, Same F F' → Same F' H' → SqL K H' p xs) (n2 : ∀ F' H' : Hp, Same F F' → Same F' H' → SqL K H' p2 ys) (r : Rps K F l xs) (r2 : Rps K F l2 ys) : Its K (Itz K p p2) F (zipT l l2) := by
  intro i F' H' s1 s2
  have sq := n F' H' s1 s2
  have sq2 := n2 F' H' s1 s2
  have l1 := r.1
  have l2' := r2.1
  refine ⟨fun t ht => ?_, fun e => ⟨xs, ys, sq, sq2, ?_⟩⟩
  · unfold zipT at ht
    rw [List.getElem?_zipWith] at ht
    cases h1 : l[i]? with
    | none => rw [h1] at ht; cases ht
    | some t1 =>
      cases h2 : l2[i]? with
      | none => rw [h1, h2] at ht; cases ht
      | some t2 =>
        rw [h1, h2] at ht
        cases ht
        have hi : i < xs.length := by have := (List.getElem?_eq_some_iff.mp h1).1; omega
        have hi2 : i < ys.length := by have := (List.getElem?_eq_some_iff.mp h2).1; omega
        refine ⟨⟨xs, xs[i], ys, ys[i], sq, List.getElem?_eq_getElem hi, sq2, List.getElem?_eq_getElem hi2⟩, fun x H'' y => ?_⟩
        obtain ⟨q, y0, z0, rfl, hq, rfl, y, z⟩ := y
        have hx := y xs sq
        have hy := z ys sq2
        have e := Ext.new (o := .tup [y0, z0]) s2 hq
        refine ⟨_, e, Rps.of_node (k := .tup) (xs := [y0, z0]) upd_same ?_⟩
        exact .cons (H := H') (((r.same (s1.trans e.ff)).2 i t1 y0 h1 hx).any) (.cons (H := H') (((r2.same (s1.trans e.ff)).2 i t2 z0 h2 hy).any) .nil)
  · have : i = min l.length l2.length := by rw [e]; simp [zipT]
    omega
theorem PI.weak {t t' : TI} (h : PI X tg e t) (w : ∀ σ H P, t' σ H P → t σ H P) : PI X tg e t' := fun pins s σ H P I q => h pins s σ H P I (w σ H P q)
theorem PI.or {t t' : TI} (h : PI X tg e t) (h' : PI X tg e t') : PI X tg e (fun σ H P => t σ H P ∨ t' σ H P) := fun pins s σ H P I q => q.elim (h pins s σ H P I) (h' pins s σ H P I)
/-- for x in a list or a tuple -/
theorem r_iVal (ha : PE X e (tM X.K E ca m)) : PI X tg e (tI X.K E ca (iVal m)) := by
  refine PI.weak (PI.or (pi_list ha) (pi_tup ha)) fun σ H P h => ?_
  obtain ⟨F, τ, R, S, q⟩ := h
  unfold iVal at q
  have key : ∀ {o : Bool} {k : Kd} {l : List T}, m τ = some (.v (.nd o k l) false) → (∀ F' H' J, Ext F H F' H' R0 → Its X.K J F' (shareL l) → P J H') → ∀ F1 H1 x B, Ext F H F1 H1 B → Got X.K F1 H1 R (.nd o k l) false x B → ∃ (F2 : Hp) (p : Addr) (xs : List V), x = .ref p ∧ Ext F H F2 H1 R0 ∧ NodeS X.K F2 k p xs ∧ Rps X.K F2 (shareL l) xs := by
    intro o k l hm q F1 H1 x B e1 g1
    obtain ⟨F2, e2, _, r2⟩ := Got.frz (b := false) S e1 g1
    have r2' : Rp X.K F2 F2 (T.nd o k l).share x R0 := r2
    rw [T.share] at r2'
    obtain ⟨p, xs, rfl, _, n, kd⟩ := node_of r2'
    exact ⟨F2, p, xs, rfl, e2, n, kd⟩
  cases hm : m τ with
  | none => simp only [hm] at q
  | some r =>
    simp only [hm] at q
    cases r with
    | x c => exact .inl ⟨F, τ, R, S, by rw [hm]; exact q⟩
    | v t bb =>
      cases t with
      | nd o k l =>
        cases bb with
        | true => exact q.elim
        | false =>
          simp only at q
          cases k with
          | lst =>
            refine .inl ⟨F, τ, R, S, ?_⟩
            rw [hm]
            intro F1 H1 x B e1 g1
            obtain ⟨F2, p, xs, rfl, e2, n, kd⟩ := key hm q F1 H1 x B e1 g1
            exact ⟨p, rfl, ⟨xs, SqL.of (e2.fh _ _ n)⟩, q F2 H1 _ e2 (its_list (fun F' H' s1 s2 => SqL.of (s2 _ _ (s1 _ _ n))) kd)⟩
          | rl =>
            refine .inl ⟨F, τ, R, S, ?_⟩
            rw [hm]
            intro F1 H1 x B e1 g1
            obtain ⟨F2, p, xs, rfl, e2, n, kd⟩ := key hm q F1 H1 x B e1 g1
            exact ⟨p, rfl, ⟨xs, e2.fh.seq n⟩, q F2 H1 _ e2 (its_list (fun F' H' s1 s2 => s2.seq (s1.seq n)) kd)⟩
          | tup =>
            refine .inr ⟨F, τ, R, S, ?_⟩
            rw [hm]
            intro F1 H1 x B e1 g1
            obtain ⟨F2, p, xs, rfl, e2, n, kd⟩ := key hm q F1 H1 x B e1 g1
            exact ⟨p, rfl, ⟨xs, SqT.of (e2.fh _ _ n)⟩, q F2 H1 _ e2 (its_tup (fun F' H' s1 s2 => SqT.of (s2 _ _ (s1 _ _ n))) kd)⟩
          | rt =>
            refine .inr ⟨F, τ, R, S, ?_⟩
            rw [hm]
            intro F1 H1 x B e1 g1
            obtain ⟨F2, p, xs, rfl, e2, n, kd⟩ := key hm q F1 H1 x B e1 g1
            exact ⟨p, rfl, ⟨xs, seqT_same e2.fh n⟩, q F2 H1 _ e2 (its_tup (fun F' H' s1 s2 => seqT_same s2 (seqT_same s1 n)) kd)⟩
      | _ => exact q.elim
/-- the argument list ahead, then what it is walked by -/
theorem tI_args {f : (PSt → Option RsL) → PSt → Option RsL} {P : It → Hp → Prop} {W : List V → Hp → Prop} (hx : ∀ τ c, ms τ = some (.x c) → f ms τ = some (.x c)) (hn : ∀ τ, ms τ = none → f ms τ = none)
    (hv : ∀ F τ R ts b, StR K F H σ τ R → ms τ = some (.v ts b) → (match f ms τ with
      | some (.v us _) => ∀ F' H' J, Ext F H F' H' R0 → Its K J F' us → P J H'
      | some (.x c) => ∀ F' H', Ext F H F' H' R0 → E σ (ca c) none H'
      | none => False) → ∀ F' H' xs, Ext F H F' H' R0 → Rps K (Gz b F' H' R) ts xs → W xs H') (h : tI K E ca (f ms) σ H P) : tMs K E ca ms σ H W := by
  obtain ⟨F, τ, R, S, q⟩ := h
  refine ⟨F, τ, R, S, ?_⟩
  cases hm : ms τ with
  | none => rw [hn τ hm] at q; exact q.elim
  | some r =>
    cases r with
    | x c => rw [hx τ c hm] at q; exact q
    | v ts b => exact fun F' H' xs e rs => hv F τ R ts b S hm q F' H' xs e rs
theorem ok62_iff {j : Int} (h : ok62 j = true) : -(2 ^ 62) ≤ j ∧ j < 2 ^ 62 := by
  unfold ok62 at h
  rw [Bool.and_eq_true, decide_eq_true_eq, decide_eq_true_eq] at h
  exact h
theorem r_range1 (hg : Gl X "range") (hm : X.mg "range" = none) (ha : PA X [a] (tMs X.K E ca ms)) (hs : starEach [a] X.env = [(false, eval a X.env)]) : PI X tg (.Call (.Name "range" p) [a] [] pos) (tI X.K E ca (iRange1 ms)) := by
  refine PI.weak (pi_range1 hg hm ha hs) fun σ H P h => ?_
  refine tI_args (f := iRange1) (fun τ c e => by unfold iRange1; rw [e]) (fun τ e => by unfold iRange1; rw [e]) (fun F τ R ts b S e q F' H' xs e1 rs => ?_) h
  unfold iRange1 at q
  rw [e] at q
  simp only at q
  cases h1 : as1 ts with
  | none => simp only [h1] at q
  | some j =>
    simp only [h1] at q
    by_cases hj : ok62 j = true
    · simp only [hj, if_true] at q
      obtain ⟨g1, g2⟩ := ok62_iff hj
      unfold as1 at h1
      split at h1
      · cases h1
        obtain ⟨x1, xs1, rfl, r1, rs1⟩ := rs.inv
        cases rs1.inv0
        rw [r1.int_inv]
        exact ⟨j, rfl, g1, g2, q F' H' _ e1 its_range⟩
      · cases h1
    · simp only [hj] at q
      exact q.elim
theorem r_range2 (hg : Gl X "range") (hm : X.mg "range" = none) (ha : PA X [a, b] (tMs X.K E ca ms)) (hs : starEach [a, b] X.env = [(false, eval a X.env), (false, eval b X.env)]) (hs2 : starEach [b] X.env = [(false, eval b X.env)]) : PI X tg (.Call (.Name "range" p) [a, b] [] pos) (tI X.K E ca (iRange2 ms)) := by
  refine PI.weak (pi_range2 hg hm ha hs hs2) fun σ H P h => ?_
  refine tI_args (f := iRange2) (fun τ c e => by unfold iRange2; rw [e]) (fun τ e => by unfold iRange2; rw [e]) (fun F τ R ts b S e q F' H' xs e1 rs => ?_) h
  unfold iRange2 at q
  rw [e] at q
  simp only at q
  cases h1 : as2 ts with
  | none => simp only [h1] at q
  | some ij =>
    obtain ⟨i, j⟩ := ij
    simp only [h1] at q
    by_cases hj : (ok62 i && ok62 j) = true
    · simp only [hj, if_true] at q
      rw [Bool.and_eq_true] at hj
      obtain ⟨g1, g2⟩ := ok62_iff hj.1
      obtain ⟨g3, g4⟩ := ok62_iff hj.2
      unfold as2 at h1
      split at h1
      · cases h1
        obtain ⟨x1, xs1, rfl, r1, rs1⟩ := rs.inv
        obtain ⟨x2, xs2, rfl, r2, rs2⟩ := rs1.inv
        cases rs2.inv0
        rw [r1.int_inv, r2.int_inv]
        exact ⟨i, j, rfl, ⟨g1, g2, g3, g4⟩, q F' H' _ e1 its_range⟩
      · cases h1
    · simp only [hj] at q
      exact q.elim
theorem isL_sq {F : Hp} {o : Bool} {k : Kd} {l : List T} {x : V} (h : isL (.nd o k l) = true) (r : Rp K F F (.nd o k l) x R0) : ∃ p xs, x = .ref p ∧ (∀ F' H' : Hp, Same F F' → Same F' H' → SqL K H' p xs) ∧ Rps K F l xs := by
  obtain ⟨p, xs, rfl, _, n, kd⟩ := node_of r
  refine ⟨p, xs, rfl, fun F' H' s1 s2 => ?_, kd⟩
  cases k with
  | lst => exact SqL.of (s2 _ _ (s1 _ _ n))
  | rl => exact s2.seq (s1.seq n)
  | tup => cases h
  | rt => cases h
theorem r_enum (hg : Gl X "enumerate") (hm : X.mg "enumerate" = none) (ha : PA X [a] (tMs X.K E ca ms)) (hs : starEach [a] X.env = [(false, eval a X.env)]) : PI X (.Tuple elts kk tpos) (.Call (.Name "enumerate" p) [a] [] pos) (tI X.K E ca (iEnumT ms)) := by
  refine PI.weak (pi_enum hg hm ha hs) fun σ H P h => ?_
  refine tI_args (f := iEnumT) (fun τ c e => by unfold iEnumT; rw [e]) (fun τ e => by unfold iEnumT; rw [e]) (fun F τ R ts b S e q F' H' xs e1 rs => ?_) h
  unfold iEnumT at q
  rw [e] at q
  cases b with
  | true => exact q.elim
  | false =>
    simp only at q
    cases h1 : asL ts with
    | none => simp only [h1] at q
    | some l =>
      simp only [h1] at q
      unfold asL at h1
      split at h1
      · split at h1
        · cases h1
          rename_i hL
          obtain ⟨x1, xs1, rfl, r1, rs1⟩ := rs.inv
          cases rs1.inv0
          obtain ⟨p', ys, rfl, sq, kd⟩ := isL_sq hL r1
          exact ⟨p', rfl, ⟨ys, sq F' H' (.refl _) e1.fh⟩, q F' H' _ e1 (its_enum sq kd)⟩
        · cases h1
      · cases h1
theorem r_zip (hg : Gl X "zip") (hm : X.mg "zip" = none) (ha : PA X [a, b] (tMs X.K E ca ms)) (hs : starEach [a, b] X.env = [(false, eval a X.env), (false, eval b X.env)]) (hs2 : starEach [b] X.env = [(false, eval b X.env)]) : PI X (.Tuple elts kk tpos) (.Call (.Name "zip" p) [a, b] [] pos) (tI X.K E ca (iZipT ms)) := by
  refine PI.weak (pi_zip hg hm ha hs hs2) fun σ H P h => ?_
  refine tI_args (f := iZipT) (fun τ c e => by unfold iZipT; rw [e]) (fun τ e => by unfold iZipT; rw [e]) (fun F τ R ts b S e q F' H' xs e1 rs => ?_) h
  unfold iZipT at q
  rw [e] at q
  cases b with
  | true => exact q.elim
  | false =>
    simp only at q
    cases h1 : asL2 ts with
    | none => simp only [h1] at q
    | some lm =>
      obtain ⟨l, m'⟩ := lm
      simp only [h1] at q
      unfold asL2 at h1
      split at h1
      · split at h1
        · cases h1
          rename_i hL
          rw [Bool.and_eq_true] at hL
          obtain ⟨x1, xs1, rfl, r1, rs1⟩ := rs.inv
          obtain ⟨x2, xs2, rfl, r2, rs2⟩ := rs1.inv
          cases rs2.inv0
          obtain ⟨p', ys, rfl, sq, kd⟩ := isL_sq hL.1 r1
          obtain ⟨p2, zs, rfl, sq2, kd2⟩ := isL_sq hL.2 r2
          exact ⟨p', p2, rfl, ⟨ys, sq F' H' (.refl _) e1.fh⟩, ⟨zs, sq2 F' H' (.refl _) e1.fh⟩, q F' H' _ e1 (its_zip sq sq2 kd kd2)⟩
        · cases h1
      · cases h1
end
/-! ### names that get values -/
theorem StR.set {K : PySem.W.Frag} {F H : Hp} {σ : L2.St} {τ : PSt} {R : Nat → Rg} (S : StR K F H σ τ R) {i : Nat} {t : T} {x : V} {A : Rg} (r : Rp K F H t x A) (d : ∀ j a, j ≠ i → R j a → ¬ A a) (hi : i < τ.length) :
    StR K F H (σ.set i (some x)) (τ.set i (some t)) (fun j => if j = i then A else R j) := by
  have hl := S.len
  refine ⟨S.fh, by simp [hl], fun j t' e => ?_, fun j a z => ?_, fun j k a hjk z1 z2 => ?_⟩
  · by_cases hj : j = i
    · subst hj
      rw [List.getElem?_set_self hi] at e
      cases e
      exact ⟨x, List.getElem?_set_self (by omega), by simpa using r⟩
    · rw [List.getElem?_set_ne (Ne.symm hj)] at e ⊢
      obtain ⟨y, e1, r1⟩ := S.rep j t' e
      exact ⟨y, e1, by simpa [hj] using r1⟩
  · by_cases hj : j = i
    · subst hj
      exact ⟨t, List.getElem?_set_self hi⟩
    · simp only [hj, if_false] at z
      obtain ⟨t', e⟩ := S.out j a z
      exact ⟨t', by rw [List.getElem?_set_ne (Ne.symm hj)]; exact e⟩
  · by_cases hj : j = i
    · simp only [hj, if_true] at z1
      have hk : ¬ k = i := fun z => hjk (hj.trans z.symm)
      simp only [hk, if_false] at z2
      exact d k a hk z2 z1
    · simp only [hj, if_false] at z1
      by_cases hk : k = i
      · simp only [hk, if_true] at z2
        exact d j a hj z1 z2
      · simp only [hk, if_false] at z2
        exact S.dis j k a hjk z1 z2
/-- a thing that is shared, to the names of a target -/
def tGM (K : PySem.W.Frag) (b : T → PSt → Option PSt) : TG := fun v σ H Q => ∃ F τ R t τ', StR K F H σ τ R ∧ Rp K F H t v R0 ∧ b t τ = some τ' ∧ ∀ σ' R', StR K F H σ' τ' R' → (∀ i a, R' i a → R i a) → Q σ' H
def tGMs (K : PySem.W.Frag) (b : List T → PSt → Option PSt) : TGs := fun vs σ H Q => ∃ F τ R ts τ', StR K F H σ τ R ∧ Rps K F ts vs ∧ b ts τ = some τ' ∧ ∀ σ' R', StR K F H σ' τ' R' → (∀ i a, R' i a → R i a) → Q σ' H
def bNm (i : Nat) : T → PSt → Option PSt := fun t τ => if i < τ.length then some (τ.set i (some t)) else none
def bNil : List T → PSt → Option PSt
  | [], τ => some τ
  | _ :: _, _ => none
def bCons (b : T → PSt → Option PSt) (bs : List T → PSt → Option PSt) : List T → PSt → Option PSt
  | t :: ts, τ => (match b t τ with
    | some τ' => bs ts τ'
    | none => none)
  | [], _ => none
def bTup (n : Nat) (bs : List T → PSt → Option PSt) : T → PSt → Option PSt
  | .nd _ .tup l, τ => if l.length = n then bs l τ else none
  | .nd _ .rt l, τ => if l.length = n then bs l τ else none
  | _, _ => none
section
variable {X : Cx} {e : Expr} {es : List Expr} {pos : Pos} {b : T → PSt → Option PSt} {bs : List T → PSt → Option PSt}
theorem PG.weak {t t' : TG} (h : PG X e t) (w : ∀ v σ H Q, t' v σ H Q → t v σ H Q) : PG X e t' := fun pins s σ H v u Q I r q => h pins s σ H v u Q I r (w v σ H Q q)
theorem PGs.weak {t t' : TGs} (h : PGs X es t) (w : ∀ v σ H Q, t' v σ H Q → t v σ H Q) : PGs X es t' := fun pins s σ H v u Q I r q => h pins s σ H v u Q I r (w v σ H Q q)
theorem g_nm {i : Nat} {x : Str} (hN : X.N.Nodup) (hi : X.N[i]? = some x) (hx : Loc X.env.scope x) (hf : X.fn x = true ∨ X.env.scope.names.lookup x = some .local) : PG X (.Name x pos) (tGM X.K (bNm i)) := by
  refine PG.weak (pg_name hN hi hx hf) fun v σ H Q h => ?_
  obtain ⟨F, τ, R, t, τ', S, r, e, q⟩ := h
  unfold bNm at e
  split at e
  · cases e
    rename_i hl
    refine q _ _ (S.set r (fun _ _ _ _ z => z.elim) hl) fun j a z => ?_
    by_cases hj : j = i
    · simp only [hj, if_true] at z; exact z.elim
    · simpa [hj] using z
  · cases e
theorem g_nil : PGs X [] (tGMs X.K bNil) := PGs.weak pgs_nil fun v σ H Q h => by
  obtain ⟨F, τ, R, ts, τ', S, r, e, q⟩ := h
  cases ts with
  | nil => cases e; exact ⟨r.inv0, q σ R S fun _ _ z => z⟩
  | cons _ _ => cases e
theorem g_cons (h1 : PG X e (tGM X.K b)) (h2 : PGs X es (tGMs X.K bs)) (hs : (assignEach (e :: es) X.env).map (·.2) = assign e X.env :: (assignEach es X.env).map (·.2)) : PGs X (e :: es) (tGMs X.K (bCons b bs)) := by
  refine PGs.weak (pgs_cons h1 h2 hs) fun v σ H Q h => ?_
  obtain ⟨F, τ, R, ts, τ', S, r, e, q⟩ := h
  cases ts with
  | nil => cases e
  | cons t ts =>
    obtain ⟨x, xs, rfl, r1, rs⟩ := r.inv
    unfold bCons at e
    simp only at e
    cases hb : b t τ with
    | none => rw [hb] at e; cases e
    | some τ1 =>
      rw [hb] at e
      exact ⟨x, xs, rfl, F, τ, R, t, τ1, S, r1.any, hb, fun σ1 R1 S1 w1 => ⟨F, τ1, R1, ts, τ', S1, rs, e, fun σ2 R2 S2 w2 => q σ2 R2 S2 fun i a z => w1 i a (w2 i a z)⟩⟩
theorem g_tup {k n : Nat} (hc : X.calm = true) (h : PGs X es (tGMs X.K bs)) (hn : (assignEach es X.env).length = n) (hst : (assignEach es X.env).findIdx? (·.1) = none) : PG X (.Tuple es k pos) (tGM X.K (bTup n bs)) := by
  refine PG.weak (pg_tup hc h hn hst) fun v σ H Q h => ?_
  obtain ⟨F, τ, R, t, τ', S, r, e, q⟩ := h
  have key : ∀ {o : Bool} {kd : Kd} {l : List T}, t = .nd o kd l → (kd = .tup ∨ kd = .rt) → (if l.length = n then bs l τ else none) = some τ' → gTup X.K n (tGMs X.K bs) v σ H Q := by
    intro o kd l et hk e'
    subst et
    split at e'
    · rename_i hl
      obtain ⟨p, xs, rfl, _, nn, kid⟩ := node_of (r.any (H' := F))
      have sq : SqT X.K H p xs := by
        rcases hk with rfl | rfl
        · exact SqT.of (S.fh _ _ nn)
        · exact seqT_same S.fh nn
      exact ⟨p, xs, rfl, sq, by rw [← kid.1]; exact hl, F, τ, R, l, τ', S, kid, e', q⟩
    · cases e'
  unfold bTup at e
  split at e
  · exact key rfl (.inl rfl) e
  · exact key rfl (.inr rfl) e
  · cases e
end
end Pu

set_option Elab.async false
set_option linter.all false
set_option maxRecDepth 100000
namespace Pu
open PySem PySem.Spec PyProof.Rows L2 Zw Zx

/-! ### comprehensions, by plain values -/
def E00 : L2.St → XK := fun _ => E0
/-- the turns of a comprehension: target, test, element -/
def lcGo (b : T → PSt → Option PSt) (mt me : PSt → Option Rs) : List T → PSt → Option (List T)
  | [], _ => some []
  | t :: ts, τ => (match b t τ with
    | some τ1 => (match mt τ1 with
      | some (.v (.bl true) _) => (match me τ1 with
        | some (.v v false) => (match lcGo b mt me ts τ1 with
          | some l => some (v :: l)
          | none => none)
        | _ => none)
      | some (.v (.bl false) _) => lcGo b mt me ts τ1
      | _ => none)
    | none => none)
def capT (τ : PSt) (j : Nat) : Option T := match τ[j]? with
  | some (some t) => if t.sh then some t else none
  | _ => none
def blk (n : Nat) (caps : List Nat) (τ : PSt) : PSt := List.replicate n none ++ caps.map (capT τ)
def capV (σ : L2.St) (j : Nat) : Option V := match σ[j]? with
  | some (some v) => some v
  | _ => none
def blkV (n : Nat) (caps : List Nat) (σ : L2.St) : L2.St := List.replicate n none ++ caps.map (capV σ)
def mLC (n : Nat) (caps : List Nat) (mi : PSt → Option RsL) (b : T → PSt → Option PSt) (mt me : PSt → Option Rs) : PSt → Option Rs := fun τ => match mi τ with
  | some (.v ts _) => if ts.length ≤ lim then (match lcGo b mt me ts (blk n caps τ) with
    | some l => some (.v (.own l) false)
    | none => none) else none
  | some (.x c) => some (.x c)
  | none => none
theorem blk_st {K : PySem.W.Frag} {F H : Hp} {σ : L2.St} {τ : PSt} {R : Nat → Rg} (S : StR K F H σ τ R) (n : Nat) (caps : List Nat) : StR K F H (blkV n caps σ) (blk n caps τ) (fun _ => R0) := by
  refine ⟨S.fh, by simp [blkV, blk], fun i t e => ?_, fun _ _ z => z.elim, fun _ _ _ _ z => z.elim⟩
  unfold blk at e
  unfold blkV
  by_cases hi : i < n
  · rw [List.getElem?_append_left (by simpa using hi), List.getElem?_replicate, if_pos hi] at e
    cases e
  · rw [List.getElem?_append_right (by simp; omega), List.getElem?_map] at e ⊢
    simp only [List.length_replicate] at e ⊢
    cases hc : caps[i - n]? with
    | none => rw [hc] at e; cases e
    | some j =>
      rw [hc] at e
      simp only [Option.map_some] at e ⊢
      have e' : capT τ j = some t := Option.some.inj e
      unfold capT at e'
      split at e'
      · rename_i t' ht
        split at e'
        · cases e'
          rename_i hs
          obtain ⟨x, ex, r⟩ := S.rep j _ ht
          refine ⟨x, ?_, r.move hs (.refl _)⟩
          unfold capV
          rw [ex]
        · cases e'
      · cases e'
theorem snoc_tot {l : List T} {Rr : Nat → Rg} {B : Rg} {a : Addr} (h : tot (fun j => if j = l.length then B else Rr j) a) : tot Rr a ∨ B a := by
  obtain ⟨j, z⟩ := h
  by_cases hj : j = l.length
  · simp only [hj, if_true] at z; exact .inr z
  · simp only [hj, if_false] at z; exact .inl ⟨j, z⟩
section
variable {X : Cx} {E : L2.St → XK} {ca : Str → Value} {σ : L2.St} {H : Hp} {K : PySem.W.Frag} {n : Nat} {caps : List Nat} {mi : PSt → Option RsL} {b : T → PSt → Option PSt} {mt me : PSt → Option Rs}
/-- the reading of the block out of its meaning -/
theorem tM_lc {Q : VK} (h : tM K E ca (mLC n caps mi b mt me) σ H Q) : tLC2 (blkV n caps) (tI K E ca mi) (tGM K b) (tMB K E00 ca mt) (tM K E00 ca me) σ H Q := by
  obtain ⟨F, τ, R, S, q⟩ := h
  refine ⟨F, τ, R, S, ?_⟩
  unfold mLC at q
  cases hi : mi τ with
  | none => simp only [hi] at q
  | some r =>
    simp only [hi] at q
    cases r with
    | x c => exact q
    | v ts bb =>
      intro F1 H1 J e1 its
      by_cases hz' : ¬ ts.length ≤ lim
      · simp only [hz', if_false] at q
      have hz : ts.length ≤ lim := Decidable.not_not.mp hz'
      simp only [hz, if_true] at q
      cases hg : lcGo b mt me ts (blk n caps τ) with
      | none => simp only [hg] at q
      | some res =>
        simp only [hg] at q
        have S1 := S.ext e1
        refine ⟨fun i ys st H' => ∃ (F' : Hp) (τ' : PSt) (l l2 : List T) (Rr : Nat → Rg), Ext F1 H1 F' H' (tot Rr) ∧ RpO K F' H' l ys Rr ∧ StR K F' H' st τ' (fun _ => R0) ∧ i ≤ ts.length ∧ lcGo b mt me (ts.drop i) τ' = some l2 ∧ l ++ l2 = res ∧ l.length ≤ i, ts.length, by rw [← lim_eq]; exact hz, ?_, ?_⟩
        · exact ⟨F1, blk n caps τ, [], res, fun _ => R0, (Ext.refl S1.fh).mono fun a ⟨_, z⟩ => z.elim, .nil, blk_st S1 n caps, Nat.zero_le _, by simpa using hg, rfl, Nat.le_refl _⟩
        · rintro i ys st H' ⟨F', τ', l, l2, Rr, e2, ro, S2, hle, hgo, hres, hll⟩
          have hly := ro.len
          refine ⟨by omega, hle, ?_⟩
          obtain ⟨i1, i2⟩ := its i F' H' e2.ff e2.fh
          by_cases hlt : i < ts.length
          · refine .inr ⟨hlt, ?_⟩
            obtain ⟨go, yld⟩ := i1 _ (List.getElem?_eq_getElem hlt)
            refine ⟨go, fun x H'' y => ?_⟩
            obtain ⟨F'', e3, rx⟩ := yld x H'' y
            have S3 := S2.ext e3
            rw [List.drop_eq_getElem_cons hlt] at hgo
            unfold lcGo at hgo
            cases hb : b ts[i] τ' with
            | none => simp only [hb] at hgo; cases hgo
            | some τ1 =>
              simp only [hb] at hgo
              refine ⟨F'', τ', _, ts[i], τ1, S3, rx, hb, fun st1 R1 S4 hR1 => ?_⟩
              have R1e : R1 = fun _ => R0 := funext fun j => funext fun a => propext ⟨fun z => hR1 j a z, fun z => z.elim⟩
              subst R1e
              refine ⟨F'', τ1, _, S4, ?_⟩
              cases ht : mt τ1 with
              | none => simp only [ht] at hgo; cases hgo
              | some rt =>
                simp only [ht] at hgo
                cases rt with
                | x c => cases hgo
                | v vt bt =>
                  cases vt with
                  | bl k =>
                    intro F4 H4 e4
                    have S5 := S4.ext e4
                    have e24 := e2.trans ((e3.trans0 e4).mono fun _ z => z)
                    cases k with
                    | false =>
                      refine iteF ?_
                      simp only at hgo
                      exact ⟨F4, τ1, l, l2, Rr, e24.mono fun a z => .inl z, (ro.ext e3).ext e4, S5, hlt, hgo, hres, by omega⟩
                    | true =>
                      refine iteT ⟨F4, τ1, _, S5, ?_⟩
                      simp only at hgo
                      cases he : me τ1 with
                      | none => simp only [he] at hgo; cases hgo
                      | some re =>
                        simp only [he] at hgo
                        cases re with
                        | x c => cases hgo
                        | v ve be =>
                          cases be with
                          | true => cases hgo
                          | false =>
                            simp only at hgo
                            cases hr : lcGo b mt me (ts.drop (i + 1)) τ1 with
                            | none => simp only [hr] at hgo; cases hgo
                            | some l3 =>
                              simp only [hr] at hgo
                              cases hgo
                              intro F5 H5 y B e5 ry
                              have ry' : Rp K F5 H5 ve y B := ry
                              have ro4 := (ro.ext e3).ext e4
                              have ro5 := ro4.ext e5
                              refine ⟨F5, τ1, l ++ [ve], l3, _, (e24.trans e5).mono ?_, ro5.snoc ry' (fun j a z1 z2 => ro4.apart e5 z2 j z1), S5.ext e5, hlt, hr, by simpa using hres, by simp; omega⟩
                              intro a z
                              rcases snoc_tot z with z | z
                              · exact .inl (.inl z)
                              · exact .inr z
                  | _ => cases hgo
          · have hi' : i = ts.length := by omega
            subst hi'
            refine .inl ⟨i2 rfl, fun p hp => ?_⟩
            rw [List.drop_length] at hgo
            unfold lcGo at hgo
            cases hgo
            rw [List.append_nil] at hres
            subst hres
            obtain ⟨rl, e3⟩ := ro.list e2.fh hp
            refine q F' _ _ _ (((e1.trans0 e2).trans e3).mono ?_) rl
            rintro a (z | ⟨j, z⟩)
            · exact .inr z
            · exact .inl ⟨j, z⟩
/-- static facts of a block in a body -/
structure BlkOk (X : Cx) (scope : Scope) (N' : List Str) (n : Nat) (caps : List Nat) : Prop where
  kind : scope.kind = .function
  names : ∀ y ∈ scope.names, y.2 = .local → scope.names.lookup y.1 = some .local
  len : N'.length = n + caps.length
  cap : ∀ (k j : Nat), caps[k]? = some j → ∃ y, X.N[j]? = some y ∧ N'[n + k]? = some y ∧ scope.names.lookup y = some .free ∧ (y, NameKind.cell) ∉ scope.names
  free : ∀ y ∈ scope.names, y.2 = .free → scope.names.lookup y.1 = some .free ∧ (X.env.scope.names.lookup y.1 = some .cell ∨ X.env.scope.names.lookup y.1 = some .free)
theorem lookup_relabel {env : Env} (y : Str) : ∀ (names : List (Str × NameKind)), (names.map fun (n, k) => if (k == NameKind.free && env.scope.kind == .function && env.kindOf n == some .cell) then (n, NameKind.cell) else (n, k)).lookup y =
    (names.lookup y).map fun k => if (k == NameKind.free && env.scope.kind == .function && env.kindOf y == some .cell) then .cell else k
  | [] => rfl
  | (n, k) :: r => by
    rw [List.map_cons]
    cases hy : y == n with
    | true =>
      have e : y = n := eq_of_beq hy
      subst e
      by_cases hc : (k == NameKind.free && env.scope.kind == .function && env.kindOf y == some .cell) = true
      · simp only [hc, if_true, List.lookup_cons, beq_self_eq_true, Option.map_some]
      · simp only [hc, List.lookup_cons, beq_self_eq_true, Option.map_some]
        simp
    | false =>
      by_cases hc : (k == .free && env.scope.kind == .function && env.kindOf n == some .cell) = true
      · simp only [hc, if_true, List.lookup_cons, hy]
        exact lookup_relabel y r
      · simp only [hc, List.lookup_cons, hy]
        simp only [Bool.false_eq_true, if_false, List.lookup_cons, hy]
        exact lookup_relabel y r
theorem relabel_lookup (scope : Scope) (env : Env) (y : Str) : (relabel scope env).names.lookup y = (scope.names.lookup y).map fun k => if (k == NameKind.free && env.scope.kind == .function && env.kindOf y == some .cell) then .cell else k := lookup_relabel y scope.names
theorem lookup_mem {y : Str} {k : NameKind} : ∀ {names : List (Str × NameKind)}, names.lookup y = some k → (y, k) ∈ names := fun h => PySem.mem_of_lookup h
/-- what the block's proof asks of its context -/
theorem blk_go {scope : Scope} {N' : List Str} (B : BlkOk X scope N' n caps) {pins : List (Addr × Obj)} {s : Shared} (I : Inv X pins σ H s) :
    ∃ cl, closureFor scope X.env = pure cl ∧ (∀ y c, cl.lookup y = some c → X.env.cells.lookup y = some c) ∧ (∀ y, (relabel scope X.env).names.lookup y = some .cell ∨ (relabel scope X.env).names.lookup y = some .free → (y, NameKind.cell) ∈ scope.names ∨ ∃ c, cl.lookup y = some c) ∧
      (∀ (σ : L2.St) (i : Nat) (y : Str) (v : V), N'[i]? = some y → (blkV n caps σ)[i]? = some (some v) → (y, NameKind.cell) ∉ scope.names) ∧
      (∀ σ : L2.St, σ.length = X.N.length → (blkV n caps σ).length = N'.length) ∧
      (∀ (σ : L2.St) (i : Nat) (y : Str) (v : V), N'[i]? = some y → (blkV n caps σ)[i]? = some (some v) → ((relabel scope X.env).names.lookup y = some .cell ∨ (relabel scope X.env).names.lookup y = some .free) ∧ ∃ j : Nat, X.N[j]? = some y ∧ σ[j]? = some (some v) ∧ Vis X.env.scope y ∧ X.env.kindOf y ≠ some .local) := by
  obtain ⟨cl, h1, h2, h3⟩ := closure_for scope X.env fun y hy hf => I.ok.has y.1 (B.free y hy hf).2
  have at1 : ∀ (σ : L2.St) (i : Nat) (y : Str) (v : V), N'[i]? = some y → (blkV n caps σ)[i]? = some (some v) → ∃ j : Nat, X.N[j]? = some y ∧ σ[j]? = some (some v) ∧ scope.names.lookup y = some .free ∧ (y, NameKind.cell) ∉ scope.names := by
    intro σ i y v e1 e2
    unfold blkV at e2
    by_cases hi : i < n
    · rw [List.getElem?_append_left (by simpa using hi), List.getElem?_replicate, if_pos hi] at e2
      cases e2
    · rw [List.getElem?_append_right (by simp; omega), List.getElem?_map] at e2
      simp only [List.length_replicate] at e2
      cases hc : caps[i - n]? with
      | none => rw [hc] at e2; cases e2
      | some j =>
        rw [hc] at e2
        simp only [Option.map_some] at e2
        have e' : capV σ j = some v := Option.some.inj e2
        obtain ⟨y', g1, g2, g3, g4⟩ := B.cap (i - n) j hc
        have en : n + (i - n) = i := by omega
        rw [en, e1] at g2
        cases g2
        have sv : σ[j]? = some (some v) := by
          unfold capV at e'
          split at e'
          · rename_i v' hv
            cases e'
            exact hv
          · cases e'
        exact ⟨j, g1, sv, g3, g4⟩
  refine ⟨cl, h1, h2, fun y hy => ?_, fun σ i y v e1 e2 => ?_, fun σ hσ => by simp [blkV, B.len], fun σ i y v e1 e2 => ?_⟩
  · cases hk : scope.names.lookup y with
    | none =>
      rw [relabel_lookup, hk] at hy
      rcases hy with hy | hy <;> cases hy
    | some k =>
      by_cases hf : k = .free
      · subst hf
        exact .inr (h3 _ (lookup_mem hk) rfl)
      · rw [relabel_lookup, hk] at hy
        simp only [Option.map_some] at hy
        have hf' : (k == NameKind.free) = false := beq_eq_false_iff_ne.mpr hf
        simp only [hf', Bool.false_and, Bool.false_eq_true, if_false] at hy
        rcases hy with hy | hy
        · cases hy
          exact .inl (lookup_mem hk)
        · cases hy
          exact absurd rfl hf
  · exact (at1 σ i y v e1 e2).choose_spec.2.2.2
  · obtain ⟨j, g1, sv, g3, g4⟩ := at1 σ i y v e1 e2
    have fr := B.free _ (lookup_mem g3) rfl
    refine ⟨?_, j, g1, sv, ?_, ?_⟩
    · rw [relabel_lookup, g3]
      simp only [Option.map_some]
      by_cases hc2 : (NameKind.free == NameKind.free && X.env.scope.kind == .function && X.env.kindOf y == some .cell) = true
      · exact .inl (by rw [if_pos hc2])
      · exact .inr (by rw [if_neg hc2])
    · rcases fr.2 with z | z
      · exact .inr (.inl z)
      · exact .inr (.inr z)
    · intro z
      have z' : X.env.scope.names.lookup y = some .local := z
      rcases fr.2 with w | w
      · rw [z'] at w; cases w
      · rw [z'] at w; cases w
theorem r_lcV {elt iter tg : Expr} {ifs : List Expr} {scope : Scope} {pos : Pos} {N' : List Str} (B : BlkOk X scope N' n caps) (hc : X.calm = true) (hi : PI X tg iter (tI X.K E ca mi))
    (hg : ∀ cl C s₀ H₀ ex, PG (compCx2 X scope cl N' C s₀ H₀ ex) tg (tGM X.K b)) (ht : ∀ cl C s₀ H₀ ex, PTs (compCx2 X scope cl N' C s₀ H₀ ex) ifs (tMB X.K E00 ca mt)) (he : ∀ cl C s₀ H₀ ex, PE (compCx2 X scope cl N' C s₀ H₀ ex) elt (tM X.K E00 ca me))
    (hs : ∀ x, foldedSetIterable iter X.env x = pure x) : PE X (.ListComp elt [⟨tg, iter, ifs, 0⟩] scope pos) (tM X.K E ca (mLC n caps mi b mt me)) := by
  intro pins s σ H Q I h
  obtain ⟨cl, h1, h2, h3, h4, h5, h6⟩ := blk_go B I
  exact lc_val (blkV n caps) h1 B.kind B.names h2 h3 h4 h5 h6 hc hi hg ht he hs I (tM_lc h)
/-- its list in a name -/
theorem r_lcS {elt iter tg : Expr} {ifs : List Expr} {scope : Scope} {pos pos2 pos' : Pos} {N' : List Str} (B : BlkOk X scope N' n caps) (hc : X.calm = true) (hi : PI X tg iter (tI X.K E ca mi))
    (hg : ∀ cl C s₀ H₀ ex, PG (compCx2 X scope cl N' C s₀ H₀ ex) tg (tGM X.K b)) (ht : ∀ cl C s₀ H₀ ex, PTs (compCx2 X scope cl N' C s₀ H₀ ex) ifs (tMB X.K E00 ca mt)) (he : ∀ cl C s₀ H₀ ex, PE (compCx2 X scope cl N' C s₀ H₀ ex) elt (tM X.K E00 ca me))
    (hs : ∀ x, foldedSetIterable iter X.env x = pure x) {i : Nat} {x : Str} (hN : X.N.Nodup) (hix : X.N[i]? = some x) (hx : X.env.scope.names.lookup x = some .local)
    (hsw : swapsWith (.ListComp elt [⟨tg, iter, ifs, 0⟩] scope pos) (some (.Name x pos')) pos2.line X.env = pure true) : PS X (.Assign [.Name x pos'] (.ListComp elt [⟨tg, iter, ifs, 0⟩] scope pos) pos2) (fun D σ H => tM X.K E ca (mLC n caps mi b mt me) σ H fun v H1 => D.nx (σ.set i (some v)) H1) := by
  intro pins s σ H D I h
  obtain ⟨cl, h1, h2, h3, h4, h5, h6⟩ := blk_go B I
  exact lc_set (blkV n caps) h1 B.kind B.names h2 h3 h4 h5 h6 hc hi hg ht he hs hN hix hx hsw I (tM_lc h)
end
end Pu

set_option Elab.async false
set_option linter.all false
set_option maxRecDepth 100000
namespace Pu
open PySem PySem.Spec PyProof.Rows L2 Zw Zx

/-! ### statements, by plain values -/
inductive Out where
  | nx (τ : PSt) | rt (t : T) | bk (τ : PSt) | ct (τ : PSt) | xc (c : Str) (τ : PSt)
/-- a step of statements: only what names have alone may change -/
structure Stp (F H : Hp) (O : Rg) (F' H' : Hp) (O' : Rg) : Prop where
  ff : Same F F'
  fh : Same F' H'
  kp : ∀ b u, ¬ O b → H b = some u → H' b = some u
  nw : ∀ b, O' b → O b ∨ H b = none
  nf : ∀ b u, F' b = some u → F b = some u ∨ O b ∨ H b = none
section
variable {F H F1 H1 F2 H2 : Hp} {O O1 O2 B : Rg} {R : Nat → Rg}
theorem Stp.refl (s : Same F H) : Stp F H O F H O := ⟨.refl _, s, fun _ _ _ e => e, fun _ z => .inl z, fun _ _ e => .inl e⟩
theorem Stp.trans (a : Stp F H O F1 H1 O1) (b : Stp F1 H1 O1 F2 H2 O2) : Stp F H O F2 H2 O2 where
  ff := a.ff.trans b.ff
  fh := b.fh
  kp := fun x u n e => b.kp x u (fun z => (a.nw x z).elim n fun w => by rw [e] at w; cases w) (a.kp x u n e)
  nw := fun x z => (b.nw x z).elim (a.nw x) fun w => by
    by_cases hO : O x
    · exact .inl hO
    · cases e : H x with
      | none => exact .inr rfl
      | some u => rw [a.kp x u hO e] at w; cases w
  nf := fun x u e => (b.nf x u e).elim (a.nf x u) fun z => .inr (z.elim (a.nw x) fun w => by
    by_cases hO : O x
    · exact .inl hO
    · cases e' : H x with
      | none => exact .inr rfl
      | some u' => rw [a.kp x u' hO e'] at w; cases w)
theorem Stp.mono (a : Stp F H O F1 H1 O1) (h : ∀ x, O2 x → O1 x) : Stp F H O F1 H1 O2 := ⟨a.ff, a.fh, a.kp, fun x z => a.nw x (h x z), a.nf⟩
theorem Ext.stp (e : Ext F H F1 H1 B) : Stp F H O F1 H1 (fun x => O x ∨ B x) := ⟨e.ff, e.fh, fun b u _ q => e.hh b u q, fun b z => z.elim .inl fun z => .inr (e.nb b z), fun b u q => (e.nf b u q).elim .inl fun z => .inr (.inr z)⟩
theorem Ext.stp0 (e : Ext F H F1 H1 B) : Stp F H O F1 H1 O := e.stp.mono fun _ z => .inl z
end
section
variable (K : PySem.W.Frag) (E : L2.St → XK) (ca : Str → Value)
def tS (m : PSt → Option Out) : TS := fun D σ H => ∃ F τ R, StR K F H σ τ R ∧ match m τ with
  | some (.nx τ') => ∀ F' H' σ' R', Stp F H (tot R) F' H' (tot R') → StR K F' H' σ' τ' R' → D.nx σ' H'
  | some (.bk τ') => ∀ F' H' σ' R', Stp F H (tot R) F' H' (tot R') → StR K F' H' σ' τ' R' → D.bk σ' H'
  | some (.ct τ') => ∀ F' H' σ' R', Stp F H (tot R) F' H' (tot R') → StR K F' H' σ' τ' R' → D.ct σ' H'
  | some (.rt t) => ∀ F' H' x B, Stp F H (tot R) F' H' B → Rp K F' H' t x B → D.rt x H'
  | some (.xc c τ') => ∀ F' H' σ' R', Stp F H (tot R) F' H' (tot R') → StR K F' H' σ' τ' R' → E σ' (ca c) none H'
  | none => False
end
def sSeq (m n : PSt → Option Out) : PSt → Option Out := fun τ => match m τ with
  | some (.nx τ') => n τ'
  | r => r
def sNx : PSt → Option Out := fun τ => some (.nx τ)
def sBk : PSt → Option Out := fun τ => some (.bk τ)
def sCt : PSt → Option Out := fun τ => some (.ct τ)
def sExp (m : PSt → Option Rs) : PSt → Option Out := fun τ => match m τ with
  | some (.v _ _) => some (.nx τ)
  | some (.x c) => some (.xc c τ)
  | none => none
def sRet (m : PSt → Option Rs) : PSt → Option Out := fun τ => match m τ with
  | some (.v t _) => some (.rt t)
  | some (.x c) => some (.xc c τ)
  | none => none
def sRetN : PSt → Option Out := fun _ => some (.rt .non)
def sSet (m : PSt → Option Rs) (b : T → PSt → Option PSt) : PSt → Option Out := fun τ => match m τ with
  | some (.v t false) => (match b t.share τ with
    | some τ' => some (.nx τ')
    | none => none)
  | some (.v _ true) => none
  | some (.x c) => some (.xc c τ)
  | none => none
def sOwn (i : Nat) (m : PSt → Option Rs) : PSt → Option Out := fun τ => match m τ with
  | some (.v t false) => if i < τ.length then some (.nx (τ.set i (some t))) else none
  | some (.v _ true) => none
  | some (.x c) => some (.xc c τ)
  | none => none
def sFrz (i : Nat) : PSt → Option Out := fun τ => match τ[i]? with
  | some (some t) => some (.nx (τ.set i (some t.share)))
  | _ => some (.nx τ)
def sIf (c : PSt → Option Rs) (a b : PSt → Option Out) : PSt → Option Out := fun τ => match c τ with
  | some (.v (.bl true) _) => a τ
  | some (.v (.bl false) _) => b τ
  | some (.x c) => some (.xc c τ)
  | _ => none
def forGo (b : T → PSt → Option PSt) (body : PSt → Option Out) : List T → PSt → Option Out
  | [], τ => some (.nx τ)
  | t :: ts, τ => (match b t τ with
    | some τ1 => (match body τ1 with
      | some (.nx τ2) => forGo b body ts τ2
      | some (.ct τ2) => forGo b body ts τ2
      | some (.bk τ2) => some (.nx τ2)
      | r => r)
    | none => none)
def sFor (mi : PSt → Option RsL) (b : T → PSt → Option PSt) (body : PSt → Option Out) : PSt → Option Out := fun τ => match mi τ with
  | some (.v ts _) => forGo b body ts τ
  | some (.x c) => some (.xc c τ)
  | none => none
def whN (c : PSt → Option Rs) (body : PSt → Option Out) : Nat → PSt → Option Out
  | 0, _ => none
  | n + 1, τ => (match c τ with
    | some (.v (.bl true) _) => (match body τ with
      | some (.nx τ2) => whN c body n τ2
      | some (.ct τ2) => whN c body n τ2
      | some (.bk τ2) => some (.nx τ2)
      | r => r)
    | some (.v (.bl false) _) => some (.nx τ)
    | some (.x c) => some (.xc c τ)
    | _ => none)
open Classical in
noncomputable def sWh (c : PSt → Option Rs) (body : PSt → Option Out) : PSt → Option Out := fun τ => if h : ∃ n, (whN c body n τ).isSome = true then whN c body h.choose τ else none
theorem sWh_some {c : PSt → Option Rs} {body : PSt → Option Out} {τ : PSt} {o : Out} (h : sWh c body τ = some o) : ∃ n, whN c body n τ = some o := by
  unfold sWh at h
  split at h
  · exact ⟨_, h⟩
  · cases h
theorem whN_more {c : PSt → Option Rs} {body : PSt → Option Out} : ∀ {n : Nat} {τ : PSt} {o : Out}, whN c body n τ = some o → whN c body (n + 1) τ = some o
  | 0, τ, o, h => by cases h
  | n + 1, τ, o, h => by
    unfold whN at h ⊢
    split at h
    · split at h
      · exact whN_more h
      · exact whN_more h
      · exact h
      · exact h
    · exact h
    · exact h
    · cases h
theorem whN_le {c : PSt → Option Rs} {body : PSt → Option Out} {n m : Nat} {τ : PSt} {o : Out} (h : whN c body n τ = some o) (hm : n ≤ m) : whN c body m τ = some o := by
  induction hm with
  | refl => exact h
  | step _ ih => exact whN_more ih
theorem sWh_of {c : PSt → Option Rs} {body : PSt → Option Out} {n : Nat} {τ : PSt} {o : Out} (h : whN c body n τ = some o) : sWh c body τ = some o := by
  unfold sWh
  have hx : ∃ n, (whN c body n τ).isSome = true := ⟨n, by rw [h]; rfl⟩
  rw [dif_pos hx]
  obtain ⟨o', e⟩ := Option.isSome_iff_exists.mp hx.choose_spec
  have e1 := whN_le e (Nat.le_max_left hx.choose n)
  have e2 := whN_le h (Nat.le_max_right hx.choose n)
  rw [e1] at e2
  rw [e, ← e2]
section
variable {X : Cx} {E : L2.St → XK} {ca : Str → Value} {σ : L2.St} {H : Hp} {K : PySem.W.Frag} {m mk mc : PSt → Option Rs} {ms mi : PSt → Option RsL} {b : T → PSt → Option PSt} {u w : PSt → Option Out} {D : Ends} {e c tg iter : Expr} {st : Stmt} {rest body sa sb : List Stmt} {pos pos' : Pos}
theorem PS.weak {t t' : TS} (h : PS X st t) (w : ∀ D σ H, t' D σ H → t D σ H) : PS X st t' := fun pins s σ H D I q => h pins s σ H D I (w D σ H q)
theorem PSs.weak {t t' : TS} (h : PSs X rest t) (w : ∀ D σ H, t' D σ H → t D σ H) : PSs X rest t' := fun pins s σ H D I q => h pins s σ H D I (w D σ H q)
theorem tS_seq (h : tS K E ca (sSeq u w) D σ H) : tSeq (tS K E ca u) (tS K E ca w) D σ H := by
  obtain ⟨F, τ, R, S, q⟩ := h
  refine ⟨F, τ, R, S, ?_⟩
  unfold sSeq at q
  cases hm : u τ with
  | none => simp only [hm] at q
  | some o =>
    simp only [hm] at q
    cases o with
    | nx τ' =>
      intro F1 H1 σ1 R1 s1 S1
      refine ⟨F1, τ', R1, S1, ?_⟩
      simp only at q
      cases hw : w τ' with
      | none => simp only [hw] at q
      | some o =>
        simp only [hw] at q
        cases o with
        | nx _ => exact fun F' H' σ' R' s S => q F' H' σ' R' (s1.trans s) S
        | bk _ => exact fun F' H' σ' R' s S => q F' H' σ' R' (s1.trans s) S
        | ct _ => exact fun F' H' σ' R' s S => q F' H' σ' R' (s1.trans s) S
        | rt _ => exact fun F' H' x B s r => q F' H' x B (s1.trans s) r
        | xc _ _ => exact fun F' H' σ' R' s S => q F' H' σ' R' (s1.trans s) S
    | rt _ => exact q
    | bk _ => exact q
    | ct _ => exact q
    | xc _ _ => exact q
theorem s_nil : PSs X [] (tS X.K E ca sNx) := PSs.weak pss_nil fun D σ H h => by
  obtain ⟨F, τ, R, S, q⟩ := h
  exact q F H σ R (Stp.refl S.fh) S
theorem s_cons (h1 : PS X st (tS X.K E ca u)) (h2 : PSs X rest (tS X.K E ca w)) : PSs X (st :: rest) (tS X.K E ca (sSeq u w)) := PSs.weak (pss_cons h1 h2) fun D σ H h => tS_seq h
theorem s_one (h1 : PS X st (tS X.K E ca u)) : PSs X [st] (tS X.K E ca u) := pss_one h1
theorem s_pass : PS X (.Pass pos) (tS X.K E ca sNx) := PS.weak ps_pass fun D σ H h => by
  obtain ⟨F, τ, R, S, q⟩ := h
  exact q F H σ R (Stp.refl S.fh) S
theorem s_break : PS X (.Break pos) (tS X.K E ca sBk) := PS.weak ps_break fun D σ H h => by
  obtain ⟨F, τ, R, S, q⟩ := h
  exact q F H σ R (Stp.refl S.fh) S
theorem s_continue : PS X (.Continue pos) (tS X.K E ca sCt) := PS.weak ps_continue fun D σ H h => by
  obtain ⟨F, τ, R, S, q⟩ := h
  exact q F H σ R (Stp.refl S.fh) S
/-- a ghost: a name's own thing is shared from here on -/
theorem tS_frz {i : Nat} (h : tS K E ca (sSeq (sFrz i) w) D σ H) : tS K E ca w D σ H := by
  obtain ⟨F, τ, R, S, q⟩ := h
  unfold sSeq sFrz at q
  cases ht : τ[i]? with
  | none =>
    rw [ht] at q
    exact ⟨F, τ, R, S, q⟩
  | some ot =>
    rw [ht] at q
    cases ot with
    | none => exact ⟨F, τ, R, S, q⟩
    | some t =>
      simp only at q
      obtain ⟨x, ex, r⟩ := S.rep i t ht
      have hi : i < τ.length := (List.getElem?_eq_some_iff.mp ht).1
      have n : ∀ a, R i a → F a = none := fun a z => (r.dom z).1
      have S0 : StR K (frz F H (R i)) H σ (τ.set i (some t.share)) (fun j => if j = i then R0 else R j) := by
        refine ⟨frz_fh S.fh, by simpa using S.len, fun j t' e => ?_, fun j a z => ?_, fun j k a hjk z1 z2 => ?_⟩
        · by_cases hj : j = i
          · subst hj
            rw [List.getElem?_set_self hi] at e
            cases e
            exact ⟨x, ex, by simpa using r.share (frz_ff n) fun a u z q => by rw [frz_in z]; exact q⟩
          · rw [List.getElem?_set_ne (Ne.symm hj)] at e
            obtain ⟨y, e1, r1⟩ := S.rep j t' e
            refine ⟨y, e1, ?_⟩
            simp only [hj, if_false]
            exact r1.frame (frz_ff n) fun a z => ⟨rfl, by
              rw [frz_out (fun z' => S.dis j i a hj z z')]
              exact (r1.dom z).1⟩
        · by_cases hj : j = i
          · simp only [hj, if_true] at z; exact z.elim
          · simp only [hj, if_false] at z
            obtain ⟨t', e⟩ := S.out j a z
            exact ⟨t', by rw [List.getElem?_set_ne (Ne.symm hj)]; exact e⟩
        · by_cases hj : j = i
          · simp only [hj, if_true] at z1; exact z1.elim
          · by_cases hk : k = i
            · simp only [hk, if_true] at z2; exact z2.elim
            · simp only [hj, if_false] at z1
              simp only [hk, if_false] at z2
              exact S.dis j k a hjk z1 z2
      have st0 : Stp F H (tot R) (frz F H (R i)) H (tot fun j => if j = i then R0 else R j) := by
        refine ⟨frz_ff n, frz_fh S.fh, fun _ _ _ e => e, fun b ⟨j, z⟩ => ?_, fun b u e => ?_⟩
        · by_cases hj : j = i
          · simp only [hj, if_true] at z; exact z.elim
          · simp only [hj, if_false] at z; exact .inl ⟨j, z⟩
        · by_cases hb : R i b
          · exact .inr (.inl ⟨i, hb⟩)
          · rw [frz_out hb] at e; exact .inl e
      refine ⟨_, _, _, S0, ?_⟩
      cases hw : w (τ.set i (some t.share)) with
      | none => simp only [hw] at q
      | some o =>
        simp only [hw] at q
        cases o with
        | nx _ => exact fun F' H' σ' R' s S => q F' H' σ' R' (st0.trans s) S
        | bk _ => exact fun F' H' σ' R' s S => q F' H' σ' R' (st0.trans s) S
        | ct _ => exact fun F' H' σ' R' s S => q F' H' σ' R' (st0.trans s) S
        | rt _ => exact fun F' H' x B s r => q F' H' x B (st0.trans s) r
        | xc _ _ => exact fun F' H' σ' R' s S => q F' H' σ' R' (st0.trans s) S
theorem s_frz {i : Nat} (h : PSs X rest (tS X.K E ca w)) : PSs X rest (tS X.K E ca (sSeq (sFrz i) w)) := PSs.weak h fun D σ H h => tS_frz h
theorem s_exp (he : PE X e (tM X.K E ca m)) (hs : swapsWith e none pos.line X.env = pure false) : PS X (.Expr e pos) (tS X.K E ca (sExp m)) := by
  refine PS.weak (ps_expr he hs) fun D σ H h => ?_
  obtain ⟨F, τ, R, S, q⟩ := h
  refine ⟨F, τ, R, S, ?_⟩
  unfold sExp at q
  cases hm : m τ with
  | none => simp only [hm] at q
  | some r =>
    simp only [hm] at q
    cases r with
    | x c => exact fun F' H' e => q F' H' σ R e.stp0 (S.ext e)
    | v t bb => exact fun F' H' x B e g => q F' H' σ R e.stp0 (S.ext e)
theorem s_ret (he : PE X e (tM X.K E ca m)) : PS X (.Return (some e) pos) (tS X.K E ca (sRet m)) := by
  refine PS.weak (ps_ret he) fun D σ H h => ?_
  obtain ⟨F, τ, R, S, q⟩ := h
  refine ⟨F, τ, R, S, ?_⟩
  unfold sRet at q
  cases hm : m τ with
  | none => simp only [hm] at q
  | some r =>
    simp only [hm] at q
    cases r with
    | x c => exact fun F' H' e => q F' H' σ R e.stp0 (S.ext e)
    | v t bb =>
      intro F' H' x B e g
      cases bb with
      | false => exact q F' H' x B (e.stp.mono fun _ z => .inr z) g
      | true =>
        obtain ⟨_, A, hA, r⟩ := g
        exact q F' H' x A (e.stp.mono fun a z => .inl (hA a z)) r
theorem s_retN : PS X (.Return none pos) (tS X.K E ca sRetN) := PS.weak ps_retN fun D σ H h => by
  obtain ⟨F, τ, R, S, q⟩ := h
  exact q F H .non R0 ((Stp.refl S.fh).mono fun _ z => z.elim) .non
theorem s_if (hc : PT X c (tMB X.K E ca mc)) (ha : PSs X sa (tS X.K E ca u)) (hb : PSs X sb (tS X.K E ca w)) : PS X (.If c sa sb pos) (tS X.K E ca (sIf mc u w)) := by
  refine PS.weak (ps_if hc ha hb) fun D σ H h => ?_
  obtain ⟨F, τ, R, S, q⟩ := h
  refine ⟨F, τ, R, S, ?_⟩
  unfold sIf at q
  cases hm : mc τ with
  | none => simp only [hm] at q
  | some r =>
    simp only [hm] at q
    cases r with
    | x c => exact fun F' H' e => q F' H' σ R e.stp0 (S.ext e)
    | v t bb =>
      cases t with
      | bl k =>
        intro F1 H1 e1
        have S1 := S.ext e1
        have key : ∀ {mm : PSt → Option Out}, (match mm τ with
            | some (.nx τ') => ∀ F' H' σ' R', Stp F H (tot R) F' H' (tot R') → StR X.K F' H' σ' τ' R' → D.nx σ' H'
            | some (.bk τ') => ∀ F' H' σ' R', Stp F H (tot R) F' H' (tot R') → StR X.K F' H' σ' τ' R' → D.bk σ' H'
            | some (.ct τ') => ∀ F' H' σ' R', Stp F H (tot R) F' H' (tot R') → StR X.K F' H' σ' τ' R' → D.ct σ' H'
            | some (.rt t) => ∀ F' H' x B, Stp F H (tot R) F' H' B → Rp X.K F' H' t x B → D.rt x H'
            | some (.xc c τ') => ∀ F' H' σ' R', Stp F H (tot R) F' H' (tot R') → StR X.K F' H' σ' τ' R' → E σ' (ca c) none H'
            | none => False) → tS X.K E ca mm D σ H1 := fun {mm} q => by
          refine ⟨F1, τ, R, S1, ?_⟩
          cases hr : mm τ with
          | none => simp only [hr] at q
          | some o =>
            simp only [hr] at q
            cases o with
            | nx _ => exact fun F' H' σ' R' s S => q F' H' σ' R' (e1.stp0.trans s) S
            | bk _ => exact fun F' H' σ' R' s S => q F' H' σ' R' (e1.stp0.trans s) S
            | ct _ => exact fun F' H' σ' R' s S => q F' H' σ' R' (e1.stp0.trans s) S
            | rt _ => exact fun F' H' x B s r => q F' H' x B (e1.stp0.trans s) r
            | xc _ _ => exact fun F' H' σ' R' s S => q F' H' σ' R' (e1.stp0.trans s) S
        cases k with
        | true => exact iteT (key q)
        | false => exact iteF (key q)
      | _ => exact q.elim
/-- target = e, shared -/
theorem tS_set {g : TG} (hg : ∀ v σ H Q, tGM K b v σ H Q → g v σ H Q) (h : tS K E ca (sSet m b) D σ H) : tAsg (tM K E ca m) g D σ H := by
  obtain ⟨F, τ, R, S, q⟩ := h
  refine ⟨F, τ, R, S, ?_⟩
  unfold sSet at q
  cases hm : m τ with
  | none => simp only [hm] at q
  | some r =>
    simp only [hm] at q
    cases r with
    | x c => exact fun F' H' e => q F' H' σ R e.stp0 (S.ext e)
    | v t bb =>
      cases bb with
      | true => exact q.elim
      | false =>
        intro F1 H1 x B e1 g1
        obtain ⟨F2, e2, _, r2⟩ := Got.frz (b := false) S e1 g1
        simp only at q
        cases hb : b t.share τ with
        | none => simp only [hb] at q
        | some τ' =>
          simp only [hb] at q
          refine hg _ _ _ _ ⟨F2, τ, R, t.share, τ', S.ext e2, (show Rp K F2 F2 t.share x R0 from r2).any, hb, fun σ' R' S' hR => ?_⟩
          exact q F2 H1 σ' R' (e2.stp0.mono fun a ⟨i, z⟩ => ⟨i, hR i a z⟩) S'
theorem gName_of {i : Nat} {v : V} {Q : L2.St → Hp → Prop} (h : tGM K (bNm i) v σ H Q) : gName i v σ H Q := by
  obtain ⟨F, τ, R, t, τ', S, r, e, q⟩ := h
  unfold bNm at e
  split at e
  · cases e
    rename_i hl
    refine q _ _ (S.set r (fun _ _ _ _ z => z.elim) hl) fun j a z => ?_
    by_cases hj : j = i
    · simp only [hj, if_true] at z; exact z.elim
    · simpa [hj] using z
  · cases e
theorem s_setN {i : Nat} {x : Str} (hN : X.N.Nodup) (hi : X.N[i]? = some x) (hx : Loc X.env.scope x) (he : PE X e (tM X.K E ca m)) (hs : swapsWith e (some (.Name x pos')) pos.line X.env = pure false) (hf : X.fn x = true ∨ X.env.scope.names.lookup x = some .local) :
    PS X (.Assign [.Name x pos'] e pos) (tS X.K E ca (sSet m (bNm i))) := PS.weak (ps_set hN hi hx he hs hf) fun D σ H h => tS_set (fun _ _ _ _ z => gName_of z) h
theorem s_setG (he : PE X e (tM X.K E ca m)) (hg : PG X tg (tGM X.K b)) (hs : swapsWithSole [tg] e pos.line X.env = pure false) (hw : swappedStores [tg] e X.env = pure none) (h1 : (assignEach [tg] X.env).map (·.2) = [assign tg X.env]) :
    PS X (.Assign [tg] e pos) (tS X.K E ca (sSet m b)) := PS.weak (ps_asg he hg hs hw h1) fun D σ H h => tS_set (fun _ _ _ _ z => z) h
/-- name = e, had alone -/
theorem tS_own {i : Nat} (h : tS K E ca (sOwn i m) D σ H) : tAsg (tM K E ca m) (gName i) D σ H := by
  obtain ⟨F, τ, R, S, q⟩ := h
  refine ⟨F, τ, R, S, ?_⟩
  unfold sOwn at q
  cases hm : m τ with
  | none => simp only [hm] at q
  | some r =>
    simp only [hm] at q
    cases r with
    | x c => exact fun F' H' e => q F' H' σ R e.stp0 (S.ext e)
    | v t bb =>
      cases bb with
      | true => exact q.elim
      | false =>
        intro F1 H1 x B e1 g1
        have g1' : Rp K F1 H1 t x B := g1
        have S1 := S.ext e1
        by_cases hl : i < τ.length
        · simp only [hl, if_true] at q
          refine q F1 H1 _ _ (e1.stp.mono ?_) (S1.set g1' (fun j a _ z1 z2 => S.apart e1 z2 j z1) hl)
          rintro a ⟨j, z⟩
          by_cases hj : j = i
          · simp only [hj, if_true] at z; exact .inr z
          · simp only [hj, if_false] at z; exact .inl ⟨j, z⟩
        · simp only [hl, if_false] at q
theorem s_ownN {i : Nat} {x : Str} (hN : X.N.Nodup) (hi : X.N[i]? = some x) (hx : Loc X.env.scope x) (he : PE X e (tM X.K E ca m)) (hs : swapsWith e (some (.Name x pos')) pos.line X.env = pure false) (hf : X.fn x = true ∨ X.env.scope.names.lookup x = some .local) :
    PS X (.Assign [.Name x pos'] e pos) (tS X.K E ca (sOwn i m)) := PS.weak (ps_set hN hi hx he hs hf) fun D σ H h => tS_own h
/-! loops -/
theorem s_for (hp : PassesOwn (model X.prog X.w) X.A X.env X.xe) (hc : X.calm = true) (hi : PI X tg iter (tI X.K E ca mi)) (hg : PG X tg (tGM X.K b)) (hb : PSs X body (tS X.K E ca u)) (hs : ∀ x, foldedSetIterable iter X.env x = pure x) :
    PS X (.For tg iter body [] pos) (tS X.K E ca (sFor mi b u)) := by
  refine PS.weak (ps_for hp hc hi hg hb hs) fun D σ H h => ?_
  obtain ⟨F, τ, R, S, q⟩ := h
  refine ⟨F, τ, R, S, ?_⟩
  unfold sFor at q
  cases hm : mi τ with
  | none => simp only [hm] at q
  | some r =>
    simp only [hm] at q
    cases r with
    | x c => exact fun F' H' e => q F' H' σ R e.stp0 (S.ext e)
    | v ts bb =>
      intro F1 H1 J e1 its
      simp only at q
      have S1 := S.ext e1
      cases hg : forGo b u ts τ with
      | none => simp only [hg] at q
      | some out =>
        simp only [hg] at q
        refine ⟨fun i mm σ' H' => mm = ts.length - i ∧ i ≤ ts.length ∧ ∃ F' τ' R', Stp F H (tot R) F' H' (tot R') ∧ Same F1 F' ∧ StR X.K F' H' σ' τ' R' ∧ forGo b u (ts.drop i) τ' = some out, ⟨ts.length, by simp, Nat.zero_le _, F1, τ, R, e1.stp0, .refl _, S1, by simpa using hg⟩, ?_⟩
        rintro i mm σ' H' ⟨rfl, hle, F', τ', R', st, sf, S', hgo⟩
        obtain ⟨i1, i2⟩ := its i F' H' sf S'.fh
        by_cases hlt : i < ts.length
        · refine .inr ⟨(i1 _ (List.getElem?_eq_getElem hlt)).1, fun σ2 H2 => i + 1 ≤ ts.length ∧ ∃ F2 τ2 R2, Stp F H (tot R) F2 H2 (tot R2) ∧ Same F1 F2 ∧ StR X.K F2 H2 σ2 τ2 R2 ∧ forGo b u (ts.drop (i + 1)) τ2 = some out, fun σ2 H2 n2 => ⟨ts.length - (i + 1), by omega, rfl, n2⟩, fun x H'' y => ?_⟩
          obtain ⟨F'', e3, rx⟩ := (i1 _ (List.getElem?_eq_getElem hlt)).2 x H'' y
          have S3 := S'.ext e3
          rw [List.drop_eq_getElem_cons hlt] at hgo
          unfold forGo at hgo
          cases hb2 : b ts[i] τ' with
          | none => simp only [hb2] at hgo; cases hgo
          | some τ1 =>
            simp only [hb2] at hgo
            refine ⟨F'', τ', R', ts[i], τ1, S3, rx, hb2, fun σ3 R3 S4 hR3 => ?_⟩
            have st3 : Stp F H (tot R) F'' H'' (tot R3) := (st.trans e3.stp0).mono fun a ⟨j, z⟩ => ⟨j, hR3 j a z⟩
            refine ⟨F'', τ1, R3, S4, ?_⟩
            cases hu : u τ1 with
            | none => simp only [hu] at hgo; cases hgo
            | some o =>
              simp only [hu] at hgo
              cases o with
              | nx τ2 => exact fun F4 H4 σ4 R4 s4 S5 => ⟨hlt, F4, τ2, R4, st3.trans s4, (sf.trans e3.ff).trans s4.ff, S5, hgo⟩
              | ct τ2 => exact fun F4 H4 σ4 R4 s4 S5 => ⟨hlt, F4, τ2, R4, st3.trans s4, (sf.trans e3.ff).trans s4.ff, S5, hgo⟩
              | bk τ2 =>
                cases hgo
                exact fun F4 H4 σ4 R4 s4 S5 => q F4 H4 σ4 R4 (st3.trans s4) S5
              | rt v =>
                cases hgo
                exact fun F4 H4 x B s4 r => q F4 H4 x B (st3.trans s4) r
              | xc cc τ2 =>
                cases hgo
                exact fun F4 H4 σ4 R4 s4 S5 => q F4 H4 σ4 R4 (st3.trans s4) S5
        · have hi' : i = ts.length := by omega
          subst hi'
          refine .inl ⟨i2 rfl, ?_⟩
          rw [List.drop_length] at hgo
          unfold forGo at hgo
          cases hgo
          exact q F' H' σ' R' st S'
theorem s_wh (hp : PassesOwn (model X.prog X.w) X.A X.env X.xe) (hc : PT X c (tMB X.K E ca mc)) (hb : PSs X body (tS X.K E ca u)) : PS X (.While c body [] pos) (tS X.K E ca (sWh mc u)) := by
  refine PS.weak (ps_while hp hc hb) fun D σ H h => ?_
  obtain ⟨F, τ, R, S, q⟩ := h
  cases hw : sWh mc u τ with
  | none => simp only [hw] at q
  | some out =>
    simp only [hw] at q
    obtain ⟨n, hn⟩ := sWh_some hw
    refine ⟨fun mm σ' H' => ∃ F' τ' R', Stp F H (tot R) F' H' (tot R') ∧ StR X.K F' H' σ' τ' R' ∧ whN mc u mm τ' = some out, ⟨n, F, τ, R, Stp.refl S.fh, S, hn⟩, ?_⟩
    rintro mm σ' H' ⟨F', τ', R', st, S', hgo⟩
    cases mm with
    | zero => cases hgo
    | succ mm =>
      refine ⟨F', τ', R', S', ?_⟩
      unfold whN at hgo
      cases hm : mc τ' with
      | none => simp only [hm] at hgo; cases hgo
      | some r =>
        simp only [hm] at hgo
        cases r with
        | x cc =>
          cases hgo
          exact fun F2 H2 e2 => q F2 H2 σ' R' (st.trans e2.stp0) (S'.ext e2)
        | v t bb =>
          cases t with
          | bl k =>
            intro F2 H2 e2
            have S2 := S'.ext e2
            have st2 : Stp F H (tot R) F2 H2 (tot R') := st.trans e2.stp0
            cases k with
            | false =>
              cases hgo
              exact iteF (q F2 H2 σ' R' st2 S2)
            | true =>
              simp only at hgo
              refine iteT ⟨fun σ2 H2 => ∃ F2 τ2 R2, Stp F H (tot R) F2 H2 (tot R2) ∧ StR X.K F2 H2 σ2 τ2 R2 ∧ whN mc u mm τ2 = some out, fun σ3 H3 n3 => ⟨mm, Nat.lt_succ_self _, n3⟩, F2, τ', R', S2, ?_⟩
              cases hu : u τ' with
              | none => simp only [hu] at hgo; cases hgo
              | some o =>
                simp only [hu] at hgo
                cases o with
                | nx τ2 => exact fun F4 H4 σ4 R4 s4 S5 => ⟨F4, τ2, R4, st2.trans s4, S5, hgo⟩
                | ct τ2 => exact fun F4 H4 σ4 R4 s4 S5 => ⟨F4, τ2, R4, st2.trans s4, S5, hgo⟩
                | bk τ2 =>
                  cases hgo
                  exact fun F4 H4 σ4 R4 s4 S5 => q F4 H4 σ4 R4 (st2.trans s4) S5
                | rt v =>
                  cases hgo
                  exact fun F4 H4 x B s4 r => q F4 H4 x B (st2.trans s4) r
                | xc cc τ2 =>
                  cases hgo
                  exact fun F4 H4 σ4 R4 s4 S5 => q F4 H4 σ4 R4 (st2.trans s4) S5
          | _ => cases hgo
end
end Pu

set_option Elab.async false
set_option linter.all false
set_option maxRecDepth 100000
namespace Pu
open PySem PySem.Spec PyProof.Rows L2 Zw Zx

/-! ### what a name has alone, written -/
section
variable {K : PySem.W.Frag} {F H : Hp} {l : List T} {xs : List V} {Rr : Nat → Rg} {p : Addr} {o : HO}
theorem Rp.own_inv {x : V} {A : Rg} (h : Rp K F H (.nd true .lst l) x A) : ∃ p xs Rr, x = .ref p ∧ A = (fun a => a = p ∨ ∃ j, Rr j a) ∧ F p = none ∧ H p = some (.lst xs) ∧ RpO K F H l xs Rr ∧ ∀ j, ¬ Rr j p := by
  cases h with
  | own R f h e c d dp o => exact ⟨_, _, R, rfl, rfl, f, h, ⟨e, c, d, o⟩, dp⟩
theorem own_mk (r : RpO K F H l xs Rr) (f : F p = none) (h : H p = some (.lst xs)) (dp : ∀ j, ¬ Rr j p) : Rp K F H (.own l) (.ref p) (fun a => a = p ∨ ∃ j, Rr j a) := .own Rr f h r.len r.rep r.dis dp r.out
theorem RpO.upd (r : RpO K F H l xs Rr) (dp : ∀ j, ¬ Rr j p) : RpO K F (L2.upd H p o) l xs Rr := ⟨r.len, fun i t x h1 h2 => (r.rep i t x h1 h2).frame (.refl _) fun a z => ⟨upd_ne (fun e => dp i (e ▸ z)), (r.dom z).1⟩, r.dis, r.out⟩
theorem Rp.upd {t : T} {x : V} {A : Rg} (r : Rp K F H t x A) (dp : ¬ A p) : Rp K F (L2.upd H p o) t x A := r.frame (.refl _) fun a z => ⟨upd_ne (fun e => dp (e ▸ z)), (r.dom z).1⟩
theorem RpO.set (r : RpO K F H l xs Rr) {j0 : Nat} {t : T} {y : V} {B : Rg} (hj : j0 < l.length) (rt : Rp K F H t y B) (d : ∀ j a, j ≠ j0 → Rr j a → ¬ B a) : RpO K F H (l.set j0 t) (xs.set j0 y) (fun j => if j = j0 then B else Rr j) := by
  have hl := r.len
  refine ⟨by simp [hl], fun i t' x' h1 h2 => ?_, fun i k a hik z1 z2 => ?_, fun i a z => ?_⟩
  · by_cases hi : i = j0
    · subst hi
      rw [List.getElem?_set_self hj] at h1
      rw [List.getElem?_set_self (by omega)] at h2
      cases h1; cases h2
      simpa using rt
    · rw [List.getElem?_set_ne (Ne.symm hi)] at h1 h2
      simpa [hi] using r.rep i t' x' h1 h2
  · by_cases hi : i = j0
    · simp only [hi, if_true] at z1
      have hk : ¬ k = j0 := fun z => hik (hi.trans z.symm)
      simp only [hk, if_false] at z2
      exact d k a hk z2 z1
    · simp only [hi, if_false] at z1
      by_cases hk : k = j0
      · simp only [hk, if_true] at z2
        exact d i a hi z1 z2
      · simp only [hk, if_false] at z2
        exact r.dis i k a hik z1 z2
  · by_cases hi : i = j0
    · simp [hi]; omega
    · simp only [hi, if_false] at z
      simpa using r.out i a z
variable {σ : L2.St} {τ : PSt} {R : Nat → Rg}
theorem StR.upd (S : StR K F H σ τ R) {i : Nat} {t t' : T} {x : V} {A' B : Rg} (ht : τ[i]? = some (some t)) (hx : σ[i]? = some (some x)) (hp : R i p) (r' : Rp K F (L2.upd H p o) t' x A') (hA : ∀ a, A' a → R i a ∨ B a) (hB : ∀ j a, R j a → ¬ B a) :
    StR K F (L2.upd H p o) σ (τ.set i (some t')) (fun j => if j = i then A' else R j) ∧ Stp F H (fun a => Pu.tot R a ∨ B a) F (L2.upd H p o) (Pu.tot fun j => if j = i then A' else R j) := by
  have fp : F p = none := (S.dom hp).1
  have hi : i < τ.length := (List.getElem?_eq_some_iff.mp ht).1
  have fh' : Same F (L2.upd H p o) := fun b u e => by
    rw [upd_ne (fun z => by rw [z, fp] at e; cases e)]
    exact S.fh b u e
  refine ⟨⟨fh', by simpa using S.len, fun j t1 e => ?_, fun j a z => ?_, fun j k a hjk z1 z2 => ?_⟩, ⟨.refl _, fh', fun b u n e => ?_, fun b ⟨j, z⟩ => ?_, fun b u e => .inl e⟩⟩
  · by_cases hj : j = i
    · subst hj
      rw [List.getElem?_set_self hi] at e
      cases e
      exact ⟨x, hx, by simpa using r'⟩
    · rw [List.getElem?_set_ne (Ne.symm hj)] at e
      obtain ⟨y, e1, r1⟩ := S.rep j t1 e
      exact ⟨y, e1, by simpa [hj] using r1.upd (o := o) (fun z => S.dis j i p hj z hp)⟩
  · by_cases hj : j = i
    · subst hj
      exact ⟨t', List.getElem?_set_self hi⟩
    · simp only [hj, if_false] at z
      obtain ⟨t1, e⟩ := S.out j a z
      exact ⟨t1, by rw [List.getElem?_set_ne (Ne.symm hj)]; exact e⟩
  · by_cases hj : j = i
    · simp only [hj, if_true] at z1
      have hk : ¬ k = i := fun z => hjk (hj.trans z.symm)
      simp only [hk, if_false] at z2
      rcases hA a z1 with w | w
      · exact S.dis i k a (Ne.symm hk) w z2
      · exact hB k a z2 w
    · simp only [hj, if_false] at z1
      by_cases hk : k = i
      · simp only [hk, if_true] at z2
        rcases hA a z2 with w | w
        · exact S.dis i j a (Ne.symm hj) w z1
        · exact hB j a z1 w
      · simp only [hk, if_false] at z2
        exact S.dis j k a hjk z1 z2
  · rw [upd_ne (fun z => n (.inl (by rw [z]; exact ⟨i, hp⟩)))]
    exact e
  · by_cases hj : j = i
    · simp only [hj, if_true] at z
      rcases hA b z with w | w
      · exact .inl (.inl ⟨i, w⟩)
      · exact .inl (.inr w)
    · simp only [hj, if_false] at z
      exact .inl (.inl ⟨j, z⟩)
end
/-! x.append(e), x.extend(e), x[k] = e, x[k][n] = e -/
def ownAt (τ : PSt) (i : Nat) : Option (List T) := match τ[i]? with
  | some (some (.nd true .lst l)) => some l
  | _ => none
theorem ownAt_some {τ : PSt} {i : Nat} {l : List T} (h : ownAt τ i = some l) : τ[i]? = some (some (.nd true .lst l)) := by
  unfold ownAt at h
  split at h
  · rename_i l' e
    cases h
    exact e
  · cases h
def sApp (i : Nat) (m : PSt → Option Rs) : PSt → Option Out := fun τ => match ownAt τ i with
  | some l => (match m τ with
    | some (.v t false) => if l.length < lim then some (.nx (τ.set i (some (.own (l ++ [t]))))) else none
    | some (.v _ true) => none
    | some (.x c) => some (.xc c τ)
    | none => none)
  | none => none
def sExt (i : Nat) (m : PSt → Option Rs) : PSt → Option Out := fun τ => match ownAt τ i with
  | some l => (match m τ with
    | some (.v (.nd _ .lst r) false) => if l.length + r.length ≤ lim then some (.nx (τ.set i (some (.own (l ++ shareL r))))) else none
    | some (.v _ _) => none
    | some (.x c) => some (.xc c τ)
    | none => none)
  | none => none
def sSto (i : Nat) (mk m : PSt → Option Rs) : PSt → Option Out := fun τ => match m τ with
  | some (.v t false) => (match ownAt τ i with
    | some l => (match mk τ with
      | some (.v (.int k) _) => (match ixN l.length k with
        | some j => some (.nx (τ.set i (some (.own (l.set j t)))))
        | none => none)
      | some (.v _ _) => none
      | some (.x c) => some (.xc c τ)
      | none => none)
    | none => none)
  | some (.v _ true) => none
  | some (.x c) => some (.xc c τ)
  | none => none
def ownKid : Option T → Option (List T)
  | some (.nd true .lst l) => some l
  | _ => none
/-- x[k][n] = e -/
def sSto2 (i : Nat) (mk mn m : PSt → Option Rs) : PSt → Option Out := fun τ => match m τ with
  | some (.v t false) => (match ownAt τ i with
    | some l => (match mk τ with
      | some (.v (.int k) _) => (match ixN l.length k with
        | some j => (match ownKid l[j]? with
          | some r => (match mn τ with
            | some (.v (.int n) _) => (match ixN r.length n with
              | some j2 => some (.nx (τ.set i (some (.own (l.set j (.own (r.set j2 t)))))))
              | none => none)
            | some (.v _ _) => none
            | some (.x c) => some (.xc c τ)
            | none => none)
          | none => none)
        | none => none)
      | some (.v _ _) => none
      | some (.x c) => some (.xc c τ)
      | none => none)
    | none => none)
  | some (.v _ true) => none
  | some (.x c) => some (.xc c τ)
  | none => none
section
variable {X : Cx} {E : L2.St → XK} {ca : Str → Value} {σ : L2.St} {H : Hp} {K : PySem.W.Frag} {m mk mn : PSt → Option Rs} {D : Ends} {e k n : Expr} {pos apos cpos p1 pos2 pos3 : Pos} {i : Nat} {x : Str}
theorem got_int {F : Hp} {R : Nat → Rg} {j : Int} {b : Bool} {y : V} {B : Rg} (g : Got K F H R (.int j) b y B) : y = .int j := by
  cases b with
  | true => obtain ⟨_, A, _, r⟩ := g; exact r.int_inv
  | false => exact (show Rp K F H _ _ _ from g).int_inv
theorem snoc_tot' {l : List T} {Rr : Nat → Rg} {B : Rg} {a : Addr} (h : ∃ j, (fun j => if j = l.length then B else Rr j) j a) : (∃ j, Rr j a) ∨ B a := snoc_tot (l := l) h
theorem set_tot {j0 : Nat} {Rr : Nat → Rg} {B : Rg} {a : Addr} (h : ∃ j, (fun j => if j = j0 then B else Rr j) j a) : (∃ j, Rr j a) ∨ B a := by
  obtain ⟨j, z⟩ := h
  by_cases hj : j = j0
  · simp only [hj, if_true] at z; exact .inr z
  · simp only [hj, if_false] at z; exact .inl ⟨j, z⟩
theorem s_app (hN : X.N[i]? = some x) (hv : Vis X.env.scope x) (hd : (x == ("__debug__" : Str)) = false) (hcd : (x == ("__classdict__" : Str)) = false) (he : PE X e (tM X.K E ca m)) (hs : starEach [e] X.env = [(false, eval e X.env)]) (hline : (apos.endLine == cpos.line) = true) :
    PS X (.Expr (.Call (.Attribute (.Name x p1) "append" apos) [e] [] cpos) pos) (tS X.K E ca (sApp i m)) := by
  refine PS.weak (ps_expr (pe_bm PySem.F.plainAttrs_list PySem.F.slot_list_append PySem.F.type_list_append mt_append (pe_var hN hv hd hcd) (pa_cons he pa_nil hs) rfl (by rw [hs]; rfl) hline hs rfl) rfl) fun D σ H h => ?_
  obtain ⟨F, τ, R, S, q⟩ := h
  unfold sApp at q
  cases ho : ownAt τ i with
  | none => simp only [ho] at q
  | some l =>
    simp only [ho] at q
    have ht := ownAt_some ho
    obtain ⟨y, ey, ry⟩ := S.rep i _ ht
    obtain ⟨p, xs, Rr, rfl, hA, fp, hp, ro, dp⟩ := ry.own_inv
    refine ⟨_, ey, .inl ⟨rfl, xs, SqL.of hp⟩, F, τ, R, S, ?_⟩
    cases hm : m τ with
    | none => simp only [hm] at q
    | some r =>
      simp only [hm] at q
      cases r with
      | x c => exact fun F' H' e => q F' H' σ R e.stp0 (S.ext e)
      | v t bb =>
        cases bb with
        | true => exact q.elim
        | false =>
          intro F1 H1 y B e1 g1
          have g1' : Rp X.K F1 H1 t y B := g1
          by_cases hz : l.length < lim
          · simp only [hz, if_true] at q
            have S1 := S.ext e1
            have ro1 := ro.ext e1
            have hp1 := e1.hh _ _ hp
            have pB : ¬ B p := fun z => by rw [e1.nb p z] at hp; cases hp
            have fp1 : F1 p = none := (ry.ext e1 |>.dom (by rw [hA]; exact .inl rfl)).1
            refine ⟨p, xs, y, rfl, rfl, hp1, by rw [← ro.len, ← lim_eq]; exact hz, ?_⟩
            have ro2 : RpO X.K F1 (upd H1 p (.lst (xs ++ [y]))) (l ++ [t]) (xs ++ [y]) _ := (ro1.upd dp).snoc (g1'.upd pB) fun j a z1 z2 => ro.apart e1 z2 j z1
            have dp2 : ∀ j, ¬ (if j = l.length then B else Rr j) p := fun j z => by
              by_cases hj : j = l.length
              · simp only [hj, if_true] at z; exact pB z
              · simp only [hj, if_false] at z; exact dp j z
            have r2 := own_mk ro2 fp1 upd_same dp2
            obtain ⟨S3, st3⟩ := S1.upd ht ey (by rw [hA]; exact .inl rfl) r2 (B := B) (fun a z => by
              rw [hA]
              rcases z with z | z
              · exact .inl (.inl z)
              · rcases snoc_tot' z with w | w
                · exact .inl (.inr w)
                · exact .inr w) (fun j a z1 z2 => S.apart e1 z2 j z1)
            exact q F1 _ σ _ (e1.stp.trans st3) S3
          · simp only [hz, if_false] at q
theorem s_ext (hN : X.N[i]? = some x) (hv : Vis X.env.scope x) (hd : (x == ("__debug__" : Str)) = false) (hcd : (x == ("__classdict__" : Str)) = false) (he : PE X e (tM X.K E ca m)) (hs : starEach [e] X.env = [(false, eval e X.env)]) (hline : (apos.endLine == cpos.line) = true) :
    PS X (.Expr (.Call (.Attribute (.Name x p1) "extend" apos) [e] [] cpos) pos) (tS X.K E ca (sExt i m)) := by
  refine PS.weak (ps_expr (pe_bm PySem.F.plainAttrs_list PySem.F.slot_list_extend PySem.F.type_list_extend mt_extend (pe_var hN hv hd hcd) (pa_cons he pa_nil hs) rfl (by rw [hs]; rfl) hline hs rfl) rfl) fun D σ H h => ?_
  obtain ⟨F, τ, R, S, q⟩ := h
  unfold sExt at q
  cases ho : ownAt τ i with
  | none => simp only [ho] at q
  | some l =>
    simp only [ho] at q
    have ht := ownAt_some ho
    obtain ⟨y, ey, ry⟩ := S.rep i _ ht
    obtain ⟨p, xs, Rr, rfl, hA, fp, hp, ro, dp⟩ := ry.own_inv
    refine ⟨_, ey, .inl ⟨rfl, xs, SqL.of hp⟩, F, τ, R, S, ?_⟩
    cases hm : m τ with
    | none => simp only [hm] at q
    | some r =>
      simp only [hm] at q
      cases r with
      | x c => exact fun F' H' e => q F' H' σ R e.stp0 (S.ext e)
      | v t bb =>
        cases t with
        | nd o kd r =>
          cases kd with
          | lst =>
            cases bb with
            | true => exact q.elim
            | false =>
              intro F1 H1 y B e1 g1
              obtain ⟨F2, e2, _, r2⟩ := Got.frz (b := false) S e1 g1
              have r2' : Rp X.K F2 F2 (T.nd o .lst r).share y R0 := r2
              rw [T.share] at r2'
              obtain ⟨p2, ys, rfl, _, nn, kid⟩ := node_of r2'
              by_cases hz : l.length + r.length ≤ lim
              · simp only [hz, if_true] at q
                have S1 := S.ext e2
                have ro1 := ro.ext e2
                have hp1 := e2.hh _ _ hp
                have fp1 : F2 p = none := (ry.ext e2 |>.dom (by rw [hA]; exact .inl rfl)).1
                have hn2 : F2 p2 = some (.lst ys) := nn
                have lr : r.length = ys.length := by have := kid.1; rw [shareL_map, List.length_map] at this; exact this
                refine ⟨p, p2, xs, ys, rfl, rfl, hp1, e2.fh _ _ hn2, by rw [← ro.len, ← lr, ← lim_eq]; exact hz, ?_⟩
                have app : ∀ (l2 : List T) (ys2 : List V), Rps X.K F2 l2 ys2 → ∀ (l : List T) (xs : List V) (H0 : Hp), RpO X.K F2 H0 l xs Rr → RpO X.K F2 H0 (l ++ l2) (xs ++ ys2) Rr := by
                  intro l2
                  induction l2 with
                  | nil => intro ys2 hk l xs H0 hro; rw [hk.inv0, List.append_nil, List.append_nil]; exact hro
                  | cons t l2 ih =>
                    intro ys2 hk l xs H0 hro
                    obtain ⟨y, ys', rfl, r1, rs1⟩ := hk.inv
                    have h2 := hro.snoc (r1.any (H' := H0)) (fun _ _ _ z => z)
                    have e3 : (fun j => if j = l.length then R0 else Rr j) = Rr := funext fun j => by
                      by_cases hj : j = l.length
                      · simp only [hj, if_true]
                        exact funext fun a => propext ⟨fun z => z.elim, fun z => absurd (hro.out _ a z) (Nat.lt_irrefl _)⟩
                      · simp only [hj, if_false]
                    rw [e3] at h2
                    have h3 := ih ys' rs1 (l ++ [t]) (xs ++ [y]) H0 h2
                    simpa using h3
                have ro2 := app _ _ kid l xs _ (ro1.upd (o := .lst (xs ++ ys)) dp)
                have r3 := own_mk ro2 fp1 upd_same dp
                obtain ⟨S3, st3⟩ := S1.upd ht ey (by rw [hA]; exact .inl rfl) r3 (B := R0) (fun a z => .inl (by rw [hA]; exact z)) (fun j a z1 z2 => z2)
                exact q F2 _ σ _ ((e2.stp (O := tot R)).trans st3) S3
              · simp only [hz, if_false] at q
          | _ => exact q.elim
        | _ => exact q.elim
/-- x[k] = e -/
theorem s_sto (hN : X.N[i]? = some x) (hv : Vis X.env.scope x) (hd : (x == ("__debug__" : Str)) = false) (hcd : (x == ("__classdict__" : Str)) = false) (he : PE X e (tM X.K E ca m)) (hk : PE X k (tM X.K E ca mk)) (hs : swapsWithSole [.Subscript (.Name x p1) k pos2] e pos.line X.env = pure false) (hw : swappedStores [.Subscript (.Name x p1) k pos2] e X.env = pure none)
    (ha : ∀ v, assign (.Subscript (.Name x p1) k pos2) X.env v = (do
      let ov ← holding [v] (eval (.Name x p1) X.env)
      let iv ← holding [v, ov] (eval k X.env)
      standAt pos2
      holding [v, ov, iv] (setItem ov iv v)
      release [v, ov, iv] [])) :
    PS X (.Assign [.Subscript (.Name x p1) k pos2] e pos) (tS X.K E ca (sSto i mk m)) := by
  refine PS.weak (ps_asg he (pg_sub (pe_var hN hv hd hcd) hk set_list ha) hs hw rfl) fun D σ H h => ?_
  obtain ⟨F, τ, R, S, q⟩ := h
  refine ⟨F, τ, R, S, ?_⟩
  unfold sSto at q
  cases hm : m τ with
  | none => simp only [hm] at q
  | some r =>
    simp only [hm] at q
    cases r with
    | x c => exact fun F' H' e => q F' H' σ R e.stp0 (S.ext e)
    | v t bb =>
      cases bb with
      | true => exact q.elim
      | false =>
        intro F1 H1 y B e1 g1
        have g1' : Rp X.K F1 H1 t y B := g1
        simp only at q
        cases ho : ownAt τ i with
        | none => simp only [ho] at q
        | some l =>
          simp only [ho] at q
          have S1 := S.ext e1
          have ht := ownAt_some ho
          obtain ⟨y2, ey, ry⟩ := S1.rep i _ ht
          refine ⟨y2, ey, F1, τ, R, S1, ?_⟩
          cases hkk : mk τ with
          | none => simp only [hkk] at q
          | some r =>
            simp only [hkk] at q
            cases r with
            | x c => exact fun F' H' e => q F' H' σ R ((e1.stp0).trans e.stp0) (S1.ext e)
            | v tk bk =>
              cases tk with
              | int kk =>
                simp only at q
                cases hj : ixN l.length kk with
                | none => simp only [hj] at q
                | some j =>
                  simp only [hj] at q
                  intro F2 H2 z C e2 g2
                  have hz := got_int g2
                  subst hz
                  have S2 := S1.ext e2
                  have ry2 := ry.ext e2
                  obtain ⟨p, xs, Rr, rfl, hA, fp, hp, ro, dp⟩ := ry2.own_inv
                  have hjl := (ixN_seq hj).2.1
                  have g2' := g1'.ext e2
                  have pB : ¬ B p := fun z => by
                    have : R i p := by rw [hA]; exact .inl rfl
                    exact S.apart e1 z i this
                  refine ⟨p, xs, kk, j, rfl, rfl, hp, by rw [← ro.len]; exact hj, ?_⟩
                  have ro2 : RpO X.K F2 (upd H2 p (.lst (xs.set j y))) (l.set j t) (xs.set j y) _ := (ro.upd dp).set hjl (g2'.upd pB) fun j' a _ z1 z2 => S.apart e1 z2 i (by rw [hA]; exact .inr ⟨j', z1⟩)
                  have dp2 : ∀ j', ¬ (if j' = j then B else Rr j') p := fun j' z => by
                    by_cases hj' : j' = j
                    · simp only [hj', if_true] at z; exact pB z
                    · simp only [hj', if_false] at z; exact dp j' z
                  have r3 := own_mk ro2 fp upd_same dp2
                  obtain ⟨S3, st3⟩ := S2.upd ht ey (by rw [hA]; exact .inl rfl) r3 (B := B) (fun a z => by
                    rw [hA]
                    rcases z with z | z
                    · exact .inl (.inl z)
                    · rcases set_tot z with w | w
                      · exact .inl (.inr w)
                      · exact .inr w) (fun j a z1 z2 => S.apart e1 z2 j z1)
                  exact q F2 _ σ _ ((e1.stp.trans e2.stp0).trans st3) S3
              | _ => exact q.elim
theorem s_sto2 (hN : X.N[i]? = some x) (hv : Vis X.env.scope x) (hd : (x == ("__debug__" : Str)) = false) (hcd : (x == ("__classdict__" : Str)) = false) (he : PE X e (tM X.K E ca m)) (hk : PE X k (tM X.K E ca mk)) (hn : PE X n (tM X.K E ca mn)) (hpl : PlainIx k) (hs : swapsWithSole [.Subscript (.Subscript (.Name x p1) k pos2) n pos3] e pos.line X.env = pure false) (hw : swappedStores [.Subscript (.Subscript (.Name x p1) k pos2) n pos3] e X.env = pure none)
    (ha : ∀ v, assign (.Subscript (.Subscript (.Name x p1) k pos2) n pos3) X.env v = (do
      let ov ← holding [v] (eval (.Subscript (.Name x p1) k pos2) X.env)
      let iv ← holding [v, ov] (eval n X.env)
      standAt pos3
      holding [v, ov, iv] (setItem ov iv v)
      release [v, ov, iv] [])) :
    PS X (.Assign [.Subscript (.Subscript (.Name x p1) k pos2) n pos3] e pos) (tS X.K E ca (sSto2 i mk mn m)) := by
  refine PS.weak (ps_asg he (pg_sub (pe_ix ix_list (pe_var hN hv hd hcd) hk hpl) hn set_list ha) hs hw rfl) fun D σ H h => ?_
  obtain ⟨F, τ, R, S, q⟩ := h
  refine ⟨F, τ, R, S, ?_⟩
  unfold sSto2 at q
  cases hm : m τ with
  | none => simp only [hm] at q
  | some r =>
    simp only [hm] at q
    cases r with
    | x c => exact fun F' H' e => q F' H' σ R e.stp0 (S.ext e)
    | v t bb =>
      cases bb with
      | true => exact q.elim
      | false =>
        intro F1 H1 y B e1 g1
        have g1' : Rp X.K F1 H1 t y B := g1
        simp only at q
        cases ho : ownAt τ i with
        | none => simp only [ho] at q
        | some l =>
          simp only [ho] at q
          have S1 := S.ext e1
          have ht := ownAt_some ho
          obtain ⟨y2, ey, ry⟩ := S1.rep i _ ht
          refine ⟨y2, ey, F1, τ, R, S1, ?_⟩
          cases hkk : mk τ with
          | none => simp only [hkk] at q
          | some r =>
            simp only [hkk] at q
            cases r with
            | x c => exact fun F' H' e => q F' H' σ R ((e1.stp0).trans e.stp0) (S1.ext e)
            | v tk bk =>
              cases tk with
              | int kk =>
                simp only at q
                cases hj : ixN l.length kk with
                | none => simp only [hj] at q
                | some j =>
                  simp only [hj] at q
                  cases hr : ownKid l[j]? with
                  | none => simp only [hr] at q
                  | some r =>
                    simp only [hr] at q
                    intro F2 H2 z C e2 g2
                    have hz := got_int g2
                    subst hz
                    have S2 := S1.ext e2
                    have ry2 := ry.ext e2
                    obtain ⟨p, xs, Rr, rfl, hA, fp, hp, ro, dp⟩ := ry2.own_inv
                    have hjl := (ixN_seq hj).2.1
                    have hjx : j < xs.length := by have := ro.len; omega
                    have hlj : l[j]? = some (.nd true .lst r) := by
                      unfold ownKid at hr
                      split at hr
                      · rename_i e
                        cases hr
                        exact e
                      · cases hr
                    have rk := ro.rep j _ _ hlj (List.getElem?_eq_getElem hjx)
                    have at1 : atI xs kk = some xs[j] := by
                      unfold atI
                      rw [← ro.len, hj]
                      exact List.getElem?_eq_getElem hjx
                    refine ⟨p, xs, kk, xs[j], rfl, rfl, SqL.of hp, at1, F2, τ, R, S2, ?_⟩
                    cases hnn : mn τ with
                    | none => simp only [hnn] at q
                    | some r' =>
                      simp only [hnn] at q
                      cases r' with
                      | x c => exact fun F' H' e => q F' H' σ R ((e1.stp0.trans e2.stp0).trans e.stp0) (S2.ext e)
                      | v tn bn =>
                        cases tn with
                        | int nn =>
                          simp only at q
                          cases hj2 : ixN r.length nn with
                          | none => simp only [hj2] at q
                          | some j2 =>
                            simp only [hj2] at q
                            intro F3 H3 z C e3 g3
                            have hz := got_int g3
                            subst hz
                            have S3 := S2.ext e3
                            have ro3 := ro.ext e3
                            have hp3 := e3.hh _ _ hp
                            have fp3 : F3 p = none := (ry2.ext e3 |>.dom (by rw [hA]; exact .inl rfl)).1
                            have rk3 := rk.ext e3
                            obtain ⟨p2, ys, Rq, ep, hA2, fp2, hp2, rq, dq⟩ := rk3.own_inv
                            have g3' := (g1'.ext e2).ext e3
                            have inR : ∀ a, Rr j a → R i a := fun a z => by rw [hA]; exact .inr ⟨j, z⟩
                            have p2j : Rr j p2 := by rw [hA2]; exact .inl rfl
                            have p2B : ¬ B p2 := fun z => S.apart e1 z i (inR _ p2j)
                            have pp2 : p ≠ p2 := fun z => dp j (z ▸ p2j)
                            have hj2l := (ixN_seq hj2).2.1
                            rw [ep]
                            refine ⟨p2, ys, nn, j2, rfl, rfl, hp2, by rw [← rq.len]; exact hj2, ?_⟩
                            have rq2 : RpO X.K F3 (upd H3 p2 (.lst (ys.set j2 y))) (r.set j2 t) (ys.set j2 y) _ := (rq.upd dq).set hj2l (g3'.upd p2B) fun j' a _ z1 z2 => S.apart e1 z2 i (inR _ (by rw [hA2]; exact .inr ⟨j', z1⟩))
                            have dq2 : ∀ j', ¬ (if j' = j2 then B else Rq j') p2 := fun j' z => by
                              by_cases hj' : j' = j2
                              · simp only [hj', if_true] at z; exact p2B z
                              · simp only [hj', if_false] at z; exact dq j' z
                            have rrow := own_mk rq2 fp2 upd_same dq2
                            -- the outer list
                            have others : ∀ j', j' ≠ j → ¬ Rr j' p2 := fun j' hne z => ro.dis j' j p2 hne z p2j
                            have xsj : xs.set j (.ref p2) = xs := by
                              have : xs[j] = .ref p2 := ep
                              rw [← this]
                              exact List.set_getElem_self hjx
                            have ro4 : RpO X.K F3 (upd H3 p2 (.lst (ys.set j2 y))) (l.set j (.own (r.set j2 t))) xs (fun j' => if j' = j then (fun a => a = p2 ∨ ∃ j', (if j' = j2 then B else Rq j') a) else Rr j') := by
                              refine ⟨by simpa using ro3.len, fun i' t' x' h1 h2 => ?_, fun i' k' a hik z1 z2 => ?_, fun i' a z => ?_⟩
                              · by_cases hi : i' = j
                                · subst hi
                                  rw [List.getElem?_set_self hjl] at h1
                                  cases h1
                                  rw [List.getElem?_eq_getElem hjx] at h2
                                  cases h2
                                  rw [ep]
                                  simpa using rrow
                                · rw [List.getElem?_set_ne (Ne.symm hi)] at h1
                                  have := (ro3.rep i' t' x' h1 h2).upd (o := .lst (ys.set j2 y)) (others i' hi)
                                  simpa [hi] using this
                              · have sub : ∀ a, (a = p2 ∨ ∃ j', (if j' = j2 then B else Rq j') a) → Rr j a ∨ B a := fun a z => by
                                  rcases z with z | z
                                  · exact .inl (by rw [z]; exact p2j)
                                  · rcases set_tot z with w | w
                                    · exact .inl (by rw [hA2]; exact .inr w)
                                    · exact .inr w
                                by_cases hi : i' = j
                                · simp only [hi, if_true] at z1
                                  have hk' : ¬ k' = j := fun z => hik (hi.trans z.symm)
                                  simp only [hk', if_false] at z2
                                  rcases sub a z1 with w | w
                                  · exact ro3.dis j k' a (Ne.symm hk') w z2
                                  · exact S.apart e1 w i (by rw [hA]; exact .inr ⟨k', z2⟩)
                                · simp only [hi, if_false] at z1
                                  by_cases hk' : k' = j
                                  · simp only [hk', if_true] at z2
                                    rcases sub a z2 with w | w
                                    · exact ro3.dis i' j a hi z1 w
                                    · exact S.apart e1 w i (by rw [hA]; exact .inr ⟨i', z1⟩)
                                  · simp only [hk', if_false] at z2
                                    exact ro3.dis i' k' a hik z1 z2
                              · by_cases hi : i' = j
                                · simpa [hi] using hjl
                                · simp only [hi, if_false] at z
                                  simpa using ro3.out i' a z
                            have dp3 : ∀ j', ¬ (if j' = j then (fun a => a = p2 ∨ ∃ j', (if j' = j2 then B else Rq j') a) else Rr j') p := fun j' z => by
                              by_cases hj' : j' = j
                              · simp only [hj', if_true] at z
                                rcases z with z | z
                                · exact pp2 z
                                · rcases set_tot z with w | w
                                  · exact dp j (by rw [hA2]; exact .inr w)
                                  · exact S.apart e1 w i (by rw [hA]; exact .inl rfl)
                              · simp only [hj', if_false] at z; exact dp j' z
                            have rall := own_mk ro4 fp3 (by rw [upd_ne pp2]; exact hp3) dp3
                            obtain ⟨S4, st4⟩ := S3.upd ht ey (p := p2) (inR _ p2j) rall (B := B) (fun a z => by
                              rw [hA]
                              rcases z with z | ⟨j', z⟩
                              · exact .inl (.inl z)
                              · by_cases hj' : j' = j
                                · simp only [hj', if_true] at z
                                  rcases z with z | z
                                  · exact .inl (.inr ⟨j, by rw [z]; exact p2j⟩)
                                  · rcases set_tot z with w | w
                                    · exact .inl (.inr ⟨j, by rw [hA2]; exact .inr w⟩)
                                    · exact .inr w
                                · simp only [hj', if_false] at z
                                  exact .inl (.inr ⟨j', z⟩)) (fun j a z1 z2 => S.apart e1 z2 j z1)
                            exact q F3 _ σ _ (((e1.stp.trans e2.stp0).trans e3.stp0).trans st4) S4
                        | _ => exact q.elim
              | _ => exact q.elim
/-- a, b = x, y -/
def sPar (i j : Nat) (ms : PSt → Option RsL) : PSt → Option Out := fun τ => match ms τ with
  | some (.v ts false) => (match ts with
    | [t, u] => if i < τ.length ∧ j < τ.length then some (.nx ((τ.set i (some t)).set j (some u))) else none
    | _ => none)
  | some (.v _ true) => none
  | some (.x c) => some (.xc c τ)
  | none => none
theorem s_par {i j : Nat} {x y : Str} {a b : Expr} {ms : PSt → Option RsL} {px py pt : Pos} {kt k2 pt2} (hc : X.calm = true) (hN : X.N.Nodup) (hi : X.N[i]? = some x) (hj : X.N[j]? = some y) (hij : i ≠ j)
    (hx : X.env.scope.names.lookup x = some .local) (hy : X.env.scope.names.lookup y = some .local) (ha : PA X [a, b] (tMs X.K E ca ms))
    (hw : swappedStores [.Tuple [.Name x px, .Name y py] kt pt] (.Tuple [a, b] k2 pt2) X.env = pure (some [x, y]))
    (hs : swapsWithSole [.Tuple [.Name x px, .Name y py] kt pt] (.Tuple [a, b] k2 pt2) pos.line X.env = pure false) :
    PS X (.Assign [.Tuple [.Name x px, .Name y py] kt pt] (.Tuple [a, b] k2 pt2) pos) (tS X.K E ca (sPar i j ms)) := by
  refine PS.weak (ps_par hc hN hi hj hij hx hy ha hw hs) fun D σ H h => ?_
  obtain ⟨F, τ, R, S, q⟩ := h
  refine ⟨F, τ, R, S, ?_⟩
  unfold sPar at q
  cases hm : ms τ with
  | none => simp only [hm] at q
  | some r =>
    simp only [hm] at q
    cases r with
    | x c => exact fun F' H' e => q F' H' σ R e.stp0 (S.ext e)
    | v ts bb =>
      cases bb with
      | true => exact q.elim
      | false =>
        intro F1 H1 xs e1 rs
        simp only at q
        match ts, q, rs with
        | [t, u], q, rs =>
          simp only at q
          by_cases hl : i < τ.length ∧ j < τ.length
          · simp only [hl, if_true] at q
            obtain ⟨x1, xs1, rfl, r1, rs1⟩ := rs.inv
            obtain ⟨x2, xs2, rfl, r2, rs2⟩ := rs1.inv
            cases rs2.inv0
            have S1 := S.ext e1
            have S2 := S1.set (i := i) (show Rp X.K F1 H1 t x1 R0 from (show Rp X.K F1 F1 t x1 R0 from r1).any) (fun _ _ _ _ z => z.elim) hl.1
            have S3 := S2.set (i := j) (show Rp X.K F1 H1 u x2 R0 from (show Rp X.K F1 F1 u x2 R0 from r2).any) (fun _ _ _ _ z => z.elim) (by simpa using hl.2)
            refine ⟨x1, x2, rfl, q F1 H1 _ _ (e1.stp0.mono ?_) S3⟩
            rintro a ⟨k, z⟩
            by_cases hk : k = j
            · simp only [hk, if_true] at z; exact z.elim
            · simp only [hk, if_false] at z
              by_cases hk2 : k = i
              · simp only [hk2, if_true] at z; exact z.elim
              · simp only [hk2, if_false] at z; exact ⟨k, z⟩
          · simp only [hl, if_false] at q
        | [], q, rs => exact q.elim
        | [_], q, rs => exact q.elim
        | _ :: _ :: _ :: _, q, rs => exact q.elim
end
end Pu

set_option Elab.async false
set_option linter.all false
set_option maxRecDepth 100000
namespace Pu
open PySem PySem.Spec PyProof.Rows L2 Zw Zx

/-! ### the meaning of a def's text -/
structure Fn where
  lv : Nat
  ps : List Str
  g : List T → Option Ru
/-- what is known at a place of the text: the names in their slots, their kinds, the cells made here; how deep calls may go; the defs, the built-in names, the classes of errors; the names that have their things alone; defs that tell scalars -/
structure Gm where
  N : List Str
  nm : List (Str × NameKind)
  ce : List Str
  lv : Nat
  fns : List (Str × Fn)
  bl : List Str
  ex : List Str
  ow : List Str
  pk : List Str
def plainN (x : Str) : Bool := !(x == ("__debug__" : Str)) && !(x == ("__classdict__" : Str)) && !(x == ("__name__" : Str))
def visN (nm : List (Str × NameKind)) (x : Str) : Bool := nm.lookup x == some .local || nm.lookup x == some .cell || nm.lookup x == some .free
def glN (nm : List (Str × NameKind)) (x : Str) : Bool := nm.lookup x == some .globalImplicit
def ixOf (N : List Str) (x : Str) : Option Nat := N.findIdx? (· == x)
def Gm.var (Γ : Gm) (x : Str) : Option Nat := if plainN x && visN Γ.nm x then ixOf Γ.N x else none
def Gm.loc (Γ : Gm) (x : Str) : Bool := plainN x && (Γ.nm.lookup x == some .local || Γ.ce.contains x)
def notStar : Expr → Bool
  | .Starred .. => false
  | _ => true
def opF : Operator → Option (T → T → Option T)
  | .Add => some addT
  | .Sub => some subT
  | .Mult => some mulT
  | .Mod => some modT
  | .FloorDiv => some fdivT
  | .Pow => some powT
  | .BitOr => some borT
  | .BitAnd => some bandT
  | _ => none
def cmpF : CmpOp → Option (T → T → Option T)
  | .Eq => some eqT
  | .NotEq => some neT
  | .Lt => some (cmpT fun i j => decide (i < j))
  | .LtE => some (cmpT fun i j => decide (i ≤ j))
  | .Gt => some (cmpT fun i j => decide (j < i))
  | .GtE => some (cmpT fun i j => decide (j ≤ i))
  | .Is => some (isT2 false)
  | .IsNot => some (isT2 true)
  | .In => some inT
  | .NotIn => some notInT
def bltG (f : Str) : Option (List T → Option T) :=
  if f = "len" then some (g1 lenT) else if f = "list" then some (g1 listT) else if f = "abs" then some (g1 absT) else if f = "int" then some (g1 intT) else if f = "str" then some (g1 strT)
  else if f = "min" then some (g2 minT) else if f = "max" then some (g2 maxT) else if f = "all" then some (g1 allT) else if f = "any" then some (g1 anyT) else none
/-- the built-in types that isinstance is asked about -/
def tyName (c : Str) : Option String := if c = "int" then some "int" else if c = "bool" then some "bool" else if c = "str" then some "str" else if c = "list" then some "list" else if c = "tuple" then some "tuple" else none
/-- an expression whose test is its value's truth, or and, or, not, a comparison -/
def okT : Expr → Bool
  | .IfExp .. => false
  | .NamedExpr .. => false
  | _ => true
def tgN : Expr → List Str
  | .Name x _ => [x]
  | .Tuple [.Name x _] _ _ => [x]
  | .Tuple [.Name x _, .Name y _] _ _ => [x, y]
  | .Tuple [.Name x _, .Name y _, .Name z _] _ _ => [x, y, z]
  | .Tuple [.Name x _, .Name y _, .Name z _, .Name w _] _ _ => [x, y, z, w]
  | _ => []
def isTupE : Expr → Bool
  | .Tuple .. => true
  | _ => false
def isSlice : Expr → Bool
  | .Slice .. => true
  | _ => false
def frees (nm : List (Str × NameKind)) : List Str := nm.filterMap fun (y, k) => if k == .free then some y else none
def cellsN (nm : List (Str × NameKind)) : List Str := nm.filterMap fun (y, k) => if k == .cell then some y else none
def relabN (inner outer : List (Str × NameKind)) : List (Str × NameKind) := inner.map fun (n, k) => if (k == .free && outer.lookup n == some .cell) then (n, .cell) else (n, k)
def capIx (N : List Str) : List Str → Option (List Nat)
  | [] => some []
  | y :: r => (match ixOf N y with
    | some i => (match capIx N r with
      | some l => some (i :: l)
      | none => none)
    | none => none)
def blkOk (Γ : Gm) (scope : Scope) (N' : List Str) : Bool :=
  (scope.kind == .function) && scope.names.all (fun x => !(x.2 == .local) || scope.names.lookup x.1 == some .local) &&
  scope.names.all (fun x => !(x.2 == .free) || (scope.names.lookup x.1 == some .free && (Γ.nm.lookup x.1 == some .cell || Γ.nm.lookup x.1 == some .free) && !(scope.names.contains (x.1, NameKind.cell)))) &&
  decide N'.Nodup && (cellsN scope.names).all (fun y => (relabN scope.names Γ.nm).lookup y == some .cell)
def Gm.blk (Γ : Gm) (scope : Scope) (N' : List Str) : Gm := { Γ with N := N', nm := relabN scope.names Γ.nm, ce := (cellsN scope.names).filter fun y => scope.names.lookup y == some .cell, ow := [] }
/-- a target of plain names -/
def dG (Γ : Gm) : Expr → Option (T → PSt → Option PSt)
  | .Name x _ => if Γ.loc x then (ixOf Γ.N x).map bNm else none
  | .Tuple [.Name x _] _ _ => if Γ.loc x then (match ixOf Γ.N x with
    | some i => some (bTup 1 (bCons (bNm i) bNil))
    | none => none) else none
  | .Tuple [.Name x _, .Name y _] _ _ => if Γ.loc x && Γ.loc y then (match ixOf Γ.N x, ixOf Γ.N y with
    | some i, some j => some (bTup 2 (bCons (bNm i) (bCons (bNm j) bNil)))
    | _, _ => none) else none
  | .Tuple [.Name x _, .Name y _, .Name z _] _ _ => if Γ.loc x && Γ.loc y && Γ.loc z then (match ixOf Γ.N x, ixOf Γ.N y, ixOf Γ.N z with
    | some i, some j, some k => some (bTup 3 (bCons (bNm i) (bCons (bNm j) (bCons (bNm k) bNil))))
    | _, _, _ => none) else none
  | .Tuple [.Name x _, .Name y _, .Name z _, .Name w _] _ _ => if Γ.loc x && Γ.loc y && Γ.loc z && Γ.loc w then (match ixOf Γ.N x, ixOf Γ.N y, ixOf Γ.N z, ixOf Γ.N w with
    | some i, some j, some k, some l => some (bTup 4 (bCons (bNm i) (bCons (bNm j) (bCons (bNm k) (bCons (bNm l) bNil)))))
    | _, _, _, _ => none) else none
  | _ => none
mutual
def dE : Nat → Gm → Expr → Option (PSt → Option Rs)
  | 0, _, _ => none
  | n + 1, Γ, e => match e with
    | .Constant (.int i) _ _ => some (mC (.int i))
    | .Constant (.bool b) _ _ => some (mC (.bl b))
    | .Constant .none _ _ => some (mC .non)
    | .Constant (.str x) _ _ => some (mC (.str x))
    | .Name x _ => (Γ.var x).map mVar
    | .BinOp a op b _ => (match opF op, dE n Γ a, dE n Γ b with
      | some g, some ma, some mb => some (mAp (g2 g) (mCons ma (mCons mb mNil)))
      | _, _, _ => none)
    | .UnaryOp .USub a _ => (match dE n Γ a with
      | some ma => some (mAp (g1 negT) (mCons ma mNil))
      | none => none)
    | .UnaryOp .Not a _ => if okT a then (dE n Γ a).map mNot else none
    | .BoolOp op vs _ => dB n Γ op vs
    | .Compare a [op] [b] _ => (match cmpF op, dE n Γ a, dE n Γ b with
      | some g, some ma, some mb => if behindInMarks op b then none else some (mAp (g2 g) (mCons ma (mCons mb mNil)))
      | _, _, _ => none)
    | .IfExp c a b _ => if okT c then (match dE n Γ c, dE n Γ a, dE n Γ b with
      | some mc, some ma, some mb => some (mIf mc ma mb)
      | _, _, _ => none) else none
    | .List es _ => (dO n Γ es).map mLst
    | .Tuple es _ _ => (dA n Γ es).map mTup
    | .Subscript a k _ => (match k with
      | .Slice lo hi none _ => (match dE n Γ a, dP n Γ lo, dP n Γ hi with
        | some ma, some ml, some mh => some (mSl ma ml mh)
        | _, _, _ => none)
      | _ => if isSlice k then none else (match dE n Γ a, dE n Γ k with
        | some ma, some mk => some (mIx ma mk)
        | _, _ => none))
    | .Call (.Name f _) (e :: es) [] _ =>
      if plainN f && glN Γ.nm f then
        (if Γ.bl.contains f then
          (if f = "isinstance" then (match es with
            | [.Name c _] => if glN Γ.nm c && Γ.bl.contains c && plainN c && notStar e then (match tyName c, dE n Γ e with
              | some t, some m => some (mAp (g1 (isTyT t)) (mCons m mNil))
              | _, _ => none) else none
            | _ => none)
          else (match bltG f, dA n Γ (e :: es) with
            | some g, some ms => some (mAp g ms)
            | _, _ => none))
        else (match Γ.fns.lookup f, dA n Γ (e :: es) with
          | some F, some ms => some (mCall F.g ms)
          | _, _ => none))
      else none
    | .ListComp elt [⟨tg, iter, ifs, 0⟩] scope _ => dC n Γ elt tg iter ifs scope
    | _ => none
/-- arguments -/
def dA : Nat → Gm → List Expr → Option (PSt → Option RsL)
  | 0, _, _ => none
  | n + 1, Γ, es => match es with
    | [] => some mNil
    | e :: es => if notStar e then (match dE n Γ e, dA n Γ es with
      | some m, some ms => some (mCons m ms)
      | _, _ => none) else none
/-- items of a list -/
def dO : Nat → Gm → List Expr → Option (PSt → Option RsL)
  | 0, _, _ => none
  | n + 1, Γ, es => match es with
    | [] => some mNil
    | e :: es => if notStar e then (match dE n Γ e, dO n Γ es with
      | some m, some ms => some (mConsO m ms)
      | _, _ => none) else none
def dB : Nat → Gm → BoolOp → List Expr → Option (PSt → Option Rs)
  | 0, _, _, _ => none
  | n + 1, Γ, op, vs => match vs with
    | [] => none
    | [a] => if okT a then dE n Γ a else none
    | a :: r => if okT a then (match op, dE n Γ a, dB n Γ op r with
      | .And, some ma, some mb => some (mAnd ma mb)
      | .Or, some ma, some mb => some (mOr ma mb)
      | _, _, _ => none) else none
def dP : Nat → Gm → Option Expr → Option (Option (PSt → Option Rs))
  | 0, _, _ => none
  | n + 1, Γ, o => match o with
    | none => some none
    | some e => (dE n Γ e).map some
/-- a comprehension -/
def dC : Nat → Gm → Expr → Expr → Expr → List Expr → Scope → Option (PSt → Option Rs)
  | 0, _, _, _, _, _, _ => none
  | n + 1, Γ, elt, tg, iter, ifs, scope =>
    if blkOk Γ scope (tgN tg ++ frees scope.names) then (match capIx Γ.N (frees scope.names), dI n Γ tg iter, dG (Γ.blk scope (tgN tg ++ frees scope.names)) tg, dE n (Γ.blk scope (tgN tg ++ frees scope.names)) elt with
      | some caps, some mi, some b, some me => (match ifs with
        | [] => some (mLC (tgN tg).length caps mi b (mC (.bl true)) me)
        | [c] => if okT c then (match dE n (Γ.blk scope (tgN tg ++ frees scope.names)) c with
          | some mt => some (mLC (tgN tg).length caps mi b mt me)
          | none => none) else none
        | _ => none)
      | _, _, _, _ => none) else none
/-- what is walked -/
def dI : Nat → Gm → Expr → Expr → Option (PSt → Option RsL)
  | 0, _, _, _ => none
  | n + 1, Γ, tg, e => match e with
    | .Call (.Name f _) [a] [] _ =>
      if f = "range" then (if glN Γ.nm f && Γ.bl.contains f && notStar a then (dA n Γ [a]).map iRange1 else none)
      else if f = "enumerate" then (if glN Γ.nm f && Γ.bl.contains f && notStar a && isTupE tg then (dA n Γ [a]).map iEnumT else none)
      else (dE n Γ e).map iVal
    | .Call (.Name f _) [a, b] [] _ =>
      if f = "range" then (if glN Γ.nm f && Γ.bl.contains f && notStar a && notStar b then (dA n Γ [a, b]).map iRange2 else none)
      else if f = "zip" then (if glN Γ.nm f && Γ.bl.contains f && notStar a && notStar b && isTupE tg then (dA n Γ [a, b]).map iZipT else none)
      else (dE n Γ e).map iVal
    | .Set .. => none
    | _ => (dE n Γ e).map iVal
end
end Pu

set_option Elab.async false
set_option linter.all false
set_option maxRecDepth 100000
namespace Pu
open PySem PySem.Spec PyProof.Rows L2 Zw Zx

structure CxOk (Γ : Gm) (X : Cx) (E : L2.St → XK) (ca : Str → Value) : Prop where
  N : X.N = Γ.N
  nd : Γ.N.Nodup
  nm : X.env.scope.names = Γ.nm
  kd : X.env.scope.kind = .function
  calm : X.calm = true
  room : Room Γ.lv X.A
  ce : ∀ x ∈ Γ.ce, X.fn x = true ∧ Γ.nm.lookup x = some .cell
  bl : ∀ b ∈ Γ.bl, X.mg b = none
  ps : PassS X E
  po : PassesOwn (model X.prog X.w) X.A X.env X.xe
  md : MadeS X E
  fs : ∀ f F, Γ.fns.lookup f = some F → F.lv ≤ Γ.lv ∧ Nonempty (DefX X.prog X.w X.K X.mg X.base F.lv f F.ps (spP X.K ca F.g))
  ex : ∀ c ∈ Γ.ex, ∃ T : ECls X.K X.mg c, ca c = .ref T.C
theorem ixOf_get {N : List Str} {x : Str} {i : Nat} (h : ixOf N x = some i) : N[i]? = some x := by
  unfold ixOf at h
  obtain ⟨h1, h2, _⟩ := List.findIdx?_eq_some_iff_getElem.mp h
  rw [List.getElem?_eq_getElem h1]
  exact congrArg some (eq_of_beq h2)
theorem plainN_iff {x : Str} (h : plainN x = true) : (x == ("__debug__" : Str)) = false ∧ (x == ("__classdict__" : Str)) = false ∧ x ≠ "__name__" := by
  unfold plainN at h
  simp only [Bool.and_eq_true, Bool.not_eq_true'] at h; exact ⟨h.1.1, h.1.2, fun z => by
    have := h.2
    rw [z] at this
    simp at this⟩
theorem visN_iff {sc : Scope} {x : Str} (h : visN sc.names x = true) : Vis sc x := by
  unfold visN at h
  simp only [Bool.or_eq_true, beq_iff_eq] at h
  rcases h with (h | h) | h
  · exact .inl h
  · exact .inr (.inl h)
  · exact .inr (.inr h)
theorem star_ok {e : Expr} {es : List Expr} {env : Env} (h : notStar e = true) : starEach (e :: es) env = (false, eval e env) :: starEach es env := by
  cases e <;> first | rfl | cases h
theorem star_any : ∀ {es : List Expr} {env : Env} {pos : Pos}, (∀ e ∈ es, notStar e = true) → (backTo pos (starEach es env)).any (·.1) = false
  | [], env, pos, _ => rfl
  | e :: es, env, pos, h => by
    rw [star_ok (h e (List.mem_cons_self ..))]
    have ih := star_any (es := es) (env := env) (pos := pos) fun x hx => h x (List.mem_cons_of_mem _ hx)
    show (false || (backTo pos (starEach es env)).any (·.1)) = false
    rw [ih]
    rfl
theorem dA_stars : ∀ {n : Nat} {Γ : Gm} {es : List Expr} {ms : PSt → Option RsL}, dA n Γ es = some ms → ∀ e ∈ es, notStar e = true
  | 0, _, _, _, h => by cases h
  | n + 1, Γ, [], _, _ => fun e he => by cases he
  | n + 1, Γ, e :: es, ms, h => by
    unfold dA at h
    simp only at h
    split at h
    · rename_i hs
      split at h
      · rename_i m ms' h1 h2
        intro x hx; rcases List.mem_cons.mp hx with rfl | hx
        · exact hs
        · exact dA_stars h2 x hx
      · cases h
    · cases h
section
variable {Γ : Gm} {X : Cx} {E : L2.St → XK} {ca : Str → Value}
theorem CxOk.var (C : CxOk Γ X E ca) {x : Str} {i : Nat} {pos : Pos} (h : Γ.var x = some i) : X.N[i]? = some x ∧ Vis X.env.scope x ∧ (x == ("__debug__" : Str)) = false ∧ (x == ("__classdict__" : Str)) = false := by
  unfold Gm.var at h
  split at h
  · rename_i hp
    rw [Bool.and_eq_true] at hp
    obtain ⟨p1, p2, p3⟩ := plainN_iff hp.1
    exact ⟨by rw [C.N]; exact ixOf_get h, visN_iff (by rw [C.nm]; exact hp.2), p1, p2⟩
  · cases h
theorem CxOk.gl (C : CxOk Γ X E ca) {x : Str} (h : glN Γ.nm x = true) : Gl X x := by
  unfold glN at h
  show X.env.scope.names.lookup x = some .globalImplicit
  rw [C.nm]
  exact eq_of_beq h
theorem CxOk.loc (C : CxOk Γ X E ca) {x : Str} {i : Nat} (h : Γ.loc x = true) (hi : ixOf Γ.N x = some i) : X.N[i]? = some x ∧ Loc X.env.scope x ∧ (X.fn x = true ∨ X.env.scope.names.lookup x = some .local) := by
  unfold Gm.loc at h
  simp only [Bool.and_eq_true, Bool.or_eq_true, beq_iff_eq] at h
  refine ⟨by rw [C.N]; exact ixOf_get hi, ?_⟩
  rcases h.2 with h | h
  · exact ⟨.inl (by rw [C.nm]; exact h), .inr (by rw [C.nm]; exact h)⟩
  · obtain ⟨c1, c2⟩ := C.ce x (List.contains_iff_mem.mp h)
    exact ⟨.inr (by rw [C.nm]; exact c2), .inl c1⟩
theorem CxOk.nodup (C : CxOk Γ X E ca) : X.N.Nodup := by rw [C.N]; exact C.nd
theorem dG_ok (C : CxOk Γ X E ca) {tg : Expr} {b : T → PSt → Option PSt} (h : dG Γ tg = some b) : PG X tg (tGM X.K b) := by
  have nm : ∀ {x : Str} {i : Nat} {pos : Pos}, Γ.loc x = true → ixOf Γ.N x = some i → PG X (.Name x pos) (tGM X.K (bNm i)) := fun h1 h2 => by
    obtain ⟨g1, g2, g3⟩ := C.loc h1 h2
    exact g_nm C.nodup g1 g2 g3
  unfold dG at h
  split at h
  · split at h
    · rename_i hl
      obtain ⟨i, hi, rfl⟩ := Option.map_eq_some_iff.mp h
      exact nm hl hi
    · cases h
  · split at h
    · rename_i hl
      split at h
      · rename_i i hi
        cases h
        exact g_tup C.calm (g_cons (nm hl hi) g_nil rfl) rfl rfl
      · cases h
    · cases h
  · split at h
    · rename_i hl
      rw [Bool.and_eq_true] at hl
      split at h
      · rename_i i j hi hj
        cases h
        exact g_tup C.calm (g_cons (nm hl.1 hi) (g_cons (nm hl.2 hj) g_nil rfl) rfl) rfl rfl
      · cases h
    · cases h
  · split at h
    · rename_i hl
      rw [Bool.and_eq_true, Bool.and_eq_true] at hl
      split at h
      · rename_i i j k hi hj hk
        cases h
        exact g_tup C.calm (g_cons (nm hl.1.1 hi) (g_cons (nm hl.1.2 hj) (g_cons (nm hl.2 hk) g_nil rfl) rfl) rfl) rfl rfl
      · cases h
    · cases h
  · split at h
    · rename_i hl
      rw [Bool.and_eq_true, Bool.and_eq_true, Bool.and_eq_true] at hl
      split at h
      · rename_i i j k l hi hj hk hll
        cases h
        exact g_tup C.calm (g_cons (nm hl.1.1.1 hi) (g_cons (nm hl.1.1.2 hj) (g_cons (nm hl.1.2 hk) (g_cons (nm hl.2 hll) g_nil rfl) rfl) rfl) rfl) rfl rfl
      · cases h
    · cases h
  · cases h
theorem opF_ok {op : Operator} {g : T → T → Option T} (h : opF op = some g) : OpR X (binaryOp op) (rT2 X.K g) := by
  cases op <;> cases h
  · exact opT_add
  · exact opT_sub
  · exact opT_mul
  · exact opT_mod
  · exact opT_pow
  · exact opT_bor
  · exact opT_band
  · exact opT_fdiv
theorem cmpF_ok (C : CxOk Γ X E ca) {op : CmpOp} {g : T → T → Option T} (h : cmpF op = some g) : OpR X (compareOp op) (rT2 X.K g) := by
  have hu := C.room.units
  cases op <;> cases h
  · exact opT_eq hu
  · exact opT_ne hu
  · exact opT_cmp op_lt
  · exact opT_cmp op_le
  · exact opT_cmp op_gt
  · exact opT_cmp op_ge
  · exact opT_is
  · exact opT_isNot
  · exact opT_in hu
  · exact opT_notIn hu
theorem bltG_ok (C : CxOk Γ X E ca) {f : Str} {g : List T → Option T} {e : Expr} {es : List Expr} {ms : PSt → Option RsL} {p pos : Pos} (h : bltG f = some g) (hg : glN Γ.nm f = true) (hb : f ∈ Γ.bl) (ha : PA X (e :: es) (tMs X.K E ca ms)) (hs : ∀ x ∈ e :: es, notStar x = true) (hp : plainN f = true) :
    PE X (.Call (.Name f p) (e :: es) [] pos) (tM X.K E ca (mAp g ms)) := by
  have G := C.gl hg
  have B := C.bl f hb
  obtain ⟨p1, p2, p3⟩ := plainN_iff hp
  have s1 := star_ok (es := es) (env := X.env) (hs e (List.mem_cons_self ..))
  have s2 := star_any (env := X.env) (pos := pos) fun x hx => hs x (List.mem_cons_of_mem e hx)
  unfold bltG at h
  split at h
  · rename_i hf; subst hf; cases h; exact r_bltF callT_len G B PySem.boot_len ha p3 p1 s1 s2
  split at h
  · rename_i hf; subst hf; cases h; exact r_bltT callT_list G B PyProof.Rows.boot_list ha p3 p1 s1 s2
  split at h
  · rename_i hf; subst hf; cases h; exact r_bltF callT_abs G B PyProof.Rows.boot_abs ha p3 p1 s1 s2
  split at h
  · rename_i hf; subst hf; cases h; exact r_bltT callT_int G B PyProof.Rows.boot_int ha p3 p1 s1 s2
  split at h
  · rename_i hf; subst hf; cases h; exact r_bltT callT_str G B PyProof.Rows.boot_str ha p3 p1 s1 s2
  split at h
  · rename_i hf; subst hf; cases h; exact r_bltF (callT_min C.calm) G B PyProof.Rows.boot_min ha p3 p1 s1 s2
  split at h
  · rename_i hf; subst hf; cases h; exact r_bltF (callT_max C.calm) G B PyProof.Rows.boot_max ha p3 p1 s1 s2
  split at h
  · rename_i hf; subst hf; cases h; exact r_bltF (callT_all C.calm) G B PyProof.Rows.boot_all ha p3 p1 s1 s2
  split at h
  · rename_i hf; subst hf; cases h; exact r_bltF (callT_any C.calm) G B PyProof.Rows.boot_any ha p3 p1 s1 s2
  · cases h
theorem tyName_ok {c : Str} {t : String} (h : tyName c = some t) : bootBuiltins c = some (.type t) := by
  unfold tyName at h
  split at h
  · rename_i hf; subst hf; cases h; exact PyProof.Rows.boot_int
  split at h
  · rename_i hf; subst hf; cases h; exact PyProof.Rows.boot_bool
  split at h
  · rename_i hf; subst hf; cases h; exact PyProof.Rows.boot_str
  split at h
  · rename_i hf; subst hf; cases h; exact PyProof.Rows.boot_list
  split at h
  · rename_i hf; subst hf; cases h; exact PyProof.Rows.boot_tuple
  · cases h
theorem capIx_get {N : List Str} : ∀ {ys : List Str} {caps : List Nat}, capIx N ys = some caps → ys.length = caps.length ∧ ∀ (k j : Nat), caps[k]? = some j → ∃ y, ys[k]? = some y ∧ N[j]? = some y
  | [], caps, h => by cases h; exact ⟨rfl, fun k j e => by simp at e⟩
  | y :: r, caps, h => by
    unfold capIx at h
    split at h
    · rename_i i hi
      split at h
      · rename_i l hl
        cases h
        obtain ⟨h1, h2⟩ := capIx_get hl
        refine ⟨by simp [h1], fun k j e => ?_⟩
        cases k with
        | zero => simp at e; subst e; exact ⟨y, rfl, ixOf_get hi⟩
        | succ k => exact h2 k j (by simpa using e)
      · cases h
    · cases h
theorem frees_mem {nm : List (Str × NameKind)} {y : Str} (h : y ∈ frees nm) : (y, NameKind.free) ∈ nm := by
  unfold frees at h
  obtain ⟨⟨z, k⟩, hz, e⟩ := List.mem_filterMap.mp h
  simp only at e
  split at e
  · rename_i hk
    cases e
    rw [← eq_of_beq hk]
    exact hz
  · cases e
theorem blk_ok (C : CxOk Γ X E ca) {scope : Scope} {tg : Expr} {caps : List Nat} (h : blkOk Γ scope (tgN tg ++ frees scope.names) = true) (hc : capIx Γ.N (frees scope.names) = some caps) : BlkOk X scope (tgN tg ++ frees scope.names) (tgN tg).length caps := by
  unfold blkOk at h
  simp only [Bool.and_eq_true] at h; obtain ⟨⟨⟨⟨h1, h2⟩, h3⟩, h4⟩, h5⟩ := h
  obtain ⟨l1, l2⟩ := capIx_get hc
  have free : ∀ y ∈ scope.names, y.2 = .free → scope.names.lookup y.1 = some .free ∧ (Γ.nm.lookup y.1 = some .cell ∨ Γ.nm.lookup y.1 = some .free) ∧ (y.1, NameKind.cell) ∉ scope.names := fun y hy hf => by
    have q := List.all_eq_true.mp h3 y hy
    simp only [hf, beq_self_eq_true, Bool.not_true, Bool.false_or, Bool.and_eq_true, beq_iff_eq, Bool.or_eq_true, Bool.not_eq_true'] at q
    refine ⟨q.1.1, q.1.2, fun z => ?_⟩
    have := List.contains_iff_mem.mpr z
    rw [this] at q
    exact Bool.noConfusion q.2
  refine ⟨eq_of_beq h1, fun y hy hl => ?_, by simp [l1], fun k j e => ?_, fun y hy hf => ?_⟩
  · have q := List.all_eq_true.mp h2 y hy
    simp only [hl, beq_self_eq_true, Bool.not_true, Bool.false_or, beq_iff_eq] at q
    exact q
  · obtain ⟨y, e1, e2⟩ := l2 k j e
    have fm := frees_mem (List.mem_of_getElem? e1)
    obtain ⟨f1, _, f3⟩ := free _ fm rfl
    refine ⟨y, by rw [C.N]; exact e2, ?_, f1, f3⟩
    rw [List.getElem?_append_right (by omega)]
    simpa using e1
  · obtain ⟨f1, f2, _⟩ := free y hy hf
    refine ⟨f1, ?_⟩
    rw [C.nm]
    exact f2
theorem relab_eq {scope : Scope} {env : Env} (hk : env.scope.kind = .function) : (relabel scope env).names = relabN scope.names env.scope.names := by
  unfold relabel relabN
  simp only
  refine List.map_congr_left fun x hx => ?_
  obtain ⟨n, k⟩ := x
  have e : (env.scope.kind == ScopeKind.function) = true := by rw [hk]; rfl
  simp only [e, Bool.and_true]
  rfl
theorem blk_cx (C : CxOk Γ X E ca) {scope : Scope} {N' : List Str} (h : blkOk Γ scope N' = true) (cl : List (Str × Addr)) (A : Addr) (s₀ : Shared) (H₀ : Hp) (ex : List Addr) : CxOk (Γ.blk scope N') (compCx2 X scope cl N' A s₀ H₀ ex) E00 ca := by
  unfold blkOk at h
  simp only [Bool.and_eq_true] at h; obtain ⟨⟨⟨⟨h1, h2⟩, h3⟩, h4⟩, h5⟩ := h
  refine ⟨rfl, of_decide_eq_true h4, ?_, ?_, C.calm, C.room, fun x hx => ?_, C.bl, ?_, PassesOwn.never, ?_, C.fs, C.ex⟩
  · show (relabel scope X.env).names = relabN scope.names Γ.nm
    rw [relab_eq C.kd, C.nm]
  · show scope.kind = .function
    exact eq_of_beq h1
  · have hx' : x ∈ (cellsN scope.names).filter fun y => scope.names.lookup y == some .cell := hx
    rw [List.mem_filter] at hx'
    refine ⟨decide_eq_true (eq_of_beq hx'.2), ?_⟩
    exact eq_of_beq (List.all_eq_true.mp h5 x hx'.1)
  · exact pass00
  · exact fun _ _ _ _ _ _ _ _ _ _ z => z.elim
end
/-- the promise of all of these -/
structure Good (ca : Str → Value) (n : Nat) : Prop where
  e : ∀ {Γ : Gm} {X : Cx} {E : L2.St → XK} {e : Expr} {m : PSt → Option Rs}, CxOk Γ X E ca → dE n Γ e = some m → PE X e (tM X.K E ca m)
  t : ∀ {Γ : Gm} {X : Cx} {E : L2.St → XK} {e : Expr} {m : PSt → Option Rs}, CxOk Γ X E ca → okT e = true → dE n Γ e = some m → PT X e (tMB X.K E ca m)
  a : ∀ {Γ : Gm} {X : Cx} {E : L2.St → XK} {es : List Expr} {m : PSt → Option RsL}, CxOk Γ X E ca → dA n Γ es = some m → PA X es (tMs X.K E ca m)
  o : ∀ {Γ : Gm} {X : Cx} {E : L2.St → XK} {es : List Expr} {m : PSt → Option RsL}, CxOk Γ X E ca → dO n Γ es = some m → PA X es (tMo X.K E ca m)
  b : ∀ {Γ : Gm} {X : Cx} {E : L2.St → XK} {op : BoolOp} {es : List Expr} {m : PSt → Option Rs} {pos : Pos}, CxOk Γ X E ca → dB n Γ op es = some m → PE X (.BoolOp op es pos) (tM X.K E ca m) ∧ PW X (.BoolOp op es pos) (tMB X.K E ca m)
  p : ∀ {Γ : Gm} {X : Cx} {E : L2.St → XK} {o : Option Expr} {m : Option (PSt → Option Rs)}, CxOk Γ X E ca → dP n Γ o = some m → PO X o (tPo X.K m)
  c : ∀ {Γ : Gm} {X : Cx} {E : L2.St → XK} {elt tg iter : Expr} {ifs : List Expr} {scope : Scope} {m : PSt → Option Rs} {pos : Pos}, CxOk Γ X E ca → dC n Γ elt tg iter ifs scope = some m → PE X (.ListComp elt [⟨tg, iter, ifs, 0⟩] scope pos) (tM X.K E ca m)
  i : ∀ {Γ : Gm} {X : Cx} {E : L2.St → XK} {tg e : Expr} {m : PSt → Option RsL}, CxOk Γ X E ca → dI n Γ tg e = some m → PI X tg e (tI X.K E ca m)
end Pu

set_option Elab.async false
set_option linter.all false
set_option maxRecDepth 100000
namespace Pu
open PySem PySem.Spec PyProof.Rows L2 Zw Zx

def notSet : Expr → Bool
  | .Set .. => false
  | _ => true
theorem fold_ok {e : Expr} {env : Env} (h : notSet e = true) (x : Value) : foldedSetIterable e env x = pure x := by
  cases e <;> first | rfl | cases h
theorem dI_notSet : ∀ {n : Nat} {Γ : Gm} {tg e : Expr} {m : PSt → Option RsL}, dI n Γ tg e = some m → notSet e = true := by
  intro n Γ tg e m h
  cases n with
  | zero => cases h
  | succ n =>
    cases e with
    | Set es k p => unfold dI at h; cases h
    | _ => rfl
theorem plain_ix {k : Expr} (h : isSlice k = false) : PlainIx k := fun o i => by
  cases k <;> first | rfl | cases h
theorem tval_ok {e : Expr} {env : Env} (h : match e with | .UnaryOp .. => False | .BoolOp .. => False | .IfExp .. => False | .Compare .. => False | _ => True) (whole : Sem Value) : isTrue e env whole = (do let v ← whole; standAt e.pos; holding [v] (truthy v)) := by
  cases e <;> first | rfl | exact False.elim h
section
variable {ca : Str → Value} {n : Nat}
/-- the parts of a comprehension -/
theorem dC_parts (G : Good ca n) {Γ : Gm} {X : Cx} {E : L2.St → XK} {elt tg iter : Expr} {ifs : List Expr} {scope : Scope} {m : PSt → Option Rs} (C : CxOk Γ X E ca) (h : dC (n + 1) Γ elt tg iter ifs scope = some m) :
    ∃ caps mi b mt me, m = mLC (tgN tg).length caps mi b mt me ∧ BlkOk X scope (tgN tg ++ frees scope.names) (tgN tg).length caps ∧ PI X tg iter (tI X.K E ca mi) ∧
      (∀ cl A s₀ H₀ ex, PG (compCx2 X scope cl (tgN tg ++ frees scope.names) A s₀ H₀ ex) tg (tGM X.K b)) ∧ (∀ cl A s₀ H₀ ex, PTs (compCx2 X scope cl (tgN tg ++ frees scope.names) A s₀ H₀ ex) ifs (tMB X.K E00 ca mt)) ∧
      (∀ cl A s₀ H₀ ex, PE (compCx2 X scope cl (tgN tg ++ frees scope.names) A s₀ H₀ ex) elt (tM X.K E00 ca me)) ∧ ∀ x, foldedSetIterable iter X.env x = pure x := by
  unfold dC at h
  split at h
  · rename_i hb
    split at h
    · rename_i caps mi b me h1 h2 h3 h4
      have B := blk_ok C hb h1
      have PB := fun cl A s₀ H₀ ex => dG_ok (blk_cx C hb cl A s₀ H₀ ex) h3
      have PEl := fun cl A s₀ H₀ ex => G.e (blk_cx C hb cl A s₀ H₀ ex) h4
      split at h
      · cases h
        exact ⟨caps, mi, b, _, me, rfl, B, G.i C h2, PB, fun cl A s₀ H₀ ex => fun pins s σ H Q I q => pts_nil pins s σ H Q I (tMB_c (K := X.K) (E := E00) (ca := ca) q), PEl, fold_ok (dI_notSet h2)⟩
      · split at h
        · rename_i hok
          split at h
          · rename_i mt h5
            cases h
            exact ⟨caps, mi, b, mt, me, rfl, B, G.i C h2, PB, fun cl A s₀ H₀ ex => pts_one (G.t (blk_cx C hb cl A s₀ H₀ ex) hok h5), PEl, fold_ok (dI_notSet h2)⟩
          · cases h
        · cases h
      · cases h
    · cases h
  · cases h
theorem good0 (ca : Str → Value) : Good ca 0 := by
  constructor
  · intro Γ X E e m C h; cases h
  · intro Γ X E e m C _ h; cases h
  · intro Γ X E e m C h; cases h
  · intro Γ X E e m C h; cases h
  · intro Γ X E op e m pos C h; cases h
  · intro Γ X E e m C h; cases h
  · intro Γ X E elt tg iter ifs scope m pos C h; cases h
  · intro Γ X E tg e m C h; cases h
theorem dE_cmp (G : Good ca n) {Γ : Gm} {X : Cx} {E : L2.St → XK} {a : Expr} {ops : List CmpOp} {bs : List Expr} {pos : Pos} {m : PSt → Option Rs} (C : CxOk Γ X E ca) (h : dE (n + 1) Γ (.Compare a ops bs pos) = some m) :
    PE X (.Compare a ops bs pos) (tM X.K E ca m) ∧ PT X (.Compare a ops bs pos) (tMB X.K E ca m) := by
  unfold dE at h
  split at h <;> first | (rename_i z; cases z; done) | skip
  all_goals first
    | (rename_i e1; cases e1
       split at h
       · rename_i g ma mb h1 h2 h3
         split at h
         · cases h
         · rename_i hm
           cases h
           have hm' := Bool.eq_false_iff.mpr hm
           exact ⟨r_cmp (cmpF_ok C h1) (G.e C h2) (G.e C h3) hm', r_tcmp (cmpF_ok C h1) (G.e C h2) (G.e C h3) hm'⟩
       · cases h)
    | cases h
end
end Pu

set_option Elab.async false
set_option linter.all false
set_option maxRecDepth 100000
namespace Pu
open PySem PySem.Spec PyProof.Rows L2 Zw Zx
section
variable {ca : Str → Value} {n : Nat}
theorem dE_ok (G : Good ca n) {Γ : Gm} {X : Cx} {E : L2.St → XK} {e : Expr} {m : PSt → Option Rs} (C : CxOk Γ X E ca) (h : dE (n + 1) Γ e = some m) : PE X e (tM X.K E ca m) ∧ (okT e = true → PT X e (tMB X.K E ca m)) := by
  have val : ∀ {e : Expr} {m : PSt → Option Rs}, PE X e (tM X.K E ca m) → (match e with | .UnaryOp .. => False | .BoolOp .. => False | .IfExp .. => False | .Compare .. => False | _ => True) → PE X e (tM X.K E ca m) ∧ (okT e = true → PT X e (tMB X.K E ca m)) := fun h1 h2 => ⟨h1, fun _ => r_tval h1 (tval_ok h2)⟩
  cases e with
  | Compare a ops bs pos => exact ⟨(dE_cmp G C h).1, fun _ => (dE_cmp G C h).2⟩
  | Constant c k pos =>
    cases c with
    | int i => unfold dE at h; cases h; exact val (r_const pe_int fun _ _ => .int i) trivial
    | bool b => unfold dE at h; cases h; exact val (r_const pe_bl fun _ _ => .bl b) trivial
    | none => unfold dE at h; cases h; exact val (r_const pe_non fun _ _ => .non) trivial
    | str x => unfold dE at h; cases h; exact val (r_const pe_str fun _ _ => .str x) trivial
    | _ => unfold dE at h; cases h
  | Name x pos =>
    unfold dE at h
    obtain ⟨i, hi, rfl⟩ := Option.map_eq_some_iff.mp h
    obtain ⟨h1, h2, h3, h4⟩ := C.var (pos := pos) hi
    exact val (r_var h1 h2 h3 h4) trivial
  | BinOp a op b pos =>
    unfold dE at h
    simp only at h
    split at h
    · rename_i g ma mb h1 h2 h3
      cases h
      exact val (r_bin (opF_ok h1) (G.e C h2) (G.e C h3)) trivial
    · cases h
  | UnaryOp op a pos =>
    cases op with
    | USub =>
      unfold dE at h
      simp only at h
      split at h
      · rename_i ma h1
        cases h
        have hp := r_un (pos := pos) unT_neg (G.e C h1)
        exact ⟨hp, fun _ => r_tval hp fun _ => rfl⟩
      · cases h
    | Not =>
      unfold dE at h
      simp only at h
      split at h
      · rename_i hok
        obtain ⟨ma, h1, rfl⟩ := Option.map_eq_some_iff.mp h
        exact ⟨r_not (G.e C h1), fun _ => r_tnot (G.t C hok h1)⟩
      · cases h
    | _ => unfold dE at h; cases h
  | BoolOp op vs pos =>
    unfold dE at h
    simp only at h
    obtain ⟨h1, h2⟩ := G.b (pos := pos) C h
    exact ⟨h1, fun _ => h2.pt⟩
  | IfExp c a b pos =>
    unfold dE at h
    simp only at h
    split at h
    · rename_i hok
      split at h
      · rename_i mc ma mb h1 h2 h3
        cases h
        exact ⟨r_ife (G.t C hok h1) (G.e C h2) (G.e C h3), fun z => by cases z⟩
      · cases h
    · cases h
  | List es pos =>
    unfold dE at h
    obtain ⟨ms, h1, rfl⟩ := Option.map_eq_some_iff.mp h
    exact val (r_lst (G.o C h1)) trivial
  | Tuple es k pos =>
    unfold dE at h
    obtain ⟨ms, h1, rfl⟩ := Option.map_eq_some_iff.mp h
    exact val (r_tup (G.a C h1)) trivial
  | Subscript a k pos =>
    unfold dE at h
    simp only at h
    split at h
    · rename_i lo hi p2
      split at h
      · rename_i ma ml mh h1 h2 h3
        cases h
        exact val (r_slice (G.e C h1) (G.p C h2) (G.p C h3)) trivial
      · cases h
    · split at h
      · cases h
      · rename_i hs
        split at h
        · rename_i ma mk h1 h2
          cases h
          exact val (r_ix (G.e C h1) (G.e C h2) (plain_ix (Bool.eq_false_iff.mpr hs))) trivial
        · cases h
  | ListComp elt gens scope pos =>
    unfold dE at h
    split at h <;> first | (rename_i z; cases z; done) | skip
    all_goals first
      | (rename_i e1; cases e1; exact val (G.c C h) trivial)
      | cases h
  | Call f args kws pos =>
    cases f with
    | Name f p =>
      cases args with
      | nil => unfold dE at h; cases h
      | cons e es =>
        cases kws with
        | cons _ _ => unfold dE at h; cases h
        | nil =>
          unfold dE at h
          simp only at h
          split at h
          · rename_i hp
            rw [Bool.and_eq_true] at hp
            split at h
            · rename_i hb
              have hb' : f ∈ Γ.bl := List.contains_iff_mem.mp hb
              split at h
              · rename_i hf
                subst hf
                split at h
                · rename_i c p2
                  split at h
                  · rename_i hc
                    simp only [Bool.and_eq_true] at hc; split at h
                    · rename_i t m' h1 h2
                      cases h
                      obtain ⟨q1, q2, q3⟩ := plainN_iff hc.1.2
                      exact val (r_isT (tyName_ok h1) (C.gl hp.2) (C.bl _ hb') (C.gl hc.1.1.1) (C.bl _ (List.contains_iff_mem.mp hc.1.1.2)) q3 q1 (G.e C h2) (star_ok hc.2)) trivial
                    · cases h
                  · cases h
                · cases h
              · split at h
                · rename_i g ms h1 h2
                  cases h
                  exact val (bltG_ok C h1 hp.2 hb' (G.a C h2) (dA_stars h2) hp.1) trivial
                · cases h
            · split at h
              · rename_i F ms h1 h2
                cases h
                obtain ⟨hl, ⟨D⟩⟩ := C.fs f F h1
                obtain ⟨q1, q2, q3⟩ := plainN_iff hp.1
                have hst := dA_stars h2
                exact val (r_call D C.room C.ps (G.a C h2) hl (C.gl hp.2) q1 (star_ok (hst e (List.mem_cons_self ..))) (star_any fun x hx => hst x (List.mem_cons_of_mem e hx))) trivial
              · cases h
          · cases h
    | _ => unfold dE at h; cases h
  | _ => unfold dE at h; cases h
theorem goodS (G : Good ca n) : Good ca (n + 1) := by
  constructor
  · intro Γ X E e m C h; exact (dE_ok G C h).1
  · intro Γ X E e m C hok h; exact (dE_ok G C h).2 hok
  · intro Γ X E es m C h
    unfold dA at h
    cases es with
    | nil => cases h; exact r_nil
    | cons e es =>
      simp only at h
      split at h
      · rename_i hs
        split at h
        · rename_i m1 ms h1 h2
          cases h
          exact r_cons (G.e C h1) (G.a C h2) (star_ok hs)
        · cases h
      · cases h
  · intro Γ X E es m C h
    unfold dO at h
    cases es with
    | nil => cases h; exact r_nilO
    | cons e es =>
      simp only at h
      split at h
      · rename_i hs
        split at h
        · rename_i m1 ms h1 h2
          cases h
          exact r_consO (G.e C h1) (G.o C h2) (star_ok hs)
        · cases h
      · cases h
  · intro Γ X E op es m pos C h
    unfold dB at h
    cases es with
    | nil => cases h
    | cons a r =>
      cases r with
      | nil =>
        simp only at h
        split at h
        · rename_i hok
          refine ⟨r_one (G.e C h), ?_⟩
          cases op with
          | And => exact r_wone1 (G.t C hok h)
          | Or => exact r_wone2 (G.t C hok h)
        · cases h
      | cons b r =>
        simp only at h
        split at h
        · rename_i hok
          split at h
          · rename_i ma mb h1 h2
            cases h
            obtain ⟨b1, b2⟩ := G.b (pos := pos) C h2
            exact ⟨r_and (G.e C h1) b1, r_wand (G.t C hok h1) b2⟩
          · rename_i ma mb h1 h2
            cases h
            obtain ⟨b1, b2⟩ := G.b (pos := pos) C h2
            exact ⟨r_or (G.e C h1) b1, r_wor (G.t C hok h1) b2⟩
          · cases h
        · cases h
  · intro Γ X E o m C h
    unfold dP at h
    cases o with
    | none => cases h; exact r_po0
    | some e =>
      simp only at h
      obtain ⟨m1, h1, rfl⟩ := Option.map_eq_some_iff.mp h
      exact r_po1 (G.e C h1)
  · intro Γ X E elt tg iter ifs scope m pos C h
    obtain ⟨caps, mi, b, mt, me, rfl, B, hi, hg, ht, he, hs⟩ := dC_parts G C h
    exact r_lcV B C.calm hi hg ht he hs
  · intro Γ X E tg e m C h
    have gen : ∀ {m : PSt → Option RsL}, (dE n Γ e).map iVal = some m → PI X tg e (tI X.K E ca m) := fun h => by
      obtain ⟨m1, h1, rfl⟩ := Option.map_eq_some_iff.mp h
      exact r_iVal (G.e C h1)
    unfold dI at h
    split at h
    · rename_i f p a pos
      split at h
      · rename_i hf
        subst hf
        split at h
        · rename_i hc
          simp only [Bool.and_eq_true] at hc; obtain ⟨ms, h1, rfl⟩ := Option.map_eq_some_iff.mp h
          exact r_range1 (C.gl hc.1.1) (C.bl _ (List.contains_iff_mem.mp hc.1.2)) (G.a C h1) (star_ok hc.2)
        · cases h
      · split at h
        · rename_i hf
          subst hf
          split at h
          · rename_i hc
            simp only [Bool.and_eq_true] at hc; obtain ⟨ms, h1, rfl⟩ := Option.map_eq_some_iff.mp h
            cases tg with
            | Tuple elts kk tpos => exact r_enum (C.gl hc.1.1.1) (C.bl _ (List.contains_iff_mem.mp hc.1.1.2)) (G.a C h1) (star_ok hc.1.2)
            | _ => exact Bool.noConfusion hc.2
          · cases h
        · exact gen h
    · rename_i f p a b pos
      split at h
      · rename_i hf
        subst hf
        split at h
        · rename_i hc
          simp only [Bool.and_eq_true] at hc; obtain ⟨ms, h1, rfl⟩ := Option.map_eq_some_iff.mp h
          have s2 := star_ok (es := []) (env := X.env) hc.2
          exact r_range2 (C.gl hc.1.1.1) (C.bl _ (List.contains_iff_mem.mp hc.1.1.2)) (G.a C h1) (by rw [star_ok hc.1.2, s2]; rfl) s2
        · cases h
      · split at h
        · rename_i hf
          subst hf
          split at h
          · rename_i hc
            simp only [Bool.and_eq_true] at hc; obtain ⟨ms, h1, rfl⟩ := Option.map_eq_some_iff.mp h
            have s2 := star_ok (es := []) (env := X.env) hc.1.2
            cases tg with
            | Tuple elts kk tpos => exact r_zip (C.gl hc.1.1.1.1) (C.bl _ (List.contains_iff_mem.mp hc.1.1.1.2)) (G.a C h1) (by rw [star_ok hc.1.1.2, s2]; rfl) s2
            | _ => exact Bool.noConfusion hc.2
          · cases h
        · exact gen h
    · cases h
    · exact gen h
theorem good (ca : Str → Value) : ∀ n, Good ca n
  | 0 => good0 ca
  | n + 1 => goodS (good ca n)
end
end Pu

set_option Elab.async false
set_option linter.all false
set_option maxRecDepth 100000
namespace Pu
open PySem PySem.Spec PyProof.Rows L2 Zw Zx

/-! ### which names' own things a statement needs shared -/
def pkB : List Str := ["len", "isinstance", "all", "any", "abs", "min", "max", "int"]
def useE : Nat → List Str → Expr → List Str
  | 0, _, _ => []
  | n + 1, pk, e =>
    let peek := fun (x : Expr) => match x with
      | .Name _ _ => []
      | x => useE n pk x
    match e with
    | .Name x _ => [x]
    | .BinOp a _ b _ => useE n pk a ++ useE n pk b
    | .UnaryOp _ a _ => useE n pk a
    | .BoolOp _ vs _ => vs.flatMap (useE n pk)
    | .Compare a _ bs _ => peek a ++ bs.flatMap peek
    | .IfExp c a b _ => useE n pk c ++ useE n pk a ++ useE n pk b
    | .Call (.Name f _) args [] _ => if pkB.contains f || pk.contains f then args.flatMap peek else args.flatMap (useE n pk)
    | .Subscript a k _ => (match k with
      | .Slice lo hi _ _ => useE n pk a ++ (match lo with | some e => useE n pk e | none => []) ++ (match hi with | some e => useE n pk e | none => [])
      | _ => peek a ++ useE n pk k)
    | .List es _ => es.flatMap (useE n pk)
    | .Tuple es _ _ => es.flatMap (useE n pk)
    | .ListComp _ [⟨_, iter, _, _⟩] scope _ => useE n pk iter ++ frees scope.names
    | _ => []
def useS (pk : List Str) : Stmt → List Str
  | .Expr (.Call (.Attribute (.Name _ _) _ _) [e] [] _) _ => useE 40 pk e
  | .Expr e _ => useE 40 pk e
  | .Return (some (.Name _ _)) _ => []
  | .Return (some e) _ => useE 40 pk e
  | .Assign [.Subscript (.Subscript _ k _) j _] e _ => useE 40 pk k ++ useE 40 pk j ++ useE 40 pk e
  | .Assign [.Subscript _ k _] e _ => useE 40 pk k ++ useE 40 pk e
  | .Assign [_] e _ => useE 40 pk e
  | .If c _ _ _ => useE 40 pk c
  | .For _ it _ _ _ => useE 40 pk it
  | .While c _ _ _ => useE 40 pk c
  | _ => []
def frzs (Γ : Gm) (s : Stmt) : List Nat := ((useS Γ.pk s).filter (Γ.ow.contains ·)).eraseDups.filterMap (ixOf Γ.N)
def frzAll (l : List Nat) (m : PSt → Option Out) : PSt → Option Out := l.foldr (fun i m => sSeq (sFrz i) m) m
def isComp : Expr → Bool
  | .ListComp .. => true
  | .SetComp .. => true
  | .DictComp .. => true
  | _ => false
/-- x = [..], on one line: stored ahead of the block's end -/
def swp (Γ : Gm) (x : Str) (px : Pos) : Expr → Bool
  | .ListComp _ _ scope p => Γ.nm.lookup x == some .local && px.line == p.line && !(scope.names.any fun (n, k) => n == x && (k == .local || k == .cell))
  | _ => false
def sAsg (Γ : Gm) (x : Str) (i : Nat) (m : PSt → Option Rs) : PSt → Option Out := if Γ.ow.contains x then sOwn i m else sSet m (bNm i)
def sRse (c : Str) (ms : PSt → Option RsL) : PSt → Option Out := fun τ => match ms τ with
  | some (.v ts _) => if ts.length ≤ lim then some (.xc c τ) else none
  | some (.x c) => some (.xc c τ)
  | none => none
def par2 (Γ : Gm) (x y : Str) (px py : Pos) (a b : Expr) : Bool :=
  Γ.nm.lookup x == some .local && Γ.nm.lookup y == some .local && px.line == py.line && !(x == y) && notStar a && notStar b && !(foldedForSure 8 a && foldedForSure 8 b) && !(constantsAlone 8 a && constantsAlone 8 b) && plainN x && plainN y
mutual
noncomputable def dS : Nat → Gm → Stmt → Option (PSt → Option Out)
  | 0, _, _ => none
  | n + 1, Γ, s => match s with
    | .Pass _ => some sNx
    | .Break _ => some sBk
    | .Continue _ => some sCt
    | .Return none _ => some sRetN
    | .Return (some e) _ => (dE n Γ e).map sRet
    | .Expr (.Call (.Attribute (.Name x _) f apos) [e] [] cpos) _ =>
      if notStar e && (apos.endLine == cpos.line) then (match Γ.var x, dE n Γ e with
        | some i, some m => if f = "append" then some (sApp i m) else if f = "extend" then some (sExt i m) else none
        | _, _ => none) else none
    | .Expr e _ => if isComp e then none else (dE n Γ e).map sExp
    | .Assign [.Name x px] e _ => if Γ.loc x then (match ixOf Γ.N x, dE n Γ e with
      | some i, some m => if isComp e && !(swp Γ x px e) then none else some (sAsg Γ x i m)
      | _, _ => none) else none
    | .Assign [.Tuple [.Name x px, .Name y py] kt pt] (.Tuple [a, b] k2 p2) _ => if par2 Γ x y px py a b then (match ixOf Γ.N x, ixOf Γ.N y, dA n Γ [a, b] with
      | some i, some j, some ms => some (sPar i j ms)
      | _, _, _ => none) else none
    | .Assign [.Tuple ts kt pt] e _ => if isTupE e || isComp e then none else (match dG Γ (.Tuple ts kt pt), dE n Γ e with
      | some b, some m => some (sSet m b)
      | _, _ => none)
    | .Assign [.Subscript (.Subscript (.Name x _) k _) j _] e _ => if isSlice k || isSlice j || isComp e then none else (match Γ.var x, dE n Γ k, dE n Γ j, dE n Γ e with
      | some i, some mk, some mj, some m => some (sSto2 i mk mj m)
      | _, _, _, _ => none)
    | .Assign [.Subscript (.Name x _) k _] e _ => if isSlice k || isComp e then none else (match Γ.var x, dE n Γ k, dE n Γ e with
      | some i, some mk, some m => some (sSto i mk m)
      | _, _, _ => none)
    | .If c a b _ => if okT c then (match dE n Γ c, dSs n Γ a, dSs n Γ b with
      | some mc, some u, some w => some (sIf mc u w)
      | _, _, _ => none) else none
    | .For tg it body [] _ => (match dI n Γ tg it, dG Γ tg, dSs n Γ body with
      | some mi, some b, some u => some (sFor mi b u)
      | _, _, _ => none)
    | .While c body [] _ => if okT c then (match dE n Γ c, dSs n Γ body with
      | some mc, some u => some (sWh mc u)
      | _, _ => none) else none
    | .Raise (some (.Call (.Name c _) (e :: es) [] _)) none _ => if Γ.ex.contains c && glN Γ.nm c && plainN c then (dA n Γ (e :: es)).map (sRse c) else none
    | _ => none
noncomputable def dSs : Nat → Gm → List Stmt → Option (PSt → Option Out)
  | 0, _, _ => none
  | n + 1, Γ, ss => match ss with
    | [] => some sNx
    | [s] => (match dS n Γ s with
      | some m => some (frzAll (frzs Γ s) m)
      | none => none)
    | s :: r => (match dS n Γ s, dSs n Γ r with
      | some m, some ms => some (frzAll (frzs Γ s) (sSeq m ms))
      | _, _ => none)
end
section
variable {X : Cx} {E : L2.St → XK} {ca : Str → Value} {Γ : Gm}
theorem s_frzAll {rest : List Stmt} {w : PSt → Option Out} (h : PSs X rest (tS X.K E ca w)) : ∀ l : List Nat, PSs X rest (tS X.K E ca (frzAll l w))
  | [] => h
  | i :: r => s_frz (s_frzAll h r)
theorem swap_not {e : Expr} {t : Option Expr} {l : Nat} {env : Env} (h : isComp e = false) : swapsWith e t l env = pure false := by
  cases e <;> first | rfl | cases h
theorem blockKind_fn {env : Env} (h : env.scope.kind = .function) : env.blockKind = .function := by
  unfold Env.blockKind
  rw [h]
  rfl
theorem swap_yes (C : CxOk Γ X E ca) {elt : Expr} {gens : List Comprehension} {scope : Scope} {p px : Pos} {x : Str} {l : Nat} (h : swp Γ x px (.ListComp elt gens scope p) = true) : swapsWith (.ListComp elt gens scope p) (some (.Name x px)) l X.env = pure true := by
  have e : swapsWith (.ListComp elt gens scope p) (some (.Name x px)) l X.env = pure (X.env.blockKind == .function && X.env.kindOf x == some .local && px.line == p.line && !(scope.names.any fun (n, k) => n == x && (k == .local || k == .cell))) := rfl
  rw [e]
  unfold swp at h
  simp only [Bool.and_eq_true] at h; have k : X.env.kindOf x = some .local := by
    show X.env.scope.names.lookup x = some .local
    rw [C.nm]
    exact eq_of_beq h.1.1
  rw [blockKind_fn C.kd, k, h.1.2, h.2]
  rfl
theorem stores_yes (C : CxOk Γ X E ca) {x y : Str} {px py pt p2 : Pos} {kt k2 : Nat} {a b : Expr} (h : par2 Γ x y px py a b = true) : swappedStores [.Tuple [.Name x px, .Name y py] kt pt] (.Tuple [a, b] k2 p2) X.env = pure (some [x, y]) := by
  unfold par2 at h
  simp only [Bool.and_eq_true, Bool.not_eq_true', beq_iff_eq] at h
  obtain ⟨⟨⟨⟨⟨⟨⟨⟨⟨h1, h2⟩, h3⟩, h4⟩, h5⟩, h6⟩, h7⟩, h8⟩, _⟩, _⟩ := h
  have kx : X.env.kindOf x = some .local := by
    show X.env.scope.names.lookup x = some .local
    rw [C.nm]; exact h1
  have ky : X.env.kindOf y = some .local := by
    show X.env.scope.names.lookup y = some .local
    rw [C.nm]; exact h2
  have ed : ([x, y] : List Str).eraseDups = [x, y] := by
    have : (y == x) = false := by
      rw [beq_eq_false_iff_ne] at h4 ⊢
      exact Ne.symm h4
    simp [List.eraseDups_cons, this, h4]
  unfold swappedStores
  simp only [blockKind_fn C.kd, kx, ky]
  simp [kx, ky, h3, h7, h8, Expr.pos, ed]
  intro z
  exfalso
  rcases z with z | z
  · cases a <;> first | (cases h5; done) | (cases z; done)
  · cases b <;> first | (cases h6; done) | (cases z; done)
theorem sole {t e : Expr} {l : Nat} {env : Env} (h : isComp e = false) : swapsWithSole [t] e l env = pure false := swap_not h
theorem sub_asg {o k : Expr} {pos : Pos} {env : Env} (h : isSlice k = false) (v : Value) : assign (.Subscript o k pos) env v = (do
      let ov ← holding [v] (eval o env); let iv ← holding [v, ov] (eval k env)
      standAt pos
      holding [v, ov, iv] (setItem ov iv v)
      release [v, ov, iv] []) := by
  cases k <;> first | rfl | cases h
theorem s_lcS {n : Nat} {elt : Expr} {gens : List Comprehension} {scope : Scope} {p px pos : Pos} {x : Str} {i : Nat} {m : PSt → Option Rs} (C : CxOk Γ X E ca) (h : dE n Γ (.ListComp elt gens scope p) = some m) (hw : swp Γ x px (.ListComp elt gens scope p) = true) (hi : ixOf Γ.N x = some i) :
    PS X (.Assign [.Name x px] (.ListComp elt gens scope p) pos) (tS X.K E ca (sAsg Γ x i m)) := by
  have lx : X.env.scope.names.lookup x = some .local := by
    unfold swp at hw
    simp only [Bool.and_eq_true] at hw
    rw [C.nm]
    exact eq_of_beq hw.1.1
  have hN : X.N[i]? = some x := by rw [C.N]; exact ixOf_get hi
  have main : PS X (.Assign [.Name x px] (.ListComp elt gens scope p) pos) (fun D σ H => tM X.K E ca m σ H fun v H1 => D.nx (σ.set i (some v)) H1) := by
    cases n with
    | zero => cases h
    | succ n =>
      unfold dE at h
      split at h <;> first | (rename_i z; cases z; done) | skip
      all_goals first
        | (rename_i e1
           cases e1
           cases n with
           | zero => cases h
           | succ n =>
             obtain ⟨caps, mi, b, mt, me, rfl, B, hi', hg, ht, he, hs⟩ := dC_parts (good ca n) C h
             exact r_lcS B C.calm hi' hg ht he hs C.nodup hN lx (swap_yes C hw))
        | cases h
  unfold sAsg
  split
  · exact PS.weak main fun D σ H h => tS_own h
  · exact PS.weak main fun D σ H h => tS_set (g := gName i) (fun _ _ _ _ z => gName_of z) h
theorem s_asg {n : Nat} {e : Expr} {px pos : Pos} {x : Str} {i : Nat} {m : PSt → Option Rs} (C : CxOk Γ X E ca) (hl : Γ.loc x = true) (hi : ixOf Γ.N x = some i) (h : dE n Γ e = some m) (hc : (isComp e && !(swp Γ x px e)) = false) :
    PS X (.Assign [.Name x px] e pos) (tS X.K E ca (sAsg Γ x i m)) := by
  cases hcomp : isComp e with
  | false =>
    obtain ⟨g1, g2, g3⟩ := C.loc hl hi
    have he := (good ca n).e C h
    unfold sAsg
    split
    · exact s_ownN C.nodup g1 g2 he (swap_not hcomp) g3
    · exact s_setN C.nodup g1 g2 he (swap_not hcomp) g3
  | true =>
    rw [hcomp] at hc
    have hw : swp Γ x px e = true := by simpa using hc
    cases e with
    | ListComp elt gens scope p => exact s_lcS C h hw hi
    | _ => cases hw
theorem s_rse {c : Str} {e : Expr} {es : List Expr} {ms : PSt → Option RsL} {p cpos pos : Pos} (C : CxOk Γ X E ca) (hc : c ∈ Γ.ex) (hg : glN Γ.nm c = true) (hp : plainN c = true) (ha : PA X (e :: es) (tMs X.K E ca ms)) (hs : ∀ x ∈ e :: es, notStar x = true) :
    PS X (.Raise (some (.Call (.Name c p) (e :: es) [] cpos)) none pos) (tS X.K E ca (sRse c ms)) := by
  obtain ⟨T, hT⟩ := C.ex c hc
  obtain ⟨p1, p2, p3⟩ := plainN_iff hp
  refine PS.weak (ps_raise T C.calm C.md ha (C.gl hg) p1 (star_ok (hs e (List.mem_cons_self ..))) (star_any hs)) fun D σ H h => ?_
  obtain ⟨F, τ, R, S, q⟩ := h
  refine ⟨F, τ, R, S, ?_⟩
  unfold sRse at q
  cases hm : ms τ with
  | none => simp only [hm] at q
  | some r =>
    simp only [hm] at q
    cases r with
    | x c => exact fun F' H' e => q F' H' σ R e.stp0 (S.ext e)
    | v ts b =>
      intro F' H' xs e1 rs
      by_cases hz : ts.length ≤ lim
      · simp only [hz, if_true] at q
        refine ⟨by rw [← rs.1, ← lim_eq]; exact hz, ?_⟩
        have := q F' H' σ R e1.stp0 (S.ext e1)
        rw [hT] at this
        exact this
      · simp only [hz, if_false] at q
structure GoodS (ca : Str → Value) (n : Nat) : Prop where
  s : ∀ {Γ : Gm} {X : Cx} {E : L2.St → XK} {st : Stmt} {m : PSt → Option Out}, CxOk Γ X E ca → dS n Γ st = some m → PS X st (tS X.K E ca m)
  ss : ∀ {Γ : Gm} {X : Cx} {E : L2.St → XK} {st : List Stmt} {m : PSt → Option Out}, CxOk Γ X E ca → dSs n Γ st = some m → PSs X st (tS X.K E ca m)
end
theorem dS_ok {ca : Str → Value} {n : Nat} (G : GoodS ca n) {Γ : Gm} {X : Cx} {E : L2.St → XK} {st : Stmt} {m : PSt → Option Out} (C : CxOk Γ X E ca) (h : dS (n + 1) Γ st = some m) : PS X st (tS X.K E ca m) := by
  have GE := good ca n
  unfold dS at h
  split at h
  · cases h; exact s_pass
  · cases h; exact s_break
  · cases h; exact s_continue
  · cases h; exact s_retN
  · obtain ⟨m1, h1, rfl⟩ := Option.map_eq_some_iff.mp h
    exact s_ret (GE.e C h1)
  · rename_i x p f apos e cpos pos
    split at h
    · rename_i hc
      rw [Bool.and_eq_true] at hc
      split at h
      · rename_i i m1 h1 h2
        obtain ⟨v1, v2, v3, v4⟩ := C.var (pos := p) h1
        have s1 := star_ok (es := []) (env := X.env) hc.1
        split at h
        · rename_i hf
          subst hf
          cases h
          exact s_app v1 v2 v3 v4 (GE.e C h2) s1 hc.2
        · split at h
          · rename_i hf
            subst hf
            cases h
            exact s_ext v1 v2 v3 v4 (GE.e C h2) s1 hc.2
          · cases h
      · cases h
    · cases h
  · rename_i e pos _
    split at h
    · cases h
    · rename_i hc
      obtain ⟨m1, h1, rfl⟩ := Option.map_eq_some_iff.mp h
      exact s_exp (GE.e C h1) (swap_not (Bool.eq_false_iff.mpr hc))
  · rename_i x px e pos
    split at h
    · rename_i hl
      split at h
      · rename_i i m1 h1 h2
        split at h
        · cases h
        · rename_i hc
          cases h
          exact s_asg C hl h1 h2 (Bool.eq_false_iff.mpr hc)
      · cases h
    · cases h
  · rename_i x px y py kt pt a b k2 p2 pos
    split at h
    · rename_i hp
      split at h
      · rename_i i j ms h1 h2 h3
        cases h
        have hp' := hp
        unfold par2 at hp'
        simp only [Bool.and_eq_true, Bool.not_eq_true', beq_iff_eq] at hp'
        obtain ⟨⟨⟨⟨⟨⟨⟨⟨⟨g1, g2⟩, g3⟩, g4⟩, _⟩, _⟩, _⟩, _⟩, _⟩, _⟩ := hp'
        have e1 : X.N[i]? = some x := by rw [C.N]; exact ixOf_get h1
        have e2 : X.N[j]? = some y := by rw [C.N]; exact ixOf_get h2
        have hij : i ≠ j := fun z => by
          subst z
          rw [e1] at e2
          cases e2
          simp at g4
        exact s_par C.calm C.nodup e1 e2 hij (by rw [C.nm]; exact g1) (by rw [C.nm]; exact g2) (GE.a C h3) (stores_yes C hp) rfl
      · cases h
    · cases h
  · rename_i ts kt pt e pos _
    split at h
    · cases h
    · rename_i hc
      split at h
      · rename_i b m1 h1 h2
        cases h
        have hc' : (isTupE e || isComp e) = false := Bool.eq_false_iff.mpr hc
        rw [Bool.or_eq_false_iff] at hc'
        refine s_setG (GE.e C h2) (dG_ok C h1) ?_ ?_ rfl
        · exact sole hc'.2
        · have ht := hc'.1
          cases e <;> first | rfl | cases ht
      · cases h
  · rename_i x p1 k p2 j p3 e pos
    split at h
    · cases h
    · rename_i hc
      split at h
      · rename_i i mk mj m1 h1 h2 h3 h4
        cases h
        have hc' : (isSlice k || isSlice j || isComp e) = false := Bool.eq_false_iff.mpr hc
        rw [Bool.or_eq_false_iff, Bool.or_eq_false_iff] at hc'
        obtain ⟨v1, v2, v3, v4⟩ := C.var (pos := p1) h1
        refine s_sto2 v1 v2 v3 v4 (GE.e C h4) (GE.e C h2) (GE.e C h3) (plain_ix hc'.1.1) (sole hc'.2) ?_ (sub_asg hc'.1.2)
        cases e <;> rfl
      · cases h
  · rename_i x p1 k p2 e pos
    split at h
    · cases h
    · rename_i hc
      split at h
      · rename_i i mk m1 h1 h2 h3
        cases h
        have hc' : (isSlice k || isComp e) = false := Bool.eq_false_iff.mpr hc
        rw [Bool.or_eq_false_iff] at hc'
        obtain ⟨v1, v2, v3, v4⟩ := C.var (pos := p1) h1
        refine s_sto v1 v2 v3 v4 (GE.e C h3) (GE.e C h2) (sole hc'.2) ?_ (sub_asg hc'.1)
        cases e <;> rfl
      · cases h
  · rename_i c a b pos
    split at h
    · rename_i hok
      split at h
      · rename_i mc u w h1 h2 h3
        cases h
        exact s_if (GE.t C hok h1) (G.ss C h2) (G.ss C h3)
      · cases h
    · cases h
  · rename_i tg it body pos
    split at h
    · rename_i mi b u h1 h2 h3
      cases h
      exact s_for C.po C.calm (GE.i C h1) (dG_ok C h2) (G.ss C h3) (fold_ok (dI_notSet h1))
    · cases h
  · rename_i c body pos
    split at h
    · rename_i hok
      split at h
      · rename_i mc u h1 h2
        cases h
        exact s_wh C.po (GE.t C hok h1) (G.ss C h2)
      · cases h
    · cases h
  · rename_i c p e es cpos pos
    split at h
    · rename_i hc
      simp only [Bool.and_eq_true] at hc; obtain ⟨ms, h1, rfl⟩ := Option.map_eq_some_iff.mp h
      exact s_rse C (List.contains_iff_mem.mp hc.1.1) hc.1.2 hc.2 (GE.a C h1) (dA_stars h1)
    · cases h
  · cases h
theorem goodSt (ca : Str → Value) : ∀ n, GoodS ca n
  | 0 => ⟨(fun C h => by cases h), (fun C h => by cases h)⟩
  | n + 1 => by
    have G := goodSt ca n
    refine ⟨fun C h => dS_ok G C h, fun {Γ X E st m} C h => ?_⟩
    unfold dSs at h
    cases st with
    | nil => cases h; exact s_nil
    | cons s r =>
      cases r with
      | nil =>
        simp only at h
        split at h
        · rename_i m1 h1
          cases h
          exact s_frzAll (s_one (G.s C h1)) _
        · cases h
      | cons s2 r =>
        simp only at h
        split at h
        · rename_i m1 ms h1 h2
          cases h
          exact s_frzAll (s_cons (G.s C h1) (G.ss C h2)) _
        · cases h
/-! ### a def -/
def runF (n : Nat) (u : PSt → Option Out) (ts : List T) : Option Ru := match u (ts.map some ++ List.replicate (n - ts.length) none) with
  | some (.rt t) => some (.ok t)
  | some (.nx _) => some (.ok .non)
  | some (.xc c _) => some (.exc c)
  | _ => none
def runP (k n : Nat) (u : PSt → Option Out) (ts : List T) : Option Ru := if ts.length = k then runF n u ts else none
theorem stp_ext {F H F' H' : Hp} {O' : Rg} {R : Nat → Rg} (hR : ∀ i a, ¬ R i a) (s : Stp F H (tot R) F' H' O') : Ext F H F' H' O' where
  hh := fun b u e => s.kp b u (fun ⟨i, z⟩ => hR i b z) e
  ff := s.ff
  fh := s.fh
  nb := fun b z => (s.nw b z).elim (fun ⟨i, w⟩ => absurd w (hR i b)) id
  nf := fun b u e => (s.nf b u e).elim .inl fun z => z.elim (fun ⟨i, w⟩ => absurd w (hR i b)) .inr
theorem start_st {K : PySem.W.Frag} {F H : Hp} {N : List Str} {ts : List T} {vs : List V} (fh : Same F H) (r : Rps K F ts vs) : StR K F H (start N vs) (ts.map some ++ List.replicate (N.length - ts.length) none) (fun _ => R0) := by
  have hl := r.1
  refine ⟨fh, by simp [L2.start, hl], fun i t e => ?_, fun _ _ z => z.elim, fun _ _ _ _ z => z.elim⟩
  unfold L2.start
  by_cases hi : i < ts.length
  · rw [List.getElem?_append_left (by simpa using hi), List.getElem?_map] at e
    obtain ⟨t', e1, e2⟩ := Option.map_eq_some_iff.mp e
    cases e2
    have hv : i < vs.length := by omega
    refine ⟨vs[i], ?_, (r.2 i t vs[i] e1 (List.getElem?_eq_getElem hv)).any⟩
    rw [List.getElem?_append_left (by simpa using hv), List.getElem?_map, List.getElem?_eq_getElem hv]
    rfl
  · rw [List.getElem?_append_right (by simp; omega)] at e
    obtain ⟨h1, h2⟩ := List.getElem?_eq_some_iff.mp e
    simp at h2
theorem fn_ok {P : Program} {w : World} {K : PySem.W.Frag} {mg : Str → Option Value} {base : Heap} {ca : Str → Value} {x qual : Str} {st : Stmt} {f : Addr} {fd : FuncData} {N ps : List Str} {k n : Nat} {Γ : Gm} {u : PSt → Option Out} (F : FunD K x qual st f fd) (S : FnScope N ps (defScope st))
    (hΓ : Γ.N = N) (hnm : Γ.nm = (defScope st).names) (hce : ∀ x ∈ Γ.ce, Γ.nm.lookup x = some .cell) (hlv : Γ.lv = k) (hbl : ∀ b ∈ Γ.bl, mg b = none)
    (hfs : ∀ f F, Γ.fns.lookup f = some F → F.lv ≤ k ∧ Nonempty (DefX P w K mg base F.lv f F.ps (spP K ca F.g))) (hex : ∀ c ∈ Γ.ex, ∃ T : ECls K mg c, ca c = .ref T.C)
    (hu : dSs n Γ (defBody st) = some u) : FnOk P w K mg base (CX1 P w) (k + 1) f fd ps (spP K ca (runP ps.length N.length u)) := by
  refine okX F S (fun vs H Q E h => ?_) fun cdv A outer s H vs Q E hr h => ?_
  · obtain ⟨F', ts, _, r, q⟩ := h
    unfold runP at q
    by_cases hl : ts.length = ps.length
    · rw [← r.1, hl]
    · simp only [hl, if_false] at q
  · have C : CxOk Γ (cxOf (CX1 P w) P w K mg base N qual (defScope st) f cdv A outer s H E) (fun _ => E) ca := by
      refine ⟨hΓ.symm, by rw [hΓ]; exact S.nd, hnm.symm, S.kind, rfl, by rw [hlv]; exact hr, fun y hy => ⟨rfl, hce y hy⟩, hbl, passD, PassesOwn.leaving, madeD, fun f F e => by rw [hlv]; exact hfs f F e, hex⟩
    refine ⟨_, (goodSt ca n).ss C hu, ?_⟩
    obtain ⟨F', ts, fh, r, q⟩ := h
    refine ⟨F', _, _, start_st fh r, ?_⟩
    unfold runP at q
    by_cases hl : ts.length = ps.length
    · simp only [hl, if_true] at q
      unfold runF at q
      cases ho : u (ts.map some ++ List.replicate (N.length - ts.length) none) with
      | none => simp only [ho] at q
      | some o =>
        simp only [ho] at q
        cases o with
        | nx τ => exact fun F1 H1 σ1 R1 s1 S1 => q F1 H1 .non R0 ((stp_ext (fun _ _ z => z) s1).mono fun _ z => z.elim) .non
        | rt t => exact fun F1 H1 x B s1 r1 => q F1 H1 x B (stp_ext (fun _ _ z => z) s1) r1
        | bk τ => exact q.elim
        | ct τ => exact q.elim
        | xc c τ => exact fun F1 H1 σ1 R1 s1 S1 => q F1 H1 ((stp_ext (fun _ _ z => z) s1).mono fun _ z => z.elim)
    · simp only [hl, if_false] at q
end Pu

set_option Elab.async false
set_option linter.all false
set_option maxRecDepth 100000
namespace Pu
open PySem PySem.Spec PyProof.Rows L2 Zw Zx

/-! ### the top -/
theorem all_nil {α : Type} {P : α → Prop} : ∀ x ∈ ([] : List α), P x := fun _ h => by cases h
theorem all_cons {α : Type} {P : α → Prop} {a : α} {l : List α} (h : P a) (r : ∀ x ∈ l, P x) : ∀ x ∈ a :: l, P x := fun x hx => by
  obtain rfl | hx := List.mem_cons.mp hx
  · exact h
  · exact r x hx
section
variable {P : Program} {w : World} {K : PySem.W.Frag} {mg : Str → Option Value} {base : Heap} {ca : Str → Value} {k : Nat}
theorem fns_nil : ∀ f F, ([] : List (Str × Fn)).lookup f = some F → F.lv ≤ k ∧ Nonempty (DefX P w K mg base F.lv f F.ps (spP K ca F.g)) := fun _ _ h => by cases h
theorem fns_cons {x : Str} {F0 : Fn} {l : List (Str × Fn)} (hk : F0.lv ≤ k) (D : DefX P w K mg base F0.lv x F0.ps (spP K ca F0.g)) (r : ∀ f F, l.lookup f = some F → F.lv ≤ k ∧ Nonempty (DefX P w K mg base F.lv f F.ps (spP K ca F.g))) :
    ∀ f F, ((x, F0) :: l).lookup f = some F → F.lv ≤ k ∧ Nonempty (DefX P w K mg base F.lv f F.ps (spP K ca F.g)) := fun f F h => by
  rw [List.lookup_cons] at h
  cases hf : f == x with
  | true =>
    rw [hf] at h
    cases h
    rw [eq_of_beq hf]
    exact ⟨hk, ⟨D⟩⟩
  | false => rw [hf] at h; exact r f F h
def spLaw (K : PySem.W.Frag) : Sp := fun vs H Q _ => ∃ (a : Addr) (ns : List Int), vs = [.ref a] ∧ SqL K H a (ns.map V.int) ∧ ns.length ≤ 63 ∧ ∀ H', Q (.bl true) H'
def scriptT (ns : List Int) : T := .nd false .rl (ns.map T.int)
theorem rps_ints {F : Hp} : ∀ ns : List Int, Rps K F (ns.map T.int) (ns.map V.int)
  | [] => .nil
  | n :: r => .cons (H := F) (.int n) (rps_ints r)
theorem law_fn {R : List T → Option Ru} {f : Addr} {fd : FuncData} (F : FnOk P w K mg base (CX1 P w) k f fd ["_law_script"] (spP K ca R)) (h : ∀ ns : List Int, ns.length ≤ 63 → R [scriptT ns] = some (.ok (.bl true))) : FnOk P w K mg base CX0 k f fd ["_law_script"] (spLaw K) := by
  refine ⟨fun vs H Q E hs => ?_, fun A outer s H args us vs Q E hr e0 hb hv hs => ?_⟩
  · obtain ⟨a, ns, rfl, _⟩ := hs
    rfl
  · obtain ⟨a, ns, rfl, hq, h63, q⟩ := hs
    refine codeAny_mono (F.run A outer s H args us _ Q E0 hr e0 hb hv ⟨H, [scriptT ns], .refl _, .cons (H := H) (Rps.of_node (k := .rl) hq (rps_ints ns)) .nil, ?_⟩) fun r s' hx => ?_
    · rw [h ns h63]
      intro F' H' z C e r
      rw [r.bl_inv]
      exact q H'
    · cases r with
      | error v =>
        obtain ⟨_, _, _, _, _, _, _, _, _, _, _, _, _, z⟩ := hx
        exact z.elim
      | ok fl => cases fl <;> exact hx
end
end Pu

set_option Elab.async false
set_option linter.all false
set_option maxRecDepth 100000
namespace Pu
open PySem PySem.Spec PyProof.Rows L2 Zw Zx

/-! ### running the meanings -/
theorem at0 {α : Type} {x : α} {l : List α} : atI (x :: l) (0 : Int) = some x := by
  have : atI (x :: l) ((0 : Nat) : Int) = some x := atI_nat rfl
  exact this
theorem at1 {α : Type} {x y : α} {l : List α} : atI (x :: y :: l) (1 : Int) = some y := by
  have : atI (x :: y :: l) ((1 : Nat) : Int) = some y := atI_nat rfl
  exact this
theorem at2 {α : Type} {x y z : α} {l : List α} : atI (x :: y :: z :: l) (2 : Int) = some z := by
  have : atI (x :: y :: z :: l) ((2 : Nat) : Int) = some z := atI_nat rfl
  exact this
abbrev fr (a b : Int) : T := .tup [.int a, .int b]
end Pu
namespace Pu
open PySem PySem.Spec PyProof.Rows L2 Zw Zx
section
variable {b : T → PSt → Option PSt} {body : PSt → Option Out} {mc : PSt → Option Rs}
/-- a loop that goes through -/
theorem forGo_inv {ts : List T} {τ : PSt} (I : Nat → PSt → Prop) (h0 : I 0 τ) (hs : ∀ i t τ, ts[i]? = some t → I i τ → ∃ τ1, b t τ = some τ1 ∧ ∃ τ2, body τ1 = some (.nx τ2) ∧ I (i + 1) τ2) : ∃ τ', forGo b body ts τ = some (.nx τ') ∧ I ts.length τ' := by
  have key : ∀ (l : List T) (k : Nat) (τ : PSt), ts.drop k = l → k ≤ ts.length → I k τ → ∃ τ', forGo b body l τ = some (.nx τ') ∧ I ts.length τ' := by
    intro l
    induction l with
    | nil =>
      intro k τ hd hk hI
      have : k = ts.length := by
        have := congrArg List.length hd
        simp at this
        omega
      subst this
      exact ⟨τ, rfl, hI⟩
    | cons t l ih =>
      intro k τ hd hk hI
      have hlt : k < ts.length := by
        have := congrArg List.length hd
        simp at this
        omega
      rw [List.drop_eq_getElem_cons hlt] at hd
      injection hd with h1 h2
      obtain ⟨τ1, e1, τ2, e2, hI2⟩ := hs k t τ (by rw [List.getElem?_eq_getElem hlt, h1]) hI
      obtain ⟨τ', e3, h3⟩ := ih (k + 1) τ2 h2 hlt hI2
      exact ⟨τ', by unfold forGo; simp only [e1, e2]; exact e3, h3⟩
  exact key ts 0 τ rfl (Nat.zero_le _) h0
/-- a loop that may be left by a return -/
theorem forGo_ret {ts : List T} {τ : PSt} (I : Nat → PSt → Prop) (Qr : T → Prop) (h0 : I 0 τ) (hs : ∀ i t τ, ts[i]? = some t → I i τ → ∃ τ1, b t τ = some τ1 ∧ ((∃ τ2, (body τ1 = some (.nx τ2) ∨ body τ1 = some (.ct τ2)) ∧ I (i + 1) τ2) ∨ ∃ v, body τ1 = some (.rt v) ∧ Qr v)) :
    (∃ τ', forGo b body ts τ = some (.nx τ') ∧ I ts.length τ') ∨ ∃ v, forGo b body ts τ = some (.rt v) ∧ Qr v := by
  have key : ∀ (l : List T) (k : Nat) (τ : PSt), ts.drop k = l → k ≤ ts.length → I k τ → (∃ τ', forGo b body l τ = some (.nx τ') ∧ I ts.length τ') ∨ ∃ v, forGo b body l τ = some (.rt v) ∧ Qr v := by
    intro l
    induction l with
    | nil =>
      intro k τ hd hk hI
      have : k = ts.length := by
        have := congrArg List.length hd
        simp at this
        omega
      subst this
      exact .inl ⟨τ, rfl, hI⟩
    | cons t l ih =>
      intro k τ hd hk hI
      have hlt : k < ts.length := by
        have := congrArg List.length hd
        simp at this
        omega
      rw [List.drop_eq_getElem_cons hlt] at hd
      injection hd with h1 h2
      obtain ⟨τ1, e1, hb⟩ := hs k t τ (by rw [List.getElem?_eq_getElem hlt, h1]) hI
      rcases hb with ⟨τ2, e2, hI2⟩ | ⟨v, e2, hv⟩
      · rcases ih (k + 1) τ2 h2 hlt hI2 with ⟨τ', e3, h3⟩ | ⟨v, e3, h3⟩
        · refine .inl ⟨τ', ?_, h3⟩
          unfold forGo
          rcases e2 with e2 | e2 <;> simp only [e1, e2] <;> exact e3
        · refine .inr ⟨v, ?_, h3⟩
          unfold forGo
          rcases e2 with e2 | e2 <;> simp only [e1, e2] <;> exact e3
      · exact .inr ⟨v, by unfold forGo; simp only [e1, e2], hv⟩
  exact key ts 0 τ rfl (Nat.zero_le _) h0
/-- a while loop by a measure -/
theorem sWh_inv {τ : PSt} (I : PSt → Prop) (μ : PSt → Nat) (h0 : I τ) (hs : ∀ τ, I τ → (∃ bb, mc τ = some (.v (.bl true) bb) ∧ ∃ τ2, body τ = some (.nx τ2) ∧ I τ2 ∧ μ τ2 < μ τ) ∨ ∃ bb, mc τ = some (.v (.bl false) bb)) :
    ∃ τ', sWh mc body τ = some (.nx τ') ∧ I τ' ∧ ∃ bb, mc τ' = some (.v (.bl false) bb) := by
  have key : ∀ (n : Nat) (τ : PSt), μ τ < n → I τ → ∃ τ', whN mc body n τ = some (.nx τ') ∧ I τ' ∧ ∃ bb, mc τ' = some (.v (.bl false) bb) := by
    intro n
    induction n with
    | zero => intro τ h; exact absurd h (Nat.not_lt_zero _)
    | succ n ih =>
      intro τ hn hI
      rcases hs τ hI with ⟨bb, e1, τ2, e2, hI2, hm⟩ | ⟨bb, e1⟩
      · obtain ⟨τ', e3, h3⟩ := ih τ2 (by omega) hI2
        exact ⟨τ', by unfold whN; simp only [e1, e2]; exact e3, h3⟩
      · exact ⟨τ, by unfold whN; simp only [e1], hI, bb, e1⟩
  obtain ⟨τ', e, h⟩ := key (μ τ + 1) τ (Nat.lt_succ_self _) h0
  exact ⟨τ', sWh_of e, h⟩
/-- the turns of a comprehension without a test -/
theorem lcGo_map {me : PSt → Option Rs} {ts : List T} {τ : PSt} (I : Nat → PSt → Prop) (f : Nat → T) (h0 : I 0 τ) (hs : ∀ i t τ, ts[i]? = some t → I i τ → ∃ τ1, b t τ = some τ1 ∧ me τ1 = some (.v (f i) false) ∧ I (i + 1) τ1) :
    lcGo b (mC (.bl true)) me ts τ = some ((List.range ts.length).map f) := by
  have key : ∀ (l : List T) (k : Nat) (τ : PSt), ts.drop k = l → k ≤ ts.length → I k τ → lcGo b (mC (.bl true)) me l τ = some ((List.range' k l.length).map f) := by
    intro l
    induction l with
    | nil => intro k τ _ _ _; rfl
    | cons t l ih =>
      intro k τ hd hk hI
      have hlt : k < ts.length := by
        have := congrArg List.length hd
        simp at this
        omega
      rw [List.drop_eq_getElem_cons hlt] at hd
      injection hd with h1 h2
      obtain ⟨τ1, e1, e2, hI2⟩ := hs k t τ (by rw [List.getElem?_eq_getElem hlt, h1]) hI
      have e3 := ih (k + 1) τ1 h2 hlt hI2
      unfold lcGo
      simp only [e1, mC, e2, e3]
      simp [List.range'_succ]
  have := key ts 0 τ rfl (Nat.zero_le _) h0
  rw [this, ← List.range_eq_range']
end
/-! numbers -/
theorem mulOk_r {i j : Int} (h : s64 j = true) : mulOk i j = true := by unfold mulOk; rw [h, Bool.or_true, Bool.true_or]
theorem mulOk_l {i j : Int} (h : s64 i = true) : mulOk i j = true := by unfold mulOk; rw [h, Bool.true_or, Bool.true_or]
theorem mulOk_s {i j : Int} (h1 : s70 i = true) (h2 : s70 j = true) : mulOk i j = true := by unfold mulOk; rw [h1, h2]; simp
theorem s64_of {i : Int} (h1 : -(2 ^ 64) < i) (h2 : i < 2 ^ 64) : s64 i = true := by unfold s64; rw [decide_eq_true h1, decide_eq_true h2]; rfl
theorem s70_of {i : Int} (h1 : -(10 ^ 70) < i) (h2 : i < 10 ^ 70) : s70 i = true := by unfold s70; rw [decide_eq_true h1, decide_eq_true h2]; rfl
theorem s70_abs {i : Int} {m : Nat} (h : i.natAbs ≤ m) (hm : m < 10 ^ 70) : s70 i = true := s70_of (by omega) (by omega)
theorem fm {i j : Int} (h : 0 < j) : i.fmod j = i % j := Int.fmod_eq_emod_of_nonneg i (by omega)
theorem fd {i j : Int} (h : 0 < j) : i.fdiv j = i / j := Int.fdiv_eq_ediv_of_nonneg i (by omega)
/-! == of scalars and of trees -/
theorem eq_int {i j : Int} : eqT (.int i) (.int j) = some (.bl (i == j)) := by
  unfold eqT eqOk fitT eqvT
  simp only [T.data, PyData.canLay0, PyData.depth, PyData.eqv]
  simp
theorem ne_int {i j : Int} : neT (.int i) (.int j) = some (.bl (!(i == j))) := by
  unfold neT eqOk fitT eqvT
  simp only [T.data, PyData.canLay0, PyData.depth, PyData.eqv]
  simp
theorem eq_bl {i j : Bool} : eqT (.bl i) (.bl j) = some (.bl (i == j)) := by
  unfold eqT eqOk fitT eqvT
  simp only [T.data, PyData.canLay0, PyData.depth, PyData.eqv]
  simp
theorem ne_bl {i j : Bool} : neT (.bl i) (.bl j) = some (.bl (!(i == j))) := by
  unfold neT eqOk fitT eqvT
  simp only [T.data, PyData.canLay0, PyData.depth, PyData.eqv]
  simp
end Pu
namespace Pu
open PySem PySem.Spec PyProof.Rows L2 Zw Zx
mutual
def nbD : PyData → Bool
  | .bool _ => false
  | .dict _ => false
  | .list xs => nbDs xs
  | .tuple xs => nbDs xs
  | _ => true
def nbDs : List PyData → Bool
  | [] => true
  | x :: xs => nbD x && nbDs xs
end
mutual
theorem eqv_nb : ∀ d d' : PyData, nbD d = true → nbD d' = true → (PyData.eqv d d' = true ↔ d = d')
  | .none, d', _, h' => by cases d' <;> simp [PyData.eqv, nbD] at h' ⊢
  | .int i, d', _, h' => by cases d' <;> simp [PyData.eqv, nbD] at h' ⊢
  | .str x, d', _, h' => by cases d' <;> simp [PyData.eqv, nbD] at h' ⊢
  | .bool _, _, h, _ => by simp [nbD] at h
  | .dict _, _, h, _ => by simp [nbD] at h
  | .list xs, d', h, h' => by
    cases d' with
    | list ys =>
      have := eqvAll_nb xs ys (by simpa [nbD] using h) (by simpa [nbD] using h')
      simp only [PyData.eqv]
      rw [this]
      simp
    | _ => simp [PyData.eqv, nbD] at h' ⊢
  | .tuple xs, d', h, h' => by
    cases d' with
    | tuple ys =>
      have := eqvAll_nb xs ys (by simpa [nbD] using h) (by simpa [nbD] using h')
      simp only [PyData.eqv]
      rw [this]
      simp
    | _ => simp [PyData.eqv, nbD] at h' ⊢
theorem eqvAll_nb : ∀ xs ys : List PyData, nbDs xs = true → nbDs ys = true → (PyData.eqvAll xs ys = true ↔ xs = ys)
  | [], [], _, _ => by simp [PyData.eqvAll]
  | [], _ :: _, _, _ => by simp [PyData.eqvAll]
  | _ :: _, [], _, _ => by simp [PyData.eqvAll]
  | x :: xs, y :: ys, hx, hy => by
    simp only [nbDs, Bool.and_eq_true] at hx hy
    have h1 := eqv_nb x y hx.1 hy.1
    have h2 := eqvAll_nb xs ys hx.2 hy.2
    simp only [PyData.eqvAll, Bool.and_eq_true, h1, h2, List.cons.injEq]
end
/-- a tree that == may be asked of: no bools, texts that are texts, not too deep -/
structure Fit (t : T) (n : Nat) : Prop where
  fit : fitT t = true
  nb : nbD t.data = true
  dep : t.data.depth ≤ n
theorem Fit.int (i : Int) (n : Nat) : Fit (.int i) n := ⟨rfl, rfl, by simp [T.data, PyData.depth]⟩
theorem Fit.non (n : Nat) : Fit .non n := ⟨rfl, rfl, by simp [T.data, PyData.depth]⟩
theorem fit_all : ∀ {l : List T} {n : Nat}, (∀ t ∈ l, Fit t n) → PyData.canLayAll0 (dataL l) = true ∧ nbDs (dataL l) = true ∧ PyData.depthAll (dataL l) ≤ n
  | [], n, _ => ⟨rfl, rfl, Nat.zero_le _⟩
  | t :: r, n, h => by
    obtain ⟨h1, h2, h3⟩ := h t (List.mem_cons_self ..)
    obtain ⟨g1, g2, g3⟩ := fit_all (l := r) (n := n) fun x hx => h x (List.mem_cons_of_mem _ hx)
    unfold fitT at h1
    refine ⟨by rw [dataL, PyData.canLayAll0, h1, g1]; rfl, by rw [dataL, nbDs, h2, g2]; rfl, ?_⟩
    rw [dataL, PyData.depthAll]
    omega
theorem Fit.nd {o : Bool} {k : Kd} {l : List T} {n : Nat} (h : ∀ t ∈ l, Fit t n) : Fit (.nd o k l) (n + 1) := by
  obtain ⟨g1, g2, g3⟩ := fit_all h
  cases k <;> exact ⟨by simpa [fitT, T.data, PyData.canLay0] using g1, by simpa [T.data, nbD] using g2, by simpa [T.data, PyData.depth] using g3⟩
theorem Fit.tup {l : List T} {n : Nat} (h : ∀ t ∈ l, Fit t n) : Fit (.tup l) (n + 1) := Fit.nd h
theorem Fit.mono {t : T} {n m : Nat} (h : Fit t n) (hm : n ≤ m) : Fit t m := ⟨h.fit, h.nb, Nat.le_trans h.dep hm⟩
theorem Fit.fr (a b : Int) : Fit (Pu.fr a b) 1 := Fit.tup fun t ht => by
  simp only [List.mem_cons, List.not_mem_nil, or_false] at ht
  rcases ht with rfl | rfl <;> exact Fit.int _ _
open Classical in
theorem eq_fit {t u : T} {n m : Nat} (h : Fit t n) (h' : Fit u m) (hn : n ≤ 60) : eqT t u = some (.bl (decide (t.data = u.data))) ∧ neT t u = some (.bl (!decide (t.data = u.data))) := by
  have ok : eqOk t u = true := by
    unfold eqOk
    rw [h.fit, h'.fit, decide_eq_true (by have := h.dep; omega)]
    rfl
  have e : eqvT t u = decide (t.data = u.data) := by
    unfold eqvT
    rw [Bool.eq_iff_iff, eqv_nb _ _ h.nb h'.nb]
    simp
  unfold eqT neT
  rw [if_pos ok, if_pos ok, e]
  exact ⟨rfl, rfl⟩
theorem eq_same {t u : T} {n : Nat} (h : Fit t n) (hn : n ≤ 60) (e : t.data = u.data) (h' : Fit u n) : eqT t u = some (.bl true) ∧ neT t u = some (.bl false) := by
  have := eq_fit h h' hn
  simpa [e] using this
mutual
theorem data_share : ∀ t : T, t.share.data = t.data
  | .nd o k l => by
    rw [T.share]
    cases k <;> simp only [T.data, dataL_share l]
  | .non => rfl
  | .bl _ => rfl
  | .int _ => rfl
  | .str _ => rfl
theorem dataL_share : ∀ l : List T, dataL (shareL l) = dataL l
  | [] => rfl
  | t :: r => by rw [shareL, dataL, dataL, data_share t, dataL_share r]
end
end Pu
namespace Pu
open PySem PySem.Spec PyProof.Rows L2 Zw Zx
/-! lists of whole numbers -/
theorem share_ints : ∀ ns : List Int, shareL (ns.map T.int) = ns.map T.int
  | [] => rfl
  | n :: r => by rw [List.map_cons, shareL, share_ints r]; rfl
theorem sh_ints : ∀ ns : List Int, shL (ns.map T.int) = true
  | [] => rfl
  | n :: r => by rw [List.map_cons, shL, sh_ints r]; rfl
theorem share_script (ns : List Int) : (scriptT ns).share = scriptT ns := by unfold scriptT; rw [T.share, share_ints]
theorem sh_script (ns : List Int) : (scriptT ns).sh = true := by unfold scriptT; rw [T.sh, sh_ints]; rfl
theorem len_script (ns : List Int) : lenT (scriptT ns) = some (.int ns.length) := by unfold scriptT lenT; simp
theorem atI_lt {α : Type} {l : List α} {k : Int} {x : α} (h0 : 0 ≤ k) (h : l[k.toNat]? = some x) : atI l k = some x := by
  have : atI l ((k.toNat : Nat) : Int) = some x := atI_nat h
  rwa [Int.toNat_of_nonneg h0] at this
theorem cut_map {α β : Type} (f : α → β) (l : List α) (lo hi : Option Int) : cutL (l.map f) lo hi = (cutL l lo hi).map f := by
  unfold cutL
  simp [List.map_drop, List.map_take]
theorem cut_len {α : Type} (l : List α) (lo hi : Option Int) : (cutL l lo hi).length ≤ l.length := by
  unfold cutL
  simp only [List.length_take, List.length_drop]
  omega
theorem cut_mem {α : Type} {l : List α} {lo hi : Option Int} {x : α} (h : x ∈ cutL l lo hi) : x ∈ l := by
  unfold cutL at h
  exact List.mem_of_mem_drop (List.mem_of_mem_take h)
/-- a[lo:hi] of the script -/
theorem sl_script {ma : PSt → Option Rs} {ml mh : Option (PSt → Option Rs)} {τ : PSt} {ns : List Int} {lo hi : Option Int} (ha : ma τ = some (.v (scriptT ns) false)) (hl : mPart ml τ = some lo) (hh : mPart mh τ = some hi) : mSl ma ml mh τ = some (.v (.own ((cutL ns lo hi).map T.int)) false) := by
  unfold mSl
  simp only [ha, hl, hh, scriptT]
  rw [share_ints, cut_map]
theorem own_ints (l : List Int) : shareL (l.map T.int) = l.map T.int := share_ints l
end Pu

namespace Zm
/-! ### sums of fractions in lowest terms -/
theorem low_dvd {t b L : Int} (hb : 0 < b) (h : b ∣ t * L) : lb t b ∣ L := by
  have hb0 : b ≠ 0 := by omega
  have g0 := gd_pos (a := t) hb0
  have e1 := lt_mul (t := t) hb0
  have e2 := lb_mul (t := t) hb0
  have c : Int.gcd (lb t b) (lt t b) = 1 := by
    have := gd_low (t := t) hb0
    unfold gd at this
    rw [Int.gcd_comm]
    omega
  have h2 : lb t b * gd t b ∣ (lt t b * L) * gd t b := by
    rw [e2, Int.mul_assoc, Int.mul_comm L, ← Int.mul_assoc, e1]
    exact h
  have h3 : lb t b ∣ lt t b * L := Int.dvd_of_mul_dvd_mul_right (by omega) h2
  have h4 := Int.dvd_gcd_mul_iff_dvd_mul.mpr h3
  rw [c] at h4
  simpa using h4
theorem low_unique {t b u d : Int} (hb : 0 < b) (hd : 0 < d) (h : t * d = u * b) : lt t b = lt u d ∧ lb t b = lb u d := by
  have hb0 : b ≠ 0 := by omega
  have hd0 : d ≠ 0 := by omega
  have p1 := lb_pos (t := t) hb
  have p2 := lb_pos (t := u) hd
  have d1 : lb t b ∣ lb u d := by
    refine low_dvd hb ?_
    have e : t * lb u d * gd u d = (u * b) := by rw [Int.mul_assoc, lb_mul hd0, h]
    have e3 := lt_mul (t := u) hd0
    have g0 := gd_pos (a := u) hd0
    have e4 : t * lb u d * gd u d = (lt u d * b) * gd u d := by rw [e, Int.mul_assoc, Int.mul_comm b, ← Int.mul_assoc, e3]
    have e5 := Int.eq_of_mul_eq_mul_right (by omega) e4
    rw [e5]
    exact Int.dvd_mul_left ..
  have d2 : lb u d ∣ lb t b := by
    refine low_dvd hd ?_
    have e : u * lb t b * gd t b = (t * d) := by rw [Int.mul_assoc, lb_mul hb0, h]
    have e3 := lt_mul (t := t) hb0
    have g0 := gd_pos (a := t) hb0
    have e4 : u * lb t b * gd t b = (lt t b * d) * gd t b := by rw [e, Int.mul_assoc, Int.mul_comm d, ← Int.mul_assoc, e3]
    have e5 := Int.eq_of_mul_eq_mul_right (by omega) e4
    rw [e5]
    exact Int.dvd_mul_left ..
  have eb : lb t b = lb u d := Int.dvd_antisymm (by omega) (by omega) d1 d2
  refine ⟨?_, eb⟩
  have e1 := lt_mul (t := t) hb0
  have e2 := lb_mul (t := t) hb0
  have e3 := lt_mul (t := u) hd0
  have e4 := lb_mul (t := u) hd0
  have g1 := gd_pos (a := t) hb0
  have g2 := gd_pos (a := u) hd0
  have : lt t b * (gd t b * d) = lt u d * (gd u d * b) := by rw [← Int.mul_assoc, e1, ← Int.mul_assoc, e3, h]
  have e6 : gd u d * b = gd t b * d := by
    rw [eb] at e2
    generalize gd t b = g at *
    generalize gd u d = h at *
    generalize lb u d = w at *
    rw [← e2, ← e4]
    simp only [Int.mul_comm, Int.mul_left_comm]
  rw [e6] at this
  exact Int.eq_of_mul_eq_mul_right (by have := Int.mul_pos g1 hd; omega) this
theorem low_self {t b : Int} (hb : 0 < b) (h : gd t b = 1) : lt t b = t ∧ lb t b = b := by
  unfold lt lb
  rw [h]
  simp
/-- both ways of adding a fraction come to the same -/
theorem add_low {a b n p : Int} (hb : 0 < b) (hp : 0 < p) : lt (a * lb n p + lt n p * b) (b * lb n p) = lt (a * p + n * b) (b * p) ∧ lb (a * lb n p + lt n p * b) (b * lb n p) = lb (a * p + n * b) (b * p) := by
  have hp0 : p ≠ 0 := by omega
  refine low_unique (Int.mul_pos hb (lb_pos hp)) (Int.mul_pos hb hp) ?_
  have e1 := lt_mul (t := n) hp0
  have e2 := lb_mul (t := n) hp0
  generalize gd n p = g at *
  generalize lt n p = N at *
  generalize lb n p = P at *
  subst e1 e2
  rw [Int.add_mul, Int.add_mul]
  simp only [Int.mul_comm, Int.mul_left_comm]
/-- the bottom stays within the common multiple -/
theorem add_dvd {a b n p L : Int} (hb : 0 < b) (hp : 0 < p) (h1 : b ∣ L) (h2 : p ∣ L) : lb (a * p + n * b) (b * p) ∣ L := by
  refine low_dvd (Int.mul_pos hb hp) ?_
  obtain ⟨x, rfl⟩ := h1
  obtain ⟨y, e⟩ := h2
  refine ⟨a * x + n * y, ?_⟩
  rw [Int.add_mul, Int.mul_add]
  have : n * b * (b * x) = b * p * (n * y) := by rw [e]; simp only [Int.mul_comm, Int.mul_left_comm]
  rw [this]
  simp only [Int.mul_comm, Int.mul_left_comm]
end Zm

set_option Elab.async false
set_option linter.all false
set_option maxRecDepth 100000
set_option maxHeartbeats 4200000
namespace Zl
open PySem L2 Zw Zx Pu
local macro_rules
  | `(tactic| simp_arith [$as,*]) => `(tactic| simp only [runP, runF, sSeq, sSet, sOwn, sFrz, sIf, sRet, sRetN, sExp, sNx, sBk, sCt, sFor, sApp, sExt, sSto, sSto2, sPar, sRse, ownAt, ownKid, mVar, mC, mNil, mCons, mConsO, mAp, mCall, mIf, mNot, mAnd, mOr, mIx, mSl, mPart, mLst, mTup, mLC, fin, g1, g2, bNm, bNil, bCons, bTup, blk, capT, iVal, iRange1, iRange2, iEnumT, iZipT, as1, as2, asL, asL2, isL, addT, subT, mulT, modT, fdivT, powT, borT, bandT, cmpT, negT, isT2, T.isN, T.isB, lenT, listT, absT, minT, maxT, intT, allT, anyT, isTyT, tyN, tyCs, subTy, T.share, shareL, T.sh, shL, T.flat, at0, at1, at2, List.map_cons, List.map_nil, List.length_cons, List.length_nil, List.replicate, List.append_nil, List.nil_append, List.cons_append, List.getElem?_cons_zero, List.getElem?_cons_succ, List.getElem?_nil, List.set_cons_zero, List.set_cons_succ, List.length_set, Int.cast_ofNat_Int, Int.reduceBEq, Nat.reduceBEq, Nat.reduceAdd, Nat.reduceSub, Nat.reduceLT, Nat.reduceLeDiff, if_true, if_false, ite_true, ite_false, reduceIte, Bool.not_true, Bool.not_false, Bool.and_true, Bool.true_and, Bool.and_false, Bool.false_and, Bool.or_true, Bool.true_or, Bool.or_false, Bool.false_or, Bool.false_xor, Bool.true_xor, Bool.false_eq_true, Option.some.injEq, decide_true, decide_false, List.mem_cons, List.not_mem_nil, or_false, or_true, true_or, and_true, true_and, and_self, String.reduceEq, String.reduceBEq, beq_self_eq_true, ne_eq, not_false_eq_true, not_true_eq_false, $as,*])
def top (i : Nat) : Stmt := PySem.Challenge.pw_zonewalk_k32_totals.main.body.getD i (.Pass ⟨0, 0, 0, 0⟩)
abbrev s_greatest_divisor : Stmt := top 5
theorem sc_greatest_divisor : FnScope ["one", "other", "greater", "lesser", "rest"] ["one", "other"] (defScope s_greatest_divisor) := ⟨rfl, rfl, rfl, by decide +kernel, rfl, by decide +kernel, by decide +kernel⟩
noncomputable def t_greatest_divisor_3 : PSt → Option Rs :=
  (mAp (g2 neT) (mCons (mVar 3) (mCons (mC (.int 0)) mNil)))
noncomputable def w_greatest_divisor_3 : PSt → Option Out :=
  (sSeq (sSet (mAp (g2 modT) (mCons (mVar 2) (mCons (mVar 3) mNil))) (bNm 4))
  (sSeq (sSet (mVar 3) (bNm 2))
  (sSet (mVar 4) (bNm 3))))
noncomputable def m_greatest_divisor : PSt → Option Out :=
  (sSeq (sSet (mAp (g1 absT) (mCons (mVar 0) mNil)) (bNm 2))
  (sSeq (sSet (mAp (g1 absT) (mCons (mVar 1) mNil)) (bNm 3))
  (sSeq (sWh t_greatest_divisor_3 w_greatest_divisor_3)
  (sRet (mVar 2)))))
noncomputable def R_greatest_divisor : List T → Option Ru := runP 2 5 m_greatest_divisor
noncomputable abbrev fn_greatest_divisor : Fn := ⟨1, ["one", "other"], R_greatest_divisor⟩
noncomputable abbrev gm_greatest_divisor : Gm := ⟨["one", "other", "greater", "lesser", "rest"], (defScope s_greatest_divisor).names, [], 0, [], ["abs"], [], [], []⟩
theorem ck_greatest_divisor : dSs 200 gm_greatest_divisor (defBody s_greatest_divisor) = some m_greatest_divisor := by kernel_rfl
theorem gd_ok (a b : Int) : R_greatest_divisor [.int a, .int b] = some (.ok (.int (Zm.gd a b))) := by
  have loop := sWh_inv (mc := t_greatest_divisor_3) (body := w_greatest_divisor_3)
    (τ := [some (.int a), some (.int b), some (.int (if a < 0 then -a else a)), some (.int (if b < 0 then -b else b)), none])
    (fun τ => ∃ (g l : Int) (r : Option T), τ = [some (.int a), some (.int b), some (.int g), some (.int l), r] ∧ 0 ≤ g ∧ 0 ≤ l ∧ Zm.gd g l = Zm.gd a b)
    (fun τ => match τ with | [_, _, _, some (.int l), _] => l.natAbs | _ => 0)
    ⟨_, _, none, rfl, by split <;> omega, by split <;> omega, Zm.gd_abs a b⟩ (by
      rintro τ ⟨g, l, r, rfl, hg, hl, e⟩
      by_cases h0 : l = 0
      · right
        exact ⟨false, by unfold t_greatest_divisor_3; simp_arith [ne_int, h0]⟩
      · left
        refine ⟨false, by unfold t_greatest_divisor_3; simp_arith [ne_int]; simp [h0], [some (.int a), some (.int b), some (.int l), some (.int (g.fmod l)), some (.int (g.fmod l))], by unfold w_greatest_divisor_3; simp_arith [h0], ⟨_, _, _, rfl, hl, ?_, ?_⟩, ?_⟩
        · exact Int.fmod_nonneg_of_pos g (by omega)
        · exact Zm.gd_turn e
        · exact Zm.fmod_less g h0)
  obtain ⟨τ', e1, ⟨g, l, r, rfl, hg, hl, e⟩, bb, e2⟩ := loop
  have hl0 : l = 0 := by
    have e3 : t_greatest_divisor_3 [some (.int a), some (.int b), some (.int g), some (.int l), r] = some (.v (.bl (!(l == 0))) false) := by unfold t_greatest_divisor_3; simp_arith [ne_int]
    rw [e3] at e2
    exact (by simpa using e2 : l = 0 ∧ bb = false).1
  have hgd : g = Zm.gd a b := by
    rw [← e, hl0]
    unfold Zm.gd
    rw [Int.gcd_zero_right]
    omega
  unfold R_greatest_divisor m_greatest_divisor
  simp_arith [e1]
  rw [hgd]
abbrev s_is_whole : Stmt := top 4
theorem sc_is_whole : FnScope ["thing"] ["thing"] (defScope s_is_whole) := ⟨rfl, rfl, rfl, by decide +kernel, rfl, by decide +kernel, by decide +kernel⟩
noncomputable def m_is_whole : PSt → Option Out :=
  (sRet (mAnd (mAp (g1 (isTyT "int")) (mCons (mVar 0) mNil)) (mNot (mAp (g1 (isTyT "bool")) (mCons (mVar 0) mNil)))))
noncomputable def R_is_whole : List T → Option Ru := runP 1 1 m_is_whole
noncomputable abbrev fn_is_whole : Fn := ⟨1, ["thing"], R_is_whole⟩
noncomputable abbrev gm_is_whole : Gm := ⟨["thing"], (defScope s_is_whole).names, [], 0, [], ["isinstance", "int", "bool"], [], [], []⟩
theorem ck_is_whole : dSs 200 gm_is_whole (defBody s_is_whole) = some m_is_whole := by kernel_rfl
theorem whole_int (i : Int) : R_is_whole [.int i] = some (.ok (.bl true)) := by simp_arith [R_is_whole, m_is_whole]
abbrev s_fraction : Stmt := top 6
theorem sc_fraction : FnScope ["top", "bottom", "divisor"] ["top", "bottom"] (defScope s_fraction) := ⟨rfl, rfl, rfl, by decide +kernel, rfl, by decide +kernel, by decide +kernel⟩
noncomputable def m_fraction : PSt → Option Out :=
  (sSeq (sIf (mOr (mNot (mCall R_is_whole (mCons (mVar 0) mNil))) (mNot (mCall R_is_whole (mCons (mVar 1) mNil)))) (sRse "NoNumber" (mCons (mC (.str "a fraction is made of two whole numbers")) mNil)) sNx)
  (sSeq (sIf (mAp (g2 eqT) (mCons (mVar 1) (mCons (mC (.int 0)) mNil))) (sRse "NoNumber" (mCons (mC (.str "the bottom of a fraction is not 0")) mNil)) sNx)
  (sSeq (sSet (mCall R_greatest_divisor (mCons (mVar 0) (mCons (mVar 1) mNil))) (bNm 2))
  (sSeq (sIf (mAp (g2 (cmpT fun i j => decide (i < j))) (mCons (mVar 1) (mCons (mC (.int 0)) mNil))) (sSet (mAp (g1 negT) (mCons (mVar 2) mNil)) (bNm 2)) sNx)
  (sRet (mTup (mCons (mAp (g2 fdivT) (mCons (mVar 0) (mCons (mVar 2) mNil))) (mCons (mAp (g2 fdivT) (mCons (mVar 1) (mCons (mVar 2) mNil))) mNil))))))))
noncomputable def R_fraction : List T → Option Ru := runP 2 3 m_fraction
noncomputable abbrev fn_fraction : Fn := ⟨2, ["top", "bottom"], R_fraction⟩
noncomputable abbrev gm_fraction : Gm := ⟨["top", "bottom", "divisor"], (defScope s_fraction).names, [], 1, [("greatest_divisor", fn_greatest_divisor), ("is_whole", fn_is_whole)], [], ["NoNumber"], [], []⟩
theorem ck_fraction : dSs 200 gm_fraction (defBody s_fraction) = some m_fraction := by kernel_rfl
theorem fr_ok {t b : Int} (hb : 0 < b) (hs : b < 10 ^ 70) : R_fraction [.int t, .int b] = some (.ok (fr (Zm.lt t b) (Zm.lb t b))) := by
  have g0 : 0 < Zm.gd t b := Zm.gd_pos (by omega)
  have g1 : Zm.gd t b ≤ b := Zm.gd_le hb
  have gs : s70 (Zm.gd t b) = true := s70_of (by omega) (by omega)
  have n0 : (b == 0) = false := by simp; omega
  have n1 : decide (b < 0) = false := by simp; omega
  have n2 : (Zm.gd t b ≠ 0) = True := by simp; omega
  unfold R_fraction m_fraction
  simp_arith [whole_int, gd_ok, eq_int, n0, n1, gs, n2]
  simp [lim, Zm.lt, Zm.lb]
abbrev s_plus : Stmt := top 7
theorem sc_plus : FnScope ["one", "other"] ["one", "other"] (defScope s_plus) := ⟨rfl, rfl, rfl, by decide +kernel, rfl, by decide +kernel, by decide +kernel⟩
noncomputable def m_plus : PSt → Option Out :=
  (sRet (mCall R_fraction (mCons (mAp (g2 addT) (mCons (mAp (g2 mulT) (mCons (mIx (mVar 0) (mC (.int 0))) (mCons (mIx (mVar 1) (mC (.int 1))) mNil))) (mCons (mAp (g2 mulT) (mCons (mIx (mVar 1) (mC (.int 0))) (mCons (mIx (mVar 0) (mC (.int 1))) mNil))) mNil))) (mCons (mAp (g2 mulT) (mCons (mIx (mVar 0) (mC (.int 1))) (mCons (mIx (mVar 1) (mC (.int 1))) mNil))) mNil))))
noncomputable def R_plus : List T → Option Ru := runP 2 2 m_plus
noncomputable abbrev fn_plus : Fn := ⟨3, ["one", "other"], R_plus⟩
noncomputable abbrev gm_plus : Gm := ⟨["one", "other"], (defScope s_plus).names, [], 2, [("fraction", fn_fraction)], [], [], [], []⟩
theorem ck_plus : dSs 200 gm_plus (defBody s_plus) = some m_plus := by kernel_rfl
theorem plus_ok {a b c d : Int} (hb : 0 < b) (hd : 0 < d) (h1 : s70 a = true) (h2 : s70 b = true) (h3 : s70 c = true) (h4 : s70 d = true) (hs : b * d < 10 ^ 70) : R_plus [fr a b, fr c d] = some (.ok (fr (Zm.lt (a * d + c * b) (b * d)) (Zm.lb (a * d + c * b) (b * d)))) := by
  have m1 := mulOk_s h1 h4
  have m2 := mulOk_s h3 h2
  have m3 := mulOk_s h2 h4
  unfold R_plus m_plus
  simp_arith [m1, m2, m3, fr_ok (t := a * d + c * b) (Int.mul_pos hb hd) hs]
abbrev s_total : Stmt := top 9
theorem sc_total : FnScope ["run", "told", "wait", "door"] ["run"] (defScope s_total) := ⟨rfl, rfl, rfl, by decide +kernel, rfl, by decide +kernel, by decide +kernel⟩
noncomputable def w_total_2 : PSt → Option Out :=
  (sSet (mCall R_plus (mCons (mVar 1) (mCons (mVar 2) mNil))) (bNm 1))
noncomputable def m_total : PSt → Option Out :=
  (sSeq (sSet (mTup (mCons (mC (.int 0)) (mCons (mC (.int 1)) mNil))) (bNm 1))
  (sSeq (sFor (iVal (mVar 0)) (bTup 2 (bCons (bNm 2) (bCons (bNm 3) bNil))) w_total_2)
  (sRet (mVar 1))))
noncomputable def R_total : List T → Option Ru := runP 1 4 m_total
noncomputable abbrev fn_total : Fn := ⟨4, ["run"], R_total⟩
noncomputable abbrev gm_total : Gm := ⟨["run", "told", "wait", "door"], (defScope s_total).names, [], 3, [("plus", fn_plus)], [], [], [], []⟩
theorem ck_total : dSs 200 gm_total (defBody s_total) = some m_total := by kernel_rfl
/-- the waits summed up -/
def tots : List (Int × Int × T) → Int × Int → Int × Int
  | [], s => s
  | (n, p, _) :: r, (a, b) => tots r (Zm.lt (a * p + n * b) (b * p), Zm.lb (a * p + n * b) (b * p))
def stepT (w : Int × Int × T) : T := .tup [fr w.1 w.2.1, w.2.2]
theorem total_go {L : Int} (hL : 0 < L) (hm : L ≤ 10 ^ 15) : ∀ (ws : List (Int × Int × T)) (a b : Int) (m : Int) (x1 : T) (x2 x3 : Option T), (∀ w ∈ ws, 0 ≤ w.1 ∧ w.1 ≤ 10 ^ 20 * w.2.1 ∧ 0 < w.2.1 ∧ w.2.1 ∣ L ∧ w.2.2.sh = true) →
    0 ≤ a → a ≤ m * b → 0 ≤ m → 0 < b → b ∣ L → m + 10 ^ 20 * ws.length ≤ 10 ^ 23 →
    ∃ τ, forGo (bTup 2 (bCons (bNm 2) (bCons (bNm 3) bNil))) w_total_2 (ws.map stepT) [some x1, some (fr a b), x2, x3] = some (.nx τ) ∧ τ[1]? = some (some (fr (tots ws (a, b)).1 (tots ws (a, b)).2))
  | [], a, b, m, x1, x2, x3, _, _, _, _, _, _, _ => ⟨_, rfl, rfl⟩
  | (n, p, y) :: ws, a, b, m, x1, x2, x3, hw, ha, hab, hm0, hb, hd, hlen => by
    obtain ⟨w1, w2, w3, w4, w5⟩ := hw (n, p, y) (List.mem_cons_self ..)
    simp only at w1 w2 w3 w4 w5
    have bL : b ≤ 10 ^ 15 := Int.le_trans (Int.le_of_dvd hL hd) hm
    have pL : p ≤ 10 ^ 15 := Int.le_trans (Int.le_of_dvd hL w4) hm
    have lenp : (0 : Int) ≤ ws.length := Int.natCast_nonneg _
    have e0 : (((n, p, y) :: ws).length : Int) = ws.length + 1 := by simp
    rw [e0] at hlen
    have mB : m ≤ 10 ^ 23 := by omega
    have aB : a ≤ 10 ^ 38 := by
      have : m * b ≤ 10 ^ 23 * 10 ^ 15 := Int.mul_le_mul mB bL (by omega) (by decide)
      omega
    have nB : n ≤ 10 ^ 38 := by omega
    have q1 : b * p ≤ 10 ^ 15 * 10 ^ 15 := Int.mul_le_mul bL pL (by omega) (by decide)
    have q0 : 0 < b * p := Int.mul_pos hb w3
    have st := plus_ok (a := a) (b := b) (c := n) (d := p) hb w3 (s70_of (by omega) (by omega)) (s70_of (by omega) (by omega)) (s70_of (by omega) (by omega)) (s70_of (by omega) (by omega)) (by omega)
    have t0 : 0 ≤ a * p + n * b := by
      have := Int.mul_nonneg ha (Int.le_of_lt w3)
      have := Int.mul_nonneg w1 (Int.le_of_lt hb)
      omega
    have l0 : 0 ≤ Zm.lt (a * p + n * b) (b * p) := by
      unfold Zm.lt
      exact Int.fdiv_nonneg t0 (Int.le_of_lt (Zm.gd_pos (by omega)))
    have l1 : Zm.lt (a * p + n * b) (b * p) ≤ (m + 10 ^ 20) * Zm.lb (a * p + n * b) (b * p) := Zm.low_le q0 (Zm.sum_le hb w3 hab w2)
    obtain ⟨τ, e1, e2⟩ := total_go hL hm ws (Zm.lt (a * p + n * b) (b * p)) (Zm.lb (a * p + n * b) (b * p)) (m + 10 ^ 20) x1 (some (fr n p)) (some y) (fun w h => hw w (List.mem_cons_of_mem _ h)) l0 l1 (by omega) (Zm.lb_pos q0) (Zm.add_dvd hb w3 hd w4) (by omega)
    refine ⟨τ, ?_, e2⟩
    rw [List.map_cons]
    unfold forGo stepT
    have eb : ∀ τ, w_total_2 τ = (sSet (mCall R_plus (mCons (mVar 1) (mCons (mVar 2) mNil))) (bNm 1)) τ := fun τ => rfl
    simp_arith [eb, st]
    exact e1
theorem share_steps : ∀ (ws : List (Int × Int × T)), (∀ w ∈ ws, w.2.2.sh = true) → shareL (ws.map stepT) = ws.map stepT ∧ shL (ws.map stepT) = true
  | [], _ => ⟨rfl, rfl⟩
  | (n, p, y) :: ws, h => by
    have hy : y.sh = true := h (n, p, y) (List.mem_cons_self ..)
    obtain ⟨e1, e2⟩ := share_steps ws fun w hw => h w (List.mem_cons_of_mem _ hw)
    rw [List.map_cons]
    unfold shareL shL stepT
    unfold stepT at e1 e2
    rw [e1, e2]
    simp_arith [share_of_sh _ hy, hy]
theorem total_ok {L : Int} (hL : 0 < L) (hm : L ≤ 10 ^ 15) {ws : List (Int × Int × T)} (hw : ∀ w ∈ ws, 0 ≤ w.1 ∧ w.1 ≤ 10 ^ 20 * w.2.1 ∧ 0 < w.2.1 ∧ w.2.1 ∣ L ∧ w.2.2.sh = true) (hl : ws.length ≤ 1000) : R_total [.lst (ws.map stepT)] = some (.ok (fr (tots ws (0, 1)).1 (tots ws (0, 1)).2)) := by
  obtain ⟨s1, s2⟩ := share_steps ws fun w h => (hw w h).2.2.2.2
  obtain ⟨τ, e1, e2⟩ := total_go hL hm ws 0 1 0 (.lst (ws.map stepT)) none none hw (by decide) (by decide) (by decide) (by decide) (Int.one_dvd _) (by omega)
  unfold R_total m_total
  simp_arith [s1, s2]
  rw [if_pos (by decide)]
  simp_arith [s1, s2, e1, e2]
abbrev s_Ldivisor : Stmt := top 12
theorem sc_Ldivisor : FnScope ["_law_one", "_law_other"] ["_law_one", "_law_other"] (defScope s_Ldivisor) := ⟨rfl, rfl, rfl, by decide +kernel, rfl, by decide +kernel, by decide +kernel⟩
noncomputable def t_Ldivisor_1 : PSt → Option Rs :=
  (mAp (g2 neT) (mCons (mVar 1) (mCons (mC (.int 0)) mNil)))
noncomputable def w_Ldivisor_1 : PSt → Option Out :=
  (sPar 0 1 (mCons (mVar 1) (mCons (mAp (g2 modT) (mCons (mVar 0) (mCons (mVar 1) mNil))) mNil)))
noncomputable def m_Ldivisor : PSt → Option Out :=
  (sSeq (sWh t_Ldivisor_1 w_Ldivisor_1)
  (sRet (mAp (g1 absT) (mCons (mVar 0) mNil))))
noncomputable def R_Ldivisor : List T → Option Ru := runP 2 2 m_Ldivisor
noncomputable abbrev fn_Ldivisor : Fn := ⟨1, ["_law_one", "_law_other"], R_Ldivisor⟩
noncomputable abbrev gm_Ldivisor : Gm := ⟨["_law_one", "_law_other"], (defScope s_Ldivisor).names, [], 0, [], ["abs"], [], [], []⟩
theorem ck_Ldivisor : dSs 200 gm_Ldivisor (defBody s_Ldivisor) = some m_Ldivisor := by kernel_rfl
theorem ldiv_ok (a b : Int) : R_Ldivisor [.int a, .int b] = some (.ok (.int (Zm.gd a b))) := by
  have loop := sWh_inv (mc := t_Ldivisor_1) (body := w_Ldivisor_1)
    (τ := [some (.int a), some (.int b)])
    (fun τ => ∃ (g l : Int), τ = [some (.int g), some (.int l)] ∧ Zm.gd g l = Zm.gd a b)
    (fun τ => match τ with | [_, some (.int l)] => l.natAbs | _ => 0)
    ⟨_, _, rfl, rfl⟩ (by
      rintro τ ⟨g, l, rfl, e⟩
      by_cases h0 : l = 0
      · right
        exact ⟨false, by unfold t_Ldivisor_1; simp_arith [ne_int, h0]⟩
      · left
        exact ⟨false, by unfold t_Ldivisor_1; simp_arith [ne_int]; simp [h0], [some (.int l), some (.int (g.fmod l))], by unfold w_Ldivisor_1; simp_arith [h0], ⟨_, _, rfl, Zm.gd_turn e⟩, Zm.fmod_less g h0⟩)
  obtain ⟨τ', e1, ⟨g, l, rfl, e⟩, bb, e2⟩ := loop
  have hl0 : l = 0 := by
    have e3 : t_Ldivisor_1 [some (.int g), some (.int l)] = some (.v (.bl (!(l == 0))) false) := by unfold t_Ldivisor_1; simp_arith [ne_int]
    rw [e3] at e2
    exact (by simpa using e2 : l = 0 ∧ bb = false).1
  unfold R_Ldivisor m_Ldivisor
  simp_arith [e1]
  rw [Zm.gd_end e hl0]
abbrev s_Lfraction : Stmt := top 13
theorem sc_Lfraction : FnScope ["_law_top", "_law_bottom", "_law_share"] ["_law_top", "_law_bottom"] (defScope s_Lfraction) := ⟨rfl, rfl, rfl, by decide +kernel, rfl, by decide +kernel, by decide +kernel⟩
noncomputable def m_Lfraction : PSt → Option Out :=
  (sSeq (sSet (mCall R_Ldivisor (mCons (mVar 0) (mCons (mVar 1) mNil))) (bNm 2))
  (sRet (mTup (mCons (mAp (g2 fdivT) (mCons (mVar 0) (mCons (mVar 2) mNil))) (mCons (mAp (g2 fdivT) (mCons (mVar 1) (mCons (mVar 2) mNil))) mNil)))))
noncomputable def R_Lfraction : List T → Option Ru := runP 2 3 m_Lfraction
noncomputable abbrev fn_Lfraction : Fn := ⟨2, ["_law_top", "_law_bottom"], R_Lfraction⟩
noncomputable abbrev gm_Lfraction : Gm := ⟨["_law_top", "_law_bottom", "_law_share"], (defScope s_Lfraction).names, [], 1, [("_law_divisor", fn_Ldivisor)], [], [], [], []⟩
theorem ck_Lfraction : dSs 200 gm_Lfraction (defBody s_Lfraction) = some m_Lfraction := by kernel_rfl
theorem lfr_ok {t b : Int} (hb : 0 < b) (hs : b < 10 ^ 70) : R_Lfraction [.int t, .int b] = some (.ok (fr (Zm.lt t b) (Zm.lb t b))) := by
  have g0 : 0 < Zm.gd t b := Zm.gd_pos (by omega)
  have g1 : Zm.gd t b ≤ b := Zm.gd_le hb
  have gs : s70 (Zm.gd t b) = true := s70_of (by omega) (by omega)
  have n2 : (Zm.gd t b ≠ 0) = True := by simp; omega
  unfold R_Lfraction m_Lfraction
  simp_arith [ldiv_ok, gs, n2]
  simp [lim, Zm.lt, Zm.lb]
abbrev s_Lcell_at : Stmt := top 11
theorem sc_Lcell_at : FnScope ["_law_script", "_law_k"] ["_law_script", "_law_k"] (defScope s_Lcell_at) := ⟨rfl, rfl, rfl, by decide +kernel, rfl, by decide +kernel, by decide +kernel⟩
noncomputable def m_Lcell_at : PSt → Option Out :=
  (sSeq (sIf (mAp (g2 (cmpT fun i j => decide (i < j))) (mCons (mVar 1) (mCons (mAp (g1 lenT) (mCons (mVar 0) mNil)) mNil))) (sRet (mIx (mVar 0) (mVar 1))) sNx)
  (sRet (mC (.int 0))))
noncomputable def R_Lcell_at : List T → Option Ru := runP 2 2 m_Lcell_at
noncomputable abbrev fn_Lcell_at : Fn := ⟨1, ["_law_script", "_law_k"], R_Lcell_at⟩
noncomputable abbrev gm_Lcell_at : Gm := ⟨["_law_script", "_law_k"], (defScope s_Lcell_at).names, [], 0, [], ["len"], [], [], []⟩
theorem ck_Lcell_at : dSs 200 gm_Lcell_at (defBody s_Lcell_at) = some m_Lcell_at := by kernel_rfl
theorem cell_ok (ns : List Int) {k : Int} (h0 : 0 ≤ k) : R_Lcell_at [scriptT ns, .int k] = some (.ok (.int (ns.getD k.toNat 0))) := by
  unfold R_Lcell_at m_Lcell_at
  by_cases h : k < ns.length
  · have e : ns[k.toNat]? = some (ns.getD k.toNat 0) := by
      rw [List.getD_eq_getElem?_getD, List.getElem?_eq_getElem (by omega)]
      rfl
    have ea : atI (ns.map T.int) k = some (.int (ns.getD k.toNat 0)) := atI_lt h0 (by rw [List.getElem?_map, e]; rfl)
    have el : decide (k < ((ns.map T.int).length : Int)) = true := by simpa using h
    simp_arith [scriptT, share_ints, sh_ints, el, ea]
  · have el : decide (k < ((ns.map T.int).length : Int)) = false := by simpa using h
    have e : ns.getD k.toNat 0 = 0 := by
      rw [List.getD_eq_getElem?_getD, List.getElem?_eq_none (by omega)]
      rfl
    simp_arith [scriptT, share_ints, sh_ints, el, e]
abbrev s_law : Stmt := top 14
theorem sc_law : FnScope ["_law_script", "_law_run", "_law_top", "_law_bottom", "_law_whole", "_law_cell", "_law_kept", "_law_found", "_law_part", "_law_number"] ["_law_script"] (defScope s_law) := ⟨rfl, rfl, rfl, by decide +kernel, rfl, by decide +kernel, by decide +kernel⟩
noncomputable def w_law_5 : PSt → Option Out :=
  (sSeq (sSet (mAp (g2 addT) (mCons (mC (.int 1)) (mCons (mAp (g2 modT) (mCons (mVar 5) (mCons (mC (.int 30)) mNil))) mNil))) (bNm 8))
  (sSeq (sIf (mAp (g2 eqT) (mCons (mAp (g2 modT) (mCons (mCall R_Lcell_at (mCons (mVar 0) (mCons (mC (.int 0)) mNil))) (mCons (mC (.int 4)) mNil))) (mCons (mC (.int 1)) mNil))) (sSet (mVar 4) (bNm 8)) sNx)
  (sSeq (sSet (mAp (g2 modT) (mCons (mAp (g2 mulT) (mCons (mAp (g2 fdivT) (mCons (mVar 5) (mCons (mC (.int 30)) mNil))) (mCons (mC (.int 48271)) mNil))) (mCons (mAp (g2 powT) (mCons (mC (.int 10)) (mCons (mC (.int 20)) mNil))) mNil))) (bNm 9))
  (sSeq (sIf (mAp (g2 eqT) (mCons (mAp (g2 modT) (mCons (mVar 5) (mCons (mC (.int 7)) mNil))) (mCons (mC (.int 3)) mNil))) (sSet (mAp (g2 modT) (mCons (mVar 9) (mCons (mVar 8) mNil))) (bNm 9)) sNx)
  (sSeq (sApp 1 (mTup (mCons (mCall R_Lfraction (mCons (mVar 9) (mCons (mVar 8) mNil))) (mCons (mIx (mLst (mConsO (mC .non) (mConsO (mAp (g2 modT) (mCons (mVar 5) (mCons (mC (.int 9)) mNil))) mNil))) (mAp (g2 modT) (mCons (mAp (g2 fdivT) (mCons (mVar 5) (mCons (mC (.int 2)) mNil))) (mCons (mC (.int 2)) mNil)))) mNil))))
  (sSet (mCall R_Lfraction (mCons (mAp (g2 addT) (mCons (mAp (g2 mulT) (mCons (mVar 2) (mCons (mVar 8) mNil))) (mCons (mAp (g2 mulT) (mCons (mVar 9) (mCons (mVar 3) mNil))) mNil))) (mCons (mAp (g2 mulT) (mCons (mVar 3) (mCons (mVar 8) mNil))) mNil))) (bTup 2 (bCons (bNm 2) (bCons (bNm 3) bNil)))))))))
noncomputable def m_law : PSt → Option Out :=
  (sSeq (sOwn 1 (mLst mNil))
  (sSeq (sSet (mC (.int 0)) (bNm 2))
  (sSeq (sSet (mC (.int 1)) (bNm 3))
  (sSeq (sSet (mAp (g2 addT) (mCons (mC (.int 1)) (mCons (mAp (g2 modT) (mCons (mAp (g2 fdivT) (mCons (mCall R_Lcell_at (mCons (mVar 0) (mCons (mC (.int 0)) mNil))) (mCons (mC (.int 4)) mNil))) (mCons (mAp (g2 powT) (mCons (mC (.int 10)) (mCons (mC (.int 15)) mNil))) mNil))) mNil))) (bNm 4))
  (sSeq (sFor (iVal (mSl (mVar 0) (some (mC (.int 1))) (some (mC (.int 41))))) (bNm 5) w_law_5)
  (sSeq (sFrz 1) (sSeq (sSet (mAp (g1 listT) (mCons (mVar 1) mNil)) (bNm 6))
  (sSeq (sFrz 1) (sSeq (sSet (mCall R_total (mCons (mVar 1) mNil)) (bNm 7))
  (sSeq (sIf (mOr (mNot (mAp (g1 (isTyT "tuple")) (mCons (mVar 7) mNil))) (mOr (mAp (g2 neT) (mCons (mAp (g1 lenT) (mCons (mVar 7) mNil)) (mCons (mC (.int 2)) mNil))) (mAp (g2 neT) (mCons (mVar 1) (mCons (mVar 6) mNil))))) (sRet (mC (.bl false))) sNx)
  (sSeq (sIf (mOr (mAp (g1 (isTyT "bool")) (mCons (mIx (mVar 7) (mC (.int 0))) mNil)) (mAp (g1 (isTyT "bool")) (mCons (mIx (mVar 7) (mC (.int 1))) mNil))) (sRet (mC (.bl false))) sNx)
  (sRet (mAnd (mAp (g2 eqT) (mCons (mVar 7) (mCons (mTup (mCons (mVar 2) (mCons (mVar 3) mNil))) mNil))) (mAp (g2 eqT) (mCons (mCall R_total (mCons (mLst mNil) mNil)) (mCons (mTup (mCons (mC (.int 0)) (mCons (mC (.int 1)) mNil))) mNil))))))))))))))))
noncomputable def R_law : List T → Option Ru := runP 1 10 m_law
noncomputable abbrev fn_law : Fn := ⟨5, ["_law_script"], R_law⟩
noncomputable abbrev gm_law : Gm := ⟨["_law_script", "_law_run", "_law_top", "_law_bottom", "_law_whole", "_law_cell", "_law_kept", "_law_found", "_law_part", "_law_number"], (defScope s_law).names, [], 4, [("total", fn_total), ("_law_fraction", fn_Lfraction), ("_law_cell_at", fn_Lcell_at)], ["isinstance", "bool", "tuple", "len", "list"], [], ["_law_run"], []⟩
theorem ck_law : dSs 200 gm_law (defBody s_law) = some m_law := by kernel_rfl
def prt (c0 w c : Int) : Int := if c0.fmod 4 == 1 then w else 1 + c.fmod 30
def nmb (c0 w c : Int) : Int := if c.fmod 7 == 3 then ((c.fdiv 30 * 48271).fmod (10 ^ 20)).fmod (prt c0 w c) else (c.fdiv 30 * 48271).fmod (10 ^ 20)
def dor (c : Int) : T := if (c.fdiv 2).fmod 2 == 0 then .non else .int (c.fmod 9)
def wst (c0 w c : Int) : Int × Int × T := (Zm.lt (nmb c0 w c) (prt c0 w c), Zm.lb (nmb c0 w c) (prt c0 w c), dor c)
def lcm30 (c0 w : Int) : Int := if c0.fmod 4 == 1 then w else 2329089562800
theorem small_dvd : ∀ k : Fin 30, (1 + ((k.val : Nat) : Int)) ∣ 2329089562800 := by decide
theorem prt_ok {c0 w c : Int} (hw : 0 < w) : 0 < prt c0 w c ∧ prt c0 w c ∣ lcm30 c0 w := by
  unfold prt lcm30
  split
  · exact ⟨hw, Int.dvd_refl _⟩
  · rw [fm (by decide)]
    refine ⟨by omega, ?_⟩
    have h := small_dvd ⟨(c % 30).toNat, by omega⟩
    have e : ((c % 30).toNat : Int) = c % 30 := by omega
    simp only [e] at h
    exact h
theorem nmb_ok {c0 w c : Int} (hw : 0 < w) : 0 ≤ nmb c0 w c ∧ nmb c0 w c ≤ 10 ^ 20 * prt c0 w c ∧ nmb c0 w c < 10 ^ 20 := by
  have hp := (prt_ok (c0 := c0) (c := c) hw).1
  unfold nmb
  rw [fm (j := 10 ^ 20) (by decide)]
  have h0 := Int.emod_nonneg (c.fdiv 30 * 48271) (show (10 ^ 20 : Int) ≠ 0 by decide)
  have h1 := Int.emod_lt_of_pos (c.fdiv 30 * 48271) (show (0 : Int) < 10 ^ 20 by decide)
  split
  · rw [fm hp]
    have h2 := Int.emod_nonneg (c.fdiv 30 * 48271 % 10 ^ 20) (show prt c0 w c ≠ 0 by omega)
    have h3 := Int.emod_lt_of_pos (c.fdiv 30 * 48271 % 10 ^ 20) hp
    have h4 : c.fdiv 30 * 48271 % 10 ^ 20 % prt c0 w c ≤ c.fdiv 30 * 48271 % 10 ^ 20 := by
      rcases Int.lt_or_le (c.fdiv 30 * 48271 % 10 ^ 20) (prt c0 w c) with h | h
      · rw [Int.emod_eq_of_lt h0 h]; omega
      · omega
    exact ⟨h2, by omega, by omega⟩
  · exact ⟨h0, by omega, h1⟩
theorem wst_ok {c0 w c : Int} (hw : 0 < w) : 0 ≤ (wst c0 w c).1 ∧ (wst c0 w c).1 ≤ 10 ^ 20 * (wst c0 w c).2.1 ∧ 0 < (wst c0 w c).2.1 ∧ (wst c0 w c).2.1 ∣ lcm30 c0 w ∧ (wst c0 w c).2.2.sh = true := by
  obtain ⟨p1, p2⟩ := prt_ok (c0 := c0) (c := c) hw
  obtain ⟨n1, n2, n3⟩ := nmb_ok (c0 := c0) (c := c) hw
  refine ⟨?_, Zm.low_le p1 n2, Zm.lb_pos p1, ?_, ?_⟩
  · show 0 ≤ Zm.lt _ _
    unfold Zm.lt
    exact Int.fdiv_nonneg n1 (Int.le_of_lt (Zm.gd_pos (by omega)))
  · exact Int.dvd_trans ⟨_, (Zm.lb_mul (by omega)).symm⟩ p2
  · show (dor c).sh = true
    unfold dor
    split <;> rfl
theorem law_go {ns : List Int} {w : Int} (hw : 0 < w) (hm : lcm30 (ns.getD 0 0) w ≤ 10 ^ 15) (hL : 0 < lcm30 (ns.getD 0 0) w) : ∀ (cs : List Int) (l : List T) (a b m : Int) (x5 x8 x9 : Option T),
    0 ≤ a → a ≤ m * b → 0 ≤ m → 0 < b → b ∣ lcm30 (ns.getD 0 0) w → m + 10 ^ 20 * cs.length ≤ 10 ^ 23 → l.length + cs.length ≤ 1000 →
    ∃ y5 y8 y9, forGo (bNm 5) w_law_5 (cs.map T.int) [some (scriptT ns), some (.own l), some (.int a), some (.int b), some (.int w), x5, none, none, x8, x9]
      = some (.nx [some (scriptT ns), some (.own (l ++ (cs.map (wst (ns.getD 0 0) w)).map stepT)), some (.int (tots (cs.map (wst (ns.getD 0 0) w)) (a, b)).1), some (.int (tots (cs.map (wst (ns.getD 0 0) w)) (a, b)).2), some (.int w), y5, none, none, y8, y9])
  | [], l, a, b, m, x5, x8, x9, _, _, _, _, _, _, _ => ⟨x5, x8, x9, by rw [List.map_nil]; simp [tots, forGo]⟩
  | c :: cs, l, a, b, m, x5, x8, x9, ha, hab, hm0, hb, hd, hlen, hll => by
    obtain ⟨p1, p2⟩ := prt_ok (c0 := ns.getD 0 0) (c := c) hw
    obtain ⟨n1, n2, n3⟩ := nmb_ok (c0 := ns.getD 0 0) (c := c) hw
    have bL : b ≤ 10 ^ 15 := Int.le_trans (Int.le_of_dvd hL hd) hm
    have pL : prt (ns.getD 0 0) w c ≤ 10 ^ 15 := Int.le_trans (Int.le_of_dvd hL p2) hm
    have e0 : ((c :: cs).length : Int) = cs.length + 1 := by simp
    have lenp : (0 : Int) ≤ cs.length := Int.natCast_nonneg _
    rw [e0] at hlen
    simp only [List.length_cons] at hll
    have mB : m ≤ 10 ^ 23 := by omega
    have aB : a ≤ 10 ^ 38 := by
      have : m * b ≤ 10 ^ 23 * 10 ^ 15 := Int.mul_le_mul mB bL (by omega) (by decide)
      omega
    have q1 : b * prt (ns.getD 0 0) w c ≤ 10 ^ 15 * 10 ^ 15 := Int.mul_le_mul bL pL (by omega) (by decide)
    have q0 : 0 < b * prt (ns.getD 0 0) w c := Int.mul_pos hb p1
    have t0 : 0 ≤ a * prt (ns.getD 0 0) w c + nmb (ns.getD 0 0) w c * b := by
      have := Int.mul_nonneg ha (Int.le_of_lt p1)
      have := Int.mul_nonneg n1 (Int.le_of_lt hb)
      omega
    have l0 : 0 ≤ Zm.lt (a * prt (ns.getD 0 0) w c + nmb (ns.getD 0 0) w c * b) (b * prt (ns.getD 0 0) w c) := by
      unfold Zm.lt
      exact Int.fdiv_nonneg t0 (Int.le_of_lt (Zm.gd_pos (by omega)))
    have l1 := Zm.low_le q0 (Zm.sum_le (n := m) (m := 10 ^ 20) hb p1 hab n2)
    have lq := List.length_append (as := l) (bs := [stepT (wst (ns.getD 0 0) w c)])
    simp only [List.length_cons, List.length_nil] at lq
    obtain ⟨y5, y8, y9, e1⟩ := law_go (ns := ns) hw hm hL cs (l ++ [stepT (wst (ns.getD 0 0) w c)]) _ _ (m + 10 ^ 20) (some (.int c)) (some (.int (prt (ns.getD 0 0) w c))) (some (.int (nmb (ns.getD 0 0) w c))) l0 l1 (by omega) (Zm.lb_pos q0) (Zm.add_dvd hb p1 hd p2) (by omega) (by omega)
    refine ⟨y5, y8, y9, ?_⟩
    have f1 := lfr_ok (t := nmb (ns.getD 0 0) w c) p1 (by omega)
    have f2 := lfr_ok (t := a * prt (ns.getD 0 0) w c + nmb (ns.getD 0 0) w c * b) q0 (by omega)
    have m1 : mulOk a (prt (ns.getD 0 0) w c) = true := mulOk_s (s70_of (by omega) (by omega)) (s70_of (by omega) (by omega))
    have m2 : mulOk (nmb (ns.getD 0 0) w c) b = true := mulOk_s (s70_of (by omega) (by omega)) (s70_of (by omega) (by omega))
    have m3 : mulOk b (prt (ns.getD 0 0) w c) = true := mulOk_s (s70_of (by omega) (by omega)) (s70_of (by omega) (by omega))
    have m4 : mulOk (c.fdiv 30) 48271 = true := mulOk_r (by decide)
    have cz := cell_ok ns (k := 0) (by decide)
    have ll : l.length < lim := by unfold lim; omega
    obtain ⟨ad1, ad2⟩ := Zm.add_low (a := a) (n := nmb (ns.getD 0 0) w c) hb p1
    have d30 : ((30 : Int) ≠ 0) = True := by simp
    have s30 : s70 30 = true := by decide
    have s2 : s70 2 = true := by decide
    have pn : (prt (ns.getD 0 0) w c ≠ 0) = True := eq_true (by omega)
    have z20 : ((10 : Int) ^ (20 : Int).toNat) = 10 ^ 20 := rfl
    have t20 : (0 : Int) ≤ 20 ∧ (20 : Int) ≤ 1000000 ∧ s64 10 = true := by decide
    have h2 : (c.fdiv 2).fmod 2 = 0 ∨ (c.fdiv 2).fmod 2 = 1 := by rw [fm (by decide)]; omega
    have h9 : ((9 : Int) ≠ 0) = True := by simp
    have h4 : ((4 : Int) ≠ 0) = True := by simp
    have h7 : ((7 : Int) ≠ 0) = True := by simp
    have h22 : ((2 : Int) ≠ 0) = True := by simp
    have hx : ((10 : Int) ^ 20 ≠ 0) = True := by simp
    have two : ((2 : Nat) ≤ lim) = True := by simp [lim]
    have bd : w_law_5 [some (scriptT ns), some (.own l), some (.int a), some (.int b), some (.int w), some (.int c), none, none, x8, x9]
        = some (.nx [some (scriptT ns), some (.own (l ++ [stepT (wst (ns.getD 0 0) w c)])), some (.int (Zm.lt (a * prt (ns.getD 0 0) w c + nmb (ns.getD 0 0) w c * b) (b * prt (ns.getD 0 0) w c))), some (.int (Zm.lb (a * prt (ns.getD 0 0) w c + nmb (ns.getD 0 0) w c * b) (b * prt (ns.getD 0 0) w c))), some (.int w), some (.int c), none, none, some (.int (prt (ns.getD 0 0) w c)), some (.int (nmb (ns.getD 0 0) w c))]) := by
      unfold w_law_5 stepT wst dor
      have ep : prt (ns.getD 0 0) w c = if (ns.getD 0 0).fmod 4 == 1 then w else 1 + c.fmod 30 := rfl
      have en : nmb (ns.getD 0 0) w c = if c.fmod 7 == 3 then ((c.fdiv 30 * 48271).fmod (10 ^ 20)).fmod (prt (ns.getD 0 0) w c) else (c.fdiv 30 * 48271).fmod (10 ^ 20) := rfl
      generalize prt (ns.getD 0 0) w c = P at *
      generalize nmb (ns.getD 0 0) w c = N at *
      have cz' : R_Lcell_at [scriptT ns, .int 0] = some (.ok (.int (ns.getD 0 0))) := cz
      generalize ns.getD 0 0 = C at *
      cases q4 : (C.fmod 4 == 1) <;> cases q7 : (c.fmod 7 == 3) <;> simp only [q4, q7, if_true, if_false, Bool.false_eq_true] at ep en <;> rcases h2 with h2 | h2 <;>
        · simp_arith [share_script, sh_script, cz', eq_int, h9, h4, h7, h22, d30, hx, q4, q7, z20, t20, s30, s2, m4, ← ep, pn, ← en, f1, f2, m1, m2, m3, h2, ll, two]
          try simp only [show ((1 : Int) == 0) = false from rfl, Bool.false_eq_true, if_false]
          done
    have et : tots ((c :: cs).map (wst (ns.getD 0 0) w)) (a, b) = tots (cs.map (wst (ns.getD 0 0) w)) (Zm.lt (a * prt (ns.getD 0 0) w c + nmb (ns.getD 0 0) w c * b) (b * prt (ns.getD 0 0) w c), Zm.lb (a * prt (ns.getD 0 0) w c + nmb (ns.getD 0 0) w c * b) (b * prt (ns.getD 0 0) w c)) := by
      rw [List.map_cons]
      conv => lhs; unfold wst tots
      rw [ad1, ad2]
      rfl
    rw [et]
    rw [List.map_cons, List.map_cons, List.map_cons]
    unfold forGo
    have bn : bNm 5 (.int c) [some (scriptT ns), some (.own l), some (.int a), some (.int b), some (.int w), x5, none, none, x8, x9] = some [some (scriptT ns), some (.own l), some (.int a), some (.int b), some (.int w), some (.int c), none, none, x8, x9] := by simp_arith []
    rw [bn]
    simp only [bd]
    rw [e1]
    simp
theorem fit_step {w : Int × Int × T} (h : Fit w.2.2 0) : Fit (stepT w) 2 := Fit.tup fun t ht => by
  simp only [List.mem_cons, List.not_mem_nil, or_false] at ht
  rcases ht with rfl | rfl
  · exact Fit.fr _ _
  · exact h.mono (by omega)
theorem dor_fit (c : Int) : Fit (dor c) 0 := by
  unfold dor
  split
  · exact Fit.non 0
  · exact Fit.int _ 0
theorem law_true (ns : List Int) (h : ns.length ≤ 63) : R_law [scriptT ns] = some (.ok (.bl true)) := by
  have cz : R_Lcell_at [scriptT ns, .int 0] = some (.ok (.int (ns.getD 0 0))) := cell_ok ns (k := 0) (by decide)
  have w0 : 0 < 1 + ((ns.getD 0 0).fdiv 4).fmod (10 ^ 15) ∧ 1 + ((ns.getD 0 0).fdiv 4).fmod (10 ^ 15) ≤ 10 ^ 15 := by
    rw [fm (j := 10 ^ 15) (by decide)]
    omega
  generalize hw : 1 + ((ns.getD 0 0).fdiv 4).fmod (10 ^ 15) = w at *
  have hL : 0 < lcm30 (ns.getD 0 0) w ∧ lcm30 (ns.getD 0 0) w ≤ 10 ^ 15 := by
    unfold lcm30
    split <;> omega
  have cl := cut_len ns (some 1) (some 41)
  generalize hc : cutL ns (some 1) (some 41) = cs at *
  obtain ⟨y5, y8, y9, e1⟩ := law_go (ns := ns) w0.1 hL.2 hL.1 cs [] 0 1 0 none none none (by decide) (by decide) (by decide) (by decide) (Int.one_dvd _) (by omega) (by simp; omega)
  rw [List.nil_append] at e1
  have hws : ∀ v ∈ cs.map (wst (ns.getD 0 0) w), 0 ≤ v.1 ∧ v.1 ≤ 10 ^ 20 * v.2.1 ∧ 0 < v.2.1 ∧ v.2.1 ∣ lcm30 (ns.getD 0 0) w ∧ v.2.2.sh = true := by
    intro v hv
    obtain ⟨c, -, rfl⟩ := List.mem_map.mp hv
    exact wst_ok w0.1
  have tt := total_ok hL.1 hL.2 hws (by simp; omega)
  have t0 : R_total [.lst []] = some (.ok (fr 0 1)) := total_ok (ws := []) hL.1 hL.2 (fun _ h => by cases h) (by simp)
  have fit : Fit (.lst ((cs.map (wst (ns.getD 0 0) w)).map stepT)) 3 := Fit.nd fun t ht => by
    obtain ⟨v, hv, rfl⟩ := List.mem_map.mp ht
    obtain ⟨c, -, rfl⟩ := List.mem_map.mp hv
    exact fit_step (dor_fit c)
  obtain ⟨s1, s2⟩ := share_steps (cs.map (wst (ns.getD 0 0) w)) fun v hv => (hws v hv).2.2.2.2
  generalize (cs.map (wst (ns.getD 0 0) w)) = ws at *
  have e2 := (eq_same fit (by decide) rfl fit).2
  have e3 : ∀ a b : Int, eqT (fr a b) (fr a b) = some (.bl true) := fun a b => (eq_same (Fit.fr a b) (by decide) rfl (Fit.fr a b)).1
  have s4 : s70 4 = true := by decide
  have h4 : ((4 : Int) ≠ 0) = True := by simp
  have hx : ((10 : Int) ^ 15 ≠ 0) = True := by simp
  have z15 : ((10 : Int) ^ (15 : Int).toNat) = 10 ^ 15 := rfl
  have t15 : (0 : Int) ≤ 15 ∧ (15 : Int) ≤ 1000000 ∧ s64 10 = true := by decide
  have c0 : ((0 : Nat) ≤ lim) = True := by simp [lim]
  have c2 : ((2 : Nat) ≤ lim) = True := by simp [lim]
  unfold R_law m_law
  unfold scriptT at *
  simp_arith [sh_ints, cut_map, hc, cz, s4, h4, hx, z15, t15, hw, share_ints, e1, s1, s2, tt, t0, e2, e3, ne_int, c0, c2]
  done
theorem all_mk {l : PySem.W.OpenLaw} {w : World} {K : PySem.W.Frag} {h : Heap} {mg : Str → Option Value} {fa : Addr} (X : K.In h) (G : h.Ns mainGlobals mg) (hfa : mg "law" = some (.ref fa))
    {f1 : Addr} {od1 an1 : Option Addr} {sl1 : Array (Option Value)} {oc1 kV1 dc1 pm1 cd1 ct1 : Value}
    (a1 : PySem.W.nsIn K mainGlobals "greatest_divisor" = some (some (.ref f1))) (l1 : K.lookup f1 = some ⟨oc1, od1, .func (PySem.W.fnOf "greatest_divisor" "greatest_divisor" (defArgs s_greatest_divisor) (defBody s_greatest_divisor) (defScope s_greatest_divisor) .none kV1 dc1 pm1 an1 cd1 ct1), sl1⟩) (c1 : PySem.W.codeIn K cd1 "greatest_divisor" = true) (k1 : PySem.W.keepIn K (.ref f1) = true)
    {f2 : Addr} {od2 an2 : Option Addr} {sl2 : Array (Option Value)} {oc2 kV2 dc2 pm2 cd2 ct2 : Value}
    (a2 : PySem.W.nsIn K mainGlobals "is_whole" = some (some (.ref f2))) (l2 : K.lookup f2 = some ⟨oc2, od2, .func (PySem.W.fnOf "is_whole" "is_whole" (defArgs s_is_whole) (defBody s_is_whole) (defScope s_is_whole) .none kV2 dc2 pm2 an2 cd2 ct2), sl2⟩) (c2 : PySem.W.codeIn K cd2 "is_whole" = true) (k2 : PySem.W.keepIn K (.ref f2) = true)
    {f3 : Addr} {od3 an3 : Option Addr} {sl3 : Array (Option Value)} {oc3 kV3 dc3 pm3 cd3 ct3 : Value}
    {dt3 : Addr} {dc1_3 : Value} {dd1_3 : Option Addr} {ds1_3 : Array (Option Value)} {dk3 : Tok} {dn3 : Nat}
    (a3 : PySem.W.nsIn K mainGlobals "fraction" = some (some (.ref f3))) (l3 : K.lookup f3 = some ⟨oc3, od3, .func (PySem.W.fnOf "fraction" "fraction" (defArgs s_fraction) (defBody s_fraction) (defScope s_fraction) (.ref dt3) kV3 dc3 pm3 an3 cd3 ct3), sl3⟩) (c3 : PySem.W.codeIn K cd3 "fraction" = true) (k3 : PySem.W.keepIn K (.ref f3) = true)
    (q3 : K.lookup dt3 = some ⟨dc1_3, dd1_3, .seq #[.int 1 dk3] dn3, ds1_3⟩)
    {f4 : Addr} {od4 an4 : Option Addr} {sl4 : Array (Option Value)} {oc4 kV4 dc4 pm4 cd4 ct4 : Value}
    (a4 : PySem.W.nsIn K mainGlobals "plus" = some (some (.ref f4))) (l4 : K.lookup f4 = some ⟨oc4, od4, .func (PySem.W.fnOf "plus" "plus" (defArgs s_plus) (defBody s_plus) (defScope s_plus) .none kV4 dc4 pm4 an4 cd4 ct4), sl4⟩) (c4 : PySem.W.codeIn K cd4 "plus" = true) (k4 : PySem.W.keepIn K (.ref f4) = true)
    {f5 : Addr} {od5 an5 : Option Addr} {sl5 : Array (Option Value)} {oc5 kV5 dc5 pm5 cd5 ct5 : Value}
    (a5 : PySem.W.nsIn K mainGlobals "total" = some (some (.ref f5))) (l5 : K.lookup f5 = some ⟨oc5, od5, .func (PySem.W.fnOf "total" "total" (defArgs s_total) (defBody s_total) (defScope s_total) .none kV5 dc5 pm5 an5 cd5 ct5), sl5⟩) (c5 : PySem.W.codeIn K cd5 "total" = true) (k5 : PySem.W.keepIn K (.ref f5) = true)
    {f6 : Addr} {od6 an6 : Option Addr} {sl6 : Array (Option Value)} {oc6 kV6 dc6 pm6 cd6 ct6 : Value}
    (a6 : PySem.W.nsIn K mainGlobals "_law_divisor" = some (some (.ref f6))) (l6 : K.lookup f6 = some ⟨oc6, od6, .func (PySem.W.fnOf "_law_divisor" "_law_divisor" (defArgs s_Ldivisor) (defBody s_Ldivisor) (defScope s_Ldivisor) .none kV6 dc6 pm6 an6 cd6 ct6), sl6⟩) (c6 : PySem.W.codeIn K cd6 "_law_divisor" = true) (k6 : PySem.W.keepIn K (.ref f6) = true)
    {f7 : Addr} {od7 an7 : Option Addr} {sl7 : Array (Option Value)} {oc7 kV7 dc7 pm7 cd7 ct7 : Value}
    (a7 : PySem.W.nsIn K mainGlobals "_law_fraction" = some (some (.ref f7))) (l7 : K.lookup f7 = some ⟨oc7, od7, .func (PySem.W.fnOf "_law_fraction" "_law_fraction" (defArgs s_Lfraction) (defBody s_Lfraction) (defScope s_Lfraction) .none kV7 dc7 pm7 an7 cd7 ct7), sl7⟩) (c7 : PySem.W.codeIn K cd7 "_law_fraction" = true) (k7 : PySem.W.keepIn K (.ref f7) = true)
    {f8 : Addr} {od8 an8 : Option Addr} {sl8 : Array (Option Value)} {oc8 kV8 dc8 pm8 cd8 ct8 : Value}
    (a8 : PySem.W.nsIn K mainGlobals "_law_cell_at" = some (some (.ref f8))) (l8 : K.lookup f8 = some ⟨oc8, od8, .func (PySem.W.fnOf "_law_cell_at" "_law_cell_at" (defArgs s_Lcell_at) (defBody s_Lcell_at) (defScope s_Lcell_at) .none kV8 dc8 pm8 an8 cd8 ct8), sl8⟩) (c8 : PySem.W.codeIn K cd8 "_law_cell_at" = true) (k8 : PySem.W.keepIn K (.ref f8) = true)
    {f9 : Addr} {od9 an9 : Option Addr} {sl9 : Array (Option Value)} {oc9 kV9 dc9 pm9 cd9 ct9 : Value}
    (a9 : PySem.W.nsIn K mainGlobals "law" = some (some (.ref f9))) (l9 : K.lookup f9 = some ⟨oc9, od9, .func (PySem.W.fnOf "law" "law" (defArgs s_law) (defBody s_law) (defScope s_law) .none kV9 dc9 pm9 an9 cd9 ct9), sl9⟩) (c9 : PySem.W.codeIn K cd9 "law" = true) (k9 : PySem.W.keepIn K (.ref f9) = true)
    (z_abs : PySem.W.nsIn K mainGlobals "abs" = some none)
    (z_isinstance : PySem.W.nsIn K mainGlobals "isinstance" = some none)
    (z_int : PySem.W.nsIn K mainGlobals "int" = some none)
    (z_bool : PySem.W.nsIn K mainGlobals "bool" = some none)
    (z_len : PySem.W.nsIn K mainGlobals "len" = some none)
    (z_tuple : PySem.W.nsIn K mainGlobals "tuple" = some none)
    (z_list : PySem.W.nsIn K mainGlobals "list" = some none)
    {c_NoNumber : Addr} {cd_NoNumber : ClassData} (y0_NoNumber : PySem.W.nsIn K mainGlobals "NoNumber" = some (some (.ref c_NoNumber))) (y1_NoNumber : PySem.W.excIn K c_NoNumber [.type "ValueError", .type "Exception", .type "BaseException", .type "object"] "ValueError.__new__" = true) (y2_NoNumber : PySem.W.subIn K (.ref c_NoNumber) (.ref c_NoNumber) = some true) (y3_NoNumber : PySem.W.clsIn K c_NoNumber = some cd_NoNumber)
    (y4_NoNumber : PySem.W.typeIn K (.ref c_NoNumber) = some (.type "type")) (y5_NoNumber : PySem.W.findIn K (.ref c_NoNumber) "__getattribute__" = some (some (.builtin "BaseException.__getattribute__"))) (y6_NoNumber : PySem.W.findIn K (.ref c_NoNumber) "__getattr__" = some none)
    (y7_NoNumber : PySem.W.findIn K (.ref c_NoNumber) "__class__" = some (some (.builtin "object.__class__"))) (y8_NoNumber : PySem.W.mroIn K c_NoNumber (.type "object") = some true) (y9_NoNumber : PySem.W.mroIn K c_NoNumber (.type "BaseException") = some true)
    (yg : PySem.W.specialIn K (.builtin "object.__class__") "__get__" = some (some (.builtin "getset_descriptor.__get__"))) (yt : PySem.W.takesIn K (.builtin "object.__class__") = some true)
    : ∃ fd : FuncData, (∀ (s : Shared) (v : Value), BindsTo s fd ⟨[v], []⟩ [("_law_script", v)]) ∧ ∀ base : Heap, K.In base → base.Ns mainGlobals mg → FnOk l.prog w K mg base CX0 5 fa fd ["_law_script"] (spLaw K) := by
  have e := hfa.symm.trans (PySem.W.mg_of X G a9)
  cases e
  let ca : Str → Value := fun c => if c = "NoNumber" then .ref c_NoNumber else .none
  have b_abs : mg "abs" = none := PySem.W.mg_none_of X G z_abs
  have b_isinstance : mg "isinstance" = none := PySem.W.mg_none_of X G z_isinstance
  have b_int : mg "int" = none := PySem.W.mg_none_of X G z_int
  have b_bool : mg "bool" = none := PySem.W.mg_none_of X G z_bool
  have b_len : mg "len" = none := PySem.W.mg_none_of X G z_len
  have b_tuple : mg "tuple" = none := PySem.W.mg_none_of X G z_tuple
  have b_list : mg "list" = none := PySem.W.mg_none_of X G z_list
  let CL_NoNumber : ECls K mg "NoNumber" := ⟨c_NoNumber, PySem.W.mg_of X G y0_NoNumber, ⟨y1_NoNumber, y2_NoNumber, ⟨_, y3_NoNumber⟩, y4_NoNumber, y5_NoNumber, y6_NoNumber, y7_NoNumber, y8_NoNumber, y9_NoNumber, yg, yt⟩⟩
  have E_NoNumber : ∃ T : ECls K mg "NoNumber", ca "NoNumber" = .ref T.C := ⟨CL_NoNumber, by rfl⟩
  have F1 := fund_mk (st := s_greatest_divisor) l1 c1 k1
  let T1 : Tx K mg "greatest_divisor" s_greatest_divisor ["one", "other"] := ⟨_, _, F1, PySem.W.mg_of X G a1, .all fun us hl => match us, hl with | [_, _], _ => rfl⟩
  have F2 := fund_mk (st := s_is_whole) l2 c2 k2
  let T2 : Tx K mg "is_whole" s_is_whole ["thing"] := ⟨_, _, F2, PySem.W.mg_of X G a2, .all fun us hl => match us, hl with | [_], _ => rfl⟩
  have F3 := fund_mk (st := s_fraction) l3 c3 k3
  let T3 : Tx K mg "fraction" s_fraction ["top", "bottom"] := ⟨_, _, F3, PySem.W.mg_of X G a3, fun s us X hl => match us, hl with | [_, _], _ => PySem.W.binds_K X rfl q3 rfl rfl rfl⟩
  have F4 := fund_mk (st := s_plus) l4 c4 k4
  let T4 : Tx K mg "plus" s_plus ["one", "other"] := ⟨_, _, F4, PySem.W.mg_of X G a4, .all fun us hl => match us, hl with | [_, _], _ => rfl⟩
  have F5 := fund_mk (st := s_total) l5 c5 k5
  let T5 : Tx K mg "total" s_total ["run"] := ⟨_, _, F5, PySem.W.mg_of X G a5, .all fun us hl => match us, hl with | [_], _ => rfl⟩
  have F6 := fund_mk (st := s_Ldivisor) l6 c6 k6
  let T6 : Tx K mg "_law_divisor" s_Ldivisor ["_law_one", "_law_other"] := ⟨_, _, F6, PySem.W.mg_of X G a6, .all fun us hl => match us, hl with | [_, _], _ => rfl⟩
  have F7 := fund_mk (st := s_Lfraction) l7 c7 k7
  let T7 : Tx K mg "_law_fraction" s_Lfraction ["_law_top", "_law_bottom"] := ⟨_, _, F7, PySem.W.mg_of X G a7, .all fun us hl => match us, hl with | [_, _], _ => rfl⟩
  have F8 := fund_mk (st := s_Lcell_at) l8 c8 k8
  let T8 : Tx K mg "_law_cell_at" s_Lcell_at ["_law_script", "_law_k"] := ⟨_, _, F8, PySem.W.mg_of X G a8, .all fun us hl => match us, hl with | [_, _], _ => rfl⟩
  have F9 := fund_mk (st := s_law) l9 c9 k9
  let T9 : Tx K mg "law" s_law ["_law_script"] := ⟨_, _, F9, PySem.W.mg_of X G a9, .all fun us hl => match us, hl with | [_], _ => rfl⟩
  refine ⟨PySem.W.fnOf "law" "law" (defArgs s_law) (defBody s_law) (defScope s_law) .none kV9 dc9 pm9 an9 cd9 ct9, fun s v => .of_eq rfl, fun base _ _ => ?_⟩
  have K1 : FnOk l.prog w K mg base (CX1 l.prog w) 1 T1.f T1.fd ["one", "other"] (spP K ca R_greatest_divisor) := fn_ok (n := 200) (Γ := gm_greatest_divisor) T1.F sc_greatest_divisor rfl rfl all_nil rfl (all_cons b_abs all_nil) fns_nil all_nil ck_greatest_divisor
  let D1 : DefX l.prog w K mg base 1 "greatest_divisor" ["one", "other"] (spP K ca R_greatest_divisor) := ⟨T1.f, T1.fd, K1, T1.m, T1.F.kp, T1.b⟩
  have K2 : FnOk l.prog w K mg base (CX1 l.prog w) 1 T2.f T2.fd ["thing"] (spP K ca R_is_whole) := fn_ok (n := 200) (Γ := gm_is_whole) T2.F sc_is_whole rfl rfl all_nil rfl (all_cons b_isinstance (all_cons b_int (all_cons b_bool all_nil))) fns_nil all_nil ck_is_whole
  let D2 : DefX l.prog w K mg base 1 "is_whole" ["thing"] (spP K ca R_is_whole) := ⟨T2.f, T2.fd, K2, T2.m, T2.F.kp, T2.b⟩
  have K3 : FnOk l.prog w K mg base (CX1 l.prog w) 2 T3.f T3.fd ["top", "bottom"] (spP K ca R_fraction) := fn_ok (n := 200) (Γ := gm_fraction) T3.F sc_fraction rfl rfl all_nil rfl all_nil (fns_cons (by decide) D1 (fns_cons (by decide) D2 fns_nil)) (all_cons E_NoNumber all_nil) ck_fraction
  let D3 : DefX l.prog w K mg base 2 "fraction" ["top", "bottom"] (spP K ca R_fraction) := ⟨T3.f, T3.fd, K3, T3.m, T3.F.kp, T3.b⟩
  have K4 : FnOk l.prog w K mg base (CX1 l.prog w) 3 T4.f T4.fd ["one", "other"] (spP K ca R_plus) := fn_ok (n := 200) (Γ := gm_plus) T4.F sc_plus rfl rfl all_nil rfl all_nil (fns_cons (by decide) D3 fns_nil) all_nil ck_plus
  let D4 : DefX l.prog w K mg base 3 "plus" ["one", "other"] (spP K ca R_plus) := ⟨T4.f, T4.fd, K4, T4.m, T4.F.kp, T4.b⟩
  have K5 : FnOk l.prog w K mg base (CX1 l.prog w) 4 T5.f T5.fd ["run"] (spP K ca R_total) := fn_ok (n := 200) (Γ := gm_total) T5.F sc_total rfl rfl all_nil rfl all_nil (fns_cons (by decide) D4 fns_nil) all_nil ck_total
  let D5 : DefX l.prog w K mg base 4 "total" ["run"] (spP K ca R_total) := ⟨T5.f, T5.fd, K5, T5.m, T5.F.kp, T5.b⟩
  have K6 : FnOk l.prog w K mg base (CX1 l.prog w) 1 T6.f T6.fd ["_law_one", "_law_other"] (spP K ca R_Ldivisor) := fn_ok (n := 200) (Γ := gm_Ldivisor) T6.F sc_Ldivisor rfl rfl all_nil rfl (all_cons b_abs all_nil) fns_nil all_nil ck_Ldivisor
  let D6 : DefX l.prog w K mg base 1 "_law_divisor" ["_law_one", "_law_other"] (spP K ca R_Ldivisor) := ⟨T6.f, T6.fd, K6, T6.m, T6.F.kp, T6.b⟩
  have K7 : FnOk l.prog w K mg base (CX1 l.prog w) 2 T7.f T7.fd ["_law_top", "_law_bottom"] (spP K ca R_Lfraction) := fn_ok (n := 200) (Γ := gm_Lfraction) T7.F sc_Lfraction rfl rfl all_nil rfl all_nil (fns_cons (by decide) D6 fns_nil) all_nil ck_Lfraction
  let D7 : DefX l.prog w K mg base 2 "_law_fraction" ["_law_top", "_law_bottom"] (spP K ca R_Lfraction) := ⟨T7.f, T7.fd, K7, T7.m, T7.F.kp, T7.b⟩
  have K8 : FnOk l.prog w K mg base (CX1 l.prog w) 1 T8.f T8.fd ["_law_script", "_law_k"] (spP K ca R_Lcell_at) := fn_ok (n := 200) (Γ := gm_Lcell_at) T8.F sc_Lcell_at rfl rfl all_nil rfl (all_cons b_len all_nil) fns_nil all_nil ck_Lcell_at
  let D8 : DefX l.prog w K mg base 1 "_law_cell_at" ["_law_script", "_law_k"] (spP K ca R_Lcell_at) := ⟨T8.f, T8.fd, K8, T8.m, T8.F.kp, T8.b⟩
  have K9 : FnOk l.prog w K mg base (CX1 l.prog w) 5 T9.f T9.fd ["_law_script"] (spP K ca R_law) := fn_ok (n := 200) (Γ := gm_law) T9.F sc_law rfl rfl all_nil rfl (all_cons b_isinstance (all_cons b_bool (all_cons b_tuple (all_cons b_len (all_cons b_list all_nil))))) (fns_cons (by decide) D5 (fns_cons (by decide) D7 (fns_cons (by decide) D8 fns_nil))) all_nil ck_law
  exact law_fn K9 fun ns h => law_true ns h
theorem walk {l : PySem.W.OpenLaw} {q : Program} {loose : List Str} {XP : (Str → Option Value) → Heap → Prop} {YP : World → Heap → Prop} {d : DefRec} {K : Params → PySem.W.Frag} (hn : l.most = some 63) (hdf : d.params.defaults = [])
    (hY : ∀ (w : World) (h : Heap), YP w h → (K w.params).In h)
    (F : ∀ (w : World) (mg : Str → Option Value) (fa : Addr) (h : Heap), (K w.params).In h → h.Ns mainGlobals mg → mg d.name = some (.ref fa) →
      ∃ fd : FuncData, (∀ (s : Shared) (u : Value), BindsTo s fd ⟨[u], []⟩ [("_law_script", u)]) ∧ ∀ base : Heap, (K w.params).In base → base.Ns mainGlobals mg → FnOk l.prog w (K w.params) mg base CX0 5 fa fd ["_law_script"] (spLaw (K w.params))) :
    PySem.W.WalkO q loose XP YP l.row.toRowW d [] (fun f vs => PySem.call f vs) :=
  L2.walk_of (n := 63) (k := 5) (x := "_law_script") (CX := fun _ => CX0) (sp := fun w => spLaw (K w.params)) hn (by decide) hdf ⟨rfl, by decide, by decide⟩ hY F (fun _ _ a ns hl _ hS => ⟨a, ns, rfl, hS, hl, fun _ => rfl⟩) fun _ _ _ _ _ z => z
end Zl
open PySem PySem.W PyProof.Rows
set_option maxRecDepth 100000 in
set_option maxHeartbeats 0 in
theorem PySem.Challenge.cw_zonewalk_k32_totals_holds : PySem.Challenge.rw_zonewalk_k32_totals.Holds := by
  w_on; o_law; k_head; (case hw => w_witness2)
  k_fill
  refine Zl.walk (l := PySem.Challenge.rw_zonewalk_k32_totals) rfl rfl (fun w h Y => PySem.W.kIn_of Y) ?F
  case F =>
    intro w mg fa h KX G hmg
    refine' Zl.all_mk KX G hmg ?a1 ?l1 ?c1 ?k1 ?a2 ?l2 ?c2 ?k2 ?a3 ?l3 ?c3 ?k3 ?q3 ?a4 ?l4 ?c4 ?k4 ?a5 ?l5 ?c5 ?k5 ?a6 ?l6 ?c6 ?k6 ?a7 ?l7 ?c7 ?k7 ?a8 ?l8 ?c8 ?k8 ?a9 ?l9 ?c9 ?k9 ?z_abs ?z_isinstance ?z_int ?z_bool ?z_len ?z_tuple ?z_list ?y0_NoNumber ?y1_NoNumber ?y2_NoNumber ?y3_NoNumber ?y4_NoNumber ?y5_NoNumber ?y6_NoNumber ?y7_NoNumber ?y8_NoNumber ?y9_NoNumber ?yg ?yt
    (case a1 => k_is)
    (case l1 => k_is)
    (case c1 => k_is)
    (case k1 => k_is)
    (case a2 => k_is)
    (case l2 => k_is)
    (case c2 => k_is)
    (case k2 => k_is)
    (case a3 => k_is)
    (case l3 => k_is)
    (case c3 => k_is)
    (case k3 => k_is)
    (case q3 => k_is)
    (case a4 => k_is)
    (case l4 => k_is)
    (case c4 => k_is)
    (case k4 => k_is)
    (case a5 => k_is)
    (case l5 => k_is)
    (case c5 => k_is)
    (case k5 => k_is)
    (case a6 => k_is)
    (case l6 => k_is)
    (case c6 => k_is)
    (case k6 => k_is)
    (case a7 => k_is)
    (case l7 => k_is)
    (case c7 => k_is)
    (case k7 => k_is)
    (case a8 => k_is)
    (case l8 => k_is)
    (case c8 => k_is)
    (case k8 => k_is)
    (case a9 => k_is)
    (case l9 => k_is)
    (case c9 => k_is)
    (case k9 => k_is)
    (case z_abs => k_is)
    (case z_isinstance => k_is)
    (case z_int => k_is)
    (case z_bool => k_is)
    (case z_len => k_is)
    (case z_tuple => k_is)
    (case z_list => k_is)
    (case y0_NoNumber => k_is)
    (case y1_NoNumber => k_exc)
    (case y2_NoNumber => k_is)
    (case y3_NoNumber => k_is)
    (case y4_NoNumber => k_is)
    (case y5_NoNumber => k_is)
    (case y6_NoNumber => k_is)
    (case y7_NoNumber => k_is)
    (case y8_NoNumber => k_is)
    (case y9_NoNumber => k_is)
    (case yg => k_is)
    (case yt => k_is)
