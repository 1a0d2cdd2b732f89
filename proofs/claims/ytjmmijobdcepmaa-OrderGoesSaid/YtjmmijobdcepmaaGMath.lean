/-
  Goods, as plain mathematics: names, the order of texts byte by byte, rules, which goods may be. No program in it.
-/
import Derived.Lib.Hide
namespace Go.Proofs.Ytjmmijobdcepmaa.Goods

/-- May a byte be in a name? -/
def okb (b : UInt8) : Bool := (decide (97 ≤ b.toNat) && decide (b.toNat ≤ 122)) || (decide (48 ≤ b.toNat) && decide (b.toNat ≤ 57))
theorem okb_t {b : UInt8} : okb b = true ↔ (97 ≤ b.toNat ∧ b.toNat ≤ 122) ∨ (48 ≤ b.toNat ∧ b.toNat ≤ 57) := by unfold okb; simp
theorem okb_f {b : UInt8} : okb b = false ↔ ¬ ((97 ≤ b.toNat ∧ b.toNat ≤ 122) ∨ (48 ≤ b.toNat ∧ b.toNat ≤ 57)) := by rw [← okb_t]; simp
/-- May a text be a name? -/
def nameB (s : ByteArray) : Bool := decide (1 ≤ s.size) && decide (s.size ≤ 16) && s.data.toList.all okb
theorem nameB_t {s : ByteArray} (h1 : 1 ≤ s.size) (h2 : s.size ≤ 16) : nameB s = s.data.toList.all okb := by unfold nameB; simp [h1, h2]
theorem nameB_no {s : ByteArray} (h : ¬ (1 ≤ s.size ∧ s.size ≤ 16)) : nameB s = false := by
  unfold nameB
  by_cases h1 : 1 ≤ s.size
  · have h2 : ¬ s.size ≤ 16 := fun h2 => h ⟨h1, h2⟩
    simp [h2]
  · simp [h1]
theorem name_size {s : ByteArray} (h : nameB s = true) : 1 ≤ s.size ∧ s.size ≤ 16 := by
  apply Classical.byContradiction
  intro hc
  rw [nameB_no hc] at h
  cases h

/-- What holds of each of the first so many. -/
theorem all_take {α : Type} {p : α → Bool} {l : List α} {k : Nat} (h : k < l.length) : (l.take (k + 1)).all p = ((l.take k).all p && p l[k]) := by
  rw [List.take_succ_eq_append_getElem h, List.all_append]
  simp
theorem not_all {α : Type} {p : α → Bool} {l : List α} {k : Nat} (h : k < l.length) (hf : p l[k] = false) : l.all p = false := by
  cases hc : l.all p with
  | false => rfl
  | true => rw [List.all_eq_true.1 hc _ (List.getElem_mem h)] at hf; cases hf
theorem any_take {α : Type} {p : α → Bool} {l : List α} {k : Nat} (h : k < l.length) : (l.take (k + 1)).any p = ((l.take k).any p || p l[k]) := by
  rw [List.take_succ_eq_append_getElem h, List.any_append]
  simp
theorem any_at {α : Type} {p : α → Bool} {l : List α} {k : Nat} (h : k < l.length) (hf : p l[k] = true) : l.any p = true :=
  List.any_eq_true.2 ⟨_, List.getElem_mem h, hf⟩

/-- A rule: of what, for what, its rank, how many for how many. -/
structure Sb where
  f : ByteArray
  t : ByteArray
  r : Int
  n : Int
  d : Int
instance : Inhabited Sb := ⟨⟨ByteArray.empty, ByteArray.empty, 0, 0, 0⟩⟩
theorem Sb.same {a b : Sb} (h1 : a.f = b.f) (h2 : a.t = b.t) (h3 : a.r = b.r) (h4 : a.n = b.n) (h5 : a.d = b.d) : a = b := by cases a; cases b; cases h1; cases h2; cases h3; cases h4; cases h5; rfl
/-- May a rule be? -/
def numP (x : Sb) : Prop := 1 ≤ x.r ∧ x.r ≤ 9 ∧ 1 ≤ x.n ∧ x.n ≤ 100 ∧ 1 ≤ x.d ∧ x.d ≤ 100
instance (x : Sb) : Decidable (numP x) := by unfold numP; exact inferInstance
def mayB (x : Sb) : Bool := nameB x.f && nameB x.t && decide (x.f ≠ x.t) && decide (numP x)
theorem mayB_t {x : Sb} : mayB x = true ↔ nameB x.f = true ∧ nameB x.t = true ∧ x.f ≠ x.t ∧ numP x := by unfold mayB; simp [and_assoc]
/-- How many are needed. -/
def need (x : Sb) (n : Int) : Int := (n * x.n + x.d - 1) / x.d
/-- Is a text among these? -/
def hasB (l : List ByteArray) (s : ByteArray) : Bool := l.any (fun x => decide (x = s))
theorem hasB_t {l : List ByteArray} {s : ByteArray} : hasB l s = true ↔ s ∈ l := by unfold hasB; simp
/-- Are both that a rule names among these? -/
def amongB (x : Sb) (l : List ByteArray) : Bool := hasB l x.f && hasB l x.t
end Go.Proofs.Ytjmmijobdcepmaa.Goods
