/-
  Goods, as plain mathematics: the order of texts byte by byte, of rules, rows that rise, what is put into one. No program in it.
-/
import Derived.Test.YtjmmijobdcepmaaGMath
import GoSem.Op.String
import Derived.Lib.Strings
namespace Go.Proofs.Ytjmmijobdcepmaa.Goods
open Go

theorem less_self : ∀ l : List UInt8, Op.bytesLess l l = false
  | [] => rfl
  | a :: x => by simp [Op.bytesLess, less_self x, UInt8.lt_irrefl]
theorem less_trans : ∀ a b c : List UInt8, Op.bytesLess a b = true → Op.bytesLess b c = true → Op.bytesLess a c = true
  | _, _, [], _, h2 => by simp [Op.bytesLess] at h2
  | _, [], _ :: _, h1, _ => by simp [Op.bytesLess] at h1
  | [], _ :: _, _ :: _, _, _ => rfl
  | x :: a, y :: b, z :: c, h1, h2 => by
    simp [Op.bytesLess] at h1 h2 ⊢
    rcases h1 with h1 | ⟨rfl, h1⟩
    · rcases h2 with h2 | ⟨rfl, h2⟩
      · exact .inl (UInt8.lt_trans h1 h2)
      · exact .inl h1
    · rcases h2 with h2 | ⟨rfl, h2⟩
      · exact .inl h2
      · exact .inr ⟨rfl, less_trans a b c h1 h2⟩
theorem less_total : ∀ a b : List UInt8, Op.bytesLess a b = false → Op.bytesLess b a = false → a = b
  | [], [], _, _ => rfl
  | [], _ :: _, h1, _ => by simp [Op.bytesLess] at h1
  | _ :: _, [], _, h2 => by simp [Op.bytesLess] at h2
  | x :: a, y :: b, h1, h2 => by
    simp [Op.bytesLess] at h1 h2
    have e : x = y := UInt8.le_antisymm h2.1 h1.1
    subst e
    rw [less_total a b (h1.2 rfl) (h2.2 rfl)]
theorem less_drop : ∀ (k : Nat) (a b : List UInt8), k ≤ a.length → k ≤ b.length → a.take k = b.take k → Op.bytesLess a b = Op.bytesLess (a.drop k) (b.drop k)
  | 0, _, _, _, _, _ => rfl
  | k + 1, x :: a, y :: b, ha, hb, h => by
    simp only [List.take_succ_cons, List.cons.injEq] at h
    obtain ⟨rfl, h⟩ := h
    have := less_drop k a b (by simpa using ha) (by simpa using hb) h
    simp [Op.bytesLess, UInt8.lt_irrefl, this]

/-- Is a text below another one? -/
def ltT (x y : ByteArray) : Bool := Op.bytesLess x.toList y.toList
theorem ltT_self (x : ByteArray) : ltT x x = false := less_self _
theorem ltT_trans {x y z : ByteArray} (h1 : ltT x y = true) (h2 : ltT y z = true) : ltT x z = true := less_trans _ _ _ h1 h2
theorem text_same {a b : ByteArray} (h : a.toList = b.toList) : a = b := by
  rw [Go.Lib.toList_data, Go.Lib.toList_data] at h
  cases a; cases b
  congr 1
  exact Array.toList_inj.1 h
theorem ltT_total {x y : ByteArray} (h1 : ltT x y = false) (h2 : ltT y x = false) : x = y := text_same (less_total _ _ h1 h2)
theorem ltT_not {x y : ByteArray} (h : ltT x y = true) : ltT y x = false := by
  cases hc : ltT y x with
  | false => rfl
  | true => rw [← ltT_self x, ← ltT_trans h hc]
theorem ltT_ne {x y : ByteArray} (h : ltT x y = true) : x ≠ y := fun e => by rw [e, ltT_self] at h; cases h

/-- Is a rule below another one? -/
def belowB (a b : Sb) : Bool := ltT a.f b.f || (decide (a.f = b.f) && decide (a.r < b.r))
theorem belowB_t {a b : Sb} : belowB a b = true ↔ ltT a.f b.f = true ∨ (a.f = b.f ∧ a.r < b.r) := by unfold belowB; simp
theorem belowB_self (a : Sb) : belowB a a = false := by unfold belowB; simp [ltT_self]
theorem belowB_trans {a b c : Sb} (h1 : belowB a b = true) (h2 : belowB b c = true) : belowB a c = true := by
  rw [belowB_t] at *
  rcases h1 with h1 | ⟨e1, h1⟩
  · rcases h2 with h2 | ⟨e2, h2⟩
    · exact .inl (ltT_trans h1 h2)
    · exact .inl (e2 ▸ h1)
  · rcases h2 with h2 | ⟨e2, h2⟩
    · exact .inl (e1 ▸ h2)
    · exact .inr ⟨e1.trans e2, by omega⟩
theorem belowB_total {a b : Sb} (h1 : belowB a b = false) (h2 : belowB b a = false) : a.f = b.f ∧ a.r = b.r := by
  have n1 : ¬ (ltT a.f b.f = true ∨ (a.f = b.f ∧ a.r < b.r)) := fun h => by rw [belowB_t.2 h] at h1; cases h1
  have n2 : ¬ (ltT b.f a.f = true ∨ (b.f = a.f ∧ b.r < a.r)) := fun h => by rw [belowB_t.2 h] at h2; cases h2
  have e : a.f = b.f := ltT_total (by simpa using fun h => n1 (.inl h)) (by simpa using fun h => n2 (.inl h))
  refine ⟨e, ?_⟩
  have m1 : ¬ a.r < b.r := fun h => n1 (.inr ⟨e, h⟩)
  have m2 : ¬ b.r < a.r := fun h => n2 (.inr ⟨e.symm, h⟩)
  omega
theorem belowB_not {a b : Sb} (h : belowB a b = true) : belowB b a = false := by
  cases hc : belowB b a with
  | false => rfl
  | true => rw [← belowB_self a, ← belowB_trans h hc]

/-- The first so many rise. -/
def Upto {α : Type} (lt : α → α → Bool) (l : List α) (k : Nat) : Prop := ∀ j (h : j + 1 < l.length), j + 1 < k → lt l[j] l[j + 1] = true
theorem upto_succ {α : Type} {lt : α → α → Bool} {l : List α} {k : Nat} (h : Upto lt l k) (h1 : 1 ≤ k) (hk : k < l.length) (e : lt l[k - 1] l[k] = true) : Upto lt l (k + 1) := fun j hj hjk => by
  by_cases c : j + 1 = k
  · subst c; exact e
  · exact h j hj (by omega)
theorem upto_pw {α : Type} {lt : α → α → Bool} (ht : ∀ a b c, lt a b = true → lt b c = true → lt a c = true) {l : List α} (h : Upto lt l l.length) : l.Pairwise (fun a b => lt a b = true) := by
  rw [List.pairwise_iff_getElem]
  intro i j hi hj hij
  induction j with
  | zero => omega
  | succ j ih =>
    by_cases c : i = j
    · subst c; exact h i hj (by omega)
    · exact ht _ _ _ (ih (by omega) (by omega)) (h j hj (by omega))
theorem pw_upto {α : Type} {lt : α → α → Bool} {l : List α} (h : l.Pairwise (fun a b => lt a b = true)) (k : Nat) : Upto lt l k := fun j hj _ => List.pairwise_iff_getElem.1 h j (j + 1) (by omega) hj (by omega)
theorem pw_not {α : Type} {lt : α → α → Bool} {l : List α} {k : Nat} (h1 : 1 ≤ k) (hk : k < l.length) (e : lt l[k - 1] l[k] = false) : ¬ l.Pairwise (fun a b => lt a b = true) := fun h => by
  have := List.pairwise_iff_getElem.1 h (k - 1) k (by omega) hk (by omega)
  rw [e] at this
  cases this
/-- Does a row rise? -/
def risesB {α : Type} (lt : α → α → Bool) (l : List α) : Bool := decide (l.Pairwise (fun a b => lt a b = true))
theorem rises_yes {α : Type} {lt : α → α → Bool} (ht : ∀ a b c, lt a b = true → lt b c = true → lt a c = true) {l : List α} {k : Nat} (h : Upto lt l k) (hk : l.length ≤ k) : risesB lt l = true := decide_eq_true (upto_pw ht fun j hj _ => h j hj (by omega))
theorem rises_no {α : Type} {lt : α → α → Bool} {l : List α} {k : Nat} (h1 : 1 ≤ k) (hk : k < l.length) (e : lt l[k - 1] l[k] = false) : risesB lt l = false := decide_eq_false (pw_not h1 hk e)

/-- Do two have the same of both, what they are of and what for? of both, what they are of and the rank? -/
def toB (a b : Sb) : Bool := decide (a.f = b.f ∧ a.t = b.t)
def rankB (a b : Sb) : Bool := decide (a.f = b.f ∧ a.r = b.r)
/-- Does something stand for the same twice? -/
def twiceB (l : List Sb) : Bool := !decide (l.Pairwise (fun a b => toB a b = false))
def OnceTo (l : List Sb) (k : Nat) : Prop := ∀ i (h : i < l.length), i < k → (l.take i).any (fun o => toB o l[i]) = false
theorem once_succ {l : List Sb} {k : Nat} (h : OnceTo l k) (hk : k < l.length) (e : (l.take k).any (fun o => toB o l[k]) = false) : OnceTo l (k + 1) := fun i hi hik => by
  by_cases c : i = k
  · subst c; exact e
  · exact h i hi (by omega)
theorem once_twice {l : List Sb} {k : Nat} (h : OnceTo l k) (hk : l.length ≤ k) : twiceB l = false := by
  unfold twiceB
  rw [decide_eq_true]
  · rfl
  rw [List.pairwise_iff_getElem]
  intro i j hi hj hij
  have := h j hj (by omega)
  rw [List.any_eq_false] at this
  have := this l[i] (by rw [List.mem_take_iff_getElem]; exact ⟨i, by omega, rfl⟩)
  simpa using this
theorem twice_at {l : List Sb} {k : Nat} (hk : k < l.length) (e : (l.take k).any (fun o => toB o l[k]) = true) : twiceB l = true := by
  unfold twiceB
  rw [decide_eq_false]
  · rfl
  intro h
  obtain ⟨o, ho, he⟩ := List.any_eq_true.1 e
  obtain ⟨i, hi, rfl⟩ := List.mem_take_iff_getElem.1 ho
  have := List.pairwise_iff_getElem.1 h i k (by omega) hk (by omega)
  rw [this] at he
  cases he

/-- May goods be? -/
def skusB (s : List ByteArray) : Bool := decide (s.length ≤ 8) && s.all nameB && risesB ltT s
def subsB (u : List Sb) (s : List ByteArray) : Bool := decide (u.length ≤ 16) && u.all (fun x => mayB x && (hasB s x.f && hasB s x.t)) && risesB belowB u && !twiceB u
def rightB (s : List ByteArray) (u : List Sb) : Bool := skusB s && subsB u s
end Go.Proofs.Ytjmmijobdcepmaa.Goods
