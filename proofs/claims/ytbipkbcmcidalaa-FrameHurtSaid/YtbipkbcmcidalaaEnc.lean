/-
  Plain mathematics of rows' bytes: how many texts there are, then of each how long it is, and the text. Nothing of the program.
-/
import Derived.Test.YtbipkbcmcidalaaSmall
import Derived.Test.YtbipkbcmcidalaaDigs
namespace Go.Proofs.Ytbipkbcmcidalaa

def enc1 (t : ByteArray) : List UInt8 := digs (fold t.size) ++ t.data.toList
def encs : List ByteArray → List UInt8
  | [] => []
  | t :: r => enc1 t ++ encs r
def enc (ls : List ByteArray) : List UInt8 := digs (fold ls.length) ++ encs ls
theorem encs_append (a b : List ByteArray) : encs (a ++ b) = encs a ++ encs b := by
  induction a with
  | nil => rfl
  | cons x a ih => simp [encs, ih]
theorem encs_snoc (a : List ByteArray) (t : ByteArray) : encs (a ++ [t]) = encs a ++ (digs (fold t.size) ++ t.data.toList) := by
  rw [encs_append]; simp [encs, enc1]
theorem fold_nat (n : Nat) : fold n = 2 * n := by unfold fold; rw [if_neg (by omega)]; omega
theorem enc1_len (t : ByteArray) (h : t.size ≤ 4100) : (enc1 t).length ≤ 4109 := by
  have := digs_len9 (fold t.size) (by rw [fold_nat]; omega)
  have e : t.data.toList.length = t.size := by simp
  unfold enc1; rw [List.length_append, e]; omega
theorem encs_len (ls : List ByteArray) (h : ∀ t ∈ ls, t.size ≤ 4100) : (encs ls).length ≤ 4109 * ls.length := by
  induction ls with
  | nil => simp [encs]
  | cons t r ih =>
    have h1 := enc1_len t (h t (by simp))
    have h2 := ih (fun x hx => h x (by simp [hx]))
    simp only [encs, List.length_append, List.length_cons]; omega
theorem take_snoc' {α : Type} (l : List α) (k : Nat) (h : k < l.length) : l.take (k + 1) = l.take k ++ [l[k]] := List.take_succ_eq_append_getElem h
theorem bytes_eq {s : ByteArray} {l : List UInt8} (h : s.data.toList = l) : s = ⟨l.toArray⟩ := by
  subst h
  apply ByteArray.ext
  simp
end Go.Proofs.Ytbipkbcmcidalaa
