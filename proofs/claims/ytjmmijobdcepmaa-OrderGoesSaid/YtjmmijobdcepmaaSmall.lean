/-
  Contracts of the small functions of package pack and of the reference: which numbers may be, sizes, folding. Each is proved for every integer that its type holds.
-/
import Derived.Test.YtjmmijobdcepmaaChecked
import Derived.WalkKit
import Derived.ProofKit
import Derived.OpenShut
import Derived.Lib.Hide
import Derived.IntWalk
namespace Go.Proofs.Ytjmmijobdcepmaa
open Go.ChangeShapes Go.WideShapes Go.ChangeAt Go.RowKit

theorem ret_int {k : IntKind} {a b : Int} (h : a = b) : Ending.returned (.int k a) = .returned (.int k b) := by rw [h]
theorem v_int {k : IntKind} {a b : Int} (h : a = b) : Value.int k a = .int k b := by rw [h]
theorem ret_bool {a b : Bool} (h : a = b) : Ending.returned (.bool a) = .returned (.bool b) := by rw [h]

def mayB (n : Int) : Bool := decide (-1152921504606846976 ≤ n ∧ n ≤ 1152921504606846976)
theorem mayB_t {n : Int} : mayB n = true ↔ (-1152921504606846976 ≤ n ∧ n ≤ 1152921504606846976) := by unfold mayB; simp
theorem mayB_f {n : Int} : mayB n = false ↔ (n < -1152921504606846976 ∨ 1152921504606846976 < n) := by unfold mayB; simp; omega

theorem mayBe_any (n : Int) (w : World) :
    Calls Try.prog 54 #[.int .i64 n] w fun e w' => e = .returned (.bool (mayB n)) ∧ w = w' := by
  by_cases h1 : -1152921504606846976 ≤ n
  · by_cases h2 : n ≤ 1152921504606846976
    · go_enter Try.func54, Try.ntmps54
      go_wp2
      go_ret
      exact ⟨ret_bool (mayB_t.2 ⟨h1, h2⟩).symm, rfl⟩
    · go_enter Try.func54, Try.ntmps54
      go_wp2
      go_ret
      exact ⟨ret_bool (mayB_f.2 (by omega)).symm, rfl⟩
  · go_enter Try.func54, Try.ntmps54
    go_wp2
    go_ret
    exact ⟨ret_bool (mayB_f.2 (by omega)).symm, rfl⟩

theorem size_any (n : Int) (w : World) (h1 : -1152921504606846976 ≤ n) (h2 : n ≤ 1152921504606846976) :
    Calls Try.prog 56 #[.int .i64 n] w fun e w' => e = .returned (.int .u64 n.natAbs) ∧ w = w' := by
  by_cases h : n < 0
  · go_enter Try.func56, Try.ntmps56
    go_wp2
    go_ret
    exact ⟨ret_int (by omega), rfl⟩
  · go_enter Try.func56, Try.ntmps56
    go_wp2
    go_ret
    exact ⟨ret_int (by omega), rfl⟩

def fold (n : Int) : Nat := if n < 0 then 2 * n.natAbs - 1 else 2 * n.natAbs
theorem fold_neg {n : Int} (h : n < 0) : (fold n : Int) = 2 * (n.natAbs : Int) - 1 := by unfold fold; rw [if_pos h]; omega
theorem fold_pos {n : Int} (h : ¬ n < 0) : (fold n : Int) = 2 * (n.natAbs : Int) := by unfold fold; rw [if_neg h]; omega
theorem fold_le {n : Int} (h1 : -1152921504606846976 ≤ n) (h2 : n ≤ 1152921504606846976) : fold n ≤ 2305843009213693952 := by unfold fold; split <;> omega

end Go.Proofs.Ytjmmijobdcepmaa
