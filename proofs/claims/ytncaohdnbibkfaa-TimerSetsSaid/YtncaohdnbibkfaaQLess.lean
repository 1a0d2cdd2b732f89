/-
  Contracts of package queue: Or, Less, oneMayBe, and its negation as a function value.
-/
import Derived.Test.YtncaohdnbibkfaaQRow
namespace Go.Proofs.Ytncaohdnbibkfaa.Queue
open Go.ChangeShapes Go.WideShapes Go.ChangeAt Go.RowKit

def OrR (x y z : Int) (k : Nat) : Prop := (1 ≤ k → x = 0) ∧ (2 ≤ k → y = 0) ∧ (3 ≤ k → z = 0)
set_option maxRecDepth 100000 in
theorem Or_any {g cap : Nat} {x y z : Int} {w : World} (h : Box g [.int .i64 x, .int .i64 y, .int .i64 z] w) : Calls Try.prog 29 #[.slice (some ⟨g, 0, none⟩) 3 cap] w fun e w' => e = .returned (.int .i64 (orZ x y z)) ∧ w = w' := by
  obtain ⟨c0, c1, c2⟩ := h.c3
  clear h
  go_enter Try.func29, Try.ntmps29
  go_wp2
  go_loop [5, 8] (fun _ i => ∃ k : Nat, k ≤ 3 ∧ i = .int .i64 k ∧ OrR x y z k) (fun _ i => 3 - (Go.RowKit.intOf i).toNat)
  case atStart => exact ⟨0, by omega, rfl, ⟨by omega, by omega, by omega⟩⟩
  case round =>
    obtain ⟨k, hk, rfl, h0⟩ := hrel
    have HH := Lib.hid h0
    clear h0
    rcases (by omega : k = 0 ∨ k = 1 ∨ k = 2 ∨ k = 3) with rfl | rfl | rfl | rfl
    · by_cases hx : x = 0
      · subst hx
        go_wp2
        go_round
        case rel => exact ⟨1, by omega, rfl, ⟨fun _ => rfl, by omega, by omega⟩⟩
        case measure => simp [Go.RowKit.intOf]
      · have HE : Hid (orZ x y z = x) := Lib.hid (if_pos hx)
        have hx1 : (x == 0) = false := by simpa using hx
        have hx2 : (x != 0) = true := by simpa using hx
        clear hx
        go_wp2
        go_ret
        exact ⟨ret_int HE.out.symm, rfl⟩
    · have hx0 := HH.out.1 (by omega)
      by_cases hx : y = 0
      · subst hx
        clear hx0
        go_wp2
        go_round
        case rel => exact ⟨2, by omega, rfl, ⟨fun _ => HH.out.1 (by omega), fun _ => rfl, by omega⟩⟩
        case measure => simp [Go.RowKit.intOf]
      · have HE : Hid (orZ x y z = y) := Lib.hid (by unfold orZ; rw [if_neg (by simp [hx0]), if_pos hx])
        have hx1 : (y == 0) = false := by simpa using hx
        have hx2 : (y != 0) = true := by simpa using hx
        clear hx hx0
        go_wp2
        go_ret
        exact ⟨ret_int HE.out.symm, rfl⟩
    · have hx0 := HH.out.1 (by omega)
      have hy0 := HH.out.2.1 (by omega)
      by_cases hx : z = 0
      · subst hx
        clear hx0 hy0
        go_wp2
        go_round
        case rel => exact ⟨3, by omega, rfl, ⟨fun _ => HH.out.1 (by omega), fun _ => HH.out.2.1 (by omega), fun _ => rfl⟩⟩
        case measure => simp [Go.RowKit.intOf]
      · have HE : Hid (orZ x y z = z) := Lib.hid (by unfold orZ; rw [if_neg (by simp [hx0]), if_neg (by simp [hy0])])
        have hx1 : (z == 0) = false := by simpa using hx
        have hx2 : (z != 0) = true := by simpa using hx
        clear hx hx0 hy0
        go_wp2
        go_ret
        exact ⟨ret_int HE.out.symm, rfl⟩
    · have HE : Hid (orZ x y z = 0) := Lib.hid (by unfold orZ; rw [if_neg (by simp [HH.out.1 (by omega)]), if_neg (by simp [HH.out.2.1 (by omega)])]; exact HH.out.2.2 (by omega))
      go_wp2
      go_ret
      exact ⟨ret_int HE.out.symm, rfl⟩

/-- May a wait be? -/
def mayP (x : Wt) : Prop := 0 ≤ x.c ∧ x.c ≤ 3 ∧ 1 ≤ x.s ∧ x.s ≤ 1099511627776 ∧ 1 ≤ x.o ∧ x.o ≤ 1099511627776
instance (x : Wt) : Decidable (mayP x) := by unfold mayP; exact inferInstance
def mayB (x : Wt) : Bool := decide (mayP x)
theorem mayB_t {x : Wt} : mayB x = true ↔ mayP x := by unfold mayB; exact decide_eq_true_iff
theorem mayB_f {x : Wt} : mayB x = false ↔ ¬ mayP x := by unfold mayB; exact decide_eq_false_iff_not
end Go.Proofs.Ytncaohdnbibkfaa.Queue
