/-
  Contracts of oneOff and eightOff of package check, and of the reference's Off: so many bits off, for every number of 32 bits.
-/
import Derived.Test.YtbipkbcmcidalaaChecked
import Derived.Test.YtbipkbcmcidalaaCrc
import Derived.WalkKit
import Derived.ProofKit
import Derived.OpenShut
import Derived.Lib.Hide
import Derived.IntWalk
import Derived.Laws.BitsAllLaws
namespace Go.Proofs.Ytbipkbcmcidalaa.Crc
open Go.ChangeShapes Go.WideShapes Go.ChangeAt Go.RowKit

theorem ret_int {k : IntKind} {a b : Int} (h : a = b) : Ending.returned (.int k a) = .returned (.int k b) := by rw [h]
theorem v_int {k : IntKind} {a b : Int} (h : a = b) : Value.int k a = .int k b := by rw [h]
theorem ret_bool {a b : Bool} (h : a = b) : Ending.returned (.bool a) = .returned (.bool b) := by rw [h]

theorem and1 (c : Nat) (h : c < 4294967296) : bits .and .u32 (c : Int) 1 = ((c % 2 : Nat) : Int) := by
  have := u32_and_nat c 1 h (by omega)
  rw [nat_mask1] at this
  exact this
theorem xorP (c : Nat) (h : c < 4294967296) : bits .xor .u32 (c : Int) 2197175160 = ((c ^^^ 2197175160 : Nat) : Int) := u32_xor_nat c 2197175160 h (by omega)

def U32 (n : Nat) (w : World) (e : Ending) (w' : World) : Prop := e = .returned (.int .u32 n) ∧ w = w'

theorem u32_i {a : Int} {n : Nat} {w : World} (h : a = n) : U32 n w (.returned (.int .u32 a)) w := by subst h; exact ⟨rfl, rfl⟩
theorem half_xor (c : Nat) (h : c < 4294967296) : bits .xor .u32 ((c : Int) / 2) 2197175160 = ((c / 2 ^^^ 2197175160 : Nat) : Int) := by
  have := xorP (c / 2) (by omega)
  rwa [Int.natCast_ediv] at this

theorem oneOff_any (c : Nat) (h : c < 4294967296) (w : World) : Calls Try.prog 41 #[.int .u32 c] w (U32 (bit1 c) w) := by
  have hb : bits .and .u32 (c : Int) 1 = ((c % 2 : Nat) : Int) := and1 c h
  by_cases h' : c % 2 = 1
  · go_enter Try.func41, Try.ntmps41
    go_wp2
    go_ret
    exact u32_i (by rw [bit1_odd h']; exact half_xor c h)
  · go_enter Try.func41, Try.ntmps41
    go_wp2
    go_ret
    exact u32_i (by rw [bit1_even h']; simp)

set_option maxHeartbeats 400000 in
theorem eightOff_any (c : Nat) (h : c < 4294967296) (w : World) : Calls Try.prog 37 #[.int .u32 c] w (U32 (off 8 c) w) := by
  go_enter Try.func37, Try.ntmps37
  go_wp2
  go_loop [0, 3] (fun v i => ∃ k : Nat, k ≤ 8 ∧ i = .int .i64 k ∧ v = .int .u32 (off k c : Nat)) (fun _ i => 8 - (intOf i).toNat)
  case atStart => exact ⟨0, Nat.zero_le _, rfl, rfl⟩
  case round =>
    obtain ⟨k, hk, rfl, rfl⟩ := hrel
    by_cases hlt : k < 8
    · have hl := off_lt k h
      go_wp2_with (go_at_call 41; refine (oneOff_any _ hl _).mono ?_; rintro e w' ⟨rfl, rfl⟩)
      go_round
      case rel => exact ⟨k + 1, by omega, by go_num, by rw [off_succ']⟩
      case measure => simp [intOf]; omega
    · go_wp2
      go_ret
      obtain rfl : k = 8 := by omega
      exact ⟨rfl, rfl⟩

set_option maxHeartbeats 400000 in
theorem refOff_any (c : Nat) (h : c < 4294967296) (w : World) : Calls Try.prog 35 #[.int .u32 c] w (U32 (off 8 c) w) := by
  go_enter Try.func35, Try.ntmps35
  go_wp2
  go_loop [0, 3] (fun v i => ∃ k : Nat, k ≤ 8 ∧ i = .int .i64 k ∧ v = .int .u32 (off k c : Nat)) (fun _ i => 8 - (intOf i).toNat)
  case atStart => exact ⟨0, Nat.zero_le _, rfl, rfl⟩
  case round =>
    obtain ⟨k, hk, rfl, rfl⟩ := hrel
    have hl := off_lt k h
    by_cases hlt : k < 8
    · have HS := Lib.hid (off_succ' k c)
      generalize off k c = x at hl HS
      by_cases h' : x % 2 = 1
      · go_wp2
        go_round
        case rel => exact ⟨k + 1, by omega, by go_num, v_int (by rw [HS.out, bit1_odd h']; exact half_xor x hl)⟩
        case measure => simp [intOf]; omega
      · go_wp2
        go_round
        case rel => exact ⟨k + 1, by omega, by go_num, v_int (by rw [HS.out, bit1_even h']; simp)⟩
        case measure => simp [intOf]; omega
    · go_wp2
      go_ret
      obtain rfl : k = 8 := by omega
      exact ⟨rfl, rfl⟩
end Go.Proofs.Ytbipkbcmcidalaa.Crc
