/-
  Contracts of isKept (package disk) and of the reference's Kept: is a bit set?
-/
import Derived.Test.YthoeidgekogfiaaDisk
import Derived.Laws.Bits64b
namespace Go.Proofs.Ythoeidgekogfiaa.Disk
open Go.ChangeShapes Go.WideShapes Go.ChangeAt Go.RowKit Go.Lib

/-- Is bit i of k set? -/
def bitB (k i : Nat) : Bool := decide (k / 2 ^ i % 2 = 1)

theorem beq_mod (y : Nat) : ((y : Int) % 2 == 1) = decide (y % 2 = 1) := by
  rw [Bool.eq_iff_iff]
  simp
  omega
theorem bit_and {k i : Nat} (hk : k < 18446744073709551616) : (bits BinOp.and IntKind.u64 ((k : Int) / 2 ^ i) 1 == 1) = bitB k i := by
  have hb : k / 2 ^ i < 18446744073709551616 := Nat.lt_of_le_of_lt (Nat.div_le_self _ _) hk
  have e : ((k : Int) / 2 ^ i) = ((k / 2 ^ i : Nat) : Int) := by simp
  rw [e]
  unfold bitB
  generalize k / 2 ^ i = y at hb
  have := bits_and_u64_nat y 1 hb (by omega)
  rw [Nat.and_one_is_mod] at this
  rw [show (1 : Int) = ((1 : Nat) : Int) from rfl, this, ← beq_mod]
  simp

theorem bit_min {k i : Nat} (hk : k < 18446744073709551616) : (bits BinOp.and IntKind.u64 ((k : Int) / 2 ^ min i 64) 1 == 1) = bitB k i := by
  rw [bit_and hk]
  by_cases h : i ≤ 64
  · rw [Nat.min_eq_left h]
  · rw [Nat.min_eq_right (by omega)]
    have e : k / 2 ^ i = 0 := Nat.div_eq_of_lt (Nat.lt_of_lt_of_le hk (Nat.pow_le_pow_right (by omega : 0 < 2) (by omega : 64 ≤ i)))
    have e' : k / 2 ^ 64 = 0 := Nat.div_eq_of_lt hk
    unfold bitB
    rw [e, e']

set_option maxRecDepth 100000 in
theorem isKept_any (k i : Nat) (hk : k < 18446744073709551616) (w : World) : Calls Try.prog 25 #[.int .u64 k, .int .i64 i] w fun e w' => e = .returned (.bool (bitB k i)) ∧ w = w' := by
  go_enter Try.func25, Try.ntmps25
  go_wp2
  go_ret
  exact ⟨ret_bool (bit_min hk), rfl⟩

set_option maxRecDepth 100000 in
theorem refKept_any (k i : Nat) (hk : k < 18446744073709551616) (hi : i < 64) (w : World) : Calls Try.prog 34 #[.int .u64 k, .int .i64 i] w fun e w' => e = .returned (.bool (bitB k i)) ∧ w = w' := by
  go_enter Try.func34, Try.ntmps34
  go_wp2
  go_loop [0, 5] (fun a j => ∃ q : Nat, q ≤ i ∧ j = .int .i64 q ∧ a = .int .u64 ((k / 2 ^ q : Nat) : Int)) (fun _ j => i - (intOf j).toNat)
  case atStart => exact ⟨0, Nat.zero_le _, rfl, by simp⟩
  case round =>
    obtain ⟨q, hq, rfl, rfl⟩ := hrel
    have hb : k / 2 ^ q < 18446744073709551616 := Nat.lt_of_le_of_lt (Nat.div_le_self _ _) hk
    by_cases hlt : q < i
    · have e1 : k / 2 ^ (q + 1) = k / 2 ^ q / 2 := by rw [Nat.pow_succ, Nat.div_div_eq_div_mul]
      have HE := Lib.hid e1
      clear e1
      generalize k / 2 ^ q = y at hb HE
      go_wp2
      go_round
      case rel => exact ⟨q + 1, by omega, by go_num, by rw [HE.out]; simp⟩
      case measure => simp [intOf]; omega
    · obtain rfl : q = i := by omega
      have HE : Hid (bitB k q = decide (k / 2 ^ q % 2 = 1)) := rfl
      generalize k / 2 ^ q = y at hb HE
      go_wp2
      go_ret
      exact ⟨ret_bool (by rw [HE.out]; exact beq_mod y), rfl⟩
end Go.Proofs.Ythoeidgekogfiaa.Disk
