/-
  Contracts of Add, Mul64 and Times of package pack, for all integers that an int holds.
-/
import Derived.Test.YtjmmijobdcepmaaSmall
import Derived.Lib.Mul64
import Derived.Laws.Bits64b
import Derived.Shelf.Bits.Mul64
namespace Go.Proofs.Ytjmmijobdcepmaa
open Go.ChangeShapes Go.WideShapes Go.ChangeAt Go.RowKit Go.Lib

def TwoI (a : Int) (b : Int) (w : World) (e : Ending) (w' : World) : Prop := e = .returned (.tuple #[.int .i64 a, .int .i64 b]) ∧ w = w'
theorem two_i {a b c d : Int} {w : World} (h : a = c) (h' : b = d) : TwoI c d w (.returned (.tuple #[.int .i64 a, .int .i64 b])) w := by subst h; subst h'; exact ⟨rfl, rfl⟩

/-- What Add answers. -/
def addV (a b : Int) : Int := if mayB a = true ∧ mayB b = true ∧ mayB (a + b) = true then a + b else 0
def addE (a b : Int) : Int := if mayB a = true ∧ mayB b = true then (if mayB (a + b) = true then 0 else 2) else 1

def TwoU (a : Nat) (b : Nat) (w : World) (e : Ending) (w' : World) : Prop := e = .returned (.tuple #[.int .u64 a, .int .u64 b]) ∧ w = w'

set_option maxHeartbeats 1000000 in
theorem Mul64_any (x y : Nat) (hx : x < 18446744073709551616) (hy : y < 18446744073709551616) (w : World) :
    Calls Try.prog 55 #[.int .u64 x, .int .u64 y] w (TwoU (x * y / 18446744073709551616) (x * y % 18446744073709551616) w) := by
  obtain ⟨k1, k2, k3, hi⟩ := Lib.mul64_hi x y hx hy
  have p1 := Lib.half_mul_le (a := x / 4294967296) (b := y / 4294967296) (by omega) (by omega)
  have p2 := Lib.half_mul_le (a := x / 4294967296) (b := y % 4294967296) (by omega) (by omega)
  have p3 := Lib.half_mul_le (a := x % 4294967296) (b := y / 4294967296) (by omega) (by omega)
  have q1 : x / 4294967296 * (y / 4294967296) < 18446744073709551616 := by omega
  have q2 : x / 4294967296 * (y % 4294967296) < 18446744073709551616 := by omega
  have q3 : x % 4294967296 * (y / 4294967296) < 18446744073709551616 := by omega
  have q4 : x / 4294967296 * (y / 4294967296) + (x / 4294967296 * (y % 4294967296) + x % 4294967296 * (y % 4294967296) / 4294967296) / 4294967296 < 18446744073709551616 := by omega
  have q5 : x / 4294967296 * (y / 4294967296) + (x / 4294967296 * (y % 4294967296) + x % 4294967296 * (y % 4294967296) / 4294967296) / 4294967296 + ((x / 4294967296 * (y % 4294967296) + x % 4294967296 * (y % 4294967296) / 4294967296) % 4294967296 + x % 4294967296 * (y / 4294967296)) / 4294967296 < 18446744073709551616 := by omega
  have HI := Lib.hid hi
  clear hi
  go_enter Try.func55, Try.ntmps55
  go_wp2
  simp only [Mul64.maskN x hx, Mul64.maskN y hy, Mul64.divN, Mul64.mulN, Mul64.addN, Mul64.wrapN _ k1, Mul64.wrapN _ q2, Mul64.wrapN _ k2, Mul64.maskN _ k2, Mul64.wrapN _ q3, Mul64.wrapN _ k3, Mul64.wrapN _ q1, Mul64.wrapN _ q4, Mul64.wrapN _ q5, Mul64.wrapM (x * y)]
  rw [HI.out]
  go_ret2
  exact ⟨rfl, rfl⟩

/-- What Times answers. -/
def timesV (a b : Int) : Int := if mayB a = true ∧ mayB b = true ∧ mayB (a * b) = true then a * b else 0
def timesE (a b : Int) : Int := if mayB a = true ∧ mayB b = true then (if mayB (a * b) = true then 0 else 2) else 1

theorem nat_may {a b : Int} : mayB (a * b) = true ↔ a.natAbs * b.natAbs ≤ 1152921504606846976 := by
  rw [mayB_t, ← Int.natAbs_mul]; omega

theorem Mul64_small (x y : Nat) (hx : x < 18446744073709551616) (hy : y < 18446744073709551616) (h : x * y ≤ 1152921504606846976) :
    ∃ lo : Nat, lo ≤ 1152921504606846976 ∧ ∀ w : World, Calls Try.prog 55 #[.int .u64 x, .int .u64 y] w (TwoU 0 lo w) := by
  refine ⟨x * y, h, fun w => ?_⟩
  have := Mul64_any x y hx hy w
  rwa [Nat.div_eq_of_lt (by omega), Nat.mod_eq_of_lt (by omega)] at this
theorem Mul64_big (x y : Nat) (hx : x < 18446744073709551616) (hy : y < 18446744073709551616) (h : ¬ x * y ≤ 1152921504606846976) :
    ∃ hi lo : Nat, (0 < hi ∨ (hi = 0 ∧ 1152921504606846976 < lo)) ∧ ∀ w : World, Calls Try.prog 55 #[.int .u64 x, .int .u64 y] w (TwoU hi lo w) := by
  refine ⟨x * y / 18446744073709551616, x * y % 18446744073709551616, ?_, Mul64_any x y hx hy⟩
  generalize x * y = p at h
  omega

set_option maxHeartbeats 1000000 in
theorem Times_any (a b : Int) (w : World) : Calls Try.prog 44 #[.int .i64 a, .int .i64 b] w (TwoI (timesV a b) (timesE a b) w) := by
  cases ha : mayB a with
  | false =>
    have HA := Lib.hid ha
    go_enter Try.func44, Try.ntmps44
    go_wp2_with (go_at_call 54; refine (mayBe_any _ _).mono ?_; rintro e w' ⟨rfl, rfl⟩)
    go_ret2
    exact two_i (by simp [timesV, HA.out]) (by simp [timesE, HA.out])
  | true =>
    cases hb : mayB b with
    | false =>
      have HA := Lib.hid ha
      have HB := Lib.hid hb
      go_enter Try.func44, Try.ntmps44
      go_wp2_with (go_at_call 54; refine (mayBe_any _ _).mono ?_; rintro e w' ⟨rfl, rfl⟩)
      go_ret2
      exact two_i (by simp [timesV, HB.out]) (by simp [timesE, HB.out])
    | true =>
      have h1 := mayB_t.1 ha
      have h2 := mayB_t.1 hb
      obtain ⟨h11, h12⟩ := h1
      obtain ⟨h21, h22⟩ := h2
      have HA := Lib.hid ha
      have HB := Lib.hid hb
      have ea : a.natAbs < 18446744073709551616 := by omega
      have eb : b.natAbs < 18446744073709551616 := by omega
      cases hc : mayB (a * b) with
      | true =>
        obtain ⟨lo, hlo, C⟩ := Mul64_small _ _ ea eb (nat_may.1 hc)
        have HC := Lib.hid hc
        have h3 := mayB_t.1 hc
        obtain ⟨h31, h32⟩ := h3
        clear ha hb hc ea eb
        go_enter Try.func44, Try.ntmps44
        go_wp2_with (first
          | (go_at_call 54; refine (mayBe_any _ _).mono ?_; rintro e w' ⟨rfl, rfl⟩; rw [HA.out])
          | (go_at_call 54; refine (mayBe_any _ _).mono ?_; rintro e w' ⟨rfl, rfl⟩; rw [HB.out])
          | (go_at_call 56; refine (size_any _ _ (by assumption) (by assumption)).mono ?_; rintro e w' ⟨rfl, rfl⟩)
          | (go_at_call 55; refine (C _).mono ?_; rintro e w' ⟨rfl, rfl⟩))
        go_ret2
        exact two_i (by simp [timesV, HA.out, HB.out, HC.out]) (by simp [timesE, HA.out, HB.out, HC.out])
      | false =>
        obtain ⟨hi, lo, hlo, C⟩ := Mul64_big a.natAbs b.natAbs ea eb (fun h => by rw [nat_may.2 h] at hc; cases hc)
        have HC := Lib.hid hc
        clear ha hb hc ea eb
        rcases hlo with hlo | ⟨rfl, hlo⟩
        all_goals
          go_enter Try.func44, Try.ntmps44
          go_wp2_with (first
            | (go_at_call 54; refine (mayBe_any _ _).mono ?_; rintro e w' ⟨rfl, rfl⟩; rw [HA.out])
            | (go_at_call 54; refine (mayBe_any _ _).mono ?_; rintro e w' ⟨rfl, rfl⟩; rw [HB.out])
            | (go_at_call 56; refine (size_any _ _ (by assumption) (by assumption)).mono ?_; rintro e w' ⟨rfl, rfl⟩)
            | (go_at_call 55; refine (C _).mono ?_; rintro e w' ⟨rfl, rfl⟩))
          go_ret2
          exact two_i (by simp [timesV, HC.out]) (by simp [timesE, HA.out, HB.out, HC.out])
end Go.Proofs.Ytjmmijobdcepmaa
