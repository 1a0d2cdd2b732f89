/-
  Contract of the reference's Times: of two numbers that may be, their product, or that it would be too great.
-/
import Derived.Test.YtlhbeckimhfbfaaSmall
namespace Go.Proofs.Ytlhbeckimhfbfaa
open Go.ChangeShapes Go.WideShapes Go.ChangeAt Go.RowKit Go.Lib

def TwoIB (a : Int) (b : Bool) (w : World) (e : Ending) (w' : World) : Prop := e = .returned (.tuple #[.int .i64 a, .bool b]) ∧ w = w'
theorem two_ib {a c : Int} {b d : Bool} {w : World} (h : a = c) (h' : b = d) : TwoIB c d w (.returned (.tuple #[.int .i64 a, .bool b])) w := by subst h; subst h'; exact ⟨rfl, rfl⟩

def rtV (a b : Int) : Int := if mayB (a * b) = true then a * b else 0

theorem rt_odd {n x y P : Nat} (h : n + x * y = P) (ho : y % 2 = 1) : (n + x) + (2 * x) * (y / 2) = P := by
  have e : y = 2 * (y / 2) + 1 := by omega
  generalize y / 2 = z at e
  subst e
  rw [← h, Nat.mul_add, Nat.mul_one, ← Nat.mul_assoc, Nat.mul_comm x 2]; omega
theorem rt_even {n x y P : Nat} (h : n + x * y = P) (ho : ¬ y % 2 = 1) : n + (2 * x) * (y / 2) = P := by
  have e : y = 2 * (y / 2) := by omega
  generalize y / 2 = z at e
  subst e
  rw [← h, ← Nat.mul_assoc, Nat.mul_comm x 2]
theorem rt_big {n x y P : Nat} (h : n + x * y = P) (hy : 0 < y) : n + x ≤ P := by
  have := Nat.le_mul_of_pos_right x hy
  omega
theorem rt_zero {n x P : Nat} (h : n + x * 0 = P) : n = P := by simpa using h

/-- The product's sign. -/
theorem prod_less {a b : Int} (h : (a < 0 ∧ 0 < b) ∨ (0 < a ∧ b < 0)) : a * b = -((a.natAbs * b.natAbs : Nat) : Int) := by
  rcases h with ⟨h, k⟩ | ⟨h, k⟩
  · rw [Int.natCast_mul, show ((a.natAbs : Nat) : Int) = -a by omega, show ((b.natAbs : Nat) : Int) = b by omega, Int.neg_mul, Int.neg_neg]
  · rw [Int.natCast_mul, show ((a.natAbs : Nat) : Int) = a by omega, show ((b.natAbs : Nat) : Int) = -b by omega, Int.mul_neg, Int.neg_neg]
theorem prod_more {a b : Int} (h : ¬ ((a < 0 ∧ 0 < b) ∨ (0 < a ∧ b < 0))) : a * b = ((a.natAbs * b.natAbs : Nat) : Int) := by
  rw [Int.natCast_mul]
  by_cases ha : a = 0
  · subst ha; simp
  by_cases hb : b = 0
  · subst hb; simp
  by_cases ha' : a < 0
  · rw [show ((a.natAbs : Nat) : Int) = -a by omega, show ((b.natAbs : Nat) : Int) = -b by omega, Int.neg_mul_neg]
  · rw [show ((a.natAbs : Nat) : Int) = a by omega, show ((b.natAbs : Nat) : Int) = b by omega]
/-- Behind the loop: the sign is put on. -/
theorem rt_end {a b : Int} {P : Nat} (hP : a.natAbs * b.natAbs = P) (hb : P ≤ 1152921504606846976) :
    mayB (a * b) = true ∧ (((a < 0 ∧ 0 < b) ∨ (0 < a ∧ b < 0)) → rtV a b = - (P : Int)) ∧ (¬ ((a < 0 ∧ 0 < b) ∨ (0 < a ∧ b < 0)) → rtV a b = (P : Int)) := by
  subst hP
  have h : mayB (a * b) = true := by rw [mayB_t]; have := @Int.natAbs_mul a b; omega
  have e : rtV a b = a * b := by unfold rtV; rw [if_pos h]
  exact ⟨h, fun hc => by rw [e, prod_less hc], fun hc => by rw [e, prod_more hc]⟩
theorem rt_no {a b : Int} {P : Nat} (hP : a.natAbs * b.natAbs = P) (hb : 1152921504606846976 < P) : mayB (a * b) = false ∧ rtV a b = 0 := by
  have h : mayB (a * b) = false := by rw [mayB_f]; have := @Int.natAbs_mul a b; omega
  exact ⟨h, by unfold rtV; rw [if_neg (by simp [h])]⟩

theorem rt_int {k : IntKind} {a b : Int} (h : a = b) : Value.int k a = .int k b := by rw [h]

theorem rt_abs {k : IntKind} {a b : Int} (h : a = b.natAbs) : Value.int k a = .int k (b.natAbs : Int) := by rw [h]

set_option maxHeartbeats 4000000 in
set_option maxRecDepth 100000 in
theorem RefTimes_any (a b : Int) (w : World) (ha1 : -1152921504606846976 ≤ a) (ha2 : a ≤ 1152921504606846976) (hb1 : -1152921504606846976 ≤ b) (hb2 : b ≤ 1152921504606846976) :
    Calls Try.prog 12 #[.int .i64 a, .int .i64 b] w (TwoIB (rtV a b) (mayB (a * b)) w) := by
  obtain ⟨P, hP⟩ : ∃ P, a.natAbs * b.natAbs = P := ⟨_, rfl⟩
  have HP := Lib.hid hP
  clear hP
  have tri : (a < 0 ∧ b < 0) ∨ (a < 0 ∧ 0 < b) ∨ (a < 0 ∧ 0 ≤ b ∧ b ≤ 0) ∨ (0 ≤ a ∧ a ≤ 0 ∧ b < 0) ∨ (0 ≤ a ∧ a ≤ 0 ∧ 0 ≤ b) ∨ (0 < a ∧ b < 0) ∨ (0 < a ∧ 0 ≤ b) := by omega
  rcases tri with ⟨sa, sb⟩ | ⟨sa, sb⟩ | ⟨sa, sb, sc⟩ | ⟨sa, sc, sb⟩ | ⟨sa, sc, sb⟩ | ⟨sa, sb⟩ | ⟨sa, sb⟩
  all_goals
    first | (have d1 : decide (0 < b) = true := by (simp; omega)) | (have d1 : decide (0 < b) = false := by (simp; omega)) | skip
    first | (have d2 : decide (b < 0) = true := by (simp; omega)) | (have d2 : decide (b < 0) = false := by (simp; omega)) | skip
    go_enter Try.func12, Try.ntmps12
    go_wp2_with fail
    go_loop [0, 1, 7] (fun s0 s1 s7 => ∃ x y n : Nat, s0 = .int .i64 x ∧ s1 = .int .i64 y ∧ s7 = .int .i64 n ∧ n ≤ 1152921504606846976 ∧ x ≤ 2305843009213693952 ∧ (0 < y → x ≤ 1152921504606846976) ∧ y ≤ 1152921504606846976 ∧ n + x * y = P) (fun _ s1 _ => (intOf s1).toNat)
    case atStart => exact ⟨a.natAbs, b.natAbs, 0, rt_abs (by omega), rt_abs (by omega), rfl, by omega, by omega, by omega, by omega, by rw [Nat.zero_add]; exact HP.out⟩
    case round =>
      obtain ⟨x, y, n, rfl, rfl, rfl, hn, hx, hxy, hy, hinv⟩ := hrel
      have HI := Lib.hid hinv
      clear hinv
      by_cases hy0 : y = 0
      · have hPn := rt_zero (hy0 ▸ HI.out)
        have E := rt_end (HP.out) (hPn ▸ hn)
        have HE := Lib.hid E
        clear E
        subst hPn hy0
        go_wp2_with fail
        go_ret2
        first | exact two_ib (HE.out.2.1 (by omega)).symm HE.out.1.symm | exact two_ib (HE.out.2.2 (by omega)).symm HE.out.1.symm
      · by_cases ho : y % 2 = 1
        · by_cases hm : n + x ≤ 1152921504606846976
          · have H1 := Lib.hid ((mayB_t (n := (n : Int) + x)).2 (by omega))
            by_cases hz : y / 2 = 0
            · go_wp2_with (go_at_call 10; refine (May_any _ _).mono ?_; rintro e w' ⟨rfl, rfl⟩; rw [H1.out])
              go_round
              case rel => exact ⟨2 * x, y / 2, n + x, by go_num, by go_num, by go_num, hm, by omega, by omega, by omega, rt_odd HI.out ho⟩
              case measure => simp [intOf]; omega
            · by_cases hm2 : 2 * x ≤ 1152921504606846976
              · have H2 := Lib.hid ((mayB_t (n := 2 * (x : Int))).2 (by omega))
                go_wp2_with (first
                  | (go_at_call 10; refine (May_any _ _).mono ?_; rintro e w' ⟨rfl, rfl⟩; rw [H1.out])
                  | (go_at_call 10; refine (May_any _ _).mono ?_; rintro e w' ⟨rfl, rfl⟩; rw [H2.out]))
                go_round
                case rel => exact ⟨2 * x, y / 2, n + x, by go_num, by go_num, by go_num, hm, by omega, by omega, by omega, rt_odd HI.out ho⟩
                case measure => simp [intOf]; omega
              · have H2 := Lib.hid ((mayB_f (n := 2 * (x : Int))).2 (by omega))
                have HE := Lib.hid (rt_no HP.out (by have := rt_big (rt_odd HI.out ho) (by omega); omega))
                go_wp2_with (first
                  | (go_at_call 10; refine (May_any _ _).mono ?_; rintro e w' ⟨rfl, rfl⟩; rw [H1.out])
                  | (go_at_call 10; refine (May_any _ _).mono ?_; rintro e w' ⟨rfl, rfl⟩; rw [H2.out]))
                go_ret2
                exact two_ib HE.out.2.symm HE.out.1.symm
          · have H1 := Lib.hid ((mayB_f (n := (n : Int) + x)).2 (by omega))
            have HE := Lib.hid (rt_no HP.out (by have := rt_big HI.out (by omega); omega))
            go_wp2_with (go_at_call 10; refine (May_any _ _).mono ?_; rintro e w' ⟨rfl, rfl⟩; rw [H1.out])
            go_ret2
            exact two_ib HE.out.2.symm HE.out.1.symm
        · have hz : ¬ y / 2 = 0 := by omega
          by_cases hm2 : 2 * x ≤ 1152921504606846976
          · have H2 := Lib.hid ((mayB_t (n := 2 * (x : Int))).2 (by omega))
            go_wp2_with (go_at_call 10; refine (May_any _ _).mono ?_; rintro e w' ⟨rfl, rfl⟩; rw [H2.out])
            go_round
            case rel => exact ⟨2 * x, y / 2, n, by go_num, by go_num, by go_num, hn, by omega, by omega, by omega, rt_even HI.out ho⟩
            case measure => simp [intOf]; omega
          · have H2 := Lib.hid ((mayB_f (n := 2 * (x : Int))).2 (by omega))
            have HE := Lib.hid (rt_no HP.out (by have := rt_big (rt_even HI.out ho) (by omega); omega))
            go_wp2_with (go_at_call 10; refine (May_any _ _).mono ?_; rintro e w' ⟨rfl, rfl⟩; rw [H2.out])
            go_ret2
            exact two_ib HE.out.2.symm HE.out.1.symm
end Go.Proofs.Ytlhbeckimhfbfaa
