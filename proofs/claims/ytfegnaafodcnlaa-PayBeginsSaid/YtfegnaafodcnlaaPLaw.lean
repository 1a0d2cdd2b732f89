/-
  Money: the law's own in and right; money compared.
-/
import Derived.Test.YtfegnaafodcnlaaPNew
namespace Go.Proofs.Ytfegnaafodcnlaa.Pay
open Go.ChangeShapes Go.WideShapes Go.ChangeAt Go.RowKit Go.Shelf Go.Deep

/-! ### the law's own -/
def inB (n a b : Int) : Bool := decide (a ≤ n ∧ n ≤ b)
theorem in_any (n a b : Int) (w : World) : Calls Try.prog 12 #[.int .i64 n, .int .i64 a, .int .i64 b] w fun e w' => e = .returned (.bool (inB n a b)) ∧ w = w' := by
  unfold inB
  by_cases h1 : a ≤ n
  · have h1' : n ≥ a := h1
    by_cases h2 : n ≤ b
    · rw [decide_eq_true ⟨h1, h2⟩]
      go_enter Try.func12, Try.ntmps12
      go_wp2
      go_ret
      exact ⟨rfl, rfl⟩
    · rw [decide_eq_false (fun h => h2 h.2)]
      go_enter Try.func12, Try.ntmps12
      go_wp2
      go_ret
      exact ⟨rfl, rfl⟩
  · have h1' : ¬ n ≥ a := h1
    rw [decide_eq_false (fun h => h1 h.1)]
    go_enter Try.func12, Try.ntmps12
    go_wp2
    go_ret
    exact ⟨rfl, rfl⟩
theorem inB_t {n a b : Int} : inB n a b = true ↔ a ≤ n ∧ n ≤ b := by unfold inB; exact decide_eq_true_iff
theorem inB_f {n a b : Int} : inB n a b = false ↔ ¬ (a ≤ n ∧ n ≤ b) := by unfold inB; exact decide_eq_false_iff_not

set_option maxRecDepth 100000 in
set_option maxHeartbeats 1000000 in
theorem right_any (p : Py) (w : World) : Calls Try.prog 9 #[pv p] w (BoolB (rightB p) w) := by
  have HP := Lib.hid (rightB_t (p := p))
  have HF := Lib.hid (rightB_f (p := p))
  have HI := Lib.hid in_any
  generalize rightB p = m at HP HF ⊢
  unfold pv
  unfold RightP at HP HF
  generalize p.a = a at HP HF ⊢
  generalize p.c = c at HP HF ⊢
  generalize p.u = u at HP HF ⊢
  generalize p.s = s at HP HF ⊢
  have H1 := Lib.hid (inB_t (n := a) (a := 0) (b := 1125899906842624))
  have H2 := Lib.hid (inB_t (n := c) (a := 0) (b := a))
  have H3 := Lib.hid (inB_t (n := u) (a := 0) (b := 1099511627776))
  have H4 := Lib.hid (inB_t (n := s) (a := 1) (b := 3))
  have HM : Hid (m = (inB a 0 1125899906842624 && inB c 0 a && inB u 0 1099511627776 && inB s 1 3)) := Lib.hid (by
    have e1 := H1.out
    have e2 := H2.out
    have e3 := H3.out
    have e4 := H4.out
    rw [Bool.eq_iff_iff, HP.out, Bool.and_eq_true, Bool.and_eq_true, Bool.and_eq_true, e1, e2, e3, e4]
    omega)
  clear HP HF
  have C1 := Lib.hid (fun W => HI.out a 0 1125899906842624 W)
  have C2 := Lib.hid (fun W => HI.out c 0 a W)
  have C3 := Lib.hid (fun W => HI.out u 0 1099511627776 W)
  have C4 := Lib.hid (fun W => HI.out s 1 3 W)
  generalize inB a 0 1125899906842624 = b1 at *
  generalize inB c 0 a = b2 at *
  generalize inB u 0 1099511627776 = b3 at *
  generalize inB s 1 3 = b4 at *
  clear H1 H2 H3 H4 HI
  have HBX := Lib.hid (al w (.cells #[.int .i64 a, .int .i64 c, .int .i64 u, .int .i64 s] 23))
  cases b1 with
  | false =>
    obtain rfl : m = false := by rw [HM.out]; rfl
    clear HM
    go_enter Try.func9, Try.ntmps9
    go_wp2_with (first | (go_at_call 12; (with_reducible refine (C1.out _).mono ?_); rintro e w' ⟨rfl, rfl⟩) | (go_at_call 12; (with_reducible refine (C2.out _).mono ?_); rintro e w' ⟨rfl, rfl⟩) | (go_at_call 12; (with_reducible refine (C3.out _).mono ?_); rintro e w' ⟨rfl, rfl⟩) | (go_at_call 12; (with_reducible refine (C4.out _).mono ?_); rintro e w' ⟨rfl, rfl⟩))
    go_ret
    exact ⟨rfl, HBX.out⟩
  | true =>
    cases b2 with
    | false =>
      obtain rfl : m = false := by rw [HM.out]; rfl
      clear HM
      go_enter Try.func9, Try.ntmps9
      go_wp2_with (first | (go_at_call 12; (with_reducible refine (C1.out _).mono ?_); rintro e w' ⟨rfl, rfl⟩) | (go_at_call 12; (with_reducible refine (C2.out _).mono ?_); rintro e w' ⟨rfl, rfl⟩) | (go_at_call 12; (with_reducible refine (C3.out _).mono ?_); rintro e w' ⟨rfl, rfl⟩) | (go_at_call 12; (with_reducible refine (C4.out _).mono ?_); rintro e w' ⟨rfl, rfl⟩))
      go_ret
      exact ⟨rfl, HBX.out⟩
    | true =>
      cases b3 with
      | false =>
        obtain rfl : m = false := by rw [HM.out]; rfl
        clear HM
        go_enter Try.func9, Try.ntmps9
        go_wp2_with (first | (go_at_call 12; (with_reducible refine (C1.out _).mono ?_); rintro e w' ⟨rfl, rfl⟩) | (go_at_call 12; (with_reducible refine (C2.out _).mono ?_); rintro e w' ⟨rfl, rfl⟩) | (go_at_call 12; (with_reducible refine (C3.out _).mono ?_); rintro e w' ⟨rfl, rfl⟩) | (go_at_call 12; (with_reducible refine (C4.out _).mono ?_); rintro e w' ⟨rfl, rfl⟩))
        go_ret
        exact ⟨rfl, HBX.out⟩
      | true =>
        obtain rfl : m = b4 := by rw [HM.out]; cases b4 <;> rfl
        clear HM
        cases m with
        | false =>
          go_enter Try.func9, Try.ntmps9
          go_wp2_with (first | (go_at_call 12; (with_reducible refine (C1.out _).mono ?_); rintro e w' ⟨rfl, rfl⟩) | (go_at_call 12; (with_reducible refine (C2.out _).mono ?_); rintro e w' ⟨rfl, rfl⟩) | (go_at_call 12; (with_reducible refine (C3.out _).mono ?_); rintro e w' ⟨rfl, rfl⟩) | (go_at_call 12; (with_reducible refine (C4.out _).mono ?_); rintro e w' ⟨rfl, rfl⟩))
          go_ret
          exact ⟨rfl, HBX.out⟩
        | true =>
          go_enter Try.func9, Try.ntmps9
          go_wp2_with (first | (go_at_call 12; (with_reducible refine (C1.out _).mono ?_); rintro e w' ⟨rfl, rfl⟩) | (go_at_call 12; (with_reducible refine (C2.out _).mono ?_); rintro e w' ⟨rfl, rfl⟩) | (go_at_call 12; (with_reducible refine (C3.out _).mono ?_); rintro e w' ⟨rfl, rfl⟩) | (go_at_call 12; (with_reducible refine (C4.out _).mono ?_); rintro e w' ⟨rfl, rfl⟩))
          go_ret
          exact ⟨rfl, HBX.out⟩

theorem equal_pay (x y : Py) (w : World) : (Op.equalIn 10000 23 (pv x) (pv y)).run Try.prog w = .ok (decide (x = y)) w := by
  have h : decide (x = y) = (x.a == y.a && (x.c == y.c && (x.u == y.u && x.s == y.s))) := by
    by_cases e : x = y
    · subst e; simp
    · rw [decide_eq_false e]
      symm
      rw [Bool.eq_false_iff]
      intro hc
      simp only [Bool.and_eq_true, beq_iff_eq] at hc
      exact e (Py.same hc.1 hc.2.1 hc.2.2.1 hc.2.2.2)
  rw [h]
  unfold pv
  simp [go_sem]
  (repeat' split) <;> simp_all
theorem neq_pay (x y : Py) (w : World) : (binOp .neq 23 (.agg #[.int .i64 x.a, .int .i64 x.c, .int .i64 x.u, .int .i64 x.s]) (.agg #[.int .i64 y.a, .int .i64 y.c, .int .i64 y.u, .int .i64 y.s])).run Try.prog w = .ok (.bool (!decide (x = y))) w := by
  have h := equal_pay x y w
  unfold pv at *
  rw [run_neq_struct, h]
  rfl
theorem eql_pay (x y : Py) (w : World) : (binOp .eql 23 (.agg #[.int .i64 x.a, .int .i64 x.c, .int .i64 x.u, .int .i64 x.s]) (.agg #[.int .i64 y.a, .int .i64 y.c, .int .i64 y.u, .int .i64 y.s])).run Try.prog w = .ok (.bool (decide (x = y))) w := by
  have h := equal_pay x y w
  unfold pv at *
  rw [run_eql_struct, h]
  rfl
end Go.Proofs.Ytfegnaafodcnlaa.Pay
