/-
  Contract of package pay: New.
-/
import Derived.Test.YtjmmijobdcepmaaPPay
import Derived.Test.YtjmmijobdcepmaaSums
import Derived.Deep.Slices
namespace Go.Proofs.Ytjmmijobdcepmaa.Pay
open Go.ChangeShapes Go.WideShapes Go.ChangeAt Go.RowKit Go.Shelf Go.Deep

/-- What Times answers of units and a price. -/
theorem times_units {n q : Int} (h1 : UnitP n) (h2 : UnitP q) : timesV n q = n * q ∧ timesE n q = 0 := by
  obtain ⟨m1, m2⟩ := unit_mul h1 h2
  have a : mayB n = true := mayB_t.2 ⟨by have := h1.1; omega, by have := h1.2; omega⟩
  have b : mayB q = true := mayB_t.2 ⟨by have := h2.1; omega, by have := h2.2; omega⟩
  have c : mayB (n * q) = true := mayB_t.2 ⟨by omega, by omega⟩
  unfold timesV timesE
  rw [a, b, c]
  exact ⟨by simp, by simp⟩

set_option maxRecDepth 100000 in
set_option maxHeartbeats 2000000 in
theorem New_any (n q t : Int) (w : World) : Calls Try.prog 23 #[.int .i64 n, .int .i64 q, .int .i64 t] w (PayE (newO n q t) (newE n q t) w) := by
  have hx := Box.made w [.int .i64 0, .int .i64 0, .int .i64 0, .int .i64 0] 25
  have hb := al w (.cells #[.int .i64 0, .int .i64 0, .int .i64 0, .int .i64 0] 25)
  obtain ⟨W0, hW0⟩ : ∃ W, w.alloc (.cells #[.int .i64 0, .int .i64 0, .int .i64 0, .int .i64 0] 25) = W := ⟨_, rfl⟩
  have HX : Hid (Box w.heap.size [.int .i64 0, .int .i64 0, .int .i64 0, .int .i64 0] W0) := Lib.hid (hW0 ▸ hx)
  have HB : Hid (Below w.heap.size w W0) := Lib.hid (hW0 ▸ hb)
  clear hx hb
  have HN := Lib.hid (units_any n)
  have HQ := Lib.hid (units_any q)
  have HT := Lib.hid (tick_any t)
  obtain ⟨y0, y1, y2, y3⟩ := HX.out.c4
  obtain ⟨z0, z1, z2, z3⟩ := HX.out.z4
  have hsz := HX.out.1
  rcases new_ways n q t with ⟨h, e1, e2⟩ | ⟨h1, h2, h3, h4, e1, e2⟩ | ⟨h1, h2, h3, h4, h5, e1, e2⟩
  · rw [e1, e2]
    have HE := Lib.hid (below_four (b := w.heap.size) (.int .i64 0) (.int .i64 0) (.int .i64 0) (.int .i64 0) HB.out (Nat.le_refl _))
    clear e1 e2
    by_cases k1 : UnitP n
    · by_cases k2 : UnitP q
      · have k3 : ¬ TimeP t := fun k3 => h ⟨k1, k2, k3⟩
        rw [decide_eq_true k1] at HN
        rw [decide_eq_true k2] at HQ
        rw [decide_eq_false k3] at HT
        clear h k1 k2 k3
        go_enter Try.func23, Try.ntmps23
        go_upto_region 1 with (fail)
        clear hW0
        go_wp2_with (first | (go_at_call 42; (with_reducible refine (HN.out _).mono ?_); rintro e w' ⟨rfl, rfl⟩) | (go_at_call 42; (with_reducible refine (HQ.out _).mono ?_); rintro e w' ⟨rfl, rfl⟩) | (go_at_call 43; (with_reducible refine (HT.out _).mono ?_); rintro e w' ⟨rfl, rfl⟩))
        exact bodyPost_ret (by simp [results, Try.results23, go_sem, pv, noP, y0, y1, y2, y3]) rfl ⟨rfl, HE.out⟩
      · rw [decide_eq_true k1] at HN
        rw [decide_eq_false k2] at HQ
        clear h k1 k2
        go_enter Try.func23, Try.ntmps23
        go_upto_region 1 with (fail)
        clear hW0
        go_wp2_with (first | (go_at_call 42; (with_reducible refine (HN.out _).mono ?_); rintro e w' ⟨rfl, rfl⟩) | (go_at_call 42; (with_reducible refine (HQ.out _).mono ?_); rintro e w' ⟨rfl, rfl⟩) | (go_at_call 43; (with_reducible refine (HT.out _).mono ?_); rintro e w' ⟨rfl, rfl⟩))
        exact bodyPost_ret (by simp [results, Try.results23, go_sem, pv, noP, y0, y1, y2, y3]) rfl ⟨rfl, HE.out⟩
    · rw [decide_eq_false k1] at HN
      clear h k1
      go_enter Try.func23, Try.ntmps23
      go_upto_region 1 with (fail)
      clear hW0
      go_wp2_with (first | (go_at_call 42; (with_reducible refine (HN.out _).mono ?_); rintro e w' ⟨rfl, rfl⟩) | (go_at_call 42; (with_reducible refine (HQ.out _).mono ?_); rintro e w' ⟨rfl, rfl⟩) | (go_at_call 43; (with_reducible refine (HT.out _).mono ?_); rintro e w' ⟨rfl, rfl⟩))
      exact bodyPost_ret (by simp [results, Try.results23, go_sem, pv, noP, y0, y1, y2, y3]) rfl ⟨rfl, HE.out⟩
  · rw [e1, e2]
    have HE := Lib.hid (below_four (b := w.heap.size) (.int .i64 0) (.int .i64 0) (.int .i64 0) (.int .i64 0) HB.out (Nat.le_refl _))
    have htm := Times_any n q
    rw [(times_units h1 h2).1, (times_units h1 h2).2] at htm
    rw [decide_eq_true h1] at HN
    rw [decide_eq_true h2] at HQ
    rw [decide_eq_true h3] at HT
    obtain ⟨m, hm⟩ : ∃ m, n * q = m := ⟨_, rfl⟩
    rw [hm] at htm h4
    have h6 : m > 1125899906842624 := h4
    have HTM := Lib.hid htm
    clear e1 e2 h1 h2 h3 h4 htm hm
    go_enter Try.func23, Try.ntmps23
    go_upto_region 1 with (fail)
    clear hW0
    go_wp2_with (first | (go_at_call 42; (with_reducible refine (HN.out _).mono ?_); rintro e w' ⟨rfl, rfl⟩) | (go_at_call 42; (with_reducible refine (HQ.out _).mono ?_); rintro e w' ⟨rfl, rfl⟩) | (go_at_call 43; (with_reducible refine (HT.out _).mono ?_); rintro e w' ⟨rfl, rfl⟩) | (go_at_call 44; (with_reducible refine (HTM.out _).mono ?_); rintro e w' ⟨rfl, rfl⟩))
    exact bodyPost_ret (by simp [results, Try.results23, go_sem, pv, noP, y0, y1, y2, y3]) rfl ⟨rfl, HE.out⟩
  · rw [e1, e2]
    have htm := Times_any n q
    rw [(times_units h1 h2).1, (times_units h1 h2).2] at htm
    rw [decide_eq_true h1] at HN
    rw [decide_eq_true h2] at HQ
    rw [decide_eq_true h3] at HT
    obtain ⟨m, hm⟩ : ∃ m, n * q = m := ⟨_, rfl⟩
    rw [hm] at htm h4 ⊢
    have HE := Lib.hid (below_four (b := w.heap.size) (.int .i64 m) (.int .i64 0) (.int .i64 t) (.int .i64 1) HB.out (Nat.le_refl _))
    have h6 : ¬ m > 1125899906842624 := by omega
    have HTM := Lib.hid htm
    clear e1 e2 h1 h2 h3 h4 h5 htm hm
    go_enter Try.func23, Try.ntmps23
    go_upto_region 1 with (fail)
    clear hW0
    go_wp2_with (first | (go_at_call 42; (with_reducible refine (HN.out _).mono ?_); rintro e w' ⟨rfl, rfl⟩) | (go_at_call 42; (with_reducible refine (HQ.out _).mono ?_); rintro e w' ⟨rfl, rfl⟩) | (go_at_call 43; (with_reducible refine (HT.out _).mono ?_); rintro e w' ⟨rfl, rfl⟩) | (go_at_call 44; (with_reducible refine (HTM.out _).mono ?_); rintro e w' ⟨rfl, rfl⟩))
    exact bodyPost_ret (by simp [results, Try.results23, go_sem, pv, y0, y1, y2, y3]) rfl ⟨rfl, HE.out⟩

end Go.Proofs.Ytjmmijobdcepmaa.Pay
