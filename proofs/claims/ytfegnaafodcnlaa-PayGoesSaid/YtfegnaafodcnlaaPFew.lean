/-
  The law's own alive; money among a law's arguments, opened.
-/
import Derived.Test.YtfegnaafodcnlaaPLaw
namespace Go.Proofs.Ytfegnaafodcnlaa.Pay
open Go.ChangeShapes Go.WideShapes Go.ChangeAt Go.RowKit Go.Shelf Go.Deep

theorem new_one : newO 3 5 9 = ⟨15, 0, 9, 1⟩ ∧ newE 3 5 9 = 0 := ⟨by decide, by decide⟩
theorem cat_one : catO ⟨15, 0, 9, 1⟩ 10 = ⟨15, 10, 9, 1⟩ ∧ catE ⟨15, 0, 9, 1⟩ 10 = 0 := ⟨by decide, by decide⟩
set_option maxRecDepth 100000 in
set_option maxHeartbeats 1000000 in
theorem alive_any (w : World) : Calls Try.prog 11 #[] w (BoolB true w) := by
  have h1 := New_any 3 5 9
  rw [new_one.1, new_one.2] at h1
  have h2 := Catch_any ⟨15, 0, 9, 1⟩ 10 (by omega)
  rw [cat_one.1, cat_one.2] at h2
  have HQ := Lib.hid (eql_pay ⟨15, 10, 9, 1⟩ ⟨15, 10, 9, 1⟩)
  have H1 := Lib.hid h1
  have H2 := Lib.hid h2
  unfold pv at H2
  simp only [decide_true] at HQ
  simp only at H2
  clear h1 h2
  go_enter Try.func11, Try.ntmps11
  go_wp2_with fail
  (with_reducible refine (H1.out _).mono ?_)
  rintro e v1 ⟨rfl, hz⟩
  have hx := Box.made v1 [.int .i64 15, .int .i64 0, .int .i64 9, .int .i64 1] 23
  have hz2 := below_trans hz (al v1 (.cells #[.int .i64 15, .int .i64 0, .int .i64 9, .int .i64 1] 23))
  obtain ⟨w1, hw⟩ : ∃ W, v1.alloc (.cells #[.int .i64 15, .int .i64 0, .int .i64 9, .int .i64 1] 23) = W := ⟨_, rfl⟩
  have HX : Hid (Box v1.heap.size [.int .i64 15, .int .i64 0, .int .i64 9, .int .i64 1] w1) := Lib.hid (hw ▸ hx)
  have HB : Hid (Below w.heap.size w w1) := Lib.hid (hw ▸ hz2)
  have HV : Hid (w.heap.size ≤ v1.heap.size) := Lib.hid hz.size
  clear hz hx hz2
  unfold pv
  go_upto_region 2 with (fail)
  clear hw
  obtain ⟨k0, k1, k2, k3⟩ := HX.out.c4
  have ks := HX.out.1
  go_wp2_with fail
  (with_reducible refine (H2.out _).mono ?_)
  rintro e w2 ⟨rfl, hz⟩
  obtain ⟨y0, y1, y2, y3⟩ := (HX.out.below hz).c4
  obtain ⟨z0, z1, z2, z3⟩ := (HX.out.below hz).z4
  have hs := (HX.out.below hz).1
  have HE := Lib.hid (below_four (b := v1.heap.size) (.int .i64 15) (.int .i64 10) (.int .i64 9) (.int .i64 1) (below_trans HB.out hz) HV.out)
  clear hz k0 k1 k2 k3 ks
  unfold pv
  have hq := HQ.out
  go_wp2_with fail
  go_ret
  exact ⟨rfl, HE.out⟩

section
variable {H : Type} {enc : TypeId × Value → H} {W : World} {base : Nat} {spare : Nat → Bool} {held : Bool}

theorem pay_of {fuel : Nat} {c0 c1 c2 c3 : Value} {x : DataW H × List MemPlace} (h : DataW.trod enc Try.prog W base spare held fuel 23 [c0, c1, c2, c3] = some x) :
    ∃ y : Py, c0 = .int .i64 y.a ∧ c1 = .int .i64 y.c ∧ c2 = .int .i64 y.u ∧ c3 = .int .i64 y.s := by
  obtain ⟨xs, n, _, _, _, hx, hf⟩ := DataW.trod_struct Try.underlying23 h
  have k1 : Try.prog.cellsOf 3 = 1 := by kernel_rfl
  match xs, hx with
  | [x0, x1, x2, x3], _ =>
    have g0 : DataW.trod enc Try.prog W base spare held n 3 (([c0, c1, c2, c3].drop 0).take (Try.prog.cellsOf 3)) = some x0 := hf 0 _ rfl
    have g1 : DataW.trod enc Try.prog W base spare held n 3 (([c0, c1, c2, c3].drop 1).take (Try.prog.cellsOf 3)) = some x1 := hf 1 _ rfl
    have g2 : DataW.trod enc Try.prog W base spare held n 3 (([c0, c1, c2, c3].drop 2).take (Try.prog.cellsOf 3)) = some x2 := hf 2 _ rfl
    have g3 : DataW.trod enc Try.prog W base spare held n 3 (([c0, c1, c2, c3].drop 3).take (Try.prog.cellsOf 3)) = some x3 := hf 3 _ rfl
    rw [k1] at g0 g1 g2 g3
    obtain ⟨a, e0, _, _⟩ := DataW.trod_int Try.underlying3 g0
    obtain ⟨b, e1, _, _⟩ := DataW.trod_int Try.underlying3 g1
    obtain ⟨c, e2, _, _⟩ := DataW.trod_int Try.underlying3 g2
    obtain ⟨d, e3, _, _⟩ := DataW.trod_int Try.underlying3 g3
    exact ⟨⟨a, b, c, d⟩, by simpa using e0, by simpa using e1, by simpa using e2, by simpa using e3⟩

theorem open_pay {v : Value} {fuel : Nat} {x : DataW H × List MemPlace} {r : Reach} {b0 : Nat} (hv : Value.okWide Try.prog W r b0 23 v) (h : DataW.trod enc Try.prog W base spare held fuel 23 v.cells.toList = some x) : ∃ y : Py, v = pv y := by
  obtain ⟨cs, rfl, hcs⟩ := okWide_struct Try.underlying23 hv
  have h3 : Try.prog.cellsOf 23 = 4 := by kernel_rfl
  rw [h3] at hcs
  match cs, hcs with
  | ⟨[c0, c1, c2, c3]⟩, _ =>
    obtain ⟨y, rfl, rfl, rfl, rfl⟩ := pay_of (c0 := c0) (c1 := c1) (c2 := c2) (c3 := c3) h
    exact ⟨y, rfl⟩
end
theorem tmod_bd {m : Int} (n : Int) (hm : 0 < m) (h2 : m ≤ 1000000) : 0 ≤ (wrap64 (n.tmod m + m)).tmod m ∧ (wrap64 (n.tmod m + m)).tmod m ≤ m - 1 := by
  have h : -m < n.tmod m ∧ n.tmod m < m := by
    rcases Int.le_total 0 n with h | h
    · rw [Int.tmod_eq_emod_of_nonneg h]
      have := Int.emod_nonneg n (by omega : m ≠ 0)
      have := Int.emod_lt_of_pos n hm
      omega
    · obtain ⟨k, rfl⟩ : ∃ k, n = -k := ⟨-n, by omega⟩
      rw [Int.neg_tmod, Int.tmod_eq_emod_of_nonneg (by omega)]
      have := Int.emod_nonneg k (by omega : m ≠ 0)
      have := Int.emod_lt_of_pos k hm
      omega
  have e : wrap64 (n.tmod m + m) = n.tmod m + m := IntWalk.wrap64_in _ (by omega)
  rw [e, Int.tmod_eq_emod_of_nonneg (by omega)]
  have := Int.emod_nonneg (n.tmod m + m) (by omega : m ≠ 0)
  have := Int.emod_lt_of_pos (n.tmod m + m) hm
  omega
end Go.Proofs.Ytfegnaafodcnlaa.Pay
