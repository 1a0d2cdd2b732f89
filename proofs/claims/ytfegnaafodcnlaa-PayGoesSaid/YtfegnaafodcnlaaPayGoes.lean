/-
  Proved: for any money, a time, another one and a number the law PayGoes returns true: what time, renewing, catching and closing makes of any money is as the document says, or refused. No condition.
-/
import Derived.Test.YtfegnaafodcnlaaRows
import Derived.Test.YtfegnaafodcnlaaPFew
import Derived.Deep.CutRange
import Derived.Deep.CutBlock
namespace Go.Proofs.Ytfegnaafodcnlaa.payGoes
open Go.ChangeShapes Go.WideShapes Go.ChangeAt Go.RowKit Go.Lib Go.Proofs.Ytfegnaafodcnlaa.Pay
set_option linter.unusedVariables false

theorem own : ownKnob Try.prog.godebug = none := by kernel_rfl
theorem laidOut : laidOutB Try.prog = true := by kernel_rfl

theorem neq_yes {x y : Py} (h : x = y) (w : World) : (binOp .neq 23 (.agg #[.int .i64 x.a, .int .i64 x.c, .int .i64 x.u, .int .i64 x.s]) (.agg #[.int .i64 y.a, .int .i64 y.c, .int .i64 y.u, .int .i64 y.s])).run Try.prog w = .ok (.bool false) w := by
  have := neq_pay x y w
  rwa [decide_eq_true h] at this
theorem eql_yes {x y : Py} (h : x = y) (w : World) : (binOp .eql 23 (.agg #[.int .i64 x.a, .int .i64 x.c, .int .i64 x.u, .int .i64 x.s]) (.agg #[.int .i64 y.a, .int .i64 y.c, .int .i64 y.u, .int .i64 y.s])).run Try.prog w = .ok (.bool true) w := by
  have := eql_pay x y w
  rwa [decide_eq_true h] at this
/-- What is answered of money that may not be. -/
theorem none_of {p : Py} (h : rightB p = false) (t u n : Int) : lapE p = 1 ∧ lapO p t = noP ∧ lapB p t = false ∧ renE p u = 1 ∧ renO p u = noP ∧ catE p n = 1 ∧ catO p n = noP ∧ cloE p = 1 ∧ cloO p = noP := by
  have hn : ¬ rightB p = true := by rw [h]; simp
  refine ⟨?_, ?_, ?_, ?_, ?_, ?_, ?_, ?_, ?_⟩
  · exact if_neg hn
  · rcases lap_ways p t with ⟨_, _, _, e⟩ | ⟨e, _⟩ | ⟨e, _⟩
    · exact e
    · exact absurd e hn
    · exact absurd e hn
  · rcases lap_ways p t with ⟨_, _, e, _⟩ | ⟨e, _⟩ | ⟨e, _⟩
    · exact e
    · exact absurd e hn
    · exact absurd e hn
  · exact if_pos (fun h2 => hn h2.1)
  · rw [← (ren_if p u).1, if_neg hn]
  · exact if_pos (fun h2 => hn h2.1)
  · rw [← (cat_if p n).1, if_neg hn]
  · exact if_pos hn
  · rw [← (clo_if p).1, if_neg hn]
/-- It lapsed just if it is other than it was. -/
theorem lap_turned {p : Py} (h : rightB p = true) (t : Int) : lapE p = 0 ∧ lapB p t = !decide (lapO p t = p) := by
  rcases lap_ways p t with ⟨e, _⟩ | ⟨_, hs, hu, e1, e2, e3⟩ | ⟨_, hs, e1, e2, e3⟩
  · rw [h] at e; cases e
  · rw [e1, e2, e3, decide_eq_false]
    · exact ⟨rfl, rfl⟩
    · intro e
      have := congrArg Py.s e
      simp only at this
      omega
  · rw [e1, e2, e3, decide_eq_true rfl]
    exact ⟨rfl, rfl⟩
theorem ren_two {p : Py} (t : Int) : (renE p t = 0 ∧ renO p t = ⟨p.a, p.c, t, 1⟩) ∨ (renE p t ≠ 0 ∧ renO p t = noP) := by
  rcases ren_ways p t with ⟨_, e1, e2⟩ | ⟨_, _, _, e1, e2⟩ | ⟨_, _, _, e1, e2⟩
  · exact .inr ⟨by rw [e1]; decide, e2⟩
  · exact .inr ⟨by rw [e1]; decide, e2⟩
  · exact .inl ⟨e1, e2⟩
theorem cat_two' {p : Py} (n : Int) (hn : n ≤ 9223372036854775807) : (catE p n = 0 ∧ catO p n = ⟨p.a, wrap64 (p.c + n), p.u, p.s⟩) ∨ (catE p n ≠ 0 ∧ catO p n = noP) := by
  rcases cat_ways p n with ⟨_, e1, e2⟩ | ⟨_, _, _, e1, e2⟩ | ⟨_, _, _, _, e1, e2⟩ | ⟨hr, h0, _, h1, e1, e2⟩
  · exact .inr ⟨by rw [e1]; decide, e2⟩
  · exact .inr ⟨by rw [e1]; decide, e2⟩
  · exact .inr ⟨by rw [e1]; decide, e2⟩
  · obtain ⟨q1, q2, q3, q4, _⟩ := rightB_t.1 hr
    have e : wrap64 (p.c + n) = p.c + n := IntWalk.wrap64_in _ (by omega)
    exact .inl ⟨e1, by rw [e2, e]⟩

theorem box_set3 {b : Nat} {c0 c1 c2 c3 x : Value} {w : World} (h : Box b [c0, c1, c2, c3] w) : Box b [c0, c1, c2, x] (w.setCell ⟨b, 3, none⟩ x) := by
  obtain ⟨k0, k1, k2, k3⟩ := h.c4
  obtain ⟨z0, z1, z2, z3⟩ := h.z4
  refine ⟨by simpa using h.1, fun j v hj => ?_⟩
  match j, hj with
  | 0, hj => cases hj; exact ⟨by simp [go_sem, k0], by simp [go_sem, z0]⟩
  | 1, hj => cases hj; exact ⟨by simp [go_sem, k1], by simp [go_sem, z1]⟩
  | 2, hj => cases hj; exact ⟨by simp [go_sem, k2], by simp [go_sem, z2]⟩
  | 3, hj => cases hj; exact ⟨by simp [go_sem, k3], by simp [go_sem, z3]⟩
  | j + 4, hj => cases hj
set_option maxRecDepth 100000 in
set_option maxHeartbeats 8000000 in
theorem bad (p : Py) (hr : rightB p = false) (now : Int) (_n1 : -9223372036854775808 ≤ now) (_n2 : now ≤ 9223372036854775807) (t : Int) (_t1 : -9223372036854775808 ≤ t) (_t2 : t ≤ 9223372036854775807) (n : Int) (_m1 : -9223372036854775808 ≤ n) (_m2 : n ≤ 9223372036854775807) (w : World) :
    Calls Try.prog 4 #[pv p, .int .i64 now, .int .i64 t, .int .i64 n] w (BoolB true w) := by
  have HAL := Lib.hid alive_any
  have hR := right_any p
  have h1 := Lapse_any p now
  have h2 := Renew_any p t
  have h3 := Catch_any p n ⟨_m1, _m2⟩
  have h4 := Close_any p
  obtain ⟨e1, e2, e3, e4, e5, e6, e7, e8, e9⟩ := none_of hr now t n
  rw [e1, e2, e3] at h1
  rw [e4, e5] at h2
  rw [e6, e7] at h3
  rw [e8, e9] at h4
  rw [hr] at hR
  clear e1 e2 e3 e4 e5 e6 e7 e8 e9 hr
  obtain ⟨N, hN⟩ : ∃ N, N = noP := ⟨_, rfl⟩
  have HQ := Lib.hid (fun W => eql_yes hN W)
  rw [← hN] at h1 h2 h3 h4
  clear hN
  unfold noP at HQ
  have H1 := Lib.hid h1
  have H2 := Lib.hid h2
  have H3 := Lib.hid h3
  have H4 := Lib.hid h4
  have HR := Lib.hid hR
  clear h1 h2 h3 h4 hR
  unfold pv at *
  simp only at HQ
  have hx := Box.made w [.int .i64 p.a, .int .i64 p.c, .int .i64 p.u, .int .i64 p.s] 23
  have hb := al w (.cells #[.int .i64 p.a, .int .i64 p.c, .int .i64 p.u, .int .i64 p.s] 23)
  obtain ⟨w0, hw⟩ : ∃ W, w.alloc (.cells #[.int .i64 p.a, .int .i64 p.c, .int .i64 p.u, .int .i64 p.s] 23) = W := ⟨_, rfl⟩
  have HXp : Hid (Box w.heap.size [.int .i64 p.a, .int .i64 p.c, .int .i64 p.u, .int .i64 p.s] w0) := Lib.hid (hw ▸ hx)
  have HB : Hid (Below w.heap.size w w0) := Lib.hid (hw ▸ hb)
  clear hx hb
  go_enter Try.func4, Try.ntmps4
  go_upto_region 1 with (fail)
  clear hw
  obtain ⟨p0, p1, p2, p3⟩ := HXp.out.c4
  have ps := HXp.out.1
  go_wp2_with fail
  (with_reducible refine (H1.out _).mono ?_)
  rintro e v1 ⟨rfl, hz⟩
  have hx := Box.made v1 [.int .i64 N.a, .int .i64 N.c, .int .i64 N.u, .int .i64 N.s] 23
  have hz2 := below_trans hz (al v1 (.cells #[.int .i64 N.a, .int .i64 N.c, .int .i64 N.u, .int .i64 N.s] 23))
  obtain ⟨w1, hw⟩ : ∃ W, v1.alloc (.cells #[.int .i64 N.a, .int .i64 N.c, .int .i64 N.u, .int .i64 N.s] 23) = W := ⟨_, rfl⟩
  replace HXp : Hid (Box w.heap.size [.int .i64 p.a, .int .i64 p.c, .int .i64 p.u, .int .i64 p.s] w1) := Lib.hid (hw ▸ HXp.out.below hz2)
  have HXaa : Hid (Box v1.heap.size [.int .i64 N.a, .int .i64 N.c, .int .i64 N.u, .int .i64 N.s] w1) := Lib.hid (hw ▸ hx)
  replace HB : Hid (Below w.heap.size w w1) := Lib.hid (hw ▸ below_trans HB.out hz2)
  clear hz hx hz2
  clear p0 p1 p2 p3 ps
  unfold pv
  go_upto_region 2 with (fail)
  clear hw
  obtain ⟨p0, p1, p2, p3⟩ := HXp.out.c4
  have ps := HXp.out.1
  go_wp2_with fail
  (with_reducible refine (H2.out _).mono ?_)
  rintro e v2 ⟨rfl, hz⟩
  have hx := Box.made v2 [.int .i64 N.a, .int .i64 N.c, .int .i64 N.u, .int .i64 N.s] 23
  have hz2 := below_trans hz (al v2 (.cells #[.int .i64 N.a, .int .i64 N.c, .int .i64 N.u, .int .i64 N.s] 23))
  obtain ⟨w2, hw⟩ : ∃ W, v2.alloc (.cells #[.int .i64 N.a, .int .i64 N.c, .int .i64 N.u, .int .i64 N.s] 23) = W := ⟨_, rfl⟩
  replace HXp : Hid (Box w.heap.size [.int .i64 p.a, .int .i64 p.c, .int .i64 p.u, .int .i64 p.s] w2) := Lib.hid (hw ▸ HXp.out.below hz2)
  replace HXaa : Hid (Box v1.heap.size [.int .i64 N.a, .int .i64 N.c, .int .i64 N.u, .int .i64 N.s] w2) := Lib.hid (hw ▸ HXaa.out.below hz2)
  have HXb : Hid (Box v2.heap.size [.int .i64 N.a, .int .i64 N.c, .int .i64 N.u, .int .i64 N.s] w2) := Lib.hid (hw ▸ hx)
  replace HB : Hid (Below w.heap.size w w2) := Lib.hid (hw ▸ below_trans HB.out hz2)
  clear hz hx hz2
  clear p0 p1 p2 p3 ps
  unfold pv
  go_upto_region 3 with (fail)
  clear hw
  obtain ⟨p0, p1, p2, p3⟩ := HXp.out.c4
  have ps := HXp.out.1
  go_wp2_with fail
  (with_reducible refine (H3.out _).mono ?_)
  rintro e v3 ⟨rfl, hz⟩
  have hx := Box.made v3 [.int .i64 N.a, .int .i64 N.c, .int .i64 N.u, .int .i64 N.s] 23
  have hz2 := below_trans hz (al v3 (.cells #[.int .i64 N.a, .int .i64 N.c, .int .i64 N.u, .int .i64 N.s] 23))
  obtain ⟨w3, hw⟩ : ∃ W, v3.alloc (.cells #[.int .i64 N.a, .int .i64 N.c, .int .i64 N.u, .int .i64 N.s] 23) = W := ⟨_, rfl⟩
  replace HXp : Hid (Box w.heap.size [.int .i64 p.a, .int .i64 p.c, .int .i64 p.u, .int .i64 p.s] w3) := Lib.hid (hw ▸ HXp.out.below hz2)
  replace HXaa : Hid (Box v1.heap.size [.int .i64 N.a, .int .i64 N.c, .int .i64 N.u, .int .i64 N.s] w3) := Lib.hid (hw ▸ HXaa.out.below hz2)
  replace HXb : Hid (Box v2.heap.size [.int .i64 N.a, .int .i64 N.c, .int .i64 N.u, .int .i64 N.s] w3) := Lib.hid (hw ▸ HXb.out.below hz2)
  have HXc : Hid (Box v3.heap.size [.int .i64 N.a, .int .i64 N.c, .int .i64 N.u, .int .i64 N.s] w3) := Lib.hid (hw ▸ hx)
  replace HB : Hid (Below w.heap.size w w3) := Lib.hid (hw ▸ below_trans HB.out hz2)
  clear hz hx hz2
  clear p0 p1 p2 p3 ps
  unfold pv
  go_upto_region 4 with (fail)
  clear hw
  obtain ⟨p0, p1, p2, p3⟩ := HXp.out.c4
  have ps := HXp.out.1
  go_wp2_with fail
  (with_reducible refine (H4.out _).mono ?_)
  rintro e v4 ⟨rfl, hz⟩
  have hx := Box.made v4 [.int .i64 N.a, .int .i64 N.c, .int .i64 N.u, .int .i64 N.s] 23
  have hz2 := below_trans hz (al v4 (.cells #[.int .i64 N.a, .int .i64 N.c, .int .i64 N.u, .int .i64 N.s] 23))
  obtain ⟨w4, hw⟩ : ∃ W, v4.alloc (.cells #[.int .i64 N.a, .int .i64 N.c, .int .i64 N.u, .int .i64 N.s] 23) = W := ⟨_, rfl⟩
  replace HXp : Hid (Box w.heap.size [.int .i64 p.a, .int .i64 p.c, .int .i64 p.u, .int .i64 p.s] w4) := Lib.hid (hw ▸ HXp.out.below hz2)
  replace HXaa : Hid (Box v1.heap.size [.int .i64 N.a, .int .i64 N.c, .int .i64 N.u, .int .i64 N.s] w4) := Lib.hid (hw ▸ HXaa.out.below hz2)
  replace HXb : Hid (Box v2.heap.size [.int .i64 N.a, .int .i64 N.c, .int .i64 N.u, .int .i64 N.s] w4) := Lib.hid (hw ▸ HXb.out.below hz2)
  replace HXc : Hid (Box v3.heap.size [.int .i64 N.a, .int .i64 N.c, .int .i64 N.u, .int .i64 N.s] w4) := Lib.hid (hw ▸ HXc.out.below hz2)
  have HXd : Hid (Box v4.heap.size [.int .i64 N.a, .int .i64 N.c, .int .i64 N.u, .int .i64 N.s] w4) := Lib.hid (hw ▸ hx)
  replace HB : Hid (Below w.heap.size w w4) := Lib.hid (hw ▸ below_trans HB.out hz2)
  clear hz hx hz2
  clear p0 p1 p2 p3 ps
  unfold pv
  go_upto_region 5 with (fail)
  clear hw
  go_upto_region 6 with (fail)
  generalize hw : w4.alloc (.cells #[.int .i64 0, .int .i64 0, .int .i64 0, .int .i64 0] 23) = w5
  have hx := Box.made w4 [.int .i64 0, .int .i64 0, .int .i64 0, .int .i64 0] 23
  have hz2 := al w4 (.cells #[.int .i64 0, .int .i64 0, .int .i64 0, .int .i64 0] 23)
  replace HXp : Hid (Box w.heap.size [.int .i64 p.a, .int .i64 p.c, .int .i64 p.u, .int .i64 p.s] w5) := Lib.hid (hw ▸ HXp.out.below hz2)
  replace HXaa : Hid (Box v1.heap.size [.int .i64 N.a, .int .i64 N.c, .int .i64 N.u, .int .i64 N.s] w5) := Lib.hid (hw ▸ HXaa.out.below hz2)
  replace HXb : Hid (Box v2.heap.size [.int .i64 N.a, .int .i64 N.c, .int .i64 N.u, .int .i64 N.s] w5) := Lib.hid (hw ▸ HXb.out.below hz2)
  replace HXc : Hid (Box v3.heap.size [.int .i64 N.a, .int .i64 N.c, .int .i64 N.u, .int .i64 N.s] w5) := Lib.hid (hw ▸ HXc.out.below hz2)
  replace HXd : Hid (Box v4.heap.size [.int .i64 N.a, .int .i64 N.c, .int .i64 N.u, .int .i64 N.s] w5) := Lib.hid (hw ▸ HXd.out.below hz2)
  have HXz : Hid (Box w4.heap.size [.int .i64 0, .int .i64 0, .int .i64 0, .int .i64 0] w5) := Lib.hid (hw ▸ hx)
  replace HB : Hid (Below w.heap.size w w5) := Lib.hid (hw ▸ below_trans HB.out hz2)
  clear hz2 hx
  clear hw
  go_wp2_with fail
  (with_reducible refine (HAL.out _).mono ?_)
  rintro e w6 ⟨rfl, hz⟩
  replace HXp : Hid (Box w.heap.size [.int .i64 p.a, .int .i64 p.c, .int .i64 p.u, .int .i64 p.s] w6) := Lib.hid (HXp.out.below hz)
  replace HXaa : Hid (Box v1.heap.size [.int .i64 N.a, .int .i64 N.c, .int .i64 N.u, .int .i64 N.s] w6) := Lib.hid (HXaa.out.below hz)
  replace HXb : Hid (Box v2.heap.size [.int .i64 N.a, .int .i64 N.c, .int .i64 N.u, .int .i64 N.s] w6) := Lib.hid (HXb.out.below hz)
  replace HXc : Hid (Box v3.heap.size [.int .i64 N.a, .int .i64 N.c, .int .i64 N.u, .int .i64 N.s] w6) := Lib.hid (HXc.out.below hz)
  replace HXd : Hid (Box v4.heap.size [.int .i64 N.a, .int .i64 N.c, .int .i64 N.u, .int .i64 N.s] w6) := Lib.hid (HXd.out.below hz)
  replace HXz : Hid (Box w4.heap.size [.int .i64 0, .int .i64 0, .int .i64 0, .int .i64 0] w6) := Lib.hid (HXz.out.below hz)
  replace HB : Hid (Below w.heap.size w w6) := Lib.hid (below_trans HB.out hz)
  clear hz
  obtain ⟨p0, p1, p2, p3⟩ := HXp.out.c4
  have ps := HXp.out.1
  go_wp2_with fail
  (with_reducible refine (HR.out _).mono ?_)
  rintro e w7 ⟨rfl, hz⟩
  replace HXp : Hid (Box w.heap.size [.int .i64 p.a, .int .i64 p.c, .int .i64 p.u, .int .i64 p.s] w7) := Lib.hid (HXp.out.below hz)
  replace HXaa : Hid (Box v1.heap.size [.int .i64 N.a, .int .i64 N.c, .int .i64 N.u, .int .i64 N.s] w7) := Lib.hid (HXaa.out.below hz)
  replace HXb : Hid (Box v2.heap.size [.int .i64 N.a, .int .i64 N.c, .int .i64 N.u, .int .i64 N.s] w7) := Lib.hid (HXb.out.below hz)
  replace HXc : Hid (Box v3.heap.size [.int .i64 N.a, .int .i64 N.c, .int .i64 N.u, .int .i64 N.s] w7) := Lib.hid (HXc.out.below hz)
  replace HXd : Hid (Box v4.heap.size [.int .i64 N.a, .int .i64 N.c, .int .i64 N.u, .int .i64 N.s] w7) := Lib.hid (HXd.out.below hz)
  replace HXz : Hid (Box w4.heap.size [.int .i64 0, .int .i64 0, .int .i64 0, .int .i64 0] w7) := Lib.hid (HXz.out.below hz)
  replace HB : Hid (Below w.heap.size w w7) := Lib.hid (below_trans HB.out hz)
  clear hz
  clear p0 p1 p2 p3 ps
  obtain ⟨aa0, aa1, aa2, aa3⟩ := HXaa.out.c4
  have aas := HXaa.out.1
  obtain ⟨b0, b1, b2, b3⟩ := HXb.out.c4
  have bs := HXb.out.1
  obtain ⟨c0, c1, c2, c3⟩ := HXc.out.c4
  have cs := HXc.out.1
  obtain ⟨d0, d1, d2, d3⟩ := HXd.out.c4
  have ds := HXd.out.1
  obtain ⟨z0, z1, z2, z3⟩ := HXz.out.c4
  have zs := HXz.out.1
  have hq := HQ.out
  go_wp2_with fail
  go_ret
  exact ⟨rfl, HB.out⟩
set_option maxRecDepth 100000 in
set_option maxHeartbeats 8000000 in
theorem good (p : Py) (hr : rightB p = true) (now : Int) (_n1 : -9223372036854775808 ≤ now) (_n2 : now ≤ 9223372036854775807) (t : Int) (_t1 : -9223372036854775808 ≤ t) (_t2 : t ≤ 9223372036854775807) (n : Int) (_m1 : -9223372036854775808 ≤ n) (_m2 : n ≤ 9223372036854775807) (w : World) :
    Calls Try.prog 4 #[pv p, .int .i64 now, .int .i64 t, .int .i64 n] w (BoolB true w) := by
  have HAL := Lib.hid alive_any
  have hR := right_any p
  have h1 := Lapse_any p now
  have h2 := Renew_any p t
  have h3 := Catch_any p n ⟨_m1, _m2⟩
  have h4 := Close_any p
  obtain ⟨e1, e2⟩ := lap_turned hr now
  have hl := lap_ways p now
  have hrn := ren_ways p t
  have hrt := ren_two (p := p) t
  have hcn := cat_ways p n
  have hct := cat_two' (p := p) n _m2
  have hcl := clo_ways p
  obtain ⟨q1, q2, q3, q4, _⟩ := rightB_t.1 hr
  simp only [hr, true_and, Bool.true_eq_false, false_and, false_or] at hl hrn hcn hcl
  obtain ⟨kb, hkb⟩ : ∃ kb, (!decide (lapO p now = p)) = kb := ⟨_, rfl⟩
  rw [hkb] at e2
  rw [hr] at hR
  rw [e1] at h1 hl
  rw [e2] at h1 hl
  clear e1 e2 hr
  generalize lapO p now = K at *
  generalize renO p t = B at *
  generalize renE p t = f at *
  generalize catO p n = C at *
  generalize catE p n = g at *
  generalize cloO p = D at *
  generalize cloE p = h at *
  have HKQ : Hid (∀ W, (binOp .neq 23 (.agg #[.int .i64 K.a, .int .i64 K.c, .int .i64 K.u, .int .i64 K.s]) (.agg #[.int .i64 p.a, .int .i64 p.c, .int .i64 p.u, .int .i64 p.s])).run Try.prog W = .ok (.bool kb) W) := Lib.hid (fun W => by have := neq_pay K p W; rwa [hkb] at this)
  clear hkb
  have HL := Lib.hid hl
  have HRN := Lib.hid hrn
  have HRT := Lib.hid hrt
  have HCN := Lib.hid hcn
  have HCT := Lib.hid hct
  have HCL := Lib.hid hcl
  have HAM : Hid (0 ≤ p.a - p.c ∧ p.a - p.c ≤ 1125899906842624) := Lib.hid (by omega)
  clear hl hrn hrt hcn hct hcl q1 q2 q3 q4
  have H1 := Lib.hid h1
  have H2 := Lib.hid h2
  have H3 := Lib.hid h3
  have H4 := Lib.hid h4
  have HR := Lib.hid hR
  clear h1 h2 h3 h4 hR
  unfold pv at *
  have hx := Box.made w [.int .i64 p.a, .int .i64 p.c, .int .i64 p.u, .int .i64 p.s] 23
  have hb := al w (.cells #[.int .i64 p.a, .int .i64 p.c, .int .i64 p.u, .int .i64 p.s] 23)
  obtain ⟨w0, hw⟩ : ∃ W, w.alloc (.cells #[.int .i64 p.a, .int .i64 p.c, .int .i64 p.u, .int .i64 p.s] 23) = W := ⟨_, rfl⟩
  have HXp : Hid (Box w.heap.size [.int .i64 p.a, .int .i64 p.c, .int .i64 p.u, .int .i64 p.s] w0) := Lib.hid (hw ▸ hx)
  have HB : Hid (Below w.heap.size w w0) := Lib.hid (hw ▸ hb)
  clear hx hb
  go_enter Try.func4, Try.ntmps4
  go_upto_region 1 with (fail)
  clear hw
  obtain ⟨p0, p1, p2, p3⟩ := HXp.out.c4
  have ps := HXp.out.1
  go_wp2_with fail
  (with_reducible refine (H1.out _).mono ?_)
  rintro e v1 ⟨rfl, hz⟩
  have hx := Box.made v1 [.int .i64 K.a, .int .i64 K.c, .int .i64 K.u, .int .i64 K.s] 23
  have hz2 := below_trans hz (al v1 (.cells #[.int .i64 K.a, .int .i64 K.c, .int .i64 K.u, .int .i64 K.s] 23))
  obtain ⟨w1, hw⟩ : ∃ W, v1.alloc (.cells #[.int .i64 K.a, .int .i64 K.c, .int .i64 K.u, .int .i64 K.s] 23) = W := ⟨_, rfl⟩
  replace HXp : Hid (Box w.heap.size [.int .i64 p.a, .int .i64 p.c, .int .i64 p.u, .int .i64 p.s] w1) := Lib.hid (hw ▸ HXp.out.below hz2)
  have HXaa : Hid (Box v1.heap.size [.int .i64 K.a, .int .i64 K.c, .int .i64 K.u, .int .i64 K.s] w1) := Lib.hid (hw ▸ hx)
  replace HB : Hid (Below w.heap.size w w1) := Lib.hid (hw ▸ below_trans HB.out hz2)
  clear hz hx hz2
  clear p0 p1 p2 p3 ps
  unfold pv
  go_upto_region 2 with (fail)
  clear hw
  obtain ⟨p0, p1, p2, p3⟩ := HXp.out.c4
  have ps := HXp.out.1
  go_wp2_with fail
  (with_reducible refine (H2.out _).mono ?_)
  rintro e v2 ⟨rfl, hz⟩
  have hx := Box.made v2 [.int .i64 B.a, .int .i64 B.c, .int .i64 B.u, .int .i64 B.s] 23
  have hz2 := below_trans hz (al v2 (.cells #[.int .i64 B.a, .int .i64 B.c, .int .i64 B.u, .int .i64 B.s] 23))
  obtain ⟨w2, hw⟩ : ∃ W, v2.alloc (.cells #[.int .i64 B.a, .int .i64 B.c, .int .i64 B.u, .int .i64 B.s] 23) = W := ⟨_, rfl⟩
  replace HXp : Hid (Box w.heap.size [.int .i64 p.a, .int .i64 p.c, .int .i64 p.u, .int .i64 p.s] w2) := Lib.hid (hw ▸ HXp.out.below hz2)
  replace HXaa : Hid (Box v1.heap.size [.int .i64 K.a, .int .i64 K.c, .int .i64 K.u, .int .i64 K.s] w2) := Lib.hid (hw ▸ HXaa.out.below hz2)
  have HXb : Hid (Box v2.heap.size [.int .i64 B.a, .int .i64 B.c, .int .i64 B.u, .int .i64 B.s] w2) := Lib.hid (hw ▸ hx)
  replace HB : Hid (Below w.heap.size w w2) := Lib.hid (hw ▸ below_trans HB.out hz2)
  clear hz hx hz2
  clear p0 p1 p2 p3 ps
  unfold pv
  go_upto_region 3 with (fail)
  clear hw
  obtain ⟨p0, p1, p2, p3⟩ := HXp.out.c4
  have ps := HXp.out.1
  go_wp2_with fail
  (with_reducible refine (H3.out _).mono ?_)
  rintro e v3 ⟨rfl, hz⟩
  have hx := Box.made v3 [.int .i64 C.a, .int .i64 C.c, .int .i64 C.u, .int .i64 C.s] 23
  have hz2 := below_trans hz (al v3 (.cells #[.int .i64 C.a, .int .i64 C.c, .int .i64 C.u, .int .i64 C.s] 23))
  obtain ⟨w3, hw⟩ : ∃ W, v3.alloc (.cells #[.int .i64 C.a, .int .i64 C.c, .int .i64 C.u, .int .i64 C.s] 23) = W := ⟨_, rfl⟩
  replace HXp : Hid (Box w.heap.size [.int .i64 p.a, .int .i64 p.c, .int .i64 p.u, .int .i64 p.s] w3) := Lib.hid (hw ▸ HXp.out.below hz2)
  replace HXaa : Hid (Box v1.heap.size [.int .i64 K.a, .int .i64 K.c, .int .i64 K.u, .int .i64 K.s] w3) := Lib.hid (hw ▸ HXaa.out.below hz2)
  replace HXb : Hid (Box v2.heap.size [.int .i64 B.a, .int .i64 B.c, .int .i64 B.u, .int .i64 B.s] w3) := Lib.hid (hw ▸ HXb.out.below hz2)
  have HXc : Hid (Box v3.heap.size [.int .i64 C.a, .int .i64 C.c, .int .i64 C.u, .int .i64 C.s] w3) := Lib.hid (hw ▸ hx)
  replace HB : Hid (Below w.heap.size w w3) := Lib.hid (hw ▸ below_trans HB.out hz2)
  clear hz hx hz2
  clear p0 p1 p2 p3 ps
  unfold pv
  go_upto_region 4 with (fail)
  clear hw
  obtain ⟨p0, p1, p2, p3⟩ := HXp.out.c4
  have ps := HXp.out.1
  go_wp2_with fail
  (with_reducible refine (H4.out _).mono ?_)
  rintro e v4 ⟨rfl, hz⟩
  have hx := Box.made v4 [.int .i64 D.a, .int .i64 D.c, .int .i64 D.u, .int .i64 D.s] 23
  have hz2 := below_trans hz (al v4 (.cells #[.int .i64 D.a, .int .i64 D.c, .int .i64 D.u, .int .i64 D.s] 23))
  obtain ⟨w4, hw⟩ : ∃ W, v4.alloc (.cells #[.int .i64 D.a, .int .i64 D.c, .int .i64 D.u, .int .i64 D.s] 23) = W := ⟨_, rfl⟩
  replace HXp : Hid (Box w.heap.size [.int .i64 p.a, .int .i64 p.c, .int .i64 p.u, .int .i64 p.s] w4) := Lib.hid (hw ▸ HXp.out.below hz2)
  replace HXaa : Hid (Box v1.heap.size [.int .i64 K.a, .int .i64 K.c, .int .i64 K.u, .int .i64 K.s] w4) := Lib.hid (hw ▸ HXaa.out.below hz2)
  replace HXb : Hid (Box v2.heap.size [.int .i64 B.a, .int .i64 B.c, .int .i64 B.u, .int .i64 B.s] w4) := Lib.hid (hw ▸ HXb.out.below hz2)
  replace HXc : Hid (Box v3.heap.size [.int .i64 C.a, .int .i64 C.c, .int .i64 C.u, .int .i64 C.s] w4) := Lib.hid (hw ▸ HXc.out.below hz2)
  have HXd : Hid (Box v4.heap.size [.int .i64 D.a, .int .i64 D.c, .int .i64 D.u, .int .i64 D.s] w4) := Lib.hid (hw ▸ hx)
  replace HB : Hid (Below w.heap.size w w4) := Lib.hid (hw ▸ below_trans HB.out hz2)
  clear hz hx hz2
  clear p0 p1 p2 p3 ps
  unfold pv
  go_upto_region 5 with (fail)
  clear hw
  go_upto_region 6 with (fail)
  generalize hw : w4.alloc (.cells #[.int .i64 0, .int .i64 0, .int .i64 0, .int .i64 0] 23) = w5
  have hx := Box.made w4 [.int .i64 0, .int .i64 0, .int .i64 0, .int .i64 0] 23
  have hz2 := al w4 (.cells #[.int .i64 0, .int .i64 0, .int .i64 0, .int .i64 0] 23)
  replace HXp : Hid (Box w.heap.size [.int .i64 p.a, .int .i64 p.c, .int .i64 p.u, .int .i64 p.s] w5) := Lib.hid (hw ▸ HXp.out.below hz2)
  replace HXaa : Hid (Box v1.heap.size [.int .i64 K.a, .int .i64 K.c, .int .i64 K.u, .int .i64 K.s] w5) := Lib.hid (hw ▸ HXaa.out.below hz2)
  replace HXb : Hid (Box v2.heap.size [.int .i64 B.a, .int .i64 B.c, .int .i64 B.u, .int .i64 B.s] w5) := Lib.hid (hw ▸ HXb.out.below hz2)
  replace HXc : Hid (Box v3.heap.size [.int .i64 C.a, .int .i64 C.c, .int .i64 C.u, .int .i64 C.s] w5) := Lib.hid (hw ▸ HXc.out.below hz2)
  replace HXd : Hid (Box v4.heap.size [.int .i64 D.a, .int .i64 D.c, .int .i64 D.u, .int .i64 D.s] w5) := Lib.hid (hw ▸ HXd.out.below hz2)
  have HXz : Hid (Box w4.heap.size [.int .i64 0, .int .i64 0, .int .i64 0, .int .i64 0] w5) := Lib.hid (hw ▸ hx)
  replace HB : Hid (Below w.heap.size w w5) := Lib.hid (hw ▸ below_trans HB.out hz2)
  clear hz2 hx
  clear hw
  go_wp2_with fail
  (with_reducible refine (HAL.out _).mono ?_)
  rintro e w6 ⟨rfl, hz⟩
  replace HXp : Hid (Box w.heap.size [.int .i64 p.a, .int .i64 p.c, .int .i64 p.u, .int .i64 p.s] w6) := Lib.hid (HXp.out.below hz)
  replace HXaa : Hid (Box v1.heap.size [.int .i64 K.a, .int .i64 K.c, .int .i64 K.u, .int .i64 K.s] w6) := Lib.hid (HXaa.out.below hz)
  replace HXb : Hid (Box v2.heap.size [.int .i64 B.a, .int .i64 B.c, .int .i64 B.u, .int .i64 B.s] w6) := Lib.hid (HXb.out.below hz)
  replace HXc : Hid (Box v3.heap.size [.int .i64 C.a, .int .i64 C.c, .int .i64 C.u, .int .i64 C.s] w6) := Lib.hid (HXc.out.below hz)
  replace HXd : Hid (Box v4.heap.size [.int .i64 D.a, .int .i64 D.c, .int .i64 D.u, .int .i64 D.s] w6) := Lib.hid (HXd.out.below hz)
  replace HXz : Hid (Box w4.heap.size [.int .i64 0, .int .i64 0, .int .i64 0, .int .i64 0] w6) := Lib.hid (HXz.out.below hz)
  replace HB : Hid (Below w.heap.size w w6) := Lib.hid (below_trans HB.out hz)
  clear hz
  obtain ⟨p0, p1, p2, p3⟩ := HXp.out.c4
  have ps := HXp.out.1
  go_wp2_with fail
  (with_reducible refine (HR.out _).mono ?_)
  rintro e w7 ⟨rfl, hz⟩
  replace HXp : Hid (Box w.heap.size [.int .i64 p.a, .int .i64 p.c, .int .i64 p.u, .int .i64 p.s] w7) := Lib.hid (HXp.out.below hz)
  replace HXaa : Hid (Box v1.heap.size [.int .i64 K.a, .int .i64 K.c, .int .i64 K.u, .int .i64 K.s] w7) := Lib.hid (HXaa.out.below hz)
  replace HXb : Hid (Box v2.heap.size [.int .i64 B.a, .int .i64 B.c, .int .i64 B.u, .int .i64 B.s] w7) := Lib.hid (HXb.out.below hz)
  replace HXc : Hid (Box v3.heap.size [.int .i64 C.a, .int .i64 C.c, .int .i64 C.u, .int .i64 C.s] w7) := Lib.hid (HXc.out.below hz)
  replace HXd : Hid (Box v4.heap.size [.int .i64 D.a, .int .i64 D.c, .int .i64 D.u, .int .i64 D.s] w7) := Lib.hid (HXd.out.below hz)
  replace HXz : Hid (Box w4.heap.size [.int .i64 0, .int .i64 0, .int .i64 0, .int .i64 0] w7) := Lib.hid (HXz.out.below hz)
  replace HB : Hid (Below w.heap.size w w7) := Lib.hid (below_trans HB.out hz)
  clear hz
  clear p0 p1 p2 p3 ps
  obtain ⟨p0, p1, p2, p3⟩ := HXp.out.c4
  have ps := HXp.out.1
  have hx := Box.made w7 [.int .i64 p.a, .int .i64 p.c, .int .i64 p.u, .int .i64 p.s] 23
  have hz2 := al w7 (.cells #[.int .i64 p.a, .int .i64 p.c, .int .i64 p.u, .int .i64 p.s] 23)
  obtain ⟨w8, hw⟩ : ∃ W, w7.alloc (.cells #[.int .i64 p.a, .int .i64 p.c, .int .i64 p.u, .int .i64 p.s] 23) = W := ⟨_, rfl⟩
  have HVp := HXp
  replace HXp : Hid (Box w.heap.size [.int .i64 p.a, .int .i64 p.c, .int .i64 p.u, .int .i64 p.s] w8) := Lib.hid (hw ▸ HXp.out.below hz2)
  have HVaa := HXaa
  replace HXaa : Hid (Box v1.heap.size [.int .i64 K.a, .int .i64 K.c, .int .i64 K.u, .int .i64 K.s] w8) := Lib.hid (hw ▸ HXaa.out.below hz2)
  have HVb := HXb
  replace HXb : Hid (Box v2.heap.size [.int .i64 B.a, .int .i64 B.c, .int .i64 B.u, .int .i64 B.s] w8) := Lib.hid (hw ▸ HXb.out.below hz2)
  have HVc := HXc
  replace HXc : Hid (Box v3.heap.size [.int .i64 C.a, .int .i64 C.c, .int .i64 C.u, .int .i64 C.s] w8) := Lib.hid (hw ▸ HXc.out.below hz2)
  have HVd := HXd
  replace HXd : Hid (Box v4.heap.size [.int .i64 D.a, .int .i64 D.c, .int .i64 D.u, .int .i64 D.s] w8) := Lib.hid (hw ▸ HXd.out.below hz2)
  have HVz := HXz
  replace HXz : Hid (Box w4.heap.size [.int .i64 0, .int .i64 0, .int .i64 0, .int .i64 0] w8) := Lib.hid (hw ▸ HXz.out.below hz2)
  have HVB := HB
  have HV : Hid (Below w7.heap.size w7 w8) := Lib.hid (hw ▸ hz2)
  have HXl : Hid (Box w7.heap.size [.int .i64 p.a, .int .i64 p.c, .int .i64 p.u, .int .i64 p.s] w8) := Lib.hid (hw ▸ hx)
  replace HB : Hid (Below w.heap.size w w8) := Lib.hid (hw ▸ below_trans HB.out hz2)
  clear hz2 hx
  go_upto_region 11 with (fail)
  clear hw
  clear p0 p1 p2 p3 ps
  obtain ⟨p0, p1, p2, p3⟩ := HXp.out.c4
  have ps := HXp.out.1
  go_cut [101] from 24 to 101 (fun z wx => z = .bool kb ∧ wx = w8)
  case first =>
    rcases HL.out with ⟨h1, h2, _, h3, _⟩ | ⟨h1, _, h2, _⟩
    · have a1 : (p.s == 1) = true := by simpa using h1
      have H3 := Lib.hid h3
      clear h1 h3
      go_wp2_with fail
      go_meet
      exact ⟨by rw [H3.out], rfl⟩
    · have H3 := Lib.hid h2
      by_cases h4 : p.s = 1
      · have a1 : (p.s == 1) = true := by simpa using h4
        have a2 : ¬ p.u ≤ now := fun h => h1 ⟨h4, h⟩
        clear h1 h2 h4
        go_wp2_with fail
        go_meet
        exact ⟨by rw [H3.out], rfl⟩
      · have a1 : (p.s == 1) = false := by simpa using h4
        clear h1 h2 h4
        go_wp2_with fail
        go_meet
        exact ⟨by rw [H3.out], rfl⟩
  case rest =>
  obtain ⟨hz, hw⟩ := hcut
  subst hz
  rw [hw]
  clear hw
  go_upto_if 101 with (fail)
  go_cut [10] from 101 to 102 (fun b wx => b = .bool kb ∧ Box w7.heap.size [.int .i64 K.a, .int .i64 K.c, .int .i64 K.u, .int .i64 K.s] wx ∧ Below w7.heap.size w7 wx)
  case first =>
    rcases HL.out with ⟨h1, h2, _, h3, h4⟩ | ⟨h1, _, h2, h4⟩
    · have HX : Hid (Box w7.heap.size [.int .i64 K.a, .int .i64 K.c, .int .i64 K.u, .int .i64 K.s] (w8.setCell ⟨w7.heap.size, 3, none⟩ (.int .i64 2))) := Lib.hid (by rw [h4]; exact box_set3 HXl.out)
      have HE := Lib.hid (HV.out.setCell (p := ⟨w7.heap.size, 3, none⟩) (Nat.le_refl _) (.int .i64 2))
      obtain ⟨l0, l1, l2, l3⟩ := HXl.out.c4
      obtain ⟨m0, m1, m2, m3⟩ := HXl.out.z4
      have ls := HXl.out.1
      clear h1 h2 h4
      subst h3
      go_wp2_with fail
      go_meet
      exact ⟨rfl, HX.out, HE.out⟩
    · have HX : Hid (Box w7.heap.size [.int .i64 K.a, .int .i64 K.c, .int .i64 K.u, .int .i64 K.s] w8) := Lib.hid (by rw [h4]; exact HXl.out)
      clear h1 h4
      subst h2
      go_wp2_with fail
      go_meet
      exact ⟨rfl, HX.out, HV.out⟩
  case rest =>
  obtain ⟨hz, hxl, hbe⟩ := hcut
  subst hz
  rename World => w9
  clear p0 p1 p2 p3 ps
  replace HXl := Lib.hid hxl
  clear hxl
  replace HXp := Lib.hid (HVp.out.below hbe)
  clear HVp
  replace HXaa := Lib.hid (HVaa.out.below hbe)
  clear HVaa
  replace HXb := Lib.hid (HVb.out.below hbe)
  clear HVb
  replace HXc := Lib.hid (HVc.out.below hbe)
  clear HVc
  replace HXd := Lib.hid (HVd.out.below hbe)
  clear HVd
  replace HXz := Lib.hid (HVz.out.below hbe)
  clear HVz
  replace HB := Lib.hid (below_trans HVB.out hbe)
  clear HVB HV hbe
  obtain ⟨aa0, aa1, aa2, aa3⟩ := HXaa.out.c4
  have aas := HXaa.out.1
  obtain ⟨l0, l1, l2, l3⟩ := HXl.out.c4
  have ls := HXl.out.1
  obtain ⟨p0, p1, p2, p3⟩ := HXp.out.c4
  have ps := HXp.out.1
  have hq1 := fun W => neq_yes (rfl : K = K) W
  have hq2 := HKQ.out
  go_upto_region 15 with (fail)
  clear hq1 hq2
  clear aa0 aa1 aa2 aa3 aas l0 l1 l2 l3 ls p0 p1 p2 p3 ps
  obtain ⟨p0, p1, p2, p3⟩ := HXp.out.c4
  have ps := HXp.out.1
  have hx := Box.made w9 [.int .i64 p.a, .int .i64 p.c, .int .i64 t, .int .i64 1] 23
  have hz2 := al w9 (.cells #[.int .i64 p.a, .int .i64 p.c, .int .i64 t, .int .i64 1] 23)
  obtain ⟨w10, hw⟩ : ∃ W, w9.alloc (.cells #[.int .i64 p.a, .int .i64 p.c, .int .i64 t, .int .i64 1] 23) = W := ⟨_, rfl⟩
  replace HXp : Hid (Box w.heap.size [.int .i64 p.a, .int .i64 p.c, .int .i64 p.u, .int .i64 p.s] w10) := Lib.hid (hw ▸ HXp.out.below hz2)
  replace HXaa : Hid (Box v1.heap.size [.int .i64 K.a, .int .i64 K.c, .int .i64 K.u, .int .i64 K.s] w10) := Lib.hid (hw ▸ HXaa.out.below hz2)
  replace HXb : Hid (Box v2.heap.size [.int .i64 B.a, .int .i64 B.c, .int .i64 B.u, .int .i64 B.s] w10) := Lib.hid (hw ▸ HXb.out.below hz2)
  replace HXc : Hid (Box v3.heap.size [.int .i64 C.a, .int .i64 C.c, .int .i64 C.u, .int .i64 C.s] w10) := Lib.hid (hw ▸ HXc.out.below hz2)
  replace HXd : Hid (Box v4.heap.size [.int .i64 D.a, .int .i64 D.c, .int .i64 D.u, .int .i64 D.s] w10) := Lib.hid (hw ▸ HXd.out.below hz2)
  replace HXz : Hid (Box w4.heap.size [.int .i64 0, .int .i64 0, .int .i64 0, .int .i64 0] w10) := Lib.hid (hw ▸ HXz.out.below hz2)
  replace HXl : Hid (Box w7.heap.size [.int .i64 K.a, .int .i64 K.c, .int .i64 K.u, .int .i64 K.s] w10) := Lib.hid (hw ▸ HXl.out.below hz2)
  have HXr : Hid (Box w9.heap.size [.int .i64 p.a, .int .i64 p.c, .int .i64 t, .int .i64 1] w10) := Lib.hid (hw ▸ hx)
  replace HB : Hid (Below w.heap.size w w10) := Lib.hid (hw ▸ below_trans HB.out hz2)
  clear hz2 hx
  go_upto_region 17 with (fail)
  clear hw
  clear p0 p1 p2 p3 ps
  obtain ⟨p0, p1, p2, p3⟩ := HXp.out.c4
  have ps := HXp.out.1
  have hin := in_any t 0 1099511627776
  have HBT : Hid (inB t 0 1099511627776 = true ↔ TimeP t) := Lib.hid inB_t
  generalize inB t 0 1099511627776 = bt at *
  have HIN := Lib.hid hin
  clear hin
  go_upto_if 123 with (go_at_call 12; (with_reducible refine (HIN.out _).mono ?_); rintro e w' ⟨rfl, rfl⟩)
  go_cut [21] from 103 to 126 (fun z wx => z = .int .i64 f ∧ wx = w10)
  case first =>
    rcases HRN.out with ⟨h1, h2, _⟩ | ⟨h1, h2, h3, _⟩ | ⟨h1, h2, h3, _⟩
    · have hb : bt = false := by cases hb : bt with | false => rfl | true => exact absurd (HBT.out.1 hb) h1
      subst hb
      have HF := Lib.hid h2
      clear h1 h2
      go_wp2_with fail
      go_meet
      exact ⟨by rw [HF.out], rfl⟩
    · have hb : bt = true := HBT.out.2 h1
      subst hb
      have a1 : (p.s != 2) = true := by simpa using h2
      have HF := Lib.hid h3
      clear h1 h2 h3
      go_wp2_with fail
      go_meet
      exact ⟨by rw [HF.out], rfl⟩
    · have hb : bt = true := HBT.out.2 h1
      subst hb
      have a1 : (p.s != 2) = false := by simpa using h2
      have HF := Lib.hid h3
      clear h1 h2 h3
      go_wp2_with fail
      go_meet
      exact ⟨by rw [HF.out], rfl⟩
  case rest =>
  obtain ⟨hz, hw⟩ := hcut
  subst hz
  rw [hw]
  clear hw
  clear p0 p1 p2 p3 ps
  go_upto_region 21 with (fail)
  obtain ⟨b0, b1, b2, b3⟩ := HXb.out.c4
  have bs := HXb.out.1
  obtain ⟨r0, r1, r2, r3⟩ := HXr.out.c4
  have rs := HXr.out.1
  obtain ⟨z0, z1, z2, z3⟩ := HXz.out.c4
  have zs := HXz.out.1
  go_cut [147] from 127 to 147 (fun z wx => z = .bool false ∧ wx = w10)
  case first =>
    rcases HRT.out with ⟨h1, h2⟩ | ⟨h1, h2⟩
    · have hq := fun W => neq_yes h2 W
      dsimp only at hq
      have b1 : (f == 0) = true := by simpa using h1
      have b2 : (f != 0) = false := by simpa using h1
      clear h1 h2
      go_wp2_with fail
      go_meet
      exact ⟨rfl, rfl⟩
    · have hq := fun W => neq_yes h2 W
      unfold noP at hq
      dsimp only at hq
      have b1 : (f == 0) = false := by simpa using h1
      have b2 : (f != 0) = true := by simpa using h1
      clear h1 h2
      go_wp2_with fail
      go_meet
      exact ⟨rfl, rfl⟩
  case rest =>
  obtain ⟨hz, hw⟩ := hcut
  subst hz
  rw [hw]
  clear hw
  clear b0 b1 b2 b3 bs r0 r1 r2 r3 rs z0 z1 z2 z3 zs
  go_upto_region 23 with (fail)
  obtain ⟨cn, hcn⟩ : ∃ z, wrap64 (p.c + n) = z := ⟨_, rfl⟩
  rw [hcn] at HCT
  obtain ⟨p0, p1, p2, p3⟩ := HXp.out.c4
  have ps := HXp.out.1
  have hx := Box.made w10 [.int .i64 p.a, .int .i64 cn, .int .i64 p.u, .int .i64 p.s] 23
  have hz2 := al w10 (.cells #[.int .i64 p.a, .int .i64 cn, .int .i64 p.u, .int .i64 p.s] 23)
  obtain ⟨w11, hw⟩ : ∃ W, w10.alloc (.cells #[.int .i64 p.a, .int .i64 cn, .int .i64 p.u, .int .i64 p.s] 23) = W := ⟨_, rfl⟩
  replace HXp : Hid (Box w.heap.size [.int .i64 p.a, .int .i64 p.c, .int .i64 p.u, .int .i64 p.s] w11) := Lib.hid (hw ▸ HXp.out.below hz2)
  replace HXaa : Hid (Box v1.heap.size [.int .i64 K.a, .int .i64 K.c, .int .i64 K.u, .int .i64 K.s] w11) := Lib.hid (hw ▸ HXaa.out.below hz2)
  replace HXb : Hid (Box v2.heap.size [.int .i64 B.a, .int .i64 B.c, .int .i64 B.u, .int .i64 B.s] w11) := Lib.hid (hw ▸ HXb.out.below hz2)
  replace HXc : Hid (Box v3.heap.size [.int .i64 C.a, .int .i64 C.c, .int .i64 C.u, .int .i64 C.s] w11) := Lib.hid (hw ▸ HXc.out.below hz2)
  replace HXd : Hid (Box v4.heap.size [.int .i64 D.a, .int .i64 D.c, .int .i64 D.u, .int .i64 D.s] w11) := Lib.hid (hw ▸ HXd.out.below hz2)
  replace HXz : Hid (Box w4.heap.size [.int .i64 0, .int .i64 0, .int .i64 0, .int .i64 0] w11) := Lib.hid (hw ▸ HXz.out.below hz2)
  replace HXl : Hid (Box w7.heap.size [.int .i64 K.a, .int .i64 K.c, .int .i64 K.u, .int .i64 K.s] w11) := Lib.hid (hw ▸ HXl.out.below hz2)
  replace HXr : Hid (Box w9.heap.size [.int .i64 p.a, .int .i64 p.c, .int .i64 t, .int .i64 1] w11) := Lib.hid (hw ▸ HXr.out.below hz2)
  have HXq : Hid (Box w10.heap.size [.int .i64 p.a, .int .i64 cn, .int .i64 p.u, .int .i64 p.s] w11) := Lib.hid (hw ▸ hx)
  replace HB : Hid (Below w.heap.size w w11) := Lib.hid (hw ▸ below_trans HB.out hz2)
  clear hz2 hx
  go_upto_block 0 with (fail)
  clear hw
  clear p0 p1 p2 p3 ps
  obtain ⟨p0, p1, p2, p3⟩ := HXp.out.c4
  have ps := HXp.out.1
  clear hcn
  go_cut [21] from 148 to 168 (fun z wx => z = .int .i64 g ∧ wx = w11)
  case first =>
    have hsub : IntKind.i64.wrap (p.a - p.c) = p.a - p.c := IntWalk.i64_in _ (by have := HAM.out; omega)
    rcases HCN.out with ⟨h1, h2, _⟩ | ⟨h0, h1, h2, _⟩ | ⟨h0, h1, h3, h2, _⟩ | ⟨h0, h1, h3, h2, _⟩
    · have a1 : n < 0 := by omega
      have HF := Lib.hid h2
      clear h1 h2
      go_wp2_with fail
      go_meet
      exact ⟨by rw [HF.out], rfl⟩
    · have a1 : ¬ n < 0 := by omega
      have a2 : (p.s == 3) = true := by simpa using h1
      have HF := Lib.hid h2
      clear h0 h1 h2
      go_wp2_with fail
      go_meet
      exact ⟨by rw [HF.out], rfl⟩
    · have a1 : ¬ n < 0 := by omega
      have a2 : (p.s == 3) = false := by simpa using h1
      have a3 : n > p.a - p.c := h3
      have HF := Lib.hid h2
      clear h0 h1 h2 h3
      go_wp2_with fail
      go_meet
      exact ⟨by rw [HF.out], rfl⟩
    · have a1 : ¬ n < 0 := by omega
      have a2 : (p.s == 3) = false := by simpa using h1
      have a3 : ¬ n > p.a - p.c := by omega
      have HF := Lib.hid h2
      clear h0 h1 h2 h3
      go_wp2_with fail
      go_meet
      exact ⟨by rw [HF.out], rfl⟩
  case rest =>
  obtain ⟨hz, hw⟩ := hcut
  subst hz
  rw [hw]
  clear hw
  clear p0 p1 p2 p3 ps
  go_upto_region 32 with (fail)
  obtain ⟨c0, c1, c2, c3⟩ := HXc.out.c4
  have cs := HXc.out.1
  obtain ⟨q0, q1, q2, q3⟩ := HXq.out.c4
  have qs := HXq.out.1
  obtain ⟨z0, z1, z2, z3⟩ := HXz.out.c4
  have zs := HXz.out.1
  go_cut [189] from 169 to 189 (fun z wx => z = .bool false ∧ wx = w11)
  case first =>
    rcases HCT.out with ⟨h1, h2⟩ | ⟨h1, h2⟩
    · have hq := fun W => neq_yes h2 W
      dsimp only at hq
      have b1 : (g == 0) = true := by simpa using h1
      have b2 : (g != 0) = false := by simpa using h1
      clear h1 h2
      go_wp2_with fail
      go_meet
      exact ⟨rfl, rfl⟩
    · have hq := fun W => neq_yes h2 W
      unfold noP at hq
      dsimp only at hq
      have b1 : (g == 0) = false := by simpa using h1
      have b2 : (g != 0) = true := by simpa using h1
      clear h1 h2
      go_wp2_with fail
      go_meet
      exact ⟨rfl, rfl⟩
  case rest =>
  obtain ⟨hz, hw⟩ := hcut
  subst hz
  rw [hw]
  clear hw
  clear c0 c1 c2 c3 cs q0 q1 q2 q3 qs z0 z1 z2 z3 zs
  go_upto_region 34 with (fail)
  obtain ⟨p0, p1, p2, p3⟩ := HXp.out.c4
  have ps := HXp.out.1
  have hx := Box.made w11 [.int .i64 p.a, .int .i64 p.c, .int .i64 p.u, .int .i64 3] 23
  have hz2 := al w11 (.cells #[.int .i64 p.a, .int .i64 p.c, .int .i64 p.u, .int .i64 3] 23)
  obtain ⟨w12, hw⟩ : ∃ W, w11.alloc (.cells #[.int .i64 p.a, .int .i64 p.c, .int .i64 p.u, .int .i64 3] 23) = W := ⟨_, rfl⟩
  replace HXp : Hid (Box w.heap.size [.int .i64 p.a, .int .i64 p.c, .int .i64 p.u, .int .i64 p.s] w12) := Lib.hid (hw ▸ HXp.out.below hz2)
  replace HXaa : Hid (Box v1.heap.size [.int .i64 K.a, .int .i64 K.c, .int .i64 K.u, .int .i64 K.s] w12) := Lib.hid (hw ▸ HXaa.out.below hz2)
  replace HXb : Hid (Box v2.heap.size [.int .i64 B.a, .int .i64 B.c, .int .i64 B.u, .int .i64 B.s] w12) := Lib.hid (hw ▸ HXb.out.below hz2)
  replace HXc : Hid (Box v3.heap.size [.int .i64 C.a, .int .i64 C.c, .int .i64 C.u, .int .i64 C.s] w12) := Lib.hid (hw ▸ HXc.out.below hz2)
  replace HXd : Hid (Box v4.heap.size [.int .i64 D.a, .int .i64 D.c, .int .i64 D.u, .int .i64 D.s] w12) := Lib.hid (hw ▸ HXd.out.below hz2)
  replace HXz : Hid (Box w4.heap.size [.int .i64 0, .int .i64 0, .int .i64 0, .int .i64 0] w12) := Lib.hid (hw ▸ HXz.out.below hz2)
  replace HXl : Hid (Box w7.heap.size [.int .i64 K.a, .int .i64 K.c, .int .i64 K.u, .int .i64 K.s] w12) := Lib.hid (hw ▸ HXl.out.below hz2)
  replace HXr : Hid (Box w9.heap.size [.int .i64 p.a, .int .i64 p.c, .int .i64 t, .int .i64 1] w12) := Lib.hid (hw ▸ HXr.out.below hz2)
  replace HXq : Hid (Box w10.heap.size [.int .i64 p.a, .int .i64 cn, .int .i64 p.u, .int .i64 p.s] w12) := Lib.hid (hw ▸ HXq.out.below hz2)
  have HXe : Hid (Box w11.heap.size [.int .i64 p.a, .int .i64 p.c, .int .i64 p.u, .int .i64 3] w12) := Lib.hid (hw ▸ hx)
  replace HB : Hid (Below w.heap.size w w12) := Lib.hid (hw ▸ below_trans HB.out hz2)
  clear hz2 hx
  go_upto_region 36 with (fail)
  clear hw
  clear p0 p1 p2 p3 ps
  obtain ⟨p0, p1, p2, p3⟩ := HXp.out.c4
  have ps := HXp.out.1
  obtain ⟨d0, d1, d2, d3⟩ := HXd.out.c4
  have ds := HXd.out.1
  obtain ⟨e0, e1, e2, e3⟩ := HXe.out.c4
  have es := HXe.out.1
  obtain ⟨z0, z1, z2, z3⟩ := HXz.out.c4
  have zs := HXz.out.1
  rcases HCL.out with ⟨h1, h2, h3⟩ | ⟨h1, h2, h3⟩
  · have a1 : (p.s == 3) = true := by simpa using h1
    have a2 : (h == 10) = true := by simpa using h2
    have hq := fun W => eql_yes h3 W
    unfold noP at hq
    dsimp only at hq
    clear h1 h2 h3
    go_wp2_with fail
    go_ret
    exact ⟨rfl, HB.out⟩
  · have a1 : (p.s == 3) = false := by simpa using h1
    have a2 : (h == 0) = true := by simpa using h2
    have hq := fun W => eql_yes h3 W
    dsimp only at hq
    clear h1 h2 h3
    go_wp2_with fail
    go_ret
    exact ⟨rfl, HB.out⟩
theorem walk0 (p : Py) (now : Int) (_n1 : -9223372036854775808 ≤ now) (_n2 : now ≤ 9223372036854775807) (t : Int) (_t1 : -9223372036854775808 ≤ t) (_t2 : t ≤ 9223372036854775807) (n : Int) (_m1 : -9223372036854775808 ≤ n) (_m2 : n ≤ 9223372036854775807) (w : World) :
    Calls Try.prog 4 #[pv p, .int .i64 now, .int .i64 t, .int .i64 n] w (BoolB true w) := by
  cases hr : rightB p with
  | false => exact bad p hr now _n1 _n2 t _t1 _t2 n _m1 _m2 w
  | true => exact good p hr now _n1 _n2 t _t1 _t2 n _m1 _m2 w

set_option maxRecDepth 100000 in
set_option maxHeartbeats 4000000 in
theorem lifted (os : Os) (started : os.Started) (H : Type) (enc : TypeId × Value → H) :
    ReturnsInHanded {} Try.checked os 4 .any (Rows.payGoesSpec.pre6 enc Try.prog Try.f4 Rows.payGoesRow.domain false) (Rows.payGoesSpec.post enc Try.prog Try.f4 false true false false) := by
  refine returnsInHanded_of_change (C := Try.checked) own started (by kernel_rfl) Try.func4
    (ChangeSpec.witness6 (enc := enc) (C := Try.checked) false ⟨#[], #[.agg #[.int .i64 0, .int .i64 0, .int .i64 0, .int .i64 0], .int .i64 0, .int .i64 0, .int .i64 0], []⟩ 8 (by kernel_rfl) (by kernel_rfl) (by kernel_rfl) (by kernel_rfl)) ?_
  intro W base args ds gs before hval0 hW hcnd _
  have hval : ∀ (j : Nat) t v, Try.f4.params[j]? = some t → args[j]? = some v → Value.okWide Try.prog W .any base t v := hval0
  have hW' := hW
  obtain ⟨p, q, hA0, hV, rfl, hfz, hnd⟩ := hW
  have hA : DataW.TrodAll enc Try.prog W 0 (fun _ => true) true Try.f4.params.toList args.toList ds p := hA0
  rw [Try.params4] at hA hval
  obtain ⟨v0, vs0, d0, ds0, p0, q0, hargs, rfl, rfl, h0, r0⟩ := trodAll_cons hA
  obtain ⟨v1, vs1, d1, ds1, p1, q1, rfl, rfl, rfl, h1, r1⟩ := trodAll_cons r0
  obtain ⟨v2, vs2, d2, ds2, p2, q2, rfl, rfl, rfl, h2, r2⟩ := trodAll_cons r1
  obtain ⟨v3, vs3, d3, ds3, p3, q3, rfl, rfl, rfl, h3, r3⟩ := trodAll_cons r2
  obtain ⟨rfl, rfl, rfl⟩ := trodAll_nil r3
  obtain rfl : args = #[v0, v1, v2, v3] := by cases args; simp_all
  obtain ⟨rfl, rfl⟩ := trodVars_none hV
  have k0 := h0
  have lt0 : ∀ x ∈ p0, x.block < W.heap.size := by obtain ⟨m, hm⟩ := k0; exact DataW.trod_lt m _ _ _ hm
  obtain ⟨fuel0, hf0⟩ := h0
  obtain ⟨x0, rfl⟩ := open_pay (hval 0 23 v0 rfl rfl) hf0
  obtain ⟨a1, rfl, rfl, rfl, w1⟩ := open_int Try.underlying3 (hval 1 3 v1 rfl rfl) h1
  have hb1 : -9223372036854775808 ≤ a1 ∧ a1 ≤ 9223372036854775807 := by
    have := w1
    simp [Lit.wf, IntKind.min, IntKind.max, IntKind.bits, IntKind.signed] at this
    omega
  obtain ⟨a2, rfl, rfl, rfl, w2⟩ := open_int Try.underlying3 (hval 2 3 v2 rfl rfl) h2
  have hb2 : -9223372036854775808 ≤ a2 ∧ a2 ≤ 9223372036854775807 := by
    have := w2
    simp [Lit.wf, IntKind.min, IntKind.max, IntKind.bits, IntKind.signed] at this
    omega
  obtain ⟨a3, rfl, rfl, rfl, w3⟩ := open_int Try.underlying3 (hval 3 3 v3 rfl rfl) h3
  have hb3 : -9223372036854775808 ≤ a3 ∧ a3 ≤ 9223372036854775807 := by
    have := w3
    simp [Lit.wf, IntKind.min, IntKind.max, IntKind.bits, IntKind.signed] at this
    omega
  clear hA0 hval0
  refine (walk0 x0 a1 hb1.1 hb1.2 a2 hb2.1 hb2.2 a3 hb3.1 hb3.2 W ).mono fun e W' ⟨he, bel⟩ => ?_
  subst he
  exact ⟨_, rfl, _, _, _, [], _, [], hW', trodAll_mk1 (shut_bool Try.underlying4 _), (trodAll_cons_mk (Below.trod laidOut (by kernel_rfl) (of_decide_eq_true (by kernel_rfl)) k0 bel lt0) (trodAll_cons_mk (shut_int Try.underlying3 w1) (trodAll_cons_mk (shut_int Try.underlying3 w2) (trodAll_cons_mk (shut_int Try.underlying3 w3) trodAll_mk0)))), rfl, bel.frame _, fun h => by cases h⟩

theorem over : Rows.payGoesRow.holds Try.pinned (OpenSpec.ofChange Rows.payGoesSpec) :=
  OpenClaim.holds_of_wide 4 Try.f4 rfl rfl rfl rfl rfl rfl rfl ⟨rfl, rfl, rfl, rfl, rfl⟩ rfl rfl rfl rfl rfl (by kernel_rfl) Try.func4 (by kernel_rfl)
    (of_decide_eq_true (by kernel_rfl)) (by unfold Func.isWrapper; first | (rw [if_pos (by decide +kernel)]; kernel_rfl) | (rw [if_neg (by decide +kernel)]; exact ⟨rfl, rfl⟩))
    (fun os started H enc _ => lifted os started H enc)

theorem proved : Rows.PayGoesSaid := over
#print axioms proved
end Go.Proofs.Ytfegnaafodcnlaa.payGoes
