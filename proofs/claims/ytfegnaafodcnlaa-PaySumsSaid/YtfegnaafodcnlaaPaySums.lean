/-
  Proved: for any money, two numbers and a time the law PaySums returns true: what is caught in two parts is caught as in one; what is closed catches no more, and what lapsed just as before. No condition.
-/
import Derived.Test.YtfegnaafodcnlaaRows
import Derived.Test.YtfegnaafodcnlaaPFew
namespace Go.Proofs.Ytfegnaafodcnlaa.paySums
open Go.ChangeShapes Go.WideShapes Go.ChangeAt Go.RowKit Go.Lib Go.Proofs.Ytfegnaafodcnlaa.Pay
set_option linter.unusedVariables false

theorem own : ownKnob Try.prog.godebug = none := by kernel_rfl
theorem laidOut : laidOutB Try.prog = true := by kernel_rfl

set_option maxRecDepth 100000 in
set_option maxHeartbeats 8000000 in
theorem walk0 (p : Py) (a : Int) (_a1 : -9223372036854775808 ≤ a) (_a2 : a ≤ 9223372036854775807) (b : Int) (_b1 : -9223372036854775808 ≤ b) (_b2 : b ≤ 9223372036854775807) (now : Int) (_n1 : -9223372036854775808 ≤ now) (_n2 : now ≤ 9223372036854775807) (w : World) :
    Calls Try.prog 6 #[pv p, .int .i64 a, .int .i64 b, .int .i64 now] w (BoolB true w) := by
  have hx := Box.made w [.int .i64 p.a, .int .i64 p.c, .int .i64 p.u, .int .i64 p.s] 23
  have hb := al w (.cells #[.int .i64 p.a, .int .i64 p.c, .int .i64 p.u, .int .i64 p.s] 23)
  obtain ⟨w0, hw⟩ : ∃ W, w.alloc (.cells #[.int .i64 p.a, .int .i64 p.c, .int .i64 p.u, .int .i64 p.s] 23) = W := ⟨_, rfl⟩
  have HXp : Hid (Box w.heap.size [.int .i64 p.a, .int .i64 p.c, .int .i64 p.u, .int .i64 p.s] w0) := Lib.hid (hw ▸ hx)
  have HB : Hid (Below w.heap.size w w0) := Lib.hid (hw ▸ hb)
  clear hx hb
  unfold pv
  go_enter Try.func6, Try.ntmps6
  go_upto_region 1 with (fail)
  clear hw
  go_upto_region 2 with (fail)
  obtain ⟨a0, a9⟩ := tmod_bd (m := 1000) a (by omega) (by omega)
  obtain ⟨b0, b9⟩ := tmod_bd (m := 1000) b (by omega) (by omega)
  generalize (wrap64 (a.tmod 1000 + 1000)).tmod 1000 = A at *
  generalize (wrap64 (b.tmod 1000 + 1000)).tmod 1000 = B at *
  clear _a1 _a2 _b1 _b2
  obtain ⟨U, hu⟩ : ∃ u, A + B = u := ⟨_, rfl⟩
  have HAB : Hid (0 ≤ A ∧ A ≤ 999 ∧ 0 ≤ B ∧ B ≤ 999) := Lib.hid (by omega)
  have u1 : 0 ≤ U := by omega
  have u2 : U ≤ 1998 := by omega
  have HAL := Lib.hid alive_any
  have h1 := Catch_any p A (by omega)
  have h2 := Catch_any p U (by omega)
  have hL := Lib.hid (fun h => cat_less (p := p) (a := A) (b := B) b0 a0 h)
  have hT := Lib.hid (fun h => cat_two (p := p) (a := A) (b := B) a0 b0 h)
  rw [hu] at hL hT
  have h3 := Catch_any (catO p A) B (by omega)
  have h4 := Lapse_any p now
  have h5 := Catch_any (lapO p now) A (by omega)
  have h6 := Close_any p
  have h7 := Catch_any (cloO p) 0 (by omega)
  by_cases hz0 : catE p A = 0
  · have hok := hT.out hz0
    obtain ⟨m1, m2, m3⟩ := cat_lapsed (p := p) (a := A) (t := now) hz0
    obtain ⟨n1, _, _, n4, n5, _⟩ := cat_keeps hz0
    obtain ⟨n6, n7⟩ := cat_closed n4 n1
    have n8 : (catO p A).c = p.c + A := by rw [n5]
    rw [hok.1, hok.2] at h3
    rw [hz0] at h1
    rw [m1] at h4
    rw [m2] at h5
    rw [n6] at h6
    rw [n7] at h7
    have hcc : (catO (lapO p now) A).c = (catO p A).c := m3.trans n8.symm
    generalize catO (lapO p now) A = O at *
    generalize catO (cloO p) 0 = R at *
    generalize catO p A = X at *
    generalize catO p U = Z at *
    generalize catE p U = f at *
    generalize lapO p now = K at *
    generalize lapB p now = kb at *
    generalize cloO p = C at *
    have hcq : (O.c == X.c) = true := by rw [hcc]; simp
    clear hok m1 m2 m3 n1 n4 n5 n6 n7 n8 hcc hz0 hL hT
    have HQ := Lib.hid (neq_pay Z Z)
    simp only [decide_true, Bool.not_true] at HQ
    have H1 := Lib.hid h1
    have H2 := Lib.hid h2
    have H3 := Lib.hid h3
    have H4 := Lib.hid h4
    have H5 := Lib.hid h5
    have H6 := Lib.hid h6
    have H7 := Lib.hid h7
    clear h1 h2 h3 h4 h5 h6 h7
    unfold pv at *
    obtain ⟨p0, p1, p2, p3⟩ := HXp.out.c4
    have ps := HXp.out.1
    go_wp2_with fail
    (with_reducible refine (H1.out _).mono ?_)
    rintro e v1 ⟨rfl, hz⟩
    have hx := Box.made v1 [.int .i64 X.a, .int .i64 X.c, .int .i64 X.u, .int .i64 X.s] 23
    have hz2 := below_trans hz (al v1 (.cells #[.int .i64 X.a, .int .i64 X.c, .int .i64 X.u, .int .i64 X.s] 23))
    obtain ⟨w1, hw⟩ : ∃ W, v1.alloc (.cells #[.int .i64 X.a, .int .i64 X.c, .int .i64 X.u, .int .i64 X.s] 23) = W := ⟨_, rfl⟩
    replace HXp : Hid (Box w.heap.size [.int .i64 p.a, .int .i64 p.c, .int .i64 p.u, .int .i64 p.s] w1) := Lib.hid (hw ▸ HXp.out.below hz2)
    have HXx : Hid (Box v1.heap.size [.int .i64 X.a, .int .i64 X.c, .int .i64 X.u, .int .i64 X.s] w1) := Lib.hid (hw ▸ hx)
    replace HB : Hid (Below w.heap.size w w1) := Lib.hid (hw ▸ below_trans HB.out hz2)
    clear hz hx hz2
    clear p0 p1 p2 p3 ps
    unfold pv
    go_upto_region 3 with (fail)
    clear hw
    obtain ⟨p0, p1, p2, p3⟩ := HXp.out.c4
    have ps := HXp.out.1
    go_wp2_with fail
    (with_reducible refine (H2.out _).mono ?_)
    rintro e v2 ⟨rfl, hz⟩
    have hx := Box.made v2 [.int .i64 Z.a, .int .i64 Z.c, .int .i64 Z.u, .int .i64 Z.s] 23
    have hz2 := below_trans hz (al v2 (.cells #[.int .i64 Z.a, .int .i64 Z.c, .int .i64 Z.u, .int .i64 Z.s] 23))
    obtain ⟨w2, hw⟩ : ∃ W, v2.alloc (.cells #[.int .i64 Z.a, .int .i64 Z.c, .int .i64 Z.u, .int .i64 Z.s] 23) = W := ⟨_, rfl⟩
    replace HXp : Hid (Box w.heap.size [.int .i64 p.a, .int .i64 p.c, .int .i64 p.u, .int .i64 p.s] w2) := Lib.hid (hw ▸ HXp.out.below hz2)
    replace HXx : Hid (Box v1.heap.size [.int .i64 X.a, .int .i64 X.c, .int .i64 X.u, .int .i64 X.s] w2) := Lib.hid (hw ▸ HXx.out.below hz2)
    have HXz : Hid (Box v2.heap.size [.int .i64 Z.a, .int .i64 Z.c, .int .i64 Z.u, .int .i64 Z.s] w2) := Lib.hid (hw ▸ hx)
    replace HB : Hid (Below w.heap.size w w2) := Lib.hid (hw ▸ below_trans HB.out hz2)
    clear hz hx hz2
    clear p0 p1 p2 p3 ps
    unfold pv
    go_upto_region 4 with (fail)
    clear hw
    go_upto_region 6 with (fail)
    obtain ⟨x0, x1, x2, x3⟩ := HXx.out.c4
    have xs := HXx.out.1
    go_wp2_with fail
    (with_reducible refine (H3.out _).mono ?_)
    rintro e v3 ⟨rfl, hz⟩
    have hx := Box.made v3 [.int .i64 Z.a, .int .i64 Z.c, .int .i64 Z.u, .int .i64 Z.s] 23
    have hz2 := below_trans hz (al v3 (.cells #[.int .i64 Z.a, .int .i64 Z.c, .int .i64 Z.u, .int .i64 Z.s] 23))
    obtain ⟨w3, hw⟩ : ∃ W, v3.alloc (.cells #[.int .i64 Z.a, .int .i64 Z.c, .int .i64 Z.u, .int .i64 Z.s] 23) = W := ⟨_, rfl⟩
    replace HXp : Hid (Box w.heap.size [.int .i64 p.a, .int .i64 p.c, .int .i64 p.u, .int .i64 p.s] w3) := Lib.hid (hw ▸ HXp.out.below hz2)
    replace HXx : Hid (Box v1.heap.size [.int .i64 X.a, .int .i64 X.c, .int .i64 X.u, .int .i64 X.s] w3) := Lib.hid (hw ▸ HXx.out.below hz2)
    replace HXz : Hid (Box v2.heap.size [.int .i64 Z.a, .int .i64 Z.c, .int .i64 Z.u, .int .i64 Z.s] w3) := Lib.hid (hw ▸ HXz.out.below hz2)
    have HXy : Hid (Box v3.heap.size [.int .i64 Z.a, .int .i64 Z.c, .int .i64 Z.u, .int .i64 Z.s] w3) := Lib.hid (hw ▸ hx)
    replace HB : Hid (Below w.heap.size w w3) := Lib.hid (hw ▸ below_trans HB.out hz2)
    clear hz hx hz2
    clear x0 x1 x2 x3 xs
    unfold pv
    go_upto_region 7 with (fail)
    clear hw
    obtain ⟨y0, y1, y2, y3⟩ := HXy.out.c4
    have ys := HXy.out.1
    obtain ⟨z0, z1, z2, z3⟩ := HXz.out.c4
    have zs := HXz.out.1
    have hq := HQ.out
    go_wp2_with fail
    (with_reducible refine (HAL.out _).mono ?_)
    rintro e w4 ⟨rfl, hz⟩
    replace HXp : Hid (Box w.heap.size [.int .i64 p.a, .int .i64 p.c, .int .i64 p.u, .int .i64 p.s] w4) := Lib.hid (HXp.out.below hz)
    replace HXx : Hid (Box v1.heap.size [.int .i64 X.a, .int .i64 X.c, .int .i64 X.u, .int .i64 X.s] w4) := Lib.hid (HXx.out.below hz)
    replace HXz : Hid (Box v2.heap.size [.int .i64 Z.a, .int .i64 Z.c, .int .i64 Z.u, .int .i64 Z.s] w4) := Lib.hid (HXz.out.below hz)
    replace HXy : Hid (Box v3.heap.size [.int .i64 Z.a, .int .i64 Z.c, .int .i64 Z.u, .int .i64 Z.s] w4) := Lib.hid (HXy.out.below hz)
    replace HB : Hid (Below w.heap.size w w4) := Lib.hid (below_trans HB.out hz)
    clear hz
    clear y0 y1 y2 y3 ys z0 z1 z2 z3 zs
    clear hq
    obtain ⟨p0, p1, p2, p3⟩ := HXp.out.c4
    have ps := HXp.out.1
    go_wp2_with fail
    (with_reducible refine (H4.out _).mono ?_)
    rintro e v5 ⟨rfl, hz⟩
    have hx := Box.made v5 [.int .i64 K.a, .int .i64 K.c, .int .i64 K.u, .int .i64 K.s] 23
    have hz2 := below_trans hz (al v5 (.cells #[.int .i64 K.a, .int .i64 K.c, .int .i64 K.u, .int .i64 K.s] 23))
    obtain ⟨w5, hw⟩ : ∃ W, v5.alloc (.cells #[.int .i64 K.a, .int .i64 K.c, .int .i64 K.u, .int .i64 K.s] 23) = W := ⟨_, rfl⟩
    replace HXp : Hid (Box w.heap.size [.int .i64 p.a, .int .i64 p.c, .int .i64 p.u, .int .i64 p.s] w5) := Lib.hid (hw ▸ HXp.out.below hz2)
    replace HXx : Hid (Box v1.heap.size [.int .i64 X.a, .int .i64 X.c, .int .i64 X.u, .int .i64 X.s] w5) := Lib.hid (hw ▸ HXx.out.below hz2)
    replace HXz : Hid (Box v2.heap.size [.int .i64 Z.a, .int .i64 Z.c, .int .i64 Z.u, .int .i64 Z.s] w5) := Lib.hid (hw ▸ HXz.out.below hz2)
    replace HXy : Hid (Box v3.heap.size [.int .i64 Z.a, .int .i64 Z.c, .int .i64 Z.u, .int .i64 Z.s] w5) := Lib.hid (hw ▸ HXy.out.below hz2)
    have HXk : Hid (Box v5.heap.size [.int .i64 K.a, .int .i64 K.c, .int .i64 K.u, .int .i64 K.s] w5) := Lib.hid (hw ▸ hx)
    replace HB : Hid (Below w.heap.size w w5) := Lib.hid (hw ▸ below_trans HB.out hz2)
    clear hz hx hz2
    clear p0 p1 p2 p3 ps
    unfold pv
    go_upto_region 10 with (fail)
    clear hw
    obtain ⟨k0, k1, k2, k3⟩ := HXk.out.c4
    have ks := HXk.out.1
    go_wp2_with fail
    (with_reducible refine (H5.out _).mono ?_)
    rintro e v6 ⟨rfl, hz⟩
    have hx := Box.made v6 [.int .i64 O.a, .int .i64 O.c, .int .i64 O.u, .int .i64 O.s] 23
    have hz2 := below_trans hz (al v6 (.cells #[.int .i64 O.a, .int .i64 O.c, .int .i64 O.u, .int .i64 O.s] 23))
    obtain ⟨w6, hw⟩ : ∃ W, v6.alloc (.cells #[.int .i64 O.a, .int .i64 O.c, .int .i64 O.u, .int .i64 O.s] 23) = W := ⟨_, rfl⟩
    replace HXp : Hid (Box w.heap.size [.int .i64 p.a, .int .i64 p.c, .int .i64 p.u, .int .i64 p.s] w6) := Lib.hid (hw ▸ HXp.out.below hz2)
    replace HXx : Hid (Box v1.heap.size [.int .i64 X.a, .int .i64 X.c, .int .i64 X.u, .int .i64 X.s] w6) := Lib.hid (hw ▸ HXx.out.below hz2)
    replace HXz : Hid (Box v2.heap.size [.int .i64 Z.a, .int .i64 Z.c, .int .i64 Z.u, .int .i64 Z.s] w6) := Lib.hid (hw ▸ HXz.out.below hz2)
    replace HXy : Hid (Box v3.heap.size [.int .i64 Z.a, .int .i64 Z.c, .int .i64 Z.u, .int .i64 Z.s] w6) := Lib.hid (hw ▸ HXy.out.below hz2)
    replace HXk : Hid (Box v5.heap.size [.int .i64 K.a, .int .i64 K.c, .int .i64 K.u, .int .i64 K.s] w6) := Lib.hid (hw ▸ HXk.out.below hz2)
    have HXo : Hid (Box v6.heap.size [.int .i64 O.a, .int .i64 O.c, .int .i64 O.u, .int .i64 O.s] w6) := Lib.hid (hw ▸ hx)
    replace HB : Hid (Below w.heap.size w w6) := Lib.hid (hw ▸ below_trans HB.out hz2)
    clear hz hx hz2
    clear k0 k1 k2 k3 ks
    unfold pv
    go_upto_region 11 with (fail)
    clear hw
    obtain ⟨p0, p1, p2, p3⟩ := HXp.out.c4
    have ps := HXp.out.1
    go_wp2_with fail
    (with_reducible refine (H6.out _).mono ?_)
    rintro e v7 ⟨rfl, hz⟩
    have hx := Box.made v7 [.int .i64 C.a, .int .i64 C.c, .int .i64 C.u, .int .i64 C.s] 23
    have hz2 := below_trans hz (al v7 (.cells #[.int .i64 C.a, .int .i64 C.c, .int .i64 C.u, .int .i64 C.s] 23))
    obtain ⟨w7, hw⟩ : ∃ W, v7.alloc (.cells #[.int .i64 C.a, .int .i64 C.c, .int .i64 C.u, .int .i64 C.s] 23) = W := ⟨_, rfl⟩
    replace HXp : Hid (Box w.heap.size [.int .i64 p.a, .int .i64 p.c, .int .i64 p.u, .int .i64 p.s] w7) := Lib.hid (hw ▸ HXp.out.below hz2)
    replace HXx : Hid (Box v1.heap.size [.int .i64 X.a, .int .i64 X.c, .int .i64 X.u, .int .i64 X.s] w7) := Lib.hid (hw ▸ HXx.out.below hz2)
    replace HXz : Hid (Box v2.heap.size [.int .i64 Z.a, .int .i64 Z.c, .int .i64 Z.u, .int .i64 Z.s] w7) := Lib.hid (hw ▸ HXz.out.below hz2)
    replace HXy : Hid (Box v3.heap.size [.int .i64 Z.a, .int .i64 Z.c, .int .i64 Z.u, .int .i64 Z.s] w7) := Lib.hid (hw ▸ HXy.out.below hz2)
    replace HXk : Hid (Box v5.heap.size [.int .i64 K.a, .int .i64 K.c, .int .i64 K.u, .int .i64 K.s] w7) := Lib.hid (hw ▸ HXk.out.below hz2)
    replace HXo : Hid (Box v6.heap.size [.int .i64 O.a, .int .i64 O.c, .int .i64 O.u, .int .i64 O.s] w7) := Lib.hid (hw ▸ HXo.out.below hz2)
    have HXc : Hid (Box v7.heap.size [.int .i64 C.a, .int .i64 C.c, .int .i64 C.u, .int .i64 C.s] w7) := Lib.hid (hw ▸ hx)
    replace HB : Hid (Below w.heap.size w w7) := Lib.hid (hw ▸ below_trans HB.out hz2)
    clear hz hx hz2
    clear p0 p1 p2 p3 ps
    unfold pv
    go_upto_region 12 with (fail)
    clear hw
    obtain ⟨c0, c1, c2, c3⟩ := HXc.out.c4
    have cs := HXc.out.1
    go_wp2_with fail
    (with_reducible refine (H7.out _).mono ?_)
    rintro e v8 ⟨rfl, hz⟩
    have hx := Box.made v8 [.int .i64 R.a, .int .i64 R.c, .int .i64 R.u, .int .i64 R.s] 23
    have hz2 := below_trans hz (al v8 (.cells #[.int .i64 R.a, .int .i64 R.c, .int .i64 R.u, .int .i64 R.s] 23))
    obtain ⟨w8, hw⟩ : ∃ W, v8.alloc (.cells #[.int .i64 R.a, .int .i64 R.c, .int .i64 R.u, .int .i64 R.s] 23) = W := ⟨_, rfl⟩
    replace HXp : Hid (Box w.heap.size [.int .i64 p.a, .int .i64 p.c, .int .i64 p.u, .int .i64 p.s] w8) := Lib.hid (hw ▸ HXp.out.below hz2)
    replace HXx : Hid (Box v1.heap.size [.int .i64 X.a, .int .i64 X.c, .int .i64 X.u, .int .i64 X.s] w8) := Lib.hid (hw ▸ HXx.out.below hz2)
    replace HXz : Hid (Box v2.heap.size [.int .i64 Z.a, .int .i64 Z.c, .int .i64 Z.u, .int .i64 Z.s] w8) := Lib.hid (hw ▸ HXz.out.below hz2)
    replace HXy : Hid (Box v3.heap.size [.int .i64 Z.a, .int .i64 Z.c, .int .i64 Z.u, .int .i64 Z.s] w8) := Lib.hid (hw ▸ HXy.out.below hz2)
    replace HXk : Hid (Box v5.heap.size [.int .i64 K.a, .int .i64 K.c, .int .i64 K.u, .int .i64 K.s] w8) := Lib.hid (hw ▸ HXk.out.below hz2)
    replace HXo : Hid (Box v6.heap.size [.int .i64 O.a, .int .i64 O.c, .int .i64 O.u, .int .i64 O.s] w8) := Lib.hid (hw ▸ HXo.out.below hz2)
    replace HXc : Hid (Box v7.heap.size [.int .i64 C.a, .int .i64 C.c, .int .i64 C.u, .int .i64 C.s] w8) := Lib.hid (hw ▸ HXc.out.below hz2)
    have HXr : Hid (Box v8.heap.size [.int .i64 R.a, .int .i64 R.c, .int .i64 R.u, .int .i64 R.s] w8) := Lib.hid (hw ▸ hx)
    replace HB : Hid (Below w.heap.size w w8) := Lib.hid (hw ▸ below_trans HB.out hz2)
    clear hz hx hz2
    clear c0 c1 c2 c3 cs
    unfold pv
    go_upto_region 13 with (fail)
    clear hw
    obtain ⟨o0, o1, o2, o3⟩ := HXo.out.c4
    have os := HXo.out.1
    obtain ⟨x0, x1, x2, x3⟩ := HXx.out.c4
    have xs := HXx.out.1
    go_wp2_with fail
    go_ret
    exact ⟨rfl, HB.out⟩
  · have hno := hL.out hz0
    generalize catO p A = X at *
    generalize catO p U = Z at *
    generalize catE p U = f at *
    generalize catE p A = z at *
    have hz1 : (z != 0) = true := by simpa using hz0
    have hf1 : (f != 0) = true := by simpa using hno
    clear h3 h4 h5 h6 h7 hL hT hz0 hno
    have H1 := Lib.hid h1
    have H2 := Lib.hid h2
    clear h1 h2
    unfold pv at *
    obtain ⟨p0, p1, p2, p3⟩ := HXp.out.c4
    have ps := HXp.out.1
    go_wp2_with fail
    (with_reducible refine (H1.out _).mono ?_)
    rintro e v1 ⟨rfl, hz⟩
    have hx := Box.made v1 [.int .i64 X.a, .int .i64 X.c, .int .i64 X.u, .int .i64 X.s] 23
    have hz2 := below_trans hz (al v1 (.cells #[.int .i64 X.a, .int .i64 X.c, .int .i64 X.u, .int .i64 X.s] 23))
    obtain ⟨w1, hw⟩ : ∃ W, v1.alloc (.cells #[.int .i64 X.a, .int .i64 X.c, .int .i64 X.u, .int .i64 X.s] 23) = W := ⟨_, rfl⟩
    replace HXp : Hid (Box w.heap.size [.int .i64 p.a, .int .i64 p.c, .int .i64 p.u, .int .i64 p.s] w1) := Lib.hid (hw ▸ HXp.out.below hz2)
    have HXx : Hid (Box v1.heap.size [.int .i64 X.a, .int .i64 X.c, .int .i64 X.u, .int .i64 X.s] w1) := Lib.hid (hw ▸ hx)
    replace HB : Hid (Below w.heap.size w w1) := Lib.hid (hw ▸ below_trans HB.out hz2)
    clear hz hx hz2
    clear p0 p1 p2 p3 ps
    unfold pv
    go_upto_region 3 with (fail)
    clear hw
    obtain ⟨p0, p1, p2, p3⟩ := HXp.out.c4
    have ps := HXp.out.1
    go_wp2_with fail
    (with_reducible refine (H2.out _).mono ?_)
    rintro e v2 ⟨rfl, hz⟩
    have hx := Box.made v2 [.int .i64 Z.a, .int .i64 Z.c, .int .i64 Z.u, .int .i64 Z.s] 23
    have hz2 := below_trans hz (al v2 (.cells #[.int .i64 Z.a, .int .i64 Z.c, .int .i64 Z.u, .int .i64 Z.s] 23))
    obtain ⟨w2, hw⟩ : ∃ W, v2.alloc (.cells #[.int .i64 Z.a, .int .i64 Z.c, .int .i64 Z.u, .int .i64 Z.s] 23) = W := ⟨_, rfl⟩
    replace HXp : Hid (Box w.heap.size [.int .i64 p.a, .int .i64 p.c, .int .i64 p.u, .int .i64 p.s] w2) := Lib.hid (hw ▸ HXp.out.below hz2)
    replace HXx : Hid (Box v1.heap.size [.int .i64 X.a, .int .i64 X.c, .int .i64 X.u, .int .i64 X.s] w2) := Lib.hid (hw ▸ HXx.out.below hz2)
    have HXz : Hid (Box v2.heap.size [.int .i64 Z.a, .int .i64 Z.c, .int .i64 Z.u, .int .i64 Z.s] w2) := Lib.hid (hw ▸ hx)
    replace HB : Hid (Below w.heap.size w w2) := Lib.hid (hw ▸ below_trans HB.out hz2)
    clear hz hx hz2
    clear p0 p1 p2 p3 ps
    unfold pv
    go_upto_region 4 with (fail)
    clear hw
    go_wp2_with fail
    (with_reducible refine (HAL.out _).mono ?_)
    rintro e w3 ⟨rfl, hz⟩
    replace HXp : Hid (Box w.heap.size [.int .i64 p.a, .int .i64 p.c, .int .i64 p.u, .int .i64 p.s] w3) := Lib.hid (HXp.out.below hz)
    replace HXx : Hid (Box v1.heap.size [.int .i64 X.a, .int .i64 X.c, .int .i64 X.u, .int .i64 X.s] w3) := Lib.hid (HXx.out.below hz)
    replace HXz : Hid (Box v2.heap.size [.int .i64 Z.a, .int .i64 Z.c, .int .i64 Z.u, .int .i64 Z.s] w3) := Lib.hid (HXz.out.below hz)
    replace HB : Hid (Below w.heap.size w w3) := Lib.hid (below_trans HB.out hz)
    clear hz
    go_wp2_with fail
    go_ret
    exact ⟨rfl, HB.out⟩

set_option maxRecDepth 100000 in
set_option maxHeartbeats 4000000 in
theorem lifted (os : Os) (started : os.Started) (H : Type) (enc : TypeId × Value → H) :
    ReturnsInHanded {} Try.checked os 6 .any (Rows.paySumsSpec.pre6 enc Try.prog Try.f6 Rows.paySumsRow.domain false) (Rows.paySumsSpec.post enc Try.prog Try.f6 false true false false) := by
  refine returnsInHanded_of_change (C := Try.checked) own started (by kernel_rfl) Try.func6
    (ChangeSpec.witness6 (enc := enc) (C := Try.checked) false ⟨#[], #[.agg #[.int .i64 0, .int .i64 0, .int .i64 0, .int .i64 0], .int .i64 0, .int .i64 0, .int .i64 0], []⟩ 8 (by kernel_rfl) (by kernel_rfl) (by kernel_rfl) (by kernel_rfl)) ?_
  intro W base args ds gs before hval0 hW hcnd _
  have hval : ∀ (j : Nat) t v, Try.f6.params[j]? = some t → args[j]? = some v → Value.okWide Try.prog W .any base t v := hval0
  have hW' := hW
  obtain ⟨p, q, hA0, hV, rfl, hfz, hnd⟩ := hW
  have hA : DataW.TrodAll enc Try.prog W 0 (fun _ => true) true Try.f6.params.toList args.toList ds p := hA0
  rw [Try.params6] at hA hval
  obtain ⟨v0, vs0, d0, ds0, p0, q0, hargs, rfl, rfl, h0, r0⟩ := trodAll_cons hA
  obtain ⟨v1, vs1, d1, ds1, p1, q1, rfl, rfl, rfl, h1, r1⟩ := trodAll_cons r0
  obtain ⟨v2, vs2, d2, ds2, p2, q2, rfl, rfl, rfl, h2, r2⟩ := trodAll_cons r1
  obtain ⟨v3, vs3, d3, ds3, p3, q3, rfl, rfl, rfl, h3, r3⟩ := trodAll_cons r2
  obtain ⟨rfl, rfl, rfl⟩ := trodAll_nil r3
  obtain rfl : args = #[v0, v1, v2, v3] := by cases args; simp_all
  obtain ⟨rfl, rfl⟩ := trodVars_none hV
  have k0 := h0
  have lt0 : ∀ x ∈ p0, x.block < W.heap.size := by obtain ⟨m, hm⟩ := k0; exact DataW.trod_lt m _ _ _ hm
  obtain ⟨fuel0, hf0⟩ := h0
  obtain ⟨x0, rfl⟩ := open_pay (hval 0 23 v0 rfl rfl) hf0
  obtain ⟨a1, rfl, rfl, rfl, w1⟩ := open_int Try.underlying3 (hval 1 3 v1 rfl rfl) h1
  have hb1 : -9223372036854775808 ≤ a1 ∧ a1 ≤ 9223372036854775807 := by
    have := w1
    simp [Lit.wf, IntKind.min, IntKind.max, IntKind.bits, IntKind.signed] at this
    omega
  obtain ⟨a2, rfl, rfl, rfl, w2⟩ := open_int Try.underlying3 (hval 2 3 v2 rfl rfl) h2
  have hb2 : -9223372036854775808 ≤ a2 ∧ a2 ≤ 9223372036854775807 := by
    have := w2
    simp [Lit.wf, IntKind.min, IntKind.max, IntKind.bits, IntKind.signed] at this
    omega
  obtain ⟨a3, rfl, rfl, rfl, w3⟩ := open_int Try.underlying3 (hval 3 3 v3 rfl rfl) h3
  have hb3 : -9223372036854775808 ≤ a3 ∧ a3 ≤ 9223372036854775807 := by
    have := w3
    simp [Lit.wf, IntKind.min, IntKind.max, IntKind.bits, IntKind.signed] at this
    omega
  clear hA0 hval0
  refine (walk0 x0 a1 hb1.1 hb1.2 a2 hb2.1 hb2.2 a3 hb3.1 hb3.2 W ).mono fun e W' ⟨he, bel⟩ => ?_
  subst he
  exact ⟨_, rfl, _, _, _, [], _, [], hW', trodAll_mk1 (shut_bool Try.underlying4 _), (trodAll_cons_mk (Below.trod laidOut (by kernel_rfl) (of_decide_eq_true (by kernel_rfl)) k0 bel lt0) (trodAll_cons_mk (shut_int Try.underlying3 w1) (trodAll_cons_mk (shut_int Try.underlying3 w2) (trodAll_cons_mk (shut_int Try.underlying3 w3) trodAll_mk0)))), rfl, bel.frame _, fun h => by cases h⟩

theorem over : Rows.paySumsRow.holds Try.pinned (OpenSpec.ofChange Rows.paySumsSpec) :=
  OpenClaim.holds_of_wide 6 Try.f6 rfl rfl rfl rfl rfl rfl rfl ⟨rfl, rfl, rfl, rfl, rfl⟩ rfl rfl rfl rfl rfl (by kernel_rfl) Try.func6 (by kernel_rfl)
    (of_decide_eq_true (by kernel_rfl)) (by unfold Func.isWrapper; first | (rw [if_pos (by decide +kernel)]; kernel_rfl) | (rw [if_neg (by decide +kernel)]; exact ⟨rfl, rfl⟩))
    (fun os started H enc _ => lifted os started H enc)

theorem proved : Rows.PaySumsSaid := over
#print axioms proved
end Go.Proofs.Ytfegnaafodcnlaa.paySums
