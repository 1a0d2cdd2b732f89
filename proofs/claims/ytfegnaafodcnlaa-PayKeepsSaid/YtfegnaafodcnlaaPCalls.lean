/-
  Contracts of package pay: what each call hands to the one that asks first; Renew, Catch, Close, Lapse.
-/
import Derived.Test.YtfegnaafodcnlaaPDo
namespace Go.Proofs.Ytfegnaafodcnlaa.Pay
open Go.ChangeShapes Go.WideShapes Go.ChangeAt Go.RowKit

theorem box_two {w : World} (p : Py) (vs : List Value) (T T' : TypeId) : Box w.heap.size (pcs p) ((w.alloc (.cells (pcs p).toArray T)).alloc (.cells vs.toArray T')) := (two_boxes w p vs T T').1

set_option maxRecDepth 100000 in
set_option maxHeartbeats 1000000 in
theorem close1_any (p : Py) (hr : rightB p = true) (w : World) : Calls Try.prog 25 #[pv p] w (PayE (cloO p) (cloE p) w) := by
  obtain ⟨hx1, hx2⟩ := two_boxes w p [.int .i64 0, .int .i64 0, .int .i64 0, .int .i64 0] 23 23
  have hbb := two_al w (.cells (pcs p).toArray 23) (.cells #[.int .i64 0, .int .i64 0, .int .i64 0, .int .i64 0] 23)
  unfold pcs at *
  obtain ⟨W0, hW0⟩ : ∃ W, (w.alloc (.cells #[.int .i64 p.a, .int .i64 p.c, .int .i64 p.u, .int .i64 p.s] 23)).alloc (.cells #[.int .i64 0, .int .i64 0, .int .i64 0, .int .i64 0] 23) = W := ⟨_, rfl⟩
  have HX1 : Hid (Box w.heap.size [.int .i64 p.a, .int .i64 p.c, .int .i64 p.u, .int .i64 p.s] W0) := Lib.hid (hW0 ▸ hx1)
  have HX2 : Hid (Box (w.heap.size + 1) [.int .i64 0, .int .i64 0, .int .i64 0, .int .i64 0] W0) := Lib.hid (hW0 ▸ hx2)
  have HB0 : Hid (Below w.heap.size w W0) := Lib.hid (hW0 ▸ hbb)
  clear hx1 hx2 hbb
  rcases clo_ways p with ⟨e, _⟩ | ⟨_, hs, e1, e2⟩ | ⟨_, hs, e1, e2⟩
  · rw [hr] at e; cases e
  · rw [e1, e2]
    have hs' : (p.s == 3) = true := by simpa using hs
    have HE := Lib.hid (below_four (b := w.heap.size + 1) (.int .i64 0) (.int .i64 0) (.int .i64 0) (.int .i64 0) HB0.out (by omega))
    clear e1 e2 hr hs
    unfold pv
    go_enter Try.func25, Try.ntmps25
    go_upto_region 1 with (fail)
    clear hW0
    obtain ⟨k0, k1, k2, k3⟩ := HX1.out.c4
    obtain ⟨y0, y1, y2, y3⟩ := HX2.out.c4
    obtain ⟨z0, z1, z2, z3⟩ := HX2.out.z4
    have hs1 := HX1.out.1
    have hs2 := HX2.out.1
    go_wp2_with fail
    exact bodyPost_ret (by simp [results, Try.results25, go_sem, pv, noP, y0, y1, y2, y3]) rfl ⟨rfl, HE.out⟩
  · rw [e1, e2]
    have hs' : (p.s == 3) = false := by simpa using hs
    have HE := Lib.hid (below_four (b := w.heap.size + 1) (.int .i64 p.a) (.int .i64 p.c) (.int .i64 p.u) (.int .i64 3) (HB0.out.setCell (p := ⟨w.heap.size, 3, none⟩) (Nat.le_refl _) (.int .i64 3)) (by omega))
    clear e1 e2 hr hs
    unfold pv
    go_enter Try.func25, Try.ntmps25
    go_upto_region 1 with (fail)
    clear hW0
    obtain ⟨k0, k1, k2, k3⟩ := HX1.out.c4
    obtain ⟨l0, l1, l2, l3⟩ := HX1.out.z4
    obtain ⟨y0, y1, y2, y3⟩ := HX2.out.c4
    obtain ⟨z0, z1, z2, z3⟩ := HX2.out.z4
    have hs1 := HX1.out.1
    have hs2 := HX2.out.1
    go_wp2_with fail
    exact bodyPost_ret (by simp [results, Try.results25, go_sem, pv, y0, y1, y2, y3]) rfl ⟨rfl, HE.out⟩

set_option maxRecDepth 100000 in
set_option maxHeartbeats 1000000 in
theorem renew1_any {w : World} {g : Nat} (p : Py) (t : Int) (hg : Box g [.int .i64 t] w) (hr : rightB p = true) : Calls Try.prog 23 #[pv p, .pointer (some ⟨g, 0, none⟩)] w (PayE (renO p t) (renE p t) w) := by
  obtain ⟨hx1, hx2⟩ := two_boxes w p [.int .i64 0, .int .i64 0, .int .i64 0, .int .i64 0] 23 23
  have hbb := two_al w (.cells (pcs p).toArray 23) (.cells #[.int .i64 0, .int .i64 0, .int .i64 0, .int .i64 0] 23)
  unfold pcs at *
  obtain ⟨W0, hW0⟩ : ∃ W, (w.alloc (.cells #[.int .i64 p.a, .int .i64 p.c, .int .i64 p.u, .int .i64 p.s] 23)).alloc (.cells #[.int .i64 0, .int .i64 0, .int .i64 0, .int .i64 0] 23) = W := ⟨_, rfl⟩
  have HX1 : Hid (Box w.heap.size [.int .i64 p.a, .int .i64 p.c, .int .i64 p.u, .int .i64 p.s] W0) := Lib.hid (hW0 ▸ hx1)
  have HX2 : Hid (Box (w.heap.size + 1) [.int .i64 0, .int .i64 0, .int .i64 0, .int .i64 0] W0) := Lib.hid (hW0 ▸ hx2)
  have HB0 : Hid (Below w.heap.size w W0) := Lib.hid (hW0 ▸ hbb)
  have hxg := hg.below HB0.out
  have g0 := hxg.c1
  have g1 := hxg.1
  clear hx1 hx2 hbb hxg hg
  have hT := tick_any t
  rcases ren_ways p t with ⟨e, e1, e2⟩ | ⟨_, ht, hs, e1, e2⟩ | ⟨_, ht, hs, e1, e2⟩
  · rw [e1, e2]
    rw [decide_eq_false (show ¬ TimeP t from fun h => e ⟨hr, h⟩)] at hT
    have HT := Lib.hid hT
    clear e e1 e2 hr hT
    have HE := Lib.hid (below_four (b := w.heap.size + 1) (.int .i64 0) (.int .i64 0) (.int .i64 0) (.int .i64 0) HB0.out (by omega))
    unfold pv
    go_enter Try.func23, Try.ntmps23
    go_upto_region 1 with (fail)
    clear hW0
    obtain ⟨k0, k1, k2, k3⟩ := HX1.out.c4
    obtain ⟨l0, l1, l2, l3⟩ := HX1.out.z4
    obtain ⟨y0, y1, y2, y3⟩ := HX2.out.c4
    obtain ⟨z0, z1, z2, z3⟩ := HX2.out.z4
    have hs1 := HX1.out.1
    have hs2 := HX2.out.1
    go_wp2_with (go_at_call 18; refine (HT.out _).mono ?_; rintro e w' ⟨rfl, rfl⟩)
    exact bodyPost_ret (by simp [results, Try.results23, go_sem, pv, noP, y0, y1, y2, y3]) rfl ⟨rfl, HE.out⟩
  · rw [e1, e2]
    rw [decide_eq_true ht] at hT
    have HT := Lib.hid hT
    have hs' : (p.s != 2) = true := by simpa using hs
    clear e1 e2 hr hT ht hs
    have HE := Lib.hid (below_four (b := w.heap.size + 1) (.int .i64 0) (.int .i64 0) (.int .i64 0) (.int .i64 0) HB0.out (by omega))
    unfold pv
    go_enter Try.func23, Try.ntmps23
    go_upto_region 1 with (fail)
    clear hW0
    obtain ⟨k0, k1, k2, k3⟩ := HX1.out.c4
    obtain ⟨l0, l1, l2, l3⟩ := HX1.out.z4
    obtain ⟨y0, y1, y2, y3⟩ := HX2.out.c4
    obtain ⟨z0, z1, z2, z3⟩ := HX2.out.z4
    have hs1 := HX1.out.1
    have hs2 := HX2.out.1
    go_wp2_with (go_at_call 18; refine (HT.out _).mono ?_; rintro e w' ⟨rfl, rfl⟩)
    exact bodyPost_ret (by simp [results, Try.results23, go_sem, pv, noP, y0, y1, y2, y3]) rfl ⟨rfl, HE.out⟩
  · rw [e1, e2]
    rw [decide_eq_true ht] at hT
    have HT := Lib.hid hT
    have hs' : (p.s != 2) = false := by simpa using hs
    clear e1 e2 hr hT ht hs
    have HE := Lib.hid (Below.drew <| below_four (b := w.heap.size + 1) (.int .i64 p.a) (.int .i64 p.c) (.int .i64 t) (.int .i64 1) ((HB0.out.setCell (p := ⟨w.heap.size, 3, none⟩) (Nat.le_refl _) (.int .i64 1)).setCell (p := ⟨w.heap.size, 2, none⟩) (Nat.le_refl _) (.int .i64 t)) (by omega))
    unfold pv
    go_enter Try.func23, Try.ntmps23
    go_upto_region 1 with (fail)
    clear hW0
    obtain ⟨k0, k1, k2, k3⟩ := HX1.out.c4
    obtain ⟨l0, l1, l2, l3⟩ := HX1.out.z4
    obtain ⟨y0, y1, y2, y3⟩ := HX2.out.c4
    obtain ⟨z0, z1, z2, z3⟩ := HX2.out.z4
    have hs1 := HX1.out.1
    have hs2 := HX2.out.1
    go_wp2_with (go_at_call 18; refine (HT.out _).mono ?_; rintro e w' ⟨rfl, rfl⟩)
    go_region
    go_wp2_with fail
    exact bodyPost_ret (by simp [results, Try.results23, go_sem, pv, y0, y1, y2, y3]) rfl ⟨rfl, HE.out⟩

set_option maxRecDepth 100000 in
set_option maxHeartbeats 1000000 in
theorem catch1_any {w : World} {g : Nat} (p : Py) (n : Int) (hn : -9223372036854775808 ≤ n ∧ n ≤ 9223372036854775807) (hg : Box g [.int .i64 n] w) (hr : rightB p = true) : Calls Try.prog 24 #[pv p, .pointer (some ⟨g, 0, none⟩)] w (PayE (catO p n) (catE p n) w) := by
  obtain ⟨hx1, hx2⟩ := two_boxes w p [.int .i64 0, .int .i64 0, .int .i64 0, .int .i64 0] 23 23
  have hbb := two_al w (.cells (pcs p).toArray 23) (.cells #[.int .i64 0, .int .i64 0, .int .i64 0, .int .i64 0] 23)
  unfold pcs at *
  obtain ⟨W0, hW0⟩ : ∃ W, (w.alloc (.cells #[.int .i64 p.a, .int .i64 p.c, .int .i64 p.u, .int .i64 p.s] 23)).alloc (.cells #[.int .i64 0, .int .i64 0, .int .i64 0, .int .i64 0] 23) = W := ⟨_, rfl⟩
  have HX1 : Hid (Box w.heap.size [.int .i64 p.a, .int .i64 p.c, .int .i64 p.u, .int .i64 p.s] W0) := Lib.hid (hW0 ▸ hx1)
  have HX2 : Hid (Box (w.heap.size + 1) [.int .i64 0, .int .i64 0, .int .i64 0, .int .i64 0] W0) := Lib.hid (hW0 ▸ hx2)
  have HB0 : Hid (Below w.heap.size w W0) := Lib.hid (hW0 ▸ hbb)
  have hxg := hg.below HB0.out
  have g0 := hxg.c1
  have g1 := hxg.1
  clear hx1 hx2 hbb hxg hg
  obtain ⟨q1, q2, q3, q4, _⟩ := rightB_t.1 hr
  have hsub : IntKind.i64.wrap (p.a - p.c) = p.a - p.c := IntWalk.i64_in _ (by omega)
  rcases cat_ways p n with ⟨e, e1, e2⟩ | ⟨_, h0, hs, e1, e2⟩ | ⟨_, h0, hs, h1, e1, e2⟩ | ⟨_, h0, hs, h1, e1, e2⟩
  · rw [e1, e2]
    have h0 : n < 0 := by
      rcases Int.lt_or_le n 0 with h | h
      · exact h
      · exact absurd ⟨hr, h⟩ e
    clear e e1 e2 hr
    have HE := Lib.hid (below_four (b := w.heap.size + 1) (.int .i64 0) (.int .i64 0) (.int .i64 0) (.int .i64 0) HB0.out (by omega))
    unfold pv
    go_enter Try.func24, Try.ntmps24
    go_upto_region 1 with (fail)
    clear hW0
    obtain ⟨k0, k1, k2, k3⟩ := HX1.out.c4
    obtain ⟨l0, l1, l2, l3⟩ := HX1.out.z4
    obtain ⟨y0, y1, y2, y3⟩ := HX2.out.c4
    obtain ⟨z0, z1, z2, z3⟩ := HX2.out.z4
    have hs1 := HX1.out.1
    have hs2 := HX2.out.1
    go_wp2_with fail
    exact bodyPost_ret (by simp [results, Try.results24, go_sem, pv, noP, y0, y1, y2, y3]) rfl ⟨rfl, HE.out⟩
  · rw [e1, e2]
    have hs' : (p.s == 3) = true := by simpa using hs
    clear e1 e2 hr hs
    have HE := Lib.hid (below_four (b := w.heap.size + 1) (.int .i64 0) (.int .i64 0) (.int .i64 0) (.int .i64 0) HB0.out (by omega))
    unfold pv
    go_enter Try.func24, Try.ntmps24
    go_upto_region 1 with (fail)
    clear hW0
    obtain ⟨k0, k1, k2, k3⟩ := HX1.out.c4
    obtain ⟨l0, l1, l2, l3⟩ := HX1.out.z4
    obtain ⟨y0, y1, y2, y3⟩ := HX2.out.c4
    obtain ⟨z0, z1, z2, z3⟩ := HX2.out.z4
    have hs1 := HX1.out.1
    have hs2 := HX2.out.1
    go_wp2_with fail
    exact bodyPost_ret (by simp [results, Try.results24, go_sem, pv, noP, y0, y1, y2, y3]) rfl ⟨rfl, HE.out⟩
  · rw [e1, e2]
    have hs' : (p.s == 3) = false := by simpa using hs
    clear e1 e2 hr hs
    have HE := Lib.hid (below_four (b := w.heap.size + 1) (.int .i64 0) (.int .i64 0) (.int .i64 0) (.int .i64 0) HB0.out (by omega))
    unfold pv
    go_enter Try.func24, Try.ntmps24
    go_upto_region 1 with (fail)
    clear hW0
    obtain ⟨k0, k1, k2, k3⟩ := HX1.out.c4
    obtain ⟨l0, l1, l2, l3⟩ := HX1.out.z4
    obtain ⟨y0, y1, y2, y3⟩ := HX2.out.c4
    obtain ⟨z0, z1, z2, z3⟩ := HX2.out.z4
    have hs1 := HX1.out.1
    have hs2 := HX2.out.1
    go_wp2_with fail
    exact bodyPost_ret (by simp [results, Try.results24, go_sem, pv, noP, y0, y1, y2, y3]) rfl ⟨rfl, HE.out⟩
  · rw [e1, e2]
    have hs' : (p.s == 3) = false := by simpa using hs
    have hadd : IntKind.i64.wrap (p.c + n) = p.c + n := IntWalk.i64_in _ (by omega)
    clear e1 e2 hr hs
    have HE := Lib.hid (below_four (b := w.heap.size + 1) (.int .i64 p.a) (.int .i64 (p.c + n)) (.int .i64 p.u) (.int .i64 p.s) (HB0.out.setCell (p := ⟨w.heap.size, 1, none⟩) (Nat.le_refl _) (.int .i64 (p.c + n))) (by omega))
    unfold pv
    go_enter Try.func24, Try.ntmps24
    go_upto_region 1 with (fail)
    clear hW0
    obtain ⟨k0, k1, k2, k3⟩ := HX1.out.c4
    obtain ⟨l0, l1, l2, l3⟩ := HX1.out.z4
    obtain ⟨y0, y1, y2, y3⟩ := HX2.out.c4
    obtain ⟨z0, z1, z2, z3⟩ := HX2.out.z4
    have hs1 := HX1.out.1
    have hs2 := HX2.out.1
    go_wp2_with fail
    exact bodyPost_ret (by simp [results, Try.results24, go_sem, pv, y0, y1, y2, y3]) rfl ⟨rfl, HE.out⟩

set_option maxRecDepth 100000 in
set_option maxHeartbeats 1000000 in
theorem lapse1_any {w : World} {g : Nat} (p : Py) (t : Int) (hg : Box g [.int .i64 t] w) (hr : rightB p = true) : Calls Try.prog 21 #[pv p, .pointer (some ⟨g, 0, none⟩)] w (LapsE (lapO p t) (lapB p t) (lapE p) w) := by
  obtain ⟨hx1, hx2⟩ := two_boxes w p [.int .i64 0, .int .i64 0, .int .i64 0, .int .i64 0, .bool false] 23 45
  have hbb := two_al w (.cells (pcs p).toArray 23) (.cells #[.int .i64 0, .int .i64 0, .int .i64 0, .int .i64 0, .bool false] 45)
  unfold pcs at *
  obtain ⟨W0, hW0⟩ : ∃ W, (w.alloc (.cells #[.int .i64 p.a, .int .i64 p.c, .int .i64 p.u, .int .i64 p.s] 23)).alloc (.cells #[.int .i64 0, .int .i64 0, .int .i64 0, .int .i64 0, .bool false] 45) = W := ⟨_, rfl⟩
  have HX1 : Hid (Box w.heap.size [.int .i64 p.a, .int .i64 p.c, .int .i64 p.u, .int .i64 p.s] W0) := Lib.hid (hW0 ▸ hx1)
  have HX2 : Hid (Box (w.heap.size + 1) [.int .i64 0, .int .i64 0, .int .i64 0, .int .i64 0, .bool false] W0) := Lib.hid (hW0 ▸ hx2)
  have HB0 : Hid (Below w.heap.size w W0) := Lib.hid (hW0 ▸ hbb)
  have hxg := hg.below HB0.out
  have g0 := hxg.c1
  have g1 := hxg.1
  clear hx1 hx2 hbb hxg hg
  rcases lap_ways p t with ⟨e, _⟩ | ⟨_, hs, hu, e1, e2, e3⟩ | ⟨_, hs, e1, e2, e3⟩
  · rw [hr] at e; cases e
  · rw [e1, e2, e3]
    have hs' : (p.s != 1) = false := by simpa using hs
    have hu' : ¬ p.u > t := by omega
    clear e1 e2 e3 hr hs hu
    have HE := Lib.hid (below_five (b := w.heap.size + 1) (.int .i64 p.a) (.int .i64 p.c) (.int .i64 p.u) (.int .i64 2) (.bool true) (HB0.out.setCell (p := ⟨w.heap.size, 3, none⟩) (Nat.le_refl _) (.int .i64 2)) (by omega))
    unfold pv
    go_enter Try.func21, Try.ntmps21
    go_upto_region 1 with (fail)
    clear hW0
    obtain ⟨k0, k1, k2, k3⟩ := HX1.out.c4
    obtain ⟨l0, l1, l2, l3⟩ := HX1.out.z4
    obtain ⟨y0, y1, y2, y3, y4⟩ := HX2.out.c5
    obtain ⟨z0, z1, z2, z3, z4⟩ := HX2.out.z5
    have hs1 := HX1.out.1
    have hs2 := HX2.out.1
    go_wp2_with fail
    exact bodyPost_ret (by simp [results, Try.results21, go_sem, lp, y0, y1, y2, y3, y4]) rfl ⟨rfl, HE.out⟩
  · rw [e1, e2, e3]
    clear e1 e2 e3 hr
    by_cases hs1 : p.s = 1
    · have hs' : (p.s != 1) = false := by simpa using hs1
      have hu' : p.u > t := by
        rcases Int.lt_or_le t p.u with h | h
        · exact h
        · exact absurd ⟨hs1, h⟩ hs
      clear hs hs1
      have HE := Lib.hid (below_five (b := w.heap.size + 1) (.int .i64 p.a) (.int .i64 p.c) (.int .i64 p.u) (.int .i64 p.s) (.bool false) HB0.out (by omega))
      unfold pv
      go_enter Try.func21, Try.ntmps21
      go_upto_region 1 with (fail)
      clear hW0
      obtain ⟨k0, k1, k2, k3⟩ := HX1.out.c4
      obtain ⟨l0, l1, l2, l3⟩ := HX1.out.z4
      obtain ⟨y0, y1, y2, y3, y4⟩ := HX2.out.c5
      obtain ⟨z0, z1, z2, z3, z4⟩ := HX2.out.z5
      have hs1 := HX1.out.1
      have hs2 := HX2.out.1
      go_wp2_with fail
      exact bodyPost_ret (by simp [results, Try.results21, go_sem, lp, y0, y1, y2, y3, y4]) rfl ⟨rfl, HE.out⟩
    · have hs' : (p.s != 1) = true := by simpa using hs1
      clear hs hs1
      have HE := Lib.hid (below_five (b := w.heap.size + 1) (.int .i64 p.a) (.int .i64 p.c) (.int .i64 p.u) (.int .i64 p.s) (.bool false) HB0.out (by omega))
      unfold pv
      go_enter Try.func21, Try.ntmps21
      go_upto_region 1 with (fail)
      clear hW0
      obtain ⟨k0, k1, k2, k3⟩ := HX1.out.c4
      obtain ⟨l0, l1, l2, l3⟩ := HX1.out.z4
      obtain ⟨y0, y1, y2, y3, y4⟩ := HX2.out.c5
      obtain ⟨z0, z1, z2, z3, z4⟩ := HX2.out.z5
      have hs1 := HX1.out.1
      have hs2 := HX2.out.1
      go_wp2_with fail
      exact bodyPost_ret (by simp [results, Try.results21, go_sem, lp, y0, y1, y2, y3, y4]) rfl ⟨rfl, HE.out⟩
end Go.Proofs.Ytfegnaafodcnlaa.Pay
