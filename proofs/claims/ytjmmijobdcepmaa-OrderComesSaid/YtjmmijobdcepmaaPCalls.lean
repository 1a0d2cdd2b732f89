/-
  Contracts of package pay: what each call hands to the one that asks first; Renew, Catch, Close, Lapse.
-/
import Derived.Test.YtjmmijobdcepmaaPDo
namespace Go.Proofs.Ytjmmijobdcepmaa.Pay
open Go.ChangeShapes Go.WideShapes Go.ChangeAt Go.RowKit

theorem box_two {w : World} (p : Py) (vs : List Value) (T T' : TypeId) : Box w.heap.size (pcs p) ((w.alloc (.cells (pcs p).toArray T)).alloc (.cells vs.toArray T')) := (two_boxes w p vs T T').1

set_option maxRecDepth 100000 in
set_option maxHeartbeats 1000000 in
theorem close1_any (p : Py) (hr : rightB p = true) (w : World) : Calls Try.prog 69 #[pv p] w (PayE (cloO p) (cloE p) w) := by
  obtain ⟨hx1, hx2⟩ := two_boxes w p [.int .i64 0, .int .i64 0, .int .i64 0, .int .i64 0] 25 25
  have hbb := two_al w (.cells (pcs p).toArray 25) (.cells #[.int .i64 0, .int .i64 0, .int .i64 0, .int .i64 0] 25)
  unfold pcs at *
  obtain ⟨W0, hW0⟩ : ∃ W, (w.alloc (.cells #[.int .i64 p.a, .int .i64 p.c, .int .i64 p.u, .int .i64 p.s] 25)).alloc (.cells #[.int .i64 0, .int .i64 0, .int .i64 0, .int .i64 0] 25) = W := ⟨_, rfl⟩
  have HX1 : Hid (Box w.heap.size [.int .i64 p.a, .int .i64 p.c, .int .i64 p.u, .int .i64 p.s] W0) := Lib.hid (hW0 ▸ hx1)
  have HX2 : Hid (Box (w.heap.size + 1) [.int .i64 0, .int .i64 0, .int .i64 0, .int .i64 0] W0) := Lib.hid (hW0 ▸ hx2)
  have HB0 : Hid (Below w.heap.size w W0) := Lib.hid (hW0 ▸ hbb)
  clear hx1 hx2 hbb
  rcases clo_ways p with ⟨e, _⟩ | ⟨_, hs, e1, e2⟩ | ⟨_, hs, e1, e2⟩
  · rw [hr] at e; cases e
  · rw [e1, e2]
    have hs' : (p.s == 3) = true := by simpa using hs
    have HE := Lib.hid (below_four (b := w.heap.size + 1) (.int .i64 0) (.int .i64 0) (.int .i64 0) (.int .i64 0) HB0.out (by omega))
    clear e1 e2 hr hs
    unfold pv
    go_enter Try.func69, Try.ntmps69
    go_upto_region 1 with (fail)
    clear hW0
    obtain ⟨k0, k1, k2, k3⟩ := HX1.out.c4
    obtain ⟨y0, y1, y2, y3⟩ := HX2.out.c4
    obtain ⟨z0, z1, z2, z3⟩ := HX2.out.z4
    have hs1 := HX1.out.1
    have hs2 := HX2.out.1
    go_wp2_with fail
    exact bodyPost_ret (by simp [results, Try.results69, go_sem, pv, noP, y0, y1, y2, y3]) rfl ⟨rfl, HE.out⟩
  · rw [e1, e2]
    have hs' : (p.s == 3) = false := by simpa using hs
    have HE := Lib.hid (below_four (b := w.heap.size + 1) (.int .i64 p.a) (.int .i64 p.c) (.int .i64 p.u) (.int .i64 3) (HB0.out.setCell (p := ⟨w.heap.size, 3, none⟩) (Nat.le_refl _) (.int .i64 3)) (by omega))
    clear e1 e2 hr hs
    unfold pv
    go_enter Try.func69, Try.ntmps69
    go_upto_region 1 with (fail)
    clear hW0
    obtain ⟨k0, k1, k2, k3⟩ := HX1.out.c4
    obtain ⟨l0, l1, l2, l3⟩ := HX1.out.z4
    obtain ⟨y0, y1, y2, y3⟩ := HX2.out.c4
    obtain ⟨z0, z1, z2, z3⟩ := HX2.out.z4
    have hs1 := HX1.out.1
    have hs2 := HX2.out.1
    go_wp2_with fail
    exact bodyPost_ret (by simp [results, Try.results69, go_sem, pv, y0, y1, y2, y3]) rfl ⟨rfl, HE.out⟩

set_option maxRecDepth 100000 in
set_option maxHeartbeats 1000000 in
theorem catch1_any {w : World} {g : Nat} (p : Py) (n : Int) (hn : -9223372036854775808 ≤ n ∧ n ≤ 9223372036854775807) (hg : Box g [.int .i64 n] w) (hr : rightB p = true) : Calls Try.prog 52 #[pv p, .pointer (some ⟨g, 0, none⟩)] w (PayE (catO p n) (catE p n) w) := by
  obtain ⟨hx1, hx2⟩ := two_boxes w p [.int .i64 0, .int .i64 0, .int .i64 0, .int .i64 0] 25 25
  have hbb := two_al w (.cells (pcs p).toArray 25) (.cells #[.int .i64 0, .int .i64 0, .int .i64 0, .int .i64 0] 25)
  unfold pcs at *
  obtain ⟨W0, hW0⟩ : ∃ W, (w.alloc (.cells #[.int .i64 p.a, .int .i64 p.c, .int .i64 p.u, .int .i64 p.s] 25)).alloc (.cells #[.int .i64 0, .int .i64 0, .int .i64 0, .int .i64 0] 25) = W := ⟨_, rfl⟩
  have HX1 : Hid (Box w.heap.size [.int .i64 p.a, .int .i64 p.c, .int .i64 p.u, .int .i64 p.s] W0) := Lib.hid (hW0 ▸ hx1)
  have HX2 : Hid (Box (w.heap.size + 1) [.int .i64 0, .int .i64 0, .int .i64 0, .int .i64 0] W0) := Lib.hid (hW0 ▸ hx2)
  have HB0 : Hid (Below w.heap.size w W0) := Lib.hid (hW0 ▸ hbb)
  have hxg := hg.below HB0.out
  have g0 := hxg.c1
  have g1 := hxg.1
  clear hx1 hx2 hbb hxg hg
  obtain ⟨q1, q2, q3, q4, _⟩ := rightB_t.1 hr
  have hsub : IntKind.i64.wrap (p.a - p.c) = p.a - p.c := IntWalk.i64_in _ (by omega)
  rcases cat_ways p n with ⟨e, e1, e2⟩ | ⟨_, h0, hs, e1, e2⟩ | ⟨_, h0, hs, h1, e1, e2⟩ | ⟨_, h0, hs, h1, e1, e2⟩
  · rw [e1, e2]
    have h0 : n < 0 := by
      rcases Int.lt_or_le n 0 with h | h
      · exact h
      · exact absurd ⟨hr, h⟩ e
    clear e e1 e2 hr
    have HE := Lib.hid (below_four (b := w.heap.size + 1) (.int .i64 0) (.int .i64 0) (.int .i64 0) (.int .i64 0) HB0.out (by omega))
    unfold pv
    go_enter Try.func52, Try.ntmps52
    go_upto_region 1 with (fail)
    clear hW0
    obtain ⟨k0, k1, k2, k3⟩ := HX1.out.c4
    obtain ⟨l0, l1, l2, l3⟩ := HX1.out.z4
    obtain ⟨y0, y1, y2, y3⟩ := HX2.out.c4
    obtain ⟨z0, z1, z2, z3⟩ := HX2.out.z4
    have hs1 := HX1.out.1
    have hs2 := HX2.out.1
    go_wp2_with fail
    exact bodyPost_ret (by simp [results, Try.results52, go_sem, pv, noP, y0, y1, y2, y3]) rfl ⟨rfl, HE.out⟩
  · rw [e1, e2]
    have hs' : (p.s == 3) = true := by simpa using hs
    clear e1 e2 hr hs
    have HE := Lib.hid (below_four (b := w.heap.size + 1) (.int .i64 0) (.int .i64 0) (.int .i64 0) (.int .i64 0) HB0.out (by omega))
    unfold pv
    go_enter Try.func52, Try.ntmps52
    go_upto_region 1 with (fail)
    clear hW0
    obtain ⟨k0, k1, k2, k3⟩ := HX1.out.c4
    obtain ⟨l0, l1, l2, l3⟩ := HX1.out.z4
    obtain ⟨y0, y1, y2, y3⟩ := HX2.out.c4
    obtain ⟨z0, z1, z2, z3⟩ := HX2.out.z4
    have hs1 := HX1.out.1
    have hs2 := HX2.out.1
    go_wp2_with fail
    exact bodyPost_ret (by simp [results, Try.results52, go_sem, pv, noP, y0, y1, y2, y3]) rfl ⟨rfl, HE.out⟩
  · rw [e1, e2]
    have hs' : (p.s == 3) = false := by simpa using hs
    clear e1 e2 hr hs
    have HE := Lib.hid (below_four (b := w.heap.size + 1) (.int .i64 0) (.int .i64 0) (.int .i64 0) (.int .i64 0) HB0.out (by omega))
    unfold pv
    go_enter Try.func52, Try.ntmps52
    go_upto_region 1 with (fail)
    clear hW0
    obtain ⟨k0, k1, k2, k3⟩ := HX1.out.c4
    obtain ⟨l0, l1, l2, l3⟩ := HX1.out.z4
    obtain ⟨y0, y1, y2, y3⟩ := HX2.out.c4
    obtain ⟨z0, z1, z2, z3⟩ := HX2.out.z4
    have hs1 := HX1.out.1
    have hs2 := HX2.out.1
    go_wp2_with fail
    exact bodyPost_ret (by simp [results, Try.results52, go_sem, pv, noP, y0, y1, y2, y3]) rfl ⟨rfl, HE.out⟩
  · rw [e1, e2]
    have hs' : (p.s == 3) = false := by simpa using hs
    have hadd : IntKind.i64.wrap (p.c + n) = p.c + n := IntWalk.i64_in _ (by omega)
    clear e1 e2 hr hs
    have HE := Lib.hid (below_four (b := w.heap.size + 1) (.int .i64 p.a) (.int .i64 (p.c + n)) (.int .i64 p.u) (.int .i64 p.s) (HB0.out.setCell (p := ⟨w.heap.size, 1, none⟩) (Nat.le_refl _) (.int .i64 (p.c + n))) (by omega))
    unfold pv
    go_enter Try.func52, Try.ntmps52
    go_upto_region 1 with (fail)
    clear hW0
    obtain ⟨k0, k1, k2, k3⟩ := HX1.out.c4
    obtain ⟨l0, l1, l2, l3⟩ := HX1.out.z4
    obtain ⟨y0, y1, y2, y3⟩ := HX2.out.c4
    obtain ⟨z0, z1, z2, z3⟩ := HX2.out.z4
    have hs1 := HX1.out.1
    have hs2 := HX2.out.1
    go_wp2_with fail
    exact bodyPost_ret (by simp [results, Try.results52, go_sem, pv, y0, y1, y2, y3]) rfl ⟨rfl, HE.out⟩

end Go.Proofs.Ytjmmijobdcepmaa.Pay
