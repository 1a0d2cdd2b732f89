/-
  Contracts of package pay: Renew, Catch, Close, Lapse.
-/
import Derived.Test.YtjmmijobdcepmaaPCalls
import Derived.Shelf.Abstract
namespace Go.Proofs.Ytjmmijobdcepmaa.Pay
open Go.ChangeShapes Go.WideShapes Go.ChangeAt Go.RowKit Go.Shelf

theorem ren_if (p : Py) (t : Int) : (if rightB p = true then renO p t else noP) = renO p t ∧ (if rightB p = true then renE p t else 1) = renE p t := by
  cases hr : rightB p with
  | true => exact ⟨if_pos rfl, if_pos rfl⟩
  | false =>
    have e : renE p t = 1 := by unfold renE; rw [if_pos (by rw [hr]; simp)]
    rw [if_neg (by simp), if_neg (by simp), e]
    exact ⟨by unfold renO; rw [e]; rfl, rfl⟩
theorem cat_if (p : Py) (n : Int) : (if rightB p = true then catO p n else noP) = catO p n ∧ (if rightB p = true then catE p n else 1) = catE p n := by
  cases hr : rightB p with
  | true => exact ⟨if_pos rfl, if_pos rfl⟩
  | false =>
    have e : catE p n = 1 := by unfold catE; rw [if_pos (by rw [hr]; simp)]
    rw [if_neg (by simp), if_neg (by simp), e]
    exact ⟨by unfold catO; rw [e]; rfl, rfl⟩
theorem clo_if (p : Py) : (if rightB p = true then cloO p else noP) = cloO p ∧ (if rightB p = true then cloE p else 1) = cloE p := by
  cases hr : rightB p with
  | true => exact ⟨if_pos rfl, if_pos rfl⟩
  | false =>
    have e : cloE p = 1 := by unfold cloE; rw [if_pos (by rw [hr]; simp)]
    rw [if_neg (by simp), if_neg (by simp), e]
    exact ⟨by unfold cloO; rw [e]; rfl, rfl⟩
theorem lap_if (p : Py) (t : Int) : (if rightB p = true then lapO p t else noP) = lapO p t ∧ (if rightB p = true then lapB p t else false) = lapB p t ∧ (if rightB p = true then lapE p else 1) = lapE p := by
  cases hr : rightB p with
  | true => exact ⟨if_pos rfl, if_pos rfl, if_pos rfl⟩
  | false =>
    rcases lap_ways p t with ⟨_, e1, e2, e3⟩ | ⟨e, _⟩ | ⟨e, _⟩
    · rw [if_neg (by simp), if_neg (by simp), if_neg (by simp), e1, e2, e3]; exact ⟨rfl, rfl, rfl⟩
    · rw [hr] at e; cases e
    · rw [hr] at e; cases e
/-- Blocks for the money, for a number, and for the result. -/
theorem three_boxes (w : World) (p : Py) (t : Int) (vs : List Value) (T T' T2 : TypeId) : Box w.heap.size (pcs p) (((w.alloc (.cells (pcs p).toArray T)).alloc (.cells #[.int .i64 t] T2)).alloc (.cells vs.toArray T')) ∧ Box (w.heap.size + 1) [.int .i64 t] (((w.alloc (.cells (pcs p).toArray T)).alloc (.cells #[.int .i64 t] T2)).alloc (.cells vs.toArray T')) ∧ Box (w.heap.size + 2) vs (((w.alloc (.cells (pcs p).toArray T)).alloc (.cells #[.int .i64 t] T2)).alloc (.cells vs.toArray T')) ∧ Below w.heap.size w (((w.alloc (.cells (pcs p).toArray T)).alloc (.cells #[.int .i64 t] T2)).alloc (.cells vs.toArray T')) := by
  obtain ⟨h1, h2⟩ := two_boxes w p [.int .i64 t] T T2
  refine ⟨h1.below (al _ _), h2.below (al _ _), ?_, below_trans (two_al w _ _) (al _ _)⟩
  have := Box.made ((w.alloc (.cells (pcs p).toArray T)).alloc (.cells #[.int .i64 t] T2)) vs T'
  simpa only [World.size_alloc, Nat.add_assoc] using this

set_option maxRecDepth 100000 in
set_option maxHeartbeats 1000000 in
theorem Catch_any (p : Py) (t : Int) (ht : -9223372036854775808 ≤ t ∧ t ≤ 9223372036854775807) (w : World) : Calls Try.prog 40 #[pv p, .int .i64 t] w (PayE (catO p t) (catE p t) w) := by
  obtain ⟨hx1, hx2, hx3, hbb⟩ := three_boxes w p t [.int .i64 0, .int .i64 0, .int .i64 0, .int .i64 0] 25 25 3
  have hmf := makes
  unfold pcs at *
  obtain ⟨W0, hW0⟩ : ∃ W, ((w.alloc (.cells #[.int .i64 p.a, .int .i64 p.c, .int .i64 p.u, .int .i64 p.s] 25)).alloc (.cells #[.int .i64 t] 3)).alloc (.cells #[.int .i64 0, .int .i64 0, .int .i64 0, .int .i64 0] 25) = W := ⟨_, rfl⟩
  have HX1 : Hid (Box w.heap.size [.int .i64 p.a, .int .i64 p.c, .int .i64 p.u, .int .i64 p.s] W0) := Lib.hid (hW0 ▸ hx1)
  have HX2 : Hid (Box (w.heap.size + 1) [.int .i64 t] W0) := Lib.hid (hW0 ▸ hx2)
  have HX3 : Hid (Box (w.heap.size + 2) [.int .i64 0, .int .i64 0, .int .i64 0, .int .i64 0] W0) := Lib.hid (hW0 ▸ hx3)
  have HB0 : Hid (Below w.heap.size w W0) := Lib.hid (hW0 ▸ hbb)
  clear hx1 hx2 hx3 hbb
  have hd := do_any p (catO p t) (catE p t) 52 (enters_of Try.func52 (by kernel_rfl) rfl) #[.pointer (some ⟨w.heap.size + 1, 0, none⟩)] (w := W0) (fun hr W hb => catch1_any p t ht (HX2.out.below hb) hr)
  rw [(cat_if p t).1, (cat_if p t).2] at hd
  obtain ⟨x, hx⟩ : ∃ x, catO p t = x := ⟨_, rfl⟩
  obtain ⟨z, hz⟩ : ∃ z, catE p t = z := ⟨_, rfl⟩
  rw [hx, hz] at hd ⊢
  have HD := Lib.hid hd
  unfold pv at HD
  clear hd hx hz
  unfold pv
  go_enter Try.func40, Try.ntmps40
  go_upto_region 1 with (fail)
  clear hW0
  obtain ⟨k0, k1, k2, k3⟩ := HX1.out.c4
  have hs1 := HX1.out.1
  go_wp2_with fail
  (with_reducible refine HD.out.mono ?_)
  rintro e w1 ⟨rfl, hz⟩
  obtain ⟨y0, y1, y2, y3⟩ := (HX3.out.below hz).c4
  obtain ⟨z0, z1, z2, z3⟩ := (HX3.out.below hz).z4
  have hsz := (HX3.out.below hz).1
  have HE := Lib.hid (below_four (b := w.heap.size + 2) (.int .i64 x.a) (.int .i64 x.c) (.int .i64 x.u) (.int .i64 x.s) (below_trans HB0.out hz) (by omega))
  clear hz k0 k1 k2 k3 hs1
  unfold pv
  go_wp2_with fail
  exact bodyPost_ret (by simp [results, Try.results40, go_sem, pv, y0, y1, y2, y3]) rfl ⟨rfl, HE.out⟩

set_option maxRecDepth 100000 in
set_option maxHeartbeats 1000000 in
theorem Close_any (p : Py) (w : World) : Calls Try.prog 53 #[pv p] w (PayE (cloO p) (cloE p) w) := by
  obtain ⟨hx1, hx3⟩ := two_boxes w p [.int .i64 0, .int .i64 0, .int .i64 0, .int .i64 0] 25 25
  have hbb := two_al w (.cells (pcs p).toArray 25) (.cells #[.int .i64 0, .int .i64 0, .int .i64 0, .int .i64 0] 25)
  unfold pcs at *
  obtain ⟨W0, hW0⟩ : ∃ W, (w.alloc (.cells #[.int .i64 p.a, .int .i64 p.c, .int .i64 p.u, .int .i64 p.s] 25)).alloc (.cells #[.int .i64 0, .int .i64 0, .int .i64 0, .int .i64 0] 25) = W := ⟨_, rfl⟩
  have HX1 : Hid (Box w.heap.size [.int .i64 p.a, .int .i64 p.c, .int .i64 p.u, .int .i64 p.s] W0) := Lib.hid (hW0 ▸ hx1)
  have HX3 : Hid (Box (w.heap.size + 1) [.int .i64 0, .int .i64 0, .int .i64 0, .int .i64 0] W0) := Lib.hid (hW0 ▸ hx3)
  have HB0 : Hid (Below w.heap.size w W0) := Lib.hid (hW0 ▸ hbb)
  clear hx1 hx3 hbb
  have hd := do_any p (cloO p) (cloE p) 69 (enters_of Try.func69 (by kernel_rfl) rfl) #[] (w := W0) (fun hr W hb => close1_any p hr W)
  rw [(clo_if p).1, (clo_if p).2] at hd
  obtain ⟨x, hx⟩ : ∃ x, cloO p = x := ⟨_, rfl⟩
  obtain ⟨z, hz⟩ : ∃ z, cloE p = z := ⟨_, rfl⟩
  rw [hx, hz] at hd ⊢
  have HD := Lib.hid hd
  unfold pv at HD
  clear hd hx hz
  unfold pv
  go_enter Try.func53, Try.ntmps53
  go_upto_region 1 with (fail)
  clear hW0
  obtain ⟨k0, k1, k2, k3⟩ := HX1.out.c4
  have hs1 := HX1.out.1
  go_wp2_with fail
  (with_reducible refine HD.out.mono ?_)
  rintro e w1 ⟨rfl, hz⟩
  obtain ⟨y0, y1, y2, y3⟩ := (HX3.out.below hz).c4
  obtain ⟨z0, z1, z2, z3⟩ := (HX3.out.below hz).z4
  have hsz := (HX3.out.below hz).1
  have HE := Lib.hid (below_four (b := w.heap.size + 1) (.int .i64 x.a) (.int .i64 x.c) (.int .i64 x.u) (.int .i64 x.s) (below_trans HB0.out hz) (by omega))
  clear hz k0 k1 k2 k3 hs1
  unfold pv
  go_wp2_with fail
  exact bodyPost_ret (by simp [results, Try.results53, go_sem, pv, y0, y1, y2, y3]) rfl ⟨rfl, HE.out⟩

/-- Money, whether it lapsed, and an error are returned, each by itself. -/
def LapE (p : Py) (b : Bool) (z : Int) (w : World) (e : Ending) (w' : World) : Prop := e = .returned (.tuple #[pv p, .bool b, .int .i64 z]) ∧ Below w.heap.size w w'
end Go.Proofs.Ytjmmijobdcepmaa.Pay
