/-
  Contracts of package net's Post, and of Twice where a net is full.
-/
import Derived.Test.YtkfjhfneagjejaaNCalls
namespace Go.Proofs.Ytkfjhfneagjejaa.Net
open Go.ChangeShapes Go.WideShapes Go.ChangeAt Go.RowKit Go.Shelf Go.Lib
open Go.Proofs.Ytkfjhfneagjejaa.Queue (Box al dr below_trans ret_bool BoolB)

set_option maxRecDepth 100000 in
set_option maxHeartbeats 8000000 in
theorem Twice_full {v : Value} {l : List Pc} {w : World} (t : Int) {k : Nat} (h : NRow w v l) (hr : rightB l t = true) (hk : k < l.length) (h64 : l.length = 64) : Calls Try.prog 9 #[tv v t, .int .i64 k] w (NetE [] 0 7 w) := by
  obtain ⟨a, cap, rfl⟩ := h.slice
  have H := Lib.hid h
  obtain ⟨W0, hW0⟩ : ∃ W, ((w.alloc (.cells #[.slice a l.length cap, .int .i64 t] 24)).alloc (.cells #[.slice none 0 0, .int .i64 0] 24)) = W := ⟨_, rfl⟩
  obtain ⟨hx0, hx1, hb0⟩ := two_boxes_at w (tcs (.slice a l.length cap) t) (tcs (.slice none 0 0) 0) _ _ W0 hW0
  have HX0 := Lib.hid hx0
  have HR0 := Lib.hid hx1
  have HB0 := Lib.hid hb0
  have hc := cut_yes t (h.below hb0) hr hk
  unfold tv at hc ⊢
  have HC := Lib.hid hc
  clear h hx0 hx1 hb0 hc hr
  have hne : ((l.length : Int) == 64) = true := by simpa using (by omega : (l.length : Int) = 64)
  clear h64
  go_enter Try.func9, Try.ntmps9
  go_upto_region 1 with (fail)
  clear hW0
  obtain ⟨c0, c1⟩ := box2 HX0.out
  have hs0 := HX0.out.1
  go_wp2_with fail
  (with_reducible refine HC.out.mono ?_)
  rintro e w1 ⟨g, oa, oi, ob, n, rfl, ha, hi, hb, hg, hz⟩
  clear ha hi hb hg
  have HX1 := Lib.hid (HX0.out.below hz)
  have HR1 := Lib.hid (HR0.out.below hz)
  have HB1 := Lib.hid (below_trans HB0.out hz)
  clear hz c0 c1 hs0 HC
  obtain ⟨c0, c1⟩ := box2 HX1.out
  have hs0 := HX1.out.1
  obtain ⟨y0, y1⟩ := box2 HR1.out
  obtain ⟨z0, z1⟩ := frz2 HR1.out
  have hsz := HR1.out.1
  have HE := Lib.hid (below_two (b := w.heap.size + 1) (.slice none 0 0) (.int .i64 0) HB1.out (by omega))
  go_wp2_with fail
  exact bodyPost_ret (by simp [results, Try.results9, go_sem, tv, y0, y1]) rfl ⟨_, rfl, NRow.nil _, far_nil _ _ _, HE.out⟩
set_option maxRecDepth 100000 in
set_option maxHeartbeats 8000000 in
theorem Post_bad {v : Value} {l : List Pc} {w : World} (t : Int) (p : Pc) (h : NRow w v l) (hr : rightB l t = false) : Calls Try.prog 7 #[tv v t, nv p] w (PostE [] 0 1 w) := by
  obtain ⟨a, cap, rfl⟩ := h.slice
  have H := Lib.hid h
  obtain ⟨W0, hW0⟩ : ∃ W, (((w.alloc (.cells #[.slice a l.length cap, .int .i64 t] 24)).alloc (.cells #[.int .i64 p.n, .bool p.b, .int .i64 p.y, .int .i64 p.k, .int .i64 p.o, .bool p.s] 26)).alloc (.cells #[.slice none 0 0, .int .i64 0] 24)) = W := ⟨_, rfl⟩
  obtain ⟨hx0, hx1, hx2, hb0⟩ := three_boxes w (tcs (.slice a l.length cap) t) (ncs p) (tcs (.slice none 0 0) 0) _ _ _ W0 hW0
  have HX0 := Lib.hid hx0
  have HP0 := Lib.hid hx1
  have HR0 := Lib.hid hx2
  have HB0 := Lib.hid hb0
  have hri := Right_any t (h.below hb0)
  have hmb := fun W => mayBe_any p W
  rw [hr] at hri
  clear hr
  unfold tv at hri ⊢
  unfold nv at hmb ⊢
  have HRI := Lib.hid hri
  have HMB := Lib.hid hmb
  clear h hx0 hx1 hx2 hb0 hri hmb
  go_enter Try.func7, Try.ntmps7
  go_upto_region 1 with (fail)
  clear hW0
  obtain ⟨c0, c1⟩ := box2 HX0.out
  have hs0 := HX0.out.1
  go_wp2_with fail
  (with_reducible refine HRI.out.mono ?_)
  rintro e w1 ⟨rfl, hz⟩
  have HX1 := Lib.hid (HX0.out.below hz)
  have HP1 := Lib.hid (HP0.out.below hz)
  have HR1 := Lib.hid (HR0.out.below hz)
  have HB1 := Lib.hid (below_trans HB0.out hz)
  clear hz c0 c1 hs0 HX0 HP0 HR0 HRI
  obtain ⟨y0, y1⟩ := box2 HR1.out
  obtain ⟨z0, z1⟩ := frz2 HR1.out
  have hsz := HR1.out.1
  have HE := Lib.hid (below_two (b := w.heap.size + 2) (.slice none 0 0) (.int .i64 0) HB1.out (by omega))
  go_wp2_with fail
  exact bodyPost_ret (by simp [results, Try.results7, go_sem, tv, y0, y1]) rfl ⟨_, rfl, NRow.nil _, far_nil _ _ _, HE.out⟩
set_option maxRecDepth 100000 in
set_option maxHeartbeats 8000000 in
theorem Post_may {v : Value} {l : List Pc} {w : World} (t : Int) (p : Pc) (h : NRow w v l) (hr : rightB l t = true) (hm : mayB p = false) : Calls Try.prog 7 #[tv v t, nv p] w (PostE [] 0 1 w) := by
  obtain ⟨a, cap, rfl⟩ := h.slice
  have H := Lib.hid h
  obtain ⟨W0, hW0⟩ : ∃ W, (((w.alloc (.cells #[.slice a l.length cap, .int .i64 t] 24)).alloc (.cells #[.int .i64 p.n, .bool p.b, .int .i64 p.y, .int .i64 p.k, .int .i64 p.o, .bool p.s] 26)).alloc (.cells #[.slice none 0 0, .int .i64 0] 24)) = W := ⟨_, rfl⟩
  obtain ⟨hx0, hx1, hx2, hb0⟩ := three_boxes w (tcs (.slice a l.length cap) t) (ncs p) (tcs (.slice none 0 0) 0) _ _ _ W0 hW0
  have HX0 := Lib.hid hx0
  have HP0 := Lib.hid hx1
  have HR0 := Lib.hid hx2
  have HB0 := Lib.hid hb0
  have hri := Right_any t (h.below hb0)
  have hmb := fun W => mayBe_any p W
  rw [hr] at hri
  simp only [hm] at hmb
  clear hr hm
  unfold tv at hri ⊢
  unfold nv at hmb ⊢
  have HRI := Lib.hid hri
  have HMB := Lib.hid hmb
  clear h hx0 hx1 hx2 hb0 hri hmb
  go_enter Try.func7, Try.ntmps7
  go_upto_region 1 with (fail)
  clear hW0
  obtain ⟨c0, c1⟩ := box2 HX0.out
  have hs0 := HX0.out.1
  go_wp2_with fail
  (with_reducible refine HRI.out.mono ?_)
  rintro e w1 ⟨rfl, hz⟩
  have HX1 := Lib.hid (HX0.out.below hz)
  have HP1 := Lib.hid (HP0.out.below hz)
  have HR1 := Lib.hid (HR0.out.below hz)
  have HB1 := Lib.hid (below_trans HB0.out hz)
  clear hz c0 c1 hs0 HX0 HP0 HR0 HRI
  obtain ⟨d0, d1, d2, d3, d4, d5⟩ := box6 HP1.out
  have hs1 := HP1.out.1
  go_wp2_with fail
  (with_reducible refine (HMB.out _).mono ?_)
  rintro e w2 ⟨rfl, hz⟩
  have HX2 := Lib.hid (HX1.out.below hz)
  have HP2 := Lib.hid (HP1.out.below hz)
  have HR2 := Lib.hid (HR1.out.below hz)
  have HB2 := Lib.hid (below_trans HB1.out hz)
  clear hz d0 d1 d2 d3 d4 d5 hs1 HX1 HP1 HR1 HMB
  obtain ⟨y0, y1⟩ := box2 HR2.out
  obtain ⟨z0, z1⟩ := frz2 HR2.out
  have hsz := HR2.out.1
  have HE := Lib.hid (below_two (b := w.heap.size + 2) (.slice none 0 0) (.int .i64 0) HB2.out (by omega))
  go_wp2_with fail
  exact bodyPost_ret (by simp [results, Try.results7, go_sem, tv, y0, y1]) rfl ⟨_, rfl, NRow.nil _, far_nil _ _ _, HE.out⟩
set_option maxRecDepth 100000 in
set_option maxHeartbeats 8000000 in
theorem Post_full {v : Value} {l : List Pc} {w : World} (t : Int) (p : Pc) (h : NRow w v l) (hr : rightB l t = true) (hm : mayB p = true) (hf : l.length = 64) : Calls Try.prog 7 #[tv v t, nv p] w (PostE [] 0 7 w) := by
  obtain ⟨a, cap, rfl⟩ := h.slice
  have H := Lib.hid h
  obtain ⟨W0, hW0⟩ : ∃ W, (((w.alloc (.cells #[.slice a l.length cap, .int .i64 t] 24)).alloc (.cells #[.int .i64 p.n, .bool p.b, .int .i64 p.y, .int .i64 p.k, .int .i64 p.o, .bool p.s] 26)).alloc (.cells #[.slice none 0 0, .int .i64 0] 24)) = W := ⟨_, rfl⟩
  obtain ⟨hx0, hx1, hx2, hb0⟩ := three_boxes w (tcs (.slice a l.length cap) t) (ncs p) (tcs (.slice none 0 0) 0) _ _ _ W0 hW0
  have HX0 := Lib.hid hx0
  have HP0 := Lib.hid hx1
  have HR0 := Lib.hid hx2
  have HB0 := Lib.hid hb0
  have hri := Right_any t (h.below hb0)
  have hmb := fun W => mayBe_any p W
  rw [hr] at hri
  simp only [hm] at hmb
  clear hr hm
  have g1 : ((l.length : Int) == 64) = true := by simpa using (by omega : (l.length : Int) = 64)
  clear hf
  unfold tv at hri ⊢
  unfold nv at hmb ⊢
  have HRI := Lib.hid hri
  have HMB := Lib.hid hmb
  clear h hx0 hx1 hx2 hb0 hri hmb
  go_enter Try.func7, Try.ntmps7
  go_upto_region 1 with (fail)
  clear hW0
  obtain ⟨c0, c1⟩ := box2 HX0.out
  have hs0 := HX0.out.1
  go_wp2_with fail
  (with_reducible refine HRI.out.mono ?_)
  rintro e w1 ⟨rfl, hz⟩
  have HX1 := Lib.hid (HX0.out.below hz)
  have HP1 := Lib.hid (HP0.out.below hz)
  have HR1 := Lib.hid (HR0.out.below hz)
  have HB1 := Lib.hid (below_trans HB0.out hz)
  clear hz c0 c1 hs0 HX0 HP0 HR0 HRI
  obtain ⟨d0, d1, d2, d3, d4, d5⟩ := box6 HP1.out
  have hs1 := HP1.out.1
  go_wp2_with fail
  (with_reducible refine (HMB.out _).mono ?_)
  rintro e w2 ⟨rfl, hz⟩
  have HX2 := Lib.hid (HX1.out.below hz)
  have HP2 := Lib.hid (HP1.out.below hz)
  have HR2 := Lib.hid (HR1.out.below hz)
  have HB2 := Lib.hid (below_trans HB1.out hz)
  clear hz d0 d1 d2 d3 d4 d5 hs1 HX1 HP1 HR1 HMB
  obtain ⟨c0, c1⟩ := box2 HX2.out
  have hs0 := HX2.out.1
  obtain ⟨y0, y1⟩ := box2 HR2.out
  obtain ⟨z0, z1⟩ := frz2 HR2.out
  have hsz := HR2.out.1
  have HE := Lib.hid (below_two (b := w.heap.size + 2) (.slice none 0 0) (.int .i64 0) HB2.out (by omega))
  go_wp2_with fail
  exact bodyPost_ret (by simp [results, Try.results7, go_sem, tv, y0, y1]) rfl ⟨_, rfl, NRow.nil _, far_nil _ _ _, HE.out⟩
set_option maxRecDepth 100000 in
set_option maxHeartbeats 8000000 in
theorem Post_last {v : Value} {l : List Pc} {w : World} (t : Int) (p : Pc) (h : NRow w v l) (hr : rightB l t = true) (hm : mayB p = true) (hf : l.length ≠ 64) (ht : t = 1099511627776) : Calls Try.prog 7 #[tv v t, nv p] w (PostE [] 0 7 w) := by
  obtain ⟨a, cap, rfl⟩ := h.slice
  have H := Lib.hid h
  obtain ⟨W0, hW0⟩ : ∃ W, (((w.alloc (.cells #[.slice a l.length cap, .int .i64 t] 24)).alloc (.cells #[.int .i64 p.n, .bool p.b, .int .i64 p.y, .int .i64 p.k, .int .i64 p.o, .bool p.s] 26)).alloc (.cells #[.slice none 0 0, .int .i64 0] 24)) = W := ⟨_, rfl⟩
  obtain ⟨hx0, hx1, hx2, hb0⟩ := three_boxes w (tcs (.slice a l.length cap) t) (ncs p) (tcs (.slice none 0 0) 0) _ _ _ W0 hW0
  have HX0 := Lib.hid hx0
  have HP0 := Lib.hid hx1
  have HR0 := Lib.hid hx2
  have HB0 := Lib.hid hb0
  have hri := Right_any t (h.below hb0)
  have hmb := fun W => mayBe_any p W
  rw [hr] at hri
  simp only [hm] at hmb
  clear hr hm
  have g1 : ((l.length : Int) == 64) = false := by simpa using (by omega : ¬ (l.length : Int) = 64)
  have g2 : (t == 1099511627776) = true := by simpa using ht
  clear hf ht
  unfold tv at hri ⊢
  unfold nv at hmb ⊢
  have HRI := Lib.hid hri
  have HMB := Lib.hid hmb
  clear h hx0 hx1 hx2 hb0 hri hmb
  go_enter Try.func7, Try.ntmps7
  go_upto_region 1 with (fail)
  clear hW0
  obtain ⟨c0, c1⟩ := box2 HX0.out
  have hs0 := HX0.out.1
  go_wp2_with fail
  (with_reducible refine HRI.out.mono ?_)
  rintro e w1 ⟨rfl, hz⟩
  have HX1 := Lib.hid (HX0.out.below hz)
  have HP1 := Lib.hid (HP0.out.below hz)
  have HR1 := Lib.hid (HR0.out.below hz)
  have HB1 := Lib.hid (below_trans HB0.out hz)
  clear hz c0 c1 hs0 HX0 HP0 HR0 HRI
  obtain ⟨d0, d1, d2, d3, d4, d5⟩ := box6 HP1.out
  have hs1 := HP1.out.1
  go_wp2_with fail
  (with_reducible refine (HMB.out _).mono ?_)
  rintro e w2 ⟨rfl, hz⟩
  have HX2 := Lib.hid (HX1.out.below hz)
  have HP2 := Lib.hid (HP1.out.below hz)
  have HR2 := Lib.hid (HR1.out.below hz)
  have HB2 := Lib.hid (below_trans HB1.out hz)
  clear hz d0 d1 d2 d3 d4 d5 hs1 HX1 HP1 HR1 HMB
  obtain ⟨c0, c1⟩ := box2 HX2.out
  have hs0 := HX2.out.1
  obtain ⟨y0, y1⟩ := box2 HR2.out
  obtain ⟨z0, z1⟩ := frz2 HR2.out
  have hsz := HR2.out.1
  have HE := Lib.hid (below_two (b := w.heap.size + 2) (.slice none 0 0) (.int .i64 0) HB2.out (by omega))
  go_wp2_with fail
  exact bodyPost_ret (by simp [results, Try.results7, go_sem, tv, y0, y1]) rfl ⟨_, rfl, NRow.nil _, far_nil _ _ _, HE.out⟩
theorem box_under {b B : Nat} {vs : List Value} {w w' : World} (h : Box b vs w) (hb : Below B w w') (hB : b < B) : Box b vs w' :=
  ⟨Nat.lt_of_lt_of_le h.1 hb.size, fun j v hj => ⟨(hb.cell (p := ⟨b, j, none⟩) hB).trans (h.2 j v hj).1, (hb.frozen (p := ⟨b, j, none⟩) hB).trans (h.2 j v hj).2⟩⟩
set_option maxRecDepth 100000 in
set_option maxHeartbeats 8000000 in
theorem Post_yes {v : Value} {l : List Pc} {w : World} (t : Int) (p : Pc) (h : NRow w v l) (hr : rightB l t = true) (hm : mayB p = true) (hf : l.length ≠ 64) (ht : t ≠ 1099511627776) : Calls Try.prog 7 #[tv v t, nv p] w (PostE (post l t p) (t + 1) 0 w) := by
  obtain ⟨a, cap, rfl⟩ := h.slice
  have H := Lib.hid h
  obtain ⟨W0, hW0⟩ : ∃ W, (((w.alloc (.cells #[.slice a l.length cap, .int .i64 t] 24)).alloc (.cells #[.int .i64 p.n, .bool p.b, .int .i64 p.y, .int .i64 p.k, .int .i64 p.o, .bool p.s] 26)).alloc (.cells #[.slice none 0 0, .int .i64 0] 24)) = W := ⟨_, rfl⟩
  obtain ⟨hx0, hx1, hx2, hb0⟩ := three_boxes w (tcs (.slice a l.length cap) t) (ncs p) (tcs (.slice none 0 0) 0) _ _ _ W0 hW0
  have HX0 := Lib.hid hx0
  have HP0 := Lib.hid hx1
  have HR0 := Lib.hid hx2
  have HB0 := Lib.hid hb0
  have hri := Right_any t (h.below hb0)
  have hmb := fun W => mayBe_any p W
  have hln := (rightB_t.1 hr).1
  have hlt := (rightB_t.1 hr).2.1
  rw [hr] at hri
  simp only [hm] at hmb
  clear hr hm
  have g1 : ((l.length : Int) == 64) = false := by simpa using (by omega : ¬ (l.length : Int) = 64)
  have g2 : (t == 1099511627776) = false := by simpa using ht
  have g3 : IntKind.i64.wrap (t + 1) = t + 1 := IntWalk.i64_in _ (by omega)
  clear hf ht hlt
  unfold tv at hri ⊢
  unfold nv at hmb ⊢
  have HRI := Lib.hid hri
  have HMB := Lib.hid hmb
  clear h hx0 hx1 hx2 hb0 hri hmb
  go_enter Try.func7, Try.ntmps7
  go_upto_region 1 with (fail)
  clear hW0
  obtain ⟨c0, c1⟩ := box2 HX0.out
  have hs0 := HX0.out.1
  go_wp2_with fail
  (with_reducible refine HRI.out.mono ?_)
  rintro e w1 ⟨rfl, hz⟩
  have HX1 := Lib.hid (HX0.out.below hz)
  have HP1 := Lib.hid (HP0.out.below hz)
  have HR1 := Lib.hid (HR0.out.below hz)
  have HB1 := Lib.hid (below_trans HB0.out hz)
  clear hz c0 c1 hs0 HX0 HP0 HR0 HRI
  obtain ⟨d0, d1, d2, d3, d4, d5⟩ := box6 HP1.out
  have hs1 := HP1.out.1
  go_wp2_with fail
  (with_reducible refine (HMB.out _).mono ?_)
  rintro e w2 ⟨rfl, hz⟩
  have HX2 := Lib.hid (HX1.out.below hz)
  have HP2 := Lib.hid (HP1.out.below hz)
  have HR2 := Lib.hid (HR1.out.below hz)
  have HB2 := Lib.hid (below_trans HB1.out hz)
  clear hz d0 d1 d2 d3 d4 d5 hs1 HX1 HP1 HR1 HMB
  obtain ⟨c0, c1⟩ := box2 HX2.out
  have hs0 := HX2.out.1
  obtain ⟨d0, d1, d2, d3, d4, d5⟩ := box6 HP2.out
  obtain ⟨e0, e1, e2, e3, e4, e5⟩ := frz6 HP2.out
  have hs1 := HP2.out.1
  have hp3 : Box (w.heap.size + 1) [.int .i64 (t + 1), .bool p.b, .int .i64 p.y, .int .i64 p.k, .int .i64 p.o, .bool p.s] (w2.setCell ⟨w.heap.size + 1, 0, none⟩ (.int .i64 (t + 1))) := box_put HP2.out 0 (.int .i64 (t + 1)) (by simp [ncs])
  have hx3 := box_set_other (j := 0) HX2.out (g := w.heap.size + 1) (by omega) (.int .i64 (t + 1))
  have hr3 := box_set_other (j := 0) HR2.out (g := w.heap.size + 1) (by omega) (.int .i64 (t + 1))
  have hb3 := below_set (b := w.heap.size + 1) (j := 0) (.int .i64 (t + 1)) HB2.out (by omega)
  go_upto_region 6 with (fail)
  clear c0 c1 hs0 d0 d1 d2 d3 d4 d5 e0 e1 e2 e3 e4 e5 hs1 HX2 HP2 HR2
  generalize w2.setCell ⟨w.heap.size + 1, 0, none⟩ (.int .i64 (t + 1)) = w3 at hp3 hx3 hr3 hb3 ⊢
  have HX3 := Lib.hid hx3
  have HP3 := Lib.hid hp3
  have HR3 := Lib.hid hr3
  have HB3 := Lib.hid hb3
  have HV := Lib.hid (H.out.below hb3)
  clear hp3 hx3 hr3 hb3
  have hgo : ∀ W', Below w3.heap.size w3 W' → Box w.heap.size (tcs (.slice a l.length cap) t) W' ∧ Box (w.heap.size + 1) [.int .i64 (t + 1), .bool p.b, .int .i64 p.y, .int .i64 p.k, .int .i64 p.o, .bool p.s] W' := fun W' hW => ⟨HX3.out.below hW, HP3.out.below hW⟩
  refine wp_region_noPanic ?_
  refine till_region (fun W' => Box w.heap.size (tcs (.slice a l.length cap) t) W' ∧ Box (w.heap.size + 1) [.int .i64 (t + 1), .bool p.b, .int .i64 p.y, .int .i64 p.k, .int .i64 p.o, .bool p.s] W') (fun j => decide (13 ≤ j)) (by kernel_rfl) ?_
  have HWD := Lib.hid (dr w3)
  generalize w3.drew = WD at HWD ⊢
  have hS := hgo _ HWD.out
  try simp only [Act.put, List.setIfInBounds_toArray, List.set_cons_zero, List.set_cons_succ]
  refine takeT 0 30 [13, 14] (.pointer (some ⟨w.heap.size, 0, none⟩)) calm_np rfl rfl (by kernel_rfl) (by rfl) (by kernel_rfl) (by kernel_rfl) (by kernel_rfl) (by kernel_rfl) (by rfl) (fun w' hSw => by go_simp) hS ?_
  try simp only [Act.put, List.setIfInBounds_toArray, List.set_cons_zero, List.set_cons_succ]
  refine takeT 1 31 [13, 14] (.slice a l.length cap) calm_np rfl rfl (by kernel_rfl) (by rfl) (by kernel_rfl) (by kernel_rfl) (by kernel_rfl) (by kernel_rfl) (by rfl) (fun w' hSw => by obtain ⟨f0, f1⟩ := box2 hSw.1; have hsl := hSw.1.1; go_simp) hS ?_
  try simp only [Act.put, List.setIfInBounds_toArray, List.set_cons_zero, List.set_cons_succ]
  refine takeT 3 33 [13, 14] (.agg #[.int .i64 (t + 1), .bool p.b, .int .i64 p.y, .int .i64 p.k, .int .i64 p.o, .bool p.s]) calm_np rfl rfl (by kernel_rfl) (by rfl) (by kernel_rfl) (by kernel_rfl) (by kernel_rfl) (by kernel_rfl) (by rfl) (fun w' hSw => by obtain ⟨f0, f1, f2, f3, f4, f5⟩ := box6 hSw.2; have hsl := hSw.2.1; go_simp) hS ?_
  try simp only [Act.put, List.setIfInBounds_toArray, List.set_cons_zero, List.set_cons_succ]
  refine takeT 7 37 [13, 14] (.pointer (some ⟨w.heap.size + 1, 0, none⟩)) calm_np rfl rfl (by kernel_rfl) (by rfl) (by kernel_rfl) (by kernel_rfl) (by kernel_rfl) (by kernel_rfl) (by rfl) (fun w' hSw => by go_simp) hS ?_
  try simp only [Act.put, List.setIfInBounds_toArray, List.set_cons_zero, List.set_cons_succ]
  refine takeT 8 38 [13, 14] (.int .i64 (t + 1)) calm_np rfl rfl (by kernel_rfl) (by rfl) (by kernel_rfl) (by kernel_rfl) (by kernel_rfl) (by kernel_rfl) (by rfl) (fun w' hSw => by obtain ⟨f0, f1, f2, f3, f4, f5⟩ := box6 hSw.2; have hsl := hSw.2.1; go_simp) hS ?_
  try simp only [Act.put, List.setIfInBounds_toArray, List.set_cons_zero, List.set_cons_succ]
  refine takeT 10 40 [13, 14] (.pointer (some ⟨w.heap.size + 1, 0, none⟩)) calm_np rfl rfl (by kernel_rfl) (by rfl) (by kernel_rfl) (by kernel_rfl) (by kernel_rfl) (by kernel_rfl) (by rfl) (fun w' hSw => by go_simp) hS ?_
  try simp only [Act.put, List.setIfInBounds_toArray, List.set_cons_zero, List.set_cons_succ]
  refine takeT 11 41 [13, 14] (.int .i64 (t + 1)) calm_np rfl rfl (by kernel_rfl) (by rfl) (by kernel_rfl) (by kernel_rfl) (by kernel_rfl) (by kernel_rfl) (by rfl) (fun w' hSw => by obtain ⟨f0, f1, f2, f3, f4, f5⟩ := box6 hSw.2; have hsl := hSw.2.1; go_simp) hS ?_
  try simp only [Act.put, List.setIfInBounds_toArray, List.set_cons_zero, List.set_cons_succ]
  have HDW := HWD
  refine till_ready (rs := [2, 4]) (by kernel_rfl) (by simp) (Each.cons rfl (fun K hK => ?_) (Each.cons rfl (fun K hK => ?_) Each.nil))
  · go_simp
    (with_reducible refine (Clone_any (HV.out.below HDW.out) (by omega)).mono ?_)
    rintro e WC ⟨vc, rfl, hown, hz⟩
    obtain ⟨ac, nc, cc, rfl⟩ : ∃ a n c, vc = .slice a n c := (by obtain ⟨a', c', e⟩ := hown.row.slice; exact ⟨a', _, c', e⟩)
    have HDC := Lib.hid (below_trans HDW.out hz)
    have HO := Lib.hid (hown.mono (B' := w.heap.size + 3) (by have := HDW.out.size; have := HR3.out.1; omega))
    have hSC := hgo _ HDC.out
    go_simp
    refine hK.out _ _ (fun _ => hSC) ?_
    clear hK hS hown hz
    have hS := hSC
    clear hSC
    try simp only [Act.put, List.setIfInBounds_toArray, List.set_cons_zero, List.set_cons_succ]
    refine till_ready (rs := [4]) (by kernel_rfl) (by simp) (Each.cons rfl (fun K hK => ?_) Each.nil)
    go_simp
    obtain ⟨Wa, hWa⟩ : ∃ W, WC.alloc (.cells #[.int .i64 (t + 1), .bool p.b, .int .i64 p.y, .int .i64 p.k, .int .i64 p.o, .bool p.s] 26) = W := ⟨_, rfl⟩
    have hz : Below WC.heap.size WC Wa := hWa ▸ al _ _
    have HONE : Hid (NRow Wa (.slice (some ⟨WC.heap.size, 0, none⟩) 1 1) [num p (t + 1)]) := Lib.hid (hWa ▸ NRow.one WC (num p (t + 1)))
    have HDA := Lib.hid (below_trans HDC.out hz)
    have HOA := Lib.hid (HO.out.below hz)
    rw [hWa]
    have hSA := hgo _ HDA.out
    refine hK.out _ _ (fun _ => hSA) ?_
    clear hK hS hWa hz
    have hS := hSA
    clear hSA
    generalize WC.heap.size = ga at *
    try simp only [Act.put, List.setIfInBounds_toArray, List.set_cons_zero, List.set_cons_succ]
    refine till_ready (rs := [5]) (by kernel_rfl) (by simp) (Each.cons rfl (fun K hK => ?_) Each.nil)
    go_simp
    obtain ⟨Wb, hWb⟩ : ∃ W, Wa.alloc (.cells #[.slice (some ⟨ga, 0, none⟩) 1 1] 22) = W := ⟨_, rfl⟩
    have hz : Below Wa.heap.size Wa Wb := hWb ▸ al _ _
    have HBX : Hid (Box Wa.heap.size [.slice (some ⟨ga, 0, none⟩) 1 1] Wb) := Lib.hid (hWb ▸ Box.made Wa [.slice (some ⟨ga, 0, none⟩) 1 1] 22)
    have HDB := Lib.hid (below_trans HDA.out hz)
    have HONB := Lib.hid (HONE.out.below hz)
    have HOB := Lib.hid (HOA.out.below hz)
    rw [hWb]
    have hSB := hgo _ HDB.out
    refine hK.out _ _ (fun _ => hSB) ?_
    clear hK hS hWb hz
    have hS := hSB
    clear hSB
    generalize Wa.heap.size = gb at *
    try simp only [Act.put, List.setIfInBounds_toArray, List.set_cons_zero, List.set_cons_succ]
    have HTG := Lib.hid (together_1 (B0 := w.heap.size + 3) (B := w.heap.size + 3) HBX.out (l := l) HOB.out.fst HONB.out (by omega) (by simp) (by have := HDB.out.size; have := HR3.out.1; omega) (Nat.le_refl _) (HOB.out.far (Nat.le_refl _)))
    refine till_ready (rs := [6]) (by kernel_rfl) (by simp) (Each.cons rfl (fun K hK => ?_) Each.nil)
    go_simp
    (with_reducible refine HTG.out.mono ?_)
    rintro e W6 ⟨v6, rfl, hrow, hfr, hz⟩
    obtain ⟨a6, n6, c6, rfl⟩ : ∃ a n c, v6 = .slice a n c := (by obtain ⟨a', c', e⟩ := hrow.slice; exact ⟨a', _, c', e⟩)
    have hx6 := box_under (HX3.out.below HDB.out) hz (by omega)
    have hp6 := box_under (HP3.out.below HDB.out) hz (by omega)
    have hr6 := box_under (HR3.out.below HDB.out) hz (by omega)
    have HD6 := Lib.hid ((below_trans HB3.out HDB.out).trans (hz.mono (by omega)))
    go_simp
    refine hK.out _ _ (fun _ => ⟨hx6, hp6⟩) ?_
    clear hK hS
    have hS := (⟨hx6, hp6⟩ : Box w.heap.size (tcs (.slice a l.length cap) t) W6 ∧ Box (w.heap.size + 1) [.int .i64 (t + 1), .bool p.b, .int .i64 p.y, .int .i64 p.k, .int .i64 p.o, .bool p.s] W6)
    have HL := Lib.hid (NRow.far_two (g := w.heap.size + 2) (.slice a6 n6 c6) (.int .i64 (t + 1)) hrow hfr (by omega))
    have HFR := Lib.hid hfr
    clear hrow hfr hz HTG
    try simp only [Act.put, List.setIfInBounds_toArray, List.set_cons_zero, List.set_cons_succ]
    refine takeT 9 39 [13, 14] (.agg #[.slice a6 n6 c6, .int .i64 (t + 1)]) calm_np rfl rfl (by kernel_rfl) (by rfl) (by kernel_rfl) (by kernel_rfl) (by kernel_rfl) (by kernel_rfl) (by rfl) (fun w' hSw => by go_simp) hS ?_
    try simp only [Act.put, List.setIfInBounds_toArray, List.set_cons_zero, List.set_cons_succ]
    obtain ⟨y0, y1⟩ := box2 hr6
    obtain ⟨z0, z1⟩ := frz2 hr6
    have hsz := hr6.1
    have HE := Lib.hid (below_two (b := w.heap.size + 2) (.slice a6 n6 c6) (.int .i64 (t + 1)) HD6.out (by omega))
    have hx7 := box_set_other (j := 1) (box_set_other (j := 0) hx6 (g := w.heap.size + 2) (by omega) (.slice a6 n6 c6)) (g := w.heap.size + 2) (by omega) (.int .i64 (t + 1))
    have hp7 := box_set_other (j := 1) (box_set_other (j := 0) hp6 (g := w.heap.size + 2) (by omega) (.slice a6 n6 c6)) (g := w.heap.size + 2) (by omega) (.int .i64 (t + 1))
    clear hx6 hp6
    refine till_ready (rs := [12]) (by kernel_rfl) (by simp) (Each.cons rfl (fun K hK => ?_) Each.nil)
    go_simp
    refine hK.out _ _ (fun _ => ⟨hx7, hp7⟩) ?_
    clear hK hS hx7 hp7
    try simp only [Act.put, List.setIfInBounds_toArray, List.set_cons_zero, List.set_cons_succ]
    refine till_ready (rs := [13]) (by kernel_rfl) (by simp) (Each.cons rfl (fun K hK => ?_) Each.nil)
    go_simp
    refine hK.out _ _ (fun h => by cases h) ?_
    clear hK
    try simp only [Act.put, List.setIfInBounds_toArray, List.set_cons_zero, List.set_cons_succ]
    refine till_ready (rs := [14]) (by kernel_rfl) (by simp) (Each.cons rfl (fun K hK => ?_) Each.nil)
    go_simp
    refine hK.out _ _ (fun h => by cases h) ?_
    clear hK
    try simp only [Act.put, List.setIfInBounds_toArray, List.set_cons_zero, List.set_cons_succ]
    refine till_done (by kernel_rfl) ?_ _
    refine NoPanic.normal ?_
    go_wp2_with fail
    exact bodyPost_ret (by simp [results, Try.results7, go_sem, tv, y0, y1]) rfl ⟨.slice a6 n6 c6, rfl, HL.out, HFR.out.mono (by omega), HE.out⟩
  · go_simp
    obtain ⟨Wa, hWa⟩ : ∃ W, WD.alloc (.cells #[.int .i64 (t + 1), .bool p.b, .int .i64 p.y, .int .i64 p.k, .int .i64 p.o, .bool p.s] 26) = W := ⟨_, rfl⟩
    have hz : Below WD.heap.size WD Wa := hWa ▸ al _ _
    have HONE : Hid (NRow Wa (.slice (some ⟨WD.heap.size, 0, none⟩) 1 1) [num p (t + 1)]) := Lib.hid (hWa ▸ NRow.one WD (num p (t + 1)))
    have HDA := Lib.hid (below_trans HDW.out hz)
    rw [hWa]
    have hSA := hgo _ HDA.out
    refine hK.out _ _ (fun _ => hSA) ?_
    clear hK hS hWa hz
    have hS := hSA
    clear hSA
    generalize WD.heap.size = ga at *
    try simp only [Act.put, List.setIfInBounds_toArray, List.set_cons_zero, List.set_cons_succ]
    refine till_ready (rs := [2, 5]) (by kernel_rfl) (by simp) (Each.cons rfl (fun K hK => ?_) (Each.cons rfl (fun K hK => ?_) Each.nil))
    · go_simp
      (with_reducible refine (Clone_any (HV.out.below HDA.out) (by omega)).mono ?_)
      rintro e WC ⟨vc, rfl, hown, hz⟩
      obtain ⟨ac, nc, cc, rfl⟩ : ∃ a n c, vc = .slice a n c := (by obtain ⟨a', c', e⟩ := hown.row.slice; exact ⟨a', _, c', e⟩)
      have HDC := Lib.hid (below_trans HDA.out hz)
      have HO := Lib.hid (hown.mono (B' := w.heap.size + 3) (by have := HDA.out.size; have := HR3.out.1; omega))
      have HONEC := Lib.hid (HONE.out.below hz)
      have hSC := hgo _ HDC.out
      go_simp
      refine hK.out _ _ (fun _ => hSC) ?_
      clear hK hS hown hz
      have hS := hSC
      clear hSC
      try simp only [Act.put, List.setIfInBounds_toArray, List.set_cons_zero, List.set_cons_succ]
      refine till_ready (rs := [5]) (by kernel_rfl) (by simp) (Each.cons rfl (fun K hK => ?_) Each.nil)
      go_simp
      obtain ⟨Wb, hWb⟩ : ∃ W, WC.alloc (.cells #[.slice (some ⟨ga, 0, none⟩) 1 1] 22) = W := ⟨_, rfl⟩
      have hz : Below WC.heap.size WC Wb := hWb ▸ al _ _
      have HBX : Hid (Box WC.heap.size [.slice (some ⟨ga, 0, none⟩) 1 1] Wb) := Lib.hid (hWb ▸ Box.made WC [.slice (some ⟨ga, 0, none⟩) 1 1] 22)
      have HDB := Lib.hid (below_trans HDC.out hz)
      have HONB := Lib.hid (HONEC.out.below hz)
      have HOB := Lib.hid (HO.out.below hz)
      rw [hWb]
      have hSB := hgo _ HDB.out
      refine hK.out _ _ (fun _ => hSB) ?_
      clear hK hS hWb hz
      have hS := hSB
      clear hSB
      generalize WC.heap.size = gb at *
      try simp only [Act.put, List.setIfInBounds_toArray, List.set_cons_zero, List.set_cons_succ]
      have HTG := Lib.hid (together_1 (B0 := w.heap.size + 3) (B := w.heap.size + 3) HBX.out (l := l) HOB.out.fst HONB.out (by omega) (by simp) (by have := HDB.out.size; have := HR3.out.1; omega) (Nat.le_refl _) (HOB.out.far (Nat.le_refl _)))
      refine till_ready (rs := [6]) (by kernel_rfl) (by simp) (Each.cons rfl (fun K hK => ?_) Each.nil)
      go_simp
      (with_reducible refine HTG.out.mono ?_)
      rintro e W6 ⟨v6, rfl, hrow, hfr, hz⟩
      obtain ⟨a6, n6, c6, rfl⟩ : ∃ a n c, v6 = .slice a n c := (by obtain ⟨a', c', e⟩ := hrow.slice; exact ⟨a', _, c', e⟩)
      have hx6 := box_under (HX3.out.below HDB.out) hz (by omega)
      have hp6 := box_under (HP3.out.below HDB.out) hz (by omega)
      have hr6 := box_under (HR3.out.below HDB.out) hz (by omega)
      have HD6 := Lib.hid ((below_trans HB3.out HDB.out).trans (hz.mono (by omega)))
      go_simp
      refine hK.out _ _ (fun _ => ⟨hx6, hp6⟩) ?_
      clear hK hS
      have hS := (⟨hx6, hp6⟩ : Box w.heap.size (tcs (.slice a l.length cap) t) W6 ∧ Box (w.heap.size + 1) [.int .i64 (t + 1), .bool p.b, .int .i64 p.y, .int .i64 p.k, .int .i64 p.o, .bool p.s] W6)
      have HL := Lib.hid (NRow.far_two (g := w.heap.size + 2) (.slice a6 n6 c6) (.int .i64 (t + 1)) hrow hfr (by omega))
      have HFR := Lib.hid hfr
      clear hrow hfr hz HTG
      try simp only [Act.put, List.setIfInBounds_toArray, List.set_cons_zero, List.set_cons_succ]
      refine takeT 9 39 [13, 14] (.agg #[.slice a6 n6 c6, .int .i64 (t + 1)]) calm_np rfl rfl (by kernel_rfl) (by rfl) (by kernel_rfl) (by kernel_rfl) (by kernel_rfl) (by kernel_rfl) (by rfl) (fun w' hSw => by go_simp) hS ?_
      try simp only [Act.put, List.setIfInBounds_toArray, List.set_cons_zero, List.set_cons_succ]
      obtain ⟨y0, y1⟩ := box2 hr6
      obtain ⟨z0, z1⟩ := frz2 hr6
      have hsz := hr6.1
      have HE := Lib.hid (below_two (b := w.heap.size + 2) (.slice a6 n6 c6) (.int .i64 (t + 1)) HD6.out (by omega))
      have hx7 := box_set_other (j := 1) (box_set_other (j := 0) hx6 (g := w.heap.size + 2) (by omega) (.slice a6 n6 c6)) (g := w.heap.size + 2) (by omega) (.int .i64 (t + 1))
      have hp7 := box_set_other (j := 1) (box_set_other (j := 0) hp6 (g := w.heap.size + 2) (by omega) (.slice a6 n6 c6)) (g := w.heap.size + 2) (by omega) (.int .i64 (t + 1))
      clear hx6 hp6
      refine till_ready (rs := [12]) (by kernel_rfl) (by simp) (Each.cons rfl (fun K hK => ?_) Each.nil)
      go_simp
      refine hK.out _ _ (fun _ => ⟨hx7, hp7⟩) ?_
      clear hK hS hx7 hp7
      try simp only [Act.put, List.setIfInBounds_toArray, List.set_cons_zero, List.set_cons_succ]
      refine till_ready (rs := [13]) (by kernel_rfl) (by simp) (Each.cons rfl (fun K hK => ?_) Each.nil)
      go_simp
      refine hK.out _ _ (fun h => by cases h) ?_
      clear hK
      try simp only [Act.put, List.setIfInBounds_toArray, List.set_cons_zero, List.set_cons_succ]
      refine till_ready (rs := [14]) (by kernel_rfl) (by simp) (Each.cons rfl (fun K hK => ?_) Each.nil)
      go_simp
      refine hK.out _ _ (fun h => by cases h) ?_
      clear hK
      try simp only [Act.put, List.setIfInBounds_toArray, List.set_cons_zero, List.set_cons_succ]
      refine till_done (by kernel_rfl) ?_ _
      refine NoPanic.normal ?_
      go_wp2_with fail
      exact bodyPost_ret (by simp [results, Try.results7, go_sem, tv, y0, y1]) rfl ⟨.slice a6 n6 c6, rfl, HL.out, HFR.out.mono (by omega), HE.out⟩
    · go_simp
      obtain ⟨Wb, hWb⟩ : ∃ W, Wa.alloc (.cells #[.slice (some ⟨ga, 0, none⟩) 1 1] 22) = W := ⟨_, rfl⟩
      have hz : Below Wa.heap.size Wa Wb := hWb ▸ al _ _
      have HBX : Hid (Box Wa.heap.size [.slice (some ⟨ga, 0, none⟩) 1 1] Wb) := Lib.hid (hWb ▸ Box.made Wa [.slice (some ⟨ga, 0, none⟩) 1 1] 22)
      have HDB := Lib.hid (below_trans HDA.out hz)
      have HONB := Lib.hid (HONE.out.below hz)
      rw [hWb]
      have hSB := hgo _ HDB.out
      refine hK.out _ _ (fun _ => hSB) ?_
      clear hK hS hWb hz
      have hS := hSB
      clear hSB
      generalize Wa.heap.size = gb at *
      try simp only [Act.put, List.setIfInBounds_toArray, List.set_cons_zero, List.set_cons_succ]
      refine till_ready (rs := [2]) (by kernel_rfl) (by simp) (Each.cons rfl (fun K hK => ?_) Each.nil)
      go_simp
      (with_reducible refine (Clone_any (HV.out.below HDB.out) (by omega)).mono ?_)
      rintro e WC ⟨vc, rfl, hown, hz⟩
      obtain ⟨ac, nc, cc, rfl⟩ : ∃ a n c, vc = .slice a n c := (by obtain ⟨a', c', e⟩ := hown.row.slice; exact ⟨a', _, c', e⟩)
      have HDC := Lib.hid (below_trans HDB.out hz)
      have HO := Lib.hid (hown.mono (B' := w.heap.size + 3) (by have := HDB.out.size; have := HR3.out.1; omega))
      have HONBC := Lib.hid (HONB.out.below hz)
      have HBXC := Lib.hid (HBX.out.below hz)
      have hSC := hgo _ HDC.out
      go_simp
      refine hK.out _ _ (fun _ => hSC) ?_
      clear hK hS hown hz
      have hS := hSC
      clear hSC
      try simp only [Act.put, List.setIfInBounds_toArray, List.set_cons_zero, List.set_cons_succ]
      have HTG := Lib.hid (together_1 (B0 := w.heap.size + 3) (B := w.heap.size + 3) HBXC.out (l := l) HO.out.fst HONBC.out (by omega) (by simp) (by have := HDC.out.size; have := HR3.out.1; omega) (Nat.le_refl _) (HO.out.far (Nat.le_refl _)))
      refine till_ready (rs := [6]) (by kernel_rfl) (by simp) (Each.cons rfl (fun K hK => ?_) Each.nil)
      go_simp
      (with_reducible refine HTG.out.mono ?_)
      rintro e W6 ⟨v6, rfl, hrow, hfr, hz⟩
      obtain ⟨a6, n6, c6, rfl⟩ : ∃ a n c, v6 = .slice a n c := (by obtain ⟨a', c', e⟩ := hrow.slice; exact ⟨a', _, c', e⟩)
      have hx6 := box_under (HX3.out.below HDC.out) hz (by omega)
      have hp6 := box_under (HP3.out.below HDC.out) hz (by omega)
      have hr6 := box_under (HR3.out.below HDC.out) hz (by omega)
      have HD6 := Lib.hid ((below_trans HB3.out HDC.out).trans (hz.mono (by omega)))
      go_simp
      refine hK.out _ _ (fun _ => ⟨hx6, hp6⟩) ?_
      clear hK hS
      have hS := (⟨hx6, hp6⟩ : Box w.heap.size (tcs (.slice a l.length cap) t) W6 ∧ Box (w.heap.size + 1) [.int .i64 (t + 1), .bool p.b, .int .i64 p.y, .int .i64 p.k, .int .i64 p.o, .bool p.s] W6)
      have HL := Lib.hid (NRow.far_two (g := w.heap.size + 2) (.slice a6 n6 c6) (.int .i64 (t + 1)) hrow hfr (by omega))
      have HFR := Lib.hid hfr
      clear hrow hfr hz HTG
      try simp only [Act.put, List.setIfInBounds_toArray, List.set_cons_zero, List.set_cons_succ]
      refine takeT 9 39 [13, 14] (.agg #[.slice a6 n6 c6, .int .i64 (t + 1)]) calm_np rfl rfl (by kernel_rfl) (by rfl) (by kernel_rfl) (by kernel_rfl) (by kernel_rfl) (by kernel_rfl) (by rfl) (fun w' hSw => by go_simp) hS ?_
      try simp only [Act.put, List.setIfInBounds_toArray, List.set_cons_zero, List.set_cons_succ]
      obtain ⟨y0, y1⟩ := box2 hr6
      obtain ⟨z0, z1⟩ := frz2 hr6
      have hsz := hr6.1
      have HE := Lib.hid (below_two (b := w.heap.size + 2) (.slice a6 n6 c6) (.int .i64 (t + 1)) HD6.out (by omega))
      have hx7 := box_set_other (j := 1) (box_set_other (j := 0) hx6 (g := w.heap.size + 2) (by omega) (.slice a6 n6 c6)) (g := w.heap.size + 2) (by omega) (.int .i64 (t + 1))
      have hp7 := box_set_other (j := 1) (box_set_other (j := 0) hp6 (g := w.heap.size + 2) (by omega) (.slice a6 n6 c6)) (g := w.heap.size + 2) (by omega) (.int .i64 (t + 1))
      clear hx6 hp6
      refine till_ready (rs := [12]) (by kernel_rfl) (by simp) (Each.cons rfl (fun K hK => ?_) Each.nil)
      go_simp
      refine hK.out _ _ (fun _ => ⟨hx7, hp7⟩) ?_
      clear hK hS hx7 hp7
      try simp only [Act.put, List.setIfInBounds_toArray, List.set_cons_zero, List.set_cons_succ]
      refine till_ready (rs := [13]) (by kernel_rfl) (by simp) (Each.cons rfl (fun K hK => ?_) Each.nil)
      go_simp
      refine hK.out _ _ (fun h => by cases h) ?_
      clear hK
      try simp only [Act.put, List.setIfInBounds_toArray, List.set_cons_zero, List.set_cons_succ]
      refine till_ready (rs := [14]) (by kernel_rfl) (by simp) (Each.cons rfl (fun K hK => ?_) Each.nil)
      go_simp
      refine hK.out _ _ (fun h => by cases h) ?_
      clear hK
      try simp only [Act.put, List.setIfInBounds_toArray, List.set_cons_zero, List.set_cons_succ]
      refine till_done (by kernel_rfl) ?_ _
      refine NoPanic.normal ?_
      go_wp2_with fail
      exact bodyPost_ret (by simp [results, Try.results7, go_sem, tv, y0, y1]) rfl ⟨.slice a6 n6 c6, rfl, HL.out, HFR.out.mono (by omega), HE.out⟩
end Go.Proofs.Ytkfjhfneagjejaa.Net
