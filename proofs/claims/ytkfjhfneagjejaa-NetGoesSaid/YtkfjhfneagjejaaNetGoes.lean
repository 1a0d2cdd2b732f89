/-
  Proved: for any net, parcel and place the law NetGoes returns true: which nets may be, and what posting any parcel, taking one, having it be there twice, and last, makes of any, is as the document says, or refused. No condition.
-/
import Derived.Test.YtkfjhfneagjejaaRows
import Derived.Test.YtkfjhfneagjejaaNRegs
import Derived.Deep.CutBlock
namespace Go.Proofs.Ytkfjhfneagjejaa.netGoes
open Go.ChangeShapes Go.WideShapes Go.ChangeAt Go.RowKit Go.Lib Go.Proofs.Ytkfjhfneagjejaa.Net
open Go.Proofs.Ytkfjhfneagjejaa.Queue (Box al dr below_trans ret_bool BoolB)
set_option linter.unusedVariables false

theorem own : ownKnob Try.prog.godebug = none := by kernel_rfl
theorem laidOut : laidOutB Try.prog = true := by kernel_rfl

set_option maxRecDepth 100000 in
set_option maxHeartbeats 64000000 in
theorem walk0 (t : Int) (v : Value) (p : Pc) (pl : Int) (pl1 : -9223372036854775808 ≤ pl) (pl2 : pl ≤ 9223372036854775807) (w : World) (hA : ArgN w v) :
    Calls Try.prog 3 #[tv v t, nv p, .int .i64 pl] w (BoolB true w) := by
  obtain ⟨l0, h0⟩ := hA
  obtain ⟨a, cap, rfl⟩ := h0.slice
  obtain ⟨w0, hw0⟩ : ∃ W, (w.alloc (.cells #[.slice a l0.length cap, .int .i64 t] 24)).alloc (.cells #[.int .i64 p.n, .bool p.b, .int .i64 p.y, .int .i64 p.k, .int .i64 p.o, .bool p.s] 26) = W := ⟨_, rfl⟩
  obtain ⟨hx0, hx1, hb0⟩ := two_boxes_at w [.slice a l0.length cap, .int .i64 t] [.int .i64 p.n, .bool p.b, .int .i64 p.y, .int .i64 p.k, .int .i64 p.o, .bool p.s] _ _ w0 hw0
  have HX3 := Lib.hid hx0
  have HX4 := Lib.hid hx1
  have HB := Lib.hid hb0
  have hfe := few_any t (h0.below hb0)
  have htk := take_row h0
  have HTK := Lib.hid htk
  have HLL : Hid ((l0.take 66).length ≤ 66) := Lib.hid (by rw [List.length_take]; omega)
  generalize l0.take 66 = l at *
  unfold tv at hfe
  have HFE := Lib.hid hfe
  have HRI := Lib.hid (fun W (h : NRow W (.slice a l.length cap) l) => Right_any t h)
  have HLR := Lib.hid (fun W (h : NRow W (.slice a l.length cap) l) => lawRight_any t h)
  have HPO := Lib.hid (fun W (h : NRow W (.slice a l.length cap) l) => Post_any t p h)
  have HTA := Lib.hid (fun W (h : NRow W (.slice a l.length cap) l) => Take_any t pl h)
  have HTW := Lib.hid (fun W (h : NRow W (.slice a l.length cap) l) => Twice_any t pl h)
  have HLA := Lib.hid (fun W (h : NRow W (.slice a l.length cap) l) => Last_any t pl h)
  have HMY := Lib.hid (fun W => may_any p W)
  have HLK := Lib.hid (fun (t : Int) (v u : Value) (l : List Pc) W (h : NRow W v l) (h' : NRow W u l) => Like_yes t h h')
  have HAL := Lib.hid alive_any
  have WP := Lib.hid (post_ways l t p)
  have WG := Lib.hid (goes_ways l t pl)
  generalize postL l t p = LP at *
  generalize postT l t p = TP at *
  generalize postZ l t p = zp at *
  generalize tookL l t pl = LT at *
  generalize tookT l t pl = TT at *
  generalize tookX l t pl = XT at *
  generalize placeZ l t pl = zt at *
  generalize twiceL l t pl = LW at *
  generalize twiceT l t pl = TW at *
  generalize twiceZ l t pl = zw at *
  generalize lastL l t pl = LL at *
  obtain ⟨T, hT⟩ : ∃ T, IntKind.i64.wrap (t + 1) = T := ⟨_, rfl⟩
  have HTT := Lib.hid hT
  unfold tv at HRI HLR HPO HTA HTW HLA HLK ⊢
  unfold nv at HPO HMY ⊢
  clear hx0 hx1 hb0 hfe htk h0 hT
  go_enter Try.func3, Try.ntmps3
  go_upto_region 1 with (fail)
  clear hw0
  obtain ⟨q3_0, q3_1⟩ := box2 HX3.out
  have s3_ := HX3.out.1
  go_wp2_with fail
  (with_reducible refine HFE.out.mono ?_)
  rintro e v0 ⟨rfl, hz⟩
  clear q3_0 q3_1 s3_
  have hx3 := HX3.out.below hz
  have hx4 := HX4.out.below hz
  have hb2 := below_two (b := w.heap.size) (.slice a l.length cap) (.int .i64 t) (below_trans HB.out hz) (Nat.le_refl _)
  have hp3 : Box w.heap.size [.slice a l.length cap, .int .i64 t] _ := box_put (box_put hx3 0 (.slice a l.length cap) (by simp)) 1 (.int .i64 t) (by simp)
  have hp4 := box_set_other (j := 1) (box_set_other (j := 0) hx4 (g := w.heap.size) (by omega) (.slice a l.length cap)) (g := w.heap.size) (by omega) (.int .i64 t)
  obtain ⟨y0, y1⟩ := box2 hx3
  obtain ⟨z0, z1⟩ := frz2 hx3
  have hs2 := hx3.1
  replace HX3 := Lib.hid hp3
  replace HX4 := Lib.hid hp4
  replace HB := Lib.hid hb2
  clear hz hx3 hx4 hb2 hp3 hp4 HFE
  go_upto_region 2 with (fail)
  clear y0 y1 z0 z1 hs2
  generalize (v0.setCell ⟨w.heap.size, 0, none⟩ (.slice a l.length cap)).setCell ⟨w.heap.size, 1, none⟩ (.int .i64 t) = w1 at HX3 HX4 HB ⊢
  have HR3 : Hid (NRow w1 (.slice a l.length cap) l) := Lib.hid (HTK.out.below HB.out)
  clear HTK
  obtain ⟨q3_0, q3_1⟩ := box2 HX3.out
  have s3_ := HX3.out.1
  obtain ⟨q4_0, q4_1, q4_2, q4_3, q4_4, q4_5⟩ := box6 HX4.out
  have s4_ := HX4.out.1
  go_wp2_with fail
  (with_reducible refine (HPO.out _ HR3.out).mono ?_)
  rintro e v2 ⟨u2, rfl, ho, _, hz⟩
  unfold tv
  obtain ⟨a2, n2, c2, rfl⟩ : ∃ a n c, u2 = .slice a n c := (by obtain ⟨a', c', e⟩ := ho.slice; exact ⟨a', _, c', e⟩)
  clear q3_0 q3_1 s3_ q4_0 q4_1 q4_2 q4_3 q4_4 q4_5 s4_
  obtain ⟨w2, hw2⟩ : ∃ W, (v2.alloc (.cells #[.slice a2 n2 c2, .int .i64 TP] 24)) = W := ⟨_, rfl⟩
  have hal : Below v2.heap.size v2 w2 := hw2 ▸ al v2 _
  have HX7 : Hid (Box v2.heap.size [.slice a2 n2 c2, .int .i64 TP] w2) := Lib.hid (hw2 ▸ Box.made v2 [.slice a2 n2 c2, .int .i64 TP] 24)
  have hz2 : Below w1.heap.size w1 w2 := below_trans hz hal
  replace HX3 : Hid (Box (w.heap.size) [.slice a l.length cap, .int .i64 t] w2) := Lib.hid (HX3.out.below hz2)
  replace HX4 : Hid (Box (w.heap.size + 1) [.int .i64 p.n, .bool p.b, .int .i64 p.y, .int .i64 p.k, .int .i64 p.o, .bool p.s] w2) := Lib.hid (HX4.out.below hz2)
  replace HR3 : Hid (NRow w2 (.slice a l.length cap) (l)) := Lib.hid (HR3.out.below hz2)
  replace HB : Hid (Below w.heap.size w w2) := Lib.hid (below_trans HB.out hz2)
  have HR7 : Hid (NRow w2 (.slice a2 n2 c2) (LP)) := Lib.hid ((ho).below hal)
  clear hz hz2 hal ho
  go_upto_region 3 with (fail)
  try rw [hw2]
  clear hw2
  generalize v2.heap.size = g2 at *
  obtain ⟨q3_0, q3_1⟩ := box2 HX3.out
  have s3_ := HX3.out.1
  go_wp2_with fail
  (with_reducible refine (HTA.out _ HR3.out).mono ?_)
  rintro e v3 ⟨u3, rfl, ho, _, hz⟩
  unfold tv nv
  obtain ⟨a3, n3, c3, rfl⟩ : ∃ a n c, u3 = .slice a n c := (by obtain ⟨a', c', e⟩ := ho.slice; exact ⟨a', _, c', e⟩)
  clear q3_0 q3_1 s3_
  obtain ⟨w3, hw3⟩ : ∃ W, ((v3.alloc (.cells #[.slice a3 n3 c3, .int .i64 TT] 24)).alloc (.cells #[.int .i64 XT.n, .bool XT.b, .int .i64 XT.y, .int .i64 XT.k, .int .i64 XT.o, .bool XT.s] 26)) = W := ⟨_, rfl⟩
  have hal : Below v3.heap.size v3 w3 := hw3 ▸ two_al v3 _ _
  have hbb := two_boxes v3 [.slice a3 n3 c3, .int .i64 TT] [.int .i64 XT.n, .bool XT.b, .int .i64 XT.y, .int .i64 XT.k, .int .i64 XT.o, .bool XT.s] 24 26
  have HX10 : Hid (Box v3.heap.size [.slice a3 n3 c3, .int .i64 TT] w3) := Lib.hid (hw3 ▸ hbb.1)
  have HX11 : Hid (Box (v3.heap.size + 1) [.int .i64 XT.n, .bool XT.b, .int .i64 XT.y, .int .i64 XT.k, .int .i64 XT.o, .bool XT.s] w3) := Lib.hid (hw3 ▸ hbb.2)
  clear hbb
  have hz2 : Below w2.heap.size w2 w3 := below_trans hz hal
  replace HX3 : Hid (Box (w.heap.size) [.slice a l.length cap, .int .i64 t] w3) := Lib.hid (HX3.out.below hz2)
  replace HX4 : Hid (Box (w.heap.size + 1) [.int .i64 p.n, .bool p.b, .int .i64 p.y, .int .i64 p.k, .int .i64 p.o, .bool p.s] w3) := Lib.hid (HX4.out.below hz2)
  replace HX7 : Hid (Box (g2) [.slice a2 n2 c2, .int .i64 TP] w3) := Lib.hid (HX7.out.below hz2)
  replace HR3 : Hid (NRow w3 (.slice a l.length cap) (l)) := Lib.hid (HR3.out.below hz2)
  replace HR7 : Hid (NRow w3 (.slice a2 n2 c2) (LP)) := Lib.hid (HR7.out.below hz2)
  replace HB : Hid (Below w.heap.size w w3) := Lib.hid (below_trans HB.out hz2)
  have HR10 : Hid (NRow w3 (.slice a3 n3 c3) (LT)) := Lib.hid ((ho).below hal)
  clear hz hz2 hal ho
  go_upto_region 4 with (fail)
  try rw [hw3]
  clear hw3
  generalize v3.heap.size = g3 at *
  obtain ⟨q3_0, q3_1⟩ := box2 HX3.out
  have s3_ := HX3.out.1
  go_wp2_with fail
  (with_reducible refine (HTW.out _ HR3.out).mono ?_)
  rintro e v4 ⟨u4, rfl, ho, _, hz⟩
  unfold tv
  obtain ⟨a4, n4, c4, rfl⟩ : ∃ a n c, u4 = .slice a n c := (by obtain ⟨a', c', e⟩ := ho.slice; exact ⟨a', _, c', e⟩)
  clear q3_0 q3_1 s3_
  obtain ⟨w4, hw4⟩ : ∃ W, (v4.alloc (.cells #[.slice a4 n4 c4, .int .i64 TW] 24)) = W := ⟨_, rfl⟩
  have hal : Below v4.heap.size v4 w4 := hw4 ▸ al v4 _
  have HX13 : Hid (Box v4.heap.size [.slice a4 n4 c4, .int .i64 TW] w4) := Lib.hid (hw4 ▸ Box.made v4 [.slice a4 n4 c4, .int .i64 TW] 24)
  have hz2 : Below w3.heap.size w3 w4 := below_trans hz hal
  replace HX3 : Hid (Box (w.heap.size) [.slice a l.length cap, .int .i64 t] w4) := Lib.hid (HX3.out.below hz2)
  replace HX4 : Hid (Box (w.heap.size + 1) [.int .i64 p.n, .bool p.b, .int .i64 p.y, .int .i64 p.k, .int .i64 p.o, .bool p.s] w4) := Lib.hid (HX4.out.below hz2)
  replace HX7 : Hid (Box (g2) [.slice a2 n2 c2, .int .i64 TP] w4) := Lib.hid (HX7.out.below hz2)
  replace HX10 : Hid (Box (g3) [.slice a3 n3 c3, .int .i64 TT] w4) := Lib.hid (HX10.out.below hz2)
  replace HX11 : Hid (Box (g3 + 1) [.int .i64 XT.n, .bool XT.b, .int .i64 XT.y, .int .i64 XT.k, .int .i64 XT.o, .bool XT.s] w4) := Lib.hid (HX11.out.below hz2)
  replace HR3 : Hid (NRow w4 (.slice a l.length cap) (l)) := Lib.hid (HR3.out.below hz2)
  replace HR7 : Hid (NRow w4 (.slice a2 n2 c2) (LP)) := Lib.hid (HR7.out.below hz2)
  replace HR10 : Hid (NRow w4 (.slice a3 n3 c3) (LT)) := Lib.hid (HR10.out.below hz2)
  replace HB : Hid (Below w.heap.size w w4) := Lib.hid (below_trans HB.out hz2)
  have HR13 : Hid (NRow w4 (.slice a4 n4 c4) (LW)) := Lib.hid ((ho).below hal)
  clear hz hz2 hal ho
  go_upto_region 5 with (fail)
  try rw [hw4]
  clear hw4
  generalize v4.heap.size = g4 at *
  obtain ⟨q3_0, q3_1⟩ := box2 HX3.out
  have s3_ := HX3.out.1
  go_wp2_with fail
  (with_reducible refine (HLA.out _ HR3.out).mono ?_)
  rintro e v5 ⟨u5, rfl, ho, _, hz⟩
  unfold tv
  obtain ⟨a5, n5, c5, rfl⟩ : ∃ a n c, u5 = .slice a n c := (by obtain ⟨a', c', e⟩ := ho.slice; exact ⟨a', _, c', e⟩)
  clear q3_0 q3_1 s3_
  obtain ⟨w5, hw5⟩ : ∃ W, (v5.alloc (.cells #[.slice a5 n5 c5, .int .i64 TT] 24)) = W := ⟨_, rfl⟩
  have hal : Below v5.heap.size v5 w5 := hw5 ▸ al v5 _
  have HX15 : Hid (Box v5.heap.size [.slice a5 n5 c5, .int .i64 TT] w5) := Lib.hid (hw5 ▸ Box.made v5 [.slice a5 n5 c5, .int .i64 TT] 24)
  have hz2 : Below w4.heap.size w4 w5 := below_trans hz hal
  replace HX3 : Hid (Box (w.heap.size) [.slice a l.length cap, .int .i64 t] w5) := Lib.hid (HX3.out.below hz2)
  replace HX4 : Hid (Box (w.heap.size + 1) [.int .i64 p.n, .bool p.b, .int .i64 p.y, .int .i64 p.k, .int .i64 p.o, .bool p.s] w5) := Lib.hid (HX4.out.below hz2)
  replace HX7 : Hid (Box (g2) [.slice a2 n2 c2, .int .i64 TP] w5) := Lib.hid (HX7.out.below hz2)
  replace HX10 : Hid (Box (g3) [.slice a3 n3 c3, .int .i64 TT] w5) := Lib.hid (HX10.out.below hz2)
  replace HX11 : Hid (Box (g3 + 1) [.int .i64 XT.n, .bool XT.b, .int .i64 XT.y, .int .i64 XT.k, .int .i64 XT.o, .bool XT.s] w5) := Lib.hid (HX11.out.below hz2)
  replace HX13 : Hid (Box (g4) [.slice a4 n4 c4, .int .i64 TW] w5) := Lib.hid (HX13.out.below hz2)
  replace HR3 : Hid (NRow w5 (.slice a l.length cap) (l)) := Lib.hid (HR3.out.below hz2)
  replace HR7 : Hid (NRow w5 (.slice a2 n2 c2) (LP)) := Lib.hid (HR7.out.below hz2)
  replace HR10 : Hid (NRow w5 (.slice a3 n3 c3) (LT)) := Lib.hid (HR10.out.below hz2)
  replace HR13 : Hid (NRow w5 (.slice a4 n4 c4) (LW)) := Lib.hid (HR13.out.below hz2)
  replace HB : Hid (Below w.heap.size w w5) := Lib.hid (below_trans HB.out hz2)
  have HR15 : Hid (NRow w5 (.slice a5 n5 c5) (LL)) := Lib.hid ((ho).below hal)
  clear hz hz2 hal ho
  go_upto_region 6 with (fail)
  try rw [hw5]
  clear hw5
  generalize v5.heap.size = g5 at *
  clear HPO HTA HTW HLA
  have hz := al w5 (.cells #[.slice none 0 0, .int .i64 0] 24)
  have hbx := Box.made w5 [.slice none 0 0, .int .i64 0] 24
  go_upto_region 7 with (fail)
  generalize w5.alloc (.cells #[.slice none 0 0, .int .i64 0] 24) = w6 at hz hbx ⊢
  replace HX3 : Hid (Box (w.heap.size) [.slice a l.length cap, .int .i64 t] w6) := Lib.hid (HX3.out.below hz)
  replace HX4 : Hid (Box (w.heap.size + 1) [.int .i64 p.n, .bool p.b, .int .i64 p.y, .int .i64 p.k, .int .i64 p.o, .bool p.s] w6) := Lib.hid (HX4.out.below hz)
  replace HX7 : Hid (Box (g2) [.slice a2 n2 c2, .int .i64 TP] w6) := Lib.hid (HX7.out.below hz)
  replace HX10 : Hid (Box (g3) [.slice a3 n3 c3, .int .i64 TT] w6) := Lib.hid (HX10.out.below hz)
  replace HX11 : Hid (Box (g3 + 1) [.int .i64 XT.n, .bool XT.b, .int .i64 XT.y, .int .i64 XT.k, .int .i64 XT.o, .bool XT.s] w6) := Lib.hid (HX11.out.below hz)
  replace HX13 : Hid (Box (g4) [.slice a4 n4 c4, .int .i64 TW] w6) := Lib.hid (HX13.out.below hz)
  replace HX15 : Hid (Box (g5) [.slice a5 n5 c5, .int .i64 TT] w6) := Lib.hid (HX15.out.below hz)
  replace HR3 : Hid (NRow w6 (.slice a l.length cap) (l)) := Lib.hid (HR3.out.below hz)
  replace HR7 : Hid (NRow w6 (.slice a2 n2 c2) (LP)) := Lib.hid (HR7.out.below hz)
  replace HR10 : Hid (NRow w6 (.slice a3 n3 c3) (LT)) := Lib.hid (HR10.out.below hz)
  replace HR13 : Hid (NRow w6 (.slice a4 n4 c4) (LW)) := Lib.hid (HR13.out.below hz)
  replace HR15 : Hid (NRow w6 (.slice a5 n5 c5) (LL)) := Lib.hid (HR15.out.below hz)
  replace HB : Hid (Below w.heap.size w w6) := Lib.hid (below_trans HB.out hz)
  have HX17 := Lib.hid hbx
  clear hz hbx
  generalize w5.heap.size = g6 at *
  have HRB : Hid (rightB l t = rightB l t) := Lib.hid rfl
  generalize hrb : rightB l t = rb at HRI HLR
  have HRE := Lib.hid hrb
  clear hrb HRB
  have hbb : (rb != rb) = false := by cases rb <;> rfl
  refine wp_region_noPanic ?_
  refine wp_region_held_drew (S := fun W' => Below w6.heap.size w6 W') (by kernel_rfl) (dr w6) (fun hHeld => ?_)
  try simp only [Act.put, List.setIfInBounds_toArray, List.set_cons_zero, List.set_cons_succ]
  refine takeH 0 54 (.agg #[.slice a l.length cap, .int .i64 t]) calm_np rfl rfl (by kernel_rfl) (by kernel_rfl) (by kernel_rfl) (by rfl) (fun W' hSw => by have g0 := (show _ = some (Value.slice a l.length cap) from (HX3.out.below hSw).at 0 rfl); have g1 := (show _ = some (Value.int .i64 t) from (HX3.out.below hSw).at 1 rfl); have hsz := (HX3.out.below hSw).1; go_simp) hHeld ?_
  try simp only [Act.put, List.setIfInBounds_toArray, List.set_cons_zero, List.set_cons_succ]
  refine takeH 2 56 (.agg #[.slice a l.length cap, .int .i64 t]) calm_np rfl rfl (by kernel_rfl) (by kernel_rfl) (by kernel_rfl) (by rfl) (fun W' hSw => by have g0 := (show _ = some (Value.slice a l.length cap) from (HX3.out.below hSw).at 0 rfl); have g1 := (show _ = some (Value.int .i64 t) from (HX3.out.below hSw).at 1 rfl); have hsz := (HX3.out.below hSw).1; go_simp) hHeld ?_
  try simp only [Act.put, List.setIfInBounds_toArray, List.set_cons_zero, List.set_cons_succ]
  refine wpAnyH_ready (rs := [1]) (by kernel_rfl) (by simp) (AllReadyH.cons rfl (fun K hK => ?_) AllReadyH.nil)
  go_simp
  (with_reducible refine (HRI.out _ (HR3.out.below hHeld)).mono ?_)
  rintro e V1 ⟨rfl, hz⟩
  have hh := below_trans hHeld hz
  clear hz
  go_simp
  refine hK.out _ _ hh (fun hHeld => ?_)
  clear hK hh
  try simp only [Act.put, List.setIfInBounds_toArray, List.set_cons_zero, List.set_cons_succ]
  refine wpAnyH_ready (rs := [3]) (by kernel_rfl) (by simp) (AllReadyH.cons rfl (fun K hK => ?_) AllReadyH.nil)
  go_simp
  (with_reducible refine (HLR.out _ (HR3.out.below hHeld)).mono ?_)
  rintro e V2 ⟨rfl, hz⟩
  have hh := below_trans hHeld hz
  clear hz
  go_simp
  refine hK.out _ _ hh (fun hHeld => ?_)
  clear hK hh
  try simp only [Act.put, List.setIfInBounds_toArray, List.set_cons_zero, List.set_cons_succ]
  refine takeH 4 58 (.bool false) calm_np rfl rfl (by kernel_rfl) (by kernel_rfl) (by kernel_rfl) (by rfl) (fun W' hSw => by go_simp) hHeld ?_
  try simp only [Act.put, List.setIfInBounds_toArray, List.set_cons_zero, List.set_cons_succ]
  refine takeH 5 59 (.bool false) calm_np rfl rfl (by kernel_rfl) (by kernel_rfl) (by kernel_rfl) (by rfl) (fun W' hSw => by go_simp) hHeld ?_
  try simp only [Act.put, List.setIfInBounds_toArray, List.set_cons_zero, List.set_cons_succ]
  refine wpAnyH_ready (rs := [6]) (by kernel_rfl) (by simp) (AllReadyH.cons rfl (fun K hK => ?_) AllReadyH.nil)
  go_simp
  (with_reducible refine (HAL.out _).mono ?_)
  rintro e V3 ⟨rfl, hz⟩
  have hh := below_trans hHeld hz
  clear hz
  go_simp
  refine hK.out _ _ hh (fun hHeld => ?_)
  clear hK hh
  try simp only [Act.put, List.setIfInBounds_toArray, List.set_cons_zero, List.set_cons_succ]
  refine takeH 7 61 (.bool false) calm_np rfl rfl (by kernel_rfl) (by kernel_rfl) (by kernel_rfl) (by rfl) (fun W' hSw => by go_simp) hHeld ?_
  try simp only [Act.put, List.setIfInBounds_toArray, List.set_cons_zero, List.set_cons_succ]
  refine takeH 8 62 (.bool false) calm_np rfl rfl (by kernel_rfl) (by kernel_rfl) (by kernel_rfl) (by rfl) (fun W' hSw => by go_simp) hHeld ?_
  try simp only [Act.put, List.setIfInBounds_toArray, List.set_cons_zero, List.set_cons_succ]
  refine wpAnyH_done (by kernel_rfl) ?_ _
  refine NoPanic.normal ?_
  have HH := Lib.hid hHeld
  clear hHeld
  rename World => v8
  have hz := HH.out
  replace HX3 : Hid (Box (w.heap.size) [.slice a l.length cap, .int .i64 t] v8) := Lib.hid (HX3.out.below hz)
  replace HX4 : Hid (Box (w.heap.size + 1) [.int .i64 p.n, .bool p.b, .int .i64 p.y, .int .i64 p.k, .int .i64 p.o, .bool p.s] v8) := Lib.hid (HX4.out.below hz)
  replace HX7 : Hid (Box (g2) [.slice a2 n2 c2, .int .i64 TP] v8) := Lib.hid (HX7.out.below hz)
  replace HX10 : Hid (Box (g3) [.slice a3 n3 c3, .int .i64 TT] v8) := Lib.hid (HX10.out.below hz)
  replace HX11 : Hid (Box (g3 + 1) [.int .i64 XT.n, .bool XT.b, .int .i64 XT.y, .int .i64 XT.k, .int .i64 XT.o, .bool XT.s] v8) := Lib.hid (HX11.out.below hz)
  replace HX13 : Hid (Box (g4) [.slice a4 n4 c4, .int .i64 TW] v8) := Lib.hid (HX13.out.below hz)
  replace HX15 : Hid (Box (g5) [.slice a5 n5 c5, .int .i64 TT] v8) := Lib.hid (HX15.out.below hz)
  replace HX17 : Hid (Box (g6) [.slice none 0 0, .int .i64 0] v8) := Lib.hid (HX17.out.below hz)
  replace HR3 : Hid (NRow v8 (.slice a l.length cap) (l)) := Lib.hid (HR3.out.below hz)
  replace HR7 : Hid (NRow v8 (.slice a2 n2 c2) (LP)) := Lib.hid (HR7.out.below hz)
  replace HR10 : Hid (NRow v8 (.slice a3 n3 c3) (LT)) := Lib.hid (HR10.out.below hz)
  replace HR13 : Hid (NRow v8 (.slice a4 n4 c4) (LW)) := Lib.hid (HR13.out.below hz)
  replace HR15 : Hid (NRow v8 (.slice a5 n5 c5) (LL)) := Lib.hid (HR15.out.below hz)
  replace HB : Hid (Below w.heap.size w v8) := Lib.hid (below_trans HB.out hz)
  clear hz HH
  clear hbb
  go_upto_block 0 with (fail)
  go_cut [18] from 25 to 81 (fun x wx => x = .int .i64 zp ∧ Below v8.heap.size v8 wx)
  case first =>
    replace HB : Hid (Below v8.heap.size v8 v8) := Lib.hid (Below.refl _ _)
    cases hrb : rb with
    | false =>
      subst hrb
      rcases WP.out with ⟨-, e1, -, -⟩ | ⟨hr, -⟩ | ⟨hr, -⟩
      · have E1 := Lib.hid e1
        clear e1
        obtain ⟨q3_0, q3_1⟩ := box2 HX3.out
        have s3_ := HX3.out.1
        go_wp2_with fail
        (with_reducible refine (HLR.out _ HR3.out).mono ?_)
        rintro e v9 ⟨rfl, hz⟩
        clear q3_0 q3_1 s3_
        replace HX3 : Hid (Box (w.heap.size) [.slice a l.length cap, .int .i64 t] v9) := Lib.hid (HX3.out.below hz)
        replace HX4 : Hid (Box (w.heap.size + 1) [.int .i64 p.n, .bool p.b, .int .i64 p.y, .int .i64 p.k, .int .i64 p.o, .bool p.s] v9) := Lib.hid (HX4.out.below hz)
        replace HX7 : Hid (Box (g2) [.slice a2 n2 c2, .int .i64 TP] v9) := Lib.hid (HX7.out.below hz)
        replace HX10 : Hid (Box (g3) [.slice a3 n3 c3, .int .i64 TT] v9) := Lib.hid (HX10.out.below hz)
        replace HX11 : Hid (Box (g3 + 1) [.int .i64 XT.n, .bool XT.b, .int .i64 XT.y, .int .i64 XT.k, .int .i64 XT.o, .bool XT.s] v9) := Lib.hid (HX11.out.below hz)
        replace HX13 : Hid (Box (g4) [.slice a4 n4 c4, .int .i64 TW] v9) := Lib.hid (HX13.out.below hz)
        replace HX15 : Hid (Box (g5) [.slice a5 n5 c5, .int .i64 TT] v9) := Lib.hid (HX15.out.below hz)
        replace HX17 : Hid (Box (g6) [.slice none 0 0, .int .i64 0] v9) := Lib.hid (HX17.out.below hz)
        replace HR3 : Hid (NRow v9 (.slice a l.length cap) (l)) := Lib.hid (HR3.out.below hz)
        replace HR7 : Hid (NRow v9 (.slice a2 n2 c2) (LP)) := Lib.hid (HR7.out.below hz)
        replace HR10 : Hid (NRow v9 (.slice a3 n3 c3) (LT)) := Lib.hid (HR10.out.below hz)
        replace HR13 : Hid (NRow v9 (.slice a4 n4 c4) (LW)) := Lib.hid (HR13.out.below hz)
        replace HR15 : Hid (NRow v9 (.slice a5 n5 c5) (LL)) := Lib.hid (HR15.out.below hz)
        replace HB : Hid (Below v8.heap.size v8 v9) := Lib.hid (below_trans HB.out hz)
        clear hz
        go_wp2_with fail
        go_meet
        exact ⟨by rw [E1.out], HB.out⟩
      · rw [HRE.out] at hr
        cases hr
      · rw [HRE.out] at hr
        cases hr
    | true =>
      subst hrb
      obtain ⟨q3_0, q3_1⟩ := box2 HX3.out
      have s3_ := HX3.out.1
      go_wp2_with fail
      (with_reducible refine (HLR.out _ HR3.out).mono ?_)
      rintro e v9 ⟨rfl, hz⟩
      clear q3_0 q3_1 s3_
      replace HX3 : Hid (Box (w.heap.size) [.slice a l.length cap, .int .i64 t] v9) := Lib.hid (HX3.out.below hz)
      replace HX4 : Hid (Box (w.heap.size + 1) [.int .i64 p.n, .bool p.b, .int .i64 p.y, .int .i64 p.k, .int .i64 p.o, .bool p.s] v9) := Lib.hid (HX4.out.below hz)
      replace HX7 : Hid (Box (g2) [.slice a2 n2 c2, .int .i64 TP] v9) := Lib.hid (HX7.out.below hz)
      replace HX10 : Hid (Box (g3) [.slice a3 n3 c3, .int .i64 TT] v9) := Lib.hid (HX10.out.below hz)
      replace HX11 : Hid (Box (g3 + 1) [.int .i64 XT.n, .bool XT.b, .int .i64 XT.y, .int .i64 XT.k, .int .i64 XT.o, .bool XT.s] v9) := Lib.hid (HX11.out.below hz)
      replace HX13 : Hid (Box (g4) [.slice a4 n4 c4, .int .i64 TW] v9) := Lib.hid (HX13.out.below hz)
      replace HX15 : Hid (Box (g5) [.slice a5 n5 c5, .int .i64 TT] v9) := Lib.hid (HX15.out.below hz)
      replace HX17 : Hid (Box (g6) [.slice none 0 0, .int .i64 0] v9) := Lib.hid (HX17.out.below hz)
      replace HR3 : Hid (NRow v9 (.slice a l.length cap) (l)) := Lib.hid (HR3.out.below hz)
      replace HR7 : Hid (NRow v9 (.slice a2 n2 c2) (LP)) := Lib.hid (HR7.out.below hz)
      replace HR10 : Hid (NRow v9 (.slice a3 n3 c3) (LT)) := Lib.hid (HR10.out.below hz)
      replace HR13 : Hid (NRow v9 (.slice a4 n4 c4) (LW)) := Lib.hid (HR13.out.below hz)
      replace HR15 : Hid (NRow v9 (.slice a5 n5 c5) (LL)) := Lib.hid (HR15.out.below hz)
      replace HB : Hid (Below v8.heap.size v8 v9) := Lib.hid (below_trans HB.out hz)
      clear hz
      rcases WP.out with ⟨hm, e1, -, -⟩ | ⟨-, hm, hf, e1, -, -⟩ | ⟨-, hm, h1, h2, e1, -, -⟩
      · have hm : mayB p = false := by rcases hm with hm | hm; rw [HRE.out] at hm; cases hm; exact hm
        simp only [hm] at HMY
        have E1 := Lib.hid e1
        clear e1 hm
        obtain ⟨q4_0, q4_1, q4_2, q4_3, q4_4, q4_5⟩ := box6 HX4.out
        have s4_ := HX4.out.1
        go_wp2_with fail
        (with_reducible refine (HMY.out _).mono ?_)
        rintro e v10 ⟨rfl, hz⟩
        clear q4_0 q4_1 q4_2 q4_3 q4_4 q4_5 s4_
        replace HX3 : Hid (Box (w.heap.size) [.slice a l.length cap, .int .i64 t] v10) := Lib.hid (HX3.out.below hz)
        replace HX4 : Hid (Box (w.heap.size + 1) [.int .i64 p.n, .bool p.b, .int .i64 p.y, .int .i64 p.k, .int .i64 p.o, .bool p.s] v10) := Lib.hid (HX4.out.below hz)
        replace HX7 : Hid (Box (g2) [.slice a2 n2 c2, .int .i64 TP] v10) := Lib.hid (HX7.out.below hz)
        replace HX10 : Hid (Box (g3) [.slice a3 n3 c3, .int .i64 TT] v10) := Lib.hid (HX10.out.below hz)
        replace HX11 : Hid (Box (g3 + 1) [.int .i64 XT.n, .bool XT.b, .int .i64 XT.y, .int .i64 XT.k, .int .i64 XT.o, .bool XT.s] v10) := Lib.hid (HX11.out.below hz)
        replace HX13 : Hid (Box (g4) [.slice a4 n4 c4, .int .i64 TW] v10) := Lib.hid (HX13.out.below hz)
        replace HX15 : Hid (Box (g5) [.slice a5 n5 c5, .int .i64 TT] v10) := Lib.hid (HX15.out.below hz)
        replace HX17 : Hid (Box (g6) [.slice none 0 0, .int .i64 0] v10) := Lib.hid (HX17.out.below hz)
        replace HR3 : Hid (NRow v10 (.slice a l.length cap) (l)) := Lib.hid (HR3.out.below hz)
        replace HR7 : Hid (NRow v10 (.slice a2 n2 c2) (LP)) := Lib.hid (HR7.out.below hz)
        replace HR10 : Hid (NRow v10 (.slice a3 n3 c3) (LT)) := Lib.hid (HR10.out.below hz)
        replace HR13 : Hid (NRow v10 (.slice a4 n4 c4) (LW)) := Lib.hid (HR13.out.below hz)
        replace HR15 : Hid (NRow v10 (.slice a5 n5 c5) (LL)) := Lib.hid (HR15.out.below hz)
        replace HB : Hid (Below v8.heap.size v8 v10) := Lib.hid (below_trans HB.out hz)
        clear hz
        go_wp2_with fail
        go_meet
        exact ⟨by rw [E1.out], HB.out⟩
      · simp only [hm] at HMY
        have E1 := Lib.hid e1
        clear e1 hm
        obtain ⟨q4_0, q4_1, q4_2, q4_3, q4_4, q4_5⟩ := box6 HX4.out
        have s4_ := HX4.out.1
        go_wp2_with fail
        (with_reducible refine (HMY.out _).mono ?_)
        rintro e v10 ⟨rfl, hz⟩
        clear q4_0 q4_1 q4_2 q4_3 q4_4 q4_5 s4_
        replace HX3 : Hid (Box (w.heap.size) [.slice a l.length cap, .int .i64 t] v10) := Lib.hid (HX3.out.below hz)
        replace HX4 : Hid (Box (w.heap.size + 1) [.int .i64 p.n, .bool p.b, .int .i64 p.y, .int .i64 p.k, .int .i64 p.o, .bool p.s] v10) := Lib.hid (HX4.out.below hz)
        replace HX7 : Hid (Box (g2) [.slice a2 n2 c2, .int .i64 TP] v10) := Lib.hid (HX7.out.below hz)
        replace HX10 : Hid (Box (g3) [.slice a3 n3 c3, .int .i64 TT] v10) := Lib.hid (HX10.out.below hz)
        replace HX11 : Hid (Box (g3 + 1) [.int .i64 XT.n, .bool XT.b, .int .i64 XT.y, .int .i64 XT.k, .int .i64 XT.o, .bool XT.s] v10) := Lib.hid (HX11.out.below hz)
        replace HX13 : Hid (Box (g4) [.slice a4 n4 c4, .int .i64 TW] v10) := Lib.hid (HX13.out.below hz)
        replace HX15 : Hid (Box (g5) [.slice a5 n5 c5, .int .i64 TT] v10) := Lib.hid (HX15.out.below hz)
        replace HX17 : Hid (Box (g6) [.slice none 0 0, .int .i64 0] v10) := Lib.hid (HX17.out.below hz)
        replace HR3 : Hid (NRow v10 (.slice a l.length cap) (l)) := Lib.hid (HR3.out.below hz)
        replace HR7 : Hid (NRow v10 (.slice a2 n2 c2) (LP)) := Lib.hid (HR7.out.below hz)
        replace HR10 : Hid (NRow v10 (.slice a3 n3 c3) (LT)) := Lib.hid (HR10.out.below hz)
        replace HR13 : Hid (NRow v10 (.slice a4 n4 c4) (LW)) := Lib.hid (HR13.out.below hz)
        replace HR15 : Hid (NRow v10 (.slice a5 n5 c5) (LL)) := Lib.hid (HR15.out.below hz)
        replace HB : Hid (Below v8.heap.size v8 v10) := Lib.hid (below_trans HB.out hz)
        clear hz
        rcases hf with hf | hf
        · have q1 : ((l.length : Int) == 64) = true := by simpa using (by omega : (l.length : Int) = 64)
          clear hf
          obtain ⟨q3_0, q3_1⟩ := box2 HX3.out
          have s3_ := HX3.out.1
          go_wp2_with fail
          go_meet
          exact ⟨by rw [E1.out], HB.out⟩
        · have q2 : (t == 1099511627776) = true := by simpa using hf
          clear hf
          by_cases h64 : (l.length : Int) = 64
          · have q1 : ((l.length : Int) == 64) = true := by simpa using h64
            clear h64
            obtain ⟨q3_0, q3_1⟩ := box2 HX3.out
            have s3_ := HX3.out.1
            go_wp2_with fail
            go_meet
            exact ⟨by rw [E1.out], HB.out⟩
          · have q1 : ((l.length : Int) == 64) = false := by simpa using h64
            clear h64
            obtain ⟨q3_0, q3_1⟩ := box2 HX3.out
            have s3_ := HX3.out.1
            go_wp2_with fail
            go_meet
            exact ⟨by rw [E1.out], HB.out⟩
      · simp only [hm] at HMY
        have E1 := Lib.hid e1
        clear e1 hm
        obtain ⟨q4_0, q4_1, q4_2, q4_3, q4_4, q4_5⟩ := box6 HX4.out
        have s4_ := HX4.out.1
        go_wp2_with fail
        (with_reducible refine (HMY.out _).mono ?_)
        rintro e v10 ⟨rfl, hz⟩
        clear q4_0 q4_1 q4_2 q4_3 q4_4 q4_5 s4_
        replace HX3 : Hid (Box (w.heap.size) [.slice a l.length cap, .int .i64 t] v10) := Lib.hid (HX3.out.below hz)
        replace HX4 : Hid (Box (w.heap.size + 1) [.int .i64 p.n, .bool p.b, .int .i64 p.y, .int .i64 p.k, .int .i64 p.o, .bool p.s] v10) := Lib.hid (HX4.out.below hz)
        replace HX7 : Hid (Box (g2) [.slice a2 n2 c2, .int .i64 TP] v10) := Lib.hid (HX7.out.below hz)
        replace HX10 : Hid (Box (g3) [.slice a3 n3 c3, .int .i64 TT] v10) := Lib.hid (HX10.out.below hz)
        replace HX11 : Hid (Box (g3 + 1) [.int .i64 XT.n, .bool XT.b, .int .i64 XT.y, .int .i64 XT.k, .int .i64 XT.o, .bool XT.s] v10) := Lib.hid (HX11.out.below hz)
        replace HX13 : Hid (Box (g4) [.slice a4 n4 c4, .int .i64 TW] v10) := Lib.hid (HX13.out.below hz)
        replace HX15 : Hid (Box (g5) [.slice a5 n5 c5, .int .i64 TT] v10) := Lib.hid (HX15.out.below hz)
        replace HX17 : Hid (Box (g6) [.slice none 0 0, .int .i64 0] v10) := Lib.hid (HX17.out.below hz)
        replace HR3 : Hid (NRow v10 (.slice a l.length cap) (l)) := Lib.hid (HR3.out.below hz)
        replace HR7 : Hid (NRow v10 (.slice a2 n2 c2) (LP)) := Lib.hid (HR7.out.below hz)
        replace HR10 : Hid (NRow v10 (.slice a3 n3 c3) (LT)) := Lib.hid (HR10.out.below hz)
        replace HR13 : Hid (NRow v10 (.slice a4 n4 c4) (LW)) := Lib.hid (HR13.out.below hz)
        replace HR15 : Hid (NRow v10 (.slice a5 n5 c5) (LL)) := Lib.hid (HR15.out.below hz)
        replace HB : Hid (Below v8.heap.size v8 v10) := Lib.hid (below_trans HB.out hz)
        clear hz
        have q1 : ((l.length : Int) == 64) = false := by simpa using (by omega : ¬ (l.length : Int) = 64)
        have q2 : (t == 1099511627776) = false := by simpa using (by omega : ¬ t = 1099511627776)
        clear h1 h2
        obtain ⟨q3_0, q3_1⟩ := box2 HX3.out
        have s3_ := HX3.out.1
        go_wp2_with fail
        go_meet
        exact ⟨by rw [E1.out], HB.out⟩
  case rest =>
  skip
  obtain ⟨rfl, hz⟩ := hcut
  rename World => w9_
  replace HX3 : Hid (Box (w.heap.size) [.slice a l.length cap, .int .i64 t] w9_) := Lib.hid (HX3.out.below hz)
  replace HX4 : Hid (Box (w.heap.size + 1) [.int .i64 p.n, .bool p.b, .int .i64 p.y, .int .i64 p.k, .int .i64 p.o, .bool p.s] w9_) := Lib.hid (HX4.out.below hz)
  replace HX7 : Hid (Box (g2) [.slice a2 n2 c2, .int .i64 TP] w9_) := Lib.hid (HX7.out.below hz)
  replace HX10 : Hid (Box (g3) [.slice a3 n3 c3, .int .i64 TT] w9_) := Lib.hid (HX10.out.below hz)
  replace HX11 : Hid (Box (g3 + 1) [.int .i64 XT.n, .bool XT.b, .int .i64 XT.y, .int .i64 XT.k, .int .i64 XT.o, .bool XT.s] w9_) := Lib.hid (HX11.out.below hz)
  replace HX13 : Hid (Box (g4) [.slice a4 n4 c4, .int .i64 TW] w9_) := Lib.hid (HX13.out.below hz)
  replace HX15 : Hid (Box (g5) [.slice a5 n5 c5, .int .i64 TT] w9_) := Lib.hid (HX15.out.below hz)
  replace HX17 : Hid (Box (g6) [.slice none 0 0, .int .i64 0] w9_) := Lib.hid (HX17.out.below hz)
  replace HR3 : Hid (NRow w9_ (.slice a l.length cap) (l)) := Lib.hid (HR3.out.below hz)
  replace HR7 : Hid (NRow w9_ (.slice a2 n2 c2) (LP)) := Lib.hid (HR7.out.below hz)
  replace HR10 : Hid (NRow w9_ (.slice a3 n3 c3) (LT)) := Lib.hid (HR10.out.below hz)
  replace HR13 : Hid (NRow w9_ (.slice a4 n4 c4) (LW)) := Lib.hid (HR13.out.below hz)
  replace HR15 : Hid (NRow w9_ (.slice a5 n5 c5) (LL)) := Lib.hid (HR15.out.below hz)
  replace HB : Hid (Below w.heap.size w w9_) := Lib.hid (below_trans HB.out hz)
  clear hz
  go_upto_region 14 with (fail)
  refine reg14_wp HX3 HR3 HLL.out HTT.out ?_
  intro g19 a19 n19 c19 v82 v83 v84 v85 v86 v87 v88 v89 wa hg19 hx19 hr19 ho19 sp19 hD
  have hx4 := HX4.out.below hD
  obtain ⟨d0, d1, d2, d3, d4, d5⟩ := box6 hx4
  have hds := hx4.1
  obtain ⟨wb, hwb⟩ : ∃ W, wa.alloc (.cells #[.int .i64 p.n, .bool p.b, .int .i64 p.y, .int .i64 p.k, .int .i64 p.o, .bool p.s] 26) = W := ⟨_, rfl⟩
  have hz : Below wa.heap.size wa wb := hwb ▸ al wa _
  have hx20 : Box wa.heap.size [.int .i64 p.n, .bool p.b, .int .i64 p.y, .int .i64 p.k, .int .i64 p.o, .bool p.s] wb := hwb ▸ Box.made wa [.int .i64 p.n, .bool p.b, .int .i64 p.y, .int .i64 p.k, .int .i64 p.o, .bool p.s] 26
  have sp20 : SepB wa.heap.size (.slice a19 n19 c19) := OwnN.sep ho19 (Nat.le_refl _)
  have hl19 := hx19.1
  have hDs := hD.size
  replace hx19 := hx19.below hz
  replace ho19 := ho19.below hz
  have hD2 := below_trans hD hz
  go_upto_region 16 with (fail)
  try rw [hwb]
  clear hwb d0 d1 d2 d3 d4 d5 hds hx4 hr19 hz hD
  generalize wa.heap.size = g20 at *
  obtain ⟨d0, d1, d2, d3, d4, d5⟩ := box6 hx20
  obtain ⟨f0, f1, f2, f3, f4, f5⟩ := frz6 hx20
  have hds := hx20.1
  obtain ⟨b0, b1⟩ := box2 hx19
  have hbs := hx19.1
  have hy20 : Box g20 [.int .i64 T, .bool p.b, .int .i64 p.y, .int .i64 p.k, .int .i64 p.o, .bool p.s] _ := box_put hx20 0 (.int .i64 T) (by simp)
  have hy19 := box_set_other (j := 0) hx19 (g := g20) (by omega) (.int .i64 T)
  have hyo := ho19.sep_set (j := 0) (u := .int .i64 T) sp20
  have hyd := below_set (b := g20) (j := 0) (.int .i64 T) hD2 (by omega)
  go_upto_region 17 with (fail)
  clear d0 d1 d2 d3 d4 d5 f0 f1 f2 f3 f4 f5 hds b0 b1 hbs hx20 hx19 ho19 hD2
  generalize wb.setCell ⟨g20, 0, none⟩ (.int .i64 T) = wc at hy20 hy19 hyo hyd ⊢
  obtain ⟨d0, d1, d2, d3, d4, d5⟩ := box6 hy20
  have hds := hy20.1
  obtain ⟨b0, b1⟩ := box2 hy19
  have hbs := hy19.1
  have hz := al wc (.cells #[.int .i64 T, .bool p.b, .int .i64 p.y, .int .i64 p.k, .int .i64 p.o, .bool p.s] 26)
  have hone : NRow (wc.alloc (.cells #[.int .i64 T, .bool p.b, .int .i64 p.y, .int .i64 p.k, .int .i64 p.o, .bool p.s] 26)) (.slice (some ⟨wc.heap.size, 0, none⟩) 1 1) [num p T] := NRow.one wc (num p T)
  have hao : OwnN w9_.heap.size (.slice a19 n19 c19) l (wc.alloc (.cells #[.int .i64 T, .bool p.b, .int .i64 p.y, .int .i64 p.k, .int .i64 p.o, .bool p.s] 26)) := hyo.below hz
  have had : Below w9_.heap.size w9_ (wc.alloc (.cells #[.int .i64 T, .bool p.b, .int .i64 p.y, .int .i64 p.k, .int .i64 p.o, .bool p.s] 26)) := below_trans hyd hz
  have ha19 : Box g19 [.slice a19 n19 c19, .int .i64 T] (wc.alloc (.cells #[.int .i64 T, .bool p.b, .int .i64 p.y, .int .i64 p.k, .int .i64 p.o, .bool p.s] 26)) := hy19.below hz
  have ha20 : Box g20 [.int .i64 T, .bool p.b, .int .i64 p.y, .int .i64 p.k, .int .i64 p.o, .bool p.s] (wc.alloc (.cells #[.int .i64 T, .bool p.b, .int .i64 p.y, .int .i64 p.k, .int .i64 p.o, .bool p.s] 26)) := hy20.below hz
  have HAO := Lib.hid hao
  have HAD := Lib.hid had
  have HA9 := Lib.hid ha19
  have HA0 := Lib.hid ha20
  have HON := Lib.hid hone
  clear hz hone hao had ha19 ha20 hyo hyd hy19 hy20
  go_wp2_with (at_builtin; refine wpList_append_O rfl _ _ rfl w9_.heap.size _ l rfl HAO.out _ [num p T] rfl HON.out (by have := HLL.out; omega) (by simp) (HAD.out.size) ?_)
  intro vq we ho2 hb2 hg2 hl2
  obtain ⟨aq, nq, cq, rfl⟩ : ∃ a n c, vq = .slice a n c := (by obtain ⟨a', c', e⟩ := ho2.row.slice; exact ⟨a', _, c', e⟩)
  have sq19 := SepB.after sp19 (by have := HA9.out.1; simpa using this) hl2
  have sq20 := SepB.after sp20 (by have := HA0.out.1; simpa using this) hl2
  have hq19 := Box.keptN HA9.out hg2 sp19
  have hq20 := Box.keptN HA0.out hg2 sp20
  have hqd := HAD.out.trans hb2
  have hk19 : Box g19 [.slice aq nq cq, .int .i64 T] _ := box_put hq19 0 (.slice aq nq cq) (by simp)
  have hk20 := box_set_other (j := 0) hq20 (g := g19) (by omega) (.slice aq nq cq)
  have hkr := ho2.row.sep (j := 0) (u := .slice aq nq cq) sq19
  have hz := below_set (b := g19) (j := 0) (.slice aq nq cq) hqd (by omega)
  obtain ⟨y0, y1⟩ := box2 hq19
  obtain ⟨z0, z1⟩ := frz2 hq19
  have hys := hq19.1
  clear hg2 hl2 hb2 ho2 HAO HAD HA9 HA0 HON d0 d1 d2 d3 d4 d5 hds b0 b1 hbs
  go_upto_region 18 with (fail)
  clear y0 y1 z0 z1 hys hq19 hq20 hqd
  generalize we.setCell ⟨g19, 0, none⟩ (.slice aq nq cq) = wf at hk19 hk20 hkr hz ⊢
  replace HX3 : Hid (Box (w.heap.size) [.slice a l.length cap, .int .i64 t] wf) := Lib.hid (HX3.out.below hz)
  replace HX4 : Hid (Box (w.heap.size + 1) [.int .i64 p.n, .bool p.b, .int .i64 p.y, .int .i64 p.k, .int .i64 p.o, .bool p.s] wf) := Lib.hid (HX4.out.below hz)
  replace HX7 : Hid (Box (g2) [.slice a2 n2 c2, .int .i64 TP] wf) := Lib.hid (HX7.out.below hz)
  replace HX10 : Hid (Box (g3) [.slice a3 n3 c3, .int .i64 TT] wf) := Lib.hid (HX10.out.below hz)
  replace HX11 : Hid (Box (g3 + 1) [.int .i64 XT.n, .bool XT.b, .int .i64 XT.y, .int .i64 XT.k, .int .i64 XT.o, .bool XT.s] wf) := Lib.hid (HX11.out.below hz)
  replace HX13 : Hid (Box (g4) [.slice a4 n4 c4, .int .i64 TW] wf) := Lib.hid (HX13.out.below hz)
  replace HX15 : Hid (Box (g5) [.slice a5 n5 c5, .int .i64 TT] wf) := Lib.hid (HX15.out.below hz)
  replace HX17 : Hid (Box (g6) [.slice none 0 0, .int .i64 0] wf) := Lib.hid (HX17.out.below hz)
  replace HR3 : Hid (NRow wf (.slice a l.length cap) (l)) := Lib.hid (HR3.out.below hz)
  replace HR7 : Hid (NRow wf (.slice a2 n2 c2) (LP)) := Lib.hid (HR7.out.below hz)
  replace HR10 : Hid (NRow wf (.slice a3 n3 c3) (LT)) := Lib.hid (HR10.out.below hz)
  replace HR13 : Hid (NRow wf (.slice a4 n4 c4) (LW)) := Lib.hid (HR13.out.below hz)
  replace HR15 : Hid (NRow wf (.slice a5 n5 c5) (LL)) := Lib.hid (HR15.out.below hz)
  replace HB : Hid (Below w.heap.size w wf) := Lib.hid (below_trans HB.out hz)
  have HX19 := Lib.hid hk19
  have HX20 := Lib.hid hk20
  have HR19 := Lib.hid hkr
  clear hk19 hk20 hkr hz sq19 sq20 sp19 sp20 hg19 hl19 hDs
  go_cut [132] from 90 to 131 (fun x wx => x = .bool false ∧ Below wf.heap.size wf wx)
  case first =>
    replace HB : Hid (Below wf.heap.size wf wf) := Lib.hid (Below.refl _ _)
    rcases WP.out with ⟨-, e1, e2, e3⟩ | ⟨-, -, -, e1, e2, e3⟩ | ⟨hr, hm, hl, ht, e1, e2, e3⟩
    · subst e1 e2 e3
      obtain ⟨q7_0, q7_1⟩ := box2 HX7.out
      have s7_ := HX7.out.1
      obtain ⟨q17_0, q17_1⟩ := box2 HX17.out
      have s17_ := HX17.out.1
      go_wp2_with fail
      (with_reducible refine (HLK.out 0 _ _ [] _ HR7.out (NRow.nil _)).mono ?_)
      rintro e v10 ⟨rfl, hz⟩
      clear q7_0 q7_1 s7_ q17_0 q17_1 s17_
      replace HX3 : Hid (Box (w.heap.size) [.slice a l.length cap, .int .i64 t] v10) := Lib.hid (HX3.out.below hz)
      replace HX4 : Hid (Box (w.heap.size + 1) [.int .i64 p.n, .bool p.b, .int .i64 p.y, .int .i64 p.k, .int .i64 p.o, .bool p.s] v10) := Lib.hid (HX4.out.below hz)
      replace HX7 : Hid (Box (g2) [.slice a2 n2 c2, .int .i64 0] v10) := Lib.hid (HX7.out.below hz)
      replace HX10 : Hid (Box (g3) [.slice a3 n3 c3, .int .i64 TT] v10) := Lib.hid (HX10.out.below hz)
      replace HX11 : Hid (Box (g3 + 1) [.int .i64 XT.n, .bool XT.b, .int .i64 XT.y, .int .i64 XT.k, .int .i64 XT.o, .bool XT.s] v10) := Lib.hid (HX11.out.below hz)
      replace HX13 : Hid (Box (g4) [.slice a4 n4 c4, .int .i64 TW] v10) := Lib.hid (HX13.out.below hz)
      replace HX15 : Hid (Box (g5) [.slice a5 n5 c5, .int .i64 TT] v10) := Lib.hid (HX15.out.below hz)
      replace HX17 : Hid (Box (g6) [.slice none 0 0, .int .i64 0] v10) := Lib.hid (HX17.out.below hz)
      replace HX19 : Hid (Box (g19) [.slice aq nq cq, .int .i64 T] v10) := Lib.hid (HX19.out.below hz)
      replace HX20 : Hid (Box (g20) [.int .i64 T, .bool p.b, .int .i64 p.y, .int .i64 p.k, .int .i64 p.o, .bool p.s] v10) := Lib.hid (HX20.out.below hz)
      replace HR3 : Hid (NRow v10 (.slice a l.length cap) (l)) := Lib.hid (HR3.out.below hz)
      replace HR7 : Hid (NRow v10 (.slice a2 n2 c2) ([])) := Lib.hid (HR7.out.below hz)
      replace HR10 : Hid (NRow v10 (.slice a3 n3 c3) (LT)) := Lib.hid (HR10.out.below hz)
      replace HR13 : Hid (NRow v10 (.slice a4 n4 c4) (LW)) := Lib.hid (HR13.out.below hz)
      replace HR15 : Hid (NRow v10 (.slice a5 n5 c5) (LL)) := Lib.hid (HR15.out.below hz)
      replace HR19 : Hid (NRow v10 (.slice aq nq cq) (l ++ [num p T])) := Lib.hid (HR19.out.below hz)
      replace HB : Hid (Below wf.heap.size wf v10) := Lib.hid (below_trans HB.out hz)
      clear hz
      go_wp2_with fail
      go_meet
      exact ⟨rfl, HB.out⟩
    · subst e1 e2 e3
      obtain ⟨q7_0, q7_1⟩ := box2 HX7.out
      have s7_ := HX7.out.1
      obtain ⟨q17_0, q17_1⟩ := box2 HX17.out
      have s17_ := HX17.out.1
      go_wp2_with fail
      (with_reducible refine (HLK.out 0 _ _ [] _ HR7.out (NRow.nil _)).mono ?_)
      rintro e v10 ⟨rfl, hz⟩
      clear q7_0 q7_1 s7_ q17_0 q17_1 s17_
      replace HX3 : Hid (Box (w.heap.size) [.slice a l.length cap, .int .i64 t] v10) := Lib.hid (HX3.out.below hz)
      replace HX4 : Hid (Box (w.heap.size + 1) [.int .i64 p.n, .bool p.b, .int .i64 p.y, .int .i64 p.k, .int .i64 p.o, .bool p.s] v10) := Lib.hid (HX4.out.below hz)
      replace HX7 : Hid (Box (g2) [.slice a2 n2 c2, .int .i64 0] v10) := Lib.hid (HX7.out.below hz)
      replace HX10 : Hid (Box (g3) [.slice a3 n3 c3, .int .i64 TT] v10) := Lib.hid (HX10.out.below hz)
      replace HX11 : Hid (Box (g3 + 1) [.int .i64 XT.n, .bool XT.b, .int .i64 XT.y, .int .i64 XT.k, .int .i64 XT.o, .bool XT.s] v10) := Lib.hid (HX11.out.below hz)
      replace HX13 : Hid (Box (g4) [.slice a4 n4 c4, .int .i64 TW] v10) := Lib.hid (HX13.out.below hz)
      replace HX15 : Hid (Box (g5) [.slice a5 n5 c5, .int .i64 TT] v10) := Lib.hid (HX15.out.below hz)
      replace HX17 : Hid (Box (g6) [.slice none 0 0, .int .i64 0] v10) := Lib.hid (HX17.out.below hz)
      replace HX19 : Hid (Box (g19) [.slice aq nq cq, .int .i64 T] v10) := Lib.hid (HX19.out.below hz)
      replace HX20 : Hid (Box (g20) [.int .i64 T, .bool p.b, .int .i64 p.y, .int .i64 p.k, .int .i64 p.o, .bool p.s] v10) := Lib.hid (HX20.out.below hz)
      replace HR3 : Hid (NRow v10 (.slice a l.length cap) (l)) := Lib.hid (HR3.out.below hz)
      replace HR7 : Hid (NRow v10 (.slice a2 n2 c2) ([])) := Lib.hid (HR7.out.below hz)
      replace HR10 : Hid (NRow v10 (.slice a3 n3 c3) (LT)) := Lib.hid (HR10.out.below hz)
      replace HR13 : Hid (NRow v10 (.slice a4 n4 c4) (LW)) := Lib.hid (HR13.out.below hz)
      replace HR15 : Hid (NRow v10 (.slice a5 n5 c5) (LL)) := Lib.hid (HR15.out.below hz)
      replace HR19 : Hid (NRow v10 (.slice aq nq cq) (l ++ [num p T])) := Lib.hid (HR19.out.below hz)
      replace HB : Hid (Below wf.heap.size wf v10) := Lib.hid (below_trans HB.out hz)
      clear hz
      go_wp2_with fail
      go_meet
      exact ⟨rfl, HB.out⟩
    · have ht0 := (rightB_t.1 hr).2.1
      have eT : T = t + 1 := by rw [← HTT.out]; exact IntWalk.i64_in _ (by omega)
      subst e1 e2 e3
      clear HTT
      subst eT
      clear hr hm hl ht ht0
      obtain ⟨q7_0, q7_1⟩ := box2 HX7.out
      have s7_ := HX7.out.1
      obtain ⟨q19_0, q19_1⟩ := box2 HX19.out
      have s19_ := HX19.out.1
      obtain ⟨q20_0, q20_1, q20_2, q20_3, q20_4, q20_5⟩ := box6 HX20.out
      have s20_ := HX20.out.1
      go_wp2_with fail
      (with_reducible refine (HLK.out (t + 1) _ _ (post l t p) _ HR7.out HR19.out).mono ?_)
      rintro e v10 ⟨rfl, hz⟩
      clear q7_0 q7_1 s7_ q19_0 q19_1 s19_ q20_0 q20_1 q20_2 q20_3 q20_4 q20_5 s20_
      replace HX3 : Hid (Box (w.heap.size) [.slice a l.length cap, .int .i64 t] v10) := Lib.hid (HX3.out.below hz)
      replace HX4 : Hid (Box (w.heap.size + 1) [.int .i64 p.n, .bool p.b, .int .i64 p.y, .int .i64 p.k, .int .i64 p.o, .bool p.s] v10) := Lib.hid (HX4.out.below hz)
      replace HX7 : Hid (Box (g2) [.slice a2 n2 c2, .int .i64 (t + 1)] v10) := Lib.hid (HX7.out.below hz)
      replace HX10 : Hid (Box (g3) [.slice a3 n3 c3, .int .i64 TT] v10) := Lib.hid (HX10.out.below hz)
      replace HX11 : Hid (Box (g3 + 1) [.int .i64 XT.n, .bool XT.b, .int .i64 XT.y, .int .i64 XT.k, .int .i64 XT.o, .bool XT.s] v10) := Lib.hid (HX11.out.below hz)
      replace HX13 : Hid (Box (g4) [.slice a4 n4 c4, .int .i64 TW] v10) := Lib.hid (HX13.out.below hz)
      replace HX15 : Hid (Box (g5) [.slice a5 n5 c5, .int .i64 TT] v10) := Lib.hid (HX15.out.below hz)
      replace HX17 : Hid (Box (g6) [.slice none 0 0, .int .i64 0] v10) := Lib.hid (HX17.out.below hz)
      replace HX19 : Hid (Box (g19) [.slice aq nq cq, .int .i64 (t + 1)] v10) := Lib.hid (HX19.out.below hz)
      replace HX20 : Hid (Box (g20) [.int .i64 (t + 1), .bool p.b, .int .i64 p.y, .int .i64 p.k, .int .i64 p.o, .bool p.s] v10) := Lib.hid (HX20.out.below hz)
      replace HR3 : Hid (NRow v10 (.slice a l.length cap) (l)) := Lib.hid (HR3.out.below hz)
      replace HR7 : Hid (NRow v10 (.slice a2 n2 c2) (post l t p)) := Lib.hid (HR7.out.below hz)
      replace HR10 : Hid (NRow v10 (.slice a3 n3 c3) (LT)) := Lib.hid (HR10.out.below hz)
      replace HR13 : Hid (NRow v10 (.slice a4 n4 c4) (LW)) := Lib.hid (HR13.out.below hz)
      replace HR15 : Hid (NRow v10 (.slice a5 n5 c5) (LL)) := Lib.hid (HR15.out.below hz)
      replace HR19 : Hid (NRow v10 (.slice aq nq cq) (l ++ [num p (t + 1)])) := Lib.hid (HR19.out.below hz)
      replace HB : Hid (Below wf.heap.size wf v10) := Lib.hid (below_trans HB.out hz)
      clear hz
      go_wp2_with fail
      go_meet
      exact ⟨rfl, HB.out⟩
  case rest =>
  obtain ⟨rfl, hz⟩ := hcut
  rename World => w10_
  replace HX3 : Hid (Box (w.heap.size) [.slice a l.length cap, .int .i64 t] w10_) := Lib.hid (HX3.out.below hz)
  replace HX4 : Hid (Box (w.heap.size + 1) [.int .i64 p.n, .bool p.b, .int .i64 p.y, .int .i64 p.k, .int .i64 p.o, .bool p.s] w10_) := Lib.hid (HX4.out.below hz)
  replace HX7 : Hid (Box (g2) [.slice a2 n2 c2, .int .i64 TP] w10_) := Lib.hid (HX7.out.below hz)
  replace HX10 : Hid (Box (g3) [.slice a3 n3 c3, .int .i64 TT] w10_) := Lib.hid (HX10.out.below hz)
  replace HX11 : Hid (Box (g3 + 1) [.int .i64 XT.n, .bool XT.b, .int .i64 XT.y, .int .i64 XT.k, .int .i64 XT.o, .bool XT.s] w10_) := Lib.hid (HX11.out.below hz)
  replace HX13 : Hid (Box (g4) [.slice a4 n4 c4, .int .i64 TW] w10_) := Lib.hid (HX13.out.below hz)
  replace HX15 : Hid (Box (g5) [.slice a5 n5 c5, .int .i64 TT] w10_) := Lib.hid (HX15.out.below hz)
  replace HX17 : Hid (Box (g6) [.slice none 0 0, .int .i64 0] w10_) := Lib.hid (HX17.out.below hz)
  replace HX19 : Hid (Box (g19) [.slice aq nq cq, .int .i64 T] w10_) := Lib.hid (HX19.out.below hz)
  replace HX20 : Hid (Box (g20) [.int .i64 T, .bool p.b, .int .i64 p.y, .int .i64 p.k, .int .i64 p.o, .bool p.s] w10_) := Lib.hid (HX20.out.below hz)
  replace HR3 : Hid (NRow w10_ (.slice a l.length cap) (l)) := Lib.hid (HR3.out.below hz)
  replace HR7 : Hid (NRow w10_ (.slice a2 n2 c2) (LP)) := Lib.hid (HR7.out.below hz)
  replace HR10 : Hid (NRow w10_ (.slice a3 n3 c3) (LT)) := Lib.hid (HR10.out.below hz)
  replace HR13 : Hid (NRow w10_ (.slice a4 n4 c4) (LW)) := Lib.hid (HR13.out.below hz)
  replace HR15 : Hid (NRow w10_ (.slice a5 n5 c5) (LL)) := Lib.hid (HR15.out.below hz)
  replace HR19 : Hid (NRow w10_ (.slice aq nq cq) (l ++ [num p T])) := Lib.hid (HR19.out.below hz)
  replace HB : Hid (Below w.heap.size w w10_) := Lib.hid (below_trans HB.out hz)
  clear hz WP HMY
  clear HX7 HX19 HX20 HX4 HR7 HR19 HTT HRI
  rcases WG.out with ⟨hr, e1, e2, e3, e4, e5, e6, e7, e8⟩ | ⟨hr, hi, e1, e2, e3, e4, e5, e6, e7, e8⟩ | ⟨hr, k, hk, e0, e1, e2, e3, e4, e5, hw⟩
  · clear WG
    subst e1 e2 e3 e4 e5 e6 e7 e8
    replace HX11 : Hid (Box (g3 + 1) [.int .i64 0, .bool false, .int .i64 0, .int .i64 0, .int .i64 0, .bool false] _) := HX11
    have heq := fun w => eql_pc noP noP w
    simp only [decide_true] at heq
    unfold noP at heq
    dsimp only at heq
    have hb : rb = false := by rw [← HRE.out]; exact hr
    subst hb
    clear hr HRE
    obtain ⟨q3_0, q3_1⟩ := box2 HX3.out
    have s3_ := HX3.out.1
    go_wp2_with fail
    (with_reducible refine (HLR.out _ HR3.out).mono ?_)
    rintro e v11 ⟨rfl, hz⟩
    clear q3_0 q3_1 s3_
    replace HX3 : Hid (Box (w.heap.size) [.slice a l.length cap, .int .i64 t] v11) := Lib.hid (HX3.out.below hz)
    replace HX10 : Hid (Box (g3) [.slice a3 n3 c3, .int .i64 0] v11) := Lib.hid (HX10.out.below hz)
    replace HX11 : Hid (Box (g3 + 1) [.int .i64 0, .bool false, .int .i64 0, .int .i64 0, .int .i64 0, .bool false] v11) := Lib.hid (HX11.out.below hz)
    replace HX13 : Hid (Box (g4) [.slice a4 n4 c4, .int .i64 0] v11) := Lib.hid (HX13.out.below hz)
    replace HX15 : Hid (Box (g5) [.slice a5 n5 c5, .int .i64 0] v11) := Lib.hid (HX15.out.below hz)
    replace HX17 : Hid (Box (g6) [.slice none 0 0, .int .i64 0] v11) := Lib.hid (HX17.out.below hz)
    replace HR3 : Hid (NRow v11 (.slice a l.length cap) (l)) := Lib.hid (HR3.out.below hz)
    replace HR10 : Hid (NRow v11 (.slice a3 n3 c3) ([])) := Lib.hid (HR10.out.below hz)
    replace HR13 : Hid (NRow v11 (.slice a4 n4 c4) ([])) := Lib.hid (HR13.out.below hz)
    replace HR15 : Hid (NRow v11 (.slice a5 n5 c5) ([])) := Lib.hid (HR15.out.below hz)
    replace HB : Hid (Below w.heap.size w v11) := Lib.hid (below_trans HB.out hz)
    clear hz
    obtain ⟨q11_0, q11_1, q11_2, q11_3, q11_4, q11_5⟩ := box6 HX11.out
    have s11_ := HX11.out.1
    obtain ⟨q17_0, q17_1⟩ := box2 HX17.out
    have s17_ := HX17.out.1
    obtain ⟨q10_0, q10_1⟩ := box2 HX10.out
    have s10_ := HX10.out.1
    go_wp2_with fail
    (with_reducible refine (HLK.out 0 _ _ [] _ HR10.out (NRow.nil _)).mono ?_)
    rintro e v12 ⟨rfl, hz⟩
    clear q11_0 q11_1 q11_2 q11_3 q11_4 q11_5 s11_ q17_0 q17_1 s17_ q10_0 q10_1 s10_
    replace HX3 : Hid (Box (w.heap.size) [.slice a l.length cap, .int .i64 t] v12) := Lib.hid (HX3.out.below hz)
    replace HX10 : Hid (Box (g3) [.slice a3 n3 c3, .int .i64 0] v12) := Lib.hid (HX10.out.below hz)
    replace HX11 : Hid (Box (g3 + 1) [.int .i64 0, .bool false, .int .i64 0, .int .i64 0, .int .i64 0, .bool false] v12) := Lib.hid (HX11.out.below hz)
    replace HX13 : Hid (Box (g4) [.slice a4 n4 c4, .int .i64 0] v12) := Lib.hid (HX13.out.below hz)
    replace HX15 : Hid (Box (g5) [.slice a5 n5 c5, .int .i64 0] v12) := Lib.hid (HX15.out.below hz)
    replace HX17 : Hid (Box (g6) [.slice none 0 0, .int .i64 0] v12) := Lib.hid (HX17.out.below hz)
    replace HR3 : Hid (NRow v12 (.slice a l.length cap) (l)) := Lib.hid (HR3.out.below hz)
    replace HR10 : Hid (NRow v12 (.slice a3 n3 c3) ([])) := Lib.hid (HR10.out.below hz)
    replace HR13 : Hid (NRow v12 (.slice a4 n4 c4) ([])) := Lib.hid (HR13.out.below hz)
    replace HR15 : Hid (NRow v12 (.slice a5 n5 c5) ([])) := Lib.hid (HR15.out.below hz)
    replace HB : Hid (Below w.heap.size w v12) := Lib.hid (below_trans HB.out hz)
    clear hz
    obtain ⟨q17_0, q17_1⟩ := box2 HX17.out
    have s17_ := HX17.out.1
    obtain ⟨q13_0, q13_1⟩ := box2 HX13.out
    have s13_ := HX13.out.1
    go_wp2_with fail
    (with_reducible refine (HLK.out 0 _ _ [] _ HR13.out (NRow.nil _)).mono ?_)
    rintro e v13 ⟨rfl, hz⟩
    clear q17_0 q17_1 s17_ q13_0 q13_1 s13_
    replace HX3 : Hid (Box (w.heap.size) [.slice a l.length cap, .int .i64 t] v13) := Lib.hid (HX3.out.below hz)
    replace HX10 : Hid (Box (g3) [.slice a3 n3 c3, .int .i64 0] v13) := Lib.hid (HX10.out.below hz)
    replace HX11 : Hid (Box (g3 + 1) [.int .i64 0, .bool false, .int .i64 0, .int .i64 0, .int .i64 0, .bool false] v13) := Lib.hid (HX11.out.below hz)
    replace HX13 : Hid (Box (g4) [.slice a4 n4 c4, .int .i64 0] v13) := Lib.hid (HX13.out.below hz)
    replace HX15 : Hid (Box (g5) [.slice a5 n5 c5, .int .i64 0] v13) := Lib.hid (HX15.out.below hz)
    replace HX17 : Hid (Box (g6) [.slice none 0 0, .int .i64 0] v13) := Lib.hid (HX17.out.below hz)
    replace HR3 : Hid (NRow v13 (.slice a l.length cap) (l)) := Lib.hid (HR3.out.below hz)
    replace HR10 : Hid (NRow v13 (.slice a3 n3 c3) ([])) := Lib.hid (HR10.out.below hz)
    replace HR13 : Hid (NRow v13 (.slice a4 n4 c4) ([])) := Lib.hid (HR13.out.below hz)
    replace HR15 : Hid (NRow v13 (.slice a5 n5 c5) ([])) := Lib.hid (HR15.out.below hz)
    replace HB : Hid (Below w.heap.size w v13) := Lib.hid (below_trans HB.out hz)
    clear hz
    obtain ⟨q17_0, q17_1⟩ := box2 HX17.out
    have s17_ := HX17.out.1
    obtain ⟨q15_0, q15_1⟩ := box2 HX15.out
    have s15_ := HX15.out.1
    go_wp2_with fail
    (with_reducible refine (HLK.out 0 _ _ [] _ HR15.out (NRow.nil _)).mono ?_)
    rintro e v14 ⟨rfl, hz⟩
    clear q17_0 q17_1 s17_ q15_0 q15_1 s15_
    replace HX3 : Hid (Box (w.heap.size) [.slice a l.length cap, .int .i64 t] v14) := Lib.hid (HX3.out.below hz)
    replace HX10 : Hid (Box (g3) [.slice a3 n3 c3, .int .i64 0] v14) := Lib.hid (HX10.out.below hz)
    replace HX11 : Hid (Box (g3 + 1) [.int .i64 0, .bool false, .int .i64 0, .int .i64 0, .int .i64 0, .bool false] v14) := Lib.hid (HX11.out.below hz)
    replace HX13 : Hid (Box (g4) [.slice a4 n4 c4, .int .i64 0] v14) := Lib.hid (HX13.out.below hz)
    replace HX15 : Hid (Box (g5) [.slice a5 n5 c5, .int .i64 0] v14) := Lib.hid (HX15.out.below hz)
    replace HX17 : Hid (Box (g6) [.slice none 0 0, .int .i64 0] v14) := Lib.hid (HX17.out.below hz)
    replace HR3 : Hid (NRow v14 (.slice a l.length cap) (l)) := Lib.hid (HR3.out.below hz)
    replace HR10 : Hid (NRow v14 (.slice a3 n3 c3) ([])) := Lib.hid (HR10.out.below hz)
    replace HR13 : Hid (NRow v14 (.slice a4 n4 c4) ([])) := Lib.hid (HR13.out.below hz)
    replace HR15 : Hid (NRow v14 (.slice a5 n5 c5) ([])) := Lib.hid (HR15.out.below hz)
    replace HB : Hid (Below w.heap.size w v14) := Lib.hid (below_trans HB.out hz)
    clear hz
    go_wp2_with fail
    go_ret
    exact ⟨rfl, HB.out⟩
  · clear WG
    subst e1 e2 e3 e4 e5 e6 e7 e8
    replace HX11 : Hid (Box (g3 + 1) [.int .i64 0, .bool false, .int .i64 0, .int .i64 0, .int .i64 0, .bool false] _) := HX11
    have heq := fun w => eql_pc noP noP w
    simp only [decide_true] at heq
    unfold noP at heq
    dsimp only at heq
    have hb : rb = true := by rw [← HRE.out]; exact hr
    subst hb
    clear hr HRE
    obtain ⟨q3_0, q3_1⟩ := box2 HX3.out
    have s3_ := HX3.out.1
    go_wp2_with fail
    (with_reducible refine (HLR.out _ HR3.out).mono ?_)
    rintro e v11 ⟨rfl, hz⟩
    clear q3_0 q3_1 s3_
    replace HX3 : Hid (Box (w.heap.size) [.slice a l.length cap, .int .i64 t] v11) := Lib.hid (HX3.out.below hz)
    replace HX10 : Hid (Box (g3) [.slice a3 n3 c3, .int .i64 0] v11) := Lib.hid (HX10.out.below hz)
    replace HX11 : Hid (Box (g3 + 1) [.int .i64 0, .bool false, .int .i64 0, .int .i64 0, .int .i64 0, .bool false] v11) := Lib.hid (HX11.out.below hz)
    replace HX13 : Hid (Box (g4) [.slice a4 n4 c4, .int .i64 0] v11) := Lib.hid (HX13.out.below hz)
    replace HX15 : Hid (Box (g5) [.slice a5 n5 c5, .int .i64 0] v11) := Lib.hid (HX15.out.below hz)
    replace HX17 : Hid (Box (g6) [.slice none 0 0, .int .i64 0] v11) := Lib.hid (HX17.out.below hz)
    replace HR3 : Hid (NRow v11 (.slice a l.length cap) (l)) := Lib.hid (HR3.out.below hz)
    replace HR10 : Hid (NRow v11 (.slice a3 n3 c3) ([])) := Lib.hid (HR10.out.below hz)
    replace HR13 : Hid (NRow v11 (.slice a4 n4 c4) ([])) := Lib.hid (HR13.out.below hz)
    replace HR15 : Hid (NRow v11 (.slice a5 n5 c5) ([])) := Lib.hid (HR15.out.below hz)
    replace HB : Hid (Below w.heap.size w v11) := Lib.hid (below_trans HB.out hz)
    clear hz
    by_cases h0 : pl < 0
    · clear hi
      obtain ⟨q3_0, q3_1⟩ := box2 HX3.out
      have s3_ := HX3.out.1
      go_upto_region 25 with (fail)
      clear q3_0 q3_1 s3_
      obtain ⟨q11_0, q11_1, q11_2, q11_3, q11_4, q11_5⟩ := box6 HX11.out
      have s11_ := HX11.out.1
      obtain ⟨q17_0, q17_1⟩ := box2 HX17.out
      have s17_ := HX17.out.1
      obtain ⟨q10_0, q10_1⟩ := box2 HX10.out
      have s10_ := HX10.out.1
      go_wp2_with fail
      (with_reducible refine (HLK.out 0 _ _ [] _ HR10.out (NRow.nil _)).mono ?_)
      rintro e v12 ⟨rfl, hz⟩
      clear q11_0 q11_1 q11_2 q11_3 q11_4 q11_5 s11_ q17_0 q17_1 s17_ q10_0 q10_1 s10_
      replace HX3 : Hid (Box (w.heap.size) [.slice a l.length cap, .int .i64 t] v12) := Lib.hid (HX3.out.below hz)
      replace HX10 : Hid (Box (g3) [.slice a3 n3 c3, .int .i64 0] v12) := Lib.hid (HX10.out.below hz)
      replace HX11 : Hid (Box (g3 + 1) [.int .i64 0, .bool false, .int .i64 0, .int .i64 0, .int .i64 0, .bool false] v12) := Lib.hid (HX11.out.below hz)
      replace HX13 : Hid (Box (g4) [.slice a4 n4 c4, .int .i64 0] v12) := Lib.hid (HX13.out.below hz)
      replace HX15 : Hid (Box (g5) [.slice a5 n5 c5, .int .i64 0] v12) := Lib.hid (HX15.out.below hz)
      replace HX17 : Hid (Box (g6) [.slice none 0 0, .int .i64 0] v12) := Lib.hid (HX17.out.below hz)
      replace HR3 : Hid (NRow v12 (.slice a l.length cap) (l)) := Lib.hid (HR3.out.below hz)
      replace HR10 : Hid (NRow v12 (.slice a3 n3 c3) ([])) := Lib.hid (HR10.out.below hz)
      replace HR13 : Hid (NRow v12 (.slice a4 n4 c4) ([])) := Lib.hid (HR13.out.below hz)
      replace HR15 : Hid (NRow v12 (.slice a5 n5 c5) ([])) := Lib.hid (HR15.out.below hz)
      replace HB : Hid (Below w.heap.size w v12) := Lib.hid (below_trans HB.out hz)
      clear hz
      obtain ⟨q17_0, q17_1⟩ := box2 HX17.out
      have s17_ := HX17.out.1
      obtain ⟨q13_0, q13_1⟩ := box2 HX13.out
      have s13_ := HX13.out.1
      go_wp2_with fail
      (with_reducible refine (HLK.out 0 _ _ [] _ HR13.out (NRow.nil _)).mono ?_)
      rintro e v13 ⟨rfl, hz⟩
      clear q17_0 q17_1 s17_ q13_0 q13_1 s13_
      replace HX3 : Hid (Box (w.heap.size) [.slice a l.length cap, .int .i64 t] v13) := Lib.hid (HX3.out.below hz)
      replace HX10 : Hid (Box (g3) [.slice a3 n3 c3, .int .i64 0] v13) := Lib.hid (HX10.out.below hz)
      replace HX11 : Hid (Box (g3 + 1) [.int .i64 0, .bool false, .int .i64 0, .int .i64 0, .int .i64 0, .bool false] v13) := Lib.hid (HX11.out.below hz)
      replace HX13 : Hid (Box (g4) [.slice a4 n4 c4, .int .i64 0] v13) := Lib.hid (HX13.out.below hz)
      replace HX15 : Hid (Box (g5) [.slice a5 n5 c5, .int .i64 0] v13) := Lib.hid (HX15.out.below hz)
      replace HX17 : Hid (Box (g6) [.slice none 0 0, .int .i64 0] v13) := Lib.hid (HX17.out.below hz)
      replace HR3 : Hid (NRow v13 (.slice a l.length cap) (l)) := Lib.hid (HR3.out.below hz)
      replace HR10 : Hid (NRow v13 (.slice a3 n3 c3) ([])) := Lib.hid (HR10.out.below hz)
      replace HR13 : Hid (NRow v13 (.slice a4 n4 c4) ([])) := Lib.hid (HR13.out.below hz)
      replace HR15 : Hid (NRow v13 (.slice a5 n5 c5) ([])) := Lib.hid (HR15.out.below hz)
      replace HB : Hid (Below w.heap.size w v13) := Lib.hid (below_trans HB.out hz)
      clear hz
      obtain ⟨q17_0, q17_1⟩ := box2 HX17.out
      have s17_ := HX17.out.1
      obtain ⟨q15_0, q15_1⟩ := box2 HX15.out
      have s15_ := HX15.out.1
      go_wp2_with fail
      (with_reducible refine (HLK.out 0 _ _ [] _ HR15.out (NRow.nil _)).mono ?_)
      rintro e v14 ⟨rfl, hz⟩
      clear q17_0 q17_1 s17_ q15_0 q15_1 s15_
      replace HX3 : Hid (Box (w.heap.size) [.slice a l.length cap, .int .i64 t] v14) := Lib.hid (HX3.out.below hz)
      replace HX10 : Hid (Box (g3) [.slice a3 n3 c3, .int .i64 0] v14) := Lib.hid (HX10.out.below hz)
      replace HX11 : Hid (Box (g3 + 1) [.int .i64 0, .bool false, .int .i64 0, .int .i64 0, .int .i64 0, .bool false] v14) := Lib.hid (HX11.out.below hz)
      replace HX13 : Hid (Box (g4) [.slice a4 n4 c4, .int .i64 0] v14) := Lib.hid (HX13.out.below hz)
      replace HX15 : Hid (Box (g5) [.slice a5 n5 c5, .int .i64 0] v14) := Lib.hid (HX15.out.below hz)
      replace HX17 : Hid (Box (g6) [.slice none 0 0, .int .i64 0] v14) := Lib.hid (HX17.out.below hz)
      replace HR3 : Hid (NRow v14 (.slice a l.length cap) (l)) := Lib.hid (HR3.out.below hz)
      replace HR10 : Hid (NRow v14 (.slice a3 n3 c3) ([])) := Lib.hid (HR10.out.below hz)
      replace HR13 : Hid (NRow v14 (.slice a4 n4 c4) ([])) := Lib.hid (HR13.out.below hz)
      replace HR15 : Hid (NRow v14 (.slice a5 n5 c5) ([])) := Lib.hid (HR15.out.below hz)
      replace HB : Hid (Below w.heap.size w v14) := Lib.hid (below_trans HB.out hz)
      clear hz
      go_wp2_with fail
      go_ret
      exact ⟨rfl, HB.out⟩
    · have h1 : pl ≥ (l.length : Int) := by omega
      clear hi
      obtain ⟨q3_0, q3_1⟩ := box2 HX3.out
      have s3_ := HX3.out.1
      go_upto_region 25 with (fail)
      clear q3_0 q3_1 s3_
      obtain ⟨q11_0, q11_1, q11_2, q11_3, q11_4, q11_5⟩ := box6 HX11.out
      have s11_ := HX11.out.1
      obtain ⟨q17_0, q17_1⟩ := box2 HX17.out
      have s17_ := HX17.out.1
      obtain ⟨q10_0, q10_1⟩ := box2 HX10.out
      have s10_ := HX10.out.1
      go_wp2_with fail
      (with_reducible refine (HLK.out 0 _ _ [] _ HR10.out (NRow.nil _)).mono ?_)
      rintro e v12 ⟨rfl, hz⟩
      clear q11_0 q11_1 q11_2 q11_3 q11_4 q11_5 s11_ q17_0 q17_1 s17_ q10_0 q10_1 s10_
      replace HX3 : Hid (Box (w.heap.size) [.slice a l.length cap, .int .i64 t] v12) := Lib.hid (HX3.out.below hz)
      replace HX10 : Hid (Box (g3) [.slice a3 n3 c3, .int .i64 0] v12) := Lib.hid (HX10.out.below hz)
      replace HX11 : Hid (Box (g3 + 1) [.int .i64 0, .bool false, .int .i64 0, .int .i64 0, .int .i64 0, .bool false] v12) := Lib.hid (HX11.out.below hz)
      replace HX13 : Hid (Box (g4) [.slice a4 n4 c4, .int .i64 0] v12) := Lib.hid (HX13.out.below hz)
      replace HX15 : Hid (Box (g5) [.slice a5 n5 c5, .int .i64 0] v12) := Lib.hid (HX15.out.below hz)
      replace HX17 : Hid (Box (g6) [.slice none 0 0, .int .i64 0] v12) := Lib.hid (HX17.out.below hz)
      replace HR3 : Hid (NRow v12 (.slice a l.length cap) (l)) := Lib.hid (HR3.out.below hz)
      replace HR10 : Hid (NRow v12 (.slice a3 n3 c3) ([])) := Lib.hid (HR10.out.below hz)
      replace HR13 : Hid (NRow v12 (.slice a4 n4 c4) ([])) := Lib.hid (HR13.out.below hz)
      replace HR15 : Hid (NRow v12 (.slice a5 n5 c5) ([])) := Lib.hid (HR15.out.below hz)
      replace HB : Hid (Below w.heap.size w v12) := Lib.hid (below_trans HB.out hz)
      clear hz
      obtain ⟨q17_0, q17_1⟩ := box2 HX17.out
      have s17_ := HX17.out.1
      obtain ⟨q13_0, q13_1⟩ := box2 HX13.out
      have s13_ := HX13.out.1
      go_wp2_with fail
      (with_reducible refine (HLK.out 0 _ _ [] _ HR13.out (NRow.nil _)).mono ?_)
      rintro e v13 ⟨rfl, hz⟩
      clear q17_0 q17_1 s17_ q13_0 q13_1 s13_
      replace HX3 : Hid (Box (w.heap.size) [.slice a l.length cap, .int .i64 t] v13) := Lib.hid (HX3.out.below hz)
      replace HX10 : Hid (Box (g3) [.slice a3 n3 c3, .int .i64 0] v13) := Lib.hid (HX10.out.below hz)
      replace HX11 : Hid (Box (g3 + 1) [.int .i64 0, .bool false, .int .i64 0, .int .i64 0, .int .i64 0, .bool false] v13) := Lib.hid (HX11.out.below hz)
      replace HX13 : Hid (Box (g4) [.slice a4 n4 c4, .int .i64 0] v13) := Lib.hid (HX13.out.below hz)
      replace HX15 : Hid (Box (g5) [.slice a5 n5 c5, .int .i64 0] v13) := Lib.hid (HX15.out.below hz)
      replace HX17 : Hid (Box (g6) [.slice none 0 0, .int .i64 0] v13) := Lib.hid (HX17.out.below hz)
      replace HR3 : Hid (NRow v13 (.slice a l.length cap) (l)) := Lib.hid (HR3.out.below hz)
      replace HR10 : Hid (NRow v13 (.slice a3 n3 c3) ([])) := Lib.hid (HR10.out.below hz)
      replace HR13 : Hid (NRow v13 (.slice a4 n4 c4) ([])) := Lib.hid (HR13.out.below hz)
      replace HR15 : Hid (NRow v13 (.slice a5 n5 c5) ([])) := Lib.hid (HR15.out.below hz)
      replace HB : Hid (Below w.heap.size w v13) := Lib.hid (below_trans HB.out hz)
      clear hz
      obtain ⟨q17_0, q17_1⟩ := box2 HX17.out
      have s17_ := HX17.out.1
      obtain ⟨q15_0, q15_1⟩ := box2 HX15.out
      have s15_ := HX15.out.1
      go_wp2_with fail
      (with_reducible refine (HLK.out 0 _ _ [] _ HR15.out (NRow.nil _)).mono ?_)
      rintro e v14 ⟨rfl, hz⟩
      clear q17_0 q17_1 s17_ q15_0 q15_1 s15_
      replace HX3 : Hid (Box (w.heap.size) [.slice a l.length cap, .int .i64 t] v14) := Lib.hid (HX3.out.below hz)
      replace HX10 : Hid (Box (g3) [.slice a3 n3 c3, .int .i64 0] v14) := Lib.hid (HX10.out.below hz)
      replace HX11 : Hid (Box (g3 + 1) [.int .i64 0, .bool false, .int .i64 0, .int .i64 0, .int .i64 0, .bool false] v14) := Lib.hid (HX11.out.below hz)
      replace HX13 : Hid (Box (g4) [.slice a4 n4 c4, .int .i64 0] v14) := Lib.hid (HX13.out.below hz)
      replace HX15 : Hid (Box (g5) [.slice a5 n5 c5, .int .i64 0] v14) := Lib.hid (HX15.out.below hz)
      replace HX17 : Hid (Box (g6) [.slice none 0 0, .int .i64 0] v14) := Lib.hid (HX17.out.below hz)
      replace HR3 : Hid (NRow v14 (.slice a l.length cap) (l)) := Lib.hid (HR3.out.below hz)
      replace HR10 : Hid (NRow v14 (.slice a3 n3 c3) ([])) := Lib.hid (HR10.out.below hz)
      replace HR13 : Hid (NRow v14 (.slice a4 n4 c4) ([])) := Lib.hid (HR13.out.below hz)
      replace HR15 : Hid (NRow v14 (.slice a5 n5 c5) ([])) := Lib.hid (HR15.out.below hz)
      replace HB : Hid (Below w.heap.size w v14) := Lib.hid (below_trans HB.out hz)
      clear hz
      go_wp2_with fail
      go_ret
      exact ⟨rfl, HB.out⟩
  · clear WG
    replace e3 := e3.symm
    subst e0 e1 e2 e3 e4 e5
    have HW := Lib.hid hw
    clear hw
    have hb : rb = true := by rw [← HRE.out]; exact hr
    subst hb
    have hln := (rightB_t.1 hr).1
    clear hr HRE
    obtain ⟨q3_0, q3_1⟩ := box2 HX3.out
    have s3_ := HX3.out.1
    go_wp2_with fail
    (with_reducible refine (HLR.out _ HR3.out).mono ?_)
    rintro e v11 ⟨rfl, hz⟩
    clear q3_0 q3_1 s3_
    replace HX3 : Hid (Box (w.heap.size) [.slice a l.length cap, .int .i64 t] v11) := Lib.hid (HX3.out.below hz)
    replace HX10 : Hid (Box (g3) [.slice a3 n3 c3, .int .i64 t] v11) := Lib.hid (HX10.out.below hz)
    replace HX11 : Hid (Box (g3 + 1) [.int .i64 l[k].n, .bool l[k].b, .int .i64 l[k].y, .int .i64 l[k].k, .int .i64 l[k].o, .bool l[k].s] v11) := Lib.hid (HX11.out.below hz)
    replace HX13 : Hid (Box (g4) [.slice a4 n4 c4, .int .i64 TW] v11) := Lib.hid (HX13.out.below hz)
    replace HX15 : Hid (Box (g5) [.slice a5 n5 c5, .int .i64 t] v11) := Lib.hid (HX15.out.below hz)
    replace HX17 : Hid (Box (g6) [.slice none 0 0, .int .i64 0] v11) := Lib.hid (HX17.out.below hz)
    replace HR3 : Hid (NRow v11 (.slice a l.length cap) (l)) := Lib.hid (HR3.out.below hz)
    replace HR10 : Hid (NRow v11 (.slice a3 n3 c3) (rest l k)) := Lib.hid (HR10.out.below hz)
    replace HR13 : Hid (NRow v11 (.slice a4 n4 c4) (LW)) := Lib.hid (HR13.out.below hz)
    replace HR15 : Hid (NRow v11 (.slice a5 n5 c5) (rest l k ++ [l[k]])) := Lib.hid (HR15.out.below hz)
    replace HB : Hid (Below w.heap.size w v11) := Lib.hid (below_trans HB.out hz)
    clear hz
    obtain ⟨b, off, rfl, hlc, hcap, hbl, k0, k1, k2, k3, k4, k5⟩ := NRow.at HR3.out hk
    have kc1 : (0 : Int) ≤ k := by omega
    have kc2 : (k : Int) ≤ l.length := by omega
    have kc3 : (k : Int) ≤ cap := by omega
    have kc4 : (l.length : Int) ≤ cap := by omega
    have kc5 : (0 : Int) ≤ (k : Int) + 1 := by omega
    have kc6 : (k : Int) + 1 ≤ l.length := by omega
    have kc7 : (k : Int) + 1 ≤ cap := by omega
    have kc8 : IntKind.i64.wrap ((k : Int) + 1) = (k : Int) + 1 := IntWalk.i64_in _ (by omega)
    have kc9 : ((k : Int) + 1).toNat = k + 1 := by omega
    have kc0 : ¬ ((k : Int) < 0) := by omega
    have kc10 : ¬ ((k : Int) ≥ l.length) := by omega
    have kc11 : (k : Int) < l.length := by omega
    have HRS : Hid (rest l k = l.take k ++ l.drop (k + 1)) := Lib.hid rfl
    generalize l[k] = x at *
    obtain ⟨q3_0, q3_1⟩ := box2 HX3.out
    have s3_ := HX3.out.1
    obtain ⟨w12, hw12⟩ : ∃ W, v11.alloc (.cells #[.int .i64 x.n, .bool x.b, .int .i64 x.y, .int .i64 x.k, .int .i64 x.o, .bool x.s] 26) = W := ⟨_, rfl⟩
    have hz : Below v11.heap.size v11 w12 := hw12 ▸ al v11 _
    have HX21 : Hid (Box v11.heap.size [.int .i64 x.n, .bool x.b, .int .i64 x.y, .int .i64 x.k, .int .i64 x.o, .bool x.s] w12) := Lib.hid (hw12 ▸ Box.made v11 [.int .i64 x.n, .bool x.b, .int .i64 x.y, .int .i64 x.k, .int .i64 x.o, .bool x.s] 26)
    have HW12_ := Lib.hid hw12
    clear hw12
    go_upto_region 28 with (fail)
    rw [HW12_.out]
    clear HW12_ k0 k1 k2 k3 k4 k5 hbl
    clear q3_0 q3_1 s3_
    replace HX3 : Hid (Box (w.heap.size) [.slice (some ⟨b, off, none⟩) l.length cap, .int .i64 t] w12) := Lib.hid (HX3.out.below hz)
    replace HX10 : Hid (Box (g3) [.slice a3 n3 c3, .int .i64 t] w12) := Lib.hid (HX10.out.below hz)
    replace HX11 : Hid (Box (g3 + 1) [.int .i64 x.n, .bool x.b, .int .i64 x.y, .int .i64 x.k, .int .i64 x.o, .bool x.s] w12) := Lib.hid (HX11.out.below hz)
    replace HX13 : Hid (Box (g4) [.slice a4 n4 c4, .int .i64 TW] w12) := Lib.hid (HX13.out.below hz)
    replace HX15 : Hid (Box (g5) [.slice a5 n5 c5, .int .i64 t] w12) := Lib.hid (HX15.out.below hz)
    replace HX17 : Hid (Box (g6) [.slice none 0 0, .int .i64 0] w12) := Lib.hid (HX17.out.below hz)
    replace HR3 : Hid (NRow w12 (.slice (some ⟨b, off, none⟩) l.length cap) (l)) := Lib.hid (HR3.out.below hz)
    replace HR10 : Hid (NRow w12 (.slice a3 n3 c3) (rest l k)) := Lib.hid (HR10.out.below hz)
    replace HR13 : Hid (NRow w12 (.slice a4 n4 c4) (LW)) := Lib.hid (HR13.out.below hz)
    replace HR15 : Hid (NRow w12 (.slice a5 n5 c5) (rest l k ++ [x])) := Lib.hid (HR15.out.below hz)
    replace HB : Hid (Below w.heap.size w w12) := Lib.hid (below_trans HB.out hz)
    clear hz
    generalize v11.heap.size = g12 at *
    refine reg28_wp HX3 HR3 hln hk hlc hcap ?_
    intro g22 a22 n22 c22 v185 v186 v187 v188 v189 v190 v191 v192 v193 v194 v195 v196 v197 v198 v199 w13_ _ hx hr hz
    have HX22 := Lib.hid hx
    have HR22 := Lib.hid hr
    replace HX3 : Hid (Box (w.heap.size) [.slice (some ⟨b, off, none⟩) l.length cap, .int .i64 t] w13_) := Lib.hid (HX3.out.below hz)
    replace HX10 : Hid (Box (g3) [.slice a3 n3 c3, .int .i64 t] w13_) := Lib.hid (HX10.out.below hz)
    replace HX11 : Hid (Box (g3 + 1) [.int .i64 x.n, .bool x.b, .int .i64 x.y, .int .i64 x.k, .int .i64 x.o, .bool x.s] w13_) := Lib.hid (HX11.out.below hz)
    replace HX13 : Hid (Box (g4) [.slice a4 n4 c4, .int .i64 TW] w13_) := Lib.hid (HX13.out.below hz)
    replace HX15 : Hid (Box (g5) [.slice a5 n5 c5, .int .i64 t] w13_) := Lib.hid (HX15.out.below hz)
    replace HX17 : Hid (Box (g6) [.slice none 0 0, .int .i64 0] w13_) := Lib.hid (HX17.out.below hz)
    replace HX21 : Hid (Box (g12) [.int .i64 x.n, .bool x.b, .int .i64 x.y, .int .i64 x.k, .int .i64 x.o, .bool x.s] w13_) := Lib.hid (HX21.out.below hz)
    replace HR3 : Hid (NRow w13_ (.slice (some ⟨b, off, none⟩) l.length cap) (l)) := Lib.hid (HR3.out.below hz)
    replace HR10 : Hid (NRow w13_ (.slice a3 n3 c3) (rest l k)) := Lib.hid (HR10.out.below hz)
    replace HR13 : Hid (NRow w13_ (.slice a4 n4 c4) (LW)) := Lib.hid (HR13.out.below hz)
    replace HR15 : Hid (NRow w13_ (.slice a5 n5 c5) (rest l k ++ [x])) := Lib.hid (HR15.out.below hz)
    replace HB : Hid (Below w.heap.size w w13_) := Lib.hid (below_trans HB.out hz)
    clear hx hr hz
    go_upto_region 29 with (fail)
    refine reg29_wp HX3 HX21 HR3 (by omega) ?_
    intro g23 a23 n23 c23 v200 v201 v202 v203 v204 v205 v206 v207 v208 v209 w14_ _ hx hr hz
    have HX23 := Lib.hid hx
    have HR23 := Lib.hid hr
    replace HX3 : Hid (Box (w.heap.size) [.slice (some ⟨b, off, none⟩) l.length cap, .int .i64 t] w14_) := Lib.hid (HX3.out.below hz)
    replace HX10 : Hid (Box (g3) [.slice a3 n3 c3, .int .i64 t] w14_) := Lib.hid (HX10.out.below hz)
    replace HX11 : Hid (Box (g3 + 1) [.int .i64 x.n, .bool x.b, .int .i64 x.y, .int .i64 x.k, .int .i64 x.o, .bool x.s] w14_) := Lib.hid (HX11.out.below hz)
    replace HX13 : Hid (Box (g4) [.slice a4 n4 c4, .int .i64 TW] w14_) := Lib.hid (HX13.out.below hz)
    replace HX15 : Hid (Box (g5) [.slice a5 n5 c5, .int .i64 t] w14_) := Lib.hid (HX15.out.below hz)
    replace HX17 : Hid (Box (g6) [.slice none 0 0, .int .i64 0] w14_) := Lib.hid (HX17.out.below hz)
    replace HX21 : Hid (Box (g12) [.int .i64 x.n, .bool x.b, .int .i64 x.y, .int .i64 x.k, .int .i64 x.o, .bool x.s] w14_) := Lib.hid (HX21.out.below hz)
    replace HX22 : Hid (Box (g22) [.slice a22 n22 c22, .int .i64 t] w14_) := Lib.hid (HX22.out.below hz)
    replace HR3 : Hid (NRow w14_ (.slice (some ⟨b, off, none⟩) l.length cap) (l)) := Lib.hid (HR3.out.below hz)
    replace HR10 : Hid (NRow w14_ (.slice a3 n3 c3) (rest l k)) := Lib.hid (HR10.out.below hz)
    replace HR13 : Hid (NRow w14_ (.slice a4 n4 c4) (LW)) := Lib.hid (HR13.out.below hz)
    replace HR15 : Hid (NRow w14_ (.slice a5 n5 c5) (rest l k ++ [x])) := Lib.hid (HR15.out.below hz)
    replace HR22 : Hid (NRow w14_ (.slice a22 n22 c22) (rest l k)) := Lib.hid (HR22.out.below hz)
    replace HB : Hid (Below w.heap.size w w14_) := Lib.hid (below_trans HB.out hz)
    clear hx hr hz
    have hrl : (rest l k).length ≤ 66 := by have := rest_len hk; omega
    go_upto_region 30 with (fail)
    refine reg30_wp HX3 HX21 HX22 HR22 hrl ?_
    intro g24 a24 n24 c24 v210 v211 v212 v213 v214 v215 v216 v217 v218 v219 w15_ _ hx hr hz
    have HX24 := Lib.hid hx
    have HR24 := Lib.hid hr
    replace HX3 : Hid (Box (w.heap.size) [.slice (some ⟨b, off, none⟩) l.length cap, .int .i64 t] w15_) := Lib.hid (HX3.out.below hz)
    replace HX10 : Hid (Box (g3) [.slice a3 n3 c3, .int .i64 t] w15_) := Lib.hid (HX10.out.below hz)
    replace HX11 : Hid (Box (g3 + 1) [.int .i64 x.n, .bool x.b, .int .i64 x.y, .int .i64 x.k, .int .i64 x.o, .bool x.s] w15_) := Lib.hid (HX11.out.below hz)
    replace HX13 : Hid (Box (g4) [.slice a4 n4 c4, .int .i64 TW] w15_) := Lib.hid (HX13.out.below hz)
    replace HX15 : Hid (Box (g5) [.slice a5 n5 c5, .int .i64 t] w15_) := Lib.hid (HX15.out.below hz)
    replace HX17 : Hid (Box (g6) [.slice none 0 0, .int .i64 0] w15_) := Lib.hid (HX17.out.below hz)
    replace HX21 : Hid (Box (g12) [.int .i64 x.n, .bool x.b, .int .i64 x.y, .int .i64 x.k, .int .i64 x.o, .bool x.s] w15_) := Lib.hid (HX21.out.below hz)
    replace HX22 : Hid (Box (g22) [.slice a22 n22 c22, .int .i64 t] w15_) := Lib.hid (HX22.out.below hz)
    replace HX23 : Hid (Box (g23) [.slice a23 n23 c23, .int .i64 t] w15_) := Lib.hid (HX23.out.below hz)
    replace HR3 : Hid (NRow w15_ (.slice (some ⟨b, off, none⟩) l.length cap) (l)) := Lib.hid (HR3.out.below hz)
    replace HR10 : Hid (NRow w15_ (.slice a3 n3 c3) (rest l k)) := Lib.hid (HR10.out.below hz)
    replace HR13 : Hid (NRow w15_ (.slice a4 n4 c4) (LW)) := Lib.hid (HR13.out.below hz)
    replace HR15 : Hid (NRow w15_ (.slice a5 n5 c5) (rest l k ++ [x])) := Lib.hid (HR15.out.below hz)
    replace HR22 : Hid (NRow w15_ (.slice a22 n22 c22) (rest l k)) := Lib.hid (HR22.out.below hz)
    replace HR23 : Hid (NRow w15_ (.slice a23 n23 c23) (l ++ [x])) := Lib.hid (HR23.out.below hz)
    replace HB : Hid (Below w.heap.size w w15_) := Lib.hid (below_trans HB.out hz)
    clear hx hr hz
    have heq := fun w => neq_pc x x w
    simp only [decide_true, Bool.not_true] at heq
    obtain ⟨q11_0, q11_1, q11_2, q11_3, q11_4, q11_5⟩ := box6 HX11.out
    have s11_ := HX11.out.1
    obtain ⟨q21_0, q21_1, q21_2, q21_3, q21_4, q21_5⟩ := box6 HX21.out
    have s21_ := HX21.out.1
    obtain ⟨q10_0, q10_1⟩ := box2 HX10.out
    have s10_ := HX10.out.1
    obtain ⟨q22_0, q22_1⟩ := box2 HX22.out
    have s22_ := HX22.out.1
    go_wp2_with fail
    (with_reducible refine (HLK.out t _ _ (rest l k) _ HR10.out HR22.out).mono ?_)
    rintro e v16 ⟨rfl, hz⟩
    clear q11_0 q11_1 q11_2 q11_3 q11_4 q11_5 s11_ q21_0 q21_1 q21_2 q21_3 q21_4 q21_5 s21_ q10_0 q10_1 s10_ q22_0 q22_1 s22_
    replace HX3 : Hid (Box (w.heap.size) [.slice (some ⟨b, off, none⟩) l.length cap, .int .i64 t] v16) := Lib.hid (HX3.out.below hz)
    replace HX10 : Hid (Box (g3) [.slice a3 n3 c3, .int .i64 t] v16) := Lib.hid (HX10.out.below hz)
    replace HX11 : Hid (Box (g3 + 1) [.int .i64 x.n, .bool x.b, .int .i64 x.y, .int .i64 x.k, .int .i64 x.o, .bool x.s] v16) := Lib.hid (HX11.out.below hz)
    replace HX13 : Hid (Box (g4) [.slice a4 n4 c4, .int .i64 TW] v16) := Lib.hid (HX13.out.below hz)
    replace HX15 : Hid (Box (g5) [.slice a5 n5 c5, .int .i64 t] v16) := Lib.hid (HX15.out.below hz)
    replace HX17 : Hid (Box (g6) [.slice none 0 0, .int .i64 0] v16) := Lib.hid (HX17.out.below hz)
    replace HX21 : Hid (Box (g12) [.int .i64 x.n, .bool x.b, .int .i64 x.y, .int .i64 x.k, .int .i64 x.o, .bool x.s] v16) := Lib.hid (HX21.out.below hz)
    replace HX22 : Hid (Box (g22) [.slice a22 n22 c22, .int .i64 t] v16) := Lib.hid (HX22.out.below hz)
    replace HX23 : Hid (Box (g23) [.slice a23 n23 c23, .int .i64 t] v16) := Lib.hid (HX23.out.below hz)
    replace HX24 : Hid (Box (g24) [.slice a24 n24 c24, .int .i64 t] v16) := Lib.hid (HX24.out.below hz)
    replace HR3 : Hid (NRow v16 (.slice (some ⟨b, off, none⟩) l.length cap) (l)) := Lib.hid (HR3.out.below hz)
    replace HR10 : Hid (NRow v16 (.slice a3 n3 c3) (rest l k)) := Lib.hid (HR10.out.below hz)
    replace HR13 : Hid (NRow v16 (.slice a4 n4 c4) (LW)) := Lib.hid (HR13.out.below hz)
    replace HR15 : Hid (NRow v16 (.slice a5 n5 c5) (rest l k ++ [x])) := Lib.hid (HR15.out.below hz)
    replace HR22 : Hid (NRow v16 (.slice a22 n22 c22) (rest l k)) := Lib.hid (HR22.out.below hz)
    replace HR23 : Hid (NRow v16 (.slice a23 n23 c23) (l ++ [x])) := Lib.hid (HR23.out.below hz)
    replace HR24 : Hid (NRow v16 (.slice a24 n24 c24) (rest l k ++ [x])) := Lib.hid (HR24.out.below hz)
    replace HB : Hid (Below w.heap.size w v16) := Lib.hid (below_trans HB.out hz)
    clear hz
    obtain ⟨q15_0, q15_1⟩ := box2 HX15.out
    have s15_ := HX15.out.1
    obtain ⟨q24_0, q24_1⟩ := box2 HX24.out
    have s24_ := HX24.out.1
    go_wp2_with fail
    (with_reducible refine (HLK.out t _ _ (rest l k ++ [x]) _ HR15.out HR24.out).mono ?_)
    rintro e v17 ⟨rfl, hz⟩
    clear q15_0 q15_1 s15_ q24_0 q24_1 s24_
    replace HX3 : Hid (Box (w.heap.size) [.slice (some ⟨b, off, none⟩) l.length cap, .int .i64 t] v17) := Lib.hid (HX3.out.below hz)
    replace HX10 : Hid (Box (g3) [.slice a3 n3 c3, .int .i64 t] v17) := Lib.hid (HX10.out.below hz)
    replace HX11 : Hid (Box (g3 + 1) [.int .i64 x.n, .bool x.b, .int .i64 x.y, .int .i64 x.k, .int .i64 x.o, .bool x.s] v17) := Lib.hid (HX11.out.below hz)
    replace HX13 : Hid (Box (g4) [.slice a4 n4 c4, .int .i64 TW] v17) := Lib.hid (HX13.out.below hz)
    replace HX15 : Hid (Box (g5) [.slice a5 n5 c5, .int .i64 t] v17) := Lib.hid (HX15.out.below hz)
    replace HX17 : Hid (Box (g6) [.slice none 0 0, .int .i64 0] v17) := Lib.hid (HX17.out.below hz)
    replace HX21 : Hid (Box (g12) [.int .i64 x.n, .bool x.b, .int .i64 x.y, .int .i64 x.k, .int .i64 x.o, .bool x.s] v17) := Lib.hid (HX21.out.below hz)
    replace HX22 : Hid (Box (g22) [.slice a22 n22 c22, .int .i64 t] v17) := Lib.hid (HX22.out.below hz)
    replace HX23 : Hid (Box (g23) [.slice a23 n23 c23, .int .i64 t] v17) := Lib.hid (HX23.out.below hz)
    replace HX24 : Hid (Box (g24) [.slice a24 n24 c24, .int .i64 t] v17) := Lib.hid (HX24.out.below hz)
    replace HR3 : Hid (NRow v17 (.slice (some ⟨b, off, none⟩) l.length cap) (l)) := Lib.hid (HR3.out.below hz)
    replace HR10 : Hid (NRow v17 (.slice a3 n3 c3) (rest l k)) := Lib.hid (HR10.out.below hz)
    replace HR13 : Hid (NRow v17 (.slice a4 n4 c4) (LW)) := Lib.hid (HR13.out.below hz)
    replace HR15 : Hid (NRow v17 (.slice a5 n5 c5) (rest l k ++ [x])) := Lib.hid (HR15.out.below hz)
    replace HR22 : Hid (NRow v17 (.slice a22 n22 c22) (rest l k)) := Lib.hid (HR22.out.below hz)
    replace HR23 : Hid (NRow v17 (.slice a23 n23 c23) (l ++ [x])) := Lib.hid (HR23.out.below hz)
    replace HR24 : Hid (NRow v17 (.slice a24 n24 c24) (rest l k ++ [x])) := Lib.hid (HR24.out.below hz)
    replace HB : Hid (Below w.heap.size w v17) := Lib.hid (below_trans HB.out hz)
    clear hz
    rcases HW.out with ⟨h64, e1, e2, e3⟩ | ⟨h64, e1, e2, e3⟩
    · subst e1 e2 e3
      clear HW
      have q1 : ((l.length : Int) == 64) = true := by simpa using (by omega : (l.length : Int) = 64)
      clear h64
      obtain ⟨q3_0, q3_1⟩ := box2 HX3.out
      have s3_ := HX3.out.1
      obtain ⟨q13_0, q13_1⟩ := box2 HX13.out
      have s13_ := HX13.out.1
      obtain ⟨q17_0, q17_1⟩ := box2 HX17.out
      have s17_ := HX17.out.1
      go_wp2_with fail
      (with_reducible refine (HLK.out 0 _ _ [] _ HR13.out (NRow.nil _)).mono ?_)
      rintro e v18 ⟨rfl, hz⟩
      clear q3_0 q3_1 s3_ q13_0 q13_1 s13_ q17_0 q17_1 s17_
      replace HX3 : Hid (Box (w.heap.size) [.slice (some ⟨b, off, none⟩) l.length cap, .int .i64 t] v18) := Lib.hid (HX3.out.below hz)
      replace HX10 : Hid (Box (g3) [.slice a3 n3 c3, .int .i64 t] v18) := Lib.hid (HX10.out.below hz)
      replace HX11 : Hid (Box (g3 + 1) [.int .i64 x.n, .bool x.b, .int .i64 x.y, .int .i64 x.k, .int .i64 x.o, .bool x.s] v18) := Lib.hid (HX11.out.below hz)
      replace HX13 : Hid (Box (g4) [.slice a4 n4 c4, .int .i64 0] v18) := Lib.hid (HX13.out.below hz)
      replace HX15 : Hid (Box (g5) [.slice a5 n5 c5, .int .i64 t] v18) := Lib.hid (HX15.out.below hz)
      replace HX17 : Hid (Box (g6) [.slice none 0 0, .int .i64 0] v18) := Lib.hid (HX17.out.below hz)
      replace HX21 : Hid (Box (g12) [.int .i64 x.n, .bool x.b, .int .i64 x.y, .int .i64 x.k, .int .i64 x.o, .bool x.s] v18) := Lib.hid (HX21.out.below hz)
      replace HX22 : Hid (Box (g22) [.slice a22 n22 c22, .int .i64 t] v18) := Lib.hid (HX22.out.below hz)
      replace HX23 : Hid (Box (g23) [.slice a23 n23 c23, .int .i64 t] v18) := Lib.hid (HX23.out.below hz)
      replace HX24 : Hid (Box (g24) [.slice a24 n24 c24, .int .i64 t] v18) := Lib.hid (HX24.out.below hz)
      replace HR3 : Hid (NRow v18 (.slice (some ⟨b, off, none⟩) l.length cap) (l)) := Lib.hid (HR3.out.below hz)
      replace HR10 : Hid (NRow v18 (.slice a3 n3 c3) (rest l k)) := Lib.hid (HR10.out.below hz)
      replace HR13 : Hid (NRow v18 (.slice a4 n4 c4) ([])) := Lib.hid (HR13.out.below hz)
      replace HR15 : Hid (NRow v18 (.slice a5 n5 c5) (rest l k ++ [x])) := Lib.hid (HR15.out.below hz)
      replace HR22 : Hid (NRow v18 (.slice a22 n22 c22) (rest l k)) := Lib.hid (HR22.out.below hz)
      replace HR23 : Hid (NRow v18 (.slice a23 n23 c23) (l ++ [x])) := Lib.hid (HR23.out.below hz)
      replace HR24 : Hid (NRow v18 (.slice a24 n24 c24) (rest l k ++ [x])) := Lib.hid (HR24.out.below hz)
      replace HB : Hid (Below w.heap.size w v18) := Lib.hid (below_trans HB.out hz)
      clear hz
      go_wp2_with fail
      go_ret
      exact ⟨rfl, HB.out⟩
    · replace e3 := e3.symm
      subst e1 e2 e3
      clear HW
      have q1 : ((l.length : Int) == 64) = false := by simpa using (by omega : ¬ (l.length : Int) = 64)
      clear h64
      obtain ⟨q3_0, q3_1⟩ := box2 HX3.out
      have s3_ := HX3.out.1
      obtain ⟨q13_0, q13_1⟩ := box2 HX13.out
      have s13_ := HX13.out.1
      obtain ⟨q23_0, q23_1⟩ := box2 HX23.out
      have s23_ := HX23.out.1
      go_wp2_with fail
      (with_reducible refine (HLK.out t _ _ (l ++ [x]) _ HR13.out HR23.out).mono ?_)
      rintro e v18 ⟨rfl, hz⟩
      clear q3_0 q3_1 s3_ q13_0 q13_1 s13_ q23_0 q23_1 s23_
      replace HX3 : Hid (Box (w.heap.size) [.slice (some ⟨b, off, none⟩) l.length cap, .int .i64 t] v18) := Lib.hid (HX3.out.below hz)
      replace HX10 : Hid (Box (g3) [.slice a3 n3 c3, .int .i64 t] v18) := Lib.hid (HX10.out.below hz)
      replace HX11 : Hid (Box (g3 + 1) [.int .i64 x.n, .bool x.b, .int .i64 x.y, .int .i64 x.k, .int .i64 x.o, .bool x.s] v18) := Lib.hid (HX11.out.below hz)
      replace HX13 : Hid (Box (g4) [.slice a4 n4 c4, .int .i64 t] v18) := Lib.hid (HX13.out.below hz)
      replace HX15 : Hid (Box (g5) [.slice a5 n5 c5, .int .i64 t] v18) := Lib.hid (HX15.out.below hz)
      replace HX17 : Hid (Box (g6) [.slice none 0 0, .int .i64 0] v18) := Lib.hid (HX17.out.below hz)
      replace HX21 : Hid (Box (g12) [.int .i64 x.n, .bool x.b, .int .i64 x.y, .int .i64 x.k, .int .i64 x.o, .bool x.s] v18) := Lib.hid (HX21.out.below hz)
      replace HX22 : Hid (Box (g22) [.slice a22 n22 c22, .int .i64 t] v18) := Lib.hid (HX22.out.below hz)
      replace HX23 : Hid (Box (g23) [.slice a23 n23 c23, .int .i64 t] v18) := Lib.hid (HX23.out.below hz)
      replace HX24 : Hid (Box (g24) [.slice a24 n24 c24, .int .i64 t] v18) := Lib.hid (HX24.out.below hz)
      replace HR3 : Hid (NRow v18 (.slice (some ⟨b, off, none⟩) l.length cap) (l)) := Lib.hid (HR3.out.below hz)
      replace HR10 : Hid (NRow v18 (.slice a3 n3 c3) (rest l k)) := Lib.hid (HR10.out.below hz)
      replace HR13 : Hid (NRow v18 (.slice a4 n4 c4) (l ++ [x])) := Lib.hid (HR13.out.below hz)
      replace HR15 : Hid (NRow v18 (.slice a5 n5 c5) (rest l k ++ [x])) := Lib.hid (HR15.out.below hz)
      replace HR22 : Hid (NRow v18 (.slice a22 n22 c22) (rest l k)) := Lib.hid (HR22.out.below hz)
      replace HR23 : Hid (NRow v18 (.slice a23 n23 c23) (l ++ [x])) := Lib.hid (HR23.out.below hz)
      replace HR24 : Hid (NRow v18 (.slice a24 n24 c24) (rest l k ++ [x])) := Lib.hid (HR24.out.below hz)
      replace HB : Hid (Below w.heap.size w v18) := Lib.hid (below_trans HB.out hz)
      clear hz
      go_wp2_with fail
      go_ret
      exact ⟨rfl, HB.out⟩

set_option maxRecDepth 100000 in
set_option maxHeartbeats 4000000 in
theorem lifted (os : Os) (started : os.Started) (H : Type) (enc : TypeId × Value → H) :
    ReturnsInHanded {} Try.checked os 3 .any (Rows.netGoesSpec.pre6 enc Try.prog Try.f3 Rows.netGoesRow.domain false) (Rows.netGoesSpec.post enc Try.prog Try.f3 false true false false) := by
  refine returnsInHanded_of_change (C := Try.checked) own started (by kernel_rfl) Try.func3
    (ChangeSpec.witness6 (enc := enc) (C := Try.checked) false ⟨#[], #[.agg #[.slice none 0 0, .int .i64 0], .agg #[.int .i64 0, .bool false, .int .i64 0, .int .i64 0, .int .i64 0, .bool false], .int .i64 0], []⟩ 8 (by kernel_rfl) (by kernel_rfl) (by kernel_rfl) (by kernel_rfl)) ?_
  intro W base args ds gs before hval0 hW hcnd _
  have hval : ∀ (j : Nat) t v, Try.f3.params[j]? = some t → args[j]? = some v → Value.okWide Try.prog W .any base t v := hval0
  have hW' := hW
  obtain ⟨p, q, hA0, hV, rfl, hfz, hnd⟩ := hW
  have hA : DataW.TrodAll enc Try.prog W 0 (fun _ => true) true Try.f3.params.toList args.toList ds p := hA0
  rw [Try.params3] at hA hval
  obtain ⟨v0, vs0, d0, ds0, p0, q0, hargs, rfl, rfl, h0, r0⟩ := trodAll_cons hA
  obtain ⟨v1, vs1, d1, ds1, p1, q1, rfl, rfl, rfl, h1, r1⟩ := trodAll_cons r0
  obtain ⟨v2, vs2, d2, ds2, p2, q2, rfl, rfl, rfl, h2, r2⟩ := trodAll_cons r1
  obtain ⟨rfl, rfl, rfl⟩ := trodAll_nil r2
  obtain rfl : args = #[v0, v1, v2] := by cases args; simp_all
  obtain ⟨rfl, rfl⟩ := trodVars_none hV
  have k0 := h0
  have lt0 : ∀ x ∈ p0, x.block < W.heap.size := by obtain ⟨m, hm⟩ := k0; exact DataW.trod_lt m _ _ _ hm
  obtain ⟨fuel0, hf0⟩ := h0
  obtain ⟨t0, va0, rfl, w0⟩ := open_net (hval 0 24 v0 rfl rfl) hf0
  have k1 := h1
  have lt1 : ∀ x ∈ p1, x.block < W.heap.size := by obtain ⟨m, hm⟩ := k1; exact DataW.trod_lt m _ _ _ hm
  obtain ⟨fuel1, hf1⟩ := h1
  obtain ⟨x1, rfl⟩ := open_parcel (hval 1 26 v1 rfl rfl) hf1
  obtain ⟨a2, rfl, rfl, rfl, w2⟩ := open_int Try.underlying3 (hval 2 3 v2 rfl rfl) h2
  have hb2 : -9223372036854775808 ≤ a2 ∧ a2 ≤ 9223372036854775807 := by
    have := w2
    simp [Lit.wf, IntKind.min, IntKind.max, IntKind.bits, IntKind.signed] at this
    omega
  clear hA0 hval0
  refine (walk0 t0 va0 x1 a2 hb2.1 hb2.2 W w0).mono fun e W' ⟨he, bel⟩ => ?_
  subst he
  exact ⟨_, rfl, _, _, _, [], _, [], hW', trodAll_mk1 (shut_bool Try.underlying4 _), (trodAll_cons_mk (Below.trod laidOut (by kernel_rfl) (of_decide_eq_true (by kernel_rfl)) k0 bel lt0) (trodAll_cons_mk (Below.trod laidOut (by kernel_rfl) (of_decide_eq_true (by kernel_rfl)) k1 bel lt1) (trodAll_cons_mk (shut_int Try.underlying3 w2) trodAll_mk0))), rfl, bel.frame _, fun h => by cases h⟩

theorem over : Rows.netGoesRow.holds Try.pinned (OpenSpec.ofChange Rows.netGoesSpec) :=
  OpenClaim.holds_of_wide 3 Try.f3 rfl rfl rfl rfl rfl rfl rfl ⟨rfl, rfl, rfl, rfl, rfl⟩ rfl rfl rfl rfl rfl (by kernel_rfl) Try.func3 (by kernel_rfl)
    (of_decide_eq_true (by kernel_rfl)) (by unfold Func.isWrapper; first | (rw [if_pos (by decide +kernel)]; kernel_rfl) | (rw [if_neg (by decide +kernel)]; exact ⟨rfl, rfl⟩))
    (fun os started H enc _ => lifted os started H enc)

theorem proved : Rows.NetGoesSaid := over
#print axioms proved
end Go.Proofs.Ytkfjhfneagjejaa.netGoes
