/-
  Proved: for any asking, times and answer the law AskGoes returns true: which asking may be, when another thing may stand, and what beginning, answering and time makes of any, is as the document says, or refused. No condition.
-/
import Derived.Test.YtbdgcfcipjehmaaRows
import Derived.Test.YtbdgcfcipjehmaaAHand
import Derived.Deep.CutBlock
namespace Go.Proofs.Ytbdgcfcipjehmaa.askGoes
open Go.ChangeShapes Go.WideShapes Go.ChangeAt Go.RowKit Go.Lib Go.Proofs.Ytbdgcfcipjehmaa.Ask
set_option linter.unusedVariables false

theorem own : ownKnob Try.prog.godebug = none := by kernel_rfl
theorem laidOut : laidOutB Try.prog = true := by kernel_rfl

theorem beg_two {p : As} (t : Int) : (begE p t = 0 ∧ begO p t = ⟨1, t⟩) ∨ (begE p t ≠ 0 ∧ begO p t = noA) := by
  rcases beg_ways p t with ⟨_, e1, e2⟩ | ⟨_, _, _, e1, e2⟩ | ⟨_, _, _, e1, e2⟩
  · exact .inr ⟨by rw [e1]; decide, e2⟩
  · exact .inr ⟨by rw [e1]; decide, e2⟩
  · exact .inl ⟨e1, e2⟩

set_option maxRecDepth 100000 in
set_option maxHeartbeats 8000000 in
theorem walk0 (p : As) (t : Int) (_t1 : -9223372036854775808 ≤ t) (_t2 : t ≤ 9223372036854775807) (now : Int) (_n1 : -9223372036854775808 ≤ now) (_n2 : now ≤ 9223372036854775807) (y : Bool) (w : World) :
    Calls Try.prog 3 #[av p, .int .i64 t, .int .i64 now, .bool y] w (BoolB true w) := by
  have HAL := Lib.hid alive_any
  have hR := Right_any p
  have hr := right_any p
  have hM := May_any p now
  have h1 := Begin_any p t
  have h2 := Answer_any p y now
  have h3 := Lapse_any p now
  have hbad : rightB p = false → begE p t = 1 ∧ begO p t = noA ∧ ansE p now = 1 ∧ ansO p y now = noA ∧ lapE p = 1 ∧ lapO p now = noA ∧ lapB p now = false := fun h => by obtain ⟨e1, e2, e3, e4, e5, e6, e7, _⟩ := none_of h t y now; exact ⟨e1, e2, e3, e4, e5, e6, e7⟩
  have hturn : rightB p = true → lapE p = 0 ∧ (!decide (lapO p now = p)) = lapB p now := fun h => by obtain ⟨e1, e2⟩ := lap_turned h now; exact ⟨e1, e2.symm⟩
  have hl := lap_ways p now
  have hbn := beg_ways p t
  have hbt := beg_two (p := p) t
  have han := ans_ways p y now
  have HKQ : Hid (∀ W, (binOp .neq 23 (.agg #[.int .i64 (lapO p now).s, .int .i64 (lapO p now).u]) (.agg #[.int .i64 p.s, .int .i64 p.u])).run Try.prog W = .ok (.bool (!decide (lapO p now = p))) W) := Lib.hid (fun W => neq_ask (lapO p now) p W)
  have HW := Lib.hid (may_ways p now)
  generalize rightB p = r at *
  generalize mayB p now = mb at *
  generalize lapO p now = K at *
  generalize lapB p now = kb at *
  generalize lapE p = l at *
  generalize begO p t = X at *
  generalize begE p t = f at *
  generalize ansO p y now = Y at *
  generalize ansE p now = g at *
  have HR := Lib.hid hR
  have Hr := Lib.hid hr
  have HM := Lib.hid hM
  have H1 := Lib.hid h1
  have H2 := Lib.hid h2
  have H3 := Lib.hid h3
  have HBAD := Lib.hid hbad
  have HTURN := Lib.hid hturn
  have HL := Lib.hid hl
  have HBN := Lib.hid hbn
  have HBT := Lib.hid hbt
  have HAN := Lib.hid han
  clear hR hr hM h1 h2 h3 hbad hturn hl hbn hbt han
  unfold av at *
  have hx := Box.made w [.int .i64 p.s, .int .i64 p.u] 23
  have hb := al w (.cells #[.int .i64 p.s, .int .i64 p.u] 23)
  obtain ⟨w0, hw⟩ : ∃ W, w.alloc (.cells #[.int .i64 p.s, .int .i64 p.u] 23) = W := ⟨_, rfl⟩
  have HXp : Hid (Box w.heap.size [.int .i64 p.s, .int .i64 p.u] w0) := Lib.hid (hw ▸ hx)
  have HB : Hid (Below w.heap.size w w0) := Lib.hid (hw ▸ hb)
  clear hx hb
  go_enter Try.func3, Try.ntmps3
  go_upto_region 1 with (fail)
  clear hw
  obtain ⟨p0, p1⟩ := HXp.out.c2
  have ps := HXp.out.1
  go_wp2_with fail
  (with_reducible refine (H1.out _).mono ?_)
  rintro e v1 ⟨rfl, hz⟩
  have hx := Box.made v1 [.int .i64 X.s, .int .i64 X.u] 23
  have hz2 := below_trans hz (al v1 (.cells #[.int .i64 X.s, .int .i64 X.u] 23))
  obtain ⟨w1, hw⟩ : ∃ W, v1.alloc (.cells #[.int .i64 X.s, .int .i64 X.u] 23) = W := ⟨_, rfl⟩
  replace HXp : Hid (Box w.heap.size [.int .i64 p.s, .int .i64 p.u] w1) := Lib.hid (hw ▸ HXp.out.below hz2)
  have HXx : Hid (Box v1.heap.size [.int .i64 X.s, .int .i64 X.u] w1) := Lib.hid (hw ▸ hx)
  replace HB : Hid (Below w.heap.size w w1) := Lib.hid (hw ▸ below_trans HB.out hz2)
  clear hz hx hz2
  clear p0 p1 ps
  unfold av
  go_upto_region 2 with (fail)
  clear hw
  obtain ⟨p0, p1⟩ := HXp.out.c2
  have ps := HXp.out.1
  go_wp2_with fail
  (with_reducible refine (H2.out _).mono ?_)
  rintro e v2 ⟨rfl, hz⟩
  have hx := Box.made v2 [.int .i64 Y.s, .int .i64 Y.u] 23
  have hz2 := below_trans hz (al v2 (.cells #[.int .i64 Y.s, .int .i64 Y.u] 23))
  obtain ⟨w2, hw⟩ : ∃ W, v2.alloc (.cells #[.int .i64 Y.s, .int .i64 Y.u] 23) = W := ⟨_, rfl⟩
  replace HXp : Hid (Box w.heap.size [.int .i64 p.s, .int .i64 p.u] w2) := Lib.hid (hw ▸ HXp.out.below hz2)
  replace HXx : Hid (Box v1.heap.size [.int .i64 X.s, .int .i64 X.u] w2) := Lib.hid (hw ▸ HXx.out.below hz2)
  have HXyy : Hid (Box v2.heap.size [.int .i64 Y.s, .int .i64 Y.u] w2) := Lib.hid (hw ▸ hx)
  replace HB : Hid (Below w.heap.size w w2) := Lib.hid (hw ▸ below_trans HB.out hz2)
  clear hz hx hz2
  clear p0 p1 ps
  unfold av
  go_upto_region 3 with (fail)
  clear hw
  obtain ⟨p0, p1⟩ := HXp.out.c2
  have ps := HXp.out.1
  go_wp2_with fail
  (with_reducible refine (H3.out _).mono ?_)
  rintro e v3 ⟨rfl, hz⟩
  have hx := Box.made v3 [.int .i64 K.s, .int .i64 K.u] 23
  have hz2 := below_trans hz (al v3 (.cells #[.int .i64 K.s, .int .i64 K.u] 23))
  obtain ⟨w3, hw⟩ : ∃ W, v3.alloc (.cells #[.int .i64 K.s, .int .i64 K.u] 23) = W := ⟨_, rfl⟩
  replace HXp : Hid (Box w.heap.size [.int .i64 p.s, .int .i64 p.u] w3) := Lib.hid (hw ▸ HXp.out.below hz2)
  replace HXx : Hid (Box v1.heap.size [.int .i64 X.s, .int .i64 X.u] w3) := Lib.hid (hw ▸ HXx.out.below hz2)
  replace HXyy : Hid (Box v2.heap.size [.int .i64 Y.s, .int .i64 Y.u] w3) := Lib.hid (hw ▸ HXyy.out.below hz2)
  have HXzz : Hid (Box v3.heap.size [.int .i64 K.s, .int .i64 K.u] w3) := Lib.hid (hw ▸ hx)
  replace HB : Hid (Below w.heap.size w w3) := Lib.hid (hw ▸ below_trans HB.out hz2)
  clear hz hx hz2
  clear p0 p1 ps
  unfold av
  go_upto_region 4 with (fail)
  clear hw
  go_upto_region 5 with (fail)
  generalize hw : w3.alloc (.cells #[.int .i64 0, .int .i64 0] 23) = w4
  have hx := Box.made w3 [.int .i64 0, .int .i64 0] 23
  have hz2 := al w3 (.cells #[.int .i64 0, .int .i64 0] 23)
  replace HXp : Hid (Box w.heap.size [.int .i64 p.s, .int .i64 p.u] w4) := Lib.hid (hw ▸ HXp.out.below hz2)
  replace HXx : Hid (Box v1.heap.size [.int .i64 X.s, .int .i64 X.u] w4) := Lib.hid (hw ▸ HXx.out.below hz2)
  replace HXyy : Hid (Box v2.heap.size [.int .i64 Y.s, .int .i64 Y.u] w4) := Lib.hid (hw ▸ HXyy.out.below hz2)
  replace HXzz : Hid (Box v3.heap.size [.int .i64 K.s, .int .i64 K.u] w4) := Lib.hid (hw ▸ HXzz.out.below hz2)
  have HXnn : Hid (Box w3.heap.size [.int .i64 0, .int .i64 0] w4) := Lib.hid (hw ▸ hx)
  replace HB : Hid (Below w.heap.size w w4) := Lib.hid (hw ▸ below_trans HB.out hz2)
  clear hz2 hx
  clear hw
  go_cut [68] from 41 to 68 (fun z wx => z = .bool false ∧ Below w4.heap.size w4 wx)
  case first =>
    rcases HW.out with ⟨rfl, rfl⟩ | ⟨rfl, h1, rfl⟩ | ⟨rfl, h1, h2, rfl⟩ | ⟨rfl, h1, h2, rfl⟩
    · refine wp_region_noPanic ?_
      refine wp_region_held_drew (S := fun W' => Below w4.heap.size w4 W') (by kernel_rfl) (dr w4) (fun hHeld => ?_)
      try simp only [Act.put, List.setIfInBounds_toArray, List.set_cons_zero, List.set_cons_succ]
      refine takeH 0 41 (.agg #[.int .i64 p.s, .int .i64 p.u]) calm_np rfl rfl (by kernel_rfl) (by kernel_rfl) (by kernel_rfl) (by rfl) (fun W' hSw => by obtain ⟨g0, g1⟩ := (HXp.out.below hSw).c2; have hsz := (HXp.out.below hSw).1; go_simp) hHeld ?_
      try simp only [Act.put, List.setIfInBounds_toArray, List.set_cons_zero, List.set_cons_succ]
      refine takeH 2 43 (.agg #[.int .i64 p.s, .int .i64 p.u]) calm_np rfl rfl (by kernel_rfl) (by kernel_rfl) (by kernel_rfl) (by rfl) (fun W' hSw => by obtain ⟨g0, g1⟩ := (HXp.out.below hSw).c2; have hsz := (HXp.out.below hSw).1; go_simp) hHeld ?_
      try simp only [Act.put, List.setIfInBounds_toArray, List.set_cons_zero, List.set_cons_succ]
      refine wpAnyH_ready (rs := [1]) (by kernel_rfl) (by simp) (AllReadyH.cons rfl (fun K hK => ?_) AllReadyH.nil)
      go_simp
      refine (HR.out _).mono ?_
      rintro e V1 ⟨rfl, hz⟩
      have hh := below_trans hHeld hz
      clear hz
      go_simp
      refine hK.out _ _ hh (fun hHeld => ?_)
      clear hK hh
      try simp only [Act.put, List.setIfInBounds_toArray, List.set_cons_zero, List.set_cons_succ]
      refine wpAnyH_ready (rs := [3]) (by kernel_rfl) (by simp) (AllReadyH.cons rfl (fun K hK => ?_) AllReadyH.nil)
      go_simp
      refine (Hr.out _).mono ?_
      rintro e V2 ⟨rfl, hz⟩
      have hh := below_trans hHeld hz
      clear hz
      go_simp
      refine hK.out _ _ hh (fun hHeld => ?_)
      clear hK hh
      try simp only [Act.put, List.setIfInBounds_toArray, List.set_cons_zero, List.set_cons_succ]
      refine takeH 4 45 (.bool false) calm_np rfl rfl (by kernel_rfl) (by kernel_rfl) (by kernel_rfl) (by rfl) (fun W' hSw => by go_simp) hHeld ?_
      try simp only [Act.put, List.setIfInBounds_toArray, List.set_cons_zero, List.set_cons_succ]
      refine takeH 5 46 (.bool false) calm_np rfl rfl (by kernel_rfl) (by kernel_rfl) (by kernel_rfl) (by rfl) (fun W' hSw => by go_simp) hHeld ?_
      try simp only [Act.put, List.setIfInBounds_toArray, List.set_cons_zero, List.set_cons_succ]
      refine takeH 6 47 (.agg #[.int .i64 p.s, .int .i64 p.u]) calm_np rfl rfl (by kernel_rfl) (by kernel_rfl) (by kernel_rfl) (by rfl) (fun W' hSw => by obtain ⟨g0, g1⟩ := (HXp.out.below hSw).c2; have hsz := (HXp.out.below hSw).1; go_simp) hHeld ?_
      try simp only [Act.put, List.setIfInBounds_toArray, List.set_cons_zero, List.set_cons_succ]
      refine takeH 7 48 (.int .i64 now) calm_np rfl rfl (by kernel_rfl) (by kernel_rfl) (by kernel_rfl) (by rfl) (fun W' hSw => by go_simp) hHeld ?_
      try simp only [Act.put, List.setIfInBounds_toArray, List.set_cons_zero, List.set_cons_succ]
      refine takeH 9 50 (.agg #[.int .i64 p.s, .int .i64 p.u]) calm_np rfl rfl (by kernel_rfl) (by kernel_rfl) (by kernel_rfl) (by rfl) (fun W' hSw => by obtain ⟨g0, g1⟩ := (HXp.out.below hSw).c2; have hsz := (HXp.out.below hSw).1; go_simp) hHeld ?_
      try simp only [Act.put, List.setIfInBounds_toArray, List.set_cons_zero, List.set_cons_succ]
      refine wpAnyH_ready (rs := [8]) (by kernel_rfl) (by simp) (AllReadyH.cons rfl (fun K hK => ?_) AllReadyH.nil)
      go_simp
      refine (HM.out _).mono ?_
      rintro e V3 ⟨rfl, hz⟩
      have hh := below_trans hHeld hz
      clear hz
      go_simp
      refine hK.out _ _ hh (fun hHeld => ?_)
      clear hK hh
      try simp only [Act.put, List.setIfInBounds_toArray, List.set_cons_zero, List.set_cons_succ]
      refine wpAnyH_ready (rs := [10]) (by kernel_rfl) (by simp) (AllReadyH.cons rfl (fun K hK => ?_) AllReadyH.nil)
      go_simp
      refine (Hr.out _).mono ?_
      rintro e V4 ⟨rfl, hz⟩
      have hh := below_trans hHeld hz
      clear hz
      go_simp
      refine hK.out _ _ hh (fun hHeld => ?_)
      clear hK hh
      try simp only [Act.put, List.setIfInBounds_toArray, List.set_cons_zero, List.set_cons_succ]
      refine takeH 11 52 (.bool false) calm_np rfl rfl (by kernel_rfl) (by kernel_rfl) (by kernel_rfl) (by rfl) (fun W' hSw => by go_simp) hHeld ?_
      try simp only [Act.put, List.setIfInBounds_toArray, List.set_cons_zero, List.set_cons_succ]
      refine skipH 12 53 calm_np rfl rfl (by kernel_rfl) (by kernel_rfl) (by kernel_rfl) (by rfl) hHeld ?_
      try simp only [Act.put, List.setIfInBounds_toArray, List.set_cons_zero, List.set_cons_succ]
      refine skipH 13 54 calm_np rfl rfl (by kernel_rfl) (by kernel_rfl) (by kernel_rfl) (by rfl) hHeld ?_
      try simp only [Act.put, List.setIfInBounds_toArray, List.set_cons_zero, List.set_cons_succ]
      refine skipH 14 55 calm_np rfl rfl (by kernel_rfl) (by kernel_rfl) (by kernel_rfl) (by rfl) hHeld ?_
      try simp only [Act.put, List.setIfInBounds_toArray, List.set_cons_zero, List.set_cons_succ]
      refine takeH 15 56 (.bool false) calm_np rfl rfl (by kernel_rfl) (by kernel_rfl) (by kernel_rfl) (by rfl) (fun W' hSw => by go_simp) hHeld ?_
      try simp only [Act.put, List.setIfInBounds_toArray, List.set_cons_zero, List.set_cons_succ]
      refine takeH 16 57 (.bool false) calm_np rfl rfl (by kernel_rfl) (by kernel_rfl) (by kernel_rfl) (by rfl) (fun W' hSw => by go_simp) hHeld ?_
      try simp only [Act.put, List.setIfInBounds_toArray, List.set_cons_zero, List.set_cons_succ]
      refine skipH 17 58 calm_np rfl rfl (by kernel_rfl) (by kernel_rfl) (by kernel_rfl) (by rfl) hHeld ?_
      try simp only [Act.put, List.setIfInBounds_toArray, List.set_cons_zero, List.set_cons_succ]
      refine skipH 18 59 calm_np rfl rfl (by kernel_rfl) (by kernel_rfl) (by kernel_rfl) (by rfl) hHeld ?_
      try simp only [Act.put, List.setIfInBounds_toArray, List.set_cons_zero, List.set_cons_succ]
      refine skipH 19 60 calm_np rfl rfl (by kernel_rfl) (by kernel_rfl) (by kernel_rfl) (by rfl) hHeld ?_
      try simp only [Act.put, List.setIfInBounds_toArray, List.set_cons_zero, List.set_cons_succ]
      refine skipH 20 61 calm_np rfl rfl (by kernel_rfl) (by kernel_rfl) (by kernel_rfl) (by rfl) hHeld ?_
      try simp only [Act.put, List.setIfInBounds_toArray, List.set_cons_zero, List.set_cons_succ]
      refine takeH 21 62 (.bool false) calm_np rfl rfl (by kernel_rfl) (by kernel_rfl) (by kernel_rfl) (by rfl) (fun W' hSw => by go_simp) hHeld ?_
      try simp only [Act.put, List.setIfInBounds_toArray, List.set_cons_zero, List.set_cons_succ]
      refine takeH 22 63 (.bool false) calm_np rfl rfl (by kernel_rfl) (by kernel_rfl) (by kernel_rfl) (by rfl) (fun W' hSw => by go_simp) hHeld ?_
      try simp only [Act.put, List.setIfInBounds_toArray, List.set_cons_zero, List.set_cons_succ]
      refine takeH 23 64 (.bool false) calm_np rfl rfl (by kernel_rfl) (by kernel_rfl) (by kernel_rfl) (by rfl) (fun W' hSw => by go_simp) hHeld ?_
      try simp only [Act.put, List.setIfInBounds_toArray, List.set_cons_zero, List.set_cons_succ]
      refine takeH 24 65 (.bool false) calm_np rfl rfl (by kernel_rfl) (by kernel_rfl) (by kernel_rfl) (by rfl) (fun W' hSw => by go_simp) hHeld ?_
      try simp only [Act.put, List.setIfInBounds_toArray, List.set_cons_zero, List.set_cons_succ]
      refine wpAnyH_ready (rs := [25]) (by kernel_rfl) (by simp) (AllReadyH.cons rfl (fun K hK => ?_) AllReadyH.nil)
      go_simp
      refine (HAL.out _).mono ?_
      rintro e V5 ⟨rfl, hz⟩
      have hh := below_trans hHeld hz
      clear hz
      go_simp
      refine hK.out _ _ hh (fun hHeld => ?_)
      clear hK hh
      try simp only [Act.put, List.setIfInBounds_toArray, List.set_cons_zero, List.set_cons_succ]
      refine takeH 26 67 (.bool false) calm_np rfl rfl (by kernel_rfl) (by kernel_rfl) (by kernel_rfl) (by rfl) (fun W' hSw => by go_simp) hHeld ?_
      try simp only [Act.put, List.setIfInBounds_toArray, List.set_cons_zero, List.set_cons_succ]
      refine takeH 27 68 (.bool false) calm_np rfl rfl (by kernel_rfl) (by kernel_rfl) (by kernel_rfl) (by rfl) (fun W' hSw => by go_simp) hHeld ?_
      try simp only [Act.put, List.setIfInBounds_toArray, List.set_cons_zero, List.set_cons_succ]
      refine wpAnyH_done (by kernel_rfl) ?_ _
      refine NoPanic.normal ?_
      have HH := Lib.hid hHeld
      clear hHeld
      go_wp2_with fail
      go_meet
      exact ⟨rfl, HH.out⟩
    · refine wp_region_noPanic ?_
      refine wp_region_held_drew (S := fun W' => Below w4.heap.size w4 W') (by kernel_rfl) (dr w4) (fun hHeld => ?_)
      try simp only [Act.put, List.setIfInBounds_toArray, List.set_cons_zero, List.set_cons_succ]
      refine takeH 0 41 (.agg #[.int .i64 p.s, .int .i64 p.u]) calm_np rfl rfl (by kernel_rfl) (by kernel_rfl) (by kernel_rfl) (by rfl) (fun W' hSw => by obtain ⟨g0, g1⟩ := (HXp.out.below hSw).c2; have hsz := (HXp.out.below hSw).1; go_simp) hHeld ?_
      try simp only [Act.put, List.setIfInBounds_toArray, List.set_cons_zero, List.set_cons_succ]
      refine takeH 2 43 (.agg #[.int .i64 p.s, .int .i64 p.u]) calm_np rfl rfl (by kernel_rfl) (by kernel_rfl) (by kernel_rfl) (by rfl) (fun W' hSw => by obtain ⟨g0, g1⟩ := (HXp.out.below hSw).c2; have hsz := (HXp.out.below hSw).1; go_simp) hHeld ?_
      try simp only [Act.put, List.setIfInBounds_toArray, List.set_cons_zero, List.set_cons_succ]
      refine wpAnyH_ready (rs := [1]) (by kernel_rfl) (by simp) (AllReadyH.cons rfl (fun K hK => ?_) AllReadyH.nil)
      go_simp
      refine (HR.out _).mono ?_
      rintro e V1 ⟨rfl, hz⟩
      have hh := below_trans hHeld hz
      clear hz
      go_simp
      refine hK.out _ _ hh (fun hHeld => ?_)
      clear hK hh
      try simp only [Act.put, List.setIfInBounds_toArray, List.set_cons_zero, List.set_cons_succ]
      refine wpAnyH_ready (rs := [3]) (by kernel_rfl) (by simp) (AllReadyH.cons rfl (fun K hK => ?_) AllReadyH.nil)
      go_simp
      refine (Hr.out _).mono ?_
      rintro e V2 ⟨rfl, hz⟩
      have hh := below_trans hHeld hz
      clear hz
      go_simp
      refine hK.out _ _ hh (fun hHeld => ?_)
      clear hK hh
      try simp only [Act.put, List.setIfInBounds_toArray, List.set_cons_zero, List.set_cons_succ]
      refine takeH 4 45 (.bool false) calm_np rfl rfl (by kernel_rfl) (by kernel_rfl) (by kernel_rfl) (by rfl) (fun W' hSw => by go_simp) hHeld ?_
      try simp only [Act.put, List.setIfInBounds_toArray, List.set_cons_zero, List.set_cons_succ]
      refine takeH 5 46 (.bool false) calm_np rfl rfl (by kernel_rfl) (by kernel_rfl) (by kernel_rfl) (by rfl) (fun W' hSw => by go_simp) hHeld ?_
      try simp only [Act.put, List.setIfInBounds_toArray, List.set_cons_zero, List.set_cons_succ]
      refine takeH 6 47 (.agg #[.int .i64 p.s, .int .i64 p.u]) calm_np rfl rfl (by kernel_rfl) (by kernel_rfl) (by kernel_rfl) (by rfl) (fun W' hSw => by obtain ⟨g0, g1⟩ := (HXp.out.below hSw).c2; have hsz := (HXp.out.below hSw).1; go_simp) hHeld ?_
      try simp only [Act.put, List.setIfInBounds_toArray, List.set_cons_zero, List.set_cons_succ]
      refine takeH 7 48 (.int .i64 now) calm_np rfl rfl (by kernel_rfl) (by kernel_rfl) (by kernel_rfl) (by rfl) (fun W' hSw => by go_simp) hHeld ?_
      try simp only [Act.put, List.setIfInBounds_toArray, List.set_cons_zero, List.set_cons_succ]
      refine takeH 9 50 (.agg #[.int .i64 p.s, .int .i64 p.u]) calm_np rfl rfl (by kernel_rfl) (by kernel_rfl) (by kernel_rfl) (by rfl) (fun W' hSw => by obtain ⟨g0, g1⟩ := (HXp.out.below hSw).c2; have hsz := (HXp.out.below hSw).1; go_simp) hHeld ?_
      try simp only [Act.put, List.setIfInBounds_toArray, List.set_cons_zero, List.set_cons_succ]
      refine wpAnyH_ready (rs := [8]) (by kernel_rfl) (by simp) (AllReadyH.cons rfl (fun K hK => ?_) AllReadyH.nil)
      go_simp
      refine (HM.out _).mono ?_
      rintro e V3 ⟨rfl, hz⟩
      have hh := below_trans hHeld hz
      clear hz
      go_simp
      refine hK.out _ _ hh (fun hHeld => ?_)
      clear hK hh
      try simp only [Act.put, List.setIfInBounds_toArray, List.set_cons_zero, List.set_cons_succ]
      refine wpAnyH_ready (rs := [10]) (by kernel_rfl) (by simp) (AllReadyH.cons rfl (fun K hK => ?_) AllReadyH.nil)
      go_simp
      refine (Hr.out _).mono ?_
      rintro e V4 ⟨rfl, hz⟩
      have hh := below_trans hHeld hz
      clear hz
      go_simp
      refine hK.out _ _ hh (fun hHeld => ?_)
      clear hK hh
      try simp only [Act.put, List.setIfInBounds_toArray, List.set_cons_zero, List.set_cons_succ]
      refine takeH 11 52 (.bool true) calm_np rfl rfl (by kernel_rfl) (by kernel_rfl) (by kernel_rfl) (by rfl) (fun W' hSw => by go_simp) hHeld ?_
      try simp only [Act.put, List.setIfInBounds_toArray, List.set_cons_zero, List.set_cons_succ]
      refine takeH 12 53 (.pointer (some ⟨w.heap.size, 0, none⟩)) calm_np rfl rfl (by kernel_rfl) (by kernel_rfl) (by kernel_rfl) (by rfl) (fun W' hSw => by go_simp) hHeld ?_
      try simp only [Act.put, List.setIfInBounds_toArray, List.set_cons_zero, List.set_cons_succ]
      refine takeH 13 54 (.int .i64 p.s) calm_np rfl rfl (by kernel_rfl) (by kernel_rfl) (by kernel_rfl) (by rfl) (fun W' hSw => by obtain ⟨g0, g1⟩ := (HXp.out.below hSw).c2; have hsz := (HXp.out.below hSw).1; go_simp) hHeld ?_
      try simp only [Act.put, List.setIfInBounds_toArray, List.set_cons_zero, List.set_cons_succ]
      refine takeH 14 55 (.bool false) calm_np rfl rfl (by kernel_rfl) (by kernel_rfl) (by kernel_rfl) (by rfl) (fun W' hSw => by go_simp) hHeld ?_
      try simp only [Act.put, List.setIfInBounds_toArray, List.set_cons_zero, List.set_cons_succ]
      refine takeH 15 56 (.bool false) calm_np rfl rfl (by kernel_rfl) (by kernel_rfl) (by kernel_rfl) (by rfl) (fun W' hSw => by go_simp) hHeld ?_
      try simp only [Act.put, List.setIfInBounds_toArray, List.set_cons_zero, List.set_cons_succ]
      refine takeH 16 57 (.bool false) calm_np rfl rfl (by kernel_rfl) (by kernel_rfl) (by kernel_rfl) (by rfl) (fun W' hSw => by go_simp) hHeld ?_
      try simp only [Act.put, List.setIfInBounds_toArray, List.set_cons_zero, List.set_cons_succ]
      refine skipH 17 58 calm_np rfl rfl (by kernel_rfl) (by kernel_rfl) (by kernel_rfl) (by rfl) hHeld ?_
      try simp only [Act.put, List.setIfInBounds_toArray, List.set_cons_zero, List.set_cons_succ]
      refine skipH 18 59 calm_np rfl rfl (by kernel_rfl) (by kernel_rfl) (by kernel_rfl) (by rfl) hHeld ?_
      try simp only [Act.put, List.setIfInBounds_toArray, List.set_cons_zero, List.set_cons_succ]
      refine skipH 19 60 calm_np rfl rfl (by kernel_rfl) (by kernel_rfl) (by kernel_rfl) (by rfl) hHeld ?_
      try simp only [Act.put, List.setIfInBounds_toArray, List.set_cons_zero, List.set_cons_succ]
      refine skipH 20 61 calm_np rfl rfl (by kernel_rfl) (by kernel_rfl) (by kernel_rfl) (by rfl) hHeld ?_
      try simp only [Act.put, List.setIfInBounds_toArray, List.set_cons_zero, List.set_cons_succ]
      refine takeH 21 62 (.bool false) calm_np rfl rfl (by kernel_rfl) (by kernel_rfl) (by kernel_rfl) (by rfl) (fun W' hSw => by go_simp) hHeld ?_
      try simp only [Act.put, List.setIfInBounds_toArray, List.set_cons_zero, List.set_cons_succ]
      refine takeH 22 63 (.bool false) calm_np rfl rfl (by kernel_rfl) (by kernel_rfl) (by kernel_rfl) (by rfl) (fun W' hSw => by go_simp) hHeld ?_
      try simp only [Act.put, List.setIfInBounds_toArray, List.set_cons_zero, List.set_cons_succ]
      refine takeH 23 64 (.bool false) calm_np rfl rfl (by kernel_rfl) (by kernel_rfl) (by kernel_rfl) (by rfl) (fun W' hSw => by go_simp) hHeld ?_
      try simp only [Act.put, List.setIfInBounds_toArray, List.set_cons_zero, List.set_cons_succ]
      refine takeH 24 65 (.bool false) calm_np rfl rfl (by kernel_rfl) (by kernel_rfl) (by kernel_rfl) (by rfl) (fun W' hSw => by go_simp) hHeld ?_
      try simp only [Act.put, List.setIfInBounds_toArray, List.set_cons_zero, List.set_cons_succ]
      refine wpAnyH_ready (rs := [25]) (by kernel_rfl) (by simp) (AllReadyH.cons rfl (fun K hK => ?_) AllReadyH.nil)
      go_simp
      refine (HAL.out _).mono ?_
      rintro e V5 ⟨rfl, hz⟩
      have hh := below_trans hHeld hz
      clear hz
      go_simp
      refine hK.out _ _ hh (fun hHeld => ?_)
      clear hK hh
      try simp only [Act.put, List.setIfInBounds_toArray, List.set_cons_zero, List.set_cons_succ]
      refine takeH 26 67 (.bool false) calm_np rfl rfl (by kernel_rfl) (by kernel_rfl) (by kernel_rfl) (by rfl) (fun W' hSw => by go_simp) hHeld ?_
      try simp only [Act.put, List.setIfInBounds_toArray, List.set_cons_zero, List.set_cons_succ]
      refine takeH 27 68 (.bool false) calm_np rfl rfl (by kernel_rfl) (by kernel_rfl) (by kernel_rfl) (by rfl) (fun W' hSw => by go_simp) hHeld ?_
      try simp only [Act.put, List.setIfInBounds_toArray, List.set_cons_zero, List.set_cons_succ]
      refine wpAnyH_done (by kernel_rfl) ?_ _
      refine NoPanic.normal ?_
      have HH := Lib.hid hHeld
      clear hHeld
      go_wp2_with fail
      go_meet
      exact ⟨rfl, HH.out⟩
    · refine wp_region_noPanic ?_
      refine wp_region_held_drew (S := fun W' => Below w4.heap.size w4 W') (by kernel_rfl) (dr w4) (fun hHeld => ?_)
      try simp only [Act.put, List.setIfInBounds_toArray, List.set_cons_zero, List.set_cons_succ]
      refine takeH 0 41 (.agg #[.int .i64 p.s, .int .i64 p.u]) calm_np rfl rfl (by kernel_rfl) (by kernel_rfl) (by kernel_rfl) (by rfl) (fun W' hSw => by obtain ⟨g0, g1⟩ := (HXp.out.below hSw).c2; have hsz := (HXp.out.below hSw).1; go_simp) hHeld ?_
      try simp only [Act.put, List.setIfInBounds_toArray, List.set_cons_zero, List.set_cons_succ]
      refine takeH 2 43 (.agg #[.int .i64 p.s, .int .i64 p.u]) calm_np rfl rfl (by kernel_rfl) (by kernel_rfl) (by kernel_rfl) (by rfl) (fun W' hSw => by obtain ⟨g0, g1⟩ := (HXp.out.below hSw).c2; have hsz := (HXp.out.below hSw).1; go_simp) hHeld ?_
      try simp only [Act.put, List.setIfInBounds_toArray, List.set_cons_zero, List.set_cons_succ]
      refine wpAnyH_ready (rs := [1]) (by kernel_rfl) (by simp) (AllReadyH.cons rfl (fun K hK => ?_) AllReadyH.nil)
      go_simp
      refine (HR.out _).mono ?_
      rintro e V1 ⟨rfl, hz⟩
      have hh := below_trans hHeld hz
      clear hz
      go_simp
      refine hK.out _ _ hh (fun hHeld => ?_)
      clear hK hh
      try simp only [Act.put, List.setIfInBounds_toArray, List.set_cons_zero, List.set_cons_succ]
      refine wpAnyH_ready (rs := [3]) (by kernel_rfl) (by simp) (AllReadyH.cons rfl (fun K hK => ?_) AllReadyH.nil)
      go_simp
      refine (Hr.out _).mono ?_
      rintro e V2 ⟨rfl, hz⟩
      have hh := below_trans hHeld hz
      clear hz
      go_simp
      refine hK.out _ _ hh (fun hHeld => ?_)
      clear hK hh
      try simp only [Act.put, List.setIfInBounds_toArray, List.set_cons_zero, List.set_cons_succ]
      refine takeH 4 45 (.bool false) calm_np rfl rfl (by kernel_rfl) (by kernel_rfl) (by kernel_rfl) (by rfl) (fun W' hSw => by go_simp) hHeld ?_
      try simp only [Act.put, List.setIfInBounds_toArray, List.set_cons_zero, List.set_cons_succ]
      refine takeH 5 46 (.bool false) calm_np rfl rfl (by kernel_rfl) (by kernel_rfl) (by kernel_rfl) (by rfl) (fun W' hSw => by go_simp) hHeld ?_
      try simp only [Act.put, List.setIfInBounds_toArray, List.set_cons_zero, List.set_cons_succ]
      refine takeH 6 47 (.agg #[.int .i64 p.s, .int .i64 p.u]) calm_np rfl rfl (by kernel_rfl) (by kernel_rfl) (by kernel_rfl) (by rfl) (fun W' hSw => by obtain ⟨g0, g1⟩ := (HXp.out.below hSw).c2; have hsz := (HXp.out.below hSw).1; go_simp) hHeld ?_
      try simp only [Act.put, List.setIfInBounds_toArray, List.set_cons_zero, List.set_cons_succ]
      refine takeH 7 48 (.int .i64 now) calm_np rfl rfl (by kernel_rfl) (by kernel_rfl) (by kernel_rfl) (by rfl) (fun W' hSw => by go_simp) hHeld ?_
      try simp only [Act.put, List.setIfInBounds_toArray, List.set_cons_zero, List.set_cons_succ]
      refine takeH 9 50 (.agg #[.int .i64 p.s, .int .i64 p.u]) calm_np rfl rfl (by kernel_rfl) (by kernel_rfl) (by kernel_rfl) (by rfl) (fun W' hSw => by obtain ⟨g0, g1⟩ := (HXp.out.below hSw).c2; have hsz := (HXp.out.below hSw).1; go_simp) hHeld ?_
      try simp only [Act.put, List.setIfInBounds_toArray, List.set_cons_zero, List.set_cons_succ]
      refine wpAnyH_ready (rs := [8]) (by kernel_rfl) (by simp) (AllReadyH.cons rfl (fun K hK => ?_) AllReadyH.nil)
      go_simp
      refine (HM.out _).mono ?_
      rintro e V3 ⟨rfl, hz⟩
      have hh := below_trans hHeld hz
      clear hz
      go_simp
      refine hK.out _ _ hh (fun hHeld => ?_)
      clear hK hh
      try simp only [Act.put, List.setIfInBounds_toArray, List.set_cons_zero, List.set_cons_succ]
      refine wpAnyH_ready (rs := [10]) (by kernel_rfl) (by simp) (AllReadyH.cons rfl (fun K hK => ?_) AllReadyH.nil)
      go_simp
      refine (Hr.out _).mono ?_
      rintro e V4 ⟨rfl, hz⟩
      have hh := below_trans hHeld hz
      clear hz
      go_simp
      refine hK.out _ _ hh (fun hHeld => ?_)
      clear hK hh
      try simp only [Act.put, List.setIfInBounds_toArray, List.set_cons_zero, List.set_cons_succ]
      refine takeH 11 52 (.bool true) calm_np rfl rfl (by kernel_rfl) (by kernel_rfl) (by kernel_rfl) (by rfl) (fun W' hSw => by go_simp) hHeld ?_
      try simp only [Act.put, List.setIfInBounds_toArray, List.set_cons_zero, List.set_cons_succ]
      refine takeH 12 53 (.pointer (some ⟨w.heap.size, 0, none⟩)) calm_np rfl rfl (by kernel_rfl) (by kernel_rfl) (by kernel_rfl) (by rfl) (fun W' hSw => by go_simp) hHeld ?_
      try simp only [Act.put, List.setIfInBounds_toArray, List.set_cons_zero, List.set_cons_succ]
      refine takeH 13 54 (.int .i64 p.s) calm_np rfl rfl (by kernel_rfl) (by kernel_rfl) (by kernel_rfl) (by rfl) (fun W' hSw => by obtain ⟨g0, g1⟩ := (HXp.out.below hSw).c2; have hsz := (HXp.out.below hSw).1; go_simp) hHeld ?_
      try simp only [Act.put, List.setIfInBounds_toArray, List.set_cons_zero, List.set_cons_succ]
      refine takeH 14 55 (.bool true) calm_np rfl rfl (by kernel_rfl) (by kernel_rfl) (by kernel_rfl) (by rfl) (fun W' hSw => by go_simp) hHeld ?_
      try simp only [Act.put, List.setIfInBounds_toArray, List.set_cons_zero, List.set_cons_succ]
      refine takeH 15 56 (.bool true) calm_np rfl rfl (by kernel_rfl) (by kernel_rfl) (by kernel_rfl) (by rfl) (fun W' hSw => by go_simp) hHeld ?_
      try simp only [Act.put, List.setIfInBounds_toArray, List.set_cons_zero, List.set_cons_succ]
      refine takeH 16 57 (.bool true) calm_np rfl rfl (by kernel_rfl) (by kernel_rfl) (by kernel_rfl) (by rfl) (fun W' hSw => by go_simp) hHeld ?_
      try simp only [Act.put, List.setIfInBounds_toArray, List.set_cons_zero, List.set_cons_succ]
      refine takeH 17 58 (.pointer (some ⟨w.heap.size, 1, none⟩)) calm_np rfl rfl (by kernel_rfl) (by kernel_rfl) (by kernel_rfl) (by rfl) (fun W' hSw => by go_simp) hHeld ?_
      try simp only [Act.put, List.setIfInBounds_toArray, List.set_cons_zero, List.set_cons_succ]
      refine takeH 18 59 (.int .i64 p.u) calm_np rfl rfl (by kernel_rfl) (by kernel_rfl) (by kernel_rfl) (by rfl) (fun W' hSw => by obtain ⟨g0, g1⟩ := (HXp.out.below hSw).c2; have hsz := (HXp.out.below hSw).1; go_simp) hHeld ?_
      try simp only [Act.put, List.setIfInBounds_toArray, List.set_cons_zero, List.set_cons_succ]
      refine takeH 19 60 (.int .i64 now) calm_np rfl rfl (by kernel_rfl) (by kernel_rfl) (by kernel_rfl) (by rfl) (fun W' hSw => by go_simp) hHeld ?_
      try simp only [Act.put, List.setIfInBounds_toArray, List.set_cons_zero, List.set_cons_succ]
      refine takeH 20 61 (.bool true) calm_np rfl rfl (by kernel_rfl) (by kernel_rfl) (by kernel_rfl) (by rfl) (fun W' hSw => by go_simp) hHeld ?_
      try simp only [Act.put, List.setIfInBounds_toArray, List.set_cons_zero, List.set_cons_succ]
      refine takeH 21 62 (.bool true) calm_np rfl rfl (by kernel_rfl) (by kernel_rfl) (by kernel_rfl) (by rfl) (fun W' hSw => by go_simp) hHeld ?_
      try simp only [Act.put, List.setIfInBounds_toArray, List.set_cons_zero, List.set_cons_succ]
      refine takeH 22 63 (.bool false) calm_np rfl rfl (by kernel_rfl) (by kernel_rfl) (by kernel_rfl) (by rfl) (fun W' hSw => by go_simp) hHeld ?_
      try simp only [Act.put, List.setIfInBounds_toArray, List.set_cons_zero, List.set_cons_succ]
      refine takeH 23 64 (.bool false) calm_np rfl rfl (by kernel_rfl) (by kernel_rfl) (by kernel_rfl) (by rfl) (fun W' hSw => by go_simp) hHeld ?_
      try simp only [Act.put, List.setIfInBounds_toArray, List.set_cons_zero, List.set_cons_succ]
      refine takeH 24 65 (.bool false) calm_np rfl rfl (by kernel_rfl) (by kernel_rfl) (by kernel_rfl) (by rfl) (fun W' hSw => by go_simp) hHeld ?_
      try simp only [Act.put, List.setIfInBounds_toArray, List.set_cons_zero, List.set_cons_succ]
      refine wpAnyH_ready (rs := [25]) (by kernel_rfl) (by simp) (AllReadyH.cons rfl (fun K hK => ?_) AllReadyH.nil)
      go_simp
      refine (HAL.out _).mono ?_
      rintro e V5 ⟨rfl, hz⟩
      have hh := below_trans hHeld hz
      clear hz
      go_simp
      refine hK.out _ _ hh (fun hHeld => ?_)
      clear hK hh
      try simp only [Act.put, List.setIfInBounds_toArray, List.set_cons_zero, List.set_cons_succ]
      refine takeH 26 67 (.bool false) calm_np rfl rfl (by kernel_rfl) (by kernel_rfl) (by kernel_rfl) (by rfl) (fun W' hSw => by go_simp) hHeld ?_
      try simp only [Act.put, List.setIfInBounds_toArray, List.set_cons_zero, List.set_cons_succ]
      refine takeH 27 68 (.bool false) calm_np rfl rfl (by kernel_rfl) (by kernel_rfl) (by kernel_rfl) (by rfl) (fun W' hSw => by go_simp) hHeld ?_
      try simp only [Act.put, List.setIfInBounds_toArray, List.set_cons_zero, List.set_cons_succ]
      refine wpAnyH_done (by kernel_rfl) ?_ _
      refine NoPanic.normal ?_
      have HH := Lib.hid hHeld
      clear hHeld
      go_wp2_with fail
      go_meet
      exact ⟨rfl, HH.out⟩
    · refine wp_region_noPanic ?_
      refine wp_region_held_drew (S := fun W' => Below w4.heap.size w4 W') (by kernel_rfl) (dr w4) (fun hHeld => ?_)
      try simp only [Act.put, List.setIfInBounds_toArray, List.set_cons_zero, List.set_cons_succ]
      refine takeH 0 41 (.agg #[.int .i64 p.s, .int .i64 p.u]) calm_np rfl rfl (by kernel_rfl) (by kernel_rfl) (by kernel_rfl) (by rfl) (fun W' hSw => by obtain ⟨g0, g1⟩ := (HXp.out.below hSw).c2; have hsz := (HXp.out.below hSw).1; go_simp) hHeld ?_
      try simp only [Act.put, List.setIfInBounds_toArray, List.set_cons_zero, List.set_cons_succ]
      refine takeH 2 43 (.agg #[.int .i64 p.s, .int .i64 p.u]) calm_np rfl rfl (by kernel_rfl) (by kernel_rfl) (by kernel_rfl) (by rfl) (fun W' hSw => by obtain ⟨g0, g1⟩ := (HXp.out.below hSw).c2; have hsz := (HXp.out.below hSw).1; go_simp) hHeld ?_
      try simp only [Act.put, List.setIfInBounds_toArray, List.set_cons_zero, List.set_cons_succ]
      refine wpAnyH_ready (rs := [1]) (by kernel_rfl) (by simp) (AllReadyH.cons rfl (fun K hK => ?_) AllReadyH.nil)
      go_simp
      refine (HR.out _).mono ?_
      rintro e V1 ⟨rfl, hz⟩
      have hh := below_trans hHeld hz
      clear hz
      go_simp
      refine hK.out _ _ hh (fun hHeld => ?_)
      clear hK hh
      try simp only [Act.put, List.setIfInBounds_toArray, List.set_cons_zero, List.set_cons_succ]
      refine wpAnyH_ready (rs := [3]) (by kernel_rfl) (by simp) (AllReadyH.cons rfl (fun K hK => ?_) AllReadyH.nil)
      go_simp
      refine (Hr.out _).mono ?_
      rintro e V2 ⟨rfl, hz⟩
      have hh := below_trans hHeld hz
      clear hz
      go_simp
      refine hK.out _ _ hh (fun hHeld => ?_)
      clear hK hh
      try simp only [Act.put, List.setIfInBounds_toArray, List.set_cons_zero, List.set_cons_succ]
      refine takeH 4 45 (.bool false) calm_np rfl rfl (by kernel_rfl) (by kernel_rfl) (by kernel_rfl) (by rfl) (fun W' hSw => by go_simp) hHeld ?_
      try simp only [Act.put, List.setIfInBounds_toArray, List.set_cons_zero, List.set_cons_succ]
      refine takeH 5 46 (.bool false) calm_np rfl rfl (by kernel_rfl) (by kernel_rfl) (by kernel_rfl) (by rfl) (fun W' hSw => by go_simp) hHeld ?_
      try simp only [Act.put, List.setIfInBounds_toArray, List.set_cons_zero, List.set_cons_succ]
      refine takeH 6 47 (.agg #[.int .i64 p.s, .int .i64 p.u]) calm_np rfl rfl (by kernel_rfl) (by kernel_rfl) (by kernel_rfl) (by rfl) (fun W' hSw => by obtain ⟨g0, g1⟩ := (HXp.out.below hSw).c2; have hsz := (HXp.out.below hSw).1; go_simp) hHeld ?_
      try simp only [Act.put, List.setIfInBounds_toArray, List.set_cons_zero, List.set_cons_succ]
      refine takeH 7 48 (.int .i64 now) calm_np rfl rfl (by kernel_rfl) (by kernel_rfl) (by kernel_rfl) (by rfl) (fun W' hSw => by go_simp) hHeld ?_
      try simp only [Act.put, List.setIfInBounds_toArray, List.set_cons_zero, List.set_cons_succ]
      refine takeH 9 50 (.agg #[.int .i64 p.s, .int .i64 p.u]) calm_np rfl rfl (by kernel_rfl) (by kernel_rfl) (by kernel_rfl) (by rfl) (fun W' hSw => by obtain ⟨g0, g1⟩ := (HXp.out.below hSw).c2; have hsz := (HXp.out.below hSw).1; go_simp) hHeld ?_
      try simp only [Act.put, List.setIfInBounds_toArray, List.set_cons_zero, List.set_cons_succ]
      refine wpAnyH_ready (rs := [8]) (by kernel_rfl) (by simp) (AllReadyH.cons rfl (fun K hK => ?_) AllReadyH.nil)
      go_simp
      refine (HM.out _).mono ?_
      rintro e V3 ⟨rfl, hz⟩
      have hh := below_trans hHeld hz
      clear hz
      go_simp
      refine hK.out _ _ hh (fun hHeld => ?_)
      clear hK hh
      try simp only [Act.put, List.setIfInBounds_toArray, List.set_cons_zero, List.set_cons_succ]
      refine wpAnyH_ready (rs := [10]) (by kernel_rfl) (by simp) (AllReadyH.cons rfl (fun K hK => ?_) AllReadyH.nil)
      go_simp
      refine (Hr.out _).mono ?_
      rintro e V4 ⟨rfl, hz⟩
      have hh := below_trans hHeld hz
      clear hz
      go_simp
      refine hK.out _ _ hh (fun hHeld => ?_)
      clear hK hh
      try simp only [Act.put, List.setIfInBounds_toArray, List.set_cons_zero, List.set_cons_succ]
      refine takeH 11 52 (.bool true) calm_np rfl rfl (by kernel_rfl) (by kernel_rfl) (by kernel_rfl) (by rfl) (fun W' hSw => by go_simp) hHeld ?_
      try simp only [Act.put, List.setIfInBounds_toArray, List.set_cons_zero, List.set_cons_succ]
      refine takeH 12 53 (.pointer (some ⟨w.heap.size, 0, none⟩)) calm_np rfl rfl (by kernel_rfl) (by kernel_rfl) (by kernel_rfl) (by rfl) (fun W' hSw => by go_simp) hHeld ?_
      try simp only [Act.put, List.setIfInBounds_toArray, List.set_cons_zero, List.set_cons_succ]
      refine takeH 13 54 (.int .i64 p.s) calm_np rfl rfl (by kernel_rfl) (by kernel_rfl) (by kernel_rfl) (by rfl) (fun W' hSw => by obtain ⟨g0, g1⟩ := (HXp.out.below hSw).c2; have hsz := (HXp.out.below hSw).1; go_simp) hHeld ?_
      try simp only [Act.put, List.setIfInBounds_toArray, List.set_cons_zero, List.set_cons_succ]
      refine takeH 14 55 (.bool true) calm_np rfl rfl (by kernel_rfl) (by kernel_rfl) (by kernel_rfl) (by rfl) (fun W' hSw => by go_simp) hHeld ?_
      try simp only [Act.put, List.setIfInBounds_toArray, List.set_cons_zero, List.set_cons_succ]
      refine takeH 15 56 (.bool true) calm_np rfl rfl (by kernel_rfl) (by kernel_rfl) (by kernel_rfl) (by rfl) (fun W' hSw => by go_simp) hHeld ?_
      try simp only [Act.put, List.setIfInBounds_toArray, List.set_cons_zero, List.set_cons_succ]
      refine takeH 16 57 (.bool true) calm_np rfl rfl (by kernel_rfl) (by kernel_rfl) (by kernel_rfl) (by rfl) (fun W' hSw => by go_simp) hHeld ?_
      try simp only [Act.put, List.setIfInBounds_toArray, List.set_cons_zero, List.set_cons_succ]
      refine takeH 17 58 (.pointer (some ⟨w.heap.size, 1, none⟩)) calm_np rfl rfl (by kernel_rfl) (by kernel_rfl) (by kernel_rfl) (by rfl) (fun W' hSw => by go_simp) hHeld ?_
      try simp only [Act.put, List.setIfInBounds_toArray, List.set_cons_zero, List.set_cons_succ]
      refine takeH 18 59 (.int .i64 p.u) calm_np rfl rfl (by kernel_rfl) (by kernel_rfl) (by kernel_rfl) (by rfl) (fun W' hSw => by obtain ⟨g0, g1⟩ := (HXp.out.below hSw).c2; have hsz := (HXp.out.below hSw).1; go_simp) hHeld ?_
      try simp only [Act.put, List.setIfInBounds_toArray, List.set_cons_zero, List.set_cons_succ]
      refine takeH 19 60 (.int .i64 now) calm_np rfl rfl (by kernel_rfl) (by kernel_rfl) (by kernel_rfl) (by rfl) (fun W' hSw => by go_simp) hHeld ?_
      try simp only [Act.put, List.setIfInBounds_toArray, List.set_cons_zero, List.set_cons_succ]
      refine takeH 20 61 (.bool false) calm_np rfl rfl (by kernel_rfl) (by kernel_rfl) (by kernel_rfl) (by rfl) (fun W' hSw => by go_simp) hHeld ?_
      try simp only [Act.put, List.setIfInBounds_toArray, List.set_cons_zero, List.set_cons_succ]
      refine takeH 21 62 (.bool false) calm_np rfl rfl (by kernel_rfl) (by kernel_rfl) (by kernel_rfl) (by rfl) (fun W' hSw => by go_simp) hHeld ?_
      try simp only [Act.put, List.setIfInBounds_toArray, List.set_cons_zero, List.set_cons_succ]
      refine takeH 22 63 (.bool false) calm_np rfl rfl (by kernel_rfl) (by kernel_rfl) (by kernel_rfl) (by rfl) (fun W' hSw => by go_simp) hHeld ?_
      try simp only [Act.put, List.setIfInBounds_toArray, List.set_cons_zero, List.set_cons_succ]
      refine takeH 23 64 (.bool false) calm_np rfl rfl (by kernel_rfl) (by kernel_rfl) (by kernel_rfl) (by rfl) (fun W' hSw => by go_simp) hHeld ?_
      try simp only [Act.put, List.setIfInBounds_toArray, List.set_cons_zero, List.set_cons_succ]
      refine takeH 24 65 (.bool false) calm_np rfl rfl (by kernel_rfl) (by kernel_rfl) (by kernel_rfl) (by rfl) (fun W' hSw => by go_simp) hHeld ?_
      try simp only [Act.put, List.setIfInBounds_toArray, List.set_cons_zero, List.set_cons_succ]
      refine wpAnyH_ready (rs := [25]) (by kernel_rfl) (by simp) (AllReadyH.cons rfl (fun K hK => ?_) AllReadyH.nil)
      go_simp
      refine (HAL.out _).mono ?_
      rintro e V5 ⟨rfl, hz⟩
      have hh := below_trans hHeld hz
      clear hz
      go_simp
      refine hK.out _ _ hh (fun hHeld => ?_)
      clear hK hh
      try simp only [Act.put, List.setIfInBounds_toArray, List.set_cons_zero, List.set_cons_succ]
      refine takeH 26 67 (.bool false) calm_np rfl rfl (by kernel_rfl) (by kernel_rfl) (by kernel_rfl) (by rfl) (fun W' hSw => by go_simp) hHeld ?_
      try simp only [Act.put, List.setIfInBounds_toArray, List.set_cons_zero, List.set_cons_succ]
      refine takeH 27 68 (.bool false) calm_np rfl rfl (by kernel_rfl) (by kernel_rfl) (by kernel_rfl) (by rfl) (fun W' hSw => by go_simp) hHeld ?_
      try simp only [Act.put, List.setIfInBounds_toArray, List.set_cons_zero, List.set_cons_succ]
      refine wpAnyH_done (by kernel_rfl) ?_ _
      refine NoPanic.normal ?_
      have HH := Lib.hid hHeld
      clear hHeld
      go_wp2_with fail
      go_meet
      exact ⟨rfl, HH.out⟩
  case rest =>
  obtain ⟨hz, hbe⟩ := hcut
  subst hz
  rename World => w5
  replace HXp : Hid (Box w.heap.size [.int .i64 p.s, .int .i64 p.u] w5) := Lib.hid (HXp.out.below hbe)
  replace HXx : Hid (Box v1.heap.size [.int .i64 X.s, .int .i64 X.u] w5) := Lib.hid (HXx.out.below hbe)
  replace HXyy : Hid (Box v2.heap.size [.int .i64 Y.s, .int .i64 Y.u] w5) := Lib.hid (HXyy.out.below hbe)
  replace HXzz : Hid (Box v3.heap.size [.int .i64 K.s, .int .i64 K.u] w5) := Lib.hid (HXzz.out.below hbe)
  replace HXnn : Hid (Box w3.heap.size [.int .i64 0, .int .i64 0] w5) := Lib.hid (HXnn.out.below hbe)
  replace HB : Hid (Below w.heap.size w w5) := Lib.hid (below_trans HB.out hbe)
  clear hbe HW HR HM HAL
  obtain ⟨p0, p1⟩ := HXp.out.c2
  have ps := HXp.out.1
  go_wp2_with fail
  (with_reducible refine (Hr.out _).mono ?_)
  rintro e w6 ⟨rfl, hz⟩
  replace HXp : Hid (Box w.heap.size [.int .i64 p.s, .int .i64 p.u] w6) := Lib.hid (HXp.out.below hz)
  replace HXx : Hid (Box v1.heap.size [.int .i64 X.s, .int .i64 X.u] w6) := Lib.hid (HXx.out.below hz)
  replace HXyy : Hid (Box v2.heap.size [.int .i64 Y.s, .int .i64 Y.u] w6) := Lib.hid (HXyy.out.below hz)
  replace HXzz : Hid (Box v3.heap.size [.int .i64 K.s, .int .i64 K.u] w6) := Lib.hid (HXzz.out.below hz)
  replace HXnn : Hid (Box w3.heap.size [.int .i64 0, .int .i64 0] w6) := Lib.hid (HXnn.out.below hz)
  replace HB : Hid (Below w.heap.size w w6) := Lib.hid (below_trans HB.out hz)
  clear hz
  clear p0 p1 ps
  cases r with
  | false =>
    obtain ⟨x0, x1⟩ := HXx.out.c2
    have xs := HXx.out.1
    obtain ⟨yy0, yy1⟩ := HXyy.out.c2
    have yys := HXyy.out.1
    obtain ⟨zz0, zz1⟩ := HXzz.out.c2
    have zzs := HXzz.out.1
    obtain ⟨nn0, nn1⟩ := HXnn.out.c2
    have nns := HXnn.out.1
    obtain ⟨rfl, e1, rfl, e2, rfl, e3, rfl⟩ := HBAD.out rfl
    have q1 := fun W => eql_yes e1 W
    have q2 := fun W => eql_yes e2 W
    have q3 := fun W => eql_yes e3 W
    unfold noA at q1 q2 q3
    dsimp only at q1 q2 q3
    clear e1 e2 e3 HL HBN HBT HAN HKQ HTURN HBAD
    go_wp2_with fail
    go_ret
    exact ⟨rfl, HB.out⟩
  | true =>
    obtain ⟨rfl, hkb⟩ := HTURN.out rfl
    rw [hkb] at HKQ
    have hl := HL.out
    have hbn := HBN.out
    have han := HAN.out
    clear hkb HBAD HTURN HL HBN HAN
    simp only [true_and, Bool.true_eq_false, false_and, false_or] at hl hbn han
    have HL := Lib.hid hl
    have HBN := Lib.hid hbn
    have HAN := Lib.hid han
    clear hl hbn han
    obtain ⟨p0, p1⟩ := HXp.out.c2
    have ps := HXp.out.1
    have hx := Box.made w6 [.int .i64 p.s, .int .i64 p.u] 23
    have hz2 := al w6 (.cells #[.int .i64 p.s, .int .i64 p.u] 23)
    obtain ⟨w7, hw⟩ : ∃ W, w6.alloc (.cells #[.int .i64 p.s, .int .i64 p.u] 23) = W := ⟨_, rfl⟩
    have HVp := HXp
    replace HXp : Hid (Box w.heap.size [.int .i64 p.s, .int .i64 p.u] w7) := Lib.hid (hw ▸ HXp.out.below hz2)
    have HVx := HXx
    replace HXx : Hid (Box v1.heap.size [.int .i64 X.s, .int .i64 X.u] w7) := Lib.hid (hw ▸ HXx.out.below hz2)
    have HVyy := HXyy
    replace HXyy : Hid (Box v2.heap.size [.int .i64 Y.s, .int .i64 Y.u] w7) := Lib.hid (hw ▸ HXyy.out.below hz2)
    have HVzz := HXzz
    replace HXzz : Hid (Box v3.heap.size [.int .i64 K.s, .int .i64 K.u] w7) := Lib.hid (hw ▸ HXzz.out.below hz2)
    have HVnn := HXnn
    replace HXnn : Hid (Box w3.heap.size [.int .i64 0, .int .i64 0] w7) := Lib.hid (hw ▸ HXnn.out.below hz2)
    have HVB := HB
    have HV : Hid (Below w6.heap.size w6 w7) := Lib.hid (hw ▸ hz2)
    have HXl : Hid (Box w6.heap.size [.int .i64 p.s, .int .i64 p.u] w7) := Lib.hid (hw ▸ hx)
    replace HB : Hid (Below w.heap.size w w7) := Lib.hid (hw ▸ below_trans HB.out hz2)
    clear hz2 hx
    go_upto_region 10 with (fail)
    clear hw
    clear p0 p1 ps
    obtain ⟨p0, p1⟩ := HXp.out.c2
    have ps := HXp.out.1
    go_cut [115] from 20 to 115 (fun z wx => z = .bool kb ∧ wx = w7)
    case first =>
      rcases HL.out with ⟨h1, h2, h3, h4⟩ | ⟨h1, h2, h4⟩
      · have H3 := Lib.hid h3
        clear h4
        rcases h1 with h1 | h1
        · have a1 : (p.s == 1) = true := by simpa using h1
          clear h1 h3
          go_wp2_with fail
          go_meet
          exact ⟨by rw [H3.out], rfl⟩
        · have a1 : (p.s == 1) = false := by simp [h1]
          have a2 : (p.s == 2) = true := by simpa using h1
          clear h1 h3
          go_wp2_with fail
          go_meet
          exact ⟨by rw [H3.out], rfl⟩
      · have H3 := Lib.hid h2
        clear h4
        by_cases h4 : p.s = 1
        · have a1 : (p.s == 1) = true := by simpa using h4
          have a2 : ¬ p.u ≤ now := fun h => h1 ⟨.inl h4, h⟩
          clear h1 h2 h4
          go_wp2_with fail
          go_meet
          exact ⟨by rw [H3.out], rfl⟩
        · have a1 : (p.s == 1) = false := by simpa using h4
          by_cases h5 : p.s = 2
          · have a3 : (p.s == 2) = true := by simpa using h5
            have a2 : ¬ p.u ≤ now := fun h => h1 ⟨.inr h5, h⟩
            clear h1 h2 h4 h5
            go_wp2_with fail
            go_meet
            exact ⟨by rw [H3.out], rfl⟩
          · have a3 : (p.s == 2) = false := by simpa using h5
            clear h1 h2 h4 h5
            go_wp2_with fail
            go_meet
            exact ⟨by rw [H3.out], rfl⟩
    case rest =>
    obtain ⟨hz, hw⟩ := hcut
    subst hz
    rw [hw]
    clear hw
    go_upto_if 115 with (fail)
    go_cut [] from 115 to 116 (fun wx => Box w6.heap.size [.int .i64 K.s, .int .i64 K.u] wx ∧ Below w6.heap.size w6 wx)
    case first =>
      rcases HL.out with ⟨h1, h2, h3, h4⟩ | ⟨h1, h2, h4⟩
      · have HX : Hid (Box w6.heap.size [.int .i64 K.s, .int .i64 K.u] (w7.setCell ⟨w6.heap.size, 0, none⟩ (.int .i64 3))) := Lib.hid (by rw [h4]; exact box_set0 HXl.out)
        have HE := Lib.hid (HV.out.setCell (p := ⟨w6.heap.size, 0, none⟩) (Nat.le_refl _) (.int .i64 3))
        obtain ⟨l0, l1⟩ := HXl.out.c2
        obtain ⟨m0, m1⟩ := HXl.out.z2
        have ls := HXl.out.1
        clear h1 h2 h4
        subst h3
        go_wp2_with fail
        go_meet
        exact ⟨HX.out, HE.out⟩
      · have HX : Hid (Box w6.heap.size [.int .i64 K.s, .int .i64 K.u] w7) := Lib.hid (by rw [h4]; exact HXl.out)
        clear h1 h4
        subst h2
        go_wp2_with fail
        go_meet
        exact ⟨HX.out, HV.out⟩
    case rest =>
    obtain ⟨hxl, hbe⟩ := hcut
    rename World => w8
    clear p0 p1 ps
    replace HXl := Lib.hid hxl
    clear hxl
    replace HXp := Lib.hid (HVp.out.below hbe)
    clear HVp
    replace HXx := Lib.hid (HVx.out.below hbe)
    clear HVx
    replace HXyy := Lib.hid (HVyy.out.below hbe)
    clear HVyy
    replace HXzz := Lib.hid (HVzz.out.below hbe)
    clear HVzz
    replace HXnn := Lib.hid (HVnn.out.below hbe)
    clear HVnn
    replace HB := Lib.hid (below_trans HVB.out hbe)
    clear HVB HV hbe
    obtain ⟨zz0, zz1⟩ := HXzz.out.c2
    have zzs := HXzz.out.1
    obtain ⟨l0, l1⟩ := HXl.out.c2
    have ls := HXl.out.1
    obtain ⟨p0, p1⟩ := HXp.out.c2
    have ps := HXp.out.1
    have hq1 := fun W => neq_yes (rfl : K = K) W
    have hq2 := HKQ.out
    go_upto_region 15 with (fail)
    clear hq1 hq2 HKQ
    clear zz0 zz1 zzs l0 l1 ls p0 p1 ps
    obtain ⟨tb, htb⟩ : ∃ tb, decide (TimeP t) = tb := ⟨_, rfl⟩
    have HTB : Hid (TimeP t ↔ tb = true) := Lib.hid (by rw [← htb]; exact decide_eq_true_iff.symm)
    clear htb
    go_cut [136] from 116 to 136 (fun z wx => z = .bool (!tb) ∧ wx = w8)
    case first =>
      by_cases h1 : t < 0
      · have hb : tb = false := by cases hb : tb with | false => rfl | true => exact absurd (HTB.out.2 hb).1 (by omega)
        subst hb
        go_wp2_with fail
        go_meet
        exact ⟨rfl, rfl⟩
      · by_cases h2 : t > 1099511627776
        · have hb : tb = false := by cases hb : tb with | false => rfl | true => exact absurd (HTB.out.2 hb).2 (by omega)
          subst hb
          go_wp2_with fail
          go_meet
          exact ⟨rfl, rfl⟩
        · have hb : tb = true := HTB.out.1 ⟨by omega, by omega⟩
          subst hb
          go_wp2_with fail
          go_meet
          exact ⟨rfl, rfl⟩
    case rest =>
    obtain ⟨hz, hw⟩ := hcut
    subst hz
    rw [hw]
    clear hw
    go_upto_if 136 with (fail)
    obtain ⟨p0, p1⟩ := HXp.out.c2
    have ps := HXp.out.1
    go_cut [18] from 136 to 139 (fun z wx => z = .int .i64 f ∧ wx = w8)
    case first =>
      rcases HBN.out with ⟨h1, h2, _⟩ | ⟨h1, h2, h3, _⟩ | ⟨h1, h2, h3, _⟩
      · have hb : tb = false := by cases hb : tb with | false => rfl | true => exact absurd (HTB.out.2 hb) h1
        subst hb
        have HF := Lib.hid h2
        clear h1 h2
        go_wp2_with fail
        go_meet
        exact ⟨by rw [HF.out], rfl⟩
      · have hb : tb = true := HTB.out.1 h1
        subst hb
        have a1 : (p.s != 0) = true := by simpa using h2
        have HF := Lib.hid h3
        clear h1 h2 h3
        go_wp2_with fail
        go_meet
        exact ⟨by rw [HF.out], rfl⟩
      · have hb : tb = true := HTB.out.1 h1
        subst hb
        have a1 : (p.s != 0) = false := by simpa using h2
        have HF := Lib.hid h3
        clear h1 h2 h3
        go_wp2_with fail
        go_meet
        exact ⟨by rw [HF.out], rfl⟩
    case rest =>
    obtain ⟨hz, hw⟩ := hcut
    subst hz
    rw [hw]
    clear hw HTB
    clear p0 p1 ps
    go_upto_region 19 with (fail)
    obtain ⟨x0, x1⟩ := HXx.out.c2
    have xs := HXx.out.1
    obtain ⟨nn0, nn1⟩ := HXnn.out.c2
    have nns := HXnn.out.1
    go_cut [161] from 139 to 161 (fun z wx => z = .bool false ∧ wx = w8)
    case first =>
      rcases HBT.out with ⟨h1, h2⟩ | ⟨h1, h2⟩
      · have hq := fun W => neq_yes h2 W
        dsimp only at hq
        have b1 : (f == 0) = true := by simpa using h1
        have b2 : (f != 0) = false := by simpa using h1
        clear h1 h2
        go_wp2_with fail
        go_meet
        exact ⟨rfl, rfl⟩
      · have hq := fun W => neq_yes h2 W
        unfold noA at hq
        dsimp only at hq
        have b1 : (f == 0) = false := by simpa using h1
        have b2 : (f != 0) = true := by simpa using h1
        clear h1 h2
        go_wp2_with fail
        go_meet
        exact ⟨rfl, rfl⟩
    case rest =>
    obtain ⟨hz, hw⟩ := hcut
    subst hz
    rw [hw]
    clear hw
    clear x0 x1 xs nn0 nn1 nns
    clear HBN HBT
    go_upto_region 21 with (fail)
    obtain ⟨p0, p1⟩ := HXp.out.c2
    have ps := HXp.out.1
    have hx := Box.made w8 [.int .i64 p.s, .int .i64 p.u] 23
    have hz2 := al w8 (.cells #[.int .i64 p.s, .int .i64 p.u] 23)
    obtain ⟨w9, hw⟩ : ∃ W, w8.alloc (.cells #[.int .i64 p.s, .int .i64 p.u] 23) = W := ⟨_, rfl⟩
    have HVp := HXp
    replace HXp : Hid (Box w.heap.size [.int .i64 p.s, .int .i64 p.u] w9) := Lib.hid (hw ▸ HXp.out.below hz2)
    have HVx := HXx
    replace HXx : Hid (Box v1.heap.size [.int .i64 X.s, .int .i64 X.u] w9) := Lib.hid (hw ▸ HXx.out.below hz2)
    have HVyy := HXyy
    replace HXyy : Hid (Box v2.heap.size [.int .i64 Y.s, .int .i64 Y.u] w9) := Lib.hid (hw ▸ HXyy.out.below hz2)
    have HVzz := HXzz
    replace HXzz : Hid (Box v3.heap.size [.int .i64 K.s, .int .i64 K.u] w9) := Lib.hid (hw ▸ HXzz.out.below hz2)
    have HVnn := HXnn
    replace HXnn : Hid (Box w3.heap.size [.int .i64 0, .int .i64 0] w9) := Lib.hid (hw ▸ HXnn.out.below hz2)
    have HVl := HXl
    replace HXl : Hid (Box w6.heap.size [.int .i64 K.s, .int .i64 K.u] w9) := Lib.hid (hw ▸ HXl.out.below hz2)
    have HVB := HB
    have HV : Hid (Below w8.heap.size w8 w9) := Lib.hid (hw ▸ hz2)
    have HXq : Hid (Box w8.heap.size [.int .i64 p.s, .int .i64 p.u] w9) := Lib.hid (hw ▸ hx)
    replace HB : Hid (Below w.heap.size w w9) := Lib.hid (hw ▸ below_trans HB.out hz2)
    clear hz2 hx
    go_upto_region 22 with (fail)
    clear hw
    clear p0 p1 ps
    obtain ⟨q0, q1⟩ := HXq.out.c2
    have qs := HXq.out.1
    obtain ⟨m0, m1⟩ := HXq.out.z2
    generalize hc : (if y = true then (2 : Int) else 3) = c at HAN
    have HC := Lib.hid hc
    clear hc
    go_upto_if 164 with (fail)
    go_cut [] from 162 to 165 (fun wx => Box w8.heap.size [.int .i64 c, .int .i64 p.u] wx ∧ Below w8.heap.size w8 wx)
    case first =>
      cases y with
      | true =>
        obtain rfl : (2 : Int) = c := HC.out
        have HX := Lib.hid (box_set0 (x := .int .i64 2) (box_set0 (x := .int .i64 3) HXq.out))
        have HE := Lib.hid ((HV.out.setCell (p := ⟨w8.heap.size, 0, none⟩) (Nat.le_refl _) (.int .i64 3)).setCell (p := ⟨w8.heap.size, 0, none⟩) (Nat.le_refl _) (.int .i64 2))
        go_wp2_with fail
        go_meet
        exact ⟨HX.out, HE.out⟩
      | false =>
        obtain rfl : (3 : Int) = c := HC.out
        have HX := Lib.hid (box_set0 (x := .int .i64 3) HXq.out)
        have HE := Lib.hid (HV.out.setCell (p := ⟨w8.heap.size, 0, none⟩) (Nat.le_refl _) (.int .i64 3))
        go_wp2_with fail
        go_meet
        exact ⟨HX.out, HE.out⟩
    case rest =>
    obtain ⟨hxq, hbe⟩ := hcut
    rename World => w10
    clear m0 m1
    clear q0 q1 qs
    replace HXq := Lib.hid hxq
    clear hxq
    replace HXp := Lib.hid (HVp.out.below hbe)
    clear HVp
    replace HXx := Lib.hid (HVx.out.below hbe)
    clear HVx
    replace HXyy := Lib.hid (HVyy.out.below hbe)
    clear HVyy
    replace HXzz := Lib.hid (HVzz.out.below hbe)
    clear HVzz
    replace HXnn := Lib.hid (HVnn.out.below hbe)
    clear HVnn
    replace HXl := Lib.hid (HVl.out.below hbe)
    clear HVl
    replace HB := Lib.hid (below_trans HVB.out hbe)
    clear HVB HV hbe
    obtain ⟨p0, p1⟩ := HXp.out.c2
    have ps := HXp.out.1
    obtain ⟨q0, q1⟩ := HXq.out.c2
    have qs := HXq.out.1
    obtain ⟨yy0, yy1⟩ := HXyy.out.c2
    have yys := HXyy.out.1
    obtain ⟨nn0, nn1⟩ := HXnn.out.c2
    have nns := HXnn.out.1
    rcases HAN.out with ⟨h1, h2, h3⟩ | ⟨h0, h1, h2, h3⟩ | ⟨h0, h1, h2, h3⟩
    · have a1 : (p.s != 1) = true := by simpa using h1
      have a2 : (g == 10) = true := by simpa using h2
      have hq := fun W => eql_yes h3 W
      unfold noA at hq
      dsimp only at hq
      clear h1 h2 h3
      go_wp2_with fail
      go_ret
      exact ⟨rfl, HB.out⟩
    · have a1 : (p.s != 1) = false := by simpa using h0
      have a2 : (g == 12) = true := by simpa using h2
      have hq := fun W => eql_yes h3 W
      unfold noA at hq
      dsimp only at hq
      clear h0 h2 h3
      go_wp2_with fail
      go_ret
      exact ⟨rfl, HB.out⟩
    · have a1 : (p.s != 1) = false := by simpa using h0
      have a3 : ¬ p.u ≤ now := by omega
      have a2 : (g == 0) = true := by simpa using h2
      have hq := fun W => eql_yes h3 W
      dsimp only at hq
      clear h0 h1 h2 h3
      go_wp2_with fail
      go_ret
      exact ⟨rfl, HB.out⟩

set_option maxRecDepth 100000 in
set_option maxHeartbeats 4000000 in
theorem lifted (os : Os) (started : os.Started) (H : Type) (enc : TypeId × Value → H) :
    ReturnsInHanded {} Try.checked os 3 .any (Rows.askGoesSpec.pre6 enc Try.prog Try.f3 Rows.askGoesRow.domain false) (Rows.askGoesSpec.post enc Try.prog Try.f3 false true false false) := by
  refine returnsInHanded_of_change (C := Try.checked) own started (by kernel_rfl) Try.func3
    (ChangeSpec.witness6 (enc := enc) (C := Try.checked) false ⟨#[], #[.agg #[.int .i64 0, .int .i64 0], .int .i64 0, .int .i64 0, .bool false], []⟩ 8 (by kernel_rfl) (by kernel_rfl) (by kernel_rfl) (by kernel_rfl)) ?_
  intro W base args ds gs before hval0 hW hcnd _
  have hval : ∀ (j : Nat) t v, Try.f3.params[j]? = some t → args[j]? = some v → Value.okWide Try.prog W .any base t v := hval0
  have hW' := hW
  obtain ⟨p, q, hA0, hV, rfl, hfz, hnd⟩ := hW
  have hA : DataW.TrodAll enc Try.prog W 0 (fun _ => true) true Try.f3.params.toList args.toList ds p := hA0
  rw [Try.params3] at hA hval
  obtain ⟨v0, vs0, d0, ds0, p0, q0, hargs, rfl, rfl, h0, r0⟩ := trodAll_cons hA
  obtain ⟨v1, vs1, d1, ds1, p1, q1, rfl, rfl, rfl, h1, r1⟩ := trodAll_cons r0
  obtain ⟨v2, vs2, d2, ds2, p2, q2, rfl, rfl, rfl, h2, r2⟩ := trodAll_cons r1
  obtain ⟨v3, vs3, d3, ds3, p3, q3, rfl, rfl, rfl, h3, r3⟩ := trodAll_cons r2
  obtain ⟨rfl, rfl, rfl⟩ := trodAll_nil r3
  obtain rfl : args = #[v0, v1, v2, v3] := by cases args; simp_all
  obtain ⟨rfl, rfl⟩ := trodVars_none hV
  have k0 := h0
  have lt0 : ∀ x ∈ p0, x.block < W.heap.size := by obtain ⟨m, hm⟩ := k0; exact DataW.trod_lt m _ _ _ hm
  obtain ⟨fuel0, hf0⟩ := h0
  obtain ⟨x0, rfl⟩ := open_ask (hval 0 23 v0 rfl rfl) hf0
  obtain ⟨a1, rfl, rfl, rfl, w1⟩ := open_int Try.underlying3 (hval 1 3 v1 rfl rfl) h1
  have hb1 : -9223372036854775808 ≤ a1 ∧ a1 ≤ 9223372036854775807 := by
    have := w1
    simp [Lit.wf, IntKind.min, IntKind.max, IntKind.bits, IntKind.signed] at this
    omega
  obtain ⟨a2, rfl, rfl, rfl, w2⟩ := open_int Try.underlying3 (hval 2 3 v2 rfl rfl) h2
  have hb2 : -9223372036854775808 ≤ a2 ∧ a2 ≤ 9223372036854775807 := by
    have := w2
    simp [Lit.wf, IntKind.min, IntKind.max, IntKind.bits, IntKind.signed] at this
    omega
  obtain ⟨a3, rfl, rfl, rfl⟩ := open_bool Try.underlying4 (hval 3 4 v3 rfl rfl) h3
  clear hA0 hval0
  refine (walk0 x0 a1 hb1.1 hb1.2 a2 hb2.1 hb2.2 a3 W ).mono fun e W' ⟨he, bel⟩ => ?_
  subst he
  exact ⟨_, rfl, _, _, _, [], _, [], hW', trodAll_mk1 (shut_bool Try.underlying4 _), (trodAll_cons_mk (Below.trod laidOut (by kernel_rfl) (of_decide_eq_true (by kernel_rfl)) k0 bel lt0) (trodAll_cons_mk (shut_int Try.underlying3 w1) (trodAll_cons_mk (shut_int Try.underlying3 w2) (trodAll_cons_mk (shut_bool Try.underlying4 _) trodAll_mk0)))), rfl, bel.frame _, fun h => by cases h⟩

theorem over : Rows.askGoesRow.holds Try.pinned (OpenSpec.ofChange Rows.askGoesSpec) :=
  OpenClaim.holds_of_wide 3 Try.f3 rfl rfl rfl rfl rfl rfl rfl ⟨rfl, rfl, rfl, rfl, rfl⟩ rfl rfl rfl rfl rfl (by kernel_rfl) Try.func3 (by kernel_rfl)
    (of_decide_eq_true (by kernel_rfl)) (by unfold Func.isWrapper; first | (rw [if_pos (by decide +kernel)]; kernel_rfl) | (rw [if_neg (by decide +kernel)]; exact ⟨rfl, rfl⟩))
    (fun os started H enc _ => lifted os started H enc)

theorem proved : Rows.AskGoesSaid := over
#print axioms proved
end Go.Proofs.Ytbdgcfcipjehmaa.askGoes
