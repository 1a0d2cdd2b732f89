/-
  Proved: for any units, price and time, any money and another time the law PayBegins returns true: money that is promised, which may be, and whether it holds at a time, is as the document says, or refused. No condition.
-/
import Derived.Test.YtfegnaafodcnlaaRows
import Derived.Test.YtfegnaafodcnlaaPHand
namespace Go.Proofs.Ytfegnaafodcnlaa.payBegins
open Go.ChangeShapes Go.WideShapes Go.ChangeAt Go.RowKit Go.Lib Go.Proofs.Ytfegnaafodcnlaa.Pay
set_option linter.unusedVariables false

theorem own : ownKnob Try.prog.godebug = none := by kernel_rfl
theorem laidOut : laidOutB Try.prog = true := by kernel_rfl

/-- Good's answer, by what is asked. -/
theorem good_ways (p : Py) (t : Int) : (rightB p = false ∧ goodB p t = false) ∨ (rightB p = true ∧ (p.s == 1) = false ∧ goodB p t = false) ∨ (rightB p = true ∧ (p.s == 1) = true ∧ p.u > t ∧ goodB p t = true) ∨ (rightB p = true ∧ (p.s == 1) = true ∧ ¬ p.u > t ∧ goodB p t = false) := by
  cases hr : rightB p with
  | false => exact .inl ⟨rfl, goodB_f.2 (fun h => by rw [rightB_t.2 h.1] at hr; cases hr)⟩
  | true =>
    have h := rightB_t.1 hr
    by_cases h1 : p.s = 1
    · by_cases h2 : t < p.u
      · exact .inr (.inr (.inl ⟨rfl, by simpa using h1, h2, goodB_t.2 ⟨h, h1, h2⟩⟩))
      · exact .inr (.inr (.inr ⟨rfl, by simpa using h1, h2, goodB_f.2 (fun g => h2 g.2.2)⟩))
    · exact .inr (.inl ⟨rfl, by simpa using h1, goodB_f.2 (fun g => h1 g.2.1)⟩)

set_option maxRecDepth 100000 in
set_option maxHeartbeats 8000000 in
theorem walk0 (n : Int) (_n1 : -9223372036854775808 ≤ n) (_n2 : n ≤ 9223372036854775807) (q : Int) (_q1 : -9223372036854775808 ≤ q) (_q2 : q ≤ 9223372036854775807) (t : Int) (_t1 : -9223372036854775808 ≤ t) (_t2 : t ≤ 9223372036854775807) (p : Py) (now : Int) (_m1 : -9223372036854775808 ≤ now) (_m2 : now ≤ 9223372036854775807) (w : World) :
    Calls Try.prog 3 #[.int .i64 n, .int .i64 q, .int .i64 t, pv p, .int .i64 now] w (BoolB true w) := by
  have HAL := Lib.hid alive_any
  have hR := Right_any p
  have hr := right_any p
  have hG := Good_any p now
  have hN := New_any n q t
  have hnw := new_ways n q t
  have hb1 := inB_t (n := n) (a := 1) (b := 1073741824)
  have hb2 := inB_t (n := q) (a := 1) (b := 1073741824)
  have hb3 := inB_t (n := t) (a := 0) (b := 1099511627776)
  have hi1 := in_any n 1 1073741824
  have hi2 := in_any q 1 1073741824
  have hi3 := in_any t 0 1099511627776
  generalize inB n 1 1073741824 = b1 at *
  generalize inB q 1 1073741824 = b2 at *
  generalize inB t 0 1099511627776 = b3 at *
  generalize newE n q t = f at *
  generalize newO n q t = X at *
  have HW := Lib.hid (good_ways p now)
  generalize rightB p = r at *
  generalize goodB p now = gb at *
  have HR := Lib.hid hR
  have Hr := Lib.hid hr
  have HG := Lib.hid hG
  have HN := Lib.hid hN
  have HNW := Lib.hid hnw
  have HB1 := Lib.hid hb1
  have HB2 := Lib.hid hb2
  have HB3 := Lib.hid hb3
  have HI1 := Lib.hid hi1
  have HI2 := Lib.hid hi2
  have HI3 := Lib.hid hi3
  clear hR hr hG hN hnw hb1 hb2 hb3 hi1 hi2 hi3
  unfold pv at *
  have hx := Box.made w [.int .i64 p.a, .int .i64 p.c, .int .i64 p.u, .int .i64 p.s] 23
  have hb := al w (.cells #[.int .i64 p.a, .int .i64 p.c, .int .i64 p.u, .int .i64 p.s] 23)
  obtain ⟨w0, hw⟩ : ∃ W, w.alloc (.cells #[.int .i64 p.a, .int .i64 p.c, .int .i64 p.u, .int .i64 p.s] 23) = W := ⟨_, rfl⟩
  have HXp : Hid (Box w.heap.size [.int .i64 p.a, .int .i64 p.c, .int .i64 p.u, .int .i64 p.s] w0) := Lib.hid (hw ▸ hx)
  have HB : Hid (Below w.heap.size w w0) := Lib.hid (hw ▸ hb)
  clear hx hb
  go_enter Try.func3, Try.ntmps3
  go_upto_region 1 with (fail)
  clear hw
  go_wp2_with fail
  (with_reducible refine (HN.out _).mono ?_)
  rintro e v1 ⟨rfl, hz⟩
  have hx := Box.made v1 [.int .i64 X.a, .int .i64 X.c, .int .i64 X.u, .int .i64 X.s] 23
  have hz2 := below_trans hz (al v1 (.cells #[.int .i64 X.a, .int .i64 X.c, .int .i64 X.u, .int .i64 X.s] 23))
  obtain ⟨w1, hw⟩ : ∃ W, v1.alloc (.cells #[.int .i64 X.a, .int .i64 X.c, .int .i64 X.u, .int .i64 X.s] 23) = W := ⟨_, rfl⟩
  replace HXp : Hid (Box w.heap.size [.int .i64 p.a, .int .i64 p.c, .int .i64 p.u, .int .i64 p.s] w1) := Lib.hid (hw ▸ HXp.out.below hz2)
  have HXx : Hid (Box v1.heap.size [.int .i64 X.a, .int .i64 X.c, .int .i64 X.u, .int .i64 X.s] w1) := Lib.hid (hw ▸ hx)
  replace HB : Hid (Below w.heap.size w w1) := Lib.hid (hw ▸ below_trans HB.out hz2)
  clear hz hx hz2
  unfold pv
  go_upto_region 2 with (fail)
  clear hw
  go_cut [47] from 20 to 47 (fun z wx => z = .bool false ∧ Below w1.heap.size w1 wx)
  case first =>
    rcases HW.out with ⟨rfl, rfl⟩ | ⟨rfl, h1, rfl⟩ | ⟨rfl, h1, h2, rfl⟩ | ⟨rfl, h1, h2, rfl⟩
    · refine wp_region_noPanic ?_
      refine wp_region_held_drew (S := fun W' => Below w1.heap.size w1 W') (by kernel_rfl) (dr w1) (fun hHeld => ?_)
      try simp only [Act.put, List.setIfInBounds_toArray, List.set_cons_zero, List.set_cons_succ]
      refine takeH 0 20 (.agg #[.int .i64 p.a, .int .i64 p.c, .int .i64 p.u, .int .i64 p.s]) calm_np rfl rfl (by kernel_rfl) (by kernel_rfl) (by kernel_rfl) (by rfl) (fun W' hSw => by obtain ⟨g0, g1, g2, g3⟩ := (HXp.out.below hSw).c4; have hsz := (HXp.out.below hSw).1; go_simp) hHeld ?_
      try simp only [Act.put, List.setIfInBounds_toArray, List.set_cons_zero, List.set_cons_succ]
      refine takeH 2 22 (.agg #[.int .i64 p.a, .int .i64 p.c, .int .i64 p.u, .int .i64 p.s]) calm_np rfl rfl (by kernel_rfl) (by kernel_rfl) (by kernel_rfl) (by rfl) (fun W' hSw => by obtain ⟨g0, g1, g2, g3⟩ := (HXp.out.below hSw).c4; have hsz := (HXp.out.below hSw).1; go_simp) hHeld ?_
      try simp only [Act.put, List.setIfInBounds_toArray, List.set_cons_zero, List.set_cons_succ]
      refine wpAnyH_ready (rs := [1]) (by kernel_rfl) (by simp) (AllReadyH.cons rfl (fun K hK => ?_) AllReadyH.nil)
      go_simp
      refine (HR.out _).mono ?_
      rintro e V1 ⟨rfl, hz⟩
      have hh := below_trans hHeld hz
      clear hz
      go_simp
      refine hK.out _ _ hh (fun hHeld => ?_)
      clear hK hh
      try simp only [Act.put, List.setIfInBounds_toArray, List.set_cons_zero, List.set_cons_succ]
      refine wpAnyH_ready (rs := [3]) (by kernel_rfl) (by simp) (AllReadyH.cons rfl (fun K hK => ?_) AllReadyH.nil)
      go_simp
      refine (Hr.out _).mono ?_
      rintro e V2 ⟨rfl, hz⟩
      have hh := below_trans hHeld hz
      clear hz
      go_simp
      refine hK.out _ _ hh (fun hHeld => ?_)
      clear hK hh
      try simp only [Act.put, List.setIfInBounds_toArray, List.set_cons_zero, List.set_cons_succ]
      refine takeH 4 24 (.bool false) calm_np rfl rfl (by kernel_rfl) (by kernel_rfl) (by kernel_rfl) (by rfl) (fun W' hSw => by go_simp) hHeld ?_
      try simp only [Act.put, List.setIfInBounds_toArray, List.set_cons_zero, List.set_cons_succ]
      refine takeH 5 25 (.bool false) calm_np rfl rfl (by kernel_rfl) (by kernel_rfl) (by kernel_rfl) (by rfl) (fun W' hSw => by go_simp) hHeld ?_
      try simp only [Act.put, List.setIfInBounds_toArray, List.set_cons_zero, List.set_cons_succ]
      refine takeH 6 26 (.agg #[.int .i64 p.a, .int .i64 p.c, .int .i64 p.u, .int .i64 p.s]) calm_np rfl rfl (by kernel_rfl) (by kernel_rfl) (by kernel_rfl) (by rfl) (fun W' hSw => by obtain ⟨g0, g1, g2, g3⟩ := (HXp.out.below hSw).c4; have hsz := (HXp.out.below hSw).1; go_simp) hHeld ?_
      try simp only [Act.put, List.setIfInBounds_toArray, List.set_cons_zero, List.set_cons_succ]
      refine takeH 7 27 (.int .i64 now) calm_np rfl rfl (by kernel_rfl) (by kernel_rfl) (by kernel_rfl) (by rfl) (fun W' hSw => by go_simp) hHeld ?_
      try simp only [Act.put, List.setIfInBounds_toArray, List.set_cons_zero, List.set_cons_succ]
      refine takeH 9 29 (.agg #[.int .i64 p.a, .int .i64 p.c, .int .i64 p.u, .int .i64 p.s]) calm_np rfl rfl (by kernel_rfl) (by kernel_rfl) (by kernel_rfl) (by rfl) (fun W' hSw => by obtain ⟨g0, g1, g2, g3⟩ := (HXp.out.below hSw).c4; have hsz := (HXp.out.below hSw).1; go_simp) hHeld ?_
      try simp only [Act.put, List.setIfInBounds_toArray, List.set_cons_zero, List.set_cons_succ]
      refine wpAnyH_ready (rs := [8]) (by kernel_rfl) (by simp) (AllReadyH.cons rfl (fun K hK => ?_) AllReadyH.nil)
      go_simp
      refine (HG.out _).mono ?_
      rintro e V3 ⟨rfl, hz⟩
      have hh := below_trans hHeld hz
      clear hz
      go_simp
      refine hK.out _ _ hh (fun hHeld => ?_)
      clear hK hh
      try simp only [Act.put, List.setIfInBounds_toArray, List.set_cons_zero, List.set_cons_succ]
      refine wpAnyH_ready (rs := [10]) (by kernel_rfl) (by simp) (AllReadyH.cons rfl (fun K hK => ?_) AllReadyH.nil)
      go_simp
      refine (Hr.out _).mono ?_
      rintro e V4 ⟨rfl, hz⟩
      have hh := below_trans hHeld hz
      clear hz
      go_simp
      refine hK.out _ _ hh (fun hHeld => ?_)
      clear hK hh
      try simp only [Act.put, List.setIfInBounds_toArray, List.set_cons_zero, List.set_cons_succ]
      refine takeH 11 31 (.bool false) calm_np rfl rfl (by kernel_rfl) (by kernel_rfl) (by kernel_rfl) (by rfl) (fun W' hSw => by go_simp) hHeld ?_
      try simp only [Act.put, List.setIfInBounds_toArray, List.set_cons_zero, List.set_cons_succ]
      refine skipH 12 32 calm_np rfl rfl (by kernel_rfl) (by kernel_rfl) (by kernel_rfl) (by rfl) hHeld ?_
      try simp only [Act.put, List.setIfInBounds_toArray, List.set_cons_zero, List.set_cons_succ]
      refine skipH 13 33 calm_np rfl rfl (by kernel_rfl) (by kernel_rfl) (by kernel_rfl) (by rfl) hHeld ?_
      try simp only [Act.put, List.setIfInBounds_toArray, List.set_cons_zero, List.set_cons_succ]
      refine skipH 14 34 calm_np rfl rfl (by kernel_rfl) (by kernel_rfl) (by kernel_rfl) (by rfl) hHeld ?_
      try simp only [Act.put, List.setIfInBounds_toArray, List.set_cons_zero, List.set_cons_succ]
      refine takeH 15 35 (.bool false) calm_np rfl rfl (by kernel_rfl) (by kernel_rfl) (by kernel_rfl) (by rfl) (fun W' hSw => by go_simp) hHeld ?_
      try simp only [Act.put, List.setIfInBounds_toArray, List.set_cons_zero, List.set_cons_succ]
      refine takeH 16 36 (.bool false) calm_np rfl rfl (by kernel_rfl) (by kernel_rfl) (by kernel_rfl) (by rfl) (fun W' hSw => by go_simp) hHeld ?_
      try simp only [Act.put, List.setIfInBounds_toArray, List.set_cons_zero, List.set_cons_succ]
      refine skipH 17 37 calm_np rfl rfl (by kernel_rfl) (by kernel_rfl) (by kernel_rfl) (by rfl) hHeld ?_
      try simp only [Act.put, List.setIfInBounds_toArray, List.set_cons_zero, List.set_cons_succ]
      refine skipH 18 38 calm_np rfl rfl (by kernel_rfl) (by kernel_rfl) (by kernel_rfl) (by rfl) hHeld ?_
      try simp only [Act.put, List.setIfInBounds_toArray, List.set_cons_zero, List.set_cons_succ]
      refine skipH 19 39 calm_np rfl rfl (by kernel_rfl) (by kernel_rfl) (by kernel_rfl) (by rfl) hHeld ?_
      try simp only [Act.put, List.setIfInBounds_toArray, List.set_cons_zero, List.set_cons_succ]
      refine skipH 20 40 calm_np rfl rfl (by kernel_rfl) (by kernel_rfl) (by kernel_rfl) (by rfl) hHeld ?_
      try simp only [Act.put, List.setIfInBounds_toArray, List.set_cons_zero, List.set_cons_succ]
      refine takeH 21 41 (.bool false) calm_np rfl rfl (by kernel_rfl) (by kernel_rfl) (by kernel_rfl) (by rfl) (fun W' hSw => by go_simp) hHeld ?_
      try simp only [Act.put, List.setIfInBounds_toArray, List.set_cons_zero, List.set_cons_succ]
      refine takeH 22 42 (.bool false) calm_np rfl rfl (by kernel_rfl) (by kernel_rfl) (by kernel_rfl) (by rfl) (fun W' hSw => by go_simp) hHeld ?_
      try simp only [Act.put, List.setIfInBounds_toArray, List.set_cons_zero, List.set_cons_succ]
      refine takeH 23 43 (.bool false) calm_np rfl rfl (by kernel_rfl) (by kernel_rfl) (by kernel_rfl) (by rfl) (fun W' hSw => by go_simp) hHeld ?_
      try simp only [Act.put, List.setIfInBounds_toArray, List.set_cons_zero, List.set_cons_succ]
      refine takeH 24 44 (.bool false) calm_np rfl rfl (by kernel_rfl) (by kernel_rfl) (by kernel_rfl) (by rfl) (fun W' hSw => by go_simp) hHeld ?_
      try simp only [Act.put, List.setIfInBounds_toArray, List.set_cons_zero, List.set_cons_succ]
      refine wpAnyH_ready (rs := [25]) (by kernel_rfl) (by simp) (AllReadyH.cons rfl (fun K hK => ?_) AllReadyH.nil)
      go_simp
      refine (HAL.out _).mono ?_
      rintro e V5 ⟨rfl, hz⟩
      have hh := below_trans hHeld hz
      clear hz
      go_simp
      refine hK.out _ _ hh (fun hHeld => ?_)
      clear hK hh
      try simp only [Act.put, List.setIfInBounds_toArray, List.set_cons_zero, List.set_cons_succ]
      refine takeH 26 46 (.bool false) calm_np rfl rfl (by kernel_rfl) (by kernel_rfl) (by kernel_rfl) (by rfl) (fun W' hSw => by go_simp) hHeld ?_
      try simp only [Act.put, List.setIfInBounds_toArray, List.set_cons_zero, List.set_cons_succ]
      refine takeH 27 47 (.bool false) calm_np rfl rfl (by kernel_rfl) (by kernel_rfl) (by kernel_rfl) (by rfl) (fun W' hSw => by go_simp) hHeld ?_
      try simp only [Act.put, List.setIfInBounds_toArray, List.set_cons_zero, List.set_cons_succ]
      refine wpAnyH_done (by kernel_rfl) ?_ _
      refine NoPanic.normal ?_
      have HH := Lib.hid hHeld
      clear hHeld
      go_wp2_with fail
      go_meet
      exact ⟨rfl, HH.out⟩
    · refine wp_region_noPanic ?_
      refine wp_region_held_drew (S := fun W' => Below w1.heap.size w1 W') (by kernel_rfl) (dr w1) (fun hHeld => ?_)
      try simp only [Act.put, List.setIfInBounds_toArray, List.set_cons_zero, List.set_cons_succ]
      refine takeH 0 20 (.agg #[.int .i64 p.a, .int .i64 p.c, .int .i64 p.u, .int .i64 p.s]) calm_np rfl rfl (by kernel_rfl) (by kernel_rfl) (by kernel_rfl) (by rfl) (fun W' hSw => by obtain ⟨g0, g1, g2, g3⟩ := (HXp.out.below hSw).c4; have hsz := (HXp.out.below hSw).1; go_simp) hHeld ?_
      try simp only [Act.put, List.setIfInBounds_toArray, List.set_cons_zero, List.set_cons_succ]
      refine takeH 2 22 (.agg #[.int .i64 p.a, .int .i64 p.c, .int .i64 p.u, .int .i64 p.s]) calm_np rfl rfl (by kernel_rfl) (by kernel_rfl) (by kernel_rfl) (by rfl) (fun W' hSw => by obtain ⟨g0, g1, g2, g3⟩ := (HXp.out.below hSw).c4; have hsz := (HXp.out.below hSw).1; go_simp) hHeld ?_
      try simp only [Act.put, List.setIfInBounds_toArray, List.set_cons_zero, List.set_cons_succ]
      refine wpAnyH_ready (rs := [1]) (by kernel_rfl) (by simp) (AllReadyH.cons rfl (fun K hK => ?_) AllReadyH.nil)
      go_simp
      refine (HR.out _).mono ?_
      rintro e V1 ⟨rfl, hz⟩
      have hh := below_trans hHeld hz
      clear hz
      go_simp
      refine hK.out _ _ hh (fun hHeld => ?_)
      clear hK hh
      try simp only [Act.put, List.setIfInBounds_toArray, List.set_cons_zero, List.set_cons_succ]
      refine wpAnyH_ready (rs := [3]) (by kernel_rfl) (by simp) (AllReadyH.cons rfl (fun K hK => ?_) AllReadyH.nil)
      go_simp
      refine (Hr.out _).mono ?_
      rintro e V2 ⟨rfl, hz⟩
      have hh := below_trans hHeld hz
      clear hz
      go_simp
      refine hK.out _ _ hh (fun hHeld => ?_)
      clear hK hh
      try simp only [Act.put, List.setIfInBounds_toArray, List.set_cons_zero, List.set_cons_succ]
      refine takeH 4 24 (.bool false) calm_np rfl rfl (by kernel_rfl) (by kernel_rfl) (by kernel_rfl) (by rfl) (fun W' hSw => by go_simp) hHeld ?_
      try simp only [Act.put, List.setIfInBounds_toArray, List.set_cons_zero, List.set_cons_succ]
      refine takeH 5 25 (.bool false) calm_np rfl rfl (by kernel_rfl) (by kernel_rfl) (by kernel_rfl) (by rfl) (fun W' hSw => by go_simp) hHeld ?_
      try simp only [Act.put, List.setIfInBounds_toArray, List.set_cons_zero, List.set_cons_succ]
      refine takeH 6 26 (.agg #[.int .i64 p.a, .int .i64 p.c, .int .i64 p.u, .int .i64 p.s]) calm_np rfl rfl (by kernel_rfl) (by kernel_rfl) (by kernel_rfl) (by rfl) (fun W' hSw => by obtain ⟨g0, g1, g2, g3⟩ := (HXp.out.below hSw).c4; have hsz := (HXp.out.below hSw).1; go_simp) hHeld ?_
      try simp only [Act.put, List.setIfInBounds_toArray, List.set_cons_zero, List.set_cons_succ]
      refine takeH 7 27 (.int .i64 now) calm_np rfl rfl (by kernel_rfl) (by kernel_rfl) (by kernel_rfl) (by rfl) (fun W' hSw => by go_simp) hHeld ?_
      try simp only [Act.put, List.setIfInBounds_toArray, List.set_cons_zero, List.set_cons_succ]
      refine takeH 9 29 (.agg #[.int .i64 p.a, .int .i64 p.c, .int .i64 p.u, .int .i64 p.s]) calm_np rfl rfl (by kernel_rfl) (by kernel_rfl) (by kernel_rfl) (by rfl) (fun W' hSw => by obtain ⟨g0, g1, g2, g3⟩ := (HXp.out.below hSw).c4; have hsz := (HXp.out.below hSw).1; go_simp) hHeld ?_
      try simp only [Act.put, List.setIfInBounds_toArray, List.set_cons_zero, List.set_cons_succ]
      refine wpAnyH_ready (rs := [8]) (by kernel_rfl) (by simp) (AllReadyH.cons rfl (fun K hK => ?_) AllReadyH.nil)
      go_simp
      refine (HG.out _).mono ?_
      rintro e V3 ⟨rfl, hz⟩
      have hh := below_trans hHeld hz
      clear hz
      go_simp
      refine hK.out _ _ hh (fun hHeld => ?_)
      clear hK hh
      try simp only [Act.put, List.setIfInBounds_toArray, List.set_cons_zero, List.set_cons_succ]
      refine wpAnyH_ready (rs := [10]) (by kernel_rfl) (by simp) (AllReadyH.cons rfl (fun K hK => ?_) AllReadyH.nil)
      go_simp
      refine (Hr.out _).mono ?_
      rintro e V4 ⟨rfl, hz⟩
      have hh := below_trans hHeld hz
      clear hz
      go_simp
      refine hK.out _ _ hh (fun hHeld => ?_)
      clear hK hh
      try simp only [Act.put, List.setIfInBounds_toArray, List.set_cons_zero, List.set_cons_succ]
      refine takeH 11 31 (.bool true) calm_np rfl rfl (by kernel_rfl) (by kernel_rfl) (by kernel_rfl) (by rfl) (fun W' hSw => by go_simp) hHeld ?_
      try simp only [Act.put, List.setIfInBounds_toArray, List.set_cons_zero, List.set_cons_succ]
      refine takeH 12 32 (.pointer (some ⟨w.heap.size, 3, none⟩)) calm_np rfl rfl (by kernel_rfl) (by kernel_rfl) (by kernel_rfl) (by rfl) (fun W' hSw => by go_simp) hHeld ?_
      try simp only [Act.put, List.setIfInBounds_toArray, List.set_cons_zero, List.set_cons_succ]
      refine takeH 13 33 (.int .i64 p.s) calm_np rfl rfl (by kernel_rfl) (by kernel_rfl) (by kernel_rfl) (by rfl) (fun W' hSw => by obtain ⟨g0, g1, g2, g3⟩ := (HXp.out.below hSw).c4; have hsz := (HXp.out.below hSw).1; go_simp) hHeld ?_
      try simp only [Act.put, List.setIfInBounds_toArray, List.set_cons_zero, List.set_cons_succ]
      refine takeH 14 34 (.bool false) calm_np rfl rfl (by kernel_rfl) (by kernel_rfl) (by kernel_rfl) (by rfl) (fun W' hSw => by go_simp) hHeld ?_
      try simp only [Act.put, List.setIfInBounds_toArray, List.set_cons_zero, List.set_cons_succ]
      refine takeH 15 35 (.bool false) calm_np rfl rfl (by kernel_rfl) (by kernel_rfl) (by kernel_rfl) (by rfl) (fun W' hSw => by go_simp) hHeld ?_
      try simp only [Act.put, List.setIfInBounds_toArray, List.set_cons_zero, List.set_cons_succ]
      refine takeH 16 36 (.bool false) calm_np rfl rfl (by kernel_rfl) (by kernel_rfl) (by kernel_rfl) (by rfl) (fun W' hSw => by go_simp) hHeld ?_
      try simp only [Act.put, List.setIfInBounds_toArray, List.set_cons_zero, List.set_cons_succ]
      refine skipH 17 37 calm_np rfl rfl (by kernel_rfl) (by kernel_rfl) (by kernel_rfl) (by rfl) hHeld ?_
      try simp only [Act.put, List.setIfInBounds_toArray, List.set_cons_zero, List.set_cons_succ]
      refine skipH 18 38 calm_np rfl rfl (by kernel_rfl) (by kernel_rfl) (by kernel_rfl) (by rfl) hHeld ?_
      try simp only [Act.put, List.setIfInBounds_toArray, List.set_cons_zero, List.set_cons_succ]
      refine skipH 19 39 calm_np rfl rfl (by kernel_rfl) (by kernel_rfl) (by kernel_rfl) (by rfl) hHeld ?_
      try simp only [Act.put, List.setIfInBounds_toArray, List.set_cons_zero, List.set_cons_succ]
      refine skipH 20 40 calm_np rfl rfl (by kernel_rfl) (by kernel_rfl) (by kernel_rfl) (by rfl) hHeld ?_
      try simp only [Act.put, List.setIfInBounds_toArray, List.set_cons_zero, List.set_cons_succ]
      refine takeH 21 41 (.bool false) calm_np rfl rfl (by kernel_rfl) (by kernel_rfl) (by kernel_rfl) (by rfl) (fun W' hSw => by go_simp) hHeld ?_
      try simp only [Act.put, List.setIfInBounds_toArray, List.set_cons_zero, List.set_cons_succ]
      refine takeH 22 42 (.bool false) calm_np rfl rfl (by kernel_rfl) (by kernel_rfl) (by kernel_rfl) (by rfl) (fun W' hSw => by go_simp) hHeld ?_
      try simp only [Act.put, List.setIfInBounds_toArray, List.set_cons_zero, List.set_cons_succ]
      refine takeH 23 43 (.bool false) calm_np rfl rfl (by kernel_rfl) (by kernel_rfl) (by kernel_rfl) (by rfl) (fun W' hSw => by go_simp) hHeld ?_
      try simp only [Act.put, List.setIfInBounds_toArray, List.set_cons_zero, List.set_cons_succ]
      refine takeH 24 44 (.bool false) calm_np rfl rfl (by kernel_rfl) (by kernel_rfl) (by kernel_rfl) (by rfl) (fun W' hSw => by go_simp) hHeld ?_
      try simp only [Act.put, List.setIfInBounds_toArray, List.set_cons_zero, List.set_cons_succ]
      refine wpAnyH_ready (rs := [25]) (by kernel_rfl) (by simp) (AllReadyH.cons rfl (fun K hK => ?_) AllReadyH.nil)
      go_simp
      refine (HAL.out _).mono ?_
      rintro e V5 ⟨rfl, hz⟩
      have hh := below_trans hHeld hz
      clear hz
      go_simp
      refine hK.out _ _ hh (fun hHeld => ?_)
      clear hK hh
      try simp only [Act.put, List.setIfInBounds_toArray, List.set_cons_zero, List.set_cons_succ]
      refine takeH 26 46 (.bool false) calm_np rfl rfl (by kernel_rfl) (by kernel_rfl) (by kernel_rfl) (by rfl) (fun W' hSw => by go_simp) hHeld ?_
      try simp only [Act.put, List.setIfInBounds_toArray, List.set_cons_zero, List.set_cons_succ]
      refine takeH 27 47 (.bool false) calm_np rfl rfl (by kernel_rfl) (by kernel_rfl) (by kernel_rfl) (by rfl) (fun W' hSw => by go_simp) hHeld ?_
      try simp only [Act.put, List.setIfInBounds_toArray, List.set_cons_zero, List.set_cons_succ]
      refine wpAnyH_done (by kernel_rfl) ?_ _
      refine NoPanic.normal ?_
      have HH := Lib.hid hHeld
      clear hHeld
      go_wp2_with fail
      go_meet
      exact ⟨rfl, HH.out⟩
    · refine wp_region_noPanic ?_
      refine wp_region_held_drew (S := fun W' => Below w1.heap.size w1 W') (by kernel_rfl) (dr w1) (fun hHeld => ?_)
      try simp only [Act.put, List.setIfInBounds_toArray, List.set_cons_zero, List.set_cons_succ]
      refine takeH 0 20 (.agg #[.int .i64 p.a, .int .i64 p.c, .int .i64 p.u, .int .i64 p.s]) calm_np rfl rfl (by kernel_rfl) (by kernel_rfl) (by kernel_rfl) (by rfl) (fun W' hSw => by obtain ⟨g0, g1, g2, g3⟩ := (HXp.out.below hSw).c4; have hsz := (HXp.out.below hSw).1; go_simp) hHeld ?_
      try simp only [Act.put, List.setIfInBounds_toArray, List.set_cons_zero, List.set_cons_succ]
      refine takeH 2 22 (.agg #[.int .i64 p.a, .int .i64 p.c, .int .i64 p.u, .int .i64 p.s]) calm_np rfl rfl (by kernel_rfl) (by kernel_rfl) (by kernel_rfl) (by rfl) (fun W' hSw => by obtain ⟨g0, g1, g2, g3⟩ := (HXp.out.below hSw).c4; have hsz := (HXp.out.below hSw).1; go_simp) hHeld ?_
      try simp only [Act.put, List.setIfInBounds_toArray, List.set_cons_zero, List.set_cons_succ]
      refine wpAnyH_ready (rs := [1]) (by kernel_rfl) (by simp) (AllReadyH.cons rfl (fun K hK => ?_) AllReadyH.nil)
      go_simp
      refine (HR.out _).mono ?_
      rintro e V1 ⟨rfl, hz⟩
      have hh := below_trans hHeld hz
      clear hz
      go_simp
      refine hK.out _ _ hh (fun hHeld => ?_)
      clear hK hh
      try simp only [Act.put, List.setIfInBounds_toArray, List.set_cons_zero, List.set_cons_succ]
      refine wpAnyH_ready (rs := [3]) (by kernel_rfl) (by simp) (AllReadyH.cons rfl (fun K hK => ?_) AllReadyH.nil)
      go_simp
      refine (Hr.out _).mono ?_
      rintro e V2 ⟨rfl, hz⟩
      have hh := below_trans hHeld hz
      clear hz
      go_simp
      refine hK.out _ _ hh (fun hHeld => ?_)
      clear hK hh
      try simp only [Act.put, List.setIfInBounds_toArray, List.set_cons_zero, List.set_cons_succ]
      refine takeH 4 24 (.bool false) calm_np rfl rfl (by kernel_rfl) (by kernel_rfl) (by kernel_rfl) (by rfl) (fun W' hSw => by go_simp) hHeld ?_
      try simp only [Act.put, List.setIfInBounds_toArray, List.set_cons_zero, List.set_cons_succ]
      refine takeH 5 25 (.bool false) calm_np rfl rfl (by kernel_rfl) (by kernel_rfl) (by kernel_rfl) (by rfl) (fun W' hSw => by go_simp) hHeld ?_
      try simp only [Act.put, List.setIfInBounds_toArray, List.set_cons_zero, List.set_cons_succ]
      refine takeH 6 26 (.agg #[.int .i64 p.a, .int .i64 p.c, .int .i64 p.u, .int .i64 p.s]) calm_np rfl rfl (by kernel_rfl) (by kernel_rfl) (by kernel_rfl) (by rfl) (fun W' hSw => by obtain ⟨g0, g1, g2, g3⟩ := (HXp.out.below hSw).c4; have hsz := (HXp.out.below hSw).1; go_simp) hHeld ?_
      try simp only [Act.put, List.setIfInBounds_toArray, List.set_cons_zero, List.set_cons_succ]
      refine takeH 7 27 (.int .i64 now) calm_np rfl rfl (by kernel_rfl) (by kernel_rfl) (by kernel_rfl) (by rfl) (fun W' hSw => by go_simp) hHeld ?_
      try simp only [Act.put, List.setIfInBounds_toArray, List.set_cons_zero, List.set_cons_succ]
      refine takeH 9 29 (.agg #[.int .i64 p.a, .int .i64 p.c, .int .i64 p.u, .int .i64 p.s]) calm_np rfl rfl (by kernel_rfl) (by kernel_rfl) (by kernel_rfl) (by rfl) (fun W' hSw => by obtain ⟨g0, g1, g2, g3⟩ := (HXp.out.below hSw).c4; have hsz := (HXp.out.below hSw).1; go_simp) hHeld ?_
      try simp only [Act.put, List.setIfInBounds_toArray, List.set_cons_zero, List.set_cons_succ]
      refine wpAnyH_ready (rs := [8]) (by kernel_rfl) (by simp) (AllReadyH.cons rfl (fun K hK => ?_) AllReadyH.nil)
      go_simp
      refine (HG.out _).mono ?_
      rintro e V3 ⟨rfl, hz⟩
      have hh := below_trans hHeld hz
      clear hz
      go_simp
      refine hK.out _ _ hh (fun hHeld => ?_)
      clear hK hh
      try simp only [Act.put, List.setIfInBounds_toArray, List.set_cons_zero, List.set_cons_succ]
      refine wpAnyH_ready (rs := [10]) (by kernel_rfl) (by simp) (AllReadyH.cons rfl (fun K hK => ?_) AllReadyH.nil)
      go_simp
      refine (Hr.out _).mono ?_
      rintro e V4 ⟨rfl, hz⟩
      have hh := below_trans hHeld hz
      clear hz
      go_simp
      refine hK.out _ _ hh (fun hHeld => ?_)
      clear hK hh
      try simp only [Act.put, List.setIfInBounds_toArray, List.set_cons_zero, List.set_cons_succ]
      refine takeH 11 31 (.bool true) calm_np rfl rfl (by kernel_rfl) (by kernel_rfl) (by kernel_rfl) (by rfl) (fun W' hSw => by go_simp) hHeld ?_
      try simp only [Act.put, List.setIfInBounds_toArray, List.set_cons_zero, List.set_cons_succ]
      refine takeH 12 32 (.pointer (some ⟨w.heap.size, 3, none⟩)) calm_np rfl rfl (by kernel_rfl) (by kernel_rfl) (by kernel_rfl) (by rfl) (fun W' hSw => by go_simp) hHeld ?_
      try simp only [Act.put, List.setIfInBounds_toArray, List.set_cons_zero, List.set_cons_succ]
      refine takeH 13 33 (.int .i64 p.s) calm_np rfl rfl (by kernel_rfl) (by kernel_rfl) (by kernel_rfl) (by rfl) (fun W' hSw => by obtain ⟨g0, g1, g2, g3⟩ := (HXp.out.below hSw).c4; have hsz := (HXp.out.below hSw).1; go_simp) hHeld ?_
      try simp only [Act.put, List.setIfInBounds_toArray, List.set_cons_zero, List.set_cons_succ]
      refine takeH 14 34 (.bool true) calm_np rfl rfl (by kernel_rfl) (by kernel_rfl) (by kernel_rfl) (by rfl) (fun W' hSw => by go_simp) hHeld ?_
      try simp only [Act.put, List.setIfInBounds_toArray, List.set_cons_zero, List.set_cons_succ]
      refine takeH 15 35 (.bool true) calm_np rfl rfl (by kernel_rfl) (by kernel_rfl) (by kernel_rfl) (by rfl) (fun W' hSw => by go_simp) hHeld ?_
      try simp only [Act.put, List.setIfInBounds_toArray, List.set_cons_zero, List.set_cons_succ]
      refine takeH 16 36 (.bool true) calm_np rfl rfl (by kernel_rfl) (by kernel_rfl) (by kernel_rfl) (by rfl) (fun W' hSw => by go_simp) hHeld ?_
      try simp only [Act.put, List.setIfInBounds_toArray, List.set_cons_zero, List.set_cons_succ]
      refine takeH 17 37 (.pointer (some ⟨w.heap.size, 2, none⟩)) calm_np rfl rfl (by kernel_rfl) (by kernel_rfl) (by kernel_rfl) (by rfl) (fun W' hSw => by go_simp) hHeld ?_
      try simp only [Act.put, List.setIfInBounds_toArray, List.set_cons_zero, List.set_cons_succ]
      refine takeH 18 38 (.int .i64 p.u) calm_np rfl rfl (by kernel_rfl) (by kernel_rfl) (by kernel_rfl) (by rfl) (fun W' hSw => by obtain ⟨g0, g1, g2, g3⟩ := (HXp.out.below hSw).c4; have hsz := (HXp.out.below hSw).1; go_simp) hHeld ?_
      try simp only [Act.put, List.setIfInBounds_toArray, List.set_cons_zero, List.set_cons_succ]
      refine takeH 19 39 (.int .i64 now) calm_np rfl rfl (by kernel_rfl) (by kernel_rfl) (by kernel_rfl) (by rfl) (fun W' hSw => by go_simp) hHeld ?_
      try simp only [Act.put, List.setIfInBounds_toArray, List.set_cons_zero, List.set_cons_succ]
      refine takeH 20 40 (.bool true) calm_np rfl rfl (by kernel_rfl) (by kernel_rfl) (by kernel_rfl) (by rfl) (fun W' hSw => by go_simp) hHeld ?_
      try simp only [Act.put, List.setIfInBounds_toArray, List.set_cons_zero, List.set_cons_succ]
      refine takeH 21 41 (.bool true) calm_np rfl rfl (by kernel_rfl) (by kernel_rfl) (by kernel_rfl) (by rfl) (fun W' hSw => by go_simp) hHeld ?_
      try simp only [Act.put, List.setIfInBounds_toArray, List.set_cons_zero, List.set_cons_succ]
      refine takeH 22 42 (.bool false) calm_np rfl rfl (by kernel_rfl) (by kernel_rfl) (by kernel_rfl) (by rfl) (fun W' hSw => by go_simp) hHeld ?_
      try simp only [Act.put, List.setIfInBounds_toArray, List.set_cons_zero, List.set_cons_succ]
      refine takeH 23 43 (.bool false) calm_np rfl rfl (by kernel_rfl) (by kernel_rfl) (by kernel_rfl) (by rfl) (fun W' hSw => by go_simp) hHeld ?_
      try simp only [Act.put, List.setIfInBounds_toArray, List.set_cons_zero, List.set_cons_succ]
      refine takeH 24 44 (.bool false) calm_np rfl rfl (by kernel_rfl) (by kernel_rfl) (by kernel_rfl) (by rfl) (fun W' hSw => by go_simp) hHeld ?_
      try simp only [Act.put, List.setIfInBounds_toArray, List.set_cons_zero, List.set_cons_succ]
      refine wpAnyH_ready (rs := [25]) (by kernel_rfl) (by simp) (AllReadyH.cons rfl (fun K hK => ?_) AllReadyH.nil)
      go_simp
      refine (HAL.out _).mono ?_
      rintro e V5 ⟨rfl, hz⟩
      have hh := below_trans hHeld hz
      clear hz
      go_simp
      refine hK.out _ _ hh (fun hHeld => ?_)
      clear hK hh
      try simp only [Act.put, List.setIfInBounds_toArray, List.set_cons_zero, List.set_cons_succ]
      refine takeH 26 46 (.bool false) calm_np rfl rfl (by kernel_rfl) (by kernel_rfl) (by kernel_rfl) (by rfl) (fun W' hSw => by go_simp) hHeld ?_
      try simp only [Act.put, List.setIfInBounds_toArray, List.set_cons_zero, List.set_cons_succ]
      refine takeH 27 47 (.bool false) calm_np rfl rfl (by kernel_rfl) (by kernel_rfl) (by kernel_rfl) (by rfl) (fun W' hSw => by go_simp) hHeld ?_
      try simp only [Act.put, List.setIfInBounds_toArray, List.set_cons_zero, List.set_cons_succ]
      refine wpAnyH_done (by kernel_rfl) ?_ _
      refine NoPanic.normal ?_
      have HH := Lib.hid hHeld
      clear hHeld
      go_wp2_with fail
      go_meet
      exact ⟨rfl, HH.out⟩
    · refine wp_region_noPanic ?_
      refine wp_region_held_drew (S := fun W' => Below w1.heap.size w1 W') (by kernel_rfl) (dr w1) (fun hHeld => ?_)
      try simp only [Act.put, List.setIfInBounds_toArray, List.set_cons_zero, List.set_cons_succ]
      refine takeH 0 20 (.agg #[.int .i64 p.a, .int .i64 p.c, .int .i64 p.u, .int .i64 p.s]) calm_np rfl rfl (by kernel_rfl) (by kernel_rfl) (by kernel_rfl) (by rfl) (fun W' hSw => by obtain ⟨g0, g1, g2, g3⟩ := (HXp.out.below hSw).c4; have hsz := (HXp.out.below hSw).1; go_simp) hHeld ?_
      try simp only [Act.put, List.setIfInBounds_toArray, List.set_cons_zero, List.set_cons_succ]
      refine takeH 2 22 (.agg #[.int .i64 p.a, .int .i64 p.c, .int .i64 p.u, .int .i64 p.s]) calm_np rfl rfl (by kernel_rfl) (by kernel_rfl) (by kernel_rfl) (by rfl) (fun W' hSw => by obtain ⟨g0, g1, g2, g3⟩ := (HXp.out.below hSw).c4; have hsz := (HXp.out.below hSw).1; go_simp) hHeld ?_
      try simp only [Act.put, List.setIfInBounds_toArray, List.set_cons_zero, List.set_cons_succ]
      refine wpAnyH_ready (rs := [1]) (by kernel_rfl) (by simp) (AllReadyH.cons rfl (fun K hK => ?_) AllReadyH.nil)
      go_simp
      refine (HR.out _).mono ?_
      rintro e V1 ⟨rfl, hz⟩
      have hh := below_trans hHeld hz
      clear hz
      go_simp
      refine hK.out _ _ hh (fun hHeld => ?_)
      clear hK hh
      try simp only [Act.put, List.setIfInBounds_toArray, List.set_cons_zero, List.set_cons_succ]
      refine wpAnyH_ready (rs := [3]) (by kernel_rfl) (by simp) (AllReadyH.cons rfl (fun K hK => ?_) AllReadyH.nil)
      go_simp
      refine (Hr.out _).mono ?_
      rintro e V2 ⟨rfl, hz⟩
      have hh := below_trans hHeld hz
      clear hz
      go_simp
      refine hK.out _ _ hh (fun hHeld => ?_)
      clear hK hh
      try simp only [Act.put, List.setIfInBounds_toArray, List.set_cons_zero, List.set_cons_succ]
      refine takeH 4 24 (.bool false) calm_np rfl rfl (by kernel_rfl) (by kernel_rfl) (by kernel_rfl) (by rfl) (fun W' hSw => by go_simp) hHeld ?_
      try simp only [Act.put, List.setIfInBounds_toArray, List.set_cons_zero, List.set_cons_succ]
      refine takeH 5 25 (.bool false) calm_np rfl rfl (by kernel_rfl) (by kernel_rfl) (by kernel_rfl) (by rfl) (fun W' hSw => by go_simp) hHeld ?_
      try simp only [Act.put, List.setIfInBounds_toArray, List.set_cons_zero, List.set_cons_succ]
      refine takeH 6 26 (.agg #[.int .i64 p.a, .int .i64 p.c, .int .i64 p.u, .int .i64 p.s]) calm_np rfl rfl (by kernel_rfl) (by kernel_rfl) (by kernel_rfl) (by rfl) (fun W' hSw => by obtain ⟨g0, g1, g2, g3⟩ := (HXp.out.below hSw).c4; have hsz := (HXp.out.below hSw).1; go_simp) hHeld ?_
      try simp only [Act.put, List.setIfInBounds_toArray, List.set_cons_zero, List.set_cons_succ]
      refine takeH 7 27 (.int .i64 now) calm_np rfl rfl (by kernel_rfl) (by kernel_rfl) (by kernel_rfl) (by rfl) (fun W' hSw => by go_simp) hHeld ?_
      try simp only [Act.put, List.setIfInBounds_toArray, List.set_cons_zero, List.set_cons_succ]
      refine takeH 9 29 (.agg #[.int .i64 p.a, .int .i64 p.c, .int .i64 p.u, .int .i64 p.s]) calm_np rfl rfl (by kernel_rfl) (by kernel_rfl) (by kernel_rfl) (by rfl) (fun W' hSw => by obtain ⟨g0, g1, g2, g3⟩ := (HXp.out.below hSw).c4; have hsz := (HXp.out.below hSw).1; go_simp) hHeld ?_
      try simp only [Act.put, List.setIfInBounds_toArray, List.set_cons_zero, List.set_cons_succ]
      refine wpAnyH_ready (rs := [8]) (by kernel_rfl) (by simp) (AllReadyH.cons rfl (fun K hK => ?_) AllReadyH.nil)
      go_simp
      refine (HG.out _).mono ?_
      rintro e V3 ⟨rfl, hz⟩
      have hh := below_trans hHeld hz
      clear hz
      go_simp
      refine hK.out _ _ hh (fun hHeld => ?_)
      clear hK hh
      try simp only [Act.put, List.setIfInBounds_toArray, List.set_cons_zero, List.set_cons_succ]
      refine wpAnyH_ready (rs := [10]) (by kernel_rfl) (by simp) (AllReadyH.cons rfl (fun K hK => ?_) AllReadyH.nil)
      go_simp
      refine (Hr.out _).mono ?_
      rintro e V4 ⟨rfl, hz⟩
      have hh := below_trans hHeld hz
      clear hz
      go_simp
      refine hK.out _ _ hh (fun hHeld => ?_)
      clear hK hh
      try simp only [Act.put, List.setIfInBounds_toArray, List.set_cons_zero, List.set_cons_succ]
      refine takeH 11 31 (.bool true) calm_np rfl rfl (by kernel_rfl) (by kernel_rfl) (by kernel_rfl) (by rfl) (fun W' hSw => by go_simp) hHeld ?_
      try simp only [Act.put, List.setIfInBounds_toArray, List.set_cons_zero, List.set_cons_succ]
      refine takeH 12 32 (.pointer (some ⟨w.heap.size, 3, none⟩)) calm_np rfl rfl (by kernel_rfl) (by kernel_rfl) (by kernel_rfl) (by rfl) (fun W' hSw => by go_simp) hHeld ?_
      try simp only [Act.put, List.setIfInBounds_toArray, List.set_cons_zero, List.set_cons_succ]
      refine takeH 13 33 (.int .i64 p.s) calm_np rfl rfl (by kernel_rfl) (by kernel_rfl) (by kernel_rfl) (by rfl) (fun W' hSw => by obtain ⟨g0, g1, g2, g3⟩ := (HXp.out.below hSw).c4; have hsz := (HXp.out.below hSw).1; go_simp) hHeld ?_
      try simp only [Act.put, List.setIfInBounds_toArray, List.set_cons_zero, List.set_cons_succ]
      refine takeH 14 34 (.bool true) calm_np rfl rfl (by kernel_rfl) (by kernel_rfl) (by kernel_rfl) (by rfl) (fun W' hSw => by go_simp) hHeld ?_
      try simp only [Act.put, List.setIfInBounds_toArray, List.set_cons_zero, List.set_cons_succ]
      refine takeH 15 35 (.bool true) calm_np rfl rfl (by kernel_rfl) (by kernel_rfl) (by kernel_rfl) (by rfl) (fun W' hSw => by go_simp) hHeld ?_
      try simp only [Act.put, List.setIfInBounds_toArray, List.set_cons_zero, List.set_cons_succ]
      refine takeH 16 36 (.bool true) calm_np rfl rfl (by kernel_rfl) (by kernel_rfl) (by kernel_rfl) (by rfl) (fun W' hSw => by go_simp) hHeld ?_
      try simp only [Act.put, List.setIfInBounds_toArray, List.set_cons_zero, List.set_cons_succ]
      refine takeH 17 37 (.pointer (some ⟨w.heap.size, 2, none⟩)) calm_np rfl rfl (by kernel_rfl) (by kernel_rfl) (by kernel_rfl) (by rfl) (fun W' hSw => by go_simp) hHeld ?_
      try simp only [Act.put, List.setIfInBounds_toArray, List.set_cons_zero, List.set_cons_succ]
      refine takeH 18 38 (.int .i64 p.u) calm_np rfl rfl (by kernel_rfl) (by kernel_rfl) (by kernel_rfl) (by rfl) (fun W' hSw => by obtain ⟨g0, g1, g2, g3⟩ := (HXp.out.below hSw).c4; have hsz := (HXp.out.below hSw).1; go_simp) hHeld ?_
      try simp only [Act.put, List.setIfInBounds_toArray, List.set_cons_zero, List.set_cons_succ]
      refine takeH 19 39 (.int .i64 now) calm_np rfl rfl (by kernel_rfl) (by kernel_rfl) (by kernel_rfl) (by rfl) (fun W' hSw => by go_simp) hHeld ?_
      try simp only [Act.put, List.setIfInBounds_toArray, List.set_cons_zero, List.set_cons_succ]
      refine takeH 20 40 (.bool false) calm_np rfl rfl (by kernel_rfl) (by kernel_rfl) (by kernel_rfl) (by rfl) (fun W' hSw => by go_simp) hHeld ?_
      try simp only [Act.put, List.setIfInBounds_toArray, List.set_cons_zero, List.set_cons_succ]
      refine takeH 21 41 (.bool false) calm_np rfl rfl (by kernel_rfl) (by kernel_rfl) (by kernel_rfl) (by rfl) (fun W' hSw => by go_simp) hHeld ?_
      try simp only [Act.put, List.setIfInBounds_toArray, List.set_cons_zero, List.set_cons_succ]
      refine takeH 22 42 (.bool false) calm_np rfl rfl (by kernel_rfl) (by kernel_rfl) (by kernel_rfl) (by rfl) (fun W' hSw => by go_simp) hHeld ?_
      try simp only [Act.put, List.setIfInBounds_toArray, List.set_cons_zero, List.set_cons_succ]
      refine takeH 23 43 (.bool false) calm_np rfl rfl (by kernel_rfl) (by kernel_rfl) (by kernel_rfl) (by rfl) (fun W' hSw => by go_simp) hHeld ?_
      try simp only [Act.put, List.setIfInBounds_toArray, List.set_cons_zero, List.set_cons_succ]
      refine takeH 24 44 (.bool false) calm_np rfl rfl (by kernel_rfl) (by kernel_rfl) (by kernel_rfl) (by rfl) (fun W' hSw => by go_simp) hHeld ?_
      try simp only [Act.put, List.setIfInBounds_toArray, List.set_cons_zero, List.set_cons_succ]
      refine wpAnyH_ready (rs := [25]) (by kernel_rfl) (by simp) (AllReadyH.cons rfl (fun K hK => ?_) AllReadyH.nil)
      go_simp
      refine (HAL.out _).mono ?_
      rintro e V5 ⟨rfl, hz⟩
      have hh := below_trans hHeld hz
      clear hz
      go_simp
      refine hK.out _ _ hh (fun hHeld => ?_)
      clear hK hh
      try simp only [Act.put, List.setIfInBounds_toArray, List.set_cons_zero, List.set_cons_succ]
      refine takeH 26 46 (.bool false) calm_np rfl rfl (by kernel_rfl) (by kernel_rfl) (by kernel_rfl) (by rfl) (fun W' hSw => by go_simp) hHeld ?_
      try simp only [Act.put, List.setIfInBounds_toArray, List.set_cons_zero, List.set_cons_succ]
      refine takeH 27 47 (.bool false) calm_np rfl rfl (by kernel_rfl) (by kernel_rfl) (by kernel_rfl) (by rfl) (fun W' hSw => by go_simp) hHeld ?_
      try simp only [Act.put, List.setIfInBounds_toArray, List.set_cons_zero, List.set_cons_succ]
      refine wpAnyH_done (by kernel_rfl) ?_ _
      refine NoPanic.normal ?_
      have HH := Lib.hid hHeld
      clear hHeld
      go_wp2_with fail
      go_meet
      exact ⟨rfl, HH.out⟩
  case rest =>
  obtain ⟨hz, hbe⟩ := hcut
  subst hz
  rename World => W2
  obtain ⟨x0, x1, x2, x3⟩ := (HXx.out.below hbe).c4
  have xs := (HXx.out.below hbe).1
  have HE := Lib.hid (below_trans HB.out hbe)
  clear hbe HXp HXx HB HW HR Hr HG HAL HN
  rcases HNW.out with ⟨h, h1, h2⟩ | ⟨u1, u2, u3, h3, h1, h2⟩ | ⟨u1, u2, u3, h3, h4, h1, h2⟩
  · have hq := fun W => eql_yes h2 W
    unfold noP at hq
    dsimp only at hq
    have hf : (f == 1) = true := by simpa using h1
    have HNO : Hid (¬ (b1 = true ∧ b2 = true ∧ b3 = true)) := Lib.hid (fun hb => h ⟨HB1.out.1 hb.1, HB2.out.1 hb.2.1, HB3.out.1 hb.2.2⟩)
    clear h h1 h2 HB1 HB2 HB3 HNW
    cases b1 with
    | false =>
      clear HNO
      go_wp2_with (first | (go_at_call 12; (with_reducible refine (HI1.out _).mono ?_); rintro e w' ⟨rfl, rfl⟩) | (go_at_call 12; (with_reducible refine (HI2.out _).mono ?_); rintro e w' ⟨rfl, rfl⟩) | (go_at_call 12; (with_reducible refine (HI3.out _).mono ?_); rintro e w' ⟨rfl, rfl⟩))
      go_ret
      exact ⟨rfl, HE.out⟩
    | true =>
      cases b2 with
      | false =>
        clear HNO
        go_wp2_with (first | (go_at_call 12; (with_reducible refine (HI1.out _).mono ?_); rintro e w' ⟨rfl, rfl⟩) | (go_at_call 12; (with_reducible refine (HI2.out _).mono ?_); rintro e w' ⟨rfl, rfl⟩) | (go_at_call 12; (with_reducible refine (HI3.out _).mono ?_); rintro e w' ⟨rfl, rfl⟩))
        go_ret
        exact ⟨rfl, HE.out⟩
      | true =>
        cases b3 with
        | false =>
          clear HNO
          go_wp2_with (first | (go_at_call 12; (with_reducible refine (HI1.out _).mono ?_); rintro e w' ⟨rfl, rfl⟩) | (go_at_call 12; (with_reducible refine (HI2.out _).mono ?_); rintro e w' ⟨rfl, rfl⟩) | (go_at_call 12; (with_reducible refine (HI3.out _).mono ?_); rintro e w' ⟨rfl, rfl⟩))
          go_ret
          exact ⟨rfl, HE.out⟩
        | true => exact absurd ⟨rfl, rfl, rfl⟩ HNO.out
  · have hq := fun W => eql_yes h2 W
    unfold noP at hq
    dsimp only at hq
    have hf : (f == 2) = true := by simpa using h1
    obtain rfl : b1 = true := HB1.out.2 u1
    obtain rfl : b2 = true := HB2.out.2 u2
    obtain rfl : b3 = true := HB3.out.2 u3
    have hq0 : q ≠ 0 := by have := u2.1; omega
    have hdv : n > Int.tdiv 1125899906842624 q := by
      rw [Int.tdiv_eq_ediv_of_nonneg (by omega)]
      exact (over_div u2).2 h3
    have hdb : 0 ≤ Int.tdiv 1125899906842624 q := Int.tdiv_nonneg (by omega) (by have := u2.1; omega)
    have hdn := u1.2
    generalize hD : Int.tdiv 1125899906842624 q = D at *
    have hD2 : D ≤ 1073741824 := by omega
    clear u1 u2 u3 h1 h2 h3 HB1 HB2 HB3 HNW
    go_wp2_with (first | (go_at_call 12; (with_reducible refine (HI1.out _).mono ?_); rintro e w' ⟨rfl, rfl⟩) | (go_at_call 12; (with_reducible refine (HI2.out _).mono ?_); rintro e w' ⟨rfl, rfl⟩) | (go_at_call 12; (with_reducible refine (HI3.out _).mono ?_); rintro e w' ⟨rfl, rfl⟩))
    go_ret
    exact ⟨rfl, HE.out⟩
  · have hq := fun W => eql_yes h2 W
    dsimp only at hq
    have hf : (f == 0) = true := by simpa using h1
    obtain rfl : b1 = true := HB1.out.2 u1
    obtain rfl : b2 = true := HB2.out.2 u2
    obtain rfl : b3 = true := HB3.out.2 u3
    have hq0 : q ≠ 0 := by have := u2.1; omega
    have hdv : ¬ n > Int.tdiv 1125899906842624 q := by
      rw [Int.tdiv_eq_ediv_of_nonneg (by omega)]
      intro h
      have := (over_div u2).1 h
      omega
    have hdb : 0 ≤ Int.tdiv 1125899906842624 q := Int.tdiv_nonneg (by omega) (by have := u2.1; omega)
    have hdc : Int.tdiv 1125899906842624 q ≤ 1125899906842624 := by
      rw [Int.tdiv_eq_ediv_of_nonneg (by omega)]
      exact Int.ediv_le_self _ (by omega)
    obtain ⟨m, hm⟩ : ∃ m, n * q = m := ⟨_, rfl⟩
    rw [hm] at h3 h4 hq
    generalize hD : Int.tdiv 1125899906842624 q = D at *
    clear u1 u2 u3 h1 h2 HB1 HB2 HB3 HNW
    go_wp2_with (first | (go_at_call 12; (with_reducible refine (HI1.out _).mono ?_); rintro e w' ⟨rfl, rfl⟩) | (go_at_call 12; (with_reducible refine (HI2.out _).mono ?_); rintro e w' ⟨rfl, rfl⟩) | (go_at_call 12; (with_reducible refine (HI3.out _).mono ?_); rintro e w' ⟨rfl, rfl⟩))
    go_ret
    exact ⟨rfl, HE.out⟩

set_option maxRecDepth 100000 in
set_option maxHeartbeats 4000000 in
theorem lifted (os : Os) (started : os.Started) (H : Type) (enc : TypeId × Value → H) :
    ReturnsInHanded {} Try.checked os 3 .any (Rows.payBeginsSpec.pre6 enc Try.prog Try.f3 Rows.payBeginsRow.domain false) (Rows.payBeginsSpec.post enc Try.prog Try.f3 false true false false) := by
  refine returnsInHanded_of_change (C := Try.checked) own started (by kernel_rfl) Try.func3
    (ChangeSpec.witness6 (enc := enc) (C := Try.checked) false ⟨#[], #[.int .i64 0, .int .i64 0, .int .i64 0, .agg #[.int .i64 0, .int .i64 0, .int .i64 0, .int .i64 0], .int .i64 0], []⟩ 8 (by kernel_rfl) (by kernel_rfl) (by kernel_rfl) (by kernel_rfl)) ?_
  intro W base args ds gs before hval0 hW hcnd _
  have hval : ∀ (j : Nat) t v, Try.f3.params[j]? = some t → args[j]? = some v → Value.okWide Try.prog W .any base t v := hval0
  have hW' := hW
  obtain ⟨p, q, hA0, hV, rfl, hfz, hnd⟩ := hW
  have hA : DataW.TrodAll enc Try.prog W 0 (fun _ => true) true Try.f3.params.toList args.toList ds p := hA0
  rw [Try.params3] at hA hval
  obtain ⟨v0, vs0, d0, ds0, p0, q0, hargs, rfl, rfl, h0, r0⟩ := trodAll_cons hA
  obtain ⟨v1, vs1, d1, ds1, p1, q1, rfl, rfl, rfl, h1, r1⟩ := trodAll_cons r0
  obtain ⟨v2, vs2, d2, ds2, p2, q2, rfl, rfl, rfl, h2, r2⟩ := trodAll_cons r1
  obtain ⟨v3, vs3, d3, ds3, p3, q3, rfl, rfl, rfl, h3, r3⟩ := trodAll_cons r2
  obtain ⟨v4, vs4, d4, ds4, p4, q4, rfl, rfl, rfl, h4, r4⟩ := trodAll_cons r3
  obtain ⟨rfl, rfl, rfl⟩ := trodAll_nil r4
  obtain rfl : args = #[v0, v1, v2, v3, v4] := by cases args; simp_all
  obtain ⟨rfl, rfl⟩ := trodVars_none hV
  obtain ⟨a0, rfl, rfl, rfl, w0⟩ := open_int Try.underlying3 (hval 0 3 v0 rfl rfl) h0
  have hb0 : -9223372036854775808 ≤ a0 ∧ a0 ≤ 9223372036854775807 := by
    have := w0
    simp [Lit.wf, IntKind.min, IntKind.max, IntKind.bits, IntKind.signed] at this
    omega
  obtain ⟨a1, rfl, rfl, rfl, w1⟩ := open_int Try.underlying3 (hval 1 3 v1 rfl rfl) h1
  have hb1 : -9223372036854775808 ≤ a1 ∧ a1 ≤ 9223372036854775807 := by
    have := w1
    simp [Lit.wf, IntKind.min, IntKind.max, IntKind.bits, IntKind.signed] at this
    omega
  obtain ⟨a2, rfl, rfl, rfl, w2⟩ := open_int Try.underlying3 (hval 2 3 v2 rfl rfl) h2
  have hb2 : -9223372036854775808 ≤ a2 ∧ a2 ≤ 9223372036854775807 := by
    have := w2
    simp [Lit.wf, IntKind.min, IntKind.max, IntKind.bits, IntKind.signed] at this
    omega
  have k3 := h3
  have lt3 : ∀ x ∈ p3, x.block < W.heap.size := by obtain ⟨m, hm⟩ := k3; exact DataW.trod_lt m _ _ _ hm
  obtain ⟨fuel3, hf3⟩ := h3
  obtain ⟨x3, rfl⟩ := open_pay (hval 3 23 v3 rfl rfl) hf3
  obtain ⟨a4, rfl, rfl, rfl, w4⟩ := open_int Try.underlying3 (hval 4 3 v4 rfl rfl) h4
  have hb4 : -9223372036854775808 ≤ a4 ∧ a4 ≤ 9223372036854775807 := by
    have := w4
    simp [Lit.wf, IntKind.min, IntKind.max, IntKind.bits, IntKind.signed] at this
    omega
  clear hA0 hval0
  refine (walk0 a0 hb0.1 hb0.2 a1 hb1.1 hb1.2 a2 hb2.1 hb2.2 x3 a4 hb4.1 hb4.2 W ).mono fun e W' ⟨he, bel⟩ => ?_
  subst he
  exact ⟨_, rfl, _, _, _, [], _, [], hW', trodAll_mk1 (shut_bool Try.underlying4 _), (trodAll_cons_mk (shut_int Try.underlying3 w0) (trodAll_cons_mk (shut_int Try.underlying3 w1) (trodAll_cons_mk (shut_int Try.underlying3 w2) (trodAll_cons_mk (Below.trod laidOut (by kernel_rfl) (of_decide_eq_true (by kernel_rfl)) k3 bel lt3) (trodAll_cons_mk (shut_int Try.underlying3 w4) trodAll_mk0))))), rfl, bel.frame _, fun h => by cases h⟩

theorem over : Rows.payBeginsRow.holds Try.pinned (OpenSpec.ofChange Rows.payBeginsSpec) :=
  OpenClaim.holds_of_wide 3 Try.f3 rfl rfl rfl rfl rfl rfl rfl ⟨rfl, rfl, rfl, rfl, rfl⟩ rfl rfl rfl rfl rfl (by kernel_rfl) Try.func3 (by kernel_rfl)
    (of_decide_eq_true (by kernel_rfl)) (by unfold Func.isWrapper; first | (rw [if_pos (by decide +kernel)]; kernel_rfl) | (rw [if_neg (by decide +kernel)]; exact ⟨rfl, rfl⟩))
    (fun os started H enc _ => lifted os started H enc)

theorem proved : Rows.PayBeginsSaid := over
#print axioms proved
end Go.Proofs.Ytfegnaafodcnlaa.payBegins
