/-
  Contracts of package order: phaseMayBe, Right, Lack, Open.
-/
import Derived.Test.YtjmmijobdcepmaaORight
namespace Go.Proofs.Ytjmmijobdcepmaa.Order
open Go.ChangeShapes Go.WideShapes Go.ChangeAt Go.RowKit
open Go.Proofs.Ytjmmijobdcepmaa.Pay (Py RightP UnitP TimeP GoodP)
open Go.Proofs.Ytjmmijobdcepmaa.Ask (As RightA)
open Go.Proofs.Ytjmmijobdcepmaa.Goods (nameB)

/-- What is asked of its phase. -/
theorem phase_ways (o : Od) : (¬ 1 ≤ o.ph ∧ decide (PhaseP o) = false) ∨ (1 ≤ o.ph ∧ ¬ o.ph ≤ 5 ∧ decide (PhaseP o) = false) ∨ (o.ph = 1 ∧ decide (PhaseP o) = (decide (o.d < o.n) && (decide (BareP o) && !(o.py.s == 3)))) ∨ (o.ph = 2 ∧ decide (PhaseP o) = (decide (LoadP o) && !(o.py.s == 3))) ∨
    (o.ph = 3 ∧ decide (PhaseP o) = ((o.d == o.n) && (decide (BareP o) && (o.py.s == 3)))) ∨ (o.ph = 4 ∧ decide (PhaseP o) = (decide (0 < o.d) && (decide (o.d < o.n) && (decide (BareP o) && (o.py.s == 3))))) ∨ (o.ph = 5 ∧ decide (PhaseP o) = ((o.d == 0) && (decide (BareP o) && (o.py.s == 3)))) := by
  by_cases h1 : 1 ≤ o.ph
  · by_cases h2 : o.ph ≤ 5
    · obtain h | h | h | h | h : o.ph = 1 ∨ o.ph = 2 ∨ o.ph = 3 ∨ o.ph = 4 ∨ o.ph = 5 := by omega
      · refine .inr (.inr (.inl ⟨h, ?_⟩))
        have e : PhaseP o ↔ (o.d < o.n ∧ BareP o ∧ o.py.s ≠ 3) := by unfold PhaseP; rw [h]; simp
        rw [Bool.eq_iff_iff, decide_eq_true_iff, e]; simp
      · refine .inr (.inr (.inr (.inl ⟨h, ?_⟩)))
        have e : PhaseP o ↔ (LoadP o ∧ o.py.s ≠ 3) := by unfold PhaseP; rw [h]; simp
        rw [Bool.eq_iff_iff, decide_eq_true_iff, e]; simp
      · refine .inr (.inr (.inr (.inr (.inl ⟨h, ?_⟩))))
        have e : PhaseP o ↔ (o.d = o.n ∧ BareP o ∧ o.py.s = 3) := by unfold PhaseP; rw [h]; simp
        rw [Bool.eq_iff_iff, decide_eq_true_iff, e]; simp
      · refine .inr (.inr (.inr (.inr (.inr (.inl ⟨h, ?_⟩)))))
        have e : PhaseP o ↔ (0 < o.d ∧ o.d < o.n ∧ BareP o ∧ o.py.s = 3) := by unfold PhaseP; rw [h]; simp
        rw [Bool.eq_iff_iff, decide_eq_true_iff, e]; simp
      · refine .inr (.inr (.inr (.inr (.inr (.inr ⟨h, ?_⟩)))))
        have e : PhaseP o ↔ (o.d = 0 ∧ BareP o ∧ o.py.s = 3) := by unfold PhaseP; rw [h]; simp
        rw [Bool.eq_iff_iff, decide_eq_true_iff, e]; simp
    · exact .inr (.inl ⟨h1, h2, decide_eq_false (fun h => by unfold PhaseP at h; omega)⟩)
  · exact .inl ⟨h1, decide_eq_false (fun h => by unfold PhaseP at h; omega)⟩
theorem index1 {i : Int} (hi : i = 1) (W : World) : (Instr.index 77 (.agg #[.nilFunc, .func (.func 61) #[] #[], .func (.func 64) #[] #[], .func (.func 66) #[] #[], .func (.func 67) #[] #[], .func (.func 68) #[] #[]]) (.int .i64 i)).run Try.prog W = .ok (.func (.func 61) #[] #[]) W := by
  subst hi
  first | kernel_rfl | simp [Instr.index, go_sem]
theorem index2 {i : Int} (hi : i = 2) (W : World) : (Instr.index 77 (.agg #[.nilFunc, .func (.func 61) #[] #[], .func (.func 64) #[] #[], .func (.func 66) #[] #[], .func (.func 67) #[] #[], .func (.func 68) #[] #[]]) (.int .i64 i)).run Try.prog W = .ok (.func (.func 64) #[] #[]) W := by
  subst hi
  first | kernel_rfl | simp [Instr.index, go_sem]
theorem index3 {i : Int} (hi : i = 3) (W : World) : (Instr.index 77 (.agg #[.nilFunc, .func (.func 61) #[] #[], .func (.func 64) #[] #[], .func (.func 66) #[] #[], .func (.func 67) #[] #[], .func (.func 68) #[] #[]]) (.int .i64 i)).run Try.prog W = .ok (.func (.func 66) #[] #[]) W := by
  subst hi
  first | kernel_rfl | simp [Instr.index, go_sem]
theorem index4 {i : Int} (hi : i = 4) (W : World) : (Instr.index 77 (.agg #[.nilFunc, .func (.func 61) #[] #[], .func (.func 64) #[] #[], .func (.func 66) #[] #[], .func (.func 67) #[] #[], .func (.func 68) #[] #[]]) (.int .i64 i)).run Try.prog W = .ok (.func (.func 67) #[] #[]) W := by
  subst hi
  first | kernel_rfl | simp [Instr.index, go_sem]
theorem index5 {i : Int} (hi : i = 5) (W : World) : (Instr.index 77 (.agg #[.nilFunc, .func (.func 61) #[] #[], .func (.func 64) #[] #[], .func (.func 66) #[] #[], .func (.func 67) #[] #[], .func (.func 68) #[] #[]]) (.int .i64 i)).run Try.prog W = .ok (.func (.func 68) #[] #[]) W := by
  subst hi
  first | kernel_rfl | simp [Instr.index, go_sem]
set_option maxRecDepth 100000 in
set_option maxHeartbeats 4000000 in
theorem phaseMayBe_any (o : Od) (h : NumP o) (hk : o.l.k.size ≤ 1000000) (w : World) : Calls Try.prog 36 #[ov o] w (BoolB (decide (PhaseP o)) w) := by
  have hx := order_box w o 29
  have hb := al w (.cells (ocs o).toArray 29)
  obtain ⟨W1, hW1⟩ : ∃ W, w.alloc (.cells (ocs o).toArray 29) = W := ⟨_, rfl⟩
  have HX : Hid (Box w.heap.size (ocs o) W1) := Lib.hid (hW1 ▸ hx)
  have HB : Hid (Below w.heap.size w W1) := Lib.hid (hW1 ▸ hb)
  clear hx hb
  have HP := Lib.hid phases_any
  have H1 := Lib.hid (phase1_any o)
  have H2 := Lib.hid (phase2_any o h hk)
  have H3 := Lib.hid (phase3_any o)
  have H4 := Lib.hid (phase4_any o)
  have H5 := Lib.hid (phase5_any o)
  have HW := Lib.hid (phase_ways o)
  generalize decide (PhaseP o) = m at HW ⊢
  generalize (decide (o.d < o.n) && (decide (BareP o) && !(o.py.s == 3))) = b1 at HW H1
  generalize (decide (LoadP o) && !(o.py.s == 3)) = b2 at HW H2
  generalize ((o.d == o.n) && (decide (BareP o) && (o.py.s == 3))) = b3 at HW H3
  generalize (decide (0 < o.d) && (decide (o.d < o.n) && (decide (BareP o) && (o.py.s == 3)))) = b4 at HW H4
  generalize ((o.d == 0) && (decide (BareP o) && (o.py.s == 3))) = b5 at HW H5
  clear h hk
  unfold ocs at hW1
  unfold ov at H1 H2 H3 H4 H5 ⊢
  go_enter Try.func36, Try.ntmps36
  go_upto_region 1 with (fail)
  clear hW1
  rcases HW.out with ⟨h1, rfl⟩ | ⟨h1, h2, rfl⟩ | ⟨h1, rfl⟩ | ⟨h1, rfl⟩ | ⟨h1, rfl⟩ | ⟨h1, rfl⟩ | ⟨h1, rfl⟩
  · refine wp_region_noPanic ?_
    refine wp_region_held_drew (S := fun W' => Below W1.heap.size W1 W') (by kernel_rfl) (dr W1) (fun hHeld => ?_)
    try simp only [Act.put, List.setIfInBounds_toArray, List.set_cons_zero, List.set_cons_succ]
    refine takeH 0 3 (.pointer (some ⟨w.heap.size, 9, none⟩)) calm_np rfl rfl (by kernel_rfl) (by kernel_rfl) (by kernel_rfl) (by rfl) (fun W' hSw => by go_simp) hHeld ?_
    try simp only [Act.put, List.setIfInBounds_toArray, List.set_cons_zero, List.set_cons_succ]
    refine takeH 1 4 (.int .i64 o.ph) calm_np rfl rfl (by kernel_rfl) (by kernel_rfl) (by kernel_rfl) (by rfl) (fun W' hSw => by have g0 := (HX.out.below hSw).at 9 rfl; have hsz := (HX.out.below hSw).1; go_simp) hHeld ?_
    try simp only [Act.put, List.setIfInBounds_toArray, List.set_cons_zero, List.set_cons_succ]
    refine takeH 2 5 (.bool false) calm_np rfl rfl (by kernel_rfl) (by kernel_rfl) (by kernel_rfl) (by rfl) (fun W' hSw => by go_simp) hHeld ?_
    try simp only [Act.put, List.setIfInBounds_toArray, List.set_cons_zero, List.set_cons_succ]
    refine takeH 3 6 (.bool false) calm_np rfl rfl (by kernel_rfl) (by kernel_rfl) (by kernel_rfl) (by rfl) (fun W' hSw => by go_simp) hHeld ?_
    try simp only [Act.put, List.setIfInBounds_toArray, List.set_cons_zero, List.set_cons_succ]
    refine skipH 4 7 calm_np rfl rfl (by kernel_rfl) (by kernel_rfl) (by kernel_rfl) (by rfl) hHeld ?_
    try simp only [Act.put, List.setIfInBounds_toArray, List.set_cons_zero, List.set_cons_succ]
    refine skipH 5 8 calm_np rfl rfl (by kernel_rfl) (by kernel_rfl) (by kernel_rfl) (by rfl) hHeld ?_
    try simp only [Act.put, List.setIfInBounds_toArray, List.set_cons_zero, List.set_cons_succ]
    refine skipH 6 9 calm_np rfl rfl (by kernel_rfl) (by kernel_rfl) (by kernel_rfl) (by rfl) hHeld ?_
    try simp only [Act.put, List.setIfInBounds_toArray, List.set_cons_zero, List.set_cons_succ]
    refine takeH 7 10 (.bool false) calm_np rfl rfl (by kernel_rfl) (by kernel_rfl) (by kernel_rfl) (by rfl) (fun W' hSw => by go_simp) hHeld ?_
    try simp only [Act.put, List.setIfInBounds_toArray, List.set_cons_zero, List.set_cons_succ]
    refine takeH 8 11 (.bool false) calm_np rfl rfl (by kernel_rfl) (by kernel_rfl) (by kernel_rfl) (by rfl) (fun W' hSw => by go_simp) hHeld ?_
    try simp only [Act.put, List.setIfInBounds_toArray, List.set_cons_zero, List.set_cons_succ]
    refine skipH 9 12 calm_np rfl rfl (by kernel_rfl) (by kernel_rfl) (by kernel_rfl) (by rfl) hHeld ?_
    try simp only [Act.put, List.setIfInBounds_toArray, List.set_cons_zero, List.set_cons_succ]
    refine skipH 10 13 calm_np rfl rfl (by kernel_rfl) (by kernel_rfl) (by kernel_rfl) (by rfl) hHeld ?_
    try simp only [Act.put, List.setIfInBounds_toArray, List.set_cons_zero, List.set_cons_succ]
    refine skipH 11 14 calm_np rfl rfl (by kernel_rfl) (by kernel_rfl) (by kernel_rfl) (by rfl) hHeld ?_
    try simp only [Act.put, List.setIfInBounds_toArray, List.set_cons_zero, List.set_cons_succ]
    refine skipH 12 15 calm_np rfl rfl (by kernel_rfl) (by kernel_rfl) (by kernel_rfl) (by rfl) hHeld ?_
    try simp only [Act.put, List.setIfInBounds_toArray, List.set_cons_zero, List.set_cons_succ]
    refine skipH 13 16 calm_np rfl rfl (by kernel_rfl) (by kernel_rfl) (by kernel_rfl) (by rfl) hHeld ?_
    try simp only [Act.put, List.setIfInBounds_toArray, List.set_cons_zero, List.set_cons_succ]
    refine skipH 14 17 calm_np rfl rfl (by kernel_rfl) (by kernel_rfl) (by kernel_rfl) (by rfl) hHeld ?_
    try simp only [Act.put, List.setIfInBounds_toArray, List.set_cons_zero, List.set_cons_succ]
    refine takeH 15 18 (.bool false) calm_np rfl rfl (by kernel_rfl) (by kernel_rfl) (by kernel_rfl) (by rfl) (fun W' hSw => by go_simp) hHeld ?_
    try simp only [Act.put, List.setIfInBounds_toArray, List.set_cons_zero, List.set_cons_succ]
    refine takeH 16 2 (.bool false) calm_np rfl rfl (by kernel_rfl) (by kernel_rfl) (by kernel_rfl) (by rfl) (fun W' hSw => by go_simp) hHeld ?_
    try simp only [Act.put, List.setIfInBounds_toArray, List.set_cons_zero, List.set_cons_succ]
    refine wpAnyH_done (by kernel_rfl) ?_ _
    refine NoPanic.normal ?_
    have HH := Lib.hid hHeld
    clear hHeld
    go_wp2_with fail
    go_ret
    exact ⟨rfl, below_trans HB.out HH.out⟩
  · refine wp_region_noPanic ?_
    refine wp_region_held_drew (S := fun W' => Below W1.heap.size W1 W') (by kernel_rfl) (dr W1) (fun hHeld => ?_)
    try simp only [Act.put, List.setIfInBounds_toArray, List.set_cons_zero, List.set_cons_succ]
    refine takeH 0 3 (.pointer (some ⟨w.heap.size, 9, none⟩)) calm_np rfl rfl (by kernel_rfl) (by kernel_rfl) (by kernel_rfl) (by rfl) (fun W' hSw => by go_simp) hHeld ?_
    try simp only [Act.put, List.setIfInBounds_toArray, List.set_cons_zero, List.set_cons_succ]
    refine takeH 1 4 (.int .i64 o.ph) calm_np rfl rfl (by kernel_rfl) (by kernel_rfl) (by kernel_rfl) (by rfl) (fun W' hSw => by have g0 := (HX.out.below hSw).at 9 rfl; have hsz := (HX.out.below hSw).1; go_simp) hHeld ?_
    try simp only [Act.put, List.setIfInBounds_toArray, List.set_cons_zero, List.set_cons_succ]
    refine takeH 2 5 (.bool true) calm_np rfl rfl (by kernel_rfl) (by kernel_rfl) (by kernel_rfl) (by rfl) (fun W' hSw => by go_simp) hHeld ?_
    try simp only [Act.put, List.setIfInBounds_toArray, List.set_cons_zero, List.set_cons_succ]
    refine takeH 3 6 (.bool true) calm_np rfl rfl (by kernel_rfl) (by kernel_rfl) (by kernel_rfl) (by rfl) (fun W' hSw => by go_simp) hHeld ?_
    try simp only [Act.put, List.setIfInBounds_toArray, List.set_cons_zero, List.set_cons_succ]
    refine takeH 4 7 (.pointer (some ⟨w.heap.size, 9, none⟩)) calm_np rfl rfl (by kernel_rfl) (by kernel_rfl) (by kernel_rfl) (by rfl) (fun W' hSw => by go_simp) hHeld ?_
    try simp only [Act.put, List.setIfInBounds_toArray, List.set_cons_zero, List.set_cons_succ]
    refine takeH 5 8 (.int .i64 o.ph) calm_np rfl rfl (by kernel_rfl) (by kernel_rfl) (by kernel_rfl) (by rfl) (fun W' hSw => by have g0 := (HX.out.below hSw).at 9 rfl; have hsz := (HX.out.below hSw).1; go_simp) hHeld ?_
    try simp only [Act.put, List.setIfInBounds_toArray, List.set_cons_zero, List.set_cons_succ]
    refine takeH 6 9 (.bool false) calm_np rfl rfl (by kernel_rfl) (by kernel_rfl) (by kernel_rfl) (by rfl) (fun W' hSw => by go_simp) hHeld ?_
    try simp only [Act.put, List.setIfInBounds_toArray, List.set_cons_zero, List.set_cons_succ]
    refine takeH 7 10 (.bool false) calm_np rfl rfl (by kernel_rfl) (by kernel_rfl) (by kernel_rfl) (by rfl) (fun W' hSw => by go_simp) hHeld ?_
    try simp only [Act.put, List.setIfInBounds_toArray, List.set_cons_zero, List.set_cons_succ]
    refine takeH 8 11 (.bool false) calm_np rfl rfl (by kernel_rfl) (by kernel_rfl) (by kernel_rfl) (by rfl) (fun W' hSw => by go_simp) hHeld ?_
    try simp only [Act.put, List.setIfInBounds_toArray, List.set_cons_zero, List.set_cons_succ]
    refine skipH 9 12 calm_np rfl rfl (by kernel_rfl) (by kernel_rfl) (by kernel_rfl) (by rfl) hHeld ?_
    try simp only [Act.put, List.setIfInBounds_toArray, List.set_cons_zero, List.set_cons_succ]
    refine skipH 10 13 calm_np rfl rfl (by kernel_rfl) (by kernel_rfl) (by kernel_rfl) (by rfl) hHeld ?_
    try simp only [Act.put, List.setIfInBounds_toArray, List.set_cons_zero, List.set_cons_succ]
    refine skipH 11 14 calm_np rfl rfl (by kernel_rfl) (by kernel_rfl) (by kernel_rfl) (by rfl) hHeld ?_
    try simp only [Act.put, List.setIfInBounds_toArray, List.set_cons_zero, List.set_cons_succ]
    refine skipH 12 15 calm_np rfl rfl (by kernel_rfl) (by kernel_rfl) (by kernel_rfl) (by rfl) hHeld ?_
    try simp only [Act.put, List.setIfInBounds_toArray, List.set_cons_zero, List.set_cons_succ]
    refine skipH 13 16 calm_np rfl rfl (by kernel_rfl) (by kernel_rfl) (by kernel_rfl) (by rfl) hHeld ?_
    try simp only [Act.put, List.setIfInBounds_toArray, List.set_cons_zero, List.set_cons_succ]
    refine skipH 14 17 calm_np rfl rfl (by kernel_rfl) (by kernel_rfl) (by kernel_rfl) (by rfl) hHeld ?_
    try simp only [Act.put, List.setIfInBounds_toArray, List.set_cons_zero, List.set_cons_succ]
    refine takeH 15 18 (.bool false) calm_np rfl rfl (by kernel_rfl) (by kernel_rfl) (by kernel_rfl) (by rfl) (fun W' hSw => by go_simp) hHeld ?_
    try simp only [Act.put, List.setIfInBounds_toArray, List.set_cons_zero, List.set_cons_succ]
    refine takeH 16 2 (.bool false) calm_np rfl rfl (by kernel_rfl) (by kernel_rfl) (by kernel_rfl) (by rfl) (fun W' hSw => by go_simp) hHeld ?_
    try simp only [Act.put, List.setIfInBounds_toArray, List.set_cons_zero, List.set_cons_succ]
    refine wpAnyH_done (by kernel_rfl) ?_ _
    refine NoPanic.normal ?_
    have HH := Lib.hid hHeld
    clear hHeld
    go_wp2_with fail
    go_ret
    exact ⟨rfl, below_trans HB.out HH.out⟩
  · have HC : Hid (o.ph = 1) := Lib.hid h1
    have a1 : 1 ≤ o.ph := by omega
    have a2 : o.ph ≤ 5 := by omega
    clear h1
    refine wp_region_noPanic ?_
    refine wp_region_held_drew (S := fun W' => Below W1.heap.size W1 W') (by kernel_rfl) (dr W1) (fun hHeld => ?_)
    try simp only [Act.put, List.setIfInBounds_toArray, List.set_cons_zero, List.set_cons_succ]
    refine takeH 0 3 (.pointer (some ⟨w.heap.size, 9, none⟩)) calm_np rfl rfl (by kernel_rfl) (by kernel_rfl) (by kernel_rfl) (by rfl) (fun W' hSw => by go_simp) hHeld ?_
    try simp only [Act.put, List.setIfInBounds_toArray, List.set_cons_zero, List.set_cons_succ]
    refine takeH 1 4 (.int .i64 o.ph) calm_np rfl rfl (by kernel_rfl) (by kernel_rfl) (by kernel_rfl) (by rfl) (fun W' hSw => by have g0 := (HX.out.below hSw).at 9 rfl; have hsz := (HX.out.below hSw).1; go_simp) hHeld ?_
    try simp only [Act.put, List.setIfInBounds_toArray, List.set_cons_zero, List.set_cons_succ]
    refine takeH 2 5 (.bool true) calm_np rfl rfl (by kernel_rfl) (by kernel_rfl) (by kernel_rfl) (by rfl) (fun W' hSw => by go_simp) hHeld ?_
    try simp only [Act.put, List.setIfInBounds_toArray, List.set_cons_zero, List.set_cons_succ]
    refine takeH 3 6 (.bool true) calm_np rfl rfl (by kernel_rfl) (by kernel_rfl) (by kernel_rfl) (by rfl) (fun W' hSw => by go_simp) hHeld ?_
    try simp only [Act.put, List.setIfInBounds_toArray, List.set_cons_zero, List.set_cons_succ]
    refine takeH 4 7 (.pointer (some ⟨w.heap.size, 9, none⟩)) calm_np rfl rfl (by kernel_rfl) (by kernel_rfl) (by kernel_rfl) (by rfl) (fun W' hSw => by go_simp) hHeld ?_
    try simp only [Act.put, List.setIfInBounds_toArray, List.set_cons_zero, List.set_cons_succ]
    refine takeH 5 8 (.int .i64 o.ph) calm_np rfl rfl (by kernel_rfl) (by kernel_rfl) (by kernel_rfl) (by rfl) (fun W' hSw => by have g0 := (HX.out.below hSw).at 9 rfl; have hsz := (HX.out.below hSw).1; go_simp) hHeld ?_
    try simp only [Act.put, List.setIfInBounds_toArray, List.set_cons_zero, List.set_cons_succ]
    refine takeH 6 9 (.bool true) calm_np rfl rfl (by kernel_rfl) (by kernel_rfl) (by kernel_rfl) (by rfl) (fun W' hSw => by go_simp) hHeld ?_
    try simp only [Act.put, List.setIfInBounds_toArray, List.set_cons_zero, List.set_cons_succ]
    refine takeH 7 10 (.bool true) calm_np rfl rfl (by kernel_rfl) (by kernel_rfl) (by kernel_rfl) (by rfl) (fun W' hSw => by go_simp) hHeld ?_
    try simp only [Act.put, List.setIfInBounds_toArray, List.set_cons_zero, List.set_cons_succ]
    refine takeH 8 11 (.bool true) calm_np rfl rfl (by kernel_rfl) (by kernel_rfl) (by kernel_rfl) (by rfl) (fun W' hSw => by go_simp) hHeld ?_
    try simp only [Act.put, List.setIfInBounds_toArray, List.set_cons_zero, List.set_cons_succ]
    refine takeH 10 13 (.pointer (some ⟨w.heap.size, 9, none⟩)) calm_np rfl rfl (by kernel_rfl) (by kernel_rfl) (by kernel_rfl) (by rfl) (fun W' hSw => by go_simp) hHeld ?_
    try simp only [Act.put, List.setIfInBounds_toArray, List.set_cons_zero, List.set_cons_succ]
    refine takeH 11 14 (.int .i64 o.ph) calm_np rfl rfl (by kernel_rfl) (by kernel_rfl) (by kernel_rfl) (by rfl) (fun W' hSw => by have g0 := (HX.out.below hSw).at 9 rfl; have hsz := (HX.out.below hSw).1; go_simp) hHeld ?_
    try simp only [Act.put, List.setIfInBounds_toArray, List.set_cons_zero, List.set_cons_succ]
    refine takeH 13 16 (.agg #[.int .i64 o.id, .string o.k, .int .i64 o.cl, .int .i64 o.sq, .int .i64 o.n, .int .i64 o.d, .int .i64 o.p, .int .i64 o.c, .bool o.sp, .int .i64 o.ph, .string o.l.k, .int .i64 o.l.u, .int .i64 o.l.c, .int .i64 o.l.y, .int .i64 o.py.a, .int .i64 o.py.c, .int .i64 o.py.u, .int .i64 o.py.s, .int .i64 o.ak.s, .int .i64 o.ak.u, .bool o.en]) calm_np rfl rfl (by kernel_rfl) (by kernel_rfl) (by kernel_rfl) (by rfl) (fun W' hSw => exec_load 29 _ rfl (w.heap.size) 0 rfl (ocs o) _ (HX.out.below hSw).range Try.underlying29 rfl infoO) hHeld ?_
    try simp only [Act.put, List.setIfInBounds_toArray, List.set_cons_zero, List.set_cons_succ]
    refine wpAnyH_ready (rs := [9]) (by kernel_rfl) (by simp) (AllReadyH.cons rfl (fun K hK => ?_) AllReadyH.nil)
    go_simp
    (with_reducible refine (HP.out _).mono ?_)
    rintro e V1 ⟨rfl, hz⟩
    have hh := below_trans hHeld hz
    clear hz
    go_simp
    refine hK.out _ _ hh (fun hHeld => ?_)
    clear hK hh
    try simp only [Act.put, List.setIfInBounds_toArray, List.set_cons_zero, List.set_cons_succ]
    refine takeH 12 15 (.func (.func 61) #[] #[]) calm_np rfl rfl (by kernel_rfl) (by kernel_rfl) (by kernel_rfl) (by rfl) (fun W' hSw => by have q := index1 HC.out W'; go_simp) hHeld ?_
    try simp only [Act.put, List.setIfInBounds_toArray, List.set_cons_zero, List.set_cons_succ]
    refine wpAnyH_ready (rs := [14]) (by kernel_rfl) (by simp) (AllReadyH.cons rfl (fun K hK => ?_) AllReadyH.nil)
    go_simp
    (with_reducible refine (H1.out _).mono ?_)
    rintro e V2 ⟨rfl, hz⟩
    have hh := below_trans hHeld hz
    clear hz
    go_simp
    refine hK.out _ _ hh (fun hHeld => ?_)
    clear hK hh
    try simp only [Act.put, List.setIfInBounds_toArray, List.set_cons_zero, List.set_cons_succ]
    refine takeH 15 18 (.bool m) calm_np rfl rfl (by kernel_rfl) (by kernel_rfl) (by kernel_rfl) (by rfl) (fun W' hSw => by go_simp) hHeld ?_
    try simp only [Act.put, List.setIfInBounds_toArray, List.set_cons_zero, List.set_cons_succ]
    refine takeH 16 2 (.bool m) calm_np rfl rfl (by kernel_rfl) (by kernel_rfl) (by kernel_rfl) (by rfl) (fun W' hSw => by go_simp) hHeld ?_
    try simp only [Act.put, List.setIfInBounds_toArray, List.set_cons_zero, List.set_cons_succ]
    refine wpAnyH_done (by kernel_rfl) ?_ _
    refine NoPanic.normal ?_
    have HH := Lib.hid hHeld
    clear hHeld
    go_wp2_with fail
    go_ret
    exact ⟨rfl, below_trans HB.out HH.out⟩
  · have HC : Hid (o.ph = 2) := Lib.hid h1
    have a1 : 1 ≤ o.ph := by omega
    have a2 : o.ph ≤ 5 := by omega
    clear h1
    refine wp_region_noPanic ?_
    refine wp_region_held_drew (S := fun W' => Below W1.heap.size W1 W') (by kernel_rfl) (dr W1) (fun hHeld => ?_)
    try simp only [Act.put, List.setIfInBounds_toArray, List.set_cons_zero, List.set_cons_succ]
    refine takeH 0 3 (.pointer (some ⟨w.heap.size, 9, none⟩)) calm_np rfl rfl (by kernel_rfl) (by kernel_rfl) (by kernel_rfl) (by rfl) (fun W' hSw => by go_simp) hHeld ?_
    try simp only [Act.put, List.setIfInBounds_toArray, List.set_cons_zero, List.set_cons_succ]
    refine takeH 1 4 (.int .i64 o.ph) calm_np rfl rfl (by kernel_rfl) (by kernel_rfl) (by kernel_rfl) (by rfl) (fun W' hSw => by have g0 := (HX.out.below hSw).at 9 rfl; have hsz := (HX.out.below hSw).1; go_simp) hHeld ?_
    try simp only [Act.put, List.setIfInBounds_toArray, List.set_cons_zero, List.set_cons_succ]
    refine takeH 2 5 (.bool true) calm_np rfl rfl (by kernel_rfl) (by kernel_rfl) (by kernel_rfl) (by rfl) (fun W' hSw => by go_simp) hHeld ?_
    try simp only [Act.put, List.setIfInBounds_toArray, List.set_cons_zero, List.set_cons_succ]
    refine takeH 3 6 (.bool true) calm_np rfl rfl (by kernel_rfl) (by kernel_rfl) (by kernel_rfl) (by rfl) (fun W' hSw => by go_simp) hHeld ?_
    try simp only [Act.put, List.setIfInBounds_toArray, List.set_cons_zero, List.set_cons_succ]
    refine takeH 4 7 (.pointer (some ⟨w.heap.size, 9, none⟩)) calm_np rfl rfl (by kernel_rfl) (by kernel_rfl) (by kernel_rfl) (by rfl) (fun W' hSw => by go_simp) hHeld ?_
    try simp only [Act.put, List.setIfInBounds_toArray, List.set_cons_zero, List.set_cons_succ]
    refine takeH 5 8 (.int .i64 o.ph) calm_np rfl rfl (by kernel_rfl) (by kernel_rfl) (by kernel_rfl) (by rfl) (fun W' hSw => by have g0 := (HX.out.below hSw).at 9 rfl; have hsz := (HX.out.below hSw).1; go_simp) hHeld ?_
    try simp only [Act.put, List.setIfInBounds_toArray, List.set_cons_zero, List.set_cons_succ]
    refine takeH 6 9 (.bool true) calm_np rfl rfl (by kernel_rfl) (by kernel_rfl) (by kernel_rfl) (by rfl) (fun W' hSw => by go_simp) hHeld ?_
    try simp only [Act.put, List.setIfInBounds_toArray, List.set_cons_zero, List.set_cons_succ]
    refine takeH 7 10 (.bool true) calm_np rfl rfl (by kernel_rfl) (by kernel_rfl) (by kernel_rfl) (by rfl) (fun W' hSw => by go_simp) hHeld ?_
    try simp only [Act.put, List.setIfInBounds_toArray, List.set_cons_zero, List.set_cons_succ]
    refine takeH 8 11 (.bool true) calm_np rfl rfl (by kernel_rfl) (by kernel_rfl) (by kernel_rfl) (by rfl) (fun W' hSw => by go_simp) hHeld ?_
    try simp only [Act.put, List.setIfInBounds_toArray, List.set_cons_zero, List.set_cons_succ]
    refine takeH 10 13 (.pointer (some ⟨w.heap.size, 9, none⟩)) calm_np rfl rfl (by kernel_rfl) (by kernel_rfl) (by kernel_rfl) (by rfl) (fun W' hSw => by go_simp) hHeld ?_
    try simp only [Act.put, List.setIfInBounds_toArray, List.set_cons_zero, List.set_cons_succ]
    refine takeH 11 14 (.int .i64 o.ph) calm_np rfl rfl (by kernel_rfl) (by kernel_rfl) (by kernel_rfl) (by rfl) (fun W' hSw => by have g0 := (HX.out.below hSw).at 9 rfl; have hsz := (HX.out.below hSw).1; go_simp) hHeld ?_
    try simp only [Act.put, List.setIfInBounds_toArray, List.set_cons_zero, List.set_cons_succ]
    refine takeH 13 16 (.agg #[.int .i64 o.id, .string o.k, .int .i64 o.cl, .int .i64 o.sq, .int .i64 o.n, .int .i64 o.d, .int .i64 o.p, .int .i64 o.c, .bool o.sp, .int .i64 o.ph, .string o.l.k, .int .i64 o.l.u, .int .i64 o.l.c, .int .i64 o.l.y, .int .i64 o.py.a, .int .i64 o.py.c, .int .i64 o.py.u, .int .i64 o.py.s, .int .i64 o.ak.s, .int .i64 o.ak.u, .bool o.en]) calm_np rfl rfl (by kernel_rfl) (by kernel_rfl) (by kernel_rfl) (by rfl) (fun W' hSw => exec_load 29 _ rfl (w.heap.size) 0 rfl (ocs o) _ (HX.out.below hSw).range Try.underlying29 rfl infoO) hHeld ?_
    try simp only [Act.put, List.setIfInBounds_toArray, List.set_cons_zero, List.set_cons_succ]
    refine wpAnyH_ready (rs := [9]) (by kernel_rfl) (by simp) (AllReadyH.cons rfl (fun K hK => ?_) AllReadyH.nil)
    go_simp
    (with_reducible refine (HP.out _).mono ?_)
    rintro e V1 ⟨rfl, hz⟩
    have hh := below_trans hHeld hz
    clear hz
    go_simp
    refine hK.out _ _ hh (fun hHeld => ?_)
    clear hK hh
    try simp only [Act.put, List.setIfInBounds_toArray, List.set_cons_zero, List.set_cons_succ]
    refine takeH 12 15 (.func (.func 64) #[] #[]) calm_np rfl rfl (by kernel_rfl) (by kernel_rfl) (by kernel_rfl) (by rfl) (fun W' hSw => by have q := index2 HC.out W'; go_simp) hHeld ?_
    try simp only [Act.put, List.setIfInBounds_toArray, List.set_cons_zero, List.set_cons_succ]
    refine wpAnyH_ready (rs := [14]) (by kernel_rfl) (by simp) (AllReadyH.cons rfl (fun K hK => ?_) AllReadyH.nil)
    go_simp
    (with_reducible refine (H2.out _).mono ?_)
    rintro e V2 ⟨rfl, hz⟩
    have hh := below_trans hHeld hz
    clear hz
    go_simp
    refine hK.out _ _ hh (fun hHeld => ?_)
    clear hK hh
    try simp only [Act.put, List.setIfInBounds_toArray, List.set_cons_zero, List.set_cons_succ]
    refine takeH 15 18 (.bool m) calm_np rfl rfl (by kernel_rfl) (by kernel_rfl) (by kernel_rfl) (by rfl) (fun W' hSw => by go_simp) hHeld ?_
    try simp only [Act.put, List.setIfInBounds_toArray, List.set_cons_zero, List.set_cons_succ]
    refine takeH 16 2 (.bool m) calm_np rfl rfl (by kernel_rfl) (by kernel_rfl) (by kernel_rfl) (by rfl) (fun W' hSw => by go_simp) hHeld ?_
    try simp only [Act.put, List.setIfInBounds_toArray, List.set_cons_zero, List.set_cons_succ]
    refine wpAnyH_done (by kernel_rfl) ?_ _
    refine NoPanic.normal ?_
    have HH := Lib.hid hHeld
    clear hHeld
    go_wp2_with fail
    go_ret
    exact ⟨rfl, below_trans HB.out HH.out⟩
  · have HC : Hid (o.ph = 3) := Lib.hid h1
    have a1 : 1 ≤ o.ph := by omega
    have a2 : o.ph ≤ 5 := by omega
    clear h1
    refine wp_region_noPanic ?_
    refine wp_region_held_drew (S := fun W' => Below W1.heap.size W1 W') (by kernel_rfl) (dr W1) (fun hHeld => ?_)
    try simp only [Act.put, List.setIfInBounds_toArray, List.set_cons_zero, List.set_cons_succ]
    refine takeH 0 3 (.pointer (some ⟨w.heap.size, 9, none⟩)) calm_np rfl rfl (by kernel_rfl) (by kernel_rfl) (by kernel_rfl) (by rfl) (fun W' hSw => by go_simp) hHeld ?_
    try simp only [Act.put, List.setIfInBounds_toArray, List.set_cons_zero, List.set_cons_succ]
    refine takeH 1 4 (.int .i64 o.ph) calm_np rfl rfl (by kernel_rfl) (by kernel_rfl) (by kernel_rfl) (by rfl) (fun W' hSw => by have g0 := (HX.out.below hSw).at 9 rfl; have hsz := (HX.out.below hSw).1; go_simp) hHeld ?_
    try simp only [Act.put, List.setIfInBounds_toArray, List.set_cons_zero, List.set_cons_succ]
    refine takeH 2 5 (.bool true) calm_np rfl rfl (by kernel_rfl) (by kernel_rfl) (by kernel_rfl) (by rfl) (fun W' hSw => by go_simp) hHeld ?_
    try simp only [Act.put, List.setIfInBounds_toArray, List.set_cons_zero, List.set_cons_succ]
    refine takeH 3 6 (.bool true) calm_np rfl rfl (by kernel_rfl) (by kernel_rfl) (by kernel_rfl) (by rfl) (fun W' hSw => by go_simp) hHeld ?_
    try simp only [Act.put, List.setIfInBounds_toArray, List.set_cons_zero, List.set_cons_succ]
    refine takeH 4 7 (.pointer (some ⟨w.heap.size, 9, none⟩)) calm_np rfl rfl (by kernel_rfl) (by kernel_rfl) (by kernel_rfl) (by rfl) (fun W' hSw => by go_simp) hHeld ?_
    try simp only [Act.put, List.setIfInBounds_toArray, List.set_cons_zero, List.set_cons_succ]
    refine takeH 5 8 (.int .i64 o.ph) calm_np rfl rfl (by kernel_rfl) (by kernel_rfl) (by kernel_rfl) (by rfl) (fun W' hSw => by have g0 := (HX.out.below hSw).at 9 rfl; have hsz := (HX.out.below hSw).1; go_simp) hHeld ?_
    try simp only [Act.put, List.setIfInBounds_toArray, List.set_cons_zero, List.set_cons_succ]
    refine takeH 6 9 (.bool true) calm_np rfl rfl (by kernel_rfl) (by kernel_rfl) (by kernel_rfl) (by rfl) (fun W' hSw => by go_simp) hHeld ?_
    try simp only [Act.put, List.setIfInBounds_toArray, List.set_cons_zero, List.set_cons_succ]
    refine takeH 7 10 (.bool true) calm_np rfl rfl (by kernel_rfl) (by kernel_rfl) (by kernel_rfl) (by rfl) (fun W' hSw => by go_simp) hHeld ?_
    try simp only [Act.put, List.setIfInBounds_toArray, List.set_cons_zero, List.set_cons_succ]
    refine takeH 8 11 (.bool true) calm_np rfl rfl (by kernel_rfl) (by kernel_rfl) (by kernel_rfl) (by rfl) (fun W' hSw => by go_simp) hHeld ?_
    try simp only [Act.put, List.setIfInBounds_toArray, List.set_cons_zero, List.set_cons_succ]
    refine takeH 10 13 (.pointer (some ⟨w.heap.size, 9, none⟩)) calm_np rfl rfl (by kernel_rfl) (by kernel_rfl) (by kernel_rfl) (by rfl) (fun W' hSw => by go_simp) hHeld ?_
    try simp only [Act.put, List.setIfInBounds_toArray, List.set_cons_zero, List.set_cons_succ]
    refine takeH 11 14 (.int .i64 o.ph) calm_np rfl rfl (by kernel_rfl) (by kernel_rfl) (by kernel_rfl) (by rfl) (fun W' hSw => by have g0 := (HX.out.below hSw).at 9 rfl; have hsz := (HX.out.below hSw).1; go_simp) hHeld ?_
    try simp only [Act.put, List.setIfInBounds_toArray, List.set_cons_zero, List.set_cons_succ]
    refine takeH 13 16 (.agg #[.int .i64 o.id, .string o.k, .int .i64 o.cl, .int .i64 o.sq, .int .i64 o.n, .int .i64 o.d, .int .i64 o.p, .int .i64 o.c, .bool o.sp, .int .i64 o.ph, .string o.l.k, .int .i64 o.l.u, .int .i64 o.l.c, .int .i64 o.l.y, .int .i64 o.py.a, .int .i64 o.py.c, .int .i64 o.py.u, .int .i64 o.py.s, .int .i64 o.ak.s, .int .i64 o.ak.u, .bool o.en]) calm_np rfl rfl (by kernel_rfl) (by kernel_rfl) (by kernel_rfl) (by rfl) (fun W' hSw => exec_load 29 _ rfl (w.heap.size) 0 rfl (ocs o) _ (HX.out.below hSw).range Try.underlying29 rfl infoO) hHeld ?_
    try simp only [Act.put, List.setIfInBounds_toArray, List.set_cons_zero, List.set_cons_succ]
    refine wpAnyH_ready (rs := [9]) (by kernel_rfl) (by simp) (AllReadyH.cons rfl (fun K hK => ?_) AllReadyH.nil)
    go_simp
    (with_reducible refine (HP.out _).mono ?_)
    rintro e V1 ⟨rfl, hz⟩
    have hh := below_trans hHeld hz
    clear hz
    go_simp
    refine hK.out _ _ hh (fun hHeld => ?_)
    clear hK hh
    try simp only [Act.put, List.setIfInBounds_toArray, List.set_cons_zero, List.set_cons_succ]
    refine takeH 12 15 (.func (.func 66) #[] #[]) calm_np rfl rfl (by kernel_rfl) (by kernel_rfl) (by kernel_rfl) (by rfl) (fun W' hSw => by have q := index3 HC.out W'; go_simp) hHeld ?_
    try simp only [Act.put, List.setIfInBounds_toArray, List.set_cons_zero, List.set_cons_succ]
    refine wpAnyH_ready (rs := [14]) (by kernel_rfl) (by simp) (AllReadyH.cons rfl (fun K hK => ?_) AllReadyH.nil)
    go_simp
    (with_reducible refine (H3.out _).mono ?_)
    rintro e V2 ⟨rfl, hz⟩
    have hh := below_trans hHeld hz
    clear hz
    go_simp
    refine hK.out _ _ hh (fun hHeld => ?_)
    clear hK hh
    try simp only [Act.put, List.setIfInBounds_toArray, List.set_cons_zero, List.set_cons_succ]
    refine takeH 15 18 (.bool m) calm_np rfl rfl (by kernel_rfl) (by kernel_rfl) (by kernel_rfl) (by rfl) (fun W' hSw => by go_simp) hHeld ?_
    try simp only [Act.put, List.setIfInBounds_toArray, List.set_cons_zero, List.set_cons_succ]
    refine takeH 16 2 (.bool m) calm_np rfl rfl (by kernel_rfl) (by kernel_rfl) (by kernel_rfl) (by rfl) (fun W' hSw => by go_simp) hHeld ?_
    try simp only [Act.put, List.setIfInBounds_toArray, List.set_cons_zero, List.set_cons_succ]
    refine wpAnyH_done (by kernel_rfl) ?_ _
    refine NoPanic.normal ?_
    have HH := Lib.hid hHeld
    clear hHeld
    go_wp2_with fail
    go_ret
    exact ⟨rfl, below_trans HB.out HH.out⟩
  · have HC : Hid (o.ph = 4) := Lib.hid h1
    have a1 : 1 ≤ o.ph := by omega
    have a2 : o.ph ≤ 5 := by omega
    clear h1
    refine wp_region_noPanic ?_
    refine wp_region_held_drew (S := fun W' => Below W1.heap.size W1 W') (by kernel_rfl) (dr W1) (fun hHeld => ?_)
    try simp only [Act.put, List.setIfInBounds_toArray, List.set_cons_zero, List.set_cons_succ]
    refine takeH 0 3 (.pointer (some ⟨w.heap.size, 9, none⟩)) calm_np rfl rfl (by kernel_rfl) (by kernel_rfl) (by kernel_rfl) (by rfl) (fun W' hSw => by go_simp) hHeld ?_
    try simp only [Act.put, List.setIfInBounds_toArray, List.set_cons_zero, List.set_cons_succ]
    refine takeH 1 4 (.int .i64 o.ph) calm_np rfl rfl (by kernel_rfl) (by kernel_rfl) (by kernel_rfl) (by rfl) (fun W' hSw => by have g0 := (HX.out.below hSw).at 9 rfl; have hsz := (HX.out.below hSw).1; go_simp) hHeld ?_
    try simp only [Act.put, List.setIfInBounds_toArray, List.set_cons_zero, List.set_cons_succ]
    refine takeH 2 5 (.bool true) calm_np rfl rfl (by kernel_rfl) (by kernel_rfl) (by kernel_rfl) (by rfl) (fun W' hSw => by go_simp) hHeld ?_
    try simp only [Act.put, List.setIfInBounds_toArray, List.set_cons_zero, List.set_cons_succ]
    refine takeH 3 6 (.bool true) calm_np rfl rfl (by kernel_rfl) (by kernel_rfl) (by kernel_rfl) (by rfl) (fun W' hSw => by go_simp) hHeld ?_
    try simp only [Act.put, List.setIfInBounds_toArray, List.set_cons_zero, List.set_cons_succ]
    refine takeH 4 7 (.pointer (some ⟨w.heap.size, 9, none⟩)) calm_np rfl rfl (by kernel_rfl) (by kernel_rfl) (by kernel_rfl) (by rfl) (fun W' hSw => by go_simp) hHeld ?_
    try simp only [Act.put, List.setIfInBounds_toArray, List.set_cons_zero, List.set_cons_succ]
    refine takeH 5 8 (.int .i64 o.ph) calm_np rfl rfl (by kernel_rfl) (by kernel_rfl) (by kernel_rfl) (by rfl) (fun W' hSw => by have g0 := (HX.out.below hSw).at 9 rfl; have hsz := (HX.out.below hSw).1; go_simp) hHeld ?_
    try simp only [Act.put, List.setIfInBounds_toArray, List.set_cons_zero, List.set_cons_succ]
    refine takeH 6 9 (.bool true) calm_np rfl rfl (by kernel_rfl) (by kernel_rfl) (by kernel_rfl) (by rfl) (fun W' hSw => by go_simp) hHeld ?_
    try simp only [Act.put, List.setIfInBounds_toArray, List.set_cons_zero, List.set_cons_succ]
    refine takeH 7 10 (.bool true) calm_np rfl rfl (by kernel_rfl) (by kernel_rfl) (by kernel_rfl) (by rfl) (fun W' hSw => by go_simp) hHeld ?_
    try simp only [Act.put, List.setIfInBounds_toArray, List.set_cons_zero, List.set_cons_succ]
    refine takeH 8 11 (.bool true) calm_np rfl rfl (by kernel_rfl) (by kernel_rfl) (by kernel_rfl) (by rfl) (fun W' hSw => by go_simp) hHeld ?_
    try simp only [Act.put, List.setIfInBounds_toArray, List.set_cons_zero, List.set_cons_succ]
    refine takeH 10 13 (.pointer (some ⟨w.heap.size, 9, none⟩)) calm_np rfl rfl (by kernel_rfl) (by kernel_rfl) (by kernel_rfl) (by rfl) (fun W' hSw => by go_simp) hHeld ?_
    try simp only [Act.put, List.setIfInBounds_toArray, List.set_cons_zero, List.set_cons_succ]
    refine takeH 11 14 (.int .i64 o.ph) calm_np rfl rfl (by kernel_rfl) (by kernel_rfl) (by kernel_rfl) (by rfl) (fun W' hSw => by have g0 := (HX.out.below hSw).at 9 rfl; have hsz := (HX.out.below hSw).1; go_simp) hHeld ?_
    try simp only [Act.put, List.setIfInBounds_toArray, List.set_cons_zero, List.set_cons_succ]
    refine takeH 13 16 (.agg #[.int .i64 o.id, .string o.k, .int .i64 o.cl, .int .i64 o.sq, .int .i64 o.n, .int .i64 o.d, .int .i64 o.p, .int .i64 o.c, .bool o.sp, .int .i64 o.ph, .string o.l.k, .int .i64 o.l.u, .int .i64 o.l.c, .int .i64 o.l.y, .int .i64 o.py.a, .int .i64 o.py.c, .int .i64 o.py.u, .int .i64 o.py.s, .int .i64 o.ak.s, .int .i64 o.ak.u, .bool o.en]) calm_np rfl rfl (by kernel_rfl) (by kernel_rfl) (by kernel_rfl) (by rfl) (fun W' hSw => exec_load 29 _ rfl (w.heap.size) 0 rfl (ocs o) _ (HX.out.below hSw).range Try.underlying29 rfl infoO) hHeld ?_
    try simp only [Act.put, List.setIfInBounds_toArray, List.set_cons_zero, List.set_cons_succ]
    refine wpAnyH_ready (rs := [9]) (by kernel_rfl) (by simp) (AllReadyH.cons rfl (fun K hK => ?_) AllReadyH.nil)
    go_simp
    (with_reducible refine (HP.out _).mono ?_)
    rintro e V1 ⟨rfl, hz⟩
    have hh := below_trans hHeld hz
    clear hz
    go_simp
    refine hK.out _ _ hh (fun hHeld => ?_)
    clear hK hh
    try simp only [Act.put, List.setIfInBounds_toArray, List.set_cons_zero, List.set_cons_succ]
    refine takeH 12 15 (.func (.func 67) #[] #[]) calm_np rfl rfl (by kernel_rfl) (by kernel_rfl) (by kernel_rfl) (by rfl) (fun W' hSw => by have q := index4 HC.out W'; go_simp) hHeld ?_
    try simp only [Act.put, List.setIfInBounds_toArray, List.set_cons_zero, List.set_cons_succ]
    refine wpAnyH_ready (rs := [14]) (by kernel_rfl) (by simp) (AllReadyH.cons rfl (fun K hK => ?_) AllReadyH.nil)
    go_simp
    (with_reducible refine (H4.out _).mono ?_)
    rintro e V2 ⟨rfl, hz⟩
    have hh := below_trans hHeld hz
    clear hz
    go_simp
    refine hK.out _ _ hh (fun hHeld => ?_)
    clear hK hh
    try simp only [Act.put, List.setIfInBounds_toArray, List.set_cons_zero, List.set_cons_succ]
    refine takeH 15 18 (.bool m) calm_np rfl rfl (by kernel_rfl) (by kernel_rfl) (by kernel_rfl) (by rfl) (fun W' hSw => by go_simp) hHeld ?_
    try simp only [Act.put, List.setIfInBounds_toArray, List.set_cons_zero, List.set_cons_succ]
    refine takeH 16 2 (.bool m) calm_np rfl rfl (by kernel_rfl) (by kernel_rfl) (by kernel_rfl) (by rfl) (fun W' hSw => by go_simp) hHeld ?_
    try simp only [Act.put, List.setIfInBounds_toArray, List.set_cons_zero, List.set_cons_succ]
    refine wpAnyH_done (by kernel_rfl) ?_ _
    refine NoPanic.normal ?_
    have HH := Lib.hid hHeld
    clear hHeld
    go_wp2_with fail
    go_ret
    exact ⟨rfl, below_trans HB.out HH.out⟩
  · have HC : Hid (o.ph = 5) := Lib.hid h1
    have a1 : 1 ≤ o.ph := by omega
    have a2 : o.ph ≤ 5 := by omega
    clear h1
    refine wp_region_noPanic ?_
    refine wp_region_held_drew (S := fun W' => Below W1.heap.size W1 W') (by kernel_rfl) (dr W1) (fun hHeld => ?_)
    try simp only [Act.put, List.setIfInBounds_toArray, List.set_cons_zero, List.set_cons_succ]
    refine takeH 0 3 (.pointer (some ⟨w.heap.size, 9, none⟩)) calm_np rfl rfl (by kernel_rfl) (by kernel_rfl) (by kernel_rfl) (by rfl) (fun W' hSw => by go_simp) hHeld ?_
    try simp only [Act.put, List.setIfInBounds_toArray, List.set_cons_zero, List.set_cons_succ]
    refine takeH 1 4 (.int .i64 o.ph) calm_np rfl rfl (by kernel_rfl) (by kernel_rfl) (by kernel_rfl) (by rfl) (fun W' hSw => by have g0 := (HX.out.below hSw).at 9 rfl; have hsz := (HX.out.below hSw).1; go_simp) hHeld ?_
    try simp only [Act.put, List.setIfInBounds_toArray, List.set_cons_zero, List.set_cons_succ]
    refine takeH 2 5 (.bool true) calm_np rfl rfl (by kernel_rfl) (by kernel_rfl) (by kernel_rfl) (by rfl) (fun W' hSw => by go_simp) hHeld ?_
    try simp only [Act.put, List.setIfInBounds_toArray, List.set_cons_zero, List.set_cons_succ]
    refine takeH 3 6 (.bool true) calm_np rfl rfl (by kernel_rfl) (by kernel_rfl) (by kernel_rfl) (by rfl) (fun W' hSw => by go_simp) hHeld ?_
    try simp only [Act.put, List.setIfInBounds_toArray, List.set_cons_zero, List.set_cons_succ]
    refine takeH 4 7 (.pointer (some ⟨w.heap.size, 9, none⟩)) calm_np rfl rfl (by kernel_rfl) (by kernel_rfl) (by kernel_rfl) (by rfl) (fun W' hSw => by go_simp) hHeld ?_
    try simp only [Act.put, List.setIfInBounds_toArray, List.set_cons_zero, List.set_cons_succ]
    refine takeH 5 8 (.int .i64 o.ph) calm_np rfl rfl (by kernel_rfl) (by kernel_rfl) (by kernel_rfl) (by rfl) (fun W' hSw => by have g0 := (HX.out.below hSw).at 9 rfl; have hsz := (HX.out.below hSw).1; go_simp) hHeld ?_
    try simp only [Act.put, List.setIfInBounds_toArray, List.set_cons_zero, List.set_cons_succ]
    refine takeH 6 9 (.bool true) calm_np rfl rfl (by kernel_rfl) (by kernel_rfl) (by kernel_rfl) (by rfl) (fun W' hSw => by go_simp) hHeld ?_
    try simp only [Act.put, List.setIfInBounds_toArray, List.set_cons_zero, List.set_cons_succ]
    refine takeH 7 10 (.bool true) calm_np rfl rfl (by kernel_rfl) (by kernel_rfl) (by kernel_rfl) (by rfl) (fun W' hSw => by go_simp) hHeld ?_
    try simp only [Act.put, List.setIfInBounds_toArray, List.set_cons_zero, List.set_cons_succ]
    refine takeH 8 11 (.bool true) calm_np rfl rfl (by kernel_rfl) (by kernel_rfl) (by kernel_rfl) (by rfl) (fun W' hSw => by go_simp) hHeld ?_
    try simp only [Act.put, List.setIfInBounds_toArray, List.set_cons_zero, List.set_cons_succ]
    refine takeH 10 13 (.pointer (some ⟨w.heap.size, 9, none⟩)) calm_np rfl rfl (by kernel_rfl) (by kernel_rfl) (by kernel_rfl) (by rfl) (fun W' hSw => by go_simp) hHeld ?_
    try simp only [Act.put, List.setIfInBounds_toArray, List.set_cons_zero, List.set_cons_succ]
    refine takeH 11 14 (.int .i64 o.ph) calm_np rfl rfl (by kernel_rfl) (by kernel_rfl) (by kernel_rfl) (by rfl) (fun W' hSw => by have g0 := (HX.out.below hSw).at 9 rfl; have hsz := (HX.out.below hSw).1; go_simp) hHeld ?_
    try simp only [Act.put, List.setIfInBounds_toArray, List.set_cons_zero, List.set_cons_succ]
    refine takeH 13 16 (.agg #[.int .i64 o.id, .string o.k, .int .i64 o.cl, .int .i64 o.sq, .int .i64 o.n, .int .i64 o.d, .int .i64 o.p, .int .i64 o.c, .bool o.sp, .int .i64 o.ph, .string o.l.k, .int .i64 o.l.u, .int .i64 o.l.c, .int .i64 o.l.y, .int .i64 o.py.a, .int .i64 o.py.c, .int .i64 o.py.u, .int .i64 o.py.s, .int .i64 o.ak.s, .int .i64 o.ak.u, .bool o.en]) calm_np rfl rfl (by kernel_rfl) (by kernel_rfl) (by kernel_rfl) (by rfl) (fun W' hSw => exec_load 29 _ rfl (w.heap.size) 0 rfl (ocs o) _ (HX.out.below hSw).range Try.underlying29 rfl infoO) hHeld ?_
    try simp only [Act.put, List.setIfInBounds_toArray, List.set_cons_zero, List.set_cons_succ]
    refine wpAnyH_ready (rs := [9]) (by kernel_rfl) (by simp) (AllReadyH.cons rfl (fun K hK => ?_) AllReadyH.nil)
    go_simp
    (with_reducible refine (HP.out _).mono ?_)
    rintro e V1 ⟨rfl, hz⟩
    have hh := below_trans hHeld hz
    clear hz
    go_simp
    refine hK.out _ _ hh (fun hHeld => ?_)
    clear hK hh
    try simp only [Act.put, List.setIfInBounds_toArray, List.set_cons_zero, List.set_cons_succ]
    refine takeH 12 15 (.func (.func 68) #[] #[]) calm_np rfl rfl (by kernel_rfl) (by kernel_rfl) (by kernel_rfl) (by rfl) (fun W' hSw => by have q := index5 HC.out W'; go_simp) hHeld ?_
    try simp only [Act.put, List.setIfInBounds_toArray, List.set_cons_zero, List.set_cons_succ]
    refine wpAnyH_ready (rs := [14]) (by kernel_rfl) (by simp) (AllReadyH.cons rfl (fun K hK => ?_) AllReadyH.nil)
    go_simp
    (with_reducible refine (H5.out _).mono ?_)
    rintro e V2 ⟨rfl, hz⟩
    have hh := below_trans hHeld hz
    clear hz
    go_simp
    refine hK.out _ _ hh (fun hHeld => ?_)
    clear hK hh
    try simp only [Act.put, List.setIfInBounds_toArray, List.set_cons_zero, List.set_cons_succ]
    refine takeH 15 18 (.bool m) calm_np rfl rfl (by kernel_rfl) (by kernel_rfl) (by kernel_rfl) (by rfl) (fun W' hSw => by go_simp) hHeld ?_
    try simp only [Act.put, List.setIfInBounds_toArray, List.set_cons_zero, List.set_cons_succ]
    refine takeH 16 2 (.bool m) calm_np rfl rfl (by kernel_rfl) (by kernel_rfl) (by kernel_rfl) (by rfl) (fun W' hSw => by go_simp) hHeld ?_
    try simp only [Act.put, List.setIfInBounds_toArray, List.set_cons_zero, List.set_cons_succ]
    refine wpAnyH_done (by kernel_rfl) ?_ _
    refine NoPanic.normal ?_
    have HH := Lib.hid hHeld
    clear hHeld
    go_wp2_with fail
    go_ret
    exact ⟨rfl, below_trans HB.out HH.out⟩
end Go.Proofs.Ytjmmijobdcepmaa.Order
