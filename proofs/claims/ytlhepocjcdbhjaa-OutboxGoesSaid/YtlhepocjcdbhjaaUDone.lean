/-
  Contracts of package outbox's Done and Find.
-/
import Derived.Test.YtlhepocjcdbhjaaUPut
namespace Go.Proofs.Ytlhepocjcdbhjaa.Outbox
open Go.ChangeShapes Go.WideShapes Go.ChangeAt Go.RowKit Go.Shelf Go.Lib
open Go.Proofs.Ytlhepocjcdbhjaa.Queue (Box al dr below_trans ret_bool BoolB)

def doneZ (l : List Ot) (t y : Int) : Int := if rightB l t = true then (if l.any (keyB y) = true then 0 else 8) else 1
def doneL (l : List Ot) (t y : Int) : List Ot := if doneZ l t y = 0 then done l y else []
def doneT (l : List Ot) (t y : Int) : Int := if doneZ l t y = 0 then t else 0
def doneO (l : List Ot) (t y : Int) : Ot := if doneZ l t y = 0 then (get l y).getD noT else noT
/-- An outbox, something told, and an error are returned. -/
def DoneE (l : List Ot) (t : Int) (x : Ot) (z : Int) (w : World) (e : Ending) (w' : World) : Prop := ∃ v, e = .returned (.tuple #[bv t v, uv x, .int .i64 z]) ∧ OwnU w.heap.size v l w' ∧ Below w.heap.size w w'
theorem first_of {p : Ot → Bool} {l : List Ot} {k : Nat} (hk : k < l.length) (h : p l[k] = true) (h0 : (l.take k).any p = false) : l.find? p = some l[k] := by
  have e : l = l.take k ++ l[k] :: l.drop (k + 1) := by rw [← List.drop_eq_getElem_cons hk, List.take_append_drop]
  have h1 : (l.take k).find? p = none := List.find?_eq_none.2 fun x hx hp => by
    rw [List.any_eq_false] at h0
    exact h0 x hx hp
  have : (l.take k ++ l[k] :: l.drop (k + 1)).find? p = some l[k] := by
    rw [List.find?_append, h1, Option.none_or, List.find?_cons_of_pos h]
  rwa [← e] at this
theorem none_of {p : Ot → Bool} {l : List Ot} (h : l.any p = false) : l.find? p = none := List.find?_eq_none.2 fun x hx hp => by
  rw [List.any_eq_false] at h
  exact h x hx hp
/-- What is left is what lies around it. -/
theorem done_cut {l : List Ot} {t y : Int} {k : Nat} (hr : RightP l t) (hk : k < l.length) (h : keyB y l[k] = true) : done l y = l.take k ++ l.drop (k + 1) := by
  have e : l = l.take k ++ l[k] :: l.drop (k + 1) := by rw [← List.drop_eq_getElem_cons hk, List.take_append_drop]
  have hy := keyB_t.1 h
  have hp := List.pairwise_iff_getElem.1 hr.2.2.2
  have f1 : (l.take k).filter (fun x => !keyB y x) = l.take k := List.filter_eq_self.2 fun x hx => by
    obtain ⟨i, hi, rfl⟩ := List.mem_take_iff_getElem.1 hx
    have := (hp i k (by omega) hk (by omega)).1
    simp only [Bool.not_eq_true']
    exact keyB_f.2 (by omega)
  have f2 : (l.drop (k + 1)).filter (fun x => !keyB y x) = l.drop (k + 1) := List.filter_eq_self.2 fun x hx => by
    obtain ⟨i, hi, rfl⟩ := List.mem_iff_getElem.1 hx
    rw [List.getElem_drop]
    rw [List.length_drop] at hi
    have := (hp k (k + 1 + i) hk (by omega) (by omega)).1
    simp only [Bool.not_eq_true']
    exact keyB_f.2 (by omega)
  have g : done (l.take k ++ l[k] :: l.drop (k + 1)) y = l.take k ++ l.drop (k + 1) := by
    unfold done
    rw [List.filter_append, f1, List.filter_cons_of_neg (by rw [h]; decide), f2]
  rwa [← e] at g
theorem four_boxes (w : World) (us vs xs ys : List Value) (T T' T'' T3 : TypeId) (W : World) (hW : (((w.alloc (.cells us.toArray T)).alloc (.cells vs.toArray T')).alloc (.cells xs.toArray T'')).alloc (.cells ys.toArray T3) = W) :
    Box w.heap.size us W ∧ Box (w.heap.size + 1) vs W ∧ Box (w.heap.size + 2) xs W ∧ Box (w.heap.size + 3) ys W ∧ Below w.heap.size w W := by
  subst hW
  obtain ⟨h0, h1⟩ := two_boxes w us vs T T'
  obtain ⟨h2, h3⟩ := two_boxes ((w.alloc (.cells us.toArray T)).alloc (.cells vs.toArray T')) xs ys T'' T3
  have hb := two_al ((w.alloc (.cells us.toArray T)).alloc (.cells vs.toArray T')) (.cells xs.toArray T'') (.cells ys.toArray T3)
  simp only [World.size_alloc] at h2 h3
  exact ⟨h0.below hb, h1.below hb, h2, h3, below_trans (two_al w _ _) hb⟩

set_option maxRecDepth 100000 in
set_option maxHeartbeats 8000000 in
theorem Done_any {v : Value} {l : List Ot} {w : World} (t y : Int) (h : URow w v l) (hl : l.length ≤ 1000) : Calls Try.prog 7 #[bv t v, .int .i64 y] w (DoneE (doneL l t y) (doneT l t y) (doneO l t y) (doneZ l t y) w) := by
  obtain ⟨a, cap, rfl⟩ := h.slice
  have H := Lib.hid h
  have hmf := makes
  obtain ⟨W0, hW0⟩ : ∃ W, (((w.alloc (.cells #[.int .i64 t, .slice a l.length cap] 24)).alloc (.cells #[.int .i64 y] 3)).alloc (.cells #[.int .i64 0, .slice none 0 0] 24)).alloc (.cells #[.int .i64 0, .int .i64 0, .int .i64 0, .int .i64 0] 30) = W := ⟨_, rfl⟩
  have h4 := four_boxes w (bcs t (.slice a l.length cap)) [.int .i64 y] (bcs 0 (.slice none 0 0)) (ocs noT) _ _ _ _ W0 hW0
  have HX0 := Lib.hid h4.1
  have HY0 := Lib.hid h4.2.1
  have HR0 := Lib.hid h4.2.2.1
  have HO0 := Lib.hid h4.2.2.2.1
  have HB0 := Lib.hid h4.2.2.2.2
  have HRT := Lib.hid (fun W (hW : Below W0.heap.size W0 W) => Right_any t ((H.out.below HB0.out).below hW) hl)
  unfold bv at HRT ⊢
  clear h h4
  by_cases hr : ¬ rightB l t = true
  · have e1 : doneZ l t y = 1 := if_neg hr
    rw [show rightB l t = false by simpa using hr] at HRT
    unfold doneL doneT doneO
    rw [e1, if_neg (by decide), if_neg (by decide), if_neg (by decide)]
    clear hr e1
    go_enter Try.func7, Try.ntmps7
    go_upto_region 1 with (fail)
    clear hW0
    obtain ⟨c0, c1⟩ := box2 HX0.out
    have hs0 := HX0.out.1
    go_wp2_with fail
    (with_reducible refine (HRT.out _ (Below.refl _ _)).mono ?_)
    rintro e w1 ⟨rfl, hz⟩
    have HX1 := Lib.hid (HX0.out.below hz)
    have HR1 := Lib.hid (HR0.out.below hz)
    have HO1 := Lib.hid (HO0.out.below hz)
    have HB1 := Lib.hid (below_trans HB0.out hz)
    have HD1 := Lib.hid hz
    clear hz c0 c1 hs0
    obtain ⟨y0, y1⟩ := box2 HR1.out
    obtain ⟨z0, z1⟩ := frz2 HR1.out
    obtain ⟨x0, x1, x2, x3⟩ := box4 HO1.out
    obtain ⟨u0, u1, u2, u3⟩ := frz4 HO1.out
    have hsz := HR1.out.1
    have hsz2 := HO1.out.1
    have HE := Lib.hid (below_four (b := w.heap.size + 3) (.int .i64 0) (.int .i64 0) (.int .i64 0) (.int .i64 0) (below_two (b := w.heap.size + 2) (.int .i64 0) (.slice none 0 0) HB1.out (by omega)) (by omega))
    go_wp2_with fail
    exact bodyPost_ret (by simp [results, Try.results7, go_sem, bv, uv, noT, y0, y1, x0, x1, x2, x3]) rfl ⟨_, rfl, OwnU.nil _ _, HE.out⟩
  replace hr := Decidable.not_not.1 hr
  have hp := rightB_t.1 hr
  have hlen := hp.1
  rw [hr] at HRT
  have HSK := Lib.hid (fun W (hW : Below W0.heap.size W0 W) => sought_key y (HY0.out.below hW) ((H.out.below HB0.out).below hW) hl)
  have hway : (doneZ l t y = 8 ∧ ∀ i x z, Hit (keyB y) l i x z → z = 8 ∧ x = noT) ∨ (∃ x0, doneZ l t y = 0 ∧ get l y = some x0 ∧ ∀ i x z, Hit (keyB y) l i x z → z = 0 ∧ x = x0 ∧ ∃ (k : Nat) (hk : k < l.length), i = k ∧ done l y = l.take k ++ l.drop (k + 1)) := by
    unfold doneZ
    rw [if_pos hr]
    by_cases ha : l.any (keyB y) = true
    · rw [if_pos ha]
      obtain ⟨x0, e0⟩ : ∃ x0, get l y = some x0 := by
        cases e : get l y with
        | some x => exact ⟨x, rfl⟩
        | none =>
          obtain ⟨x, hx, h2⟩ := List.any_eq_true.1 ha
          exact absurd h2 (List.find?_eq_none.1 e x hx)
      refine .inr ⟨x0, rfl, e0, ?_⟩
      rintro i x z (⟨k, hk, rfl, rfl, h1, h2, rfl⟩ | ⟨rfl, rfl, h1, rfl⟩)
      · refine ⟨rfl, ?_, k, hk, rfl, done_cut hp hk h1⟩
        have := first_of hk h1 h2
        unfold get at e0
        rw [this] at e0
        exact Option.some.inj e0
      · rw [h1] at ha; cases ha
    · rw [if_neg ha]
      refine .inl ⟨rfl, ?_⟩
      rintro i x z (⟨k, hk, rfl, rfl, h1, h2, rfl⟩ | ⟨rfl, rfl, h1, rfl⟩)
      · exact absurd (List.any_eq_true.2 ⟨_, List.getElem_mem hk, h1⟩) ha
      · exact ⟨rfl, rfl⟩
  unfold doneL doneT doneO
  clear hp hr
  rcases hway with ⟨e1, hw⟩ | ⟨xo, e1, e0, hw⟩
  · rw [e1, if_neg (by decide), if_neg (by decide), if_neg (by decide)]
    have HWAY := Lib.hid hw
    clear e1 hw
    go_enter Try.func7, Try.ntmps7
    go_upto_region 1 with (fail)
    clear hW0
    obtain ⟨c0, c1⟩ := box2 HX0.out
    have hs0 := HX0.out.1
    go_wp2_with fail
    (with_reducible refine (HRT.out _ (Below.refl _ _)).mono ?_)
    rintro e w1 ⟨rfl, hz⟩
    have HX1 := Lib.hid (HX0.out.below hz)
    have HR1 := Lib.hid (HR0.out.below hz)
    have HO1 := Lib.hid (HO0.out.below hz)
    have HB1 := Lib.hid (below_trans HB0.out hz)
    have HD1 := Lib.hid hz
    clear hz c0 c1 hs0
    obtain ⟨c0, c1⟩ := box2 HX1.out
    have hs0 := HX1.out.1
    go_wp2_with fail
    (with_reducible refine (HSK.out _ HD1.out).mono ?_)
    rintro e w2 ⟨i, x, z, rfl, hh, hz⟩
    have HX2 := Lib.hid (HX1.out.below hz)
    have HR2 := Lib.hid (HR1.out.below hz)
    have HO2 := Lib.hid (HO1.out.below hz)
    have HB2 := Lib.hid (below_trans HB1.out hz)
    have HW := Lib.hid (HWAY.out i x z hh)
    clear hz c0 c1 hs0 hh HWAY
    unfold uv
    have hbx := Box.made w2 (ocs x) 30
    have hba := al w2 (.cells #[.int .i64 x.y, .int .i64 x.k, .int .i64 x.o, .int .i64 x.d] 30)
    obtain ⟨W3, hW3⟩ : ∃ W, w2.alloc (.cells #[.int .i64 x.y, .int .i64 x.k, .int .i64 x.o, .int .i64 x.d] 30) = W := ⟨_, rfl⟩
    have HX3 : Hid (Box w2.heap.size (ocs x) W3) := Lib.hid (hW3 ▸ hbx)
    have HB3 : Hid (Below w.heap.size w W3) := Lib.hid (hW3 ▸ below_trans HB2.out hba)
    have HB4 : Hid (Box w.heap.size (bcs t (.slice a l.length cap)) W3) := Lib.hid (hW3 ▸ HX2.out.below hba)
    have HR3 : Hid (Box (w.heap.size + 2) (bcs 0 (.slice none 0 0)) W3) := Lib.hid (hW3 ▸ HR2.out.below hba)
    have HO3 : Hid (Box (w.heap.size + 3) (ocs noT) W3) := Lib.hid (hW3 ▸ HO2.out.below hba)
    have hgt : w.heap.size + 3 < w2.heap.size := HO2.out.1
    clear hbx hba
    go_upto_region 4 with (fail)
    try rw [hW3]
    clear hW3
    generalize w2.heap.size = bx at *
    obtain ⟨rfl, rfl⟩ := HW.out
    obtain ⟨y0, y1⟩ := box2 HR3.out
    obtain ⟨z0, z1⟩ := frz2 HR3.out
    obtain ⟨x0, x1, x2, x3⟩ := box4 HO3.out
    obtain ⟨u0, u1, u2, u3⟩ := frz4 HO3.out
    have hsz := HR3.out.1
    have hsz2 := HO3.out.1
    have HE := Lib.hid (below_four (b := w.heap.size + 3) (.int .i64 0) (.int .i64 0) (.int .i64 0) (.int .i64 0) (below_two (b := w.heap.size + 2) (.int .i64 0) (.slice none 0 0) HB3.out (by omega)) (by omega))
    go_wp2_with fail
    exact bodyPost_ret (by simp [results, Try.results7, go_sem, bv, uv, noT, y0, y1, x0, x1, x2, x3]) rfl ⟨_, rfl, OwnU.nil _ _, HE.out⟩
  rw [e1, if_pos rfl, if_pos rfl, if_pos rfl, e0]
  have HWAY := Lib.hid hw
  clear e1 e0 hw
  go_enter Try.func7, Try.ntmps7
  go_upto_region 1 with (fail)
  clear hW0
  obtain ⟨c0, c1⟩ := box2 HX0.out
  have hs0 := HX0.out.1
  go_wp2_with fail
  (with_reducible refine (HRT.out _ (Below.refl _ _)).mono ?_)
  rintro e w1 ⟨rfl, hz⟩
  have HX1 := Lib.hid (HX0.out.below hz)
  have HR1 := Lib.hid (HR0.out.below hz)
  have HO1 := Lib.hid (HO0.out.below hz)
  have HB1 := Lib.hid (below_trans HB0.out hz)
  have HD1 := Lib.hid hz
  clear hz c0 c1 hs0
  obtain ⟨c0, c1⟩ := box2 HX1.out
  have hs0 := HX1.out.1
  go_wp2_with fail
  (with_reducible refine (HSK.out _ HD1.out).mono ?_)
  rintro e w2 ⟨i, x, z, rfl, hh, hz⟩
  have HX2 := Lib.hid (HX1.out.below hz)
  have HR2 := Lib.hid (HR1.out.below hz)
  have HO2 := Lib.hid (HO1.out.below hz)
  have HB2 := Lib.hid (below_trans HB1.out hz)
  have HW := Lib.hid (HWAY.out i x z hh)
  clear hz c0 c1 hs0 hh HWAY
  unfold uv
  have hbx := Box.made w2 (ocs x) 30
  have hba := al w2 (.cells #[.int .i64 x.y, .int .i64 x.k, .int .i64 x.o, .int .i64 x.d] 30)
  obtain ⟨W3, hW3⟩ : ∃ W, w2.alloc (.cells #[.int .i64 x.y, .int .i64 x.k, .int .i64 x.o, .int .i64 x.d] 30) = W := ⟨_, rfl⟩
  have HX3 : Hid (Box w2.heap.size (ocs x) W3) := Lib.hid (hW3 ▸ hbx)
  have HB3 : Hid (Below w.heap.size w W3) := Lib.hid (hW3 ▸ below_trans HB2.out hba)
  have HB4 : Hid (Box w.heap.size (bcs t (.slice a l.length cap)) W3) := Lib.hid (hW3 ▸ HX2.out.below hba)
  have HR3 : Hid (Box (w.heap.size + 2) (bcs 0 (.slice none 0 0)) W3) := Lib.hid (hW3 ▸ HR2.out.below hba)
  have HO3 : Hid (Box (w.heap.size + 3) (ocs noT) W3) := Lib.hid (hW3 ▸ HO2.out.below hba)
  have hgt : w.heap.size + 3 < w2.heap.size := HO2.out.1
  clear hbx hba
  go_upto_region 4 with (fail)
  try rw [hW3]
  clear hW3
  generalize w2.heap.size = bx at *
  obtain ⟨rfl, rfl, k, hk, rfl, ed⟩ := HW.out
  clear HW
  dsimp only [Option.getD_some]
  go_upto_region 6 with (fail)
  obtain ⟨b, off, rfl, hlc, hcap, hb, _⟩ := (H.out.below HB3.out).at hk
  have d1 : (0 : Int) ≤ k := by omega
  have d2 : (k : Int) ≤ l.length := by omega
  have d3 : (k : Int) ≤ cap := by omega
  have d4 : (l.length : Int) ≤ cap := by omega
  have d6 : (0 : Int) ≤ (k : Int) + 1 := by omega
  have d7 : (k : Int) + 1 ≤ l.length := by omega
  have d8 : (k : Int) + 1 ≤ cap := by omega
  have d9 : IntKind.i64.wrap ((k : Int) + 1) = (k : Int) + 1 := IntWalk.i64_in _ (by omega)
  have d10 : ((k : Int) + 1).toNat = k + 1 := by omega
  have HED := Lib.hid ed
  clear ed
  have HROW := Lib.hid (fun W (hW : Below W3.heap.size W3 W) => URow.take ((H.out.below HB3.out).below hW) (n := k) (by omega))
  have hgo : ∀ W, Below W3.heap.size W3 W → Box bx (ocs x) W ∧ Box w.heap.size (bcs t (.slice (some ⟨b, off, none⟩) l.length cap)) W ∧ True := fun W hW => ⟨HX3.out.below hW, HB4.out.below hW, trivial⟩
  refine wp_region_noPanic ?_
  refine till_region (fun W' => Box bx (ocs x) W' ∧ Box w.heap.size (bcs t (.slice (some ⟨b, off, none⟩) l.length cap)) W' ∧ True) (fun j => decide (16 ≤ j)) (by kernel_rfl) ?_
  have HWD := Lib.hid (dr W3)
  generalize W3.drew = WD at HWD ⊢
  have hS := hgo _ HWD.out
  try simp only [Act.put, List.setIfInBounds_toArray, List.set_cons_zero, List.set_cons_succ]
  by_cases hcl : cap = k + 1
  · subst hcl
    have hkk : l.length = k + 1 := by omega
    have d11 : (k : Int) ≤ (k : Int) + 1 := by omega
    have HRW3 : Hid (∀ W, Below W3.heap.size W3 W → URow W (.slice (some ⟨b, off, none⟩) 0 0) (l.drop (k + 1))) := Lib.hid (fun W hW => by rw [List.drop_of_length_le (by omega)]; exact ⟨_, 0, rfl, Nat.le_refl _, by omega, fun h => absurd h (Nat.lt_irrefl _)⟩)
    refine takeT 0 28 [16, 17] (.pointer (some ⟨w.heap.size, 0, none⟩)) calm_np rfl rfl (by kernel_rfl) (by rfl) (by kernel_rfl) (by kernel_rfl) (by kernel_rfl) (by kernel_rfl) (by rfl) (fun w' hSw => by go_simp) hS ?_
    try simp only [Act.put, List.setIfInBounds_toArray, List.set_cons_zero, List.set_cons_succ]
    refine takeT 1 29 [16, 17] (.int .i64 t) calm_np rfl rfl (by kernel_rfl) (by rfl) (by kernel_rfl) (by kernel_rfl) (by kernel_rfl) (by kernel_rfl) (by rfl) (fun w' hSw => by obtain ⟨g0, g1, g2, g3⟩ := box4 hSw.1; obtain ⟨f0, f1⟩ := box2 hSw.2.1; have hsl := hSw.1.1; have hsl2 := hSw.2.1.1; go_simp) hS ?_
    try simp only [Act.put, List.setIfInBounds_toArray, List.set_cons_zero, List.set_cons_succ]
    refine takeT 2 30 [16, 17] (.pointer (some ⟨w.heap.size, 1, none⟩)) calm_np rfl rfl (by kernel_rfl) (by rfl) (by kernel_rfl) (by kernel_rfl) (by kernel_rfl) (by kernel_rfl) (by rfl) (fun w' hSw => by go_simp) hS ?_
    try simp only [Act.put, List.setIfInBounds_toArray, List.set_cons_zero, List.set_cons_succ]
    refine takeT 3 31 [16, 17] (.slice (some ⟨b, off, none⟩) l.length (k + 1)) calm_np rfl rfl (by kernel_rfl) (by rfl) (by kernel_rfl) (by kernel_rfl) (by kernel_rfl) (by kernel_rfl) (by rfl) (fun w' hSw => by obtain ⟨g0, g1, g2, g3⟩ := box4 hSw.1; obtain ⟨f0, f1⟩ := box2 hSw.2.1; have hsl := hSw.1.1; have hsl2 := hSw.2.1.1; go_simp) hS ?_
    try simp only [Act.put, List.setIfInBounds_toArray, List.set_cons_zero, List.set_cons_succ]
    refine takeT 4 32 [16, 17] (.int .i64 k) calm_np rfl rfl (by kernel_rfl) (by rfl) (by kernel_rfl) (by kernel_rfl) (by kernel_rfl) (by kernel_rfl) (by rfl) (fun w' hSw => by go_simp) hS ?_
    try simp only [Act.put, List.setIfInBounds_toArray, List.set_cons_zero, List.set_cons_succ]
    refine takeT 5 33 [16, 17] (.slice (some ⟨b, off, none⟩) k (k + 1)) calm_np rfl rfl (by kernel_rfl) (by rfl) (by kernel_rfl) (by kernel_rfl) (by kernel_rfl) (by kernel_rfl) (by rfl) (fun w' hSw => by go_simp) hS ?_
    try simp only [Act.put, List.setIfInBounds_toArray, List.set_cons_zero, List.set_cons_succ]
    refine takeT 6 34 [16, 17] (.pointer (some ⟨w.heap.size, 1, none⟩)) calm_np rfl rfl (by kernel_rfl) (by rfl) (by kernel_rfl) (by kernel_rfl) (by kernel_rfl) (by kernel_rfl) (by rfl) (fun w' hSw => by go_simp) hS ?_
    try simp only [Act.put, List.setIfInBounds_toArray, List.set_cons_zero, List.set_cons_succ]
    refine takeT 7 35 [16, 17] (.slice (some ⟨b, off, none⟩) l.length (k + 1)) calm_np rfl rfl (by kernel_rfl) (by rfl) (by kernel_rfl) (by kernel_rfl) (by kernel_rfl) (by kernel_rfl) (by rfl) (fun w' hSw => by obtain ⟨g0, g1, g2, g3⟩ := box4 hSw.1; obtain ⟨f0, f1⟩ := box2 hSw.2.1; have hsl := hSw.1.1; have hsl2 := hSw.2.1.1; go_simp) hS ?_
    try simp only [Act.put, List.setIfInBounds_toArray, List.set_cons_zero, List.set_cons_succ]
    refine takeT 8 36 [16, 17] (.int .i64 k) calm_np rfl rfl (by kernel_rfl) (by rfl) (by kernel_rfl) (by kernel_rfl) (by kernel_rfl) (by kernel_rfl) (by rfl) (fun w' hSw => by go_simp) hS ?_
    try simp only [Act.put, List.setIfInBounds_toArray, List.set_cons_zero, List.set_cons_succ]
    refine takeT 9 37 [16, 17] (.int .i64 ((k : Int) + 1)) calm_np rfl rfl (by kernel_rfl) (by rfl) (by kernel_rfl) (by kernel_rfl) (by kernel_rfl) (by kernel_rfl) (by rfl) (fun w' hSw => by go_simp) hS ?_
    try simp only [Act.put, List.setIfInBounds_toArray, List.set_cons_zero, List.set_cons_succ]
    refine takeT 10 38 [16, 17] (.slice (some ⟨b, off, none⟩) 0 0) calm_np rfl rfl (by kernel_rfl) (by rfl) (by kernel_rfl) (by kernel_rfl) (by kernel_rfl) (by kernel_rfl) (by rfl) (fun w' hSw => by go_simp) hS ?_
    try simp only [Act.put, List.setIfInBounds_toArray, List.set_cons_zero, List.set_cons_succ]
    refine takeT 14 42 [16, 17] (.agg #[.int .i64 x.y, .int .i64 x.k, .int .i64 x.o, .int .i64 x.d]) calm_np rfl rfl (by kernel_rfl) (by rfl) (by kernel_rfl) (by kernel_rfl) (by kernel_rfl) (by kernel_rfl) (by rfl) (fun w' hSw => by obtain ⟨g0, g1, g2, g3⟩ := box4 hSw.1; obtain ⟨f0, f1⟩ := box2 hSw.2.1; have hsl := hSw.1.1; have hsl2 := hSw.2.1.1; go_simp) hS ?_
    try simp only [Act.put, List.setIfInBounds_toArray, List.set_cons_zero, List.set_cons_succ]
    refine till_ready (rs := [11]) (by kernel_rfl) (by simp) (Each.cons rfl (fun K hK => ?_) Each.nil)
    go_simp
    have hbx := Box.made WD [.slice (some ⟨b, off, none⟩) k (k + 1), .slice (some ⟨b, off, none⟩) 0 0] 22
    have hba := al WD (.cells #[.slice (some ⟨b, off, none⟩) k (k + 1), .slice (some ⟨b, off, none⟩) 0 0] 22)
    obtain ⟨W5, hW5⟩ : ∃ W, WD.alloc (.cells #[.slice (some ⟨b, off, none⟩) k (k + 1), .slice (some ⟨b, off, none⟩) 0 0] 22) = W := ⟨_, rfl⟩
    have hbx5 : Box WD.heap.size [.slice (some ⟨b, off, none⟩) k (k + 1), .slice (some ⟨b, off, none⟩) 0 0] W5 := hW5 ▸ hbx
    rw [hW5] at hba
    rw [hW5]
    have hS5 := hgo _ (below_trans HWD.out hba)
    refine hK.out _ _ (fun _ => hS5) ?_
    clear hK hS hW5 hbx
    have hS := hS5
    try simp only [Act.put, List.setIfInBounds_toArray, List.set_cons_zero, List.set_cons_succ]
    have HCC := Lib.hid (ConcatU_two (cap := 2) hbx5 (by omega) (HROW.out _ (below_trans HWD.out hba)) (HRW3.out _ (below_trans HWD.out hba)) (by rw [List.length_take]; omega) (by rw [List.length_drop]; omega))
    have HD5 := Lib.hid (below_trans HWD.out hba)
    clear hba hS5 hbx5
    refine till_ready (rs := [12]) (by kernel_rfl) (by simp) (Each.cons rfl (fun K hK => ?_) Each.nil)
    go_simp
    (with_reducible refine HCC.out.mono ?_)
    rintro e W6 ⟨v6, rfl, hown, hz⟩
    obtain ⟨a6, n6, c6, rfl⟩ : ∃ a n c, v6 = .slice a n c := (by obtain ⟨a', c', e⟩ := hown.row.slice; exact ⟨a', _, c', e⟩)
    have hS6 := hgo _ (below_trans HD5.out hz)
    go_simp
    refine hK.out _ _ (fun _ => hS6) ?_
    clear hK hS
    have hS := hS6
    try simp only [Act.put, List.setIfInBounds_toArray, List.set_cons_zero, List.set_cons_succ]
    have hge : w.heap.size + 3 < W5.heap.size := by have := HD5.out.size; have := HO3.out.1; omega
    have HO := Lib.hid (hown.mono (B' := w.heap.size + 4) (by omega))
    have HD6 := Lib.hid (below_trans HB3.out (below_trans HD5.out hz))
    have hr6 := HR3.out.below (below_trans HD5.out hz)
    have ho6 := HO3.out.below (below_trans HD5.out hz)
    clear hown hz hS6 hge
    refine takeT 13 41 [16, 17] (.agg #[.int .i64 t, .slice a6 n6 c6]) calm_np rfl rfl (by kernel_rfl) (by rfl) (by kernel_rfl) (by kernel_rfl) (by kernel_rfl) (by kernel_rfl) (by rfl) (fun w' hSw => by go_simp) hS ?_
    try simp only [Act.put, List.setIfInBounds_toArray, List.set_cons_zero, List.set_cons_succ]
    obtain ⟨y0, y1⟩ := box2 hr6
    obtain ⟨z0, z1⟩ := frz2 hr6
    have hsz := hr6.1
    obtain ⟨x0, x1, x2, x3⟩ := box4 ho6
    obtain ⟨u0, u1, u2, u3⟩ := frz4 ho6
    have hsz2 := ho6.1
    have HE := Lib.hid (below_four (b := w.heap.size + 3) (.int .i64 x.y) (.int .i64 x.k) (.int .i64 x.o) (.int .i64 x.d) (below_two (b := w.heap.size + 2) (.int .i64 t) (.slice a6 n6 c6) HD6.out (by omega)) (by omega))
    have HO9 := Lib.hid (((((((HO.out.far (by omega : w.heap.size + 2 < w.heap.size + 4) 0 (.int .i64 t)).far (by omega : w.heap.size + 2 < w.heap.size + 4) 1 (.slice a6 n6 c6)).far (by omega : w.heap.size + 3 < w.heap.size + 4) 0 (.int .i64 x.y)).far (by omega : w.heap.size + 3 < w.heap.size + 4) 1 (.int .i64 x.k)).far (by omega : w.heap.size + 3 < w.heap.size + 4) 2 (.int .i64 x.o)).far (by omega : w.heap.size + 3 < w.heap.size + 4) 3 (.int .i64 x.d)).mono (B' := w.heap.size) (by omega))
    refine till_ready (rs := [15]) (by kernel_rfl) (by simp) (Each.cons rfl (fun K hK => ?_) Each.nil)
    go_simp
    have hS7 : Box bx (ocs x) ((W6.setCell ⟨w.heap.size + 2, 0, none⟩ (.int .i64 t)).setCell ⟨w.heap.size + 2, 1, none⟩ (.slice a6 n6 c6)) ∧ Box w.heap.size (bcs t (.slice (some ⟨b, off, none⟩) l.length (k + 1))) ((W6.setCell ⟨w.heap.size + 2, 0, none⟩ (.int .i64 t)).setCell ⟨w.heap.size + 2, 1, none⟩ (.slice a6 n6 c6)) ∧ True := ⟨box_set_other (box_set_other hS.1 (by omega) _) (by omega) _, box_set_other (box_set_other hS.2.1 (by omega) _) (by omega) _, trivial⟩
    refine hK.out _ _ (fun _ => hS7) ?_
    clear hK hS7
    try simp only [Act.put, List.setIfInBounds_toArray, List.set_cons_zero, List.set_cons_succ]
    refine till_ready (rs := [16]) (by kernel_rfl) (by simp) (Each.cons rfl (fun K hK => ?_) Each.nil)
    go_simp
    refine hK.out _ _ (fun h => by cases h) ?_
    clear hK
    try simp only [Act.put, List.setIfInBounds_toArray, List.set_cons_zero, List.set_cons_succ]
    refine till_ready (rs := [17]) (by kernel_rfl) (by simp) (Each.cons rfl (fun K hK => ?_) Each.nil)
    go_simp
    refine hK.out _ _ (fun h => by cases h) ?_
    clear hK
    try simp only [Act.put, List.setIfInBounds_toArray, List.set_cons_zero, List.set_cons_succ]
    refine till_done (by kernel_rfl) ?_ _
    refine NoPanic.normal ?_
    go_wp2_with fail
    exact bodyPost_ret (by simp [results, Try.results7, go_sem, bv, uv, y0, y1, x0, x1, x2, x3]) rfl ⟨.slice a6 n6 c6, rfl, by rw [HED.out]; exact HO9.out, HE.out⟩
  · have d5 : (cap = k + 1) = False := eq_false hcl
    have HRW3 : Hid (∀ W, Below W3.heap.size W3 W → URow W (.slice (some ⟨b, off + (k + 1) * 4, none⟩) (l.length - (k + 1)) (cap - (k + 1))) (l.drop (k + 1))) := Lib.hid (fun W hW => by have := URow.drop ((H.out.below HB3.out).below hW) (n := k + 1) (by omega); rwa [addr_add] at this)
    refine takeT 0 28 [16, 17] (.pointer (some ⟨w.heap.size, 0, none⟩)) calm_np rfl rfl (by kernel_rfl) (by rfl) (by kernel_rfl) (by kernel_rfl) (by kernel_rfl) (by kernel_rfl) (by rfl) (fun w' hSw => by go_simp) hS ?_
    try simp only [Act.put, List.setIfInBounds_toArray, List.set_cons_zero, List.set_cons_succ]
    refine takeT 1 29 [16, 17] (.int .i64 t) calm_np rfl rfl (by kernel_rfl) (by rfl) (by kernel_rfl) (by kernel_rfl) (by kernel_rfl) (by kernel_rfl) (by rfl) (fun w' hSw => by obtain ⟨g0, g1, g2, g3⟩ := box4 hSw.1; obtain ⟨f0, f1⟩ := box2 hSw.2.1; have hsl := hSw.1.1; have hsl2 := hSw.2.1.1; go_simp) hS ?_
    try simp only [Act.put, List.setIfInBounds_toArray, List.set_cons_zero, List.set_cons_succ]
    refine takeT 2 30 [16, 17] (.pointer (some ⟨w.heap.size, 1, none⟩)) calm_np rfl rfl (by kernel_rfl) (by rfl) (by kernel_rfl) (by kernel_rfl) (by kernel_rfl) (by kernel_rfl) (by rfl) (fun w' hSw => by go_simp) hS ?_
    try simp only [Act.put, List.setIfInBounds_toArray, List.set_cons_zero, List.set_cons_succ]
    refine takeT 3 31 [16, 17] (.slice (some ⟨b, off, none⟩) l.length cap) calm_np rfl rfl (by kernel_rfl) (by rfl) (by kernel_rfl) (by kernel_rfl) (by kernel_rfl) (by kernel_rfl) (by rfl) (fun w' hSw => by obtain ⟨g0, g1, g2, g3⟩ := box4 hSw.1; obtain ⟨f0, f1⟩ := box2 hSw.2.1; have hsl := hSw.1.1; have hsl2 := hSw.2.1.1; go_simp) hS ?_
    try simp only [Act.put, List.setIfInBounds_toArray, List.set_cons_zero, List.set_cons_succ]
    refine takeT 4 32 [16, 17] (.int .i64 k) calm_np rfl rfl (by kernel_rfl) (by rfl) (by kernel_rfl) (by kernel_rfl) (by kernel_rfl) (by kernel_rfl) (by rfl) (fun w' hSw => by go_simp) hS ?_
    try simp only [Act.put, List.setIfInBounds_toArray, List.set_cons_zero, List.set_cons_succ]
    refine takeT 5 33 [16, 17] (.slice (some ⟨b, off, none⟩) k cap) calm_np rfl rfl (by kernel_rfl) (by rfl) (by kernel_rfl) (by kernel_rfl) (by kernel_rfl) (by kernel_rfl) (by rfl) (fun w' hSw => by go_simp) hS ?_
    try simp only [Act.put, List.setIfInBounds_toArray, List.set_cons_zero, List.set_cons_succ]
    refine takeT 6 34 [16, 17] (.pointer (some ⟨w.heap.size, 1, none⟩)) calm_np rfl rfl (by kernel_rfl) (by rfl) (by kernel_rfl) (by kernel_rfl) (by kernel_rfl) (by kernel_rfl) (by rfl) (fun w' hSw => by go_simp) hS ?_
    try simp only [Act.put, List.setIfInBounds_toArray, List.set_cons_zero, List.set_cons_succ]
    refine takeT 7 35 [16, 17] (.slice (some ⟨b, off, none⟩) l.length cap) calm_np rfl rfl (by kernel_rfl) (by rfl) (by kernel_rfl) (by kernel_rfl) (by kernel_rfl) (by kernel_rfl) (by rfl) (fun w' hSw => by obtain ⟨g0, g1, g2, g3⟩ := box4 hSw.1; obtain ⟨f0, f1⟩ := box2 hSw.2.1; have hsl := hSw.1.1; have hsl2 := hSw.2.1.1; go_simp) hS ?_
    try simp only [Act.put, List.setIfInBounds_toArray, List.set_cons_zero, List.set_cons_succ]
    refine takeT 8 36 [16, 17] (.int .i64 k) calm_np rfl rfl (by kernel_rfl) (by rfl) (by kernel_rfl) (by kernel_rfl) (by kernel_rfl) (by kernel_rfl) (by rfl) (fun w' hSw => by go_simp) hS ?_
    try simp only [Act.put, List.setIfInBounds_toArray, List.set_cons_zero, List.set_cons_succ]
    refine takeT 9 37 [16, 17] (.int .i64 ((k : Int) + 1)) calm_np rfl rfl (by kernel_rfl) (by rfl) (by kernel_rfl) (by kernel_rfl) (by kernel_rfl) (by kernel_rfl) (by rfl) (fun w' hSw => by go_simp) hS ?_
    try simp only [Act.put, List.setIfInBounds_toArray, List.set_cons_zero, List.set_cons_succ]
    refine takeT 10 38 [16, 17] (.slice (some ⟨b, off + (k + 1) * 4, none⟩) (l.length - (k + 1)) (cap - (k + 1))) calm_np rfl rfl (by kernel_rfl) (by rfl) (by kernel_rfl) (by kernel_rfl) (by kernel_rfl) (by kernel_rfl) (by rfl) (fun w' hSw => by go_simp) hS ?_
    try simp only [Act.put, List.setIfInBounds_toArray, List.set_cons_zero, List.set_cons_succ]
    refine takeT 14 42 [16, 17] (.agg #[.int .i64 x.y, .int .i64 x.k, .int .i64 x.o, .int .i64 x.d]) calm_np rfl rfl (by kernel_rfl) (by rfl) (by kernel_rfl) (by kernel_rfl) (by kernel_rfl) (by kernel_rfl) (by rfl) (fun w' hSw => by obtain ⟨g0, g1, g2, g3⟩ := box4 hSw.1; obtain ⟨f0, f1⟩ := box2 hSw.2.1; have hsl := hSw.1.1; have hsl2 := hSw.2.1.1; go_simp) hS ?_
    try simp only [Act.put, List.setIfInBounds_toArray, List.set_cons_zero, List.set_cons_succ]
    refine till_ready (rs := [11]) (by kernel_rfl) (by simp) (Each.cons rfl (fun K hK => ?_) Each.nil)
    go_simp
    have hbx := Box.made WD [.slice (some ⟨b, off, none⟩) k cap, .slice (some ⟨b, off + (k + 1) * 4, none⟩) (l.length - (k + 1)) (cap - (k + 1))] 22
    have hba := al WD (.cells #[.slice (some ⟨b, off, none⟩) k cap, .slice (some ⟨b, off + (k + 1) * 4, none⟩) (l.length - (k + 1)) (cap - (k + 1))] 22)
    obtain ⟨W5, hW5⟩ : ∃ W, WD.alloc (.cells #[.slice (some ⟨b, off, none⟩) k cap, .slice (some ⟨b, off + (k + 1) * 4, none⟩) (l.length - (k + 1)) (cap - (k + 1))] 22) = W := ⟨_, rfl⟩
    have hbx5 : Box WD.heap.size [.slice (some ⟨b, off, none⟩) k cap, .slice (some ⟨b, off + (k + 1) * 4, none⟩) (l.length - (k + 1)) (cap - (k + 1))] W5 := hW5 ▸ hbx
    rw [hW5] at hba
    rw [hW5]
    have hS5 := hgo _ (below_trans HWD.out hba)
    refine hK.out _ _ (fun _ => hS5) ?_
    clear hK hS hW5 hbx
    have hS := hS5
    try simp only [Act.put, List.setIfInBounds_toArray, List.set_cons_zero, List.set_cons_succ]
    have HCC := Lib.hid (ConcatU_two (cap := 2) hbx5 (by omega) (HROW.out _ (below_trans HWD.out hba)) (HRW3.out _ (below_trans HWD.out hba)) (by rw [List.length_take]; omega) (by rw [List.length_drop]; omega))
    have HD5 := Lib.hid (below_trans HWD.out hba)
    clear hba hS5 hbx5
    refine till_ready (rs := [12]) (by kernel_rfl) (by simp) (Each.cons rfl (fun K hK => ?_) Each.nil)
    go_simp
    (with_reducible refine HCC.out.mono ?_)
    rintro e W6 ⟨v6, rfl, hown, hz⟩
    obtain ⟨a6, n6, c6, rfl⟩ : ∃ a n c, v6 = .slice a n c := (by obtain ⟨a', c', e⟩ := hown.row.slice; exact ⟨a', _, c', e⟩)
    have hS6 := hgo _ (below_trans HD5.out hz)
    go_simp
    refine hK.out _ _ (fun _ => hS6) ?_
    clear hK hS
    have hS := hS6
    try simp only [Act.put, List.setIfInBounds_toArray, List.set_cons_zero, List.set_cons_succ]
    have hge : w.heap.size + 3 < W5.heap.size := by have := HD5.out.size; have := HO3.out.1; omega
    have HO := Lib.hid (hown.mono (B' := w.heap.size + 4) (by omega))
    have HD6 := Lib.hid (below_trans HB3.out (below_trans HD5.out hz))
    have hr6 := HR3.out.below (below_trans HD5.out hz)
    have ho6 := HO3.out.below (below_trans HD5.out hz)
    clear hown hz hS6 hge
    refine takeT 13 41 [16, 17] (.agg #[.int .i64 t, .slice a6 n6 c6]) calm_np rfl rfl (by kernel_rfl) (by rfl) (by kernel_rfl) (by kernel_rfl) (by kernel_rfl) (by kernel_rfl) (by rfl) (fun w' hSw => by go_simp) hS ?_
    try simp only [Act.put, List.setIfInBounds_toArray, List.set_cons_zero, List.set_cons_succ]
    obtain ⟨y0, y1⟩ := box2 hr6
    obtain ⟨z0, z1⟩ := frz2 hr6
    have hsz := hr6.1
    obtain ⟨x0, x1, x2, x3⟩ := box4 ho6
    obtain ⟨u0, u1, u2, u3⟩ := frz4 ho6
    have hsz2 := ho6.1
    have HE := Lib.hid (below_four (b := w.heap.size + 3) (.int .i64 x.y) (.int .i64 x.k) (.int .i64 x.o) (.int .i64 x.d) (below_two (b := w.heap.size + 2) (.int .i64 t) (.slice a6 n6 c6) HD6.out (by omega)) (by omega))
    have HO9 := Lib.hid (((((((HO.out.far (by omega : w.heap.size + 2 < w.heap.size + 4) 0 (.int .i64 t)).far (by omega : w.heap.size + 2 < w.heap.size + 4) 1 (.slice a6 n6 c6)).far (by omega : w.heap.size + 3 < w.heap.size + 4) 0 (.int .i64 x.y)).far (by omega : w.heap.size + 3 < w.heap.size + 4) 1 (.int .i64 x.k)).far (by omega : w.heap.size + 3 < w.heap.size + 4) 2 (.int .i64 x.o)).far (by omega : w.heap.size + 3 < w.heap.size + 4) 3 (.int .i64 x.d)).mono (B' := w.heap.size) (by omega))
    refine till_ready (rs := [15]) (by kernel_rfl) (by simp) (Each.cons rfl (fun K hK => ?_) Each.nil)
    go_simp
    have hS7 : Box bx (ocs x) ((W6.setCell ⟨w.heap.size + 2, 0, none⟩ (.int .i64 t)).setCell ⟨w.heap.size + 2, 1, none⟩ (.slice a6 n6 c6)) ∧ Box w.heap.size (bcs t (.slice (some ⟨b, off, none⟩) l.length cap)) ((W6.setCell ⟨w.heap.size + 2, 0, none⟩ (.int .i64 t)).setCell ⟨w.heap.size + 2, 1, none⟩ (.slice a6 n6 c6)) ∧ True := ⟨box_set_other (box_set_other hS.1 (by omega) _) (by omega) _, box_set_other (box_set_other hS.2.1 (by omega) _) (by omega) _, trivial⟩
    refine hK.out _ _ (fun _ => hS7) ?_
    clear hK hS7
    try simp only [Act.put, List.setIfInBounds_toArray, List.set_cons_zero, List.set_cons_succ]
    refine till_ready (rs := [16]) (by kernel_rfl) (by simp) (Each.cons rfl (fun K hK => ?_) Each.nil)
    go_simp
    refine hK.out _ _ (fun h => by cases h) ?_
    clear hK
    try simp only [Act.put, List.setIfInBounds_toArray, List.set_cons_zero, List.set_cons_succ]
    refine till_ready (rs := [17]) (by kernel_rfl) (by simp) (Each.cons rfl (fun K hK => ?_) Each.nil)
    go_simp
    refine hK.out _ _ (fun h => by cases h) ?_
    clear hK
    try simp only [Act.put, List.setIfInBounds_toArray, List.set_cons_zero, List.set_cons_succ]
    refine till_done (by kernel_rfl) ?_ _
    refine NoPanic.normal ?_
    go_wp2_with fail
    exact bodyPost_ret (by simp [results, Try.results7, go_sem, bv, uv, y0, y1, x0, x1, x2, x3]) rfl ⟨.slice a6 n6 c6, rfl, by rw [HED.out]; exact HO9.out, HE.out⟩

theorem box_put {b : Nat} {vs : List Value} {w : World} (h : Box b vs w) (j : Nat) (v : Value) (_hj : j < vs.length) : Box b (vs.set j v) (w.setCell ⟨b, j, none⟩ v) := by
  refine ⟨by simpa using h.1, fun i u hi => ?_⟩
  have hil : i < vs.length := by simpa using (List.getElem?_eq_some_iff.1 hi).1
  rw [World.frozen?_setCell]
  have hc := h.2 i vs[i] (by simp [hil])
  refine ⟨?_, hc.2⟩
  by_cases e : j = i
  · subst e
    rw [World.cell?_setCell_same _ _ _ hc.1]
    simpa [hil] using hi
  · rw [World.cell?_setCell_other _ _ _ _ (by intro hh; injection hh; contradiction), hc.1]
    rw [List.getElem?_set_ne e] at hi
    simpa [hil] using hi
theorem box_four {b : Nat} {c0 c1 c2 c3 : Value} {w : World} (h : Box b [c0, c1, c2, c3] w) (u0 u1 u2 u3 : Value) :
    Box b [u0, u1, u2, u3] ((((w.setCell ⟨b, 0, none⟩ u0).setCell ⟨b, 1, none⟩ u1).setCell ⟨b, 2, none⟩ u2).setCell ⟨b, 3, none⟩ u3) :=
  box_put (box_put (box_put (box_put h 0 u0 (by simp)) 1 u1 (by simp)) 2 u2 (by simp)) 3 u3 (by simp)
/-- Something told and an error are returned. -/
def FindE (x : Ot) (z : Int) (w : World) (e : Ending) (w' : World) : Prop := e = .returned (.tuple #[uv x, .int .i64 z]) ∧ Below w.heap.size w w'
def findZ (l : List Ot) (t k o : Int) : Int := if rightB l t = true then (if l.any (ofB k o) = true then 0 else 8) else 1
def findO (l : List Ot) (t k o : Int) : Ot := if findZ l t k o = 0 then (find l k o).getD noT else noT

set_option maxRecDepth 100000 in
set_option maxHeartbeats 8000000 in
theorem Find_any {v : Value} {l : List Ot} {w : World} (t k o : Int) (h : URow w v l) (hl : l.length ≤ 1000) : Calls Try.prog 8 #[bv t v, .int .i64 k, .int .i64 o] w (FindE (findO l t k o) (findZ l t k o) w) := by
  obtain ⟨a, cap, rfl⟩ := h.slice
  have H := Lib.hid h
  obtain ⟨hx0, hx1⟩ := two_boxes w (bcs t (.slice a l.length cap)) (ocs noT) 24 30
  have hb0 := two_al w (.cells #[.int .i64 t, .slice a l.length cap] 24) (.cells #[.int .i64 0, .int .i64 0, .int .i64 0, .int .i64 0] 30)
  obtain ⟨W0, hW0⟩ : ∃ W, (w.alloc (.cells #[.int .i64 t, .slice a l.length cap] 24)).alloc (.cells #[.int .i64 0, .int .i64 0, .int .i64 0, .int .i64 0] 30) = W := ⟨_, rfl⟩
  have HX0 : Hid (Box w.heap.size (bcs t (.slice a l.length cap)) W0) := Lib.hid (hW0 ▸ hx0)
  have HR0 : Hid (Box (w.heap.size + 1) (ocs noT) W0) := Lib.hid (hW0 ▸ hx1)
  have HB0 : Hid (Below w.heap.size w W0) := Lib.hid (hW0 ▸ hb0)
  have HRT := Lib.hid (fun W (hW : Below W0.heap.size W0 W) => Right_any t ((H.out.below HB0.out).below hW) hl)
  unfold bv at HRT ⊢
  clear h hx0 hx1 hb0
  by_cases hr : ¬ rightB l t = true
  · have e1 : findZ l t k o = 1 := if_neg hr
    rw [show rightB l t = false by simpa using hr] at HRT
    unfold findO
    rw [e1, if_neg (by decide)]
    clear hr e1
    go_enter Try.func8, Try.ntmps8
    go_upto_region 1 with (fail)
    clear hW0
    obtain ⟨c0, c1⟩ := box2 HX0.out
    have hs0 := HX0.out.1
    go_wp2_with fail
    (with_reducible refine (HRT.out _ (Below.refl _ _)).mono ?_)
    rintro e w1 ⟨rfl, hz⟩
    have HX1 := Lib.hid (HX0.out.below hz)
    have HR1 := Lib.hid (HR0.out.below hz)
    have HB1 := Lib.hid (below_trans HB0.out hz)
    have HD1 := Lib.hid hz
    clear hz c0 c1 hs0
    obtain ⟨x0, x1, x2, x3⟩ := box4 HR1.out
    obtain ⟨u0, u1, u2, u3⟩ := frz4 HR1.out
    have hsz2 := HR1.out.1
    have HE := Lib.hid (below_four (b := w.heap.size + 1) (.int .i64 0) (.int .i64 0) (.int .i64 0) (.int .i64 0) HB1.out (by omega))
    go_wp2_with fail
    exact bodyPost_ret (by simp [results, Try.results8, go_sem, uv, noT, x0, x1, x2, x3]) rfl ⟨rfl, HE.out⟩
  replace hr := Decidable.not_not.1 hr
  rw [hr] at HRT
  have HWAY : Hid (∀ i x z, Hit (ofB k o) l i x z → findZ l t k o = z ∧ findO l t k o = x) := Lib.hid (by
    unfold findO findZ
    rintro i x z (⟨j, hk, rfl, rfl, h1, h2, rfl⟩ | ⟨rfl, rfl, h1, rfl⟩)
    · rw [if_pos hr, if_pos (List.any_eq_true.2 ⟨_, List.getElem_mem hk, h1⟩)]
      refine ⟨rfl, ?_⟩
      rw [if_pos rfl, show find l k o = some l[j] from first_of hk h1 h2]
      rfl
    · rw [if_pos hr, if_neg (by rw [h1]; decide)]
      exact ⟨rfl, rfl⟩)
  have HI := Lib.hid (fun W => isOf_any k o W)
  have HSK := Lib.hid (fun W g g' (hW : Below w.heap.size w W) (h1 : Box g [.int .i64 k] W) (h2 : Box g' [.int .i64 o] W) => sought_is k o h1 h2 (H.out.below hW) hl)
  clear hr
  go_enter Try.func8, Try.ntmps8
  go_upto_region 1 with (fail)
  clear hW0
  obtain ⟨c0, c1⟩ := box2 HX0.out
  have hs0 := HX0.out.1
  go_wp2_with fail
  (with_reducible refine (HRT.out _ (Below.refl _ _)).mono ?_)
  rintro e w1 ⟨rfl, hz⟩
  have HX1 := Lib.hid (HX0.out.below hz)
  have HR1 := Lib.hid (HR0.out.below hz)
  have HB1 := Lib.hid (below_trans HB0.out hz)
  have HD1 := Lib.hid hz
  clear hz c0 c1 hs0
  go_upto_region 3 with (fail)
  obtain ⟨c0, c1⟩ := box2 HX1.out
  have hs0 := HX1.out.1
  have HGO := Lib.hid (fun W (hW : Below w1.heap.size w1 W) => And.intro (box2 (HX1.out.below hW)) (HX1.out.below hW).1)
  go_cut [8, 9, 10] from 11 to 24 (fun i bx z wx => ∃ (n : Int) (x : Ot) (z0 : Int) (g : Nat), i = .int .i64 n ∧ bx = .pointer (some ⟨g, 0, none⟩) ∧ z = .int .i64 z0 ∧ Hit (ofB k o) l n x z0 ∧ Box g (ocs x) wx ∧ Box (w.heap.size + 1) (ocs noT) wx ∧ Below w.heap.size w wx)
  case first =>
    refine wp_region_noPanic ?_
    refine till_region (fun W' => Box w.heap.size (bcs t (.slice a l.length cap)) W') (fun j => decide (13 ≤ j)) (by kernel_rfl) ?_
    have HWD := Lib.hid (dr w1)
    generalize w1.drew = WD at HWD ⊢
    have hS := HX1.out.below HWD.out
    have HBD := Lib.hid (below_trans HB1.out HWD.out)
    have HRD := Lib.hid (HR1.out.below HWD.out)
    try simp only [Act.put, List.setIfInBounds_toArray, List.set_cons_zero, List.set_cons_succ]
    refine takeT 0 16 [11, 12, 13] (.pointer (some ⟨w.heap.size, 1, none⟩)) calm_np rfl rfl (by kernel_rfl) (by rfl) (by kernel_rfl) (by kernel_rfl) (by kernel_rfl) (by kernel_rfl) (by rfl) (fun w' hSw => by go_simp) hS ?_
    try simp only [Act.put, List.setIfInBounds_toArray, List.set_cons_zero, List.set_cons_succ]
    refine takeT 1 17 [11, 12, 13] (.slice a l.length cap) calm_np rfl rfl (by kernel_rfl) (by rfl) (by kernel_rfl) (by kernel_rfl) (by kernel_rfl) (by kernel_rfl) (by rfl) (fun w' hSw => by obtain ⟨f0, f1⟩ := box2 hSw; have hsl := hSw.1; go_simp) hS ?_
    try simp only [Act.put, List.setIfInBounds_toArray, List.set_cons_zero, List.set_cons_succ]
    refine takeT 2 18 [11, 12, 13] (.int .i64 k) calm_np rfl rfl (by kernel_rfl) (by rfl) (by kernel_rfl) (by kernel_rfl) (by kernel_rfl) (by kernel_rfl) (by rfl) (fun w' hSw => by go_simp) hS ?_
    try simp only [Act.put, List.setIfInBounds_toArray, List.set_cons_zero, List.set_cons_succ]
    refine takeT 3 19 [11, 12, 13] (.int .i64 o) calm_np rfl rfl (by kernel_rfl) (by rfl) (by kernel_rfl) (by kernel_rfl) (by kernel_rfl) (by kernel_rfl) (by rfl) (fun w' hSw => by go_simp) hS ?_
    try simp only [Act.put, List.setIfInBounds_toArray, List.set_cons_zero, List.set_cons_succ]
    have hb := HBD.out
    have hr := HRD.out
    refine till_ready (rs := [4, 10]) (by kernel_rfl) (by simp) (Each.cons rfl (fun K hK => ?_) (Each.cons rfl (fun K hK => ?_) Each.nil))
    · go_simp
      (with_reducible refine (HI.out _).mono ?_)
      rintro e W4 ⟨g, g', rfl, hg, hg', hz⟩
      have hS4 := hS.below hz
      have hb4 := below_trans hb hz
      have hr4 := hr.below hz
      go_simp
      refine hK.out _ _ (fun _ => hS4) ?_
      clear hK hS hb hr hz
      have hS := hS4
      have hb := hb4
      have hr := hr4
      clear hS4 hb4 hr4
      try simp only [Act.put, List.setIfInBounds_toArray, List.set_cons_zero, List.set_cons_succ]
      refine till_ready (rs := [5, 10]) (by kernel_rfl) (by simp) (Each.cons rfl (fun K hK => ?_) (Each.cons rfl (fun K hK => ?_) Each.nil))
      · go_simp
        (with_reducible refine (HSK.out _ _ _ hb hg hg').mono ?_)
        rintro e W5 ⟨i, x, z, rfl, hh, hz⟩
        unfold uv
        have hS5 := hS.below hz
        have hb5 := below_trans hb hz
        have hr5 := hr.below hz
        go_simp
        refine hK.out _ _ (fun _ => hS5) ?_
        clear hK hS hb hr hz
        have hS := hS5
        have hb := hb5
        have hr := hr5
        clear hS5 hb5 hr5
        clear hg hg'
        try simp only [Act.put, List.setIfInBounds_toArray, List.set_cons_zero, List.set_cons_succ]
        refine takeT 6 15 [11, 12, 13] (.tuple #[.int .i64 i, .agg #[.int .i64 x.y, .int .i64 x.k, .int .i64 x.o, .int .i64 x.d], .int .i64 z]) calm_np rfl rfl (by kernel_rfl) (by rfl) (by kernel_rfl) (by kernel_rfl) (by kernel_rfl) (by kernel_rfl) (by rfl) (fun w' hSw => by go_simp) hS ?_
        try simp only [Act.put, List.setIfInBounds_toArray, List.set_cons_zero, List.set_cons_succ]
        refine takeT 7 22 [11, 12, 13] (.int .i64 i) calm_np rfl rfl (by kernel_rfl) (by rfl) (by kernel_rfl) (by kernel_rfl) (by kernel_rfl) (by kernel_rfl) (by rfl) (fun w' hSw => by go_simp) hS ?_
        try simp only [Act.put, List.setIfInBounds_toArray, List.set_cons_zero, List.set_cons_succ]
        refine takeT 8 23 [12, 13] (.agg #[.int .i64 x.y, .int .i64 x.k, .int .i64 x.o, .int .i64 x.d]) calm_np rfl rfl (by kernel_rfl) (by rfl) (by kernel_rfl) (by kernel_rfl) (by kernel_rfl) (by kernel_rfl) (by rfl) (fun w' hSw => by go_simp) hS ?_
        try simp only [Act.put, List.setIfInBounds_toArray, List.set_cons_zero, List.set_cons_succ]
        refine takeT 9 24 [13] (.int .i64 z) calm_np rfl rfl (by kernel_rfl) (by rfl) (by kernel_rfl) (by kernel_rfl) (by kernel_rfl) (by kernel_rfl) (by rfl) (fun w' hSw => by go_simp) hS ?_
        try simp only [Act.put, List.setIfInBounds_toArray, List.set_cons_zero, List.set_cons_succ]
        refine till_ready (rs := [10]) (by kernel_rfl) (by simp) (Each.cons rfl (fun K hK => ?_) Each.nil)
        go_simp
        have hba := al W5 (.cells #[.int .i64 0, .int .i64 0, .int .i64 0, .int .i64 0] 30)
        have hbx := Box.made W5 (ocs noT) 30
        obtain ⟨W6, hW⟩ : ∃ W, W5.alloc (.cells #[.int .i64 0, .int .i64 0, .int .i64 0, .int .i64 0] 30) = W := ⟨_, rfl⟩
        replace hbx : Box W5.heap.size (ocs noT) W6 := hW ▸ hbx
        rw [hW] at hba
        rw [hW]
        have hlt : w.heap.size + 1 < W5.heap.size := hr.1
        have hS6 := hS.below hba
        have hb6 := below_trans hb hba
        have hr6 := hr.below hba
        refine hK.out _ _ (fun _ => hS6) ?_
        clear hK hS hb hr hW hba
        have hS := hS6
        have hb := hb6
        have hr := hr6
        clear hS6 hb6 hr6
        generalize W5.heap.size = bx at hbx hlt ⊢
        try simp only [Act.put, List.setIfInBounds_toArray, List.set_cons_zero, List.set_cons_succ]
        refine till_ready (rs := [11]) (by kernel_rfl) (by simp) (Each.cons rfl (fun K hK => ?_) Each.nil)
        go_simp
        refine hK.out _ _ (fun _ => hS) ?_
        clear hK
        try simp only [Act.put, List.setIfInBounds_toArray, List.set_cons_zero, List.set_cons_succ]
        obtain ⟨x0, x1, x2, x3⟩ := box4 hbx
        obtain ⟨u0, u1, u2, u3⟩ := frz4 hbx
        have hsz := hbx.1
        have HE := Lib.hid (below_four (b := bx) (.int .i64 x.y) (.int .i64 x.k) (.int .i64 x.o) (.int .i64 x.d) hb (by omega))
        have HFB := Lib.hid (box_four hbx (.int .i64 x.y) (.int .i64 x.k) (.int .i64 x.o) (.int .i64 x.d))
        have HRB := Lib.hid (box_set_other (j := 3) (box_set_other (j := 2) (box_set_other (j := 1) (box_set_other (j := 0) hr (g := bx) (by omega) (.int .i64 x.y)) (g := bx) (by omega) (.int .i64 x.k)) (g := bx) (by omega) (.int .i64 x.o)) (g := bx) (by omega) (.int .i64 x.d))
        refine till_ready (rs := [12]) (by kernel_rfl) (by simp) (Each.cons rfl (fun K hK => ?_) Each.nil)
        go_simp
        refine hK.out _ _ (fun _ => box_set_other (box_set_other (box_set_other (box_set_other hS (by omega) _) (by omega) _) (by omega) _) (by omega) _) ?_
        clear hK
        try simp only [Act.put, List.setIfInBounds_toArray, List.set_cons_zero, List.set_cons_succ]
        refine till_ready (rs := [13]) (by kernel_rfl) (by simp) (Each.cons rfl (fun K hK => ?_) Each.nil)
        go_simp
        refine hK.out _ _ (fun h => by cases h) ?_
        clear hK
        try simp only [Act.put, List.setIfInBounds_toArray, List.set_cons_zero, List.set_cons_succ]
        refine till_done (by kernel_rfl) ?_ _
        refine NoPanic.normal ?_
        go_wp2_with fail
        go_meet
        exact ⟨i, x, z, bx, rfl, rfl, rfl, hh, HFB.out, HRB.out, HE.out⟩
      · go_simp
        have hba := al W4 (.cells #[.int .i64 0, .int .i64 0, .int .i64 0, .int .i64 0] 30)
        have hbx := Box.made W4 (ocs noT) 30
        obtain ⟨W6, hW⟩ : ∃ W, W4.alloc (.cells #[.int .i64 0, .int .i64 0, .int .i64 0, .int .i64 0] 30) = W := ⟨_, rfl⟩
        replace hbx : Box W4.heap.size (ocs noT) W6 := hW ▸ hbx
        rw [hW] at hba
        rw [hW]
        have hlt : w.heap.size + 1 < W4.heap.size := hr.1
        have hS6 := hS.below hba
        have hb6 := below_trans hb hba
        have hr6 := hr.below hba
        replace hg := hg.below hba
        replace hg' := hg'.below hba
        refine hK.out _ _ (fun _ => hS6) ?_
        clear hK hS hb hr hW hba
        have hS := hS6
        have hb := hb6
        have hr := hr6
        clear hS6 hb6 hr6
        generalize W4.heap.size = bx at hbx hlt ⊢
        try simp only [Act.put, List.setIfInBounds_toArray, List.set_cons_zero, List.set_cons_succ]
        refine till_ready (rs := [5]) (by kernel_rfl) (by simp) (Each.cons rfl (fun K hK => ?_) Each.nil)
        go_simp
        (with_reducible refine (HSK.out _ _ _ hb hg hg').mono ?_)
        rintro e W5 ⟨i, x, z, rfl, hh, hz⟩
        unfold uv
        have hS5 := hS.below hz
        have hb5 := below_trans hb hz
        have hr5 := hr.below hz
        replace hbx := hbx.below hz
        go_simp
        refine hK.out _ _ (fun _ => hS5) ?_
        clear hK hS hb hr hz
        have hS := hS5
        have hb := hb5
        have hr := hr5
        clear hS5 hb5 hr5
        try simp only [Act.put, List.setIfInBounds_toArray, List.set_cons_zero, List.set_cons_succ]
        refine takeT 6 15 [11, 12, 13] (.tuple #[.int .i64 i, .agg #[.int .i64 x.y, .int .i64 x.k, .int .i64 x.o, .int .i64 x.d], .int .i64 z]) calm_np rfl rfl (by kernel_rfl) (by rfl) (by kernel_rfl) (by kernel_rfl) (by kernel_rfl) (by kernel_rfl) (by rfl) (fun w' hSw => by go_simp) hS ?_
        try simp only [Act.put, List.setIfInBounds_toArray, List.set_cons_zero, List.set_cons_succ]
        refine takeT 7 22 [11, 12, 13] (.int .i64 i) calm_np rfl rfl (by kernel_rfl) (by rfl) (by kernel_rfl) (by kernel_rfl) (by kernel_rfl) (by kernel_rfl) (by rfl) (fun w' hSw => by go_simp) hS ?_
        try simp only [Act.put, List.setIfInBounds_toArray, List.set_cons_zero, List.set_cons_succ]
        refine takeT 8 23 [12, 13] (.agg #[.int .i64 x.y, .int .i64 x.k, .int .i64 x.o, .int .i64 x.d]) calm_np rfl rfl (by kernel_rfl) (by rfl) (by kernel_rfl) (by kernel_rfl) (by kernel_rfl) (by kernel_rfl) (by rfl) (fun w' hSw => by go_simp) hS ?_
        try simp only [Act.put, List.setIfInBounds_toArray, List.set_cons_zero, List.set_cons_succ]
        refine takeT 9 24 [13] (.int .i64 z) calm_np rfl rfl (by kernel_rfl) (by rfl) (by kernel_rfl) (by kernel_rfl) (by kernel_rfl) (by kernel_rfl) (by rfl) (fun w' hSw => by go_simp) hS ?_
        try simp only [Act.put, List.setIfInBounds_toArray, List.set_cons_zero, List.set_cons_succ]
        refine till_ready (rs := [11]) (by kernel_rfl) (by simp) (Each.cons rfl (fun K hK => ?_) Each.nil)
        go_simp
        refine hK.out _ _ (fun _ => hS) ?_
        clear hK
        try simp only [Act.put, List.setIfInBounds_toArray, List.set_cons_zero, List.set_cons_succ]
        obtain ⟨x0, x1, x2, x3⟩ := box4 hbx
        obtain ⟨u0, u1, u2, u3⟩ := frz4 hbx
        have hsz := hbx.1
        have HE := Lib.hid (below_four (b := bx) (.int .i64 x.y) (.int .i64 x.k) (.int .i64 x.o) (.int .i64 x.d) hb (by omega))
        have HFB := Lib.hid (box_four hbx (.int .i64 x.y) (.int .i64 x.k) (.int .i64 x.o) (.int .i64 x.d))
        have HRB := Lib.hid (box_set_other (j := 3) (box_set_other (j := 2) (box_set_other (j := 1) (box_set_other (j := 0) hr (g := bx) (by omega) (.int .i64 x.y)) (g := bx) (by omega) (.int .i64 x.k)) (g := bx) (by omega) (.int .i64 x.o)) (g := bx) (by omega) (.int .i64 x.d))
        refine till_ready (rs := [12]) (by kernel_rfl) (by simp) (Each.cons rfl (fun K hK => ?_) Each.nil)
        go_simp
        refine hK.out _ _ (fun _ => box_set_other (box_set_other (box_set_other (box_set_other hS (by omega) _) (by omega) _) (by omega) _) (by omega) _) ?_
        clear hK
        try simp only [Act.put, List.setIfInBounds_toArray, List.set_cons_zero, List.set_cons_succ]
        refine till_ready (rs := [13]) (by kernel_rfl) (by simp) (Each.cons rfl (fun K hK => ?_) Each.nil)
        go_simp
        refine hK.out _ _ (fun h => by cases h) ?_
        clear hK
        try simp only [Act.put, List.setIfInBounds_toArray, List.set_cons_zero, List.set_cons_succ]
        refine till_done (by kernel_rfl) ?_ _
        refine NoPanic.normal ?_
        go_wp2_with fail
        go_meet
        exact ⟨i, x, z, bx, rfl, rfl, rfl, hh, HFB.out, HRB.out, HE.out⟩
    · go_simp
      have hba := al WD (.cells #[.int .i64 0, .int .i64 0, .int .i64 0, .int .i64 0] 30)
      have hbx := Box.made WD (ocs noT) 30
      obtain ⟨W6, hW⟩ : ∃ W, WD.alloc (.cells #[.int .i64 0, .int .i64 0, .int .i64 0, .int .i64 0] 30) = W := ⟨_, rfl⟩
      replace hbx : Box WD.heap.size (ocs noT) W6 := hW ▸ hbx
      rw [hW] at hba
      rw [hW]
      have hlt : w.heap.size + 1 < WD.heap.size := hr.1
      have hS6 := hS.below hba
      have hb6 := below_trans hb hba
      have hr6 := hr.below hba
      refine hK.out _ _ (fun _ => hS6) ?_
      clear hK hS hb hr hW hba
      have hS := hS6
      have hb := hb6
      have hr := hr6
      clear hS6 hb6 hr6
      generalize WD.heap.size = bx at hbx hlt ⊢
      try simp only [Act.put, List.setIfInBounds_toArray, List.set_cons_zero, List.set_cons_succ]
      refine till_ready (rs := [4]) (by kernel_rfl) (by simp) (Each.cons rfl (fun K hK => ?_) Each.nil)
      go_simp
      (with_reducible refine (HI.out _).mono ?_)
      rintro e W4 ⟨g, g', rfl, hg, hg', hz⟩
      have hS4 := hS.below hz
      have hb4 := below_trans hb hz
      have hr4 := hr.below hz
      replace hbx := hbx.below hz
      go_simp
      refine hK.out _ _ (fun _ => hS4) ?_
      clear hK hS hb hr hz
      have hS := hS4
      have hb := hb4
      have hr := hr4
      clear hS4 hb4 hr4
      try simp only [Act.put, List.setIfInBounds_toArray, List.set_cons_zero, List.set_cons_succ]
      refine till_ready (rs := [5]) (by kernel_rfl) (by simp) (Each.cons rfl (fun K hK => ?_) Each.nil)
      go_simp
      (with_reducible refine (HSK.out _ _ _ hb hg hg').mono ?_)
      rintro e W5 ⟨i, x, z, rfl, hh, hz⟩
      unfold uv
      have hS5 := hS.below hz
      have hb5 := below_trans hb hz
      have hr5 := hr.below hz
      replace hbx := hbx.below hz
      go_simp
      refine hK.out _ _ (fun _ => hS5) ?_
      clear hK hS hb hr hz
      have hS := hS5
      have hb := hb5
      have hr := hr5
      clear hS5 hb5 hr5
      try simp only [Act.put, List.setIfInBounds_toArray, List.set_cons_zero, List.set_cons_succ]
      refine takeT 6 15 [11, 12, 13] (.tuple #[.int .i64 i, .agg #[.int .i64 x.y, .int .i64 x.k, .int .i64 x.o, .int .i64 x.d], .int .i64 z]) calm_np rfl rfl (by kernel_rfl) (by rfl) (by kernel_rfl) (by kernel_rfl) (by kernel_rfl) (by kernel_rfl) (by rfl) (fun w' hSw => by go_simp) hS ?_
      try simp only [Act.put, List.setIfInBounds_toArray, List.set_cons_zero, List.set_cons_succ]
      refine takeT 7 22 [11, 12, 13] (.int .i64 i) calm_np rfl rfl (by kernel_rfl) (by rfl) (by kernel_rfl) (by kernel_rfl) (by kernel_rfl) (by kernel_rfl) (by rfl) (fun w' hSw => by go_simp) hS ?_
      try simp only [Act.put, List.setIfInBounds_toArray, List.set_cons_zero, List.set_cons_succ]
      refine takeT 8 23 [12, 13] (.agg #[.int .i64 x.y, .int .i64 x.k, .int .i64 x.o, .int .i64 x.d]) calm_np rfl rfl (by kernel_rfl) (by rfl) (by kernel_rfl) (by kernel_rfl) (by kernel_rfl) (by kernel_rfl) (by rfl) (fun w' hSw => by go_simp) hS ?_
      try simp only [Act.put, List.setIfInBounds_toArray, List.set_cons_zero, List.set_cons_succ]
      refine takeT 9 24 [13] (.int .i64 z) calm_np rfl rfl (by kernel_rfl) (by rfl) (by kernel_rfl) (by kernel_rfl) (by kernel_rfl) (by kernel_rfl) (by rfl) (fun w' hSw => by go_simp) hS ?_
      try simp only [Act.put, List.setIfInBounds_toArray, List.set_cons_zero, List.set_cons_succ]
      refine till_ready (rs := [11]) (by kernel_rfl) (by simp) (Each.cons rfl (fun K hK => ?_) Each.nil)
      go_simp
      refine hK.out _ _ (fun _ => hS) ?_
      clear hK
      try simp only [Act.put, List.setIfInBounds_toArray, List.set_cons_zero, List.set_cons_succ]
      obtain ⟨x0, x1, x2, x3⟩ := box4 hbx
      obtain ⟨u0, u1, u2, u3⟩ := frz4 hbx
      have hsz := hbx.1
      have HE := Lib.hid (below_four (b := bx) (.int .i64 x.y) (.int .i64 x.k) (.int .i64 x.o) (.int .i64 x.d) hb (by omega))
      have HFB := Lib.hid (box_four hbx (.int .i64 x.y) (.int .i64 x.k) (.int .i64 x.o) (.int .i64 x.d))
      have HRB := Lib.hid (box_set_other (j := 3) (box_set_other (j := 2) (box_set_other (j := 1) (box_set_other (j := 0) hr (g := bx) (by omega) (.int .i64 x.y)) (g := bx) (by omega) (.int .i64 x.k)) (g := bx) (by omega) (.int .i64 x.o)) (g := bx) (by omega) (.int .i64 x.d))
      refine till_ready (rs := [12]) (by kernel_rfl) (by simp) (Each.cons rfl (fun K hK => ?_) Each.nil)
      go_simp
      refine hK.out _ _ (fun _ => box_set_other (box_set_other (box_set_other (box_set_other hS (by omega) _) (by omega) _) (by omega) _) (by omega) _) ?_
      clear hK
      try simp only [Act.put, List.setIfInBounds_toArray, List.set_cons_zero, List.set_cons_succ]
      refine till_ready (rs := [13]) (by kernel_rfl) (by simp) (Each.cons rfl (fun K hK => ?_) Each.nil)
      go_simp
      refine hK.out _ _ (fun h => by cases h) ?_
      clear hK
      try simp only [Act.put, List.setIfInBounds_toArray, List.set_cons_zero, List.set_cons_succ]
      refine till_done (by kernel_rfl) ?_ _
      refine NoPanic.normal ?_
      go_wp2_with fail
      go_meet
      exact ⟨i, x, z, bx, rfl, rfl, rfl, hh, HFB.out, HRB.out, HE.out⟩
  case rest =>
  obtain ⟨n, x, z0, g, rfl, rfl, rfl, hh, hbx, hr, hb⟩ := hcut
  have HW := Lib.hid (HWAY.out n x z0 hh)
  obtain ⟨x0, x1, x2, x3⟩ := box4 hbx
  have hsz := hbx.1
  obtain ⟨y0, y1, y2, y3⟩ := box4 hr
  obtain ⟨u0, u1, u2, u3⟩ := frz4 hr
  have hsz2 := hr.1
  have HE := Lib.hid (below_four (b := w.heap.size + 1) (.int .i64 x.y) (.int .i64 x.k) (.int .i64 x.o) (.int .i64 x.d) hb (by omega))
  clear hbx hr hb hh HWAY
  go_wp2_with fail
  exact bodyPost_ret (by simp [results, Try.results8, go_sem, uv, y0, y1, y2, y3]) rfl ⟨(by rw [HW.out.1, HW.out.2] : Ending.returned (.tuple #[uv x, .int .i64 z0]) = .returned (.tuple #[uv (findO l t k o), .int .i64 (findZ l t k o)])), HE.out⟩
end Go.Proofs.Ytlhepocjcdbhjaa.Outbox
