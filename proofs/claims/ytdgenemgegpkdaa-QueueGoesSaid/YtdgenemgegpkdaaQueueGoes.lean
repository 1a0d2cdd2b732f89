/-
  Proved: for any waits and wait the law QueueGoes returns true: what pushing, and popping, makes of any heap is as the reference says, or refused. No condition.
-/
import Derived.Test.YtdgenemgegpkdaaRows
import Derived.Test.YtdgenemgegpkdaaQFresh
namespace Go.Proofs.Ytdgenemgegpkdaa.queueGoes
open Go.ChangeShapes Go.WideShapes Go.ChangeAt Go.RowKit Go.Lib Go.Sort Go.Proofs.Ytdgenemgegpkdaa.Queue
open Go.ChangeMaps (open_string shut_string)
set_option linter.unusedVariables false

theorem own : ownKnob Try.prog.godebug = none := by kernel_rfl
theorem laidOut : laidOutB Try.prog = true := by kernel_rfl

/-- What popping makes of any. -/
theorem pops (l : List Wt) (hl : l.length ≤ 66) : ∃ (M : List Wt) (y : Wt) (kp : Int), (∀ W v, QRow W v l → Calls Try.prog 19 #[v] W (PopE M y kp W)) ∧
    ((rightB l = false ∧ M = [] ∧ y = ⟨0, 0, 0⟩ ∧ kp = 1) ∨ (rightB l = true ∧ l = [] ∧ M = [] ∧ y = ⟨0, 0, 0⟩ ∧ kp = 8) ∨
     (rightB l = true ∧ 0 < l.length ∧ l.length ≤ 64 ∧ rightB M = true ∧ M.length + 1 = l.length ∧ sortL l = y :: sortL M ∧ kp = 0)) := by
  cases hr : rightB l with
  | false => exact ⟨[], ⟨0, 0, 0⟩, 1, fun W v h => Pop_no h (by omega) (.inl ⟨hr, rfl⟩), .inl ⟨rfl, rfl, rfl, rfl⟩⟩
  | true =>
    by_cases h0 : l = []
    · exact ⟨[], ⟨0, 0, 0⟩, 8, fun W v h => Pop_no h (by omega) (.inr ⟨hr, h0, rfl⟩), .inr (.inl ⟨rfl, h0, rfl, rfl, rfl⟩)⟩
    · have hp : 0 < l.length := List.length_pos_iff.2 h0
      have h64 : l.length ≤ 64 := by
        have := hr
        unfold rightB allB at this
        simp only [Bool.and_eq_true, decide_eq_true_eq] at this
        exact this.1.1
      obtain ⟨M, y, e1, e2, e3, e4, e5⟩ := goes_pop hr hp
      refine ⟨M, y, 0, fun W v h => ?_, .inr (.inr ⟨rfl, hp, h64, e3, by omega, e5, rfl⟩)⟩
      have := Pop_yes h hr hp h64
      rwa [e1, e2] at this
/-- What pushing makes of any. -/
theorem pushes (l : List Wt) (x : Wt) (hl : l.length ≤ 66) : ∃ (L : List Wt) (k : Int), (∀ W v, QRow W v l → Calls Try.prog 18 #[v, wv x] W (RowE L k W)) ∧
    ((rightB l = false ∧ L = [] ∧ k = 1) ∨ (rightB l = true ∧ mayB x = false ∧ L = [] ∧ k = 1) ∨ (rightB l = true ∧ mayB x = true ∧ l.length = 64 ∧ L = [] ∧ k = 7) ∨
     (rightB l = true ∧ mayB x = true ∧ l.length < 64 ∧ rightB L = true ∧ L.length = l.length + 1 ∧ sortL L = sortL (l ++ [x]) ∧ k = 0)) := by
  by_cases hk : pushK l x = 0
  · have hrm : (rightB l = true ∧ mayB x = true) ∧ l.length ≠ 64 := by
      unfold pushK at hk
      by_cases hc : (rightB l && mayB x) = false
      · rw [if_pos hc] at hk; cases hk
      · rw [if_neg hc] at hk
        by_cases h4 : l.length = 64
        · rw [if_pos h4] at hk; cases hk
        · exact ⟨by simpa using hc, h4⟩
    have h64 : l.length < 64 := by
      have := hrm.1.1
      unfold rightB allB at this
      simp only [Bool.and_eq_true, decide_eq_true_eq] at this
      omega
    obtain ⟨L, e1, e2, e3, e4⟩ := goes_push hrm.1.1 hrm.1.2 h64
    refine ⟨L, 0, fun W v h => ?_, .inr (.inr (.inr ⟨hrm.1.1, hrm.1.2, h64, e2, e3, e4, rfl⟩))⟩
    have := Push_yes h x hrm.1.1 hrm.1.2 h64
    rwa [e1] at this
  · refine ⟨[], pushK l x, fun W v h => Push_no h (by omega) x hk, ?_⟩
    unfold pushK at hk ⊢
    cases hr : rightB l with
    | false => exact .inl ⟨rfl, rfl, by simp⟩
    | true =>
      cases hm : mayB x with
      | false => exact .inr (.inl ⟨rfl, rfl, rfl, by simp⟩)
      | true =>
        by_cases h4 : l.length = 64
        · exact .inr (.inr (.inl ⟨rfl, rfl, h4, rfl, by simp [h4]⟩))
        · rw [hr, hm] at hk
          simp [h4] at hk

set_option maxRecDepth 100000 in
set_option maxHeartbeats 8000000 in
theorem walk0 (v : Value) (x : Wt) (w : World) (hv : ArgQ w v) :
    Calls Try.prog 4 #[v, wv x] w (BoolB true w) := by
  obtain ⟨l0, h0⟩ := hv
  have hfw := few_any (h0.below (al w (.cells #[.int .i64 x.c, .int .i64 x.s, .int .i64 x.o] 24)))
  obtain ⟨a0, cap0, rfl⟩ := h0.slice
  obtain ⟨l, hl⟩ : ∃ l, l0.take 66 = l := ⟨_, rfl⟩
  have hl66 : l.length ≤ 66 := by rw [← hl, List.length_take]; omega
  rw [hl] at hfw
  have HF := Lib.hid hfw
  have HA := Lib.hid (al w (.cells #[.int .i64 x.c, .int .i64 x.s, .int .i64 x.o] 24))
  have HX := Lib.hid (Box.made w [.int .i64 x.c, .int .i64 x.s, .int .i64 x.o] 24)
  clear h0 hl hfw
  generalize l0.length = n0 at *
  obtain ⟨M, y, kp, hpo, hP⟩ := pops l hl66
  obtain ⟨L, k, hpu, hK⟩ := pushes l x hl66
  have HPO := Lib.hid hpo
  unfold wv at hpu
  have HPU := Lib.hid hpu
  have HHP := Lib.hid (fun (W : World) v (q : QRow W v l) => refHeap_any q (by omega))
  have HCP := Lib.hid hP
  have HCK := Lib.hid hK
  obtain ⟨n, hn⟩ : ∃ n, l.length = n := ⟨_, rfl⟩
  have HN := Lib.hid hn
  obtain ⟨nM, hnM⟩ : ∃ n, M.length = n := ⟨_, rfl⟩
  have HNM := Lib.hid hnM
  obtain ⟨nL, hnL⟩ : ∃ n, L.length = n := ⟨_, rfl⟩
  have HNL := Lib.hid hnL
  clear hpo hpu hP hK hn hnM hnL
  unfold wv
  go_enter Try.func4, Try.ntmps4
  go_upto_region 4 with (first
    | (go_at_call 7; (with_reducible refine HF.out.mono ?_); rintro e w1 ⟨v1, rfl, q1, b1⟩; have HB1 := Lib.hid (below_trans HA.out b1); have HX1 := Lib.hid (HX.out.below b1); have HQ1 := Lib.hid q1; obtain ⟨a1, c1, e1⟩ := q1.slice; rw [HN.out] at e1; subst e1; obtain ⟨x0, x1, x2⟩ := HX1.out.c3; clear q1 b1)
    | (go_at_call 18; (with_reducible refine (HPU.out _ _ HQ1.out).mono ?_); rintro e w2 ⟨v2, rfl, q2, b2⟩; have HB2 := Lib.hid (below_trans HB1.out b2); have HX2 := Lib.hid (HX1.out.below b2); have HQ2 := Lib.hid (HQ1.out.below b2); have HL2 := Lib.hid q2; obtain ⟨a2, c2, e2⟩ := q2.slice; rw [HNL.out] at e2; subst e2; clear q2 b2 x0 x1 x2)
    | (go_at_call 19; (with_reducible refine (HPO.out _ _ HQ2.out).mono ?_); rintro e w3 ⟨v3, rfl, q3, b3⟩; have HB3 := Lib.hid (below_trans HB2.out b3); have HX3 := Lib.hid (HX2.out.below b3); have HQ3 := Lib.hid (HQ2.out.below b3); have HL3 := Lib.hid (HL2.out.below b3); have HM3 := Lib.hid q3; obtain ⟨a3, c3, e3⟩ := q3.slice; rw [HNM.out] at e3; subst e3; clear q3 b3; unfold wv))
  have HAY := Lib.hid (al w3 (.cells #[.int .i64 y.c, .int .i64 y.s, .int .i64 y.o] 24))
  have HY4 := Lib.hid (Box.made w3 [.int .i64 y.c, .int .i64 y.s, .int .i64 y.o] 24)
  have HB4 := Lib.hid (below_trans HB3.out HAY.out)
  have HX4 := Lib.hid (HX3.out.below HAY.out)
  have HQ4 := Lib.hid (HQ3.out.below HAY.out)
  have HL4 := Lib.hid (HL3.out.below HAY.out)
  have HM4 := Lib.hid (HM3.out.below HAY.out)
  clear HAY HB3 HX3 HQ3 HL3 HM3 HB2 HX2 HQ2 HL2 HB1 HX1 HQ1 HF HA HX HPU HPO
  generalize w3.alloc (.cells #[.int .i64 y.c, .int .i64 y.s, .int .i64 y.o] 24) = W3 at *
  generalize w3.heap.size = g at *
  go_upto_region 6 with (go_at_call 14; (with_reducible refine (alive_any _).mono ?_); rintro e w4 ⟨rfl, hz⟩; have HB5 := Lib.hid (below_trans HB4.out hz); have HX5 := Lib.hid (HX4.out.below hz); have HY5 := Lib.hid (HY4.out.below hz); have HQ5 := Lib.hid (HQ4.out.below hz); have HL5 := Lib.hid (HL4.out.below hz); have HM5 := Lib.hid (HM4.out.below hz); clear hz)
  clear HB4 HX4 HY4 HQ4 HL4 HM4
  cases hr : rightB l with
  | false =>
    rw [hr] at HHP HCP HCK
    obtain ⟨rfl, rfl, rfl⟩ : M = [] ∧ y = ⟨0, 0, 0⟩ ∧ kp = 1 := by
      rcases HCP.out with h | h | h
      · exact h.2
      · exact absurd h.1 (by decide)
      · exact absurd h.1 (by decide)
    obtain ⟨rfl, rfl⟩ : L = [] ∧ k = 1 := by
      rcases HCK.out with h | h | h | h
      · exact h.2
      · exact absurd h.1 (by decide)
      · exact absurd h.1 (by decide)
      · exact absurd h.1 (by decide)
    obtain rfl : 0 = nM := HNM.out
    obtain rfl : 0 = nL := HNL.out
    go_upto_region 7 with (go_at_call 13; (with_reducible refine (HHP.out _ _ HQ5.out).mono ?_); rintro e w5 ⟨rfl, hz⟩; have HB6 := Lib.hid (below_trans HB5.out hz); have HY6 := Lib.hid (HY5.out.below hz); clear hz)
    obtain ⟨y0, y1, y2⟩ := HY6.out.c3
    go_wp2_with fail
    go_ret
    exact ⟨rfl, HB6.out⟩
  | true =>
    rw [hr] at HHP HCP HCK
    have h64 : n ≤ 64 := by
      rw [← HN.out]
      unfold rightB allB at hr
      simp only [Bool.and_eq_true, decide_eq_true_eq] at hr
      exact hr.1.1
    have hmx := fun W => refMay_any x W
    unfold wv at hmx
    have HMX := Lib.hid hmx
    clear hmx
    have HSO := Lib.hid (fun (W : World) v (q : QRow W v l) => refSorted_any q (by omega))
    go_upto_region 9 with (first
      | (go_at_call 13; (with_reducible refine (HHP.out _ _ HQ5.out).mono ?_); rintro e w5 ⟨rfl, hz⟩; have HB6 := Lib.hid (below_trans HB5.out hz); have HX6 := Lib.hid (HX5.out.below hz); have HY6 := Lib.hid (HY5.out.below hz); have HQ6 := Lib.hid (HQ5.out.below hz); have HL6 := Lib.hid (HL5.out.below hz); have HM6 := Lib.hid (HM5.out.below hz); clear hz)
      | (go_at_call 16; (with_reducible refine (HSO.out _ _ HQ6.out).mono ?_); rintro e w6 ⟨v6, rfl, q6, hz⟩; have HB7 := Lib.hid (below_trans HB6.out hz); have HX7 := Lib.hid (HX6.out.below hz); have HY7 := Lib.hid (HY6.out.below hz); have HQ7 := Lib.hid (HQ6.out.below hz); have HL7 := Lib.hid (HL6.out.below hz); have HM7 := Lib.hid (HM6.out.below hz); have HS7 := Lib.hid q6.row; obtain ⟨a7, c7, e7⟩ := q6.row.slice; rw [sortL_len, HN.out] at e7; subst e7; clear q6 hz))
    clear HB5 HX5 HY5 HQ5 HL5 HM5 HB6 HX6 HY6 HQ6 HL6 HM6
    go_upto_if 53 with fail
    go_cut [] from 53 to 87 (fun wx => Below w6.heap.size w6 wx)
    case first =>
      rcases HCP.out with h | h | h
      · exact absurd h.1 (by decide)
      · obtain ⟨_, rfl, rfl, rfl, rfl⟩ := h
        obtain rfl : 0 = n := HN.out
        obtain rfl : 0 = nM := HNM.out
        obtain ⟨y0, y1, y2⟩ := HY7.out.c3
        go_wp2_with fail
        go_meet
        exact Below.refl _ _
      · obtain ⟨_, h0, _, hrM, hMn, hsl, rfl⟩ := h
        have hs7 := HS7.out
        rw [hsl] at hs7
        obtain ⟨bb, off, rfl, hbb, z0, z1, z2⟩ := hs7.fst
        obtain ⟨y0, y1, y2⟩ := HY7.out.c3
        have hnM : nM = n - 1 := by rw [HN.out, HNM.out] at hMn; omega
        subst hnM
        have hn0 : 0 < n := by rw [HN.out] at h0; exact h0
        have hc7 : n ≤ c7 ∧ c7 ≤ 9223372036854775807 := by
          obtain ⟨_, _, e, h1, h2, _⟩ := hs7
          injection e with e1 e2 e3
          omega
        have HT : Hid (∀ W, Below w6.heap.size w6 W → QRow W (.slice (some ⟨bb, off + 3, none⟩) (n - 1) (c7 - 1)) (sortL M)) := Lib.hid (fun W hb => by
          have q := hs7.below hb
          rw [show n = (y :: sortL M).length by rw [List.length_cons, sortL_len, HNM.out]; omega] at q
          have d := q.drop (n := 1) (by simp)
          rw [show ((y :: sortL M).drop 1).length = n - 1 by simp [sortL_len, HNM.out]] at d
          exact d)
        have HT0 : Hid (∀ W, n = 1 → QRow W (.slice (some ⟨bb, off, none⟩) 0 0) (sortL M)) := Lib.hid (fun W h1 => by
          have e : (sortL M).length = 0 := by rw [sortL_len, HNM.out]; omega
          have := row_zero W (some ⟨bb, off, none⟩) 0 (sortL M) e (by omega)
          rwa [e] at this)
        have HHM := Lib.hid (fun (W : World) v (q : QRow W v M) => (show Calls Try.prog 13 #[v] W (BoolB true W) from by
          have := refHeap_any q (by rw [HNM.out]; omega)
          rwa [hrM] at this))
        have HSM := Lib.hid (fun (W : World) v (q : QRow W v M) => refSorted_any q (by rw [HNM.out]; omega))
        have HSF : Hid (∀ w', Below w6.heap.size w6 w' → w'.cell? ⟨g, 0, none⟩ = some (.int .i64 y.c) ∧ w'.cell? ⟨g, 1, none⟩ = some (.int .i64 y.s) ∧ w'.cell? ⟨g, 2, none⟩ = some (.int .i64 y.o) ∧ w'.cell? ⟨bb, off, none⟩ = some (.int .i64 y.c) ∧ w'.cell? ⟨bb, off + 1, none⟩ = some (.int .i64 y.s) ∧ w'.cell? ⟨bb, off + 2, none⟩ = some (.int .i64 y.o)) := Lib.hid (fun w' h => ⟨((HY7.out.below h).c3).1, ((HY7.out.below h).c3).2.1, ((HY7.out.below h).c3).2.2, (h.cell (p := ⟨bb, _, none⟩) hbb).trans z0, (h.cell (p := ⟨bb, _, none⟩) hbb).trans z1, (h.cell (p := ⟨bb, _, none⟩) hbb).trans z2⟩)
        have hd : ((n : Int) == 0) = false := beq_eq_false_iff_ne.2 (by omega)
        have hd0 : n ≠ 0 := by omega
        have hi : (0 : Int) < (n : Int) := by omega
        have hi1 : (1 : Int) ≤ (n : Int) := by omega
        have hi2 : 1 ≤ n := by omega
        clear hsl hs7 HS7 HY7
        go_upto_region 12 with fail
        by_cases h71 : c7 = 1
        · subst h71
          obtain rfl : n = 1 := by omega
          have HM7 : Hid (QRow w6 (.slice a3 0 c3) M) := HM7
          have HNM : Hid (M.length = 0) := HNM
          go_region_held3 (fun w' => w'.cell? ⟨g, 0, none⟩ = some (.int .i64 y.c) ∧ w'.cell? ⟨g, 1, none⟩ = some (.int .i64 y.s) ∧ w'.cell? ⟨g, 2, none⟩ = some (.int .i64 y.o) ∧ w'.cell? ⟨bb, off, none⟩ = some (.int .i64 y.c) ∧ w'.cell? ⟨bb, off + 1, none⟩ = some (.int .i64 y.s) ∧ w'.cell? ⟨bb, off + 2, none⟩ = some (.int .i64 y.o)) (first | with_reducible exact HSF.out _ (dr w6) | with_reducible exact HSF.out _ HZ.out | with_reducible exact HSF.out _ HZ8.out | with_reducible exact HSF.out _ HZ9.out | fail)
            (first
              | (go_at_call 13; (with_reducible refine (HHM.out _ _ (HM7.out.below (dr w6))).mono ?_); rintro e w7 ⟨rfl, hz⟩; have HZ := Lib.hid (below_trans (dr w6) hz); clear hz)
              | (go_at_call 16; (with_reducible refine (HSM.out _ _ (HM7.out.below HZ.out)).mono ?_); rintro e w8 ⟨v8, rfl, q8, hz⟩; have HZ8 := Lib.hid (below_trans HZ.out hz); have HR8 := Lib.hid q8.row; obtain ⟨a8, c8, e8⟩ := q8.row.slice; rw [sortL_len, HNM.out] at e8; subst e8; clear q8 hz)
              | (go_at_call 17; (with_reducible refine (Same_yes HR8.out (HT0.out _ trivial)).mono ?_); rintro e w9 ⟨rfl, hz⟩; have HZ9 := Lib.hid (below_trans HZ8.out hz); clear hz)
              | fail)
          go_wp2_with fail
          go_meet
          exact HZ9.out
        · have h71b : (c7 = 1) = False := eq_false h71
          go_region_held3 (fun w' => w'.cell? ⟨g, 0, none⟩ = some (.int .i64 y.c) ∧ w'.cell? ⟨g, 1, none⟩ = some (.int .i64 y.s) ∧ w'.cell? ⟨g, 2, none⟩ = some (.int .i64 y.o) ∧ w'.cell? ⟨bb, off, none⟩ = some (.int .i64 y.c) ∧ w'.cell? ⟨bb, off + 1, none⟩ = some (.int .i64 y.s) ∧ w'.cell? ⟨bb, off + 2, none⟩ = some (.int .i64 y.o)) (first | with_reducible exact HSF.out _ (dr w6) | with_reducible exact HSF.out _ HZ.out | with_reducible exact HSF.out _ HZ8.out | with_reducible exact HSF.out _ HZ9.out | fail)
            (first
              | (go_at_call 13; (with_reducible refine (HHM.out _ _ (HM7.out.below (dr w6))).mono ?_); rintro e w7 ⟨rfl, hz⟩; have HZ := Lib.hid (below_trans (dr w6) hz); clear hz)
              | (go_at_call 16; (with_reducible refine (HSM.out _ _ (HM7.out.below HZ.out)).mono ?_); rintro e w8 ⟨v8, rfl, q8, hz⟩; have HZ8 := Lib.hid (below_trans HZ.out hz); have HR8 := Lib.hid q8.row; obtain ⟨a8, c8, e8⟩ := q8.row.slice; rw [sortL_len, HNM.out] at e8; subst e8; clear q8 hz)
              | (go_at_call 17; (with_reducible refine (Same_yes HR8.out (HT.out _ HZ8.out)).mono ?_); rintro e w9 ⟨rfl, hz⟩; have HZ9 := Lib.hid (below_trans HZ8.out hz); clear hz)
              | fail)
          go_wp2_with fail
          go_meet
          exact HZ9.out
    case rest =>
      have HB8 := Lib.hid (below_trans HB7.out hcut)
      have HX8 := Lib.hid (HX7.out.below hcut)
      have HQ8 := Lib.hid (HQ7.out.below hcut)
      have HL8 := Lib.hid (HL7.out.below hcut)
      clear HB7 HX7 HQ7 HL7 HY7 HM7 HS7 hcut HCP
      rcases HCK.out with h | h | h | h
      · exact absurd h.1 (by decide)
      · obtain ⟨_, hm, rfl, rfl⟩ := h
        obtain rfl : 0 = nL := HNL.out
        rw [hm] at HMX
        obtain ⟨x0, x1, x2⟩ := HX8.out.c3
        go_wp2_with (go_at_call 20; (with_reducible refine (HMX.out _).mono ?_); rintro e w9 ⟨rfl, hz⟩; have HB9 := Lib.hid (below_trans HB8.out hz); clear hz)
        go_ret
        exact ⟨rfl, HB9.out⟩
      · obtain ⟨_, hm, hn4, rfl, rfl⟩ := h
        obtain rfl : 64 = n := hn4.symm.trans HN.out
        obtain rfl : 0 = nL := HNL.out
        rw [hm] at HMX
        obtain ⟨x0, x1, x2⟩ := HX8.out.c3
        go_wp2_with (go_at_call 20; (with_reducible refine (HMX.out _).mono ?_); rintro e w9 ⟨rfl, hz⟩; have HB9 := Lib.hid (below_trans HB8.out hz); clear hz)
        go_ret
        exact ⟨rfl, HB9.out⟩
      · obtain ⟨_, hm, hn4, hrL, hnL, hsL, rfl⟩ := h
        rw [hm] at HMX
        have hd4 : ((n : Int) == 64) = false := beq_eq_false_iff_ne.2 (by rw [HN.out] at hn4; omega)
        obtain ⟨x0, x1, x2⟩ := HX8.out.c3
        go_upto_region 18 with (go_at_call 20; (with_reducible refine (HMX.out _).mono ?_); rintro e w9 ⟨rfl, hz⟩; have HB9 := Lib.hid (below_trans HB8.out hz); have HX9 := Lib.hid (HX8.out.below hz); have HQ9 := Lib.hid (HQ8.out.below hz); have HL9 := Lib.hid (HL8.out.below hz); clear hz)
        have HLX : Hid (∃ m, (l ++ [x]).length = m ∧ m ≤ 100) := Lib.hid ⟨_, rfl, by rw [List.length_append, HN.out]; simp; omega⟩
        obtain ⟨m1, hm1, hm100⟩ := HLX.out
        clear HLX
        have HLX := Lib.hid hm1
        clear hm1
        have HHL := Lib.hid (fun (W : World) v (q : QRow W v L) => (show Calls Try.prog 13 #[v] W (BoolB true W) from by
            have := refHeap_any q (by omega)
            rwa [hrL] at this))
        have HSL := Lib.hid (fun (W : World) v (q : QRow W v L) => (show Calls Try.prog 16 #[v] W (NewQ (sortL (l ++ [x])) W) from by
            have := refSorted_any q (by omega)
            rwa [hsL] at this))
        have HS2 := Lib.hid (fun (W : World) v (q : QRow W v (l ++ [x])) => refSorted_any q (by rw [HLX.out]; omega))
        have HNS : Hid ((sortL (l ++ [x])).length = nL) := Lib.hid (by rw [← hsL, sortL_len, HNL.out])
        have HSF : Hid (∀ w', Below w9.heap.size w9 w' → w'.cell? ⟨w.heap.size, 0, none⟩ = some (.int .i64 x.c) ∧ w'.cell? ⟨w.heap.size, 1, none⟩ = some (.int .i64 x.s) ∧ w'.cell? ⟨w.heap.size, 2, none⟩ = some (.int .i64 x.o)) := Lib.hid (fun w' h => (HX9.out.below h).c3)
        clear hsL hrL hnL x0 x1 x2
        refine wp_region_noPanic ?_
        refine wp_region_held_drew (S := fun w' => w'.cell? ⟨w.heap.size, 0, none⟩ = some (.int .i64 x.c) ∧ w'.cell? ⟨w.heap.size, 1, none⟩ = some (.int .i64 x.s) ∧ w'.cell? ⟨w.heap.size, 2, none⟩ = some (.int .i64 x.o)) (by kernel_rfl) (HSF.out _ (dr w9)) (fun hHeld => ?_)
        have HZ0 := Lib.hid (dr w9)
        generalize w9.drew = W0 at *
        refine takeW 0 108 (.int .i64 0) (fun _ _ _ _ _ h => h) rfl rfl (by kernel_rfl) (by kernel_rfl) (by kernel_rfl) (by rfl) (fun W' hSw => by (try dsimp only at hSw); go_simp) (by assumption) ?_
        try simp only [Act.put, List.setIfInBounds_toArray, List.set_cons_zero, List.set_cons_succ]
        refine takeW 1 109 (.bool true) (fun _ _ _ _ _ h => h) rfl rfl (by kernel_rfl) (by kernel_rfl) (by kernel_rfl) (by rfl) (fun W' hSw => by (try dsimp only at hSw); go_simp) (by assumption) ?_
        try simp only [Act.put, List.setIfInBounds_toArray, List.set_cons_zero, List.set_cons_succ]
        refine takeW 2 110 (.bool true) (fun _ _ _ _ _ h => h) rfl rfl (by kernel_rfl) (by kernel_rfl) (by kernel_rfl) (by rfl) (fun W' hSw => by (try dsimp only at hSw); go_simp) (by assumption) ?_
        try simp only [Act.put, List.setIfInBounds_toArray, List.set_cons_zero, List.set_cons_succ]
        refine takeW 3 111 (.slice a2 nL c2) (fun _ _ _ _ _ h => h) rfl rfl (by kernel_rfl) (by kernel_rfl) (by kernel_rfl) (by rfl) (fun W' hSw => by (try dsimp only at hSw); go_simp) (by assumption) ?_
        try simp only [Act.put, List.setIfInBounds_toArray, List.set_cons_zero, List.set_cons_succ]
        refine wpAnyH_ready (rs := [4]) (by kernel_rfl) (by simp) (AllReadyH.cons rfl (fun K hK => ?_) AllReadyH.nil)
        go_simp
        go_at_call 13
        (with_reducible refine (HHL.out _ _ (HL9.out.below HZ0.out)).mono ?_)
        rintro e W1 ⟨rfl, hz⟩
        have HZ1 := Lib.hid (below_trans HZ0.out hz)
        clear hz
        go_simp
        refine hK.out _ _ (HSF.out _ HZ1.out) (fun hHeld => ?_)
        clear hK
        try simp only [Act.put, List.setIfInBounds_toArray, List.set_cons_zero, List.set_cons_succ]
        refine takeW 5 113 (.bool true) (fun _ _ _ _ _ h => h) rfl rfl (by kernel_rfl) (by kernel_rfl) (by kernel_rfl) (by rfl) (fun W' hSw => by (try dsimp only at hSw); go_simp) (by assumption) ?_
        try simp only [Act.put, List.setIfInBounds_toArray, List.set_cons_zero, List.set_cons_succ]
        refine takeW 6 114 (.bool true) (fun _ _ _ _ _ h => h) rfl rfl (by kernel_rfl) (by kernel_rfl) (by kernel_rfl) (by rfl) (fun W' hSw => by (try dsimp only at hSw); go_simp) (by assumption) ?_
        try simp only [Act.put, List.setIfInBounds_toArray, List.set_cons_zero, List.set_cons_succ]
        refine takeW 7 115 (.slice a2 nL c2) (fun _ _ _ _ _ h => h) rfl rfl (by kernel_rfl) (by kernel_rfl) (by kernel_rfl) (by rfl) (fun W' hSw => by (try dsimp only at hSw); go_simp) (by assumption) ?_
        try simp only [Act.put, List.setIfInBounds_toArray, List.set_cons_zero, List.set_cons_succ]
        refine takeW 10 118 (.slice a1 n c1) (fun _ _ _ _ _ h => h) rfl rfl (by kernel_rfl) (by kernel_rfl) (by kernel_rfl) (by rfl) (fun W' hSw => by (try dsimp only at hSw); go_simp) (by assumption) ?_
        try simp only [Act.put, List.setIfInBounds_toArray, List.set_cons_zero, List.set_cons_succ]
        refine takeW 12 120 (.agg #[.int .i64 x.c, .int .i64 x.s, .int .i64 x.o]) (fun _ _ _ _ _ h => h) rfl rfl (by kernel_rfl) (by kernel_rfl) (by kernel_rfl) (by rfl) (fun W' hSw => by (try dsimp only at hSw); go_simp) (by assumption) ?_
        try simp only [Act.put, List.setIfInBounds_toArray, List.set_cons_zero, List.set_cons_succ]
        refine wpAnyH_ready (rs := [8, 9, 13]) (by kernel_rfl) (by simp) (AllReadyH.cons rfl (fun K hK => ?_) (AllReadyH.cons rfl (fun K hK => ?_) (AllReadyH.cons rfl (fun K hK => ?_) AllReadyH.nil)))
        · go_simp
          go_at_call 16
          (with_reducible refine (HSL.out _ _ (HL9.out.below HZ1.out)).mono ?_)
          rintro e W2 ⟨v8, rfl, q8, hz⟩
          have HZ2 := Lib.hid (below_trans HZ1.out hz)
          have HR8_2 := Lib.hid q8.row
          obtain ⟨a8, c8, e8⟩ := q8.row.slice
          rw [HNS.out] at e8
          subst e8
          clear q8 hz
          go_simp
          refine hK.out _ _ (HSF.out _ HZ2.out) (fun hHeld => ?_)
          clear hK
          try simp only [Act.put, List.setIfInBounds_toArray, List.set_cons_zero, List.set_cons_succ]
          refine wpAnyH_ready (rs := [9, 13]) (by kernel_rfl) (by simp) (AllReadyH.cons rfl (fun K hK => ?_) (AllReadyH.cons rfl (fun K hK => ?_) AllReadyH.nil))
          · go_simp
            have HA3 := Lib.hid (al W2 (.cells #[] 24))
            have HZ3 := Lib.hid (below_trans HZ2.out HA3.out)
            have HR8_3 := Lib.hid (HR8_2.out.below HA3.out)
            refine hK.out _ _ (HSF.out _ HZ3.out) (fun hHeld => ?_)
            clear hK
            try simp only [Act.put, List.setIfInBounds_toArray, List.set_cons_zero, List.set_cons_succ]
            clear HA3
            generalize W2.alloc (.cells #[] 24) = W3 at *
            refine wpAnyH_ready (rs := [11, 13]) (by kernel_rfl) (by simp) (AllReadyH.cons rfl (fun K hK => ?_) (AllReadyH.cons rfl (fun K hK => ?_) AllReadyH.nil))
            · refine step_first (by rfl) 119 rfl _ _ rfl _ rfl _ n c1 rfl l HN.out (by omega) (HQ9.out.below HZ3.out) (fun v11 W4 ho hb => ?_)
              obtain ⟨a11, c11, e11⟩ := ho.slice
              rw [HN.out] at e11
              subst e11
              have HZ4 := Lib.hid (below_trans HZ3.out hb)
              have HK8 := Lib.hid (fun W' (hb : Below W3.heap.size W3 W') => HR8_3.out.below hb)
              have HR8_4 := Lib.hid (HR8_3.out.below hb)
              have HO_4 := Lib.hid ho
              have HC_4 := Lib.hid hb
              clear ho hb
              refine hK.out _ _ (HSF.out _ HZ4.out) (fun hHeld => ?_)
              clear hK
              try simp only [Act.put, List.setIfInBounds_toArray, List.set_cons_zero, List.set_cons_succ]
              refine wpAnyH_ready (rs := [13]) (by kernel_rfl) (by simp) (AllReadyH.cons rfl (fun K hK => ?_) AllReadyH.nil)
              go_simp
              have HA5 := Lib.hid (al W4 (.cells #[.int .i64 x.c, .int .i64 x.s, .int .i64 x.o] 24))
              have HZ5 := Lib.hid (below_trans HZ4.out HA5.out)
              have HR8_5 := Lib.hid (HR8_4.out.below HA5.out)
              have HO_5 := Lib.hid (HO_4.out.below HA5.out)
              have HC_5 := Lib.hid (below_trans HC_4.out HA5.out)
              have HR13_5 := Lib.hid (row_one W4 x)
              refine hK.out _ _ (HSF.out _ HZ5.out) (fun hHeld => ?_)
              clear hK
              try simp only [Act.put, List.setIfInBounds_toArray, List.set_cons_zero, List.set_cons_succ]
              clear HA5
              generalize W4.alloc (.cells #[.int .i64 x.c, .int .i64 x.s, .int .i64 x.o] 24) = W5 at *
              refine wpAnyH_ready (rs := [14]) (by kernel_rfl) (by simp) (AllReadyH.cons rfl (fun K hK => ?_) AllReadyH.nil)
              refine step_onto (by rfl) 122 rfl _ _ rfl W3.heap.size _ l rfl HO_5.out _ 1 1 rfl [x] rfl (by rw [HN.out]; omega) (by omega) (by omega) HR13_5.out (by have := HC_5.out.size; omega) (fun v14 W6 ho hb => ?_)
              obtain ⟨a14, c14, e14⟩ := ho.slice
              rw [HLX.out] at e14
              subst e14
              have HZ6 := Lib.hid (HZ5.out.trans (hb.mono HZ3.out.size))
              have HR8_6 := Lib.hid (HK8.out _ (HC_5.out.trans hb))
              have HQ15 := Lib.hid ho
              clear ho hb
              refine hK.out _ _ (HSF.out _ HZ6.out) (fun hHeld => ?_)
              clear hK
              try simp only [Act.put, List.setIfInBounds_toArray, List.set_cons_zero, List.set_cons_succ]
              refine wpAnyH_ready (rs := [15]) (by kernel_rfl) (by simp) (AllReadyH.cons rfl (fun K hK => ?_) AllReadyH.nil)
              go_simp
              go_at_call 16
              (with_reducible refine (HS2.out _ _ HQ15.out).mono ?_)
              rintro e W7 ⟨v15, rfl, q15, hz⟩
              have HZ7 := Lib.hid (below_trans HZ6.out hz)
              have HR8_7 := Lib.hid (HR8_6.out.below hz)
              have HR15 := Lib.hid q15.row
              obtain ⟨a15, c15, e15⟩ := q15.row.slice
              rw [HNS.out] at e15
              subst e15
              clear q15 hz
              go_simp
              refine hK.out _ _ (HSF.out _ HZ7.out) (fun hHeld => ?_)
              clear hK
              try simp only [Act.put, List.setIfInBounds_toArray, List.set_cons_zero, List.set_cons_succ]
              refine wpAnyH_ready (rs := [16]) (by kernel_rfl) (by simp) (AllReadyH.cons rfl (fun K hK => ?_) AllReadyH.nil)
              go_simp
              go_at_call 17
              (with_reducible refine (Same_yes HR8_7.out HR15.out).mono ?_)
              rintro e W8 ⟨rfl, hz⟩
              have HZ8 := Lib.hid (below_trans HZ7.out hz)
              clear hz
              go_simp
              refine hK.out _ _ (HSF.out _ HZ8.out) (fun hHeld => ?_)
              clear hK
              try simp only [Act.put, List.setIfInBounds_toArray, List.set_cons_zero, List.set_cons_succ]
              refine takeW 17 125 (.bool true) (fun _ _ _ _ _ h => h) rfl rfl (by kernel_rfl) (by kernel_rfl) (by kernel_rfl) (by rfl) (fun W' hSw => by (try dsimp only at hSw); go_simp) (by assumption) ?_
              try simp only [Act.put, List.setIfInBounds_toArray, List.set_cons_zero, List.set_cons_succ]
              refine takeW 18 4 (.bool true) (fun _ _ _ _ _ h => h) rfl rfl (by kernel_rfl) (by kernel_rfl) (by kernel_rfl) (by rfl) (fun W' hSw => by (try dsimp only at hSw); go_simp) (by assumption) ?_
              try simp only [Act.put, List.setIfInBounds_toArray, List.set_cons_zero, List.set_cons_succ]
              refine wpAnyH_done (by kernel_rfl) ?_ _
              refine NoPanic.normal ?_
              go_wp2_with fail
              go_ret
              exact ⟨rfl, below_trans HB9.out HZ8.out⟩
            · go_simp
              have HA4 := Lib.hid (al W3 (.cells #[.int .i64 x.c, .int .i64 x.s, .int .i64 x.o] 24))
              have HZ4 := Lib.hid (below_trans HZ3.out HA4.out)
              have HR8_4 := Lib.hid (HR8_3.out.below HA4.out)
              have HR13_4 := Lib.hid (row_one W3 x)
              refine hK.out _ _ (HSF.out _ HZ4.out) (fun hHeld => ?_)
              clear hK
              try simp only [Act.put, List.setIfInBounds_toArray, List.set_cons_zero, List.set_cons_succ]
              clear HA4
              generalize W3.alloc (.cells #[.int .i64 x.c, .int .i64 x.s, .int .i64 x.o] 24) = W4 at *
              refine wpAnyH_ready (rs := [11]) (by kernel_rfl) (by simp) (AllReadyH.cons rfl (fun K hK => ?_) AllReadyH.nil)
              refine step_first (by rfl) 119 rfl _ _ rfl _ rfl _ n c1 rfl l HN.out (by omega) (HQ9.out.below HZ4.out) (fun v11 W5 ho hb => ?_)
              obtain ⟨a11, c11, e11⟩ := ho.slice
              rw [HN.out] at e11
              subst e11
              have HZ5 := Lib.hid (below_trans HZ4.out hb)
              have HK8 := Lib.hid (fun W' (hb : Below W4.heap.size W4 W') => HR8_4.out.below hb)
              have HR8_5 := Lib.hid (HR8_4.out.below hb)
              have HR13_5 := Lib.hid (HR13_4.out.below hb)
              have HO_5 := Lib.hid ho
              have HC_5 := Lib.hid hb
              clear ho hb
              refine hK.out _ _ (HSF.out _ HZ5.out) (fun hHeld => ?_)
              clear hK
              try simp only [Act.put, List.setIfInBounds_toArray, List.set_cons_zero, List.set_cons_succ]
              refine wpAnyH_ready (rs := [14]) (by kernel_rfl) (by simp) (AllReadyH.cons rfl (fun K hK => ?_) AllReadyH.nil)
              refine step_onto (by rfl) 122 rfl _ _ rfl W4.heap.size _ l rfl HO_5.out _ 1 1 rfl [x] rfl (by rw [HN.out]; omega) (by omega) (by omega) HR13_5.out (by have := HC_5.out.size; omega) (fun v14 W6 ho hb => ?_)
              obtain ⟨a14, c14, e14⟩ := ho.slice
              rw [HLX.out] at e14
              subst e14
              have HZ6 := Lib.hid (HZ5.out.trans (hb.mono HZ4.out.size))
              have HR8_6 := Lib.hid (HK8.out _ (HC_5.out.trans hb))
              have HQ15 := Lib.hid ho
              clear ho hb
              refine hK.out _ _ (HSF.out _ HZ6.out) (fun hHeld => ?_)
              clear hK
              try simp only [Act.put, List.setIfInBounds_toArray, List.set_cons_zero, List.set_cons_succ]
              refine wpAnyH_ready (rs := [15]) (by kernel_rfl) (by simp) (AllReadyH.cons rfl (fun K hK => ?_) AllReadyH.nil)
              go_simp
              go_at_call 16
              (with_reducible refine (HS2.out _ _ HQ15.out).mono ?_)
              rintro e W7 ⟨v15, rfl, q15, hz⟩
              have HZ7 := Lib.hid (below_trans HZ6.out hz)
              have HR8_7 := Lib.hid (HR8_6.out.below hz)
              have HR15 := Lib.hid q15.row
              obtain ⟨a15, c15, e15⟩ := q15.row.slice
              rw [HNS.out] at e15
              subst e15
              clear q15 hz
              go_simp
              refine hK.out _ _ (HSF.out _ HZ7.out) (fun hHeld => ?_)
              clear hK
              try simp only [Act.put, List.setIfInBounds_toArray, List.set_cons_zero, List.set_cons_succ]
              refine wpAnyH_ready (rs := [16]) (by kernel_rfl) (by simp) (AllReadyH.cons rfl (fun K hK => ?_) AllReadyH.nil)
              go_simp
              go_at_call 17
              (with_reducible refine (Same_yes HR8_7.out HR15.out).mono ?_)
              rintro e W8 ⟨rfl, hz⟩
              have HZ8 := Lib.hid (below_trans HZ7.out hz)
              clear hz
              go_simp
              refine hK.out _ _ (HSF.out _ HZ8.out) (fun hHeld => ?_)
              clear hK
              try simp only [Act.put, List.setIfInBounds_toArray, List.set_cons_zero, List.set_cons_succ]
              refine takeW 17 125 (.bool true) (fun _ _ _ _ _ h => h) rfl rfl (by kernel_rfl) (by kernel_rfl) (by kernel_rfl) (by rfl) (fun W' hSw => by (try dsimp only at hSw); go_simp) (by assumption) ?_
              try simp only [Act.put, List.setIfInBounds_toArray, List.set_cons_zero, List.set_cons_succ]
              refine takeW 18 4 (.bool true) (fun _ _ _ _ _ h => h) rfl rfl (by kernel_rfl) (by kernel_rfl) (by kernel_rfl) (by rfl) (fun W' hSw => by (try dsimp only at hSw); go_simp) (by assumption) ?_
              try simp only [Act.put, List.setIfInBounds_toArray, List.set_cons_zero, List.set_cons_succ]
              refine wpAnyH_done (by kernel_rfl) ?_ _
              refine NoPanic.normal ?_
              go_wp2_with fail
              go_ret
              exact ⟨rfl, below_trans HB9.out HZ8.out⟩
          · go_simp
            have HA3 := Lib.hid (al W2 (.cells #[.int .i64 x.c, .int .i64 x.s, .int .i64 x.o] 24))
            have HZ3 := Lib.hid (below_trans HZ2.out HA3.out)
            have HR8_3 := Lib.hid (HR8_2.out.below HA3.out)
            have HR13_3 := Lib.hid (row_one W2 x)
            refine hK.out _ _ (HSF.out _ HZ3.out) (fun hHeld => ?_)
            clear hK
            try simp only [Act.put, List.setIfInBounds_toArray, List.set_cons_zero, List.set_cons_succ]
            clear HA3
            generalize W2.alloc (.cells #[.int .i64 x.c, .int .i64 x.s, .int .i64 x.o] 24) = W3 at *
            refine wpAnyH_ready (rs := [9]) (by kernel_rfl) (by simp) (AllReadyH.cons rfl (fun K hK => ?_) AllReadyH.nil)
            go_simp
            have HA4 := Lib.hid (al W3 (.cells #[] 24))
            have HZ4 := Lib.hid (below_trans HZ3.out HA4.out)
            have HR8_4 := Lib.hid (HR8_3.out.below HA4.out)
            have HR13_4 := Lib.hid (HR13_3.out.below HA4.out)
            refine hK.out _ _ (HSF.out _ HZ4.out) (fun hHeld => ?_)
            clear hK
            try simp only [Act.put, List.setIfInBounds_toArray, List.set_cons_zero, List.set_cons_succ]
            clear HA4
            generalize W3.alloc (.cells #[] 24) = W4 at *
            refine wpAnyH_ready (rs := [11]) (by kernel_rfl) (by simp) (AllReadyH.cons rfl (fun K hK => ?_) AllReadyH.nil)
            refine step_first (by rfl) 119 rfl _ _ rfl _ rfl _ n c1 rfl l HN.out (by omega) (HQ9.out.below HZ4.out) (fun v11 W5 ho hb => ?_)
            obtain ⟨a11, c11, e11⟩ := ho.slice
            rw [HN.out] at e11
            subst e11
            have HZ5 := Lib.hid (below_trans HZ4.out hb)
            have HK8 := Lib.hid (fun W' (hb : Below W4.heap.size W4 W') => HR8_4.out.below hb)
            have HR8_5 := Lib.hid (HR8_4.out.below hb)
            have HR13_5 := Lib.hid (HR13_4.out.below hb)
            have HO_5 := Lib.hid ho
            have HC_5 := Lib.hid hb
            clear ho hb
            refine hK.out _ _ (HSF.out _ HZ5.out) (fun hHeld => ?_)
            clear hK
            try simp only [Act.put, List.setIfInBounds_toArray, List.set_cons_zero, List.set_cons_succ]
            refine wpAnyH_ready (rs := [14]) (by kernel_rfl) (by simp) (AllReadyH.cons rfl (fun K hK => ?_) AllReadyH.nil)
            refine step_onto (by rfl) 122 rfl _ _ rfl W4.heap.size _ l rfl HO_5.out _ 1 1 rfl [x] rfl (by rw [HN.out]; omega) (by omega) (by omega) HR13_5.out (by have := HC_5.out.size; omega) (fun v14 W6 ho hb => ?_)
            obtain ⟨a14, c14, e14⟩ := ho.slice
            rw [HLX.out] at e14
            subst e14
            have HZ6 := Lib.hid (HZ5.out.trans (hb.mono HZ4.out.size))
            have HR8_6 := Lib.hid (HK8.out _ (HC_5.out.trans hb))
            have HQ15 := Lib.hid ho
            clear ho hb
            refine hK.out _ _ (HSF.out _ HZ6.out) (fun hHeld => ?_)
            clear hK
            try simp only [Act.put, List.setIfInBounds_toArray, List.set_cons_zero, List.set_cons_succ]
            refine wpAnyH_ready (rs := [15]) (by kernel_rfl) (by simp) (AllReadyH.cons rfl (fun K hK => ?_) AllReadyH.nil)
            go_simp
            go_at_call 16
            (with_reducible refine (HS2.out _ _ HQ15.out).mono ?_)
            rintro e W7 ⟨v15, rfl, q15, hz⟩
            have HZ7 := Lib.hid (below_trans HZ6.out hz)
            have HR8_7 := Lib.hid (HR8_6.out.below hz)
            have HR15 := Lib.hid q15.row
            obtain ⟨a15, c15, e15⟩ := q15.row.slice
            rw [HNS.out] at e15
            subst e15
            clear q15 hz
            go_simp
            refine hK.out _ _ (HSF.out _ HZ7.out) (fun hHeld => ?_)
            clear hK
            try simp only [Act.put, List.setIfInBounds_toArray, List.set_cons_zero, List.set_cons_succ]
            refine wpAnyH_ready (rs := [16]) (by kernel_rfl) (by simp) (AllReadyH.cons rfl (fun K hK => ?_) AllReadyH.nil)
            go_simp
            go_at_call 17
            (with_reducible refine (Same_yes HR8_7.out HR15.out).mono ?_)
            rintro e W8 ⟨rfl, hz⟩
            have HZ8 := Lib.hid (below_trans HZ7.out hz)
            clear hz
            go_simp
            refine hK.out _ _ (HSF.out _ HZ8.out) (fun hHeld => ?_)
            clear hK
            try simp only [Act.put, List.setIfInBounds_toArray, List.set_cons_zero, List.set_cons_succ]
            refine takeW 17 125 (.bool true) (fun _ _ _ _ _ h => h) rfl rfl (by kernel_rfl) (by kernel_rfl) (by kernel_rfl) (by rfl) (fun W' hSw => by (try dsimp only at hSw); go_simp) (by assumption) ?_
            try simp only [Act.put, List.setIfInBounds_toArray, List.set_cons_zero, List.set_cons_succ]
            refine takeW 18 4 (.bool true) (fun _ _ _ _ _ h => h) rfl rfl (by kernel_rfl) (by kernel_rfl) (by kernel_rfl) (by rfl) (fun W' hSw => by (try dsimp only at hSw); go_simp) (by assumption) ?_
            try simp only [Act.put, List.setIfInBounds_toArray, List.set_cons_zero, List.set_cons_succ]
            refine wpAnyH_done (by kernel_rfl) ?_ _
            refine NoPanic.normal ?_
            go_wp2_with fail
            go_ret
            exact ⟨rfl, below_trans HB9.out HZ8.out⟩
        · go_simp
          have HA2 := Lib.hid (al W1 (.cells #[] 24))
          have HZ2 := Lib.hid (below_trans HZ1.out HA2.out)
          refine hK.out _ _ (HSF.out _ HZ2.out) (fun hHeld => ?_)
          clear hK
          try simp only [Act.put, List.setIfInBounds_toArray, List.set_cons_zero, List.set_cons_succ]
          clear HA2
          generalize W1.alloc (.cells #[] 24) = W2 at *
          refine wpAnyH_ready (rs := [8, 13]) (by kernel_rfl) (by simp) (AllReadyH.cons rfl (fun K hK => ?_) (AllReadyH.cons rfl (fun K hK => ?_) AllReadyH.nil))
          · go_simp
            go_at_call 16
            (with_reducible refine (HSL.out _ _ (HL9.out.below HZ2.out)).mono ?_)
            rintro e W3 ⟨v8, rfl, q8, hz⟩
            have HZ3 := Lib.hid (below_trans HZ2.out hz)
            have HR8_3 := Lib.hid q8.row
            obtain ⟨a8, c8, e8⟩ := q8.row.slice
            rw [HNS.out] at e8
            subst e8
            clear q8 hz
            go_simp
            refine hK.out _ _ (HSF.out _ HZ3.out) (fun hHeld => ?_)
            clear hK
            try simp only [Act.put, List.setIfInBounds_toArray, List.set_cons_zero, List.set_cons_succ]
            refine wpAnyH_ready (rs := [11, 13]) (by kernel_rfl) (by simp) (AllReadyH.cons rfl (fun K hK => ?_) (AllReadyH.cons rfl (fun K hK => ?_) AllReadyH.nil))
            · refine step_first (by rfl) 119 rfl _ _ rfl _ rfl _ n c1 rfl l HN.out (by omega) (HQ9.out.below HZ3.out) (fun v11 W4 ho hb => ?_)
              obtain ⟨a11, c11, e11⟩ := ho.slice
              rw [HN.out] at e11
              subst e11
              have HZ4 := Lib.hid (below_trans HZ3.out hb)
              have HK8 := Lib.hid (fun W' (hb : Below W3.heap.size W3 W') => HR8_3.out.below hb)
              have HR8_4 := Lib.hid (HR8_3.out.below hb)
              have HO_4 := Lib.hid ho
              have HC_4 := Lib.hid hb
              clear ho hb
              refine hK.out _ _ (HSF.out _ HZ4.out) (fun hHeld => ?_)
              clear hK
              try simp only [Act.put, List.setIfInBounds_toArray, List.set_cons_zero, List.set_cons_succ]
              refine wpAnyH_ready (rs := [13]) (by kernel_rfl) (by simp) (AllReadyH.cons rfl (fun K hK => ?_) AllReadyH.nil)
              go_simp
              have HA5 := Lib.hid (al W4 (.cells #[.int .i64 x.c, .int .i64 x.s, .int .i64 x.o] 24))
              have HZ5 := Lib.hid (below_trans HZ4.out HA5.out)
              have HR8_5 := Lib.hid (HR8_4.out.below HA5.out)
              have HO_5 := Lib.hid (HO_4.out.below HA5.out)
              have HC_5 := Lib.hid (below_trans HC_4.out HA5.out)
              have HR13_5 := Lib.hid (row_one W4 x)
              refine hK.out _ _ (HSF.out _ HZ5.out) (fun hHeld => ?_)
              clear hK
              try simp only [Act.put, List.setIfInBounds_toArray, List.set_cons_zero, List.set_cons_succ]
              clear HA5
              generalize W4.alloc (.cells #[.int .i64 x.c, .int .i64 x.s, .int .i64 x.o] 24) = W5 at *
              refine wpAnyH_ready (rs := [14]) (by kernel_rfl) (by simp) (AllReadyH.cons rfl (fun K hK => ?_) AllReadyH.nil)
              refine step_onto (by rfl) 122 rfl _ _ rfl W3.heap.size _ l rfl HO_5.out _ 1 1 rfl [x] rfl (by rw [HN.out]; omega) (by omega) (by omega) HR13_5.out (by have := HC_5.out.size; omega) (fun v14 W6 ho hb => ?_)
              obtain ⟨a14, c14, e14⟩ := ho.slice
              rw [HLX.out] at e14
              subst e14
              have HZ6 := Lib.hid (HZ5.out.trans (hb.mono HZ3.out.size))
              have HR8_6 := Lib.hid (HK8.out _ (HC_5.out.trans hb))
              have HQ15 := Lib.hid ho
              clear ho hb
              refine hK.out _ _ (HSF.out _ HZ6.out) (fun hHeld => ?_)
              clear hK
              try simp only [Act.put, List.setIfInBounds_toArray, List.set_cons_zero, List.set_cons_succ]
              refine wpAnyH_ready (rs := [15]) (by kernel_rfl) (by simp) (AllReadyH.cons rfl (fun K hK => ?_) AllReadyH.nil)
              go_simp
              go_at_call 16
              (with_reducible refine (HS2.out _ _ HQ15.out).mono ?_)
              rintro e W7 ⟨v15, rfl, q15, hz⟩
              have HZ7 := Lib.hid (below_trans HZ6.out hz)
              have HR8_7 := Lib.hid (HR8_6.out.below hz)
              have HR15 := Lib.hid q15.row
              obtain ⟨a15, c15, e15⟩ := q15.row.slice
              rw [HNS.out] at e15
              subst e15
              clear q15 hz
              go_simp
              refine hK.out _ _ (HSF.out _ HZ7.out) (fun hHeld => ?_)
              clear hK
              try simp only [Act.put, List.setIfInBounds_toArray, List.set_cons_zero, List.set_cons_succ]
              refine wpAnyH_ready (rs := [16]) (by kernel_rfl) (by simp) (AllReadyH.cons rfl (fun K hK => ?_) AllReadyH.nil)
              go_simp
              go_at_call 17
              (with_reducible refine (Same_yes HR8_7.out HR15.out).mono ?_)
              rintro e W8 ⟨rfl, hz⟩
              have HZ8 := Lib.hid (below_trans HZ7.out hz)
              clear hz
              go_simp
              refine hK.out _ _ (HSF.out _ HZ8.out) (fun hHeld => ?_)
              clear hK
              try simp only [Act.put, List.setIfInBounds_toArray, List.set_cons_zero, List.set_cons_succ]
              refine takeW 17 125 (.bool true) (fun _ _ _ _ _ h => h) rfl rfl (by kernel_rfl) (by kernel_rfl) (by kernel_rfl) (by rfl) (fun W' hSw => by (try dsimp only at hSw); go_simp) (by assumption) ?_
              try simp only [Act.put, List.setIfInBounds_toArray, List.set_cons_zero, List.set_cons_succ]
              refine takeW 18 4 (.bool true) (fun _ _ _ _ _ h => h) rfl rfl (by kernel_rfl) (by kernel_rfl) (by kernel_rfl) (by rfl) (fun W' hSw => by (try dsimp only at hSw); go_simp) (by assumption) ?_
              try simp only [Act.put, List.setIfInBounds_toArray, List.set_cons_zero, List.set_cons_succ]
              refine wpAnyH_done (by kernel_rfl) ?_ _
              refine NoPanic.normal ?_
              go_wp2_with fail
              go_ret
              exact ⟨rfl, below_trans HB9.out HZ8.out⟩
            · go_simp
              have HA4 := Lib.hid (al W3 (.cells #[.int .i64 x.c, .int .i64 x.s, .int .i64 x.o] 24))
              have HZ4 := Lib.hid (below_trans HZ3.out HA4.out)
              have HR8_4 := Lib.hid (HR8_3.out.below HA4.out)
              have HR13_4 := Lib.hid (row_one W3 x)
              refine hK.out _ _ (HSF.out _ HZ4.out) (fun hHeld => ?_)
              clear hK
              try simp only [Act.put, List.setIfInBounds_toArray, List.set_cons_zero, List.set_cons_succ]
              clear HA4
              generalize W3.alloc (.cells #[.int .i64 x.c, .int .i64 x.s, .int .i64 x.o] 24) = W4 at *
              refine wpAnyH_ready (rs := [11]) (by kernel_rfl) (by simp) (AllReadyH.cons rfl (fun K hK => ?_) AllReadyH.nil)
              refine step_first (by rfl) 119 rfl _ _ rfl _ rfl _ n c1 rfl l HN.out (by omega) (HQ9.out.below HZ4.out) (fun v11 W5 ho hb => ?_)
              obtain ⟨a11, c11, e11⟩ := ho.slice
              rw [HN.out] at e11
              subst e11
              have HZ5 := Lib.hid (below_trans HZ4.out hb)
              have HK8 := Lib.hid (fun W' (hb : Below W4.heap.size W4 W') => HR8_4.out.below hb)
              have HR8_5 := Lib.hid (HR8_4.out.below hb)
              have HR13_5 := Lib.hid (HR13_4.out.below hb)
              have HO_5 := Lib.hid ho
              have HC_5 := Lib.hid hb
              clear ho hb
              refine hK.out _ _ (HSF.out _ HZ5.out) (fun hHeld => ?_)
              clear hK
              try simp only [Act.put, List.setIfInBounds_toArray, List.set_cons_zero, List.set_cons_succ]
              refine wpAnyH_ready (rs := [14]) (by kernel_rfl) (by simp) (AllReadyH.cons rfl (fun K hK => ?_) AllReadyH.nil)
              refine step_onto (by rfl) 122 rfl _ _ rfl W4.heap.size _ l rfl HO_5.out _ 1 1 rfl [x] rfl (by rw [HN.out]; omega) (by omega) (by omega) HR13_5.out (by have := HC_5.out.size; omega) (fun v14 W6 ho hb => ?_)
              obtain ⟨a14, c14, e14⟩ := ho.slice
              rw [HLX.out] at e14
              subst e14
              have HZ6 := Lib.hid (HZ5.out.trans (hb.mono HZ4.out.size))
              have HR8_6 := Lib.hid (HK8.out _ (HC_5.out.trans hb))
              have HQ15 := Lib.hid ho
              clear ho hb
              refine hK.out _ _ (HSF.out _ HZ6.out) (fun hHeld => ?_)
              clear hK
              try simp only [Act.put, List.setIfInBounds_toArray, List.set_cons_zero, List.set_cons_succ]
              refine wpAnyH_ready (rs := [15]) (by kernel_rfl) (by simp) (AllReadyH.cons rfl (fun K hK => ?_) AllReadyH.nil)
              go_simp
              go_at_call 16
              (with_reducible refine (HS2.out _ _ HQ15.out).mono ?_)
              rintro e W7 ⟨v15, rfl, q15, hz⟩
              have HZ7 := Lib.hid (below_trans HZ6.out hz)
              have HR8_7 := Lib.hid (HR8_6.out.below hz)
              have HR15 := Lib.hid q15.row
              obtain ⟨a15, c15, e15⟩ := q15.row.slice
              rw [HNS.out] at e15
              subst e15
              clear q15 hz
              go_simp
              refine hK.out _ _ (HSF.out _ HZ7.out) (fun hHeld => ?_)
              clear hK
              try simp only [Act.put, List.setIfInBounds_toArray, List.set_cons_zero, List.set_cons_succ]
              refine wpAnyH_ready (rs := [16]) (by kernel_rfl) (by simp) (AllReadyH.cons rfl (fun K hK => ?_) AllReadyH.nil)
              go_simp
              go_at_call 17
              (with_reducible refine (Same_yes HR8_7.out HR15.out).mono ?_)
              rintro e W8 ⟨rfl, hz⟩
              have HZ8 := Lib.hid (below_trans HZ7.out hz)
              clear hz
              go_simp
              refine hK.out _ _ (HSF.out _ HZ8.out) (fun hHeld => ?_)
              clear hK
              try simp only [Act.put, List.setIfInBounds_toArray, List.set_cons_zero, List.set_cons_succ]
              refine takeW 17 125 (.bool true) (fun _ _ _ _ _ h => h) rfl rfl (by kernel_rfl) (by kernel_rfl) (by kernel_rfl) (by rfl) (fun W' hSw => by (try dsimp only at hSw); go_simp) (by assumption) ?_
              try simp only [Act.put, List.setIfInBounds_toArray, List.set_cons_zero, List.set_cons_succ]
              refine takeW 18 4 (.bool true) (fun _ _ _ _ _ h => h) rfl rfl (by kernel_rfl) (by kernel_rfl) (by kernel_rfl) (by rfl) (fun W' hSw => by (try dsimp only at hSw); go_simp) (by assumption) ?_
              try simp only [Act.put, List.setIfInBounds_toArray, List.set_cons_zero, List.set_cons_succ]
              refine wpAnyH_done (by kernel_rfl) ?_ _
              refine NoPanic.normal ?_
              go_wp2_with fail
              go_ret
              exact ⟨rfl, below_trans HB9.out HZ8.out⟩
          · go_simp
            have HA3 := Lib.hid (al W2 (.cells #[.int .i64 x.c, .int .i64 x.s, .int .i64 x.o] 24))
            have HZ3 := Lib.hid (below_trans HZ2.out HA3.out)
            have HR13_3 := Lib.hid (row_one W2 x)
            refine hK.out _ _ (HSF.out _ HZ3.out) (fun hHeld => ?_)
            clear hK
            try simp only [Act.put, List.setIfInBounds_toArray, List.set_cons_zero, List.set_cons_succ]
            clear HA3
            generalize W2.alloc (.cells #[.int .i64 x.c, .int .i64 x.s, .int .i64 x.o] 24) = W3 at *
            refine wpAnyH_ready (rs := [8]) (by kernel_rfl) (by simp) (AllReadyH.cons rfl (fun K hK => ?_) AllReadyH.nil)
            go_simp
            go_at_call 16
            (with_reducible refine (HSL.out _ _ (HL9.out.below HZ3.out)).mono ?_)
            rintro e W4 ⟨v8, rfl, q8, hz⟩
            have HZ4 := Lib.hid (below_trans HZ3.out hz)
            have HR13_4 := Lib.hid (HR13_3.out.below hz)
            have HR8_4 := Lib.hid q8.row
            obtain ⟨a8, c8, e8⟩ := q8.row.slice
            rw [HNS.out] at e8
            subst e8
            clear q8 hz
            go_simp
            refine hK.out _ _ (HSF.out _ HZ4.out) (fun hHeld => ?_)
            clear hK
            try simp only [Act.put, List.setIfInBounds_toArray, List.set_cons_zero, List.set_cons_succ]
            refine wpAnyH_ready (rs := [11]) (by kernel_rfl) (by simp) (AllReadyH.cons rfl (fun K hK => ?_) AllReadyH.nil)
            refine step_first (by rfl) 119 rfl _ _ rfl _ rfl _ n c1 rfl l HN.out (by omega) (HQ9.out.below HZ4.out) (fun v11 W5 ho hb => ?_)
            obtain ⟨a11, c11, e11⟩ := ho.slice
            rw [HN.out] at e11
            subst e11
            have HZ5 := Lib.hid (below_trans HZ4.out hb)
            have HK8 := Lib.hid (fun W' (hb : Below W4.heap.size W4 W') => HR8_4.out.below hb)
            have HR8_5 := Lib.hid (HR8_4.out.below hb)
            have HR13_5 := Lib.hid (HR13_4.out.below hb)
            have HO_5 := Lib.hid ho
            have HC_5 := Lib.hid hb
            clear ho hb
            refine hK.out _ _ (HSF.out _ HZ5.out) (fun hHeld => ?_)
            clear hK
            try simp only [Act.put, List.setIfInBounds_toArray, List.set_cons_zero, List.set_cons_succ]
            refine wpAnyH_ready (rs := [14]) (by kernel_rfl) (by simp) (AllReadyH.cons rfl (fun K hK => ?_) AllReadyH.nil)
            refine step_onto (by rfl) 122 rfl _ _ rfl W4.heap.size _ l rfl HO_5.out _ 1 1 rfl [x] rfl (by rw [HN.out]; omega) (by omega) (by omega) HR13_5.out (by have := HC_5.out.size; omega) (fun v14 W6 ho hb => ?_)
            obtain ⟨a14, c14, e14⟩ := ho.slice
            rw [HLX.out] at e14
            subst e14
            have HZ6 := Lib.hid (HZ5.out.trans (hb.mono HZ4.out.size))
            have HR8_6 := Lib.hid (HK8.out _ (HC_5.out.trans hb))
            have HQ15 := Lib.hid ho
            clear ho hb
            refine hK.out _ _ (HSF.out _ HZ6.out) (fun hHeld => ?_)
            clear hK
            try simp only [Act.put, List.setIfInBounds_toArray, List.set_cons_zero, List.set_cons_succ]
            refine wpAnyH_ready (rs := [15]) (by kernel_rfl) (by simp) (AllReadyH.cons rfl (fun K hK => ?_) AllReadyH.nil)
            go_simp
            go_at_call 16
            (with_reducible refine (HS2.out _ _ HQ15.out).mono ?_)
            rintro e W7 ⟨v15, rfl, q15, hz⟩
            have HZ7 := Lib.hid (below_trans HZ6.out hz)
            have HR8_7 := Lib.hid (HR8_6.out.below hz)
            have HR15 := Lib.hid q15.row
            obtain ⟨a15, c15, e15⟩ := q15.row.slice
            rw [HNS.out] at e15
            subst e15
            clear q15 hz
            go_simp
            refine hK.out _ _ (HSF.out _ HZ7.out) (fun hHeld => ?_)
            clear hK
            try simp only [Act.put, List.setIfInBounds_toArray, List.set_cons_zero, List.set_cons_succ]
            refine wpAnyH_ready (rs := [16]) (by kernel_rfl) (by simp) (AllReadyH.cons rfl (fun K hK => ?_) AllReadyH.nil)
            go_simp
            go_at_call 17
            (with_reducible refine (Same_yes HR8_7.out HR15.out).mono ?_)
            rintro e W8 ⟨rfl, hz⟩
            have HZ8 := Lib.hid (below_trans HZ7.out hz)
            clear hz
            go_simp
            refine hK.out _ _ (HSF.out _ HZ8.out) (fun hHeld => ?_)
            clear hK
            try simp only [Act.put, List.setIfInBounds_toArray, List.set_cons_zero, List.set_cons_succ]
            refine takeW 17 125 (.bool true) (fun _ _ _ _ _ h => h) rfl rfl (by kernel_rfl) (by kernel_rfl) (by kernel_rfl) (by rfl) (fun W' hSw => by (try dsimp only at hSw); go_simp) (by assumption) ?_
            try simp only [Act.put, List.setIfInBounds_toArray, List.set_cons_zero, List.set_cons_succ]
            refine takeW 18 4 (.bool true) (fun _ _ _ _ _ h => h) rfl rfl (by kernel_rfl) (by kernel_rfl) (by kernel_rfl) (by rfl) (fun W' hSw => by (try dsimp only at hSw); go_simp) (by assumption) ?_
            try simp only [Act.put, List.setIfInBounds_toArray, List.set_cons_zero, List.set_cons_succ]
            refine wpAnyH_done (by kernel_rfl) ?_ _
            refine NoPanic.normal ?_
            go_wp2_with fail
            go_ret
            exact ⟨rfl, below_trans HB9.out HZ8.out⟩
        · go_simp
          have HA2 := Lib.hid (al W1 (.cells #[.int .i64 x.c, .int .i64 x.s, .int .i64 x.o] 24))
          have HZ2 := Lib.hid (below_trans HZ1.out HA2.out)
          have HR13_2 := Lib.hid (row_one W1 x)
          refine hK.out _ _ (HSF.out _ HZ2.out) (fun hHeld => ?_)
          clear hK
          try simp only [Act.put, List.setIfInBounds_toArray, List.set_cons_zero, List.set_cons_succ]
          clear HA2
          generalize W1.alloc (.cells #[.int .i64 x.c, .int .i64 x.s, .int .i64 x.o] 24) = W2 at *
          refine wpAnyH_ready (rs := [8, 9]) (by kernel_rfl) (by simp) (AllReadyH.cons rfl (fun K hK => ?_) (AllReadyH.cons rfl (fun K hK => ?_) AllReadyH.nil))
          · go_simp
            go_at_call 16
            (with_reducible refine (HSL.out _ _ (HL9.out.below HZ2.out)).mono ?_)
            rintro e W3 ⟨v8, rfl, q8, hz⟩
            have HZ3 := Lib.hid (below_trans HZ2.out hz)
            have HR13_3 := Lib.hid (HR13_2.out.below hz)
            have HR8_3 := Lib.hid q8.row
            obtain ⟨a8, c8, e8⟩ := q8.row.slice
            rw [HNS.out] at e8
            subst e8
            clear q8 hz
            go_simp
            refine hK.out _ _ (HSF.out _ HZ3.out) (fun hHeld => ?_)
            clear hK
            try simp only [Act.put, List.setIfInBounds_toArray, List.set_cons_zero, List.set_cons_succ]
            refine wpAnyH_ready (rs := [9]) (by kernel_rfl) (by simp) (AllReadyH.cons rfl (fun K hK => ?_) AllReadyH.nil)
            go_simp
            have HA4 := Lib.hid (al W3 (.cells #[] 24))
            have HZ4 := Lib.hid (below_trans HZ3.out HA4.out)
            have HR8_4 := Lib.hid (HR8_3.out.below HA4.out)
            have HR13_4 := Lib.hid (HR13_3.out.below HA4.out)
            refine hK.out _ _ (HSF.out _ HZ4.out) (fun hHeld => ?_)
            clear hK
            try simp only [Act.put, List.setIfInBounds_toArray, List.set_cons_zero, List.set_cons_succ]
            clear HA4
            generalize W3.alloc (.cells #[] 24) = W4 at *
            refine wpAnyH_ready (rs := [11]) (by kernel_rfl) (by simp) (AllReadyH.cons rfl (fun K hK => ?_) AllReadyH.nil)
            refine step_first (by rfl) 119 rfl _ _ rfl _ rfl _ n c1 rfl l HN.out (by omega) (HQ9.out.below HZ4.out) (fun v11 W5 ho hb => ?_)
            obtain ⟨a11, c11, e11⟩ := ho.slice
            rw [HN.out] at e11
            subst e11
            have HZ5 := Lib.hid (below_trans HZ4.out hb)
            have HK8 := Lib.hid (fun W' (hb : Below W4.heap.size W4 W') => HR8_4.out.below hb)
            have HR8_5 := Lib.hid (HR8_4.out.below hb)
            have HR13_5 := Lib.hid (HR13_4.out.below hb)
            have HO_5 := Lib.hid ho
            have HC_5 := Lib.hid hb
            clear ho hb
            refine hK.out _ _ (HSF.out _ HZ5.out) (fun hHeld => ?_)
            clear hK
            try simp only [Act.put, List.setIfInBounds_toArray, List.set_cons_zero, List.set_cons_succ]
            refine wpAnyH_ready (rs := [14]) (by kernel_rfl) (by simp) (AllReadyH.cons rfl (fun K hK => ?_) AllReadyH.nil)
            refine step_onto (by rfl) 122 rfl _ _ rfl W4.heap.size _ l rfl HO_5.out _ 1 1 rfl [x] rfl (by rw [HN.out]; omega) (by omega) (by omega) HR13_5.out (by have := HC_5.out.size; omega) (fun v14 W6 ho hb => ?_)
            obtain ⟨a14, c14, e14⟩ := ho.slice
            rw [HLX.out] at e14
            subst e14
            have HZ6 := Lib.hid (HZ5.out.trans (hb.mono HZ4.out.size))
            have HR8_6 := Lib.hid (HK8.out _ (HC_5.out.trans hb))
            have HQ15 := Lib.hid ho
            clear ho hb
            refine hK.out _ _ (HSF.out _ HZ6.out) (fun hHeld => ?_)
            clear hK
            try simp only [Act.put, List.setIfInBounds_toArray, List.set_cons_zero, List.set_cons_succ]
            refine wpAnyH_ready (rs := [15]) (by kernel_rfl) (by simp) (AllReadyH.cons rfl (fun K hK => ?_) AllReadyH.nil)
            go_simp
            go_at_call 16
            (with_reducible refine (HS2.out _ _ HQ15.out).mono ?_)
            rintro e W7 ⟨v15, rfl, q15, hz⟩
            have HZ7 := Lib.hid (below_trans HZ6.out hz)
            have HR8_7 := Lib.hid (HR8_6.out.below hz)
            have HR15 := Lib.hid q15.row
            obtain ⟨a15, c15, e15⟩ := q15.row.slice
            rw [HNS.out] at e15
            subst e15
            clear q15 hz
            go_simp
            refine hK.out _ _ (HSF.out _ HZ7.out) (fun hHeld => ?_)
            clear hK
            try simp only [Act.put, List.setIfInBounds_toArray, List.set_cons_zero, List.set_cons_succ]
            refine wpAnyH_ready (rs := [16]) (by kernel_rfl) (by simp) (AllReadyH.cons rfl (fun K hK => ?_) AllReadyH.nil)
            go_simp
            go_at_call 17
            (with_reducible refine (Same_yes HR8_7.out HR15.out).mono ?_)
            rintro e W8 ⟨rfl, hz⟩
            have HZ8 := Lib.hid (below_trans HZ7.out hz)
            clear hz
            go_simp
            refine hK.out _ _ (HSF.out _ HZ8.out) (fun hHeld => ?_)
            clear hK
            try simp only [Act.put, List.setIfInBounds_toArray, List.set_cons_zero, List.set_cons_succ]
            refine takeW 17 125 (.bool true) (fun _ _ _ _ _ h => h) rfl rfl (by kernel_rfl) (by kernel_rfl) (by kernel_rfl) (by rfl) (fun W' hSw => by (try dsimp only at hSw); go_simp) (by assumption) ?_
            try simp only [Act.put, List.setIfInBounds_toArray, List.set_cons_zero, List.set_cons_succ]
            refine takeW 18 4 (.bool true) (fun _ _ _ _ _ h => h) rfl rfl (by kernel_rfl) (by kernel_rfl) (by kernel_rfl) (by rfl) (fun W' hSw => by (try dsimp only at hSw); go_simp) (by assumption) ?_
            try simp only [Act.put, List.setIfInBounds_toArray, List.set_cons_zero, List.set_cons_succ]
            refine wpAnyH_done (by kernel_rfl) ?_ _
            refine NoPanic.normal ?_
            go_wp2_with fail
            go_ret
            exact ⟨rfl, below_trans HB9.out HZ8.out⟩
          · go_simp
            have HA3 := Lib.hid (al W2 (.cells #[] 24))
            have HZ3 := Lib.hid (below_trans HZ2.out HA3.out)
            have HR13_3 := Lib.hid (HR13_2.out.below HA3.out)
            refine hK.out _ _ (HSF.out _ HZ3.out) (fun hHeld => ?_)
            clear hK
            try simp only [Act.put, List.setIfInBounds_toArray, List.set_cons_zero, List.set_cons_succ]
            clear HA3
            generalize W2.alloc (.cells #[] 24) = W3 at *
            refine wpAnyH_ready (rs := [8]) (by kernel_rfl) (by simp) (AllReadyH.cons rfl (fun K hK => ?_) AllReadyH.nil)
            go_simp
            go_at_call 16
            (with_reducible refine (HSL.out _ _ (HL9.out.below HZ3.out)).mono ?_)
            rintro e W4 ⟨v8, rfl, q8, hz⟩
            have HZ4 := Lib.hid (below_trans HZ3.out hz)
            have HR13_4 := Lib.hid (HR13_3.out.below hz)
            have HR8_4 := Lib.hid q8.row
            obtain ⟨a8, c8, e8⟩ := q8.row.slice
            rw [HNS.out] at e8
            subst e8
            clear q8 hz
            go_simp
            refine hK.out _ _ (HSF.out _ HZ4.out) (fun hHeld => ?_)
            clear hK
            try simp only [Act.put, List.setIfInBounds_toArray, List.set_cons_zero, List.set_cons_succ]
            refine wpAnyH_ready (rs := [11]) (by kernel_rfl) (by simp) (AllReadyH.cons rfl (fun K hK => ?_) AllReadyH.nil)
            refine step_first (by rfl) 119 rfl _ _ rfl _ rfl _ n c1 rfl l HN.out (by omega) (HQ9.out.below HZ4.out) (fun v11 W5 ho hb => ?_)
            obtain ⟨a11, c11, e11⟩ := ho.slice
            rw [HN.out] at e11
            subst e11
            have HZ5 := Lib.hid (below_trans HZ4.out hb)
            have HK8 := Lib.hid (fun W' (hb : Below W4.heap.size W4 W') => HR8_4.out.below hb)
            have HR8_5 := Lib.hid (HR8_4.out.below hb)
            have HR13_5 := Lib.hid (HR13_4.out.below hb)
            have HO_5 := Lib.hid ho
            have HC_5 := Lib.hid hb
            clear ho hb
            refine hK.out _ _ (HSF.out _ HZ5.out) (fun hHeld => ?_)
            clear hK
            try simp only [Act.put, List.setIfInBounds_toArray, List.set_cons_zero, List.set_cons_succ]
            refine wpAnyH_ready (rs := [14]) (by kernel_rfl) (by simp) (AllReadyH.cons rfl (fun K hK => ?_) AllReadyH.nil)
            refine step_onto (by rfl) 122 rfl _ _ rfl W4.heap.size _ l rfl HO_5.out _ 1 1 rfl [x] rfl (by rw [HN.out]; omega) (by omega) (by omega) HR13_5.out (by have := HC_5.out.size; omega) (fun v14 W6 ho hb => ?_)
            obtain ⟨a14, c14, e14⟩ := ho.slice
            rw [HLX.out] at e14
            subst e14
            have HZ6 := Lib.hid (HZ5.out.trans (hb.mono HZ4.out.size))
            have HR8_6 := Lib.hid (HK8.out _ (HC_5.out.trans hb))
            have HQ15 := Lib.hid ho
            clear ho hb
            refine hK.out _ _ (HSF.out _ HZ6.out) (fun hHeld => ?_)
            clear hK
            try simp only [Act.put, List.setIfInBounds_toArray, List.set_cons_zero, List.set_cons_succ]
            refine wpAnyH_ready (rs := [15]) (by kernel_rfl) (by simp) (AllReadyH.cons rfl (fun K hK => ?_) AllReadyH.nil)
            go_simp
            go_at_call 16
            (with_reducible refine (HS2.out _ _ HQ15.out).mono ?_)
            rintro e W7 ⟨v15, rfl, q15, hz⟩
            have HZ7 := Lib.hid (below_trans HZ6.out hz)
            have HR8_7 := Lib.hid (HR8_6.out.below hz)
            have HR15 := Lib.hid q15.row
            obtain ⟨a15, c15, e15⟩ := q15.row.slice
            rw [HNS.out] at e15
            subst e15
            clear q15 hz
            go_simp
            refine hK.out _ _ (HSF.out _ HZ7.out) (fun hHeld => ?_)
            clear hK
            try simp only [Act.put, List.setIfInBounds_toArray, List.set_cons_zero, List.set_cons_succ]
            refine wpAnyH_ready (rs := [16]) (by kernel_rfl) (by simp) (AllReadyH.cons rfl (fun K hK => ?_) AllReadyH.nil)
            go_simp
            go_at_call 17
            (with_reducible refine (Same_yes HR8_7.out HR15.out).mono ?_)
            rintro e W8 ⟨rfl, hz⟩
            have HZ8 := Lib.hid (below_trans HZ7.out hz)
            clear hz
            go_simp
            refine hK.out _ _ (HSF.out _ HZ8.out) (fun hHeld => ?_)
            clear hK
            try simp only [Act.put, List.setIfInBounds_toArray, List.set_cons_zero, List.set_cons_succ]
            refine takeW 17 125 (.bool true) (fun _ _ _ _ _ h => h) rfl rfl (by kernel_rfl) (by kernel_rfl) (by kernel_rfl) (by rfl) (fun W' hSw => by (try dsimp only at hSw); go_simp) (by assumption) ?_
            try simp only [Act.put, List.setIfInBounds_toArray, List.set_cons_zero, List.set_cons_succ]
            refine takeW 18 4 (.bool true) (fun _ _ _ _ _ h => h) rfl rfl (by kernel_rfl) (by kernel_rfl) (by kernel_rfl) (by rfl) (fun W' hSw => by (try dsimp only at hSw); go_simp) (by assumption) ?_
            try simp only [Act.put, List.setIfInBounds_toArray, List.set_cons_zero, List.set_cons_succ]
            refine wpAnyH_done (by kernel_rfl) ?_ _
            refine NoPanic.normal ?_
            go_wp2_with fail
            go_ret
            exact ⟨rfl, below_trans HB9.out HZ8.out⟩

set_option maxRecDepth 100000 in
set_option maxHeartbeats 4000000 in
theorem lifted (os : Os) (started : os.Started) (H : Type) (enc : TypeId × Value → H) :
    ReturnsInHanded {} Try.checked os 4 .any (Rows.queueGoesSpec.pre6 enc Try.prog Try.f4 Rows.queueGoesRow.domain false) (Rows.queueGoesSpec.post enc Try.prog Try.f4 false true false false) := by
  refine returnsInHanded_of_change (C := Try.checked) own started (by kernel_rfl) Try.func4
    (ChangeSpec.witness6 (enc := enc) (C := Try.checked) false ⟨#[], #[.slice none 0 0, .agg #[.int .i64 0, .int .i64 0, .int .i64 0]], []⟩ 8 (by kernel_rfl) (by kernel_rfl) (by kernel_rfl) (by kernel_rfl)) ?_
  intro W base args ds gs before hval0 hW hcnd _
  have hval : ∀ (j : Nat) t v, Try.f4.params[j]? = some t → args[j]? = some v → Value.okWide Try.prog W .any base t v := hval0
  have hW' := hW
  obtain ⟨p, q, hA0, hV, rfl, hfz, hnd⟩ := hW
  have hA : DataW.TrodAll enc Try.prog W 0 (fun _ => true) true Try.f4.params.toList args.toList ds p := hA0
  rw [Try.params4] at hA hval
  obtain ⟨v0, vs0, d0, ds0, p0, q0, hargs, rfl, rfl, h0, r0⟩ := trodAll_cons hA
  obtain ⟨v1, vs1, d1, ds1, p1, q1, rfl, rfl, rfl, h1, r1⟩ := trodAll_cons r0
  obtain ⟨rfl, rfl, rfl⟩ := trodAll_nil r1
  obtain rfl : args = #[v0, v1] := by cases args; simp_all
  obtain ⟨rfl, rfl⟩ := trodVars_none hV
  have k0 := h0
  have lt0 : ∀ x ∈ p0, x.block < W.heap.size := by obtain ⟨m, hm⟩ := k0; exact DataW.trod_lt m _ _ _ hm
  obtain ⟨fuel0, hf0⟩ := h0
  obtain ⟨aa0, ll0, cc0, rfl⟩ := okWide_slice Try.underlying22 (hval 0 22 v0 rfl rfl)
  have w0 := argQ_of (v := .slice aa0 ll0 cc0) hf0
  have k1 := h1
  have lt1 : ∀ x ∈ p1, x.block < W.heap.size := by obtain ⟨m, hm⟩ := k1; exact DataW.trod_lt m _ _ _ hm
  obtain ⟨fuel1, hf1⟩ := h1
  obtain ⟨x1, rfl⟩ := open_wait (hval 1 24 v1 rfl rfl) hf1
  clear hA0 hval0
  refine (walk0 (.slice aa0 ll0 cc0) x1 W w0).mono fun e W' ⟨he, bel⟩ => ?_
  subst he
  exact ⟨_, rfl, _, _, _, [], _, [], hW', trodAll_mk1 (shut_bool Try.underlying4 _), (trodAll_cons_mk (Below.trod laidOut (by kernel_rfl) (of_decide_eq_true (by kernel_rfl)) k0 bel lt0) (trodAll_cons_mk (Below.trod laidOut (by kernel_rfl) (of_decide_eq_true (by kernel_rfl)) k1 bel lt1) trodAll_mk0)), rfl, bel.frame _, fun h => by cases h⟩

theorem over : Rows.queueGoesRow.holds Try.pinned (OpenSpec.ofChange Rows.queueGoesSpec) :=
  OpenClaim.holds_of_wide 4 Try.f4 rfl rfl rfl rfl rfl rfl rfl ⟨rfl, rfl, rfl, rfl, rfl⟩ rfl rfl rfl rfl rfl (by kernel_rfl) Try.func4 (by kernel_rfl)
    (of_decide_eq_true (by kernel_rfl)) (by unfold Func.isWrapper; first | (rw [if_pos (by decide +kernel)]; kernel_rfl) | (rw [if_neg (by decide +kernel)]; exact ⟨rfl, rfl⟩))
    (fun os started H enc _ => lifted os started H enc)

theorem proved : Rows.QueueGoesSaid := over
#print axioms proved
end Go.Proofs.Ytdgenemgegpkdaa.queueGoes
