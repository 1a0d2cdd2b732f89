/-
  Proved: for any waits, and any two, the law QueueHeaps returns true: which stand as a heap, which goes ahead, and any made to stand so, or sorted, is as the reference says, or refused. No condition.
-/
import Derived.Test.YtdgenemgegpkdaaRows
import Derived.Test.YtdgenemgegpkdaaQGoes3
namespace Go.Proofs.Ytdgenemgegpkdaa.queueHeaps
open Go.ChangeShapes Go.WideShapes Go.ChangeAt Go.RowKit Go.Lib Go.Sort Go.Proofs.Ytdgenemgegpkdaa.Queue
open Go.ChangeMaps (open_string shut_string)
set_option linter.unusedVariables false

theorem own : ownKnob Try.prog.godebug = none := by kernel_rfl
theorem laidOut : laidOutB Try.prog = true := by kernel_rfl

set_option maxRecDepth 100000 in
set_option maxHeartbeats 8000000 in
theorem walk0 (v : Value) (x y : Wt) (w : World) (hv : ArgQ w v) :
    Calls Try.prog 3 #[v, wv x, wv y] w (BoolB true w) := by
  obtain ⟨l0, h0⟩ := hv
  obtain ⟨hx0, hy0⟩ := Box.made2 w [.int .i64 x.c, .int .i64 x.s, .int .i64 x.o] [.int .i64 y.c, .int .i64 y.s, .int .i64 y.o] 24 24
  have HX0 := Lib.hid hx0
  have HY0 := Lib.hid hy0
  have HA := Lib.hid (below_trans (al w (.cells #[.int .i64 x.c, .int .i64 x.s, .int .i64 x.o] 24)) (al (w.alloc (.cells #[.int .i64 x.c, .int .i64 x.s, .int .i64 x.o] 24)) (.cells #[.int .i64 y.c, .int .i64 y.s, .int .i64 y.o] 24)))
  have hfw := few_any (h0.below HA.out)
  obtain ⟨a0, cap0, rfl⟩ := h0.slice
  obtain ⟨l, hl⟩ : ∃ l, l0.take 66 = l := ⟨_, rfl⟩
  have hl66 : l.length ≤ 66 := by rw [← hl, List.length_take]; omega
  rw [hl] at hfw
  have HF := Lib.hid hfw
  clear h0 hl hfw hx0 hy0
  generalize l0.length = n0 at *
  obtain ⟨L, k, hmk, hK⟩ := makes l hl66
  obtain ⟨S, j, hso, hJ⟩ := sorts l hl66
  have HMK := Lib.hid hmk
  have HSR := Lib.hid hso
  have HCK := Lib.hid hK
  have HCJ := Lib.hid hJ
  have HRT := Lib.hid (fun (W : World) v (q : QRow W v l) => Right_any q (by omega))
  have HHP := Lib.hid (fun (W : World) v (q : QRow W v l) => refHeap_any q (by omega))
  have HAL := Lib.hid (fun (W : World) v (q : QRow W v l) => refAll_any q (by omega))
  have hls := fun W => Less_any x y W
  have hlr := fun W => refLess_any x y W
  unfold wv at hls hlr
  have HLS := Lib.hid hls
  have HLR := Lib.hid hlr
  obtain ⟨n, hn⟩ : ∃ n, l.length = n := ⟨_, rfl⟩
  have HN := Lib.hid hn
  obtain ⟨nL, hnL⟩ : ∃ n, L.length = n := ⟨_, rfl⟩
  have HNL := Lib.hid hnL
  obtain ⟨nS, hnS⟩ : ∃ n, S.length = n := ⟨_, rfl⟩
  have HNS := Lib.hid hnS
  clear hmk hso hK hJ hn hnL hnS hls hlr
  unfold wv
  go_enter Try.func3, Try.ntmps3
  go_upto_region 1 with fail
  generalize (w.alloc (.cells #[.int .i64 x.c, .int .i64 x.s, .int .i64 x.o] 24)).alloc (.cells #[.int .i64 y.c, .int .i64 y.s, .int .i64 y.o] 24) = W0 at *
  go_upto_region 4 with (first
    | (go_at_call 7; (with_reducible refine HF.out.mono ?_); rintro e w1 ⟨v1, rfl, q1, b1⟩; have HB1 := Lib.hid (below_trans HA.out b1); have HX1 := Lib.hid (HX0.out.below b1); have HY1 := Lib.hid (HY0.out.below b1); have HQ1 := Lib.hid q1; obtain ⟨a1, c1, e1⟩ := q1.slice; rw [HN.out] at e1; subst e1; clear q1 b1)
    | (go_at_call 8; (with_reducible refine (HMK.out _ _ HQ1.out).mono ?_); rintro e w2 ⟨v2, rfl, q2, b2⟩; have HB2 := Lib.hid (below_trans HB1.out b2); have HX2 := Lib.hid (HX1.out.below b2); have HY2 := Lib.hid (HY1.out.below b2); have HQ2 := Lib.hid (HQ1.out.below b2); have HL2 := Lib.hid q2; obtain ⟨a2, c2, e2⟩ := q2.slice; rw [HNL.out] at e2; subst e2; clear q2 b2)
    | (go_at_call 9; (with_reducible refine (HSR.out _ _ HQ2.out).mono ?_); rintro e w3 ⟨v3, rfl, q3, b3⟩; have HB3 := Lib.hid (below_trans HB2.out b3); have HX3 := Lib.hid (HX2.out.below b3); have HY3 := Lib.hid (HY2.out.below b3); have HQ3 := Lib.hid (HQ2.out.below b3); have HL3 := Lib.hid (HL2.out.below b3); have HS3 := Lib.hid q3; obtain ⟨a3, c3, e3⟩ := q3.slice; rw [HNS.out] at e3; subst e3; clear q3 b3))
  clear HA HX0 HY0 HF HB1 HX1 HY1 HQ1 HB2 HX2 HY2 HQ2 HL2 HMK HSR
  have HSF : Hid (∀ w', Below w3.heap.size w3 w' → w'.cell? ⟨w.heap.size, 0, none⟩ = some (.int .i64 x.c) ∧ w'.cell? ⟨w.heap.size, 1, none⟩ = some (.int .i64 x.s) ∧ w'.cell? ⟨w.heap.size, 2, none⟩ = some (.int .i64 x.o) ∧ w'.cell? ⟨w.heap.size + 1, 0, none⟩ = some (.int .i64 y.c) ∧ w'.cell? ⟨w.heap.size + 1, 1, none⟩ = some (.int .i64 y.s) ∧ w'.cell? ⟨w.heap.size + 1, 2, none⟩ = some (.int .i64 y.o)) := Lib.hid (fun w' h => ⟨((HX3.out.below h).c3).1, ((HX3.out.below h).c3).2.1, ((HX3.out.below h).c3).2.2, (HY3.out.below h).c3⟩)
  go_cut [41] from 24 to 41 (fun t W => t = .bool false ∧ Below w3.heap.size w3 W)
  case first =>
    generalize ltB x y = m1 at HLS HLR
    generalize rightB l = r at HRT HHP
    cases m1 with
    | true =>
      cases r with
      | true =>
        go_region_held3 (fun w' => w'.cell? ⟨w.heap.size, 0, none⟩ = some (.int .i64 x.c) ∧ w'.cell? ⟨w.heap.size, 1, none⟩ = some (.int .i64 x.s) ∧ w'.cell? ⟨w.heap.size, 2, none⟩ = some (.int .i64 x.o) ∧ w'.cell? ⟨w.heap.size + 1, 0, none⟩ = some (.int .i64 y.c) ∧ w'.cell? ⟨w.heap.size + 1, 1, none⟩ = some (.int .i64 y.s) ∧ w'.cell? ⟨w.heap.size + 1, 2, none⟩ = some (.int .i64 y.o)) (first | with_reducible exact HSF.out _ (dr w3) | with_reducible exact HSF.out _ HZ4.out | with_reducible exact HSF.out _ HZ5.out | with_reducible exact HSF.out _ HZ6.out | with_reducible exact HSF.out _ HZ7.out | with_reducible exact HSF.out _ HZ8.out | fail)
          (first
            | (go_at_call 10; (with_reducible refine (HLS.out _).mono ?_); rintro e w4 ⟨rfl, hz⟩; have HZ4 := Lib.hid (below_trans (dr w3) hz); clear hz)
            | (go_at_call 11; (with_reducible refine (HLR.out _).mono ?_); rintro e w5 ⟨rfl, hz⟩; have HZ5 := Lib.hid (below_trans HZ4.out hz); clear hz)
            | (go_at_call 12; (with_reducible refine (HRT.out _ _ (HQ3.out.below HZ5.out)).mono ?_); rintro e w6 ⟨rfl, hz⟩; have HZ6 := Lib.hid (below_trans HZ5.out hz); clear hz)
            | (go_at_call 13; (with_reducible refine (HHP.out _ _ (HQ3.out.below HZ6.out)).mono ?_); rintro e w7 ⟨rfl, hz⟩; have HZ7 := Lib.hid (below_trans HZ6.out hz); clear hz)
            | (go_at_call 14; (with_reducible refine (alive_any _).mono ?_); rintro e w8 ⟨rfl, hz⟩; have HZ8 := Lib.hid (below_trans HZ7.out hz); clear hz)
            | fail)
        go_wp2_with fail
        go_meet
        exact ⟨rfl, HZ8.out⟩
      | false =>
        go_region_held3 (fun w' => w'.cell? ⟨w.heap.size, 0, none⟩ = some (.int .i64 x.c) ∧ w'.cell? ⟨w.heap.size, 1, none⟩ = some (.int .i64 x.s) ∧ w'.cell? ⟨w.heap.size, 2, none⟩ = some (.int .i64 x.o) ∧ w'.cell? ⟨w.heap.size + 1, 0, none⟩ = some (.int .i64 y.c) ∧ w'.cell? ⟨w.heap.size + 1, 1, none⟩ = some (.int .i64 y.s) ∧ w'.cell? ⟨w.heap.size + 1, 2, none⟩ = some (.int .i64 y.o)) (first | with_reducible exact HSF.out _ (dr w3) | with_reducible exact HSF.out _ HZ4.out | with_reducible exact HSF.out _ HZ5.out | with_reducible exact HSF.out _ HZ6.out | with_reducible exact HSF.out _ HZ7.out | with_reducible exact HSF.out _ HZ8.out | fail)
          (first
            | (go_at_call 10; (with_reducible refine (HLS.out _).mono ?_); rintro e w4 ⟨rfl, hz⟩; have HZ4 := Lib.hid (below_trans (dr w3) hz); clear hz)
            | (go_at_call 11; (with_reducible refine (HLR.out _).mono ?_); rintro e w5 ⟨rfl, hz⟩; have HZ5 := Lib.hid (below_trans HZ4.out hz); clear hz)
            | (go_at_call 12; (with_reducible refine (HRT.out _ _ (HQ3.out.below HZ5.out)).mono ?_); rintro e w6 ⟨rfl, hz⟩; have HZ6 := Lib.hid (below_trans HZ5.out hz); clear hz)
            | (go_at_call 13; (with_reducible refine (HHP.out _ _ (HQ3.out.below HZ6.out)).mono ?_); rintro e w7 ⟨rfl, hz⟩; have HZ7 := Lib.hid (below_trans HZ6.out hz); clear hz)
            | (go_at_call 14; (with_reducible refine (alive_any _).mono ?_); rintro e w8 ⟨rfl, hz⟩; have HZ8 := Lib.hid (below_trans HZ7.out hz); clear hz)
            | fail)
        go_wp2_with fail
        go_meet
        exact ⟨rfl, HZ8.out⟩
    | false =>
      cases r with
      | true =>
        go_region_held3 (fun w' => w'.cell? ⟨w.heap.size, 0, none⟩ = some (.int .i64 x.c) ∧ w'.cell? ⟨w.heap.size, 1, none⟩ = some (.int .i64 x.s) ∧ w'.cell? ⟨w.heap.size, 2, none⟩ = some (.int .i64 x.o) ∧ w'.cell? ⟨w.heap.size + 1, 0, none⟩ = some (.int .i64 y.c) ∧ w'.cell? ⟨w.heap.size + 1, 1, none⟩ = some (.int .i64 y.s) ∧ w'.cell? ⟨w.heap.size + 1, 2, none⟩ = some (.int .i64 y.o)) (first | with_reducible exact HSF.out _ (dr w3) | with_reducible exact HSF.out _ HZ4.out | with_reducible exact HSF.out _ HZ5.out | with_reducible exact HSF.out _ HZ6.out | with_reducible exact HSF.out _ HZ7.out | with_reducible exact HSF.out _ HZ8.out | fail)
          (first
            | (go_at_call 10; (with_reducible refine (HLS.out _).mono ?_); rintro e w4 ⟨rfl, hz⟩; have HZ4 := Lib.hid (below_trans (dr w3) hz); clear hz)
            | (go_at_call 11; (with_reducible refine (HLR.out _).mono ?_); rintro e w5 ⟨rfl, hz⟩; have HZ5 := Lib.hid (below_trans HZ4.out hz); clear hz)
            | (go_at_call 12; (with_reducible refine (HRT.out _ _ (HQ3.out.below HZ5.out)).mono ?_); rintro e w6 ⟨rfl, hz⟩; have HZ6 := Lib.hid (below_trans HZ5.out hz); clear hz)
            | (go_at_call 13; (with_reducible refine (HHP.out _ _ (HQ3.out.below HZ6.out)).mono ?_); rintro e w7 ⟨rfl, hz⟩; have HZ7 := Lib.hid (below_trans HZ6.out hz); clear hz)
            | (go_at_call 14; (with_reducible refine (alive_any _).mono ?_); rintro e w8 ⟨rfl, hz⟩; have HZ8 := Lib.hid (below_trans HZ7.out hz); clear hz)
            | fail)
        go_wp2_with fail
        go_meet
        exact ⟨rfl, HZ8.out⟩
      | false =>
        go_region_held3 (fun w' => w'.cell? ⟨w.heap.size, 0, none⟩ = some (.int .i64 x.c) ∧ w'.cell? ⟨w.heap.size, 1, none⟩ = some (.int .i64 x.s) ∧ w'.cell? ⟨w.heap.size, 2, none⟩ = some (.int .i64 x.o) ∧ w'.cell? ⟨w.heap.size + 1, 0, none⟩ = some (.int .i64 y.c) ∧ w'.cell? ⟨w.heap.size + 1, 1, none⟩ = some (.int .i64 y.s) ∧ w'.cell? ⟨w.heap.size + 1, 2, none⟩ = some (.int .i64 y.o)) (first | with_reducible exact HSF.out _ (dr w3) | with_reducible exact HSF.out _ HZ4.out | with_reducible exact HSF.out _ HZ5.out | with_reducible exact HSF.out _ HZ6.out | with_reducible exact HSF.out _ HZ7.out | with_reducible exact HSF.out _ HZ8.out | fail)
          (first
            | (go_at_call 10; (with_reducible refine (HLS.out _).mono ?_); rintro e w4 ⟨rfl, hz⟩; have HZ4 := Lib.hid (below_trans (dr w3) hz); clear hz)
            | (go_at_call 11; (with_reducible refine (HLR.out _).mono ?_); rintro e w5 ⟨rfl, hz⟩; have HZ5 := Lib.hid (below_trans HZ4.out hz); clear hz)
            | (go_at_call 12; (with_reducible refine (HRT.out _ _ (HQ3.out.below HZ5.out)).mono ?_); rintro e w6 ⟨rfl, hz⟩; have HZ6 := Lib.hid (below_trans HZ5.out hz); clear hz)
            | (go_at_call 13; (with_reducible refine (HHP.out _ _ (HQ3.out.below HZ6.out)).mono ?_); rintro e w7 ⟨rfl, hz⟩; have HZ7 := Lib.hid (below_trans HZ6.out hz); clear hz)
            | (go_at_call 14; (with_reducible refine (alive_any _).mono ?_); rintro e w8 ⟨rfl, hz⟩; have HZ8 := Lib.hid (below_trans HZ7.out hz); clear hz)
            | fail)
        go_wp2_with fail
        go_meet
        exact ⟨rfl, HZ8.out⟩
  case rest =>
    obtain ⟨rfl, hb4⟩ := hcut
    have HB4 := Lib.hid (below_trans HB3.out hb4)
    have HQ4 := Lib.hid (HQ3.out.below hb4)
    have HL4 := Lib.hid (HL3.out.below hb4)
    have HS4 := Lib.hid (HS3.out.below hb4)
    clear hb4 HB3 HQ3 HL3 HS3 HX3 HY3 HSF HLS HLR HRT HHP
    cases ha : allB l with
    | false =>
      rw [ha] at HAL HCK HCJ
      obtain ⟨rfl, rfl⟩ : L = [] ∧ k = 1 := by
        rcases HCK.out with h | h
        · exact h.2
        · exact absurd h.1 (by decide)
      obtain ⟨rfl, rfl⟩ : S = [] ∧ j = 1 := by
        rcases HCJ.out with h | h
        · exact h.2
        · exact absurd h.1 (by decide)
      obtain rfl : 0 = nL := HNL.out
      obtain rfl : 0 = nS := HNS.out
      go_wp2_with (go_at_call 15; (with_reducible refine (HAL.out _ _ HQ4.out).mono ?_); rintro e w5 ⟨rfl, hz⟩; have HB5 := Lib.hid (below_trans HB4.out hz); clear hz)
      go_ret
      exact ⟨rfl, HB5.out⟩
    | true =>
      rw [ha] at HAL HCK HCJ
      obtain ⟨hk, hrL, hsL, hlL⟩ : k = 0 ∧ rightB L = true ∧ sortL L = sortL l ∧ L.length = l.length := by
        rcases HCK.out with h | h
        · exact absurd h.1 (by decide)
        · exact h.2
      obtain ⟨hj, hS⟩ : j = 0 ∧ S = sortL l := by
        rcases HCJ.out with h | h
        · exact absurd h.1 (by decide)
        · exact h.2
      subst hk
      subst hj
      have h64 : n ≤ 66 := by rw [← HN.out]; exact hl66
      have hnn : nL = n := by rw [← HNL.out, ← HN.out, hlL]
      have hnS : nS = n := by rw [← HNS.out, hS, sortL_len, HN.out]
      subst hnn
      subst hnS
      have HSO := Lib.hid (fun (W : World) v (q : QRow W v l) => refSorted_any q (by omega))
      have HSL := Lib.hid (fun (W : World) v (q : QRow W v L) => (show Calls Try.prog 16 #[v] W (NewQ (sortL l) W) from by
        have := refSorted_any q (by omega)
        rwa [hsL] at this))
      have HHL := Lib.hid (fun (W : World) v (q : QRow W v L) => (show Calls Try.prog 13 #[v] W (BoolB true W) from by
        have := refHeap_any q (by omega)
        rwa [hrL] at this))
      rw [hS] at HS4
      have HLN := Lib.hid (sortL_len l)
      rw [HN.out] at HLN
      clear hrL hsL hlL hS HCK HCJ
      go_wp2_with (first
        | (go_at_call 15; (with_reducible refine (HAL.out _ _ HQ4.out).mono ?_); rintro e w5 ⟨rfl, hz⟩; have HB5 := Lib.hid (below_trans HB4.out hz); have HQ5 := Lib.hid (HQ4.out.below hz); have HL5 := Lib.hid (HL4.out.below hz); have HS5 := Lib.hid (HS4.out.below hz); clear hz)
        | (go_at_call 16; (with_reducible refine (HSO.out _ _ HQ5.out).mono ?_); rintro e w6 ⟨v6, rfl, q6, hz⟩; have HB6 := Lib.hid (below_trans HB5.out hz); have HL6 := Lib.hid (HL5.out.below hz); have HS6 := Lib.hid (HS5.out.below hz); have HW6 := Lib.hid q6.row; obtain ⟨a6, c6, e6⟩ := q6.row.slice; rw [HLN.out] at e6; subst e6; clear q6 hz)
        | (go_at_call 17; (with_reducible refine (Same_yes HS6.out HW6.out).mono ?_); rintro e w7 ⟨rfl, hz⟩; have HB7 := Lib.hid (below_trans HB6.out hz); have HL7 := Lib.hid (HL6.out.below hz); have HW7 := Lib.hid (HW6.out.below hz); clear hz)
        | (go_at_call 13; (with_reducible refine (HHL.out _ _ HL7.out).mono ?_); rintro e w8 ⟨rfl, hz⟩; have HB8 := Lib.hid (below_trans HB7.out hz); have HL8 := Lib.hid (HL7.out.below hz); have HW8 := Lib.hid (HW7.out.below hz); clear hz)
        | (go_at_call 16; (with_reducible refine (HSL.out _ _ HL8.out).mono ?_); rintro e w9 ⟨v9, rfl, q9, hz⟩; have HB9 := Lib.hid (below_trans HB8.out hz); have HW9 := Lib.hid (HW8.out.below hz); have HV9 := Lib.hid q9.row; obtain ⟨a9, c9, e9⟩ := q9.row.slice; rw [HLN.out] at e9; subst e9; clear q9 hz)
        | (go_at_call 17; (with_reducible refine (Same_yes HV9.out HW9.out).mono ?_); rintro e w10 ⟨rfl, hz⟩; have HB10 := Lib.hid (below_trans HB9.out hz); clear hz))
      go_ret
      exact ⟨rfl, HB10.out⟩
set_option maxRecDepth 100000 in
set_option maxHeartbeats 4000000 in
theorem lifted (os : Os) (started : os.Started) (H : Type) (enc : TypeId × Value → H) :
    ReturnsInHanded {} Try.checked os 3 .any (Rows.queueHeapsSpec.pre6 enc Try.prog Try.f3 Rows.queueHeapsRow.domain false) (Rows.queueHeapsSpec.post enc Try.prog Try.f3 false true false false) := by
  refine returnsInHanded_of_change (C := Try.checked) own started (by kernel_rfl) Try.func3
    (ChangeSpec.witness6 (enc := enc) (C := Try.checked) false ⟨#[], #[.slice none 0 0, .agg #[.int .i64 0, .int .i64 0, .int .i64 0], .agg #[.int .i64 0, .int .i64 0, .int .i64 0]], []⟩ 8 (by kernel_rfl) (by kernel_rfl) (by kernel_rfl) (by kernel_rfl)) ?_
  intro W base args ds gs before hval0 hW hcnd _
  have hval : ∀ (j : Nat) t v, Try.f3.params[j]? = some t → args[j]? = some v → Value.okWide Try.prog W .any base t v := hval0
  have hW' := hW
  obtain ⟨p, q, hA0, hV, rfl, hfz, hnd⟩ := hW
  have hA : DataW.TrodAll enc Try.prog W 0 (fun _ => true) true Try.f3.params.toList args.toList ds p := hA0
  rw [Try.params3] at hA hval
  obtain ⟨v0, vs0, d0, ds0, p0, q0, hargs, rfl, rfl, h0, r0⟩ := trodAll_cons hA
  obtain ⟨v1, vs1, d1, ds1, p1, q1, rfl, rfl, rfl, h1, r1⟩ := trodAll_cons r0
  obtain ⟨v2, vs2, d2, ds2, p2, q2, rfl, rfl, rfl, h2, r2⟩ := trodAll_cons r1
  obtain ⟨rfl, rfl, rfl⟩ := trodAll_nil r2
  obtain rfl : args = #[v0, v1, v2] := by cases args; simp_all
  obtain ⟨rfl, rfl⟩ := trodVars_none hV
  have k0 := h0
  have lt0 : ∀ x ∈ p0, x.block < W.heap.size := by obtain ⟨m, hm⟩ := k0; exact DataW.trod_lt m _ _ _ hm
  obtain ⟨fuel0, hf0⟩ := h0
  obtain ⟨aa0, ll0, cc0, rfl⟩ := okWide_slice Try.underlying22 (hval 0 22 v0 rfl rfl)
  have w0 := argQ_of (v := .slice aa0 ll0 cc0) hf0
  have k1 := h1
  have lt1 : ∀ x ∈ p1, x.block < W.heap.size := by obtain ⟨m, hm⟩ := k1; exact DataW.trod_lt m _ _ _ hm
  obtain ⟨fuel1, hf1⟩ := h1
  obtain ⟨x1, rfl⟩ := open_wait (hval 1 24 v1 rfl rfl) hf1
  have k2 := h2
  have lt2 : ∀ x ∈ p2, x.block < W.heap.size := by obtain ⟨m, hm⟩ := k2; exact DataW.trod_lt m _ _ _ hm
  obtain ⟨fuel2, hf2⟩ := h2
  obtain ⟨x2, rfl⟩ := open_wait (hval 2 24 v2 rfl rfl) hf2
  clear hA0 hval0
  refine (walk0 (.slice aa0 ll0 cc0) x1 x2 W w0).mono fun e W' ⟨he, bel⟩ => ?_
  subst he
  exact ⟨_, rfl, _, _, _, [], _, [], hW', trodAll_mk1 (shut_bool Try.underlying4 _), (trodAll_cons_mk (Below.trod laidOut (by kernel_rfl) (of_decide_eq_true (by kernel_rfl)) k0 bel lt0) (trodAll_cons_mk (Below.trod laidOut (by kernel_rfl) (of_decide_eq_true (by kernel_rfl)) k1 bel lt1) (trodAll_cons_mk (Below.trod laidOut (by kernel_rfl) (of_decide_eq_true (by kernel_rfl)) k2 bel lt2) trodAll_mk0))), rfl, bel.frame _, fun h => by cases h⟩

theorem over : Rows.queueHeapsRow.holds Try.pinned (OpenSpec.ofChange Rows.queueHeapsSpec) :=
  OpenClaim.holds_of_wide 3 Try.f3 rfl rfl rfl rfl rfl rfl rfl ⟨rfl, rfl, rfl, rfl, rfl⟩ rfl rfl rfl rfl rfl (by kernel_rfl) Try.func3 (by kernel_rfl)
    (of_decide_eq_true (by kernel_rfl)) (by unfold Func.isWrapper; first | (rw [if_pos (by decide +kernel)]; kernel_rfl) | (rw [if_neg (by decide +kernel)]; exact ⟨rfl, rfl⟩))
    (fun os started H enc _ => lifted os started H enc)

theorem proved : Rows.QueueHeapsSaid := over
#print axioms proved
end Go.Proofs.Ytdgenemgegpkdaa.queueHeaps
