/-
  Proved: for any timers and two more the law TimerOrders returns true: what may be stays such; two timers of unlike kinds or orders stand the same, in whichever order they are set; of the same the last one stands; cleared, it is as if it had not been. No condition.
-/
import Derived.Test.YtncaohdnbibkfaaRows
import Derived.Test.YtncaohdnbibkfaaTFew
namespace Go.Proofs.Ytncaohdnbibkfaa.timerOrders
open Go.ChangeShapes Go.WideShapes Go.ChangeAt Go.RowKit Go.Lib Go.Proofs.Ytncaohdnbibkfaa.Timer
open Go.Proofs.Ytncaohdnbibkfaa.Queue
set_option linter.unusedVariables false

theorem own : ownKnob Try.prog.godebug = none := by kernel_rfl
theorem laidOut : laidOutB Try.prog = true := by kernel_rfl

theorem setO_no {x : Wt} {l : List Wt} (h : setE x l ≠ 0) : setO x l = [] := if_neg h
theorem clearE_t {l : List Wt} (h : rightB l = true) : clearE l = 0 := if_pos h
theorem clearO_t {l : List Wt} (k o : Int) (h : rightB l = true) : clearO k o l = clearL k o l := if_pos h

set_option maxRecDepth 100000 in
set_option maxHeartbeats 8000000 in
theorem walk0 (v : Value) (a b : Wt) (w : World) (hv : ArgT w v) :
    Calls Try.prog 4 #[v, wv a, wv b] w (BoolB true w) := by
  obtain ⟨l0, hr0⟩ := hv
  have hbb := two_al w (.cells #[.int .i64 a.c, .int .i64 a.s, .int .i64 a.o] 24) (.cells #[.int .i64 b.c, .int .i64 b.s, .int .i64 b.o] 24)
  have hx1 := (Box.made w (tcs a) 24).below (al _ (.cells #[.int .i64 b.c, .int .i64 b.s, .int .i64 b.o] 24))
  have hx2 := Box.made (w.alloc (.cells #[.int .i64 a.c, .int .i64 a.s, .int .i64 a.o] 24)) (tcs b) 24
  simp only [World.size_alloc] at hx2
  obtain ⟨W0, hW0⟩ : ∃ W, (w.alloc (.cells #[.int .i64 a.c, .int .i64 a.s, .int .i64 a.o] 24)).alloc (.cells #[.int .i64 b.c, .int .i64 b.s, .int .i64 b.o] 24) = W := ⟨_, rfl⟩
  have HB0 : Hid (Below w.heap.size w W0) := Lib.hid (hW0 ▸ hbb)
  have HXA : Hid (Box w.heap.size (tcs a) W0) := Lib.hid (hW0 ▸ hx1)
  have HXB : Hid (Box (w.heap.size + 1) (tcs b) W0) := Lib.hid (hW0 ▸ hx2)
  have HFE := Lib.hid (few_any (hr0.below HB0.out))
  have hl0 : (l0.take 98).length ≤ 1000 := by rw [List.length_take]; omega
  have HCA : Hid (∀ W, Below W0.heap.size W0 W → (W.cell? ⟨w.heap.size, 0, none⟩ = some (.int .i64 a.c) ∧ W.cell? ⟨w.heap.size, 1, none⟩ = some (.int .i64 a.s) ∧ W.cell? ⟨w.heap.size, 2, none⟩ = some (.int .i64 a.o)) ∧ w.heap.size < W.heap.size) := Lib.hid (fun W hb => ⟨c3' (HXA.out.below hb), (HXA.out.below hb).1⟩)
  have HCB : Hid (∀ W, Below W0.heap.size W0 W → (W.cell? ⟨w.heap.size + 1, 0, none⟩ = some (.int .i64 b.c) ∧ W.cell? ⟨w.heap.size + 1, 1, none⟩ = some (.int .i64 b.s) ∧ W.cell? ⟨w.heap.size + 1, 2, none⟩ = some (.int .i64 b.o)) ∧ w.heap.size + 1 < W.heap.size) := Lib.hid (fun W hb => ⟨c3' (HXB.out.below hb), (HXB.out.below hb).1⟩)
  have HAL := Lib.hid alive_any
  obtain ⟨a0, cap, rfl⟩ := hr0.slice
  generalize l0.length = n0 at *
  generalize l0.take 98 = l at *
  unfold wv
  clear hr0 hbb hx1 hx2
  go_enter Try.func4, Try.ntmps4
  go_upto_region 1 with (fail)
  clear hW0
  go_wp2_with fail
  (with_reducible refine HFE.out.mono ?_)
  rintro e w1 ⟨v1, rfl, hr1, hz⟩
  obtain ⟨a1, c1, rfl⟩ := hr1.slice
  have HB1 := Lib.hid hz
  have HR1 := Lib.hid hr1
  have HSA := Lib.hid (Set_any hr1 hl0 a)
  have HNO := Lib.hid (fun (h : setE a l ≠ 0) => setO_no h)
  have HYE := Lib.hid (fun (h : setE a l = 0) => set_right h)
  unfold wv at HSA
  obtain ⟨⟨p0, p1, p2⟩, p3⟩ := HCA.out _ HB1.out
  clear hr1 hz HFE
  by_cases hse : setE a l = 0
  case neg =>
    rw [HNO.out hse] at HSA
    generalize setE a l = se at *
    have h1 : (se == 0) = false := by simpa using hse
    have h2 : (se != 0) = true := by simpa using hse
    clear hse HNO HYE
    go_wp2_with fail
    (with_reducible refine HSA.out.mono ?_)
    rintro e w2 ⟨v2, rfl, hr2, hz⟩
    obtain ⟨a2, c2, rfl⟩ := hr2.slice
    rw [List.length_nil]
    have HB2 := Lib.hid (below_trans HB1.out hz)
    clear hr2 hz p0 p1 p2 p3
    go_wp2_with fail
    (with_reducible refine (HAL.out _).mono ?_)
    rintro e w3 ⟨rfl, hz⟩
    have HB3 := Lib.hid (below_trans HB0.out (below_trans HB2.out hz))
    clear hz
    go_wp2_with fail
    go_ret
    exact ⟨rfl, HB3.out⟩
  obtain ⟨hrl, _, _, hso, hrx⟩ := HYE.out hse
  have hcs : clearL a.s a.o (setL a l) = clearL a.s a.o l := clear_set hrl
  have hrc := clear_right hrl a.s a.o
  have HSAME := Lib.hid (fun (he : a.s = b.s ∧ a.o = b.o) (h2 : setE b (setL a l) = 0) => And.intro (set_again hse h2 he) (set_same hrl he))
  have HTURN := Lib.hid (fun (hd : Diff a b) (h2 : setE b (setL a l) = 0) => And.intro (set_turn hse h2 hd) (set_comm hrl hd))
  have HOB := Lib.hid (fun (h : setE b l = 0) => (set_right h).2.2.2)
  have HOA2 := Lib.hid (fun (h : setE b l = 0) (h2 : setE a (setL b l) = 0) => (set_right h2).2.2.2.1)
  have HOX := Lib.hid (fun (h : setE b (setL a l) = 0) => (set_right h).2.2.2.1)
  have HNX := Lib.hid (fun (h : setE b (setL a l) ≠ 0) => setO_no h)
  rw [hse, hso] at HSA
  have hlx : (setL a l).length ≤ 1000 := by have := hrx.1; omega
  have HCX := Lib.hid (fun (v : Value) W (hq : QRow W v (setL a l)) => Clear_any hq hlx a.s a.o)
  have HCLL := Lib.hid (fun W (hb : Below w1.heap.size w1 W) => Clear_any (HR1.out.below hb) hl0 a.s a.o)
  simp only [clearE_t (rightB_t.2 hrx), clearO_t _ _ (rightB_t.2 hrx), hcs] at HCX
  simp only [clearE_t (rightB_t.2 hrl), clearO_t _ _ (rightB_t.2 hrl)] at HCLL
  have hlc : (clearL a.s a.o l).length ≤ 1000 := by have := hrc.1; omega
  have HRX := Lib.hid (fun (v : Value) W (hq : QRow W v (setL a l)) => Right_any hq hlx)
  have HRC := Lib.hid (fun (v : Value) W (hq : QRow W v (clearL a.s a.o l)) => Right_any hq hlc)
  simp only [rightB_t.2 hrx] at HRX
  simp only [rightB_t.2 hrc] at HRC
  have HSB := Lib.hid (fun (v : Value) W (hq : QRow W v (setL a l)) => Set_any hq hlx b)
  have HSL := Lib.hid (fun W (hb : Below w1.heap.size w1 W) => Set_any (HR1.out.below hb) hl0 b)
  have HSZ := Lib.hid (fun (h : setE b l = 0) (v : Value) W (hq : QRow W v (setL b l)) => Set_any hq (by have := (HOB.out h).2.1; omega) a)
  unfold wv at HSB HSL HSZ
  generalize clearL a.s a.o l = C at *
  clear hse hrl hso hrx hcs hrc hlx hlc HYE HNO
  go_wp2_with fail
  (with_reducible refine HSA.out.mono ?_)
  rintro e w2 ⟨v2, rfl, hr2, hz⟩
  generalize setL a l = X at *
  obtain ⟨a2, c2, rfl⟩ := hr2.slice
  have HD2 := Lib.hid hz
  have HR2 := Lib.hid hr2
  clear hr2 hz p0 p1 p2 p3
  obtain ⟨⟨p0, p1, p2⟩, p3⟩ := HCA.out _ (below_trans HB1.out HD2.out)
  go_wp2_with fail
  (with_reducible refine (HCX.out _ _ HR2.out).mono ?_)
  rintro e w3 ⟨v3, rfl, hr3, hz⟩
  obtain ⟨a3, c3, rfl⟩ := hr3.slice
  have HE3 := Lib.hid hz
  have HD3 := Lib.hid (below_trans HD2.out hz)
  have HR3 := Lib.hid hr3
  clear hr3 hz p0 p1 p2 p3
  obtain ⟨⟨p0, p1, p2⟩, p3⟩ := HCA.out _ (below_trans HB1.out HD3.out)
  go_wp2_with fail
  (with_reducible refine (HCLL.out _ HD3.out).mono ?_)
  rintro e w4 ⟨v4, rfl, hr4, hz⟩
  obtain ⟨a4, c4, rfl⟩ := hr4.slice
  have HG4 := Lib.hid hz
  have HR4 := Lib.hid hr4
  clear hr4 hz p0 p1 p2 p3
  go_wp2_with fail
  (with_reducible refine (Same_yes (HR3.out.below HG4.out) HR4.out).mono ?_)
  rintro e w5 ⟨rfl, hz⟩
  have HG5 := Lib.hid (below_trans HG4.out hz)
  clear hz
  go_wp2_with fail
  (with_reducible refine (HRX.out _ _ (HR2.out.below (below_trans HE3.out HG5.out))).mono ?_)
  rintro e w6 ⟨rfl, hz⟩
  have HG6 := Lib.hid (below_trans HG5.out hz)
  clear hz
  go_wp2_with fail
  (with_reducible refine (HRC.out _ _ (HR3.out.below HG6.out)).mono ?_)
  rintro e w7 ⟨rfl, hz⟩
  have HG7 := Lib.hid (below_trans HG6.out hz)
  clear hz
  go_wp2_with fail
  (with_reducible refine (HAL.out _).mono ?_)
  rintro e w8 ⟨rfl, hz⟩
  have HE8 := Lib.hid (below_trans HE3.out (below_trans HG7.out hz))
  clear hz
  obtain ⟨⟨q0, q1, q2⟩, q3⟩ := HCB.out _ (below_trans HB1.out (below_trans HD2.out HE8.out))
  go_wp2_with fail
  (with_reducible refine (HSB.out _ _ (HR2.out.below HE8.out)).mono ?_)
  rintro e w9 ⟨v9, rfl, hr9, hz⟩
  have HD9 := Lib.hid (below_trans HD2.out (below_trans HE8.out hz))
  have HR9 := Lib.hid hr9
  clear hz hr9 q0 q1 q2 q3
  by_cases hsx : setE b X = 0
  case neg =>
    rw [HNX.out hsx] at HR9
    generalize setE b X = se at *
    have h1 : (se == 0) = false := by simpa using hsx
    have h2 : (se != 0) = true := by simpa using hsx
    obtain ⟨a9, c9, rfl⟩ := HR9.out.slice
    rw [List.length_nil]
    have HB9 := Lib.hid (below_trans HB0.out (below_trans HB1.out HD9.out))
    clear hsx
    go_wp2_with fail
    go_ret
    exact ⟨rfl, HB9.out⟩
  rw [HOX.out hsx] at HR9
  obtain ⟨⟨p0, p1, p2⟩, p3⟩ := HCA.out _ (below_trans HB1.out HD9.out)
  obtain ⟨⟨q0, q1, q2⟩, q3⟩ := HCB.out _ (below_trans HB1.out HD9.out)
  rw [hsx]
  by_cases hd : a.s = b.s ∧ a.o = b.o
  · obtain ⟨hs1, hs2⟩ := HSAME.out hd hsx
    rw [hs2] at HR9
    rw [hs1, (HOB.out hs1).1] at HSL
    have h1 : (a.s == b.s) = true := by simpa using hd.1
    have h2 : (a.o == b.o) = true := by simpa using hd.2
    generalize setL b l = Z at *
    obtain ⟨a9, c9, rfl⟩ := HR9.out.slice
    clear hd hsx hs1 hs2
    go_wp2_with fail
    (with_reducible refine (HSL.out _ HD9.out).mono ?_)
    rintro e w10 ⟨v10, rfl, hr10, hz⟩
    obtain ⟨a10, c10, rfl⟩ := hr10.slice
    have HD10 := Lib.hid (below_trans HD9.out hz)
    have HG10 := Lib.hid hz
    have HR10 := Lib.hid hr10
    clear hz hr10 p0 p1 p2 p3 q0 q1 q2 q3
    go_wp2_with fail
    (with_reducible refine (Same_yes (HR9.out.below HG10.out) HR10.out).mono ?_)
    rintro e w11 ⟨rfl, hz⟩
    have HB11 := Lib.hid (below_trans HB0.out (below_trans HB1.out (below_trans HD10.out hz)))
    clear hz
    go_wp2_with fail
    go_ret
    exact ⟨rfl, HB11.out⟩
  · obtain ⟨⟨hs1, hs3⟩, hs2⟩ := HTURN.out hd hsx
    rw [hs2] at HR9
    have HSZ2 := Lib.hid (HSZ.out hs1)
    rw [hs3, HOA2.out hs1 hs3] at HSZ2
    rw [hs1, (HOB.out hs1).1] at HSL
    have h2 : (a.s == b.s) = false ∨ ((a.s == b.s) = true ∧ (a.o == b.o) = false) := by
      by_cases e : a.s = b.s
      · exact .inr ⟨by simpa using e, by simpa using (fun e2 => hd ⟨e, e2⟩)⟩
      · exact .inl (by simpa using e)
    generalize setL a (setL b l) = Y at *
    generalize setL b l = Z at *
    obtain ⟨a9, c9, rfl⟩ := HR9.out.slice
    clear hd hsx hs1 hs2 hs3
    rcases h2 with h2 | ⟨h2, h3⟩
    all_goals (
      go_wp2_with fail
      (with_reducible refine (HSL.out _ HD9.out).mono ?_)
      rintro e w10 ⟨v10, rfl, hr10, hz⟩
      obtain ⟨a10, c10, rfl⟩ := hr10.slice
      have HD10 := Lib.hid (below_trans HD9.out hz)
      have HG10 := Lib.hid hz
      have HR10 := Lib.hid hr10
      clear hz hr10 p0 p1 p2 p3 q0 q1 q2 q3
      obtain ⟨⟨p0, p1, p2⟩, p3⟩ := HCA.out _ (below_trans HB1.out HD10.out)
      go_wp2_with fail
      (with_reducible refine (HSZ2.out _ _ HR10.out).mono ?_)
      rintro e w11 ⟨v11, rfl, hr11, hz⟩
      obtain ⟨a11, c11, rfl⟩ := hr11.slice
      have HD11 := Lib.hid (below_trans HD10.out hz)
      have HG11 := Lib.hid (below_trans HG10.out hz)
      have HR11 := Lib.hid hr11
      clear hz hr11 p0 p1 p2 p3
      go_wp2_with fail
      (with_reducible refine (Same_yes (HR9.out.below HG11.out) HR11.out).mono ?_)
      rintro e w12 ⟨rfl, hz⟩
      have HB12 := Lib.hid (below_trans HB0.out (below_trans HB1.out (below_trans HD11.out hz)))
      clear hz
      go_wp2_with fail
      go_ret
      exact ⟨rfl, HB12.out⟩)

set_option maxRecDepth 100000 in
set_option maxHeartbeats 4000000 in
theorem lifted (os : Os) (started : os.Started) (H : Type) (enc : TypeId × Value → H) :
    ReturnsInHanded {} Try.checked os 4 .any (Rows.timerOrdersSpec.pre6 enc Try.prog Try.f4 Rows.timerOrdersRow.domain false) (Rows.timerOrdersSpec.post enc Try.prog Try.f4 false true false false) := by
  refine returnsInHanded_of_change (C := Try.checked) own started (by kernel_rfl) Try.func4
    (ChangeSpec.witness6 (enc := enc) (C := Try.checked) false ⟨#[], #[.slice none 0 0, .agg #[.int .i64 0, .int .i64 0, .int .i64 0], .agg #[.int .i64 0, .int .i64 0, .int .i64 0]], []⟩ 8 (by kernel_rfl) (by kernel_rfl) (by kernel_rfl) (by kernel_rfl)) ?_
  intro W base args ds gs before hval0 hW hcnd _
  have hval : ∀ (j : Nat) t v, Try.f4.params[j]? = some t → args[j]? = some v → Value.okWide Try.prog W .any base t v := hval0
  have hW' := hW
  obtain ⟨p, q, hA0, hV, rfl, hfz, hnd⟩ := hW
  have hA : DataW.TrodAll enc Try.prog W 0 (fun _ => true) true Try.f4.params.toList args.toList ds p := hA0
  rw [Try.params4] at hA hval
  obtain ⟨v0, vs0, d0, ds0, p0, q0, hargs, rfl, rfl, h0, r0⟩ := trodAll_cons hA
  obtain ⟨v1, vs1, d1, ds1, p1, q1, rfl, rfl, rfl, h1, r1⟩ := trodAll_cons r0
  obtain ⟨v2, vs2, d2, ds2, p2, q2, rfl, rfl, rfl, h2, r2⟩ := trodAll_cons r1
  obtain ⟨rfl, rfl, rfl⟩ := trodAll_nil r2
  obtain rfl : args = #[v0, v1, v2] := by cases args; simp_all
  obtain ⟨rfl, rfl⟩ := trodVars_none hV
  have k0 := h0
  have lt0 : ∀ x ∈ p0, x.block < W.heap.size := by obtain ⟨m, hm⟩ := k0; exact DataW.trod_lt m _ _ _ hm
  obtain ⟨fuel0, hf0⟩ := h0
  obtain ⟨aa0, ll0, cc0, rfl⟩ := okWide_slice Try.underlying22 (hval 0 22 v0 rfl rfl)
  have w0 := argT_of (v := .slice aa0 ll0 cc0) hf0
  have k1 := h1
  have lt1 : ∀ x ∈ p1, x.block < W.heap.size := by obtain ⟨m, hm⟩ := k1; exact DataW.trod_lt m _ _ _ hm
  obtain ⟨fuel1, hf1⟩ := h1
  obtain ⟨x1, rfl⟩ := open_timer (hval 1 24 v1 rfl rfl) hf1
  have k2 := h2
  have lt2 : ∀ x ∈ p2, x.block < W.heap.size := by obtain ⟨m, hm⟩ := k2; exact DataW.trod_lt m _ _ _ hm
  obtain ⟨fuel2, hf2⟩ := h2
  obtain ⟨x2, rfl⟩ := open_timer (hval 2 24 v2 rfl rfl) hf2
  clear hA0 hval0
  refine (walk0 (.slice aa0 ll0 cc0) x1 x2 W w0).mono fun e W' ⟨he, bel⟩ => ?_
  subst he
  exact ⟨_, rfl, _, _, _, [], _, [], hW', trodAll_mk1 (shut_bool Try.underlying4 _), (trodAll_cons_mk (Below.trod laidOut (by kernel_rfl) (of_decide_eq_true (by kernel_rfl)) k0 bel lt0) (trodAll_cons_mk (Below.trod laidOut (by kernel_rfl) (of_decide_eq_true (by kernel_rfl)) k1 bel lt1) (trodAll_cons_mk (Below.trod laidOut (by kernel_rfl) (of_decide_eq_true (by kernel_rfl)) k2 bel lt2) trodAll_mk0))), rfl, bel.frame _, fun h => by cases h⟩

theorem over : Rows.timerOrdersRow.holds Try.pinned (OpenSpec.ofChange Rows.timerOrdersSpec) :=
  OpenClaim.holds_of_wide 4 Try.f4 rfl rfl rfl rfl rfl rfl rfl ⟨rfl, rfl, rfl, rfl, rfl⟩ rfl rfl rfl rfl rfl (by kernel_rfl) Try.func4 (by kernel_rfl)
    (of_decide_eq_true (by kernel_rfl)) (by unfold Func.isWrapper; first | (rw [if_pos (by decide +kernel)]; kernel_rfl) | (rw [if_neg (by decide +kernel)]; exact ⟨rfl, rfl⟩))
    (fun os started H enc _ => lifted os started H enc)

theorem proved : Rows.TimerOrdersSaid := over
#print axioms proved
end Go.Proofs.Ytncaohdnbibkfaa.timerOrders
