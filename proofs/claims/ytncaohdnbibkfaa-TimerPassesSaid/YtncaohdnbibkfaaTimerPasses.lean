/-
  Proved: for any timers and two times the law TimerPasses returns true: what is due at a time is due later, too; of what is left nothing is due then, and the next one is behind it; both together are all. No condition.
-/
import Derived.Test.YtncaohdnbibkfaaRows
import Derived.Test.YtncaohdnbibkfaaTFew
namespace Go.Proofs.Ytncaohdnbibkfaa.timerPasses
open Go.ChangeShapes Go.WideShapes Go.ChangeAt Go.RowKit Go.Lib Go.Proofs.Ytncaohdnbibkfaa.Timer
open Go.Proofs.Ytncaohdnbibkfaa.Queue
set_option linter.unusedVariables false

theorem own : ownKnob Try.prog.godebug = none := by kernel_rfl
theorem laidOut : laidOutB Try.prog = true := by kernel_rfl

theorem tmod_bd (n : Int) : 0 ≤ (wrap64 (n.tmod 100 + 100)).tmod 100 ∧ (wrap64 (n.tmod 100 + 100)).tmod 100 ≤ 99 := by
  have h : -100 < n.tmod 100 ∧ n.tmod 100 < 100 := by
    rcases Int.le_total 0 n with h | h
    · rw [Int.tmod_eq_emod_of_nonneg h]; omega
    · obtain ⟨m, rfl⟩ : ∃ m, n = -m := ⟨-n, by omega⟩
      rw [Int.neg_tmod, Int.tmod_eq_emod_of_nonneg (by omega)]; omega
  have e : wrap64 (n.tmod 100 + 100) = n.tmod 100 + 100 := IntWalk.wrap64_in _ (by omega)
  rw [e, Int.tmod_eq_emod_of_nonneg (by omega)]
  omega
theorem clearE_t {l : List Wt} (h : rightB l = true) : clearE l = 0 := if_pos h
theorem clearE_f {l : List Wt} (h : rightB l = false) : clearE l = 1 := if_neg (by rw [h]; simp)
theorem dueO_t {l : List Wt} (t : Int) (h : rightB l = true) : dueO t l = dueL t l := if_pos h
theorem restO_t {l : List Wt} (t : Int) (h : rightB l = true) : restO t l = restL t l := if_pos h
theorem dueO_f {l : List Wt} (t : Int) (h : rightB l = false) : dueO t l = [] := if_neg (by rw [h]; simp)
theorem restO_f {l : List Wt} (t : Int) (h : rightB l = false) : restO t l = [] := if_neg (by rw [h]; simp)
/-- Next's answer of what is left. -/
theorem next_left {t : Int} {l : List Wt} (hr : rightB l = true) : (restL t l = [] ∧ nextN (restL t l) = 0 ∧ nextE (restL t l) = 8) ∨ (0 < (restL t l).length ∧ t < nextN (restL t l) ∧ nextE (restL t l) = 0) := by
  have h1 : rightB (restL t l) = true := rightB_t.2 (rest_right (rightB_t.1 hr) t)
  have h2 : ∀ y ∈ restL t l, t < y.c := fun y hy => rest_next hy
  unfold nextN nextE
  rw [h1, if_pos rfl, if_pos rfl]
  generalize restL t l = r at *
  cases r with
  | nil => exact .inl ⟨rfl, rfl, rfl⟩
  | cons y r => exact .inr ⟨by simp, h2 y List.mem_cons_self, rfl⟩

set_option maxRecDepth 100000 in
set_option maxHeartbeats 8000000 in
theorem walk0 (v : Value) (now : Int) (_n1 : -9223372036854775808 ≤ now) (_n2 : now ≤ 9223372036854775807) (by_ : Int) (_b1 : -9223372036854775808 ≤ by_) (_b2 : by_ ≤ 9223372036854775807) (w : World) (hv : ArgT w v) :
    Calls Try.prog 5 #[v, .int .i64 now, .int .i64 by_] w (BoolB true w) := by
  obtain ⟨l0, hr0⟩ := hv
  have HFE := Lib.hid (few_any hr0)
  have hl0 : (l0.take 98).length ≤ 1000 := by rw [List.length_take]; omega
  obtain ⟨a, cap, rfl⟩ := hr0.slice
  generalize l0.length = n0 at *
  generalize l0.take 98 = l at *
  clear hr0
  go_enter Try.func5, Try.ntmps5
  go_wp2_with fail
  (with_reducible refine HFE.out.mono ?_)
  rintro e w1 ⟨v1, rfl, hr1, hz⟩
  obtain ⟨a1, c1, rfl⟩ := hr1.slice
  have HB1 := Lib.hid hz
  have HR1 := Lib.hid hr1
  clear hr1 hz HFE
  go_wp2_with fail
  obtain ⟨t0, t9⟩ := tmod_bd now
  obtain ⟨b0, b9⟩ := tmod_bd by_
  generalize (wrap64 (now.tmod 100 + 100)).tmod 100 = t at *
  generalize (wrap64 (by_.tmod 100 + 100)).tmod 100 = b at *
  obtain ⟨u, hu⟩ : ∃ u, t + b = u := ⟨_, rfl⟩
  have u1 : 0 ≤ u := by omega
  have u2 : u ≤ 198 := by omega
  have HTU : Hid (t ≤ u) := Lib.hid (by omega)
  have HAL := Lib.hid alive_any
  have hd1 := Due_any HR1.out hl0 t
  cases hr : rightB l with
  | false =>
    have hrt := fun W (hb : Below w1.heap.size w1 W) => Right_any (HR1.out.below hb) hl0
    rw [clearE_f hr, dueO_f t hr, restO_f t hr] at hd1
    rw [hr] at hrt
    have HD1 := Lib.hid hd1
    have HRT := Lib.hid hrt
    clear hd1 hrt hr
    (with_reducible refine HD1.out.mono ?_)
    rintro e w2 ⟨v2, v3, rfl, hr2, hr3, hz⟩
    have HB2 := Lib.hid hz
    obtain ⟨a2, n2, c2, rfl⟩ : ∃ a n c, v2 = .slice a n c := (by obtain ⟨a', c', e⟩ := hr2.slice; exact ⟨a', _, c', e⟩)
    obtain ⟨a3, n3, c3, rfl⟩ : ∃ a n c, v3 = .slice a n c := (by obtain ⟨a', c', e⟩ := hr3.slice; exact ⟨a', _, c', e⟩)
    clear hz hr2 hr3
    go_wp2_with fail
    (with_reducible refine (HAL.out _).mono ?_)
    rintro e w3 ⟨rfl, hz⟩
    have HB3 := Lib.hid (below_trans HB2.out hz)
    clear hz
    go_wp2_with fail
    (with_reducible refine (HRT.out _ HB3.out).mono ?_)
    rintro e w4 ⟨rfl, hz⟩
    have HB4 := Lib.hid (below_trans HB1.out (below_trans HB3.out hz))
    clear hz
    go_wp2_with fail
    go_ret
    exact ⟨rfl, HB4.out⟩
  | true =>
    have hrp := rightB_t.1 hr
    have hd2 := fun W (hb : Below w1.heap.size w1 W) => Due_any (HR1.out.below hb) hl0 u
    have hrr : rightB (restL t l) = true := rightB_t.2 (rest_right hrp t)
    have hrl : (restL t l).length ≤ 1000 := by have := due_all t l; omega
    have hd3 := fun (v : Value) W (hq : QRow W v (restL t l)) => Due_any hq hrl t
    have hnx := fun (v : Value) W (hq : QRow W v (restL t l)) => Next_any hq hrl
    simp only [clearE_t hr, dueO_t _ hr, restO_t _ hr] at hd1 hd2
    simp only [clearE_t hrr, dueO_t _ hrr, restO_t _ hrr, (rest_none t l).1, (rest_none t l).2] at hd3
    have HDA := Lib.hid (due_all t l)
    have HDL := Lib.hid (due_later HTU.out hrp.2.2.1)
    have HNL := Lib.hid (next_left (t := t) hr)
    generalize nextN (restL t l) = nn at *
    generalize nextE (restL t l) = ne at *
    generalize dueL t l = D at *
    generalize restL t l = R at *
    generalize dueL u l = L at *
    generalize restL u l = L' at *
    have HD1 := Lib.hid hd1
    have HD2 := Lib.hid hd2
    have HD3 := Lib.hid hd3
    have HNX := Lib.hid hnx
    clear hd1 hd2 hd3 hnx hrr hrl hrp hr
    (with_reducible refine HD1.out.mono ?_)
    rintro e w2 ⟨v2, v3, rfl, hr2, hr3, hz⟩
    have HB2 := Lib.hid hz
    have HQ2 := Lib.hid hr2
    have HQ3 := Lib.hid hr3
    obtain ⟨a2, c2, rfl⟩ := hr2.slice
    obtain ⟨a3, c3, rfl⟩ := hr3.slice
    clear hz hr2 hr3 HD1
    go_wp2_with fail
    (with_reducible refine (HD2.out _ HB2.out).mono ?_)
    rintro e w3 ⟨v4, v5, rfl, hr4, hr5, hz⟩
    have HB3 := Lib.hid hz
    have HQ4 := Lib.hid hr4
    obtain ⟨a4, c4, rfl⟩ := hr4.slice
    obtain ⟨a5, n5, c5, rfl⟩ : ∃ a n c, v5 = .slice a n c := (by obtain ⟨a', c', e⟩ := hr5.slice; exact ⟨a', _, c', e⟩)
    clear hz hr4 hr5 HD2
    go_wp2_with fail
    (with_reducible refine (HD3.out _ _ (HQ3.out.below HB3.out)).mono ?_)
    rintro e w4 ⟨v6, v7, rfl, hr6, hr7, hz⟩
    have HB4 := Lib.hid (below_trans HB3.out hz)
    have HB34 : Hid (Below w3.heap.size w3 w4) := Lib.hid hz
    have HQ7 := Lib.hid hr7
    obtain ⟨a6, c6, rfl⟩ := hr6.slice
    obtain ⟨a7, c7, rfl⟩ := hr7.slice
    rw [List.length_nil]
    clear hz hr6 HD3
    go_wp2_with fail
    (with_reducible refine (Same_yes hr7 (HQ3.out.below HB4.out)).mono ?_)
    rintro e w5 ⟨rfl, hz⟩
    have HB5 := Lib.hid (below_trans HB4.out hz)
    have HB35 : Hid (Below w3.heap.size w3 w5) := Lib.hid (below_trans HB34.out hz)
    have hda : (D.length : Int) + R.length = l.length := by have := HDA.out; omega
    have hdl : ¬ (L.length : Int) < D.length := by have := HDL.out.1; omega
    have hca := (QRow.cap HQ4.out).2
    have hcb : (D.length : Int) ≤ c4 := by have := HDL.out.1; have := hca.1; omega
    have hcc : (0 : Int) ≤ D.length := by omega
    have hll : IntKind.i64.wrap (l.length : Int) = l.length := IntWalk.i64_in _ (by omega)
    have hlm : (D.length : Int) + R.length ≤ 1000 := by omega
    clear hz hr7
    go_wp2_with fail
    have hq4 := QRow.take (HQ4.out.below HB35.out) (n := D.length) HDL.out.1
    rw [HDL.out.2] at hq4
    (with_reducible refine (Same_yes hq4 (HQ2.out.below HB5.out)).mono ?_)
    rintro e w6 ⟨rfl, hz⟩
    have HB6 := Lib.hid (below_trans HB5.out hz)
    clear hz hq4
    go_wp2_with fail
    (with_reducible refine (HAL.out _).mono ?_)
    rintro e w7 ⟨rfl, hz⟩
    have HB7 := Lib.hid (below_trans HB6.out hz)
    clear hz hda hdl hca hcb hcc hll hlm
    go_wp2_with fail
    (with_reducible refine (HNX.out _ _ (HQ3.out.below HB7.out)).mono ?_)
    rintro e w8 ⟨rfl, hz⟩
    have HB8 := Lib.hid (below_trans HB1.out (below_trans HB2.out (below_trans HB7.out hz)))
    clear hz HNX
    rcases HNL.out with ⟨rfl, rfl, rfl⟩ | ⟨h1, h2, rfl⟩
    · rw [List.length_nil]
      go_wp2_with fail
      go_ret
      exact ⟨rfl, HB8.out⟩
    · have h3 : nn > t := h2
      go_wp2_with fail
      go_ret
      exact ⟨rfl, HB8.out⟩

set_option maxRecDepth 100000 in
set_option maxHeartbeats 4000000 in
theorem lifted (os : Os) (started : os.Started) (H : Type) (enc : TypeId × Value → H) :
    ReturnsInHanded {} Try.checked os 5 .any (Rows.timerPassesSpec.pre6 enc Try.prog Try.f5 Rows.timerPassesRow.domain false) (Rows.timerPassesSpec.post enc Try.prog Try.f5 false true false false) := by
  refine returnsInHanded_of_change (C := Try.checked) own started (by kernel_rfl) Try.func5
    (ChangeSpec.witness6 (enc := enc) (C := Try.checked) false ⟨#[], #[.slice none 0 0, .int .i64 0, .int .i64 0], []⟩ 8 (by kernel_rfl) (by kernel_rfl) (by kernel_rfl) (by kernel_rfl)) ?_
  intro W base args ds gs before hval0 hW hcnd _
  have hval : ∀ (j : Nat) t v, Try.f5.params[j]? = some t → args[j]? = some v → Value.okWide Try.prog W .any base t v := hval0
  have hW' := hW
  obtain ⟨p, q, hA0, hV, rfl, hfz, hnd⟩ := hW
  have hA : DataW.TrodAll enc Try.prog W 0 (fun _ => true) true Try.f5.params.toList args.toList ds p := hA0
  rw [Try.params5] at hA hval
  obtain ⟨v0, vs0, d0, ds0, p0, q0, hargs, rfl, rfl, h0, r0⟩ := trodAll_cons hA
  obtain ⟨v1, vs1, d1, ds1, p1, q1, rfl, rfl, rfl, h1, r1⟩ := trodAll_cons r0
  obtain ⟨v2, vs2, d2, ds2, p2, q2, rfl, rfl, rfl, h2, r2⟩ := trodAll_cons r1
  obtain ⟨rfl, rfl, rfl⟩ := trodAll_nil r2
  obtain rfl : args = #[v0, v1, v2] := by cases args; simp_all
  obtain ⟨rfl, rfl⟩ := trodVars_none hV
  have k0 := h0
  have lt0 : ∀ x ∈ p0, x.block < W.heap.size := by obtain ⟨m, hm⟩ := k0; exact DataW.trod_lt m _ _ _ hm
  obtain ⟨fuel0, hf0⟩ := h0
  obtain ⟨aa0, ll0, cc0, rfl⟩ := okWide_slice Try.underlying22 (hval 0 22 v0 rfl rfl)
  have w0 := argT_of (v := .slice aa0 ll0 cc0) hf0
  obtain ⟨a1, rfl, rfl, rfl, w1⟩ := open_int Try.underlying3 (hval 1 3 v1 rfl rfl) h1
  have hb1 : -9223372036854775808 ≤ a1 ∧ a1 ≤ 9223372036854775807 := by
    have := w1
    simp [Lit.wf, IntKind.min, IntKind.max, IntKind.bits, IntKind.signed] at this
    omega
  obtain ⟨a2, rfl, rfl, rfl, w2⟩ := open_int Try.underlying3 (hval 2 3 v2 rfl rfl) h2
  have hb2 : -9223372036854775808 ≤ a2 ∧ a2 ≤ 9223372036854775807 := by
    have := w2
    simp [Lit.wf, IntKind.min, IntKind.max, IntKind.bits, IntKind.signed] at this
    omega
  clear hA0 hval0
  refine (walk0 (.slice aa0 ll0 cc0) a1 hb1.1 hb1.2 a2 hb2.1 hb2.2 W w0).mono fun e W' ⟨he, bel⟩ => ?_
  subst he
  exact ⟨_, rfl, _, _, _, [], _, [], hW', trodAll_mk1 (shut_bool Try.underlying4 _), (trodAll_cons_mk (Below.trod laidOut (by kernel_rfl) (of_decide_eq_true (by kernel_rfl)) k0 bel lt0) (trodAll_cons_mk (shut_int Try.underlying3 w1) (trodAll_cons_mk (shut_int Try.underlying3 w2) trodAll_mk0))), rfl, bel.frame _, fun h => by cases h⟩

theorem over : Rows.timerPassesRow.holds Try.pinned (OpenSpec.ofChange Rows.timerPassesSpec) :=
  OpenClaim.holds_of_wide 5 Try.f5 rfl rfl rfl rfl rfl rfl rfl ⟨rfl, rfl, rfl, rfl, rfl⟩ rfl rfl rfl rfl rfl (by kernel_rfl) Try.func5 (by kernel_rfl)
    (of_decide_eq_true (by kernel_rfl)) (by unfold Func.isWrapper; first | (rw [if_pos (by decide +kernel)]; kernel_rfl) | (rw [if_neg (by decide +kernel)]; exact ⟨rfl, rfl⟩))
    (fun os started H enc _ => lifted os started H enc)

theorem proved : Rows.TimerPassesSaid := over
#print axioms proved
end Go.Proofs.Ytncaohdnbibkfaa.timerPasses
