/-
  Proved: for any rule and number the law GoodsUnits returns true: how many are needed is as the document says, or refused; they are enough, and one less is not. No condition.
-/
import Derived.Test.YthhadeohabkleaaRows
import Derived.Test.YthhadeohabkleaaGArg1
namespace Go.Proofs.Ythhadeohabkleaa.goodsUnits
open Go.ChangeShapes Go.WideShapes Go.ChangeAt Go.RowKit Go.Lib Go.Proofs.Ythhadeohabkleaa.Goods
open Go.ChangeMaps (open_string shut_string)
set_option linter.unusedVariables false

theorem own : ownKnob Try.prog.godebug = none := by kernel_rfl
theorem laidOut : laidOutB Try.prog = true := by kernel_rfl

set_option maxRecDepth 100000 in
set_option maxHeartbeats 4000000 in
theorem walk0 (x : Sb) (hx : Came x) (n : Int) (hn1 : -9223372036854775808 ≤ n) (hn2 : n ≤ 9223372036854775807) (w : World) :
    Calls Try.prog 4 #[sv x, .int .i64 n] w (BoolB true w) := by
  obtain ⟨hx1, hx2, _⟩ := hx
  have HA := Lib.hid (al w (.cells #[.string x.f, .string x.t, .int .i64 x.r, .int .i64 x.n, .int .i64 x.d] 27))
  have HX := Lib.hid (Box.made w [.string x.f, .string x.t, .int .i64 x.r, .int .i64 x.n, .int .i64 x.d] 27)
  have hc := fun W => cut_any x hx1 hx2 W
  have hys := cutR_small x
  generalize cutR x = y at hc hys
  have hu := fun W => Units_any y hys n W
  have hm := fun W => refMay_any y hys W
  have hr := fun W (h1 : numP y) (h2 : cntP n) => refUnits_any y n h1 h2 W
  unfold SubB at hc
  have hways : (mayB y = false ∧ unitsE y n = 1 ∧ unitsK y n = 0) ∨ (mayB y = true ∧ (n < 1 ∨ 1073741824 < n) ∧ unitsE y n = 1 ∧ unitsK y n = 0) ∨ (mayB y = true ∧ numP y ∧ cntP n ∧ 1073741824 < need y n ∧ unitsE y n = 2 ∧ unitsK y n = 0) ∨ (mayB y = true ∧ numP y ∧ cntP n ∧ ¬ 1073741824 < need y n ∧ unitsE y n = 0 ∧ unitsK y n = need y n) := by
    unfold unitsK
    unfold unitsE
    cases hm : mayB y with
    | false => exact .inl ⟨rfl, by simp, by simp⟩
    | true =>
      by_cases hn : cntP n
      · have := (mayB_t.1 hm).2.2.2
        by_cases hq : 1073741824 < need y n
        · exact .inr (.inr (.inl ⟨rfl, this, hn, hq, by simp [hn, hq], by simp [hn, hq]⟩))
        · exact .inr (.inr (.inr ⟨rfl, this, hn, hq, by simp [hn, hq], by simp [hn, hq]⟩))
      · exact .inr (.inl ⟨rfl, by unfold cntP at hn; omega, by simp [hn], by simp [hn]⟩)
  unfold sv at hc hu hm hr ⊢
  obtain ⟨u, z, e1, e2, hu⟩ : ∃ u z, unitsK y n = u ∧ unitsE y n = z ∧ ∀ W, Calls Try.prog 21 #[.agg #[.string y.f, .string y.t, .int .i64 y.r, .int .i64 y.n, .int .i64 y.d], .int .i64 n] W (PairB u z W) := ⟨_, _, rfl, rfl, hu⟩
  rw [e1, e2] at hways
  have HC := Lib.hid hc
  have HU := Lib.hid hu
  have HL := Lib.hid (fun W => alive_any W)
  clear e1 e2 hc hu
  rcases hways with ⟨m, rfl, rfl⟩ | ⟨m, hn, rfl, rfl⟩ | ⟨m, hp, hn, hq, rfl, rfl⟩ | ⟨m, hp, hn, hq, rfl, rfl⟩
  all_goals (
    rw [m] at hm
    have HM := Lib.hid hm
    clear hm m
    go_enter Try.func4, Try.ntmps4
    go_wp2_with fail
    (with_reducible refine (HC.out _).mono ?_)
    rintro e w1 ⟨rfl, hz⟩
    have hb1 := (HX.out.below hz).five (.string y.f) (.string y.t) (.int .i64 y.r) (.int .i64 y.n) (.int .i64 y.d)
    have he1 := below_five (b := w.heap.size) (.string y.f) (.string y.t) (.int .i64 y.r) (.int .i64 y.n) (.int .i64 y.d) (below_trans HA.out hz) (Nat.le_refl _)
    obtain ⟨z0, z1, z2, z3, z4⟩ := (HX.out.below hz).z5
    obtain ⟨y0, y1, y2, y3, y4⟩ := (HX.out.below hz).c5
    have hs1 := (HX.out.below hz).1
    have HB1 := Lib.hid hb1
    have HE1 := Lib.hid he1
    clear hz hb1 he1
    go_upto_region 2 with (fail)
    generalize ((((w1.setCell ⟨w.heap.size, 0, none⟩ (.string y.f)).setCell ⟨w.heap.size, 1, none⟩ (.string y.t)).setCell ⟨w.heap.size, 2, none⟩ (.int .i64 y.r)).setCell ⟨w.heap.size, 3, none⟩ (.int .i64 y.n)).setCell ⟨w.heap.size, 4, none⟩ (.int .i64 y.d) = W1 at *
    clear z0 z1 z2 z3 z4 y0 y1 y2 y3 y4 hs1
    obtain ⟨y0, y1, y2, y3, y4⟩ := HB1.out.c5
    have hs1 := HB1.out.1
    go_wp2_with fail
    (with_reducible refine (HU.out _).mono ?_)
    rintro e w2 ⟨rfl, hz⟩
    have hb2 := HB1.out.below hz
    obtain ⟨x0, x1, x2, x3, x4⟩ := hb2.c5
    have hs2 := hb2.1
    have HB2 := Lib.hid hb2
    have HE2 := Lib.hid (below_trans HE1.out hz)
    clear hz hb2
    go_wp2_with fail
    (with_reducible refine (HM.out _).mono ?_)
    rintro e w3 ⟨rfl, hz⟩
    have hb3 := HB2.out.below hz
    obtain ⟨x0', x1', x2', x3', x4'⟩ := hb3.c5
    have hs3 := hb3.1
    have HB3 := Lib.hid hb3
    have HE3 := Lib.hid (below_trans HE2.out hz)
    clear hz hb3)
  · go_wp2_with fail
    (with_reducible refine (HL.out _).mono ?_)
    rintro e w4 ⟨rfl, hz⟩
    have HE4 := Lib.hid (below_trans HE3.out hz)
    clear hz
    go_wp2_with fail
    go_ret
    exact ⟨rfl, HE4.out⟩
  · rcases hn with hn | hn
    all_goals (
      go_wp2_with fail
      (with_reducible refine (HL.out _).mono ?_)
      rintro e w4 ⟨rfl, hz⟩
      have HE4 := Lib.hid (below_trans HE3.out hz)
      clear hz
      go_wp2_with fail
      go_ret
      exact ⟨rfl, HE4.out⟩)
  · have HR := Lib.hid (fun W => hr W hp hn)
    have hqb := need_bd hp hn
    obtain ⟨n1, n2⟩ := hn
    clear hr
    generalize need y n = q at *
    go_wp2_with fail
    (with_reducible refine (HR.out _).mono ?_)
    rintro e w4 ⟨rfl, hz⟩
    have HE4 := Lib.hid (below_trans HE3.out hz)
    clear hz
    go_wp2_with fail
    (with_reducible refine (HL.out _).mono ?_)
    rintro e w5 ⟨rfl, hz⟩
    have HE5 := Lib.hid (below_trans HE4.out hz)
    clear hz
    go_wp2_with fail
    go_ret
    exact ⟨rfl, HE5.out⟩
  · have HR := Lib.hid (fun W => hr W hp hn)
    obtain ⟨q1, q2, p1, p2⟩ := need_bd hp hn
    obtain ⟨n1, n2⟩ := hn
    obtain ⟨k1, k2⟩ := need_enough (n := n) hp
    obtain ⟨_, _, a1, a2, d1, d2⟩ := hp
    clear hr
    generalize need y n = q at *
    obtain ⟨p, hp⟩ : ∃ p, n * y.n = p := ⟨_, rfl⟩
    rw [hp] at p1 p2 k1 k2
    have w1 : wrap64 (n * y.n) = p := (IntWalk.wrap64_in (n * y.n) (by omega)).trans hp
    have t1 : q * y.d ≤ 1073741824 * 100 := Int.mul_le_mul (by omega) (by omega) (by omega) (by omega)
    have t2 : (q - 1) * y.d ≤ 1073741824 * 100 := Int.mul_le_mul (by omega) (by omega) (by omega) (by omega)
    have t3 : 0 ≤ (q - 1) * y.d := Int.mul_nonneg (by omega) (by omega)
    obtain ⟨c, hc⟩ : ∃ c, q * y.d = c := ⟨_, rfl⟩
    obtain ⟨d, hd⟩ : ∃ d, (q - 1) * y.d = d := ⟨_, rfl⟩
    rw [hc] at t1 k1
    rw [hd] at t2 t3 k2
    have w2 : wrap64 (q * y.d) = c := (IntWalk.wrap64_in (q * y.d) (by omega)).trans hc
    have w3 : wrap64 ((q - 1) * y.d) = d := (IntWalk.wrap64_in ((q - 1) * y.d) (by omega)).trans hd
    clear hc hd hp
    go_wp2_with fail
    (with_reducible refine (HR.out _).mono ?_)
    rintro e w4 ⟨rfl, hz⟩
    have HE4 := Lib.hid (below_trans HE3.out hz)
    have HB4 := Lib.hid (HB3.out.below hz)
    clear hz
    go_wp2_with fail
    (with_reducible refine (HL.out _).mono ?_)
    rintro e w5 ⟨rfl, hz⟩
    have HE5 := Lib.hid (below_trans HE4.out hz)
    have HB5 := Lib.hid (HB4.out.below hz)
    obtain ⟨m0, m1, m2, m3, m4⟩ := HB5.out.c5
    have hs5 := HB5.out.1
    clear hz
    go_wp2_with fail
    (with_reducible refine (HR.out _).mono ?_)
    rintro e w6 ⟨rfl, hz⟩
    have HE6 := Lib.hid (below_trans HE5.out hz)
    have HB6 := Lib.hid (HB5.out.below hz)
    obtain ⟨o0, o1, o2, o3, o4⟩ := HB6.out.c5
    have hs6 := HB6.out.1
    clear hz
    go_wp2_with fail
    go_ret
    exact ⟨rfl, HE6.out⟩

set_option maxRecDepth 100000 in
set_option maxHeartbeats 4000000 in
theorem lifted (os : Os) (started : os.Started) (H : Type) (enc : TypeId × Value → H) :
    ReturnsInHanded {} Try.checked os 4 .any (Rows.goodsUnitsSpec.pre6 enc Try.prog Try.f4 Rows.goodsUnitsRow.domain false) (Rows.goodsUnitsSpec.post enc Try.prog Try.f4 false true false false) := by
  refine returnsInHanded_of_change (C := Try.checked) own started (by kernel_rfl) Try.func4
    (ChangeSpec.witness6 (enc := enc) (C := Try.checked) false ⟨#[], #[.agg #[.string ByteArray.empty, .string ByteArray.empty, .int .i64 0, .int .i64 0, .int .i64 0], .int .i64 0], []⟩ 8 (by kernel_rfl) (by kernel_rfl) (by kernel_rfl) (by kernel_rfl)) ?_
  intro W base args ds gs before hval0 hW hcnd _
  have hval : ∀ (j : Nat) t v, Try.f4.params[j]? = some t → args[j]? = some v → Value.okWide Try.prog W .any base t v := hval0
  have hW' := hW
  obtain ⟨p, q, hA0, hV, rfl, hfz, hnd⟩ := hW
  have hA : DataW.TrodAll enc Try.prog W 0 (fun _ => true) true Try.f4.params.toList args.toList ds p := hA0
  rw [Try.params4] at hA hval
  obtain ⟨v0, vs0, d0, ds0, p0, q0, hargs, rfl, rfl, h0, r0⟩ := trodAll_cons hA
  obtain ⟨v1, vs1, d1, ds1, p1, q1, rfl, rfl, rfl, h1, r1⟩ := trodAll_cons r0
  obtain ⟨rfl, rfl, rfl⟩ := trodAll_nil r1
  obtain rfl : args = #[v0, v1] := by cases args; simp_all
  obtain ⟨rfl, rfl⟩ := trodVars_none hV
  have k0 := h0
  have lt0 : ∀ x ∈ p0, x.block < W.heap.size := by obtain ⟨m, hm⟩ := k0; exact DataW.trod_lt m _ _ _ hm
  obtain ⟨fuel0, hf0⟩ := h0
  obtain ⟨x0, rfl, w0⟩ := open_sub (hval 0 27 v0 rfl rfl) hf0
  obtain ⟨a1, rfl, rfl, rfl, w1⟩ := open_int Try.underlying3 (hval 1 3 v1 rfl rfl) h1
  have hb1 : -9223372036854775808 ≤ a1 ∧ a1 ≤ 9223372036854775807 := by
    have := w1
    simp [Lit.wf, IntKind.min, IntKind.max, IntKind.bits, IntKind.signed] at this
    omega
  clear hA0 hval0
  refine (walk0 x0 w0 a1 hb1.1 hb1.2 W ).mono fun e W' ⟨he, bel⟩ => ?_
  subst he
  exact ⟨_, rfl, _, _, _, [], _, [], hW', trodAll_mk1 (shut_bool Try.underlying4 _), (trodAll_cons_mk (Below.trod laidOut (by kernel_rfl) (of_decide_eq_true (by kernel_rfl)) k0 bel lt0) (trodAll_cons_mk (shut_int Try.underlying3 w1) trodAll_mk0)), rfl, bel.frame _, fun h => by cases h⟩

theorem over : Rows.goodsUnitsRow.holds Try.pinned (OpenSpec.ofChange Rows.goodsUnitsSpec) :=
  OpenClaim.holds_of_wide 4 Try.f4 rfl rfl rfl rfl rfl rfl rfl ⟨rfl, rfl, rfl, rfl, rfl⟩ rfl rfl rfl rfl rfl (by kernel_rfl) Try.func4 (by kernel_rfl)
    (of_decide_eq_true (by kernel_rfl)) (by unfold Func.isWrapper; first | (rw [if_pos (by decide +kernel)]; kernel_rfl) | (rw [if_neg (by decide +kernel)]; exact ⟨rfl, rfl⟩))
    (fun os started H enc _ => lifted os started H enc)

theorem proved : Rows.GoodsUnitsSaid := over
#print axioms proved
end Go.Proofs.Ythhadeohabkleaa.goodsUnits
