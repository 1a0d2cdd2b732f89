/-
  Proved: for any stock, two texts and four numbers the law StockApart returns true: what is done with two things that are not the same comes to the same stock in either order. No condition.
-/
import Derived.Test.YtolbaapjnpjmkaaRows
import Derived.Test.YtolbaapjnpjmkaaKArg
import Derived.Test.YtolbaapjnpjmkaaKBackM
namespace Go.Proofs.Ytolbaapjnpjmkaa.stockApart
open Go.ChangeShapes Go.WideShapes Go.ChangeAt Go.RowKit Go.Lib Go.Proofs.Ytolbaapjnpjmkaa.Goods Go.Proofs.Ytolbaapjnpjmkaa.Goods.Stk
open Go.ChangeMaps (open_string shut_string)
set_option linter.unusedVariables false

theorem own : ownKnob Try.prog.godebug = none := by kernel_rfl
theorem laidOut : laidOutB Try.prog = true := by kernel_rfl


theorem brief_of {l : List Rw} (h : rightS l = true) : Brief l := ⟨by have := (right_brief h).1; omega, fun x hx => by have := (right_brief h).2 x hx; omega⟩
theorem move_no {q : Nat} {l : List Rw} {k : ByteArray} {n : Int} (h : moveE q l k n ≠ 0) : moveO q l k n = [] := by unfold moveO; rw [if_neg h]
theorem cut_ways (s : ByteArray) : ∃ q : Nat, (if (18 : Int) < (s.size : Int) then (18 : Int) else (s.size : Int)) = q ∧ (0 : Int) ≤ (q : Int) ∧ (q : Int) ≤ (s.size : Int) ∧ ∃ t, s.extract 0 q = t ∧ t.size ≤ 18 := by
  refine ⟨min s.size 18, by split <;> omega, by omega, by omega, _, rfl, ?_⟩
  rw [ByteArray.size_extract]; omega
theorem rem_ways (k : Int) : ∃ p r : Int, Int.tmod k 4 = p ∧ Int.tmod (p + 4) 4 = r ∧ -4 < p ∧ p < 4 ∧ 0 ≤ r ∧ r < 4 := by
  have h1 := Int.tmod_lt_of_pos k (by omega : (0 : Int) < 4)
  have h2 : -4 < Int.tmod k 4 := by
    rcases Int.le_total 0 k with h | h
    · have := Int.tmod_nonneg 4 h; omega
    · have h3 := Int.tmod_lt_of_pos (-k) (by omega : (0 : Int) < 4)
      rw [Int.neg_tmod] at h3
      omega
  exact ⟨_, _, rfl, rfl, h2, h1, Int.tmod_nonneg 4 (by omega), Int.tmod_lt_of_pos _ (by omega)⟩

set_option maxRecDepth 100000 in
set_option maxHeartbeats 8000000 in
theorem walk0 (v : Value) (sa : ByteArray) (hsa : sa.size ≤ 9223372036854775807) (sb : ByteArray) (hsb : sb.size ≤ 9223372036854775807) (n : Int) (h1 : -9223372036854775808 ≤ n) (h2 : n ≤ 9223372036854775807) (m : Int) (h3 : -9223372036854775808 ≤ m) (h4 : m ≤ 9223372036854775807)
    (kd : Int) (h5 : -9223372036854775808 ≤ kd) (h6 : kd ≤ 9223372036854775807) (ot : Int) (h7 : -9223372036854775808 ≤ ot) (h8 : ot ≤ 9223372036854775807) (w : World) (hv : ArgR w v) :
    Calls Try.prog 6 #[v, .string sa, .string sb, .int .i64 n, .int .i64 m, .int .i64 kd, .int .i64 ot] w (BoolB true w) := by
  obtain ⟨l0, hr0, hl0⟩ := hv
  have HFE := Lib.hid (few_any (w := w.drew) ⟨l0, hr0.below (dr w), hl0⟩)
  obtain ⟨a0, c0, rfl⟩ := hr0.slice
  obtain ⟨qa, hqa, i0, i1, a, hta, ha18⟩ := cut_ways sa
  obtain ⟨qb, hqb, i2, i3, b, htb, hb18⟩ := cut_ways sb
  have HTA := Lib.hid ha18
  have HTB := Lib.hid hb18
  clear hr0 hl0 ha18 hb18
  generalize l0.length = n0 at *
  go_enter Try.func6, Try.ntmps6
  go_upto_region 1 with (fail)
  go_cut [0, 1, 2] from 23 to 34 (fun u y z wx => ∃ l a' c, u = .slice a' l.length c ∧ y = .string a ∧ z = .string b ∧ Tiny l ∧ SRow wx (.slice a' l.length c) l ∧ Below w.heap.size w wx)
  case first =>
    go_region_held3 (fun W' => True) (trivial)
      (first
        | (go_at_call 7; (with_reducible refine HFE.out.mono ?_); rintro e w1 ⟨v1, l, rfl, hti, hrow, hz⟩; have HTI := Lib.hid hti; have HROW := Lib.hid hrow; have HZ := Lib.hid (below_trans (dr w) hz); obtain ⟨a1, c1, rfl⟩ := hrow.slice; clear hti hrow hz)
        | fail)
    all_goals (
      go_wp2_with fail
      go_meet
      exact ⟨_, _, _, rfl, rfl, rfl, HTI.out, HROW.out, HZ.out⟩)
  case rest =>
  obtain ⟨l, a1, c1, rfl, rfl, rfl, hti, hrow, hbel⟩ := hcut
  clear hqa hqb i0 i1 i2 i3 hta htb hsa hsb HFE h1 h2 h3 h4
  rename World => w1
  obtain ⟨p1, r1, m1, m2, m3, m4, m5, m6⟩ := rem_ways kd
  obtain ⟨p2, r2, m7, m8, m9, m10, m11, m12⟩ := rem_ways ot
  have HB := Lib.hid hbel
  have hbr := hti.brief
  have HRW := Lib.hid hrow
  have HAL := Lib.hid alive_any
  go_upto_region 3 with (fail)
  clear m1 m2 m3 m4 m5 m6 m7 m8 m9 m10 m11 m12 h5 h6 h7 h8
  by_cases hab : a = b
  · have k1 := bytes_yes hab
    clear hab
    go_wp2_with fail
    (with_reducible refine (HAL.out _).mono ?_)
    rintro e w2 ⟨rfl, hz⟩
    have HE := Lib.hid (below_trans HB.out hz)
    clear hz
    go_wp2_with fail
    go_ret
    exact ⟨rfl, HE.out⟩
  have k1 := bytes_no hab
  have HD1 := Lib.hid (fun W (hb : Below w1.heap.size w1 W) => does_any (hrow.below hb) hbr a n (1 + r1))
  have HD2 := Lib.hid (fun W (hb : Below w1.heap.size w1 W) => does_any (hrow.below hb) hbr b m (1 + r2))
  clear hti hrow hbel
  by_cases he1 : moveE (kq (1 + r1)) l a n = 0
  · by_cases he2 : moveE (kq (1 + r2)) l b m = 0
    · obtain ⟨x1, x2, x3, x4, x5, x6⟩ := apart_all hab he1 he2
      have HD3 := Lib.hid (fun (u : Value) W (h : SRow W u (moveO (kq (1 + r1)) l a n)) => does_any h (brief_of x4) b m (1 + r2))
      have HD4 := Lib.hid (fun (u : Value) W (h : SRow W u (moveO (kq (1 + r2)) l b m)) => does_any h (brief_of x5) a n (1 + r1))
      rw [he1] at HD1
      rw [he2] at HD2
      simp only [x1] at HD3
      simp only [x2, ← x3] at HD4
      have HSM := Lib.hid (fun (u u' : Value) (m : List Rw) W (h : SRow W u m) (h' : SRow W u' m) => (decide_eq_true (rfl : m = m)) ▸ Same_any h h')
      have HRT := Lib.hid (fun (u : Value) W (h : SRow W u (moveO (kq (1 + r2)) (moveO (kq (1 + r1)) l a n) b m)) => x6 ▸ RightS_any h (brief_of x6))
      clear he1 he2 x1 x2 x3 x4 x5 x6 hab hbr
      generalize moveO (kq (1 + r2)) (moveO (kq (1 + r1)) l a n) b m = lp at *
      generalize moveO (kq (1 + r1)) l a n = lx at *
      generalize moveO (kq (1 + r2)) l b m = ly at *
      go_wp2_with fail
      (with_reducible refine (HD1.out _ (Below.refl _ _)).mono ?_)
      rintro e w2 ⟨v2, rfl, hr, hz⟩
      obtain ⟨a2, n2, c2, rfl⟩ : ∃ a n c, v2 = .slice a n c := (by obtain ⟨a', c', e⟩ := hr.slice; exact ⟨a', _, c', e⟩)
      have HR2 := Lib.hid hr
      clear hr
      have HB2 := Lib.hid (hz)
      clear hz
      go_wp2_with fail
      (with_reducible refine (HD2.out _ HB2.out).mono ?_)
      rintro e w3 ⟨v3, rfl, hr, hz⟩
      obtain ⟨a3, n3, c3, rfl⟩ : ∃ a n c, v3 = .slice a n c := (by obtain ⟨a', c', e⟩ := hr.slice; exact ⟨a', _, c', e⟩)
      have HR3 := Lib.hid hr
      clear hr
      have HB3 := Lib.hid (below_trans HB2.out hz)
      have HR23 := Lib.hid (HR2.out.below hz)
      have HP := Lib.hid (HD3.out _ _ HR23.out)
      clear hz
      go_wp2_with fail
      (with_reducible refine (HP.out).mono ?_)
      rintro e w4 ⟨v4, rfl, hr, hz⟩
      obtain ⟨a4, n4, c4, rfl⟩ : ∃ a n c, v4 = .slice a n c := (by obtain ⟨a', c', e⟩ := hr.slice; exact ⟨a', _, c', e⟩)
      have HR4 := Lib.hid hr
      clear hr
      have HB4 := Lib.hid (below_trans HB3.out hz)
      have HQ := Lib.hid (HD4.out _ _ (HR3.out.below hz))
      clear hz
      go_wp2_with fail
      (with_reducible refine (HQ.out).mono ?_)
      rintro e w5 ⟨v5, rfl, hr, hz⟩
      obtain ⟨a5, n5, c5, rfl⟩ : ∃ a n c, v5 = .slice a n c := (by obtain ⟨a', c', e⟩ := hr.slice; exact ⟨a', _, c', e⟩)
      have HR5 := Lib.hid hr
      clear hr
      have HB5 := Lib.hid (below_trans HB4.out hz)
      have HR45 := Lib.hid (HR4.out.below hz)
      clear hz
      go_wp2_with fail
      (with_reducible refine (HAL.out _).mono ?_)
      rintro e w6 ⟨rfl, hz⟩
      have HB6 := Lib.hid (below_trans HB5.out hz)
      have HR46 := Lib.hid (HR45.out.below hz)
      have HSS := Lib.hid (HSM.out _ _ _ _ HR46.out (HR5.out.below hz))
      clear hz
      go_wp2_with fail
      (with_reducible refine (HSS.out).mono ?_)
      rintro e w7 ⟨rfl, hz⟩
      have HB7 := Lib.hid (below_trans HB6.out hz)
      have HRR := Lib.hid (HRT.out _ _ (HR46.out.below hz))
      clear hz
      go_wp2_with fail
      (with_reducible refine (HRR.out).mono ?_)
      rintro e w8 ⟨rfl, hz⟩
      have HB8 := Lib.hid (below_trans HB7.out hz)
      clear hz
      go_wp2_with fail
      go_ret
      exact ⟨rfl, below_trans HB.out HB8.out⟩
    · rw [he1] at HD1
      rw [move_no he2] at HD2
      have e2 : (moveE (kq (1 + r2)) l b m != 0) = true := by simpa using he2
      clear he1 he2 hab hbr
      generalize moveE (kq (1 + r2)) l b m = z2 at *
      generalize moveO (kq (1 + r1)) l a n = lx at *
      go_wp2_with fail
      (with_reducible refine (HD1.out _ (Below.refl _ _)).mono ?_)
      rintro e w2 ⟨v2, rfl, hr, hz⟩
      obtain ⟨a2, c2, rfl⟩ := hr.slice
      have HB2 := Lib.hid (hz)
      clear hr hz
      go_wp2_with fail
      (with_reducible refine (HD2.out _ HB2.out).mono ?_)
      rintro e w3 ⟨v3, rfl, hr, hz⟩
      obtain ⟨a3, c3, rfl⟩ := hr.slice
      have HB3 := Lib.hid (below_trans HB2.out hz)
      clear hr hz
      go_wp2_with fail
      (with_reducible refine (HAL.out _).mono ?_)
      rintro e w4 ⟨rfl, hz⟩
      have HE := Lib.hid (below_trans HB.out (below_trans HB3.out hz))
      clear hz
      go_wp2_with fail
      go_ret
      exact ⟨ret_bool (by simp), HE.out⟩
  · rw [move_no he1] at HD1
    have e1 : (moveE (kq (1 + r1)) l a n != 0) = true := by simpa using he1
    clear he1 hab hbr
    generalize moveE (kq (1 + r1)) l a n = z1 at *
    generalize moveO (kq (1 + r2)) l b m = ly at *
    generalize moveE (kq (1 + r2)) l b m = z2 at *
    go_wp2_with fail
    (with_reducible refine (HD1.out _ (Below.refl _ _)).mono ?_)
    rintro e w2 ⟨v2, rfl, hr, hz⟩
    obtain ⟨a2, c2, rfl⟩ := hr.slice
    have HB2 := Lib.hid (hz)
    clear hr hz
    go_wp2_with fail
    (with_reducible refine (HD2.out _ HB2.out).mono ?_)
    rintro e w3 ⟨v3, rfl, hr, hz⟩
    obtain ⟨a3, c3, rfl⟩ := hr.slice
    have HB3 := Lib.hid (below_trans HB2.out hz)
    clear hr hz
    go_wp2_with fail
    (with_reducible refine (HAL.out _).mono ?_)
    rintro e w4 ⟨rfl, hz⟩
    have HE := Lib.hid (below_trans HB.out (below_trans HB3.out hz))
    clear hz
    go_wp2_with fail
    go_ret
    exact ⟨ret_bool (by simp), HE.out⟩

set_option maxRecDepth 100000 in
set_option maxHeartbeats 4000000 in
theorem lifted (os : Os) (started : os.Started) (H : Type) (enc : TypeId × Value → H) :
    ReturnsInHanded {} Try.checked os 6 .any (Rows.stockApartSpec.pre6 enc Try.prog Try.f6 Rows.stockApartRow.domain false) (Rows.stockApartSpec.post enc Try.prog Try.f6 false true false false) := by
  refine returnsInHanded_of_change (C := Try.checked) own started (by kernel_rfl) Try.func6
    (ChangeSpec.witness6 (enc := enc) (C := Try.checked) false ⟨#[], #[.slice none 0 0, .string ByteArray.empty, .string ByteArray.empty, .int .i64 0, .int .i64 0, .int .i64 0, .int .i64 0], []⟩ 8 (by kernel_rfl) (by kernel_rfl) (by kernel_rfl) (by kernel_rfl)) ?_
  intro W base args ds gs before hval0 hW hcnd _
  have hval : ∀ (j : Nat) t v, Try.f6.params[j]? = some t → args[j]? = some v → Value.okWide Try.prog W .any base t v := hval0
  have hW' := hW
  obtain ⟨p, q, hA0, hV, rfl, hfz, hnd⟩ := hW
  have hA : DataW.TrodAll enc Try.prog W 0 (fun _ => true) true Try.f6.params.toList args.toList ds p := hA0
  rw [Try.params6] at hA hval
  obtain ⟨v0, vs0, d0, ds0, p0, q0, hargs, rfl, rfl, h0, r0⟩ := trodAll_cons hA
  obtain ⟨v1, vs1, d1, ds1, p1, q1, rfl, rfl, rfl, h1, r1⟩ := trodAll_cons r0
  obtain ⟨v2, vs2, d2, ds2, p2, q2, rfl, rfl, rfl, h2, r2⟩ := trodAll_cons r1
  obtain ⟨v3, vs3, d3, ds3, p3, q3, rfl, rfl, rfl, h3, r3⟩ := trodAll_cons r2
  obtain ⟨v4, vs4, d4, ds4, p4, q4, rfl, rfl, rfl, h4, r4⟩ := trodAll_cons r3
  obtain ⟨v5, vs5, d5, ds5, p5, q5, rfl, rfl, rfl, h5, r5⟩ := trodAll_cons r4
  obtain ⟨v6, vs6, d6, ds6, p6, q6, rfl, rfl, rfl, h6, r6⟩ := trodAll_cons r5
  obtain ⟨rfl, rfl, rfl⟩ := trodAll_nil r6
  obtain rfl : args = #[v0, v1, v2, v3, v4, v5, v6] := by cases args; simp_all
  obtain ⟨rfl, rfl⟩ := trodVars_none hV
  have k0 := h0
  have lt0 : ∀ x ∈ p0, x.block < W.heap.size := by obtain ⟨m, hm⟩ := k0; exact DataW.trod_lt m _ _ _ hm
  obtain ⟨fuel0, hf0⟩ := h0
  obtain ⟨aa0, ll0, cc0, rfl⟩ := okWide_slice Try.underlying22 (hval 0 22 v0 rfl rfl)
  have w0 := argR_of (v := .slice aa0 ll0 cc0) hf0
  obtain ⟨a1, rfl, rfl, rfl, w1⟩ := open_string Try.underlying9 (hval 1 9 v1 rfl rfl) h1
  obtain ⟨a2, rfl, rfl, rfl, w2⟩ := open_string Try.underlying9 (hval 2 9 v2 rfl rfl) h2
  obtain ⟨a3, rfl, rfl, rfl, w3⟩ := open_int Try.underlying3 (hval 3 3 v3 rfl rfl) h3
  have hb3 : -9223372036854775808 ≤ a3 ∧ a3 ≤ 9223372036854775807 := by
    have := w3
    simp [Lit.wf, IntKind.min, IntKind.max, IntKind.bits, IntKind.signed] at this
    omega
  obtain ⟨a4, rfl, rfl, rfl, w4⟩ := open_int Try.underlying3 (hval 4 3 v4 rfl rfl) h4
  have hb4 : -9223372036854775808 ≤ a4 ∧ a4 ≤ 9223372036854775807 := by
    have := w4
    simp [Lit.wf, IntKind.min, IntKind.max, IntKind.bits, IntKind.signed] at this
    omega
  obtain ⟨a5, rfl, rfl, rfl, w5⟩ := open_int Try.underlying3 (hval 5 3 v5 rfl rfl) h5
  have hb5 : -9223372036854775808 ≤ a5 ∧ a5 ≤ 9223372036854775807 := by
    have := w5
    simp [Lit.wf, IntKind.min, IntKind.max, IntKind.bits, IntKind.signed] at this
    omega
  obtain ⟨a6, rfl, rfl, rfl, w6⟩ := open_int Try.underlying3 (hval 6 3 v6 rfl rfl) h6
  have hb6 : -9223372036854775808 ≤ a6 ∧ a6 ≤ 9223372036854775807 := by
    have := w6
    simp [Lit.wf, IntKind.min, IntKind.max, IntKind.bits, IntKind.signed] at this
    omega
  clear hA0 hval0
  refine (walk0 (.slice aa0 ll0 cc0) a1 (by simpa [maxLen] using w1) a2 (by simpa [maxLen] using w2) a3 hb3.1 hb3.2 a4 hb4.1 hb4.2 a5 hb5.1 hb5.2 a6 hb6.1 hb6.2 W w0).mono fun e W' ⟨he, bel⟩ => ?_
  subst he
  exact ⟨_, rfl, _, _, _, [], _, [], hW', trodAll_mk1 (shut_bool Try.underlying4 _), (trodAll_cons_mk (Below.trod laidOut (by kernel_rfl) (of_decide_eq_true (by kernel_rfl)) k0 bel lt0) (trodAll_cons_mk (shut_string Try.underlying9 w1) (trodAll_cons_mk (shut_string Try.underlying9 w2) (trodAll_cons_mk (shut_int Try.underlying3 w3) (trodAll_cons_mk (shut_int Try.underlying3 w4) (trodAll_cons_mk (shut_int Try.underlying3 w5) (trodAll_cons_mk (shut_int Try.underlying3 w6) trodAll_mk0))))))), rfl, bel.frame _, fun h => by cases h⟩

theorem over : Rows.stockApartRow.holds Try.pinned (OpenSpec.ofChange Rows.stockApartSpec) :=
  OpenClaim.holds_of_wide 6 Try.f6 rfl rfl rfl rfl rfl rfl rfl ⟨rfl, rfl, rfl, rfl, rfl⟩ rfl rfl rfl rfl rfl (by kernel_rfl) Try.func6 (by kernel_rfl)
    (of_decide_eq_true (by kernel_rfl)) (by unfold Func.isWrapper; first | (rw [if_pos (by decide +kernel)]; kernel_rfl) | (rw [if_neg (by decide +kernel)]; exact ⟨rfl, rfl⟩))
    (fun os started H enc _ => lifted os started H enc)

theorem proved : Rows.StockApartSaid := over
#print axioms proved

end Go.Proofs.Ytolbaapjnpjmkaa.stockApart
