/-
  Proved: for any stock, text and number the law StockBack returns true: what is held and released is as it was; rows of other names stay; as much may be held as is free, and no more. No condition.
-/
import Derived.Test.YtolbaapjnpjmkaaRows
import Derived.Test.YtolbaapjnpjmkaaKArg
import Derived.Test.YtolbaapjnpjmkaaKBackM
namespace Go.Proofs.Ytolbaapjnpjmkaa.stockBack
open Go.ChangeShapes Go.WideShapes Go.ChangeAt Go.RowKit Go.Lib Go.Proofs.Ytolbaapjnpjmkaa.Goods Go.Proofs.Ytolbaapjnpjmkaa.Goods.Stk
open Go.ChangeMaps (open_string shut_string)
set_option linter.unusedVariables false

theorem own : ownKnob Try.prog.godebug = none := by kernel_rfl
theorem laidOut : laidOutB Try.prog = true := by kernel_rfl


theorem brief_of {l : List Rw} (h : rightS l = true) : Brief l := ⟨by have := (right_brief h).1; omega, fun x hx => by have := (right_brief h).2 x hx; omega⟩
theorem get_some {l : List Rw} {t : ByteArray} {x : Rw} (h : rightS l = true) (hg : getL t l = some x) : getE l t = 0 ∧ getV l t = x := by
  unfold getE getV hasR
  rw [h, hg]
  exact ⟨rfl, rfl⟩
theorem get_no {l : List Rw} {t : ByteArray} (h : rightS l = false ∨ (rightS l = true ∧ getL t l = none)) : (getE l t != 0) = true := by
  unfold getE hasR
  rcases h with h | ⟨h, hg⟩
  · rw [h]; rfl
  · rw [h, hg]; rfl

set_option maxRecDepth 100000 in
set_option maxHeartbeats 8000000 in
theorem walk0 (v : Value) (s : ByteArray) (hs : s.size ≤ 9223372036854775807) (n : Int) (h1 : -9223372036854775808 ≤ n) (h2 : n ≤ 9223372036854775807) (w : World) (hv : ArgR w v) :
    Calls Try.prog 5 #[v, .string s, .int .i64 n] w (BoolB true w) := by
  obtain ⟨l0, hr0, hl0⟩ := hv
  have HFE := Lib.hid (few_any (w := w.drew) ⟨l0, hr0.below (dr w), hl0⟩)
  obtain ⟨a0, c0, rfl⟩ := hr0.slice
  obtain ⟨q, hq, hqt, hq18⟩ : ∃ q : Nat, (if (18 : Int) < (s.size : Int) then (18 : Int) else (s.size : Int)) = q ∧ q ≤ s.size ∧ q ≤ 18 := ⟨min s.size 18, by split <;> omega, by omega, by omega⟩
  have i0 : (0 : Int) ≤ (q : Int) := by omega
  have i1 : (q : Int) ≤ (s.size : Int) := by omega
  obtain ⟨t, ht, ht18⟩ : ∃ t, s.extract 0 q = t ∧ t.size ≤ 18 := ⟨_, rfl, by rw [ByteArray.size_extract]; omega⟩
  have HT := Lib.hid ht18
  clear hr0 hl0 ht18
  generalize l0.length = n0 at *
  go_enter Try.func5, Try.ntmps5
  go_upto_region 1 with (fail)
  go_cut [0, 1] from 17 to 23 (fun u y wx => ∃ l a c, u = .slice a l.length c ∧ y = .string t ∧ Tiny l ∧ SRow wx (.slice a l.length c) l ∧ Below w.heap.size w wx)
  case first =>
    go_region_held3 (fun W' => True) (trivial)
      (first
        | (go_at_call 7; (with_reducible refine HFE.out.mono ?_); rintro e w1 ⟨v1, l, rfl, hti, hrow, hz⟩; have HTI := Lib.hid hti; have HROW := Lib.hid hrow; have HZ := Lib.hid (below_trans (dr w) hz); obtain ⟨a1, c1, rfl⟩ := hrow.slice; clear hti hrow hz)
        | fail)
    all_goals (
      go_wp2_with fail
      go_meet
      exact ⟨_, _, _, rfl, rfl, HTI.out, HROW.out, HZ.out⟩)
  case rest =>
  obtain ⟨l, a1, c1, rfl, rfl, hti, hrow, hbel⟩ := hcut
  clear hq i0 i1 ht hqt hq18 hs HFE
  rename World => w1
  have HB := Lib.hid hbel
  have hbr := hti.brief
  have HRW := Lib.hid hrow
  have HHO := Lib.hid (Hold_any hrow hbr t n)
  have HGT := Lib.hid (fun W (hb : Below w1.heap.size w1 W) => Get_any (hrow.below hb) hbr t)
  have HAL := Lib.hid alive_any
  clear hti hrow hbel
  unfold GetE at HGT
  by_cases he : moveE 1 l t n = 0
  · obtain ⟨x, b1, b2, b3, b4, b5, b6, b7, b8, b9, b10, b11⟩ := back_all he
    obtain ⟨g1, g2⟩ := get_some b2 b1
    rw [g1, g2] at HGT
    rw [he] at HHO
    have HRE := Lib.hid (fun (u : Value) W (h : SRow W u (moveO 1 l t n)) => Release_any h (brief_of b5) t n)
    have HSH := Lib.hid (fun (u : Value) W (h : SRow W u (moveO 1 l t n)) => Ship_any h (brief_of b5) t n)
    simp only [b7, b8] at HRE
    simp only [b9] at HSH
    have HSM := Lib.hid (fun (u u' : Value) W (h : SRow W u l) (h' : SRow W u' l) => (decide_eq_true (rfl : l = l)) ▸ Same_any h h')
    have HL1 := Lib.hid b6
    have HL2 := Lib.hid b10
    have HAT := Lib.hid b11
    obtain ⟨u1, u2⟩ := b3
    generalize moveO 3 (moveO 1 l t n) t n = k at *
    generalize moveO 1 l t n = m at *
    unfold rv at HGT
    clear he b1 b2 b5 b6 b7 b8 b9 b10 b11 g1 g2
    go_wp2_with fail
    (with_reducible refine HHO.out.mono ?_)
    rintro e w2 ⟨v2, rfl, hr2, hz⟩
    have HB2 := Lib.hid hz
    have HR2 := Lib.hid hr2
    obtain ⟨a2, c2, e⟩ := hr2.slice
    rw [HL1.out] at e
    subst e
    clear hr2 hz
    go_wp2_with fail
    (with_reducible refine (HGT.out _ HB2.out).mono ?_)
    rintro e w3 ⟨rfl, hz⟩
    have hal := al w3 (.cells #[.string x.s, .int .i64 x.n, .int .i64 x.f, .int .i64 x.h, .int .i64 x.p, .int .i64 x.t] 25)
    have HX9 := Lib.hid (Box.made w3 [.string x.s, .int .i64 x.n, .int .i64 x.f, .int .i64 x.h, .int .i64 x.p, .int .i64 x.t] 25)
    have HB3 := Lib.hid (below_trans (below_trans HB2.out hz) hal)
    have HR3 := Lib.hid ((HR2.out.below hz).below hal)
    have HRE3 := Lib.hid (HRE.out _ _ HR3.out)
    clear hz hal
    go_wp2_with fail
    (with_reducible refine HRE3.out.mono ?_)
    rintro e w4 ⟨v4, rfl, hr4, hz⟩
    have HB4 := Lib.hid (below_trans HB3.out hz)
    have HX94 := Lib.hid (HX9.out.below hz)
    have HR34 := Lib.hid (HR3.out.below hz)
    have HR4 := Lib.hid hr4
    have HSH4 := Lib.hid (HSH.out _ _ HR34.out)
    obtain ⟨a4, c4, rfl⟩ := hr4.slice
    clear hz hr4
    go_wp2_with fail
    (with_reducible refine HSH4.out.mono ?_)
    rintro e w5 ⟨v5, rfl, hr5, hz⟩
    have HB5 := Lib.hid (below_trans HB4.out hz)
    have HR35 := Lib.hid (HR34.out.below hz)
    have HR5 := Lib.hid hr5
    obtain ⟨a5, c5, e⟩ := hr5.slice
    rw [HL2.out] at e
    subst e
    have HSS := Lib.hid (HSM.out _ _ _ (HR4.out.below hz) (HRW.out.below HB5.out))
    obtain ⟨y0, y1, y2, y3, y4, y5⟩ := (HX94.out.below hz).c6
    have hs9 := (HX94.out.below hz).1
    clear hz hr5
    go_wp2_with fail
    (with_reducible refine HSS.out.mono ?_)
    rintro e w6 ⟨rfl, hz⟩
    have HB6 := Lib.hid (below_trans HB5.out hz)
    have HR36 := Lib.hid (HR35.out.below hz)
    have HR56 := Lib.hid (HR5.out.below hz)
    clear hz y0 y1 y2 y3 y4 y5 hs9
    go_wp2_with fail
    (with_reducible refine (HAL.out _).mono ?_)
    rintro e w7 ⟨rfl, hz⟩
    have HB7 := Lib.hid (below_trans HB6.out hz)
    have HR37 := Lib.hid (HR36.out.below hz)
    have HR57 := Lib.hid (HR56.out.below hz)
    have HRW7 := Lib.hid (HRW.out.below HB7.out)
    have HE7 := Lib.hid (below_trans HB.out HB7.out)
    clear hz
    go_wp2_with fail
    go_loopw [15, 16, 119] (fun _ _ i wr => ∃ j : Nat, j ≤ l.length ∧ i = .int .i64 j ∧ Below w7.heap.size w7 wr) (fun _ _ i _ => l.length - (intOf i).toNat)
    case atStart => exact ⟨0, Nat.zero_le _, rfl, Below.refl _ _⟩
    case round =>
      obtain ⟨j, hj, rfl, hr⟩ := hrel
      have HR := Lib.hid hr
      clear hr
      by_cases hlt : j < l.length
      · obtain ⟨b, off, rfl, hlc, hcap, hb, q0, q1, q2, q3, q4, q5⟩ := (HRW7.out.below HR.out).at hlt
        have hba := al wr (.cells #[.string l[j].s, .int .i64 l[j].n, .int .i64 l[j].f, .int .i64 l[j].h, .int .i64 l[j].p, .int .i64 l[j].t] 25)
        have HBA := Lib.hid (below_trans HR.out hba)
        have hlj : (j : Int) < l.length := by omega
        by_cases hm : l[j].s = t
        · have hmb := bytes_yes hm
          clear hba hm
          generalize l[j] = y at *
          go_upto_region 13 with (fail)
          go_region
          go_wp2_with fail
          go_roundw
          case rel => exact ⟨j + 1, by omega, by go_num, below_trans HBA.out (dr _)⟩
          case measure => simp [intOf]; omega
        · have hmb := bytes_no hm
          obtain ⟨⟨hi1, he1⟩, hi2, he2⟩ := HAT.out j hlt hm
          have hA := (HR37.out.below HR.out).below hba
          have hC := (HR57.out.below HR.out).below hba
          rw [← HL1.out] at hA
          rw [← HL2.out] at hC
          obtain ⟨b', off', rfl, _, hcap', hb', hs'⟩ := hA.at hi1
          obtain ⟨b'', off'', rfl, _, hcap'', hb'', hs''⟩ := hC.at hi2
          rw [he1] at hs'
          rw [he2] at hs''
          have heq := fun W => neq_row l[j] l[j] W
          rw [decide_eq_true rfl] at heq
          have hl1 := HL1.out
          have hl2 := HL2.out
          clear hba hm hA hC hi1 hi2 he1 he2 hl1 hl2
          generalize l[j] = y at *
          obtain ⟨p0, p1, p2, p3, p4, p5⟩ := hs'
          obtain ⟨r0, r1, r2, r3, r4, r5⟩ := hs''
          go_upto_region 13 with (fail)
          go_region
          go_wp2_with fail
          go_roundw
          case rel => exact ⟨j + 1, by omega, by go_num, below_trans HBA.out (dr _)⟩
          case measure => simp [intOf]; omega
      · obtain rfl : j = l.length := by omega
        go_wp2
        go_ret
        exact ⟨rfl, below_trans HE7.out HR.out⟩
  · obtain ⟨e1, hw⟩ := back_no he
    have e2 : (moveE 1 l t n != 0) = true := by simpa using he
    rw [e1] at HHO
    clear e1 he
    generalize moveE 1 l t n = z at *
    have HW : Hid ((getE l t != 0) = true ∨ (getE l t = 0 ∧ (n < 1 ∨ (getV l t).f < n))) := Lib.hid (by
      rcases hw with h | h | ⟨x, h1, h2, h3⟩
      · exact .inl (get_no (.inl h))
      · exact .inl (get_no (.inr h))
      · obtain ⟨g1, g2⟩ := get_some h1 h2
        rw [g1, g2]
        exact .inr ⟨rfl, h3⟩)
    clear hw
    generalize getE l t = zg at *
    generalize getV l t = x at *
    unfold rv at HGT
    go_wp2_with fail
    (with_reducible refine HHO.out.mono ?_)
    rintro e w2 ⟨v2, rfl, hr2, hz⟩
    have HB2 := Lib.hid hz
    obtain ⟨a2, c2, rfl⟩ := hr2.slice
    clear hr2 hz
    go_wp2_with fail
    (with_reducible refine (HGT.out _ HB2.out).mono ?_)
    rintro e w3 ⟨rfl, hz⟩
    have hal := al w3 (.cells #[.string x.s, .int .i64 x.n, .int .i64 x.f, .int .i64 x.h, .int .i64 x.p, .int .i64 x.t] 25)
    have HX9 := Lib.hid (Box.made w3 [.string x.s, .int .i64 x.n, .int .i64 x.f, .int .i64 x.h, .int .i64 x.p, .int .i64 x.t] 25)
    have HB3 := Lib.hid (below_trans (below_trans HB2.out hz) hal)
    clear hz hal
    go_wp2_with fail
    (with_reducible refine (HAL.out _).mono ?_)
    rintro e w4 ⟨rfl, hz⟩
    have HE := Lib.hid (below_trans HB.out (below_trans HB3.out hz))
    obtain ⟨y0, y1, y2, y3, y4, y5⟩ := (HX9.out.below hz).c6
    have hs9 := (HX9.out.below hz).1
    clear hz
    rcases HW.out with h | ⟨rfl, h⟩
    · go_wp2_with fail
      go_ret
      exact ⟨rfl, HE.out⟩
    · by_cases hn : n < 1
      · go_wp2_with fail
        go_ret
        exact ⟨rfl, HE.out⟩
      · have hf : x.f < n := by omega
        clear h
        go_wp2_with fail
        go_ret
        exact ⟨rfl, HE.out⟩

set_option maxRecDepth 100000 in
set_option maxHeartbeats 4000000 in
theorem lifted (os : Os) (started : os.Started) (H : Type) (enc : TypeId × Value → H) :
    ReturnsInHanded {} Try.checked os 5 .any (Rows.stockBackSpec.pre6 enc Try.prog Try.f5 Rows.stockBackRow.domain false) (Rows.stockBackSpec.post enc Try.prog Try.f5 false true false false) := by
  refine returnsInHanded_of_change (C := Try.checked) own started (by kernel_rfl) Try.func5
    (ChangeSpec.witness6 (enc := enc) (C := Try.checked) false ⟨#[], #[.slice none 0 0, .string ByteArray.empty, .int .i64 0], []⟩ 8 (by kernel_rfl) (by kernel_rfl) (by kernel_rfl) (by kernel_rfl)) ?_
  intro W base args ds gs before hval0 hW hcnd _
  have hval : ∀ (j : Nat) t v, Try.f5.params[j]? = some t → args[j]? = some v → Value.okWide Try.prog W .any base t v := hval0
  have hW' := hW
  obtain ⟨p, q, hA0, hV, rfl, hfz, hnd⟩ := hW
  have hA : DataW.TrodAll enc Try.prog W 0 (fun _ => true) true Try.f5.params.toList args.toList ds p := hA0
  rw [Try.params5] at hA hval
  obtain ⟨v0, vs0, d0, ds0, p0, q0, hargs, rfl, rfl, h0, r0⟩ := trodAll_cons hA
  obtain ⟨v1, vs1, d1, ds1, p1, q1, rfl, rfl, rfl, h1, r1⟩ := trodAll_cons r0
  obtain ⟨v2, vs2, d2, ds2, p2, q2, rfl, rfl, rfl, h2, r2⟩ := trodAll_cons r1
  obtain ⟨rfl, rfl, rfl⟩ := trodAll_nil r2
  obtain rfl : args = #[v0, v1, v2] := by cases args; simp_all
  obtain ⟨rfl, rfl⟩ := trodVars_none hV
  have k0 := h0
  have lt0 : ∀ x ∈ p0, x.block < W.heap.size := by obtain ⟨m, hm⟩ := k0; exact DataW.trod_lt m _ _ _ hm
  obtain ⟨fuel0, hf0⟩ := h0
  obtain ⟨aa0, ll0, cc0, rfl⟩ := okWide_slice Try.underlying22 (hval 0 22 v0 rfl rfl)
  have w0 := argR_of (v := .slice aa0 ll0 cc0) hf0
  obtain ⟨a1, rfl, rfl, rfl, w1⟩ := open_string Try.underlying9 (hval 1 9 v1 rfl rfl) h1
  obtain ⟨a2, rfl, rfl, rfl, w2⟩ := open_int Try.underlying3 (hval 2 3 v2 rfl rfl) h2
  have hb2 : -9223372036854775808 ≤ a2 ∧ a2 ≤ 9223372036854775807 := by
    have := w2
    simp [Lit.wf, IntKind.min, IntKind.max, IntKind.bits, IntKind.signed] at this
    omega
  clear hA0 hval0
  refine (walk0 (.slice aa0 ll0 cc0) a1 (by simpa [maxLen] using w1) a2 hb2.1 hb2.2 W w0).mono fun e W' ⟨he, bel⟩ => ?_
  subst he
  exact ⟨_, rfl, _, _, _, [], _, [], hW', trodAll_mk1 (shut_bool Try.underlying4 _), (trodAll_cons_mk (Below.trod laidOut (by kernel_rfl) (of_decide_eq_true (by kernel_rfl)) k0 bel lt0) (trodAll_cons_mk (shut_string Try.underlying9 w1) (trodAll_cons_mk (shut_int Try.underlying3 w2) trodAll_mk0))), rfl, bel.frame _, fun h => by cases h⟩

theorem over : Rows.stockBackRow.holds Try.pinned (OpenSpec.ofChange Rows.stockBackSpec) :=
  OpenClaim.holds_of_wide 5 Try.f5 rfl rfl rfl rfl rfl rfl rfl ⟨rfl, rfl, rfl, rfl, rfl⟩ rfl rfl rfl rfl rfl (by kernel_rfl) Try.func5 (by kernel_rfl)
    (of_decide_eq_true (by kernel_rfl)) (by unfold Func.isWrapper; first | (rw [if_pos (by decide +kernel)]; kernel_rfl) | (rw [if_neg (by decide +kernel)]; exact ⟨rfl, rfl⟩))
    (fun os started H enc _ => lifted os started H enc)

theorem proved : Rows.StockBackSaid := over
#print axioms proved

end Go.Proofs.Ytolbaapjnpjmkaa.stockBack
