/-
  Proved: for any stock, text and number the law StockMoves returns true: which stock may be, any row, and what coming in, holding, releasing, shipping and losing makes of any, is as the reference says, or refused. No condition.
-/
import Derived.Test.YtolbaapjnpjmkaaRows
import Derived.Test.YtolbaapjnpjmkaaKArg
namespace Go.Proofs.Ytolbaapjnpjmkaa.stockMoves
open Go.ChangeShapes Go.WideShapes Go.ChangeAt Go.RowKit Go.Lib Go.Proofs.Ytolbaapjnpjmkaa.Goods Go.Proofs.Ytolbaapjnpjmkaa.Goods.Stk
open Go.ChangeMaps (open_string shut_string)
set_option linter.unusedVariables false

theorem own : ownKnob Try.prog.godebug = none := by kernel_rfl
theorem laidOut : laidOutB Try.prog = true := by kernel_rfl

theorem kq_nat {k : Nat} (h : k = 1 ∨ k = 2 ∨ k = 3 ∨ k = 4) : kq (k : Int) = k := by
  rcases h with rfl | rfl | rfl | rfl <;> rfl
/-- What Get tells. -/
theorem get_ways (l : List Rw) (t : ByteArray) : (rightS l = false ∧ getE l t = 1 ∧ getV l t = noR) ∨ (rightS l = true ∧ getV l t = (getL t l).getD noR ∧ ((getE l t = 0 ∧ ∃ x, getL t l = some x ∧ nameB x.s = true) ∨ (getE l t = 8 ∧ getL t l = none))) := by
  unfold getE getV hasR
  cases h : rightS l with
  | false => exact .inl ⟨rfl, rfl, rfl⟩
  | true =>
    refine .inr ⟨rfl, rfl, ?_⟩
    cases hg : getL t l with
    | none => exact .inr ⟨rfl, rfl⟩
    | some x => exact .inl ⟨rfl, x, rfl, (rightS_t.1 h).2.1 x (getL_name hg).2⟩

set_option maxRecDepth 100000 in
set_option maxHeartbeats 8000000 in
theorem walk0 (v : Value) (s : ByteArray) (hs : s.size ≤ 9223372036854775807) (n : Int) (h1 : -9223372036854775808 ≤ n) (h2 : n ≤ 9223372036854775807) (w : World) (hv : ArgR w v) :
    Calls Try.prog 3 #[v, .string s, .int .i64 n] w (BoolB true w) := by
  obtain ⟨l0, hr0, hl0⟩ := hv
  have HFE := Lib.hid (few_any (w := w.drew) ⟨l0, hr0.below (dr w), hl0⟩)
  obtain ⟨a0, c0, rfl⟩ := hr0.slice
  obtain ⟨q, hq, hqt, hq18⟩ : ∃ q : Nat, (if (18 : Int) < (s.size : Int) then (18 : Int) else (s.size : Int)) = q ∧ q ≤ s.size ∧ q ≤ 18 := ⟨min s.size 18, by split <;> omega, by omega, by omega⟩
  have i0 : (0 : Int) ≤ (q : Int) := by omega
  have i1 : (q : Int) ≤ (s.size : Int) := by omega
  obtain ⟨t, ht, ht18⟩ : ∃ t, s.extract 0 q = t ∧ t.size ≤ 18 := ⟨_, rfl, by rw [ByteArray.size_extract]; omega⟩
  have HT := Lib.hid ht18
  clear hr0 hl0 ht18
  generalize l0.length = n0 at *
  go_enter Try.func3, Try.ntmps3
  go_upto_region 1 with (fail)
  go_cut [0, 1] from 17 to 23 (fun u y wx => ∃ l a c, u = .slice a l.length c ∧ y = .string t ∧ Tiny l ∧ SRow wx (.slice a l.length c) l ∧ Below w.heap.size w wx)
  case first =>
    go_region_held3 (fun W' => True) (trivial)
      (first
        | (go_at_call 7; (with_reducible refine HFE.out.mono ?_); rintro e w1 ⟨v1, l, rfl, hti, hrow, hz⟩; have HTI := Lib.hid hti; have HROW := Lib.hid hrow; have HZ := Lib.hid (below_trans (dr w) hz); obtain ⟨a1, c1, rfl⟩ := hrow.slice; clear hti hrow hz)
        | fail)
    all_goals (
      go_wp2_with fail
      go_meet
      exact ⟨_, _, _, rfl, rfl, HTI.out, HROW.out, HZ.out⟩)
  case rest =>
  obtain ⟨l, a1, c1, rfl, rfl, hti, hrow, hbel⟩ := hcut
  clear hq i0 i1 ht hqt hq18 hs HFE
  rename World => w1
  have HB := Lib.hid hbel
  have HTI := Lib.hid hti
  have hbr := hti.brief
  have HRW := Lib.hid hrow
  have HGT := Lib.hid (Get_any hrow hbr t)
  have HRC := Lib.hid (fun W (hb : Below w1.heap.size w1 W) => Receive_any (hrow.below hb) hbr t (by have := HT.out; omega) n)
  have HRR := Lib.hid (fun W (hb : Below w1.heap.size w1 W) => refReceive_any (hrow.below hb) hbr t (by have := HT.out; omega) n)
  have HRI := Lib.hid (fun W (hb : Below w1.heap.size w1 W) => RightS_any (hrow.below hb) hbr)
  have HRJ := Lib.hid (fun W (hb : Below w1.heap.size w1 W) => refRightS_any (hrow.below hb) hbr)
  have HDO := Lib.hid (fun (k : Nat) (hk : k = 1 ∨ k = 2 ∨ k = 3 ∨ k = 4) W (hb : Below w1.heap.size w1 W) => kq_nat hk ▸ does_any (hrow.below hb) hbr t n k)
  have HRM := Lib.hid (fun (k : Nat) (hk : k = 1 ∨ k = 2 ∨ k = 3 ∨ k = 4) W (hb : Below w1.heap.size w1 W) => refMove_any k hk (hrow.below hb) hbr t n)
  have HRG := Lib.hid (fun W (hb : Below w1.heap.size w1 W) => refGet_any (hrow.below hb) t)
  have HSM := Lib.hid (fun (u u' : Value) (m : List Rw) W (h : SRow W u m) (h' : SRow W u' m) => (decide_eq_true (rfl : m = m)) ▸ Same_any h h')
  have HAL := Lib.hid alive_any
  have HGW := Lib.hid (get_ways l t)
  clear hti hrow hbel hbr
  generalize getV l t = x at *
  generalize getE l t = z at *
  unfold GetE rv at HGT
  generalize l.length = n1 at *
  generalize recvO l t n = m2 at *
  generalize recvE l t n = z2 at *
  go_wp2_with fail
  (with_reducible refine HGT.out.mono ?_)
  rintro e w2 ⟨rfl, hz⟩
  have HX7 := Lib.hid (Box.made w2 [.string x.s, .int .i64 x.n, .int .i64 x.f, .int .i64 x.h, .int .i64 x.p, .int .i64 x.t] 25)
  have HB2 := Lib.hid (below_trans hz (al w2 (.cells #[.string x.s, .int .i64 x.n, .int .i64 x.f, .int .i64 x.h, .int .i64 x.p, .int .i64 x.t] 25)))
  clear hz
  go_wp2_with fail
  (with_reducible refine (HRC.out _ HB2.out).mono ?_)
  rintro e w3 ⟨v3, rfl, hr3, hz⟩
  have HB3 := Lib.hid (below_trans HB2.out hz)
  have HX73 := Lib.hid (HX7.out.below hz)
  have HR3 := Lib.hid hr3
  obtain ⟨a3, n3, c3, rfl⟩ : ∃ a n c, v3 = .slice a n c := (by obtain ⟨a', c', e⟩ := hr3.slice; exact ⟨a', _, c', e⟩)
  clear hz hr3
  go_wp2_with fail
  (with_reducible refine (HRR.out _ HB3.out).mono ?_)
  rintro e w4 ⟨v4, rfl, hr4, hz⟩
  obtain ⟨a4, n4, c4, rfl⟩ : ∃ a n c, v4 = .slice a n c := (by obtain ⟨a', c', e⟩ := hr4.slice; exact ⟨a', _, c', e⟩)
  have hal := al w4 (.cells #[.slice a4 n4 c4, .int .i64 z2] 32)
  have HX11 := Lib.hid (Box.made w4 [.slice a4 n4 c4, .int .i64 z2] 32)
  have HB4 := Lib.hid (below_trans (below_trans HB3.out hz) hal)
  have HX74 := Lib.hid ((HX73.out.below hz).below hal)
  have HR34 := Lib.hid ((HR3.out.below hz).below hal)
  have HR4 := Lib.hid (hr4.below hal)
  clear hz hr4 hal
  go_wp2_with fail
  (with_reducible refine (HRI.out _ HB4.out).mono ?_)
  rintro e w5 ⟨rfl, hz5⟩
  have HB5 := Lib.hid (below_trans HB4.out hz5)
  have HX115 := Lib.hid (HX11.out.below hz5)
  have HX75 := Lib.hid (HX74.out.below hz5)
  have HR35 := Lib.hid (HR34.out.below hz5)
  have HR45 := Lib.hid (HR4.out.below hz5)
  clear hz5
  go_wp2_with fail
  (with_reducible refine (HRJ.out _ HB5.out).mono ?_)
  rintro e w6 ⟨rfl, hz⟩
  have HB6 := Lib.hid (below_trans HB5.out hz)
  have HX116 := Lib.hid (HX115.out.below hz)
  have HX76 := Lib.hid (HX75.out.below hz)
  have HSS := Lib.hid (HSM.out _ _ _ _ (HR35.out.below hz) (HR45.out.below hz))
  have hmm : (rightS l != rightS l) = false := by simp
  obtain ⟨b0, b1⟩ := HX116.out.c2
  have hsb := HX116.out.1
  clear hz
  go_wp2_with fail
  (with_reducible refine HSS.out.mono ?_)
  rintro e w7 ⟨rfl, hz⟩
  have HB7 := Lib.hid (below_trans HB6.out hz)
  have HX77 := Lib.hid (HX76.out.below hz)
  clear hz hmm b0 b1 hsb
  go_wp2_with fail
  (with_reducible refine (HAL.out _).mono ?_)
  rintro e w8 ⟨rfl, hz⟩
  have HB8 := Lib.hid (below_trans HB7.out hz)
  have HX78 := Lib.hid (HX77.out.below hz)
  clear hz
  go_wp2_with fail
  go_loopw [12, 13, 14, 15] (fun kd _ _ _ wr => ∃ k : Nat, 1 ≤ k ∧ k ≤ 5 ∧ kd = .int .i64 k ∧ Below w8.heap.size w8 wr) (fun kd _ _ _ _ => 5 - (intOf kd).toNat)
  case atStart => exact ⟨1, by omega, by omega, rfl, Below.refl _ _⟩
  case round =>
    obtain ⟨k, hk1, hk5, rfl, hr⟩ := hrel
    have HR := Lib.hid hr
    have HBR := Lib.hid (below_trans HB8.out hr)
    clear hr
    by_cases hlt : k < 5
    · have hk4 : k = 1 ∨ k = 2 ∨ k = 3 ∨ k = 4 := by omega
      have HD := Lib.hid (HDO.out k hk4)
      have HM := Lib.hid (HRM.out k hk4)
      clear hk4
      generalize moveO k l t n = mo at *
      generalize moveE k l t n = zo at *
      go_wp2_with fail
      (with_reducible refine (HD.out _ HBR.out).mono ?_)
      rintro e u1 ⟨y1, rfl, hr1, hz⟩
      obtain ⟨a5, n5, c5, rfl⟩ : ∃ a n c, y1 = .slice a n c := (by obtain ⟨a', c', e⟩ := hr1.slice; exact ⟨a', _, c', e⟩)
      have HC1 := Lib.hid (below_trans HBR.out hz)
      have HD1 := Lib.hid (below_trans HR.out hz)
      have HRA := Lib.hid hr1
      clear hz hr1
      go_wp2_with fail
      (with_reducible refine (HM.out _ HC1.out).mono ?_)
      rintro e u2 ⟨y2, rfl, hr2, hz⟩
      obtain ⟨a6, n6, c6, rfl⟩ : ∃ a n c, y2 = .slice a n c := (by obtain ⟨a', c', e⟩ := hr2.slice; exact ⟨a', _, c', e⟩)
      have hal := al u2 (.cells #[.slice a6 n6 c6, .int .i64 zo] 32)
      have HX15 := Lib.hid (Box.made u2 [.slice a6 n6 c6, .int .i64 zo] 32)
      have HD2 := Lib.hid (below_trans (below_trans HD1.out hz) hal)
      have HSS2 := Lib.hid (HSM.out _ _ _ _ ((HRA.out.below hz).below hal) (hr2.below hal))
      obtain ⟨b0, b1⟩ := HX15.out.c2
      have hsb := HX15.out.1
      clear hz hr2 hal
      go_wp2_with fail
      (with_reducible refine HSS2.out.mono ?_)
      rintro e u3 ⟨rfl, hz⟩
      have HD3 := Lib.hid (below_trans HD2.out hz)
      clear hz b0 b1 hsb
      go_wp2_with fail
      go_roundw
      case rel => exact ⟨k + 1, by omega, by omega, by go_num, HD3.out⟩
      case measure => simp [intOf]; omega
    · obtain rfl : k = 5 := by omega
      have HX7R := Lib.hid (HX78.out.below HR.out)
      rcases HGW.out with ⟨g1, rfl, rfl⟩ | ⟨g1, g2, g3⟩
      · have HJ := Lib.hid (fun W hb => g1 ▸ HRJ.out W hb)
        have heq := fun W => eql_row noR noR W
        rw [decide_eq_true rfl] at heq
        simp only [noR] at heq
        clear g1
        go_wp2_with fail
        (with_reducible refine (HJ.out _ HBR.out).mono ?_)
        rintro e u1 ⟨rfl, hz⟩
        obtain ⟨y0, y1, y2, y3, y4, y5⟩ := (HX7R.out.below hz).c6
        have hs7 := (HX7R.out.below hz).1
        have HE := Lib.hid (below_trans HB.out (below_trans HBR.out hz))
        simp only [noR] at y0 y1 y2 y3 y4 y5
        clear hz
        go_wp2_with fail
        go_ret
        exact ⟨rfl, HE.out⟩
      · have HJ := Lib.hid (fun W hb => g1 ▸ HRJ.out W hb)
        have HG2 := Lib.hid (fun W hb => g2 ▸ HRG.out W hb)
        have heq := fun W => eql_row x x W
        rw [decide_eq_true rfl] at heq
        have HG3 := Lib.hid g3
        have HXX := Lib.hid g2
        clear g1 g2 g3
        go_wp2_with fail
        (with_reducible refine (HJ.out _ HBR.out).mono ?_)
        rintro e u1 ⟨rfl, hz⟩
        have HC1 := Lib.hid (below_trans HBR.out hz)
        have HX7S := Lib.hid (HX7R.out.below hz)
        clear hz
        go_wp2_with fail
        (with_reducible refine (HG2.out _ HC1.out).mono ?_)
        rintro e u2 ⟨rfl, hz⟩
        have hal := al u2 (.cells #[.string x.s, .int .i64 x.n, .int .i64 x.f, .int .i64 x.h, .int .i64 x.p, .int .i64 x.t] 25)
        obtain ⟨y0, y1, y2, y3, y4, y5⟩ := ((HX7S.out.below hz).below hal).c6
        have hs7 := ((HX7S.out.below hz).below hal).1
        have HE := Lib.hid (below_trans HB.out (below_trans (below_trans HC1.out hz) hal))
        clear hz hal
        unfold rv
        rcases HG3.out with ⟨rfl, y, g4, g5⟩ | ⟨rfl, g4⟩
        · have e : x = y := by rw [HXX.out, g4]; rfl
          have hne := name_ne g5
          have hne2 := name_full g5
          rw [← e] at hne hne2
          clear e g4 g5
          go_wp2_with fail
          go_ret
          exact ⟨rfl, HE.out⟩
        · have e : x = noR := by rw [HXX.out, g4]; rfl
          have hnil := nil_eq
          subst e
          simp only [noR] at *
          clear g4
          go_wp2_with fail
          go_ret
          exact ⟨rfl, HE.out⟩

set_option maxRecDepth 100000 in
set_option maxHeartbeats 4000000 in
theorem lifted (os : Os) (started : os.Started) (H : Type) (enc : TypeId × Value → H) :
    ReturnsInHanded {} Try.checked os 3 .any (Rows.stockMovesSpec.pre6 enc Try.prog Try.f3 Rows.stockMovesRow.domain false) (Rows.stockMovesSpec.post enc Try.prog Try.f3 false true false false) := by
  refine returnsInHanded_of_change (C := Try.checked) own started (by kernel_rfl) Try.func3
    (ChangeSpec.witness6 (enc := enc) (C := Try.checked) false ⟨#[], #[.slice none 0 0, .string ByteArray.empty, .int .i64 0], []⟩ 8 (by kernel_rfl) (by kernel_rfl) (by kernel_rfl) (by kernel_rfl)) ?_
  intro W base args ds gs before hval0 hW hcnd _
  have hval : ∀ (j : Nat) t v, Try.f3.params[j]? = some t → args[j]? = some v → Value.okWide Try.prog W .any base t v := hval0
  have hW' := hW
  obtain ⟨p, q, hA0, hV, rfl, hfz, hnd⟩ := hW
  have hA : DataW.TrodAll enc Try.prog W 0 (fun _ => true) true Try.f3.params.toList args.toList ds p := hA0
  rw [Try.params3] at hA hval
  obtain ⟨v0, vs0, d0, ds0, p0, q0, hargs, rfl, rfl, h0, r0⟩ := trodAll_cons hA
  obtain ⟨v1, vs1, d1, ds1, p1, q1, rfl, rfl, rfl, h1, r1⟩ := trodAll_cons r0
  obtain ⟨v2, vs2, d2, ds2, p2, q2, rfl, rfl, rfl, h2, r2⟩ := trodAll_cons r1
  obtain ⟨rfl, rfl, rfl⟩ := trodAll_nil r2
  obtain rfl : args = #[v0, v1, v2] := by cases args; simp_all
  obtain ⟨rfl, rfl⟩ := trodVars_none hV
  have k0 := h0
  have lt0 : ∀ x ∈ p0, x.block < W.heap.size := by obtain ⟨m, hm⟩ := k0; exact DataW.trod_lt m _ _ _ hm
  obtain ⟨fuel0, hf0⟩ := h0
  obtain ⟨aa0, ll0, cc0, rfl⟩ := okWide_slice Try.underlying22 (hval 0 22 v0 rfl rfl)
  have w0 := argR_of (v := .slice aa0 ll0 cc0) hf0
  obtain ⟨a1, rfl, rfl, rfl, w1⟩ := open_string Try.underlying9 (hval 1 9 v1 rfl rfl) h1
  obtain ⟨a2, rfl, rfl, rfl, w2⟩ := open_int Try.underlying3 (hval 2 3 v2 rfl rfl) h2
  have hb2 : -9223372036854775808 ≤ a2 ∧ a2 ≤ 9223372036854775807 := by
    have := w2
    simp [Lit.wf, IntKind.min, IntKind.max, IntKind.bits, IntKind.signed] at this
    omega
  clear hA0 hval0
  refine (walk0 (.slice aa0 ll0 cc0) a1 (by simpa [maxLen] using w1) a2 hb2.1 hb2.2 W w0).mono fun e W' ⟨he, bel⟩ => ?_
  subst he
  exact ⟨_, rfl, _, _, _, [], _, [], hW', trodAll_mk1 (shut_bool Try.underlying4 _), (trodAll_cons_mk (Below.trod laidOut (by kernel_rfl) (of_decide_eq_true (by kernel_rfl)) k0 bel lt0) (trodAll_cons_mk (shut_string Try.underlying9 w1) (trodAll_cons_mk (shut_int Try.underlying3 w2) trodAll_mk0))), rfl, bel.frame _, fun h => by cases h⟩

theorem over : Rows.stockMovesRow.holds Try.pinned (OpenSpec.ofChange Rows.stockMovesSpec) :=
  OpenClaim.holds_of_wide 3 Try.f3 rfl rfl rfl rfl rfl rfl rfl ⟨rfl, rfl, rfl, rfl, rfl⟩ rfl rfl rfl rfl rfl (by kernel_rfl) Try.func3 (by kernel_rfl)
    (of_decide_eq_true (by kernel_rfl)) (by unfold Func.isWrapper; first | (rw [if_pos (by decide +kernel)]; kernel_rfl) | (rw [if_neg (by decide +kernel)]; exact ⟨rfl, rfl⟩))
    (fun os started H enc _ => lifted os started H enc)

theorem proved : Rows.StockMovesSaid := over
#print axioms proved

end Go.Proofs.Ytolbaapjnpjmkaa.stockMoves
