/-
  Proved: for any row of texts and any text the law PackRows returns true: a row's bytes, and the row of a text, are as the reference says, or refused. No condition.
-/
import Derived.Test.YtlhbeckimhfbfaaRows
import Derived.Test.YtlhbeckimhfbfaaRefRow
import Derived.Test.YtlhbeckimhfbfaaRow
import Derived.Test.YtlhbeckimhfbfaaFew
import Derived.Deep.RegionWith
import Derived.Deep.CutRange
import Derived.ShutString
import Derived.ChangeOld
import Derived.SliceStrings
import Derived.Carry
namespace Go.Proofs.Ytlhbeckimhfbfaa.packRows
open Go.ChangeShapes Go.WideShapes Go.ChangeAt Go.RowKit Go.Lib Go.Conc
open Go.ChangeMaps (open_string shut_string)
set_option linter.unusedVariables false

theorem own : ownKnob Try.prog.godebug = none := by kernel_rfl
theorem laidOut : laidOutB Try.prog = true := by kernel_rfl

/-- Behind the law's first statement: a row of few texts, and a text. -/
def Cut1 (w : World) (l s : Value) (wx : World) : Prop :=
  ∃ (ls : List ByteArray) (t : ByteArray), ls.length ≤ 258 ∧ (∀ y ∈ ls, y.size ≤ 4100) ∧ wx.ownsRow w.heap.size 9 1 l ls.length (scells ls) ∧ s = .string t ∧ t.size ≤ 10000 ∧ Below w.heap.size w wx

set_option maxRecDepth 100000 in
set_option maxHeartbeats 4000000 in
theorem walk0 (v : Value) (s : ByteArray) (w : World) (hf : MayFew w v) (hs : s.size ≤ maxLen) : Calls Try.prog 5 #[v, .string s] w (BoolB true w) := by
  unfold maxLen at hs
  have HF := Lib.hid hf
  clear hf
  go_enter Try.func5, Try.ntmps5
  go_upto_region 1 with (fail)
  go_cut [0, 1] from 11 to 17 (fun l s wx => Cut1 w l s wx)
  case first =>
    by_cases hmin : s.size ≤ 10000
    · go_region_with (go_at_call 17; refine (HF.out _ (Below.refl _ _).drew).mono ?_; rintro e x1 ⟨v1, ls, rfl, h1, h2, h3, h4⟩)
      all_goals (try go_wp2_with fail)
      all_goals go_meet
      all_goals exact ⟨ls, s, h1, h2, h3, rfl, hmin, (Below.refl _ _).drew.trans h4⟩
    · go_region_with (go_at_call 17; refine (HF.out _ (Below.refl _ _).drew).mono ?_; rintro e x1 ⟨v1, ls, rfl, h1, h2, h3, h4⟩)
      all_goals (try go_wp2_with fail)
      all_goals go_meet
      all_goals exact ⟨ls, s.extract 0 10000, h1, h2, h3, rfl, by rw [ByteArray.size_extract]; omega, (Below.refl _ _).drew.trans h4⟩
  case rest =>
    clear HF hs
    obtain ⟨ls, t, hl, hy, hown, rfl, ht, hbe⟩ := hcut
    obtain ⟨ts, b, hrd⟩ := rdRow_some t
    have htm : t.size ≤ maxLen := by unfold maxLen; omega
    have HP := Lib.hid (fun W => ReadRow_rd hrd htm W)
    have HQ := Lib.hid (fun W => RefReadRow_rd hrd htm W)
    have hts := rdRow_len hrd
    have hy' : ∀ j (h : j < ls.length), ls[j].size ≤ 1000000 := fun j h => by have := hy ls[j] (List.getElem_mem h); omega
    have HSR := Lib.hid (srow_of_own hown)
    have HBE := Lib.hid hbe
    have HY := Lib.hid hy
    have HY' := Lib.hid hy'
    clear hown hbe hy hy' hrd htm
    by_cases hok : rowOk ls
    · have HOK := Lib.hid hok
      have hl6 := hok.1
      clear hok
      go_wp2_with fail
      refine (Row_yes HSR.out HOK.out).mono ?_
      rintro e x1 ⟨rfl, hx1⟩
      have HX1 := Lib.hid hx1
      clear hx1
      have HRW := Lib.hid (fun W (h : SRow W u0 ls) => RefRow_any h hl6 HY.out)
      generalize (⟨(enc ls).toArray⟩ : ByteArray) = en at HRW ⊢
      go_wp2_with fail
      refine (HP.out _).mono ?_
      rintro e x2 ⟨v7, rfl, ho7, hx2⟩
      have HX2 := Lib.hid hx2
      have HO7 := Lib.hid (srow_of_own ho7)
      clear hx2 ho7
      go_wp2_with fail
      refine (HQ.out _).mono ?_
      rintro e x3 ⟨v9, rfl, ho9, hx3⟩
      have HO9 := Lib.hid (srow_of_own ho9)
      have HO7' := Lib.hid (srow_below HO7.out hx3)
      have HX3 := Lib.hid hx3
      clear hx3 ho9
      go_wp2_with fail
      refine (Same_yes HO7'.out HO9.out (by omega)).mono ?_
      rintro e x4 ⟨rfl, hx4⟩
      have HX4 := Lib.hid hx4
      clear hx4
      go_wp2_with fail
      refine (alive_any _).mono ?_
      rintro e x5 ⟨rfl, hx5⟩
      have HC := Lib.hid (below_trans (below_trans (below_trans (below_trans HX1.out HX2.out) HX3.out) HX4.out) hx5)
      have HS5 := Lib.hid (srow_below HSR.out HC.out)
      clear hx5
      go_wp2_with fail
      refine (MayRow_yes HS5.out HOK.out).mono ?_
      rintro e w' ⟨rfl, rfl⟩
      go_wp2_with fail
      refine (HRW.out _ HS5.out).mono ?_
      rintro e x6 ⟨rfl, hx6⟩
      have HX6 := Lib.hid hx6
      clear hx6
      go_wp2_with fail
      go_ret
      exact ⟨rfl, below_trans (below_trans HBE.out HC.out) HX6.out⟩
    · have HOK := Lib.hid hok
      clear hok
      go_wp2_with fail
      refine (Row_long HSR.out HOK.out (by omega) HY'.out).mono ?_
      rintro e x1 ⟨rfl, hx1⟩
      have HX1 := Lib.hid hx1
      clear hx1
      go_wp2_with fail
      refine (HP.out _).mono ?_
      rintro e x2 ⟨v7, rfl, ho7, hx2⟩
      have HX2 := Lib.hid hx2
      have HO7 := Lib.hid (srow_of_own ho7)
      clear hx2 ho7
      go_wp2_with fail
      refine (HQ.out _).mono ?_
      rintro e x3 ⟨v9, rfl, ho9, hx3⟩
      have HO9 := Lib.hid (srow_of_own ho9)
      have HO7' := Lib.hid (srow_below HO7.out hx3)
      have HX3 := Lib.hid hx3
      clear hx3 ho9
      go_wp2_with fail
      refine (Same_yes HO7'.out HO9.out (by omega)).mono ?_
      rintro e x4 ⟨rfl, hx4⟩
      have HX4 := Lib.hid hx4
      clear hx4
      go_wp2_with fail
      refine (alive_any _).mono ?_
      rintro e x5 ⟨rfl, hx5⟩
      have HC := Lib.hid (below_trans (below_trans (below_trans (below_trans HX1.out HX2.out) HX3.out) HX4.out) hx5)
      have HS5 := Lib.hid (srow_below HSR.out HC.out)
      clear hx5
      go_wp2_with fail
      refine (MayRow_no HS5.out HOK.out (by omega) HY'.out).mono ?_
      rintro e w' ⟨rfl, rfl⟩
      go_wp2_with fail
      go_ret
      exact ⟨rfl, below_trans HBE.out HC.out⟩

set_option maxRecDepth 100000 in
theorem lifted (os : Os) (started : os.Started) (H : Type) (enc : TypeId × Value → H) :
    ReturnsInHanded {} Try.checked os 5 .any (Rows.packRowsSpec.pre6 enc Try.prog Try.f5 Rows.packRowsRow.domain false) (Rows.packRowsSpec.post enc Try.prog Try.f5 false true false false) := by
  refine returnsInHanded_of_change (C := Try.checked) own started (by kernel_rfl) Try.func5
    (ChangeSpec.witness6 (enc := enc) (C := Try.checked) false ⟨#[], #[.slice none 0 0, .string ByteArray.empty], []⟩ 8 (by kernel_rfl) (by kernel_rfl) (by kernel_rfl) (by kernel_rfl)) ?_
  intro W base args ds gs before hval0 hW hcnd _
  have hval : ∀ (j : Nat) t v, Try.f5.params[j]? = some t → args[j]? = some v → Value.okWide Try.prog W .any base t v := hval0
  have hW' := hW
  obtain ⟨p, q, hA0, hV, rfl, hfz, hnd⟩ := hW
  have hA : DataW.TrodAll enc Try.prog W 0 (fun _ => true) true Try.f5.params.toList args.toList ds p := hA0
  rw [Try.params5] at hA hval
  obtain ⟨v0, vs0, d0, ds0, p0, q0, hargs, rfl, rfl, h0, r0⟩ := trodAll_cons hA
  obtain ⟨v1, vs1, d1, ds1, p1, q1, rfl, rfl, rfl, h1, r1⟩ := trodAll_cons r0
  obtain ⟨rfl, rfl, rfl⟩ := trodAll_nil r1
  obtain rfl : args = #[v0, v1] := by cases args; simp_all
  obtain ⟨rfl, rfl⟩ := trodVars_none hV
  obtain ⟨a0, len0, cap0, rfl⟩ := okWide_slice Try.underlying39 (hval 0 39 v0 rfl rfl)
  have k0 := h0
  have lt0 : ∀ x ∈ p0, x.block < W.heap.size := by obtain ⟨m, hm⟩ := k0; exact DataW.trod_lt m _ _ _ hm
  have w0 : MayFew W (.slice a0 len0 cap0) := by
    obtain ⟨fuel, hf⟩ := h0
    rcases open_strings Try.underlying39 Try.underlying9 (by kernel_rfl) hf with ⟨hcs, _⟩ | ⟨x, l, c, ss, hcs, _, hl, hm, hz, _, hcell, hws⟩
    · simp [Value.cells] at hcs
      obtain ⟨rfl, rfl, rfl⟩ := hcs
      exact fun V _ => few_nil _ _ V
    · simp [Value.cells] at hcs
      obtain ⟨rfl, rfl, rfl⟩ := hcs
      exact mayFew_of hl hm (by simp at hz; omega) hcell hws
  obtain ⟨a1, rfl, rfl, rfl, w1⟩ := open_string Try.underlying9 (hval 1 9 v1 rfl rfl) h1
  clear hA0 hval0
  refine (walk0 _ a1 W w0 w1).mono fun e W' ⟨he, bel⟩ => ?_
  subst he
  exact ⟨_, rfl, _, _, _, [], _, [], hW', trodAll_mk1 (shut_bool Try.underlying4 _), (trodAll_cons_mk (Below.trod laidOut (by kernel_rfl) (of_decide_eq_true (by kernel_rfl)) k0 bel lt0) (trodAll_cons_mk (shut_string Try.underlying9 w1) trodAll_mk0)), rfl, bel.frame _, fun h => by cases h⟩

theorem over : Rows.packRowsRow.holds Try.pinned (OpenSpec.ofChange Rows.packRowsSpec) :=
  OpenClaim.holds_of_wide 5 Try.f5 rfl rfl rfl rfl rfl rfl rfl ⟨rfl, rfl, rfl, rfl, rfl⟩ rfl rfl rfl rfl rfl (by kernel_rfl) Try.func5 (by kernel_rfl)
    (of_decide_eq_true (by kernel_rfl)) (by unfold Func.isWrapper; first | (rw [if_pos (by decide +kernel)]; kernel_rfl) | (rw [if_neg (by decide +kernel)]; exact ⟨rfl, rfl⟩))
    (fun os started H enc _ => lifted os started H enc)

theorem proved : Rows.PackRowsSaid := over
#print axioms proved
end Go.Proofs.Ytlhbeckimhfbfaa.packRows
