/-
  Proved: for any integer, any row of texts and any text the law PackBack returns true: what is written is read, whatever is behind a number; what any text is read as, written, is the same bytes. No condition.
-/
import Derived.Test.YtlhbeckimhfbfaaRows
import Derived.Test.YtlhbeckimhfbfaaRefRow
import Derived.Test.YtlhbeckimhfbfaaRow
import Derived.Test.YtlhbeckimhfbfaaFew
import Derived.Test.YtlhbeckimhfbfaaBack
import Derived.Deep.RegionWith
import Derived.Deep.CutRange
import Derived.ShutString
import Derived.ChangeOld
import Derived.SliceStrings
import Derived.Carry
namespace Go.Proofs.Ytlhbeckimhfbfaa.packBack
open Go.ChangeShapes Go.WideShapes Go.ChangeAt Go.RowKit Go.Lib Go.Conc
open Go.ChangeMaps (open_string shut_string)
set_option linter.unusedVariables false

theorem own : ownKnob Try.prog.godebug = none := by kernel_rfl
theorem laidOut : laidOutB Try.prog = true := by kernel_rfl

/-- Behind the law's first statement: a row of few texts, and a text. -/
def Cut1 (w : World) (l s : Value) (wx : World) : Prop :=
  ∃ (ls : List ByteArray) (t : ByteArray), ls.length ≤ 258 ∧ (∀ y ∈ ls, y.size ≤ 4100) ∧ wx.ownsRow w.heap.size 9 1 l ls.length (scells ls) ∧ s = .string t ∧ t.size ≤ 10000 ∧ Below w.heap.size w wx
/-- Behind each later part: the row is as it was. -/
def Still (w : World) (l : Value) (ls : List ByteArray) (wx : World) : Prop := SRow wx l ls ∧ Below w.heap.size w wx
theorem Still.on {w : World} {l : Value} {ls : List ByteArray} {wx wy : World} (h : Still w l ls wx) (hb : Below wx.heap.size wx wy) : Still w l ls wy := ⟨srow_below h.1 hb, below_trans h.2 hb⟩

/-- A number, written, and read with a text behind it. -/
theorem part1 (n : Int) (t : ByteArray) (ht : t.size ≤ 10000) : ∃ (a : ByteArray) (e : Int), Hid (∀ W, Calls Try.prog 13 #[.int .i64 n] W (TextI a e W)) ∧
    (((e == 0) = true ∧ a.size ≤ 9 ∧ Hid (∀ W, Calls Try.prog 14 #[.string (a ++ t)] W (ThreeS n t 0 W))) ∨ (e == 0) = false) := by
  cases hm : mayB n with
  | false => exact ⟨⟨#[]⟩, 1, fun W => Number_no n W hm, .inr rfl⟩
  | true =>
    have hm' := mayB_t.1 hm
    have h9 := digs_len9 _ (fold_le hm'.1 hm'.2)
    have ha : (⟨(digs (fold n)).toArray⟩ : ByteArray).size ≤ 9 := by simpa [ByteArray.size] using h9
    refine ⟨⟨(digs (fold n)).toArray⟩, 0, fun W => Number_yes n W hm, .inl ⟨rfl, ha, fun W => ReadNumber_rd (rd_of hm (by simp)) ?_ W⟩⟩
    rw [ByteArray.size_append]; unfold maxLen; omega
/-- A row, written, and read. -/
theorem part2 (ls : List ByteArray) (hl : ls.length ≤ 258) (hy : ∀ y ∈ ls, y.size ≤ 4100) : ∃ (a : ByteArray) (e : Int), Hid (∀ W v, SRow W v ls → Calls Try.prog 18 #[v] W (TextI a e W)) ∧
    (((e == 0) = true ∧ Hid (∀ W, Calls Try.prog 19 #[.string a] W (RowI ls 0 W))) ∨ (e == 0) = false) := by
  by_cases hok : rowOk ls
  · refine ⟨⟨(enc ls).toArray⟩, 0, fun W v h => Row_yes h hok, .inl ⟨rfl, fun W => ReadRow_rd (rdRow_of hok) ?_ W⟩⟩
    have h1 := encs_len ls hy
    have h2 := digs_len9 (fold ls.length) (by rw [fold_nat]; omega)
    have e : (⟨(enc ls).toArray⟩ : ByteArray).size = (enc ls).length := by simp [ByteArray.size]
    rw [e]; unfold enc maxLen; rw [List.length_append]; omega
  · exact ⟨⟨#[]⟩, 3, fun W v h => Row_long h hok (by omega) (fun j hj => by have := hy ls[j] (List.getElem_mem hj); omega), .inr rfl⟩
/-- A text, read as a number, and written. -/
theorem part3 (t : ByteArray) (ht : t.size ≤ 10000) : ∃ (n : Int) (r : ByteArray) (b : Int), Hid (∀ W, Calls Try.prog 14 #[.string t] W (ThreeS n r b W)) ∧
    (((b == 0) = true ∧ r.size ≤ 10000 ∧ ∃ a : ByteArray, a.size ≤ 9 ∧ a ++ r = t ∧ Hid (∀ W, Calls Try.prog 13 #[.int .i64 n] W (TextI a 0 W))) ∨ (b == 0) = false) := by
  obtain ⟨n, r, b, h⟩ := rd_some t
  refine ⟨n, r, b, fun W => ReadNumber_rd h (by unfold maxLen; omega) W, ?_⟩
  by_cases hb : b = 0
  · subst hb
    obtain ⟨hm, hbk⟩ := rd_back h
    have hm' := mayB_t.1 hm
    have h9 := digs_len9 _ (fold_le hm'.1 hm'.2)
    have hr := (rd_size h).1
    refine .inl ⟨rfl, by omega, ⟨(digs (fold n)).toArray⟩, by simpa [ByteArray.size] using h9, ?_, fun W => Number_yes n W hm⟩
    apply same_bytes
    rw [← hbk]; simp
  · exact .inr (by simpa using hb)
/-- A text, read as a row, and written. -/
theorem part4 (t : ByteArray) (ht : t.size ≤ 10000) : ∃ (ts : List ByteArray) (b : Int), Hid (∀ W, Calls Try.prog 19 #[.string t] W (RowI ts b W)) ∧
    (((b != 0) = true ∧ ts = []) ∨ ((b != 0) = false ∧ Hid (∀ W v, SRow W v ts → Calls Try.prog 18 #[v] W (TextI t 0 W)))) := by
  obtain ⟨ts, b, h⟩ := rdRow_some t
  refine ⟨ts, b, fun W => ReadRow_rd h (by unfold maxLen; omega) W, ?_⟩
  by_cases hb : b = 0
  · subst hb
    obtain ⟨hok, he⟩ := rdRow_back h
    refine .inr ⟨rfl, fun W v hv => ?_⟩
    have := Row_yes hv hok
    rw [he] at this
    have e : (⟨t.data.toList.toArray⟩ : ByteArray) = t := by apply same_bytes; simp
    rwa [e] at this
  · left
    refine ⟨by simpa using hb, ?_⟩
    obtain ⟨n, t', b1, hc, ⟨_, h1, _⟩ | ⟨_, us, fin, e, hr, ⟨_, h1, _⟩ | ⟨_, _, h1, _⟩ | ⟨_, _, _, h1⟩⟩⟩ := h
    · exact h1
    · exact h1
    · exact h1
    · exact absurd h1 hb
theorem own_empty {w : World} {B : Nat} {e : TypeId} {v : Value} (h : w.ownsRow B e 1 v 0 (scells [])) : ∃ a cap, v = .slice a 0 cap := by
  obtain ⟨_, ⟨rfl, _⟩ | ⟨g, cap, _, rfl, _⟩⟩ := h
  · exact ⟨_, _, rfl⟩
  · exact ⟨_, _, rfl⟩

set_option maxRecDepth 100000 in
set_option maxHeartbeats 4000000 in
theorem walk0 (n : Int) (v : Value) (s : ByteArray) (w : World) (hf : MayFew w v) (hs : s.size ≤ maxLen) : Calls Try.prog 6 #[.int .i64 n, v, .string s] w (BoolB true w) := by
  unfold maxLen at hs
  have HF := Lib.hid hf
  clear hf
  go_enter Try.func6, Try.ntmps6
  go_upto_region 1 with (fail)
  go_cut [1, 2] from 25 to 31 (fun l s wx => Cut1 w l s wx)
  case first =>
    by_cases hmin : s.size ≤ 10000
    · go_region_with (go_at_call 17; refine (HF.out _ (Below.refl _ _).drew).mono ?_; rintro e x1 ⟨v1, ls, rfl, h1, h2, h3, h4⟩)
      all_goals (try go_wp2_with fail)
      all_goals go_meet
      all_goals exact ⟨ls, s, h1, h2, h3, rfl, hmin, (Below.refl _ _).drew.trans h4⟩
    · go_region_with (go_at_call 17; refine (HF.out _ (Below.refl _ _).drew).mono ?_; rintro e x1 ⟨v1, ls, rfl, h1, h2, h3, h4⟩)
      all_goals (try go_wp2_with fail)
      all_goals go_meet
      all_goals exact ⟨ls, s.extract 0 10000, h1, h2, h3, rfl, by rw [ByteArray.size_extract]; omega, (Below.refl _ _).drew.trans h4⟩
  case rest =>
    clear HF hs
    obtain ⟨ls, t, hl, hy, hown, rfl, ht, hbe⟩ := hcut
    have HST := Lib.hid (show Still w u1 ls wc from ⟨srow_of_own hown, hbe⟩)
    obtain ⟨a1, e1, HN1, F1⟩ := part1 n t ht
    obtain ⟨a2, e2, HR2, F2⟩ := part2 ls hl hy
    obtain ⟨n3, r3, b3, HP3, F3⟩ := part3 t ht
    obtain ⟨ts, b4, HP4, F4⟩ := part4 t ht
    have HF1 := Lib.hid F1
    have HF2 := Lib.hid F2
    have HF3 := Lib.hid F3
    have HF4 := Lib.hid F4
    clear F1 F2 F3 F4 hy hown hbe
    go_upto_if 38 with (go_at_call 13; (with_reducible refine (HN1.out _).mono ?_); rintro e x1 ⟨rfl, hx1⟩)
    have HS1 := Lib.hid (HST.out.on hx1)
    clear hx1
    go_cut [9, 10, 11, 38] from 39 to 58 (fun _ _ _ _ wx => Still w u1 ls wx)
    case first =>
      rcases HF1.out with ⟨he, ha9, HC⟩ | he
      · go_wp2_with (go_at_call 14; (with_reducible refine (HC.out _).mono ?_); rintro e x2 ⟨rfl, hx2⟩)
        go_meet
        exact HS1.out.on hx2
      · go_wp2_with fail
        go_meet
        exact HS1.out
    case rest =>
      have HST2 := Lib.hid hcut
      clear hcut HST HS1 HN1 HF1
      go_upto_if 65 with (go_at_call 18; refine (HR2.out _ _ HST2.out.1).mono ?_; rintro e x3 ⟨rfl, hx3⟩)
      have HS2 := Lib.hid (HST2.out.on hx3)
      clear hx3
      go_cut [14, 15, 65] from 66 to 78 (fun _ _ _ wx => Still w u1 ls wx)
      case first =>
        rcases HF2.out with ⟨he, HC⟩ | he
        · go_wp2_with fail
          (with_reducible refine (HC.out _).mono ?_)
          rintro e x4 ⟨v4, rfl, ho4, hx4⟩
          have HO4 := Lib.hid (srow_of_own ho4)
          have HS3 := Lib.hid (HS2.out.on hx4)
          clear ho4 hx4
          go_wp2_with fail
          refine (Same_yes HO4.out HS3.out.1 (by omega)).mono ?_
          rintro e x5 ⟨rfl, hx5⟩
          have HS4 := Lib.hid (HS3.out.on hx5)
          clear hx5
          go_wp2_with fail
          go_meet
          exact HS4.out
        · go_wp2_with fail
          go_meet
          exact HS2.out
      case rest =>
        have HST3 := Lib.hid hcut
        clear hcut HST2 HS2 HR2 HF2
        go_upto_if 86 with (go_at_call 14; (with_reducible refine (HP3.out _).mono ?_); rintro e x6 ⟨rfl, hx6⟩)
        have HS5 := Lib.hid (HST3.out.on hx6)
        clear hx6
        go_cut [19, 20, 86] from 87 to 100 (fun _ _ _ wx => Still w u1 ls wx)
        case first =>
          rcases HF3.out with ⟨he, hr, a3, ha3, heq, HC⟩ | he
          · go_wp2_with (go_at_call 13; (with_reducible refine (HC.out _).mono ?_); rintro e x7 ⟨rfl, hx7⟩)
            go_meet
            exact HS5.out.on hx7
          · go_wp2_with fail
            go_meet
            exact HS5.out
        case rest =>
          have HST4 := Lib.hid hcut
          clear hcut HST3 HS5 HP3 HF3
          go_wp2_with fail
          (with_reducible refine (HP4.out _).mono ?_)
          rintro e x8 ⟨v8, rfl, ho8, hx8⟩
          have HS6 := Lib.hid (HST4.out.on hx8)
          clear hx8
          rcases HF4.out with ⟨he, rfl⟩ | ⟨he, HC⟩
          · obtain ⟨a, cap, rfl⟩ := own_empty ho8
            clear ho8
            go_wp2_with (go_at_call 11; refine (alive_any _).mono ?_; rintro e x9 ⟨rfl, hx9⟩)
            go_ret
            exact ⟨rfl, below_trans HS6.out.2 hx9⟩
          · have HO8 := Lib.hid (srow_of_own ho8)
            clear ho8
            go_wp2_with fail
            refine (HC.out _ _ HO8.out).mono ?_
            rintro e x9 ⟨rfl, hx9⟩
            have HX9 := Lib.hid hx9
            clear hx9
            go_wp2_with (go_at_call 11; refine (alive_any _).mono ?_; rintro e x10 ⟨rfl, hx10⟩)
            go_ret
            exact ⟨rfl, below_trans (below_trans HS6.out.2 HX9.out) hx10⟩

set_option maxRecDepth 100000 in
theorem lifted (os : Os) (started : os.Started) (H : Type) (enc : TypeId × Value → H) :
    ReturnsInHanded {} Try.checked os 6 .any (Rows.packBackSpec.pre6 enc Try.prog Try.f6 Rows.packBackRow.domain false) (Rows.packBackSpec.post enc Try.prog Try.f6 false true false false) := by
  refine returnsInHanded_of_change (C := Try.checked) own started (by kernel_rfl) Try.func6
    (ChangeSpec.witness6 (enc := enc) (C := Try.checked) false ⟨#[], #[.int .i64 0, .slice none 0 0, .string ByteArray.empty], []⟩ 8 (by kernel_rfl) (by kernel_rfl) (by kernel_rfl) (by kernel_rfl)) ?_
  intro W base args ds gs before hval0 hW hcnd _
  have hval : ∀ (j : Nat) t v, Try.f6.params[j]? = some t → args[j]? = some v → Value.okWide Try.prog W .any base t v := hval0
  have hW' := hW
  obtain ⟨p, q, hA0, hV, rfl, hfz, hnd⟩ := hW
  have hA : DataW.TrodAll enc Try.prog W 0 (fun _ => true) true Try.f6.params.toList args.toList ds p := hA0
  rw [Try.params6] at hA hval
  obtain ⟨v0, vs0, d0, ds0, p0, q0, hargs, rfl, rfl, h0, r0⟩ := trodAll_cons hA
  obtain ⟨v1, vs1, d1, ds1, p1, q1, rfl, rfl, rfl, h1, r1⟩ := trodAll_cons r0
  obtain ⟨v2, vs2, d2, ds2, p2, q2, rfl, rfl, rfl, h2, r2⟩ := trodAll_cons r1
  obtain ⟨rfl, rfl, rfl⟩ := trodAll_nil r2
  obtain rfl : args = #[v0, v1, v2] := by cases args; simp_all
  obtain ⟨rfl, rfl⟩ := trodVars_none hV
  obtain ⟨a0, rfl, rfl, rfl, w0⟩ := open_int Try.underlying3 (hval 0 3 v0 rfl rfl) h0
  obtain ⟨a1, len1, cap1, rfl⟩ := okWide_slice Try.underlying39 (hval 1 39 v1 rfl rfl)
  have k1 := h1
  have lt1 : ∀ x ∈ p1, x.block < W.heap.size := by obtain ⟨m, hm⟩ := k1; exact DataW.trod_lt m _ _ _ hm
  have w1 : MayFew W (.slice a1 len1 cap1) := by
    obtain ⟨fuel, hf⟩ := h1
    rcases open_strings Try.underlying39 Try.underlying9 (by kernel_rfl) hf with ⟨hcs, _⟩ | ⟨x, l, c, ss, hcs, _, hl, hm, hz, _, hcell, hws⟩
    · simp [Value.cells] at hcs
      obtain ⟨rfl, rfl, rfl⟩ := hcs
      exact fun V _ => few_nil _ _ V
    · simp [Value.cells] at hcs
      obtain ⟨rfl, rfl, rfl⟩ := hcs
      exact mayFew_of hl hm (by simp at hz; omega) hcell hws
  obtain ⟨a2, rfl, rfl, rfl, w2⟩ := open_string Try.underlying9 (hval 2 9 v2 rfl rfl) h2
  clear hA0 hval0
  refine (walk0 a0 _ a2 W w1 w2).mono fun e W' ⟨he, bel⟩ => ?_
  subst he
  exact ⟨_, rfl, _, _, _, [], _, [], hW', trodAll_mk1 (shut_bool Try.underlying4 _), (trodAll_cons_mk (shut_int Try.underlying3 w0) (trodAll_cons_mk (Below.trod laidOut (by kernel_rfl) (of_decide_eq_true (by kernel_rfl)) k1 bel lt1) (trodAll_cons_mk (shut_string Try.underlying9 w2) trodAll_mk0))), rfl, bel.frame _, fun h => by cases h⟩

theorem over : Rows.packBackRow.holds Try.pinned (OpenSpec.ofChange Rows.packBackSpec) :=
  OpenClaim.holds_of_wide 6 Try.f6 rfl rfl rfl rfl rfl rfl rfl ⟨rfl, rfl, rfl, rfl, rfl⟩ rfl rfl rfl rfl rfl (by kernel_rfl) Try.func6 (by kernel_rfl)
    (of_decide_eq_true (by kernel_rfl)) (by unfold Func.isWrapper; first | (rw [if_pos (by decide +kernel)]; kernel_rfl) | (rw [if_neg (by decide +kernel)]; exact ⟨rfl, rfl⟩))
    (fun os started H enc _ => lifted os started H enc)

theorem proved : Rows.PackBackSaid := over
#print axioms proved
end Go.Proofs.Ytlhbeckimhfbfaa.packBack
