/-
  Proved: for any two integers the law PackTurns returns true: sums and products may be turned about, what is added is taken off again, and a number and its negative have bytes of nearly the same number. No condition.
-/
import Derived.Test.YtlhbeckimhfbfaaRows
import Derived.Test.YtlhbeckimhfbfaaSums
import Derived.Test.YtlhbeckimhfbfaaNum
import Derived.ShutString
import Derived.ChangeOld
import Derived.Below
namespace Go.Proofs.Ytlhbeckimhfbfaa.packTurns
open Go.ChangeShapes Go.WideShapes Go.ChangeAt Go.RowKit Go.Lib
set_option linter.unusedVariables false

theorem own : ownKnob Try.prog.godebug = none := by kernel_rfl

theorem Add_eq {a b v e : Int} (hv : addV a b = v) (he : addE a b = e) (w : World) : Calls Try.prog 8 #[.int .i64 a, .int .i64 b] w (TwoI v e w) := hv ▸ he ▸ Add_any a b w
theorem Times_eq {a b v e : Int} (hv : timesV a b = v) (he : timesE a b = e) (w : World) : Calls Try.prog 9 #[.int .i64 a, .int .i64 b] w (TwoI v e w) := hv ▸ he ▸ Times_any a b w

theorem addV_comm (a b : Int) : addV b a = addV a b := by unfold addV; rw [Int.add_comm b a]; congr 1; simp only [eq_iff_iff]; constructor <;> (rintro ⟨h1, h2, h3⟩; exact ⟨h2, h1, h3⟩)
theorem addE_comm (a b : Int) : addE b a = addE a b := by unfold addE; rw [Int.add_comm b a]; congr 1; simp only [eq_iff_iff]; constructor <;> (rintro ⟨h1, h2⟩; exact ⟨h2, h1⟩)
theorem timesV_comm (a b : Int) : timesV b a = timesV a b := by unfold timesV; rw [Int.mul_comm b a]; congr 1; simp only [eq_iff_iff]; constructor <;> (rintro ⟨h1, h2, h3⟩; exact ⟨h2, h1, h3⟩)
theorem timesE_comm (a b : Int) : timesE b a = timesE a b := by unfold timesE; rw [Int.mul_comm b a]; congr 1; simp only [eq_iff_iff]; constructor <;> (rintro ⟨h1, h2⟩; exact ⟨h2, h1⟩)

theorem fold_near (a : Int) : fold (-a) = fold a ∨ fold (-a) = fold a + 1 ∨ fold (-a) + 1 = fold a := by
  unfold fold
  split <;> split <;> omega
theorem size_near (a : Int) : (digs (fold a)).length ≤ (digs (fold (-a))).length + 1 ∧ (digs (fold (-a))).length ≤ (digs (fold a)).length + 1 := by
  rcases fold_near a with h | h | h
  · rw [h]; omega
  · have := digs_len_succ (fold a); rw [h]; omega
  · have := digs_len_succ (fold (-a)); rw [← h]; omega

/-- What is known of Number(a) and Number(-a), if a may be. -/
theorem nums (a : Int) (h : mayB a = true) : ∃ s t : ByteArray, s.size ≤ t.size + 1 ∧ t.size ≤ s.size + 1 ∧ s.size ≤ 9 ∧ t.size ≤ 9 ∧
    Hid (∀ W, Calls Try.prog 13 #[.int .i64 a] W (TextI s 0 W)) ∧ Hid (∀ W, Calls Try.prog 13 #[.int .i64 (-a)] W (TextI t 0 W)) := by
  have hn := size_near a
  have h2 := mayB_t.1 h
  have l1 := digs_len9 (fold a) (fold_le h2.1 h2.2)
  have l2 := digs_len9 (fold (-a)) (fold_le (by omega) (by omega))
  refine ⟨⟨(digs (fold a)).toArray⟩, ⟨(digs (fold (-a))).toArray⟩, by simpa [ByteArray.size] using hn.1, by simpa [ByteArray.size] using hn.2, by simpa [ByteArray.size] using l1, by simpa [ByteArray.size] using l2, fun W => Number_yes a W h, fun W => Number_yes (-a) W ?_⟩
  rw [mayB_t]; omega

/-- What is known of the sums. -/
theorem sums (a b : Int) : ∃ v e : Int, Hid (∀ W, Calls Try.prog 8 #[.int .i64 a, .int .i64 b] W (TwoI v e W)) ∧ Hid (∀ W, Calls Try.prog 8 #[.int .i64 b, .int .i64 a] W (TwoI v e W)) ∧
    ((e = 0 ∧ v = a + b ∧ -1152921504606846976 ≤ b ∧ b ≤ 1152921504606846976 ∧ Hid (∀ W, Calls Try.prog 8 #[.int .i64 (a + b), .int .i64 (-b)] W (TwoI a 0 W))) ∨ (1 ≤ e ∧ e ≤ 2)) := by
  refine ⟨addV a b, addE a b, fun W => Add_any a b W, fun W => Add_eq (addV_comm a b) (addE_comm a b) W, ?_⟩
  cases ha : mayB a with
  | false => right; simp [addE, ha]
  | true =>
    cases hb : mayB b with
    | false => right; simp [addE, hb]
    | true =>
      cases hc : mayB (a + b) with
      | false => right; simp [addE, ha, hb, hc]
      | true =>
        left
        have hb' := mayB_t.1 hb
        have hn : mayB (-b) = true := by rw [mayB_t]; omega
        have e1 : a + b + -b = a := by omega
        exact ⟨by simp [addE, ha, hb, hc], by simp [addV, ha, hb, hc], hb'.1, hb'.2, fun W => Add_eq (by simp [addV, hc, hn, e1, ha]) (by simp [addE, hc, hn, e1, ha]) W⟩

/-- What is known of the products. -/
theorem prods (a b : Int) : ∃ v e : Int, Hid (∀ W, Calls Try.prog 9 #[.int .i64 a, .int .i64 b] W (TwoI v e W)) ∧ Hid (∀ W, Calls Try.prog 9 #[.int .i64 b, .int .i64 a] W (TwoI v e W)) ∧
    ((e = 0 ∧ b ≠ 0 ∧ v.tdiv b = a ∧ -1152921504606846976 ≤ a ∧ a ≤ 1152921504606846976) ∨ (e = 0 ∧ b = 0) ∨ (1 ≤ e ∧ e ≤ 2)) := by
  refine ⟨timesV a b, timesE a b, fun W => Times_any a b W, fun W => Times_eq (timesV_comm a b) (timesE_comm a b) W, ?_⟩
  cases ha : mayB a with
  | false => right; right; simp [timesE, ha]
  | true =>
    cases hb : mayB b with
    | false => right; right; simp [timesE, hb]
    | true =>
      cases hc : mayB (a * b) with
      | false => right; right; simp [timesE, ha, hb, hc]
      | true =>
        have ha' := mayB_t.1 ha
        by_cases h0 : b = 0
        · right; left; exact ⟨by simp [timesE, ha, hb, hc], h0⟩
        · left
          refine ⟨by simp [timesE, ha, hb, hc], h0, ?_, ha'.1, ha'.2⟩
          have : timesV a b = a * b := by simp [timesV, ha, hb, hc]
          rw [this, Int.mul_tdiv_cancel a h0]

set_option maxRecDepth 100000 in
set_option maxHeartbeats 4000000 in
theorem walk_may (a b : Int) (w : World) (ha : mayB a = true) : Calls Try.prog 7 #[.int .i64 a, .int .i64 b] w (BoolB true w) := by
  obtain ⟨s, t, hst, hts, hs9, ht9, HN1, HN2⟩ := nums a ha
  obtain ⟨v1, e1, HA1, HA2, cs⟩ := sums a b
  obtain ⟨v2, e2, HT1, HT2, ct⟩ := prods a b
  obtain ⟨a1, a2⟩ := mayB_t.1 ha
  clear ha
  have ct' : (e2 = 0 ∧ (b != 0) = true ∧ b ≠ 0 ∧ v2.tdiv b = a) ∨ (e2 = 0 ∧ (b != 0) = false) ∨ (1 ≤ e2 ∧ e2 ≤ 2) := by
    rcases ct with ⟨h, hb, hq, _, _⟩ | ⟨h, hb⟩ | h
    · exact .inl ⟨h, by simpa using hb, hb, hq⟩
    · exact .inr (.inl ⟨h, by simpa using hb⟩)
    · exact .inr (.inr h)
  clear ct
  rcases cs with ⟨rfl, rfl, b1, b2, HA3⟩ | ⟨c1, c2⟩
  · rcases ct' with ⟨rfl, hb0, hb1, hq⟩ | ⟨rfl, hb0⟩ | ⟨d1, d2⟩
    all_goals
      go_enter Try.func7, Try.ntmps7
      go_wp2_with (first
        | (go_at_call 8; (with_reducible refine (HA1.out _).mono ?_); rintro e w' ⟨rfl, rfl⟩)
        | (go_at_call 8; (with_reducible refine (HA2.out _).mono ?_); rintro e w' ⟨rfl, rfl⟩)
        | (go_at_call 8; (with_reducible refine (HA3.out _).mono ?_); rintro e w' ⟨rfl, rfl⟩)
        | (go_at_call 9; (with_reducible refine (HT1.out _).mono ?_); rintro e w' ⟨rfl, rfl⟩)
        | (go_at_call 9; (with_reducible refine (HT2.out _).mono ?_); rintro e w' ⟨rfl, rfl⟩)
        | (go_at_call 11; refine (alive_any _).mono ?_; rintro e w1 ⟨rfl, hw1⟩)
        | (go_at_call 13; (with_reducible refine (HN1.out _).mono ?_); rintro e w2 ⟨rfl, hw2⟩)
        | (go_at_call 13; (with_reducible refine (HN2.out _).mono ?_); rintro e w3 ⟨rfl, hw3⟩))
      go_ret
      exact ⟨ret_bool (decide_eq_true (by omega)), below_trans (below_trans hw1 hw2) hw3⟩
  · have hc0 : (e1 == 0) = false := by simp; omega
    rcases ct' with ⟨rfl, hb0, hb1, hq⟩ | ⟨rfl, hb0⟩ | ⟨d1, d2⟩
    all_goals
      go_enter Try.func7, Try.ntmps7
      go_wp2_with (first
        | (go_at_call 8; (with_reducible refine (HA1.out _).mono ?_); rintro e w' ⟨rfl, rfl⟩)
        | (go_at_call 8; (with_reducible refine (HA2.out _).mono ?_); rintro e w' ⟨rfl, rfl⟩)
        | (go_at_call 9; (with_reducible refine (HT1.out _).mono ?_); rintro e w' ⟨rfl, rfl⟩)
        | (go_at_call 9; (with_reducible refine (HT2.out _).mono ?_); rintro e w' ⟨rfl, rfl⟩)
        | (go_at_call 11; refine (alive_any _).mono ?_; rintro e w1 ⟨rfl, hw1⟩)
        | (go_at_call 13; (with_reducible refine (HN1.out _).mono ?_); rintro e w2 ⟨rfl, hw2⟩)
        | (go_at_call 13; (with_reducible refine (HN2.out _).mono ?_); rintro e w3 ⟨rfl, hw3⟩))
      go_ret
      exact ⟨ret_bool (decide_eq_true (by omega)), below_trans (below_trans hw1 hw2) hw3⟩

theorem notMay_neg (a : Int) (w0 : (Lit.int .i64 a).wf = true) (h : mayB a = false) : mayB (wrap64 (-a)) = false := by
  have hb := bounds_i64 w0
  rw [mayB_f] at h ⊢
  unfold wrap64
  omega
set_option maxRecDepth 100000 in
set_option maxHeartbeats 4000000 in
theorem walk_not (a b : Int) (w : World) (w0 : (Lit.int .i64 a).wf = true) (ha : mayB a = false) : Calls Try.prog 7 #[.int .i64 a, .int .i64 b] w (BoolB true w) := by
  have HA1 := Lib.hid (fun W => Add_eq (a := a) (b := b) (v := 0) (e := 1) (by simp [addV, ha]) (by simp [addE, ha]) W)
  have HA2 := Lib.hid (fun W => Add_eq (a := b) (b := a) (v := 0) (e := 1) (by simp [addV, ha]) (by simp [addE, ha]) W)
  have HT1 := Lib.hid (fun W => Times_eq (a := a) (b := b) (v := 0) (e := 1) (by simp [timesV, ha]) (by simp [timesE, ha]) W)
  have HT2 := Lib.hid (fun W => Times_eq (a := b) (b := a) (v := 0) (e := 1) (by simp [timesV, ha]) (by simp [timesE, ha]) W)
  have HN1 := Lib.hid (fun W => Number_no a W ha)
  have HN2 := Lib.hid (fun W => Number_no (wrap64 (-a)) W (notMay_neg a w0 ha))
  clear ha w0
  go_enter Try.func7, Try.ntmps7
  go_wp2_with (first
    | (go_at_call 8; (with_reducible refine (HA1.out _).mono ?_); rintro e w' ⟨rfl, rfl⟩)
    | (go_at_call 8; (with_reducible refine (HA2.out _).mono ?_); rintro e w' ⟨rfl, rfl⟩)
    | (go_at_call 9; (with_reducible refine (HT1.out _).mono ?_); rintro e w' ⟨rfl, rfl⟩)
    | (go_at_call 9; (with_reducible refine (HT2.out _).mono ?_); rintro e w' ⟨rfl, rfl⟩)
    | (go_at_call 11; refine (alive_any _).mono ?_; rintro e w1 ⟨rfl, hw1⟩)
    | (go_at_call 13; (with_reducible refine (HN1.out _).mono ?_); rintro e w2 ⟨rfl, hw2⟩)
    | (go_at_call 13; (with_reducible refine (HN2.out _).mono ?_); rintro e w3 ⟨rfl, hw3⟩))
  go_ret
  exact ⟨rfl, below_trans (below_trans hw1 hw2) hw3⟩

theorem walk (a0 : Int) (a1 : Int) (w0 : (Lit.int .i64 a0).wf = true) (w : World) : Calls Try.prog 7 #[.int .i64 a0, .int .i64 a1] w fun e w' => e = .returned (.bool true) ∧ Below w.heap.size w w' := by
  cases ha : mayB a0 with
  | false => exact walk_not a0 a1 w w0 ha
  | true => exact walk_may a0 a1 w ha

set_option maxRecDepth 100000 in
theorem lifted (os : Os) (started : os.Started) (H : Type) (enc : TypeId × Value → H) :
    ReturnsInHanded {} Try.checked os 7 .any (Rows.packTurnsSpec.pre6 enc Try.prog Try.f7 Rows.packTurnsRow.domain false) (Rows.packTurnsSpec.post enc Try.prog Try.f7 false true false false) := by
  refine returnsInHanded_of_change (C := Try.checked) own started (by kernel_rfl) Try.func7
    (ChangeSpec.witness6 (enc := enc) (C := Try.checked) false ⟨#[], #[.int .i64 0, .int .i64 0], []⟩ 8 (by kernel_rfl) (by kernel_rfl) (by kernel_rfl) (by kernel_rfl)) ?_
  intro W base args ds gs before hval0 hW hcnd _
  have hval : ∀ (j : Nat) t v, Try.f7.params[j]? = some t → args[j]? = some v → Value.okWide Try.prog W .any base t v := hval0
  have hW' := hW
  obtain ⟨p, q, hA0, hV, rfl, hfz, hnd⟩ := hW
  have hA : DataW.TrodAll enc Try.prog W 0 (fun _ => true) true Try.f7.params.toList args.toList ds p := hA0
  rw [Try.params7] at hA hval
  obtain ⟨v0, vs0, d0, ds0, p0, q0, hargs, rfl, rfl, h0, r0⟩ := trodAll_cons hA
  obtain ⟨v1, vs1, d1, ds1, p1, q1, rfl, rfl, rfl, h1, r1⟩ := trodAll_cons r0
  obtain ⟨rfl, rfl, rfl⟩ := trodAll_nil r1
  obtain rfl : args = #[v0, v1] := by cases args; simp_all
  obtain ⟨rfl, rfl⟩ := trodVars_none hV
  obtain ⟨a0, rfl, rfl, rfl, w0⟩ := open_int Try.underlying3 (hval 0 3 v0 rfl rfl) h0
  obtain ⟨a1, rfl, rfl, rfl, w1⟩ := open_int Try.underlying3 (hval 1 3 v1 rfl rfl) h1
  clear hA0 hval0
  refine (walk a0 a1 w0 W).mono fun e W' ⟨he, bel⟩ => ?_
  subst he
  exact ⟨_, rfl, _, _, _, [], [], [], hW', trodAll_mk1 (shut_bool Try.underlying4 _), (trodAll_cons_mk (shut_int Try.underlying3 w0) (trodAll_cons_mk (shut_int Try.underlying3 w1) trodAll_mk0)), rfl, bel.frame _, fun h => by cases h⟩

theorem over : Rows.packTurnsRow.holds Try.pinned (OpenSpec.ofChange Rows.packTurnsSpec) :=
  OpenClaim.holds_of_wide 7 Try.f7 rfl rfl rfl rfl rfl rfl rfl ⟨rfl, rfl, rfl, rfl, rfl⟩ rfl rfl rfl rfl rfl (by kernel_rfl) Try.func7 (by kernel_rfl)
    (of_decide_eq_true (by kernel_rfl)) (by unfold Func.isWrapper; first | (rw [if_pos (by decide +kernel)]; kernel_rfl) | (rw [if_neg (by decide +kernel)]; exact ⟨rfl, rfl⟩))
    (fun os started H enc _ => lifted os started H enc)

theorem proved : Rows.PackTurnsSaid := over
#print axioms proved
end Go.Proofs.Ytlhbeckimhfbfaa.packTurns
