/-
  Proved: for any two integers the law PackSums returns true: sums and products are as the reference says, or refused. No condition.
-/
import Derived.Test.YtlhbeckimhfbfaaRows
import Derived.Test.YtlhbeckimhfbfaaSums
import Derived.Test.YtlhbeckimhfbfaaRefTimes
import Derived.Test.YtlhbeckimhfbfaaNum
import Derived.ShutString
import Derived.ChangeOld
import Derived.Below
namespace Go.Proofs.Ytlhbeckimhfbfaa.packSums
open Go.ChangeShapes Go.WideShapes Go.ChangeAt Go.RowKit Go.Lib
set_option linter.unusedVariables false

theorem own : ownKnob Try.prog.godebug = none := by kernel_rfl

theorem Add_eq {a b v e : Int} (hv : addV a b = v) (he : addE a b = e) (w : World) : Calls Try.prog 8 #[.int .i64 a, .int .i64 b] w (TwoI v e w) := hv ▸ he ▸ Add_any a b w
theorem Times_eq {a b v e : Int} (hv : timesV a b = v) (he : timesE a b = e) (w : World) : Calls Try.prog 9 #[.int .i64 a, .int .i64 b] w (TwoI v e w) := hv ▸ he ▸ Times_any a b w
theorem May_eq {a : Int} {b : Bool} (h : mayB a = b) (w : World) : Calls Try.prog 10 #[.int .i64 a] w fun e w' => e = .returned (.bool b) ∧ w = w' := h ▸ May_any a w

set_option maxRecDepth 100000 in
set_option maxHeartbeats 2000000 in
theorem walk_arg (a b : Int) (w : World) (h : mayB a = false ∨ (mayB a = true ∧ mayB b = false)) : Calls Try.prog 3 #[.int .i64 a, .int .i64 b] w (BoolB true w) := by
  have CA := fun W => Add_eq (a := a) (b := b) (v := 0) (e := 1) (by rcases h with h | ⟨_, h⟩ <;> simp [addV, h]) (by rcases h with h | ⟨_, h⟩ <;> simp [addE, h]) W
  have CT := fun W => Times_eq (a := a) (b := b) (v := 0) (e := 1) (by rcases h with h | ⟨_, h⟩ <;> simp [timesV, h]) (by rcases h with h | ⟨_, h⟩ <;> simp [timesE, h]) W
  rcases h with h | ⟨h, h'⟩
  · have CM := fun W => May_eq h W
    have HC := Lib.hid CM
    have HCA := Lib.hid CA
    have HCT := Lib.hid CT
    clear CM CA CT h
    go_enter Try.func3, Try.ntmps3
    go_wp2_with (first
      | (go_at_call 8; refine (HCA.out _).mono ?_; rintro e w' ⟨rfl, rfl⟩)
      | (go_at_call 9; refine (HCT.out _).mono ?_; rintro e w' ⟨rfl, rfl⟩)
      | (go_at_call 10; refine (HC.out _).mono ?_; rintro e w' ⟨rfl, rfl⟩)
      | (go_at_call 11; refine (alive_any _).mono ?_; rintro e w' ⟨rfl, hb⟩))
    go_ret
    exact ⟨rfl, hb⟩
  · have CM := fun W => May_eq h W
    have CM' := fun W => May_eq h' W
    have HC := Lib.hid CM
    have HC' := Lib.hid CM'
    have HCA := Lib.hid CA
    have HCT := Lib.hid CT
    clear CM CM' CA CT h h'
    go_enter Try.func3, Try.ntmps3
    go_wp2_with (first
      | (go_at_call 8; refine (HCA.out _).mono ?_; rintro e w' ⟨rfl, rfl⟩)
      | (go_at_call 9; refine (HCT.out _).mono ?_; rintro e w' ⟨rfl, rfl⟩)
      | (go_at_call 10; (with_reducible refine (HC.out _).mono ?_); rintro e w' ⟨rfl, rfl⟩)
      | (go_at_call 10; (with_reducible refine (HC'.out _).mono ?_); rintro e w' ⟨rfl, rfl⟩)
      | (go_at_call 11; refine (alive_any _).mono ?_; rintro e w' ⟨rfl, hb⟩))
    go_ret
    exact ⟨rfl, hb⟩

set_option maxRecDepth 100000 in
set_option maxHeartbeats 2000000 in
theorem walk_may (a b : Int) (w : World) (ha : mayB a = true) (hb : mayB b = true) : Calls Try.prog 3 #[.int .i64 a, .int .i64 b] w (BoolB true w) := by
  obtain ⟨a1, a2⟩ := mayB_t.1 ha
  obtain ⟨b1, b2⟩ := mayB_t.1 hb
  have HMA := Lib.hid (fun W => May_eq ha W)
  have HMB := Lib.hid (fun W => May_eq hb W)
  obtain ⟨v1, e1, hv1, he1, HS, HCA, cs⟩ : ∃ v e : Int, addV a b = v ∧ addE a b = e ∧ Hid (∀ W, Calls Try.prog 10 #[.int .i64 (a + b)] W fun e w' => e = .returned (.bool (mayB (a + b))) ∧ W = w') ∧ Hid (∀ W, Calls Try.prog 8 #[.int .i64 a, .int .i64 b] W (TwoI v e W)) ∧ ((mayB (a + b) = true ∧ v = a + b ∧ e = 0) ∨ (mayB (a + b) = false ∧ v = 0 ∧ e = 2)) := by
    refine ⟨_, _, rfl, rfl, fun W => May_any _ W, fun W => Add_any a b W, ?_⟩
    cases hc : mayB (a + b) <;> simp [addV, addE, ha, hb, hc]
  obtain ⟨v2, e2, r, HR, HCT, ct⟩ : ∃ v e : Int, ∃ r : Bool, Hid (∀ W, Calls Try.prog 12 #[.int .i64 a, .int .i64 b] W (TwoIB v r W)) ∧ Hid (∀ W, Calls Try.prog 9 #[.int .i64 a, .int .i64 b] W (TwoI v e W)) ∧ ((r = true ∧ e = 0) ∨ (r = false ∧ e = 2 ∧ v = 0)) := by
    refine ⟨timesV a b, timesE a b, mayB (a * b), fun W => ?_, fun W => Times_any a b W, ?_⟩
    · have := RefTimes_any a b W a1 a2 b1 b2
      have e : timesV a b = rtV a b := by unfold timesV rtV; simp [ha, hb]
      rwa [e]
    · cases hc : mayB (a * b) <;> simp [timesV, timesE, ha, hb, hc]
  clear hv1 he1 ha hb
  rcases cs with ⟨hc, rfl, rfl⟩ | ⟨hc, rfl, rfl⟩ <;> rcases ct with ⟨rfl, rfl⟩ | ⟨rfl, rfl, rfl⟩
  all_goals
    rw [hc] at HS
    clear hc
    go_enter Try.func3, Try.ntmps3
    go_wp2_with (first
      | (go_at_call 8; refine (HCA.out _).mono ?_; rintro e w' ⟨rfl, rfl⟩)
      | (go_at_call 9; refine (HCT.out _).mono ?_; rintro e w' ⟨rfl, rfl⟩)
      | (go_at_call 12; refine (HR.out _).mono ?_; rintro e w' ⟨rfl, rfl⟩)
      | (go_at_call 10; (with_reducible refine (HMA.out _).mono ?_); rintro e w' ⟨rfl, rfl⟩)
      | (go_at_call 10; (with_reducible refine (HMB.out _).mono ?_); rintro e w' ⟨rfl, rfl⟩)
      | (go_at_call 10; (with_reducible refine (HS.out _).mono ?_); rintro e w' ⟨rfl, rfl⟩)
      | (go_at_call 11; refine (alive_any _).mono ?_; rintro e w' ⟨rfl, hb⟩))
    go_ret
    exact ⟨rfl, hb⟩

theorem walk (a0 : Int) (a1 : Int) (w : World) : Calls Try.prog 3 #[.int .i64 a0, .int .i64 a1] w fun e w' => e = .returned (.bool true) ∧ Below w.heap.size w w' := by
  cases ha : mayB a0 with
  | false => exact walk_arg a0 a1 w (.inl ha)
  | true =>
    cases hb : mayB a1 with
    | false => exact walk_arg a0 a1 w (.inr ⟨ha, hb⟩)
    | true => exact walk_may a0 a1 w ha hb

set_option maxRecDepth 100000 in
theorem lifted (os : Os) (started : os.Started) (H : Type) (enc : TypeId × Value → H) :
    ReturnsInHanded {} Try.checked os 3 .any (Rows.packSumsSpec.pre6 enc Try.prog Try.f3 Rows.packSumsRow.domain false) (Rows.packSumsSpec.post enc Try.prog Try.f3 false true false false) := by
  refine returnsInHanded_of_change (C := Try.checked) own started (by kernel_rfl) Try.func3
    (ChangeSpec.witness6 (enc := enc) (C := Try.checked) false ⟨#[], #[.int .i64 0, .int .i64 0], []⟩ 8 (by kernel_rfl) (by kernel_rfl) (by kernel_rfl) (by kernel_rfl)) ?_
  intro W base args ds gs before hval0 hW hcnd _
  have hval : ∀ (j : Nat) t v, Try.f3.params[j]? = some t → args[j]? = some v → Value.okWide Try.prog W .any base t v := hval0
  have hW' := hW
  obtain ⟨p, q, hA0, hV, rfl, hfz, hnd⟩ := hW
  have hA : DataW.TrodAll enc Try.prog W 0 (fun _ => true) true Try.f3.params.toList args.toList ds p := hA0
  rw [Try.params3] at hA hval
  obtain ⟨v0, vs0, d0, ds0, p0, q0, hargs, rfl, rfl, h0, r0⟩ := trodAll_cons hA
  obtain ⟨v1, vs1, d1, ds1, p1, q1, rfl, rfl, rfl, h1, r1⟩ := trodAll_cons r0
  obtain ⟨rfl, rfl, rfl⟩ := trodAll_nil r1
  obtain rfl : args = #[v0, v1] := by cases args; simp_all
  obtain ⟨rfl, rfl⟩ := trodVars_none hV
  obtain ⟨a0, rfl, rfl, rfl, w0⟩ := open_int Try.underlying3 (hval 0 3 v0 rfl rfl) h0
  obtain ⟨a1, rfl, rfl, rfl, w1⟩ := open_int Try.underlying3 (hval 1 3 v1 rfl rfl) h1
  clear hA0 hval0
  refine (walk a0 a1 W).mono fun e W' ⟨he, bel⟩ => ?_
  subst he
  exact ⟨_, rfl, _, _, _, [], [], [], hW', trodAll_mk1 (shut_bool Try.underlying4 _), (trodAll_cons_mk (shut_int Try.underlying3 w0) (trodAll_cons_mk (shut_int Try.underlying3 w1) trodAll_mk0)), rfl, bel.frame _, fun h => by cases h⟩

theorem over : Rows.packSumsRow.holds Try.pinned (OpenSpec.ofChange Rows.packSumsSpec) :=
  OpenClaim.holds_of_wide 3 Try.f3 rfl rfl rfl rfl rfl rfl rfl ⟨rfl, rfl, rfl, rfl, rfl⟩ rfl rfl rfl rfl rfl (by kernel_rfl) Try.func3 (by kernel_rfl)
    (of_decide_eq_true (by kernel_rfl)) (by unfold Func.isWrapper; first | (rw [if_pos (by decide +kernel)]; kernel_rfl) | (rw [if_neg (by decide +kernel)]; exact ⟨rfl, rfl⟩))
    (fun os started H enc _ => lifted os started H enc)

theorem proved : Rows.PackSumsSaid := over
#print axioms proved
end Go.Proofs.Ytlhbeckimhfbfaa.packSums
