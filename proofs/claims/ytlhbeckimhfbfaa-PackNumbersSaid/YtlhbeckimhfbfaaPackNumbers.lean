/-
  Proved: for any integer and any text the law PackNumbers returns true: a number's bytes, and the number at a text's beginning, are as the reference says, or refused. No condition.
-/
import Derived.Test.YtlhbeckimhfbfaaRows
import Derived.Test.YtlhbeckimhfbfaaRefNum
import Derived.ShutString
import Derived.ChangeOld
import Derived.Below
namespace Go.Proofs.Ytlhbeckimhfbfaa.packNumbers
open Go.ChangeShapes Go.WideShapes Go.ChangeAt Go.RowKit Go.Lib
open Go.ChangeMaps (open_string shut_string)
set_option linter.unusedVariables false

theorem own : ownKnob Try.prog.godebug = none := by kernel_rfl

/-- A text is read by both alike. -/
theorem reads (s : ByteArray) (hs : s.size ≤ maxLen) : ∃ (n : Int) (t : ByteArray) (b : Int),
    Hid (∀ W, Calls Try.prog 14 #[.string s] W (ThreeS n t b W)) ∧ Hid (∀ W, Calls Try.prog 15 #[.string s] W (StructT n t b W)) := by
  rcases last_or s with ⟨i, hi⟩ | h
  · obtain ⟨n, t, b, hr⟩ := readAs_some s i hi.1
    exact ⟨n, t, b, fun W => ReadNumber_as W hi hr hs, fun W => RefRead_as W hi hr hs⟩
  · exact ⟨0, ⟨#[]⟩, shortE s, fun W => ReadNumber_short s W h hs, fun W => RefRead_short s W h hs⟩

theorem May_eq {a : Int} {b : Bool} (h : mayB a = b) (w : World) : Calls Try.prog 10 #[.int .i64 a] w fun e w' => e = .returned (.bool b) ∧ w = w' := h ▸ May_any a w

set_option maxRecDepth 100000 in
set_option maxHeartbeats 2000000 in
theorem walk_not (a0 : Int) (a1 : ByteArray) (w1 : a1.size ≤ maxLen) (w : World) (hm : mayB a0 = false) :
    Calls Try.prog 4 #[.int .i64 a0, .string a1] w (BoolB true w) := by
  obtain ⟨n, t, b, HP, HR⟩ := reads a1 w1
  have HM := Lib.hid (fun W => May_eq hm W)
  have HN := Lib.hid (fun W => Number_no a0 W hm)
  clear hm w1
  go_enter Try.func4, Try.ntmps4
  go_wp2_with (first
    | (go_at_call 13; (with_reducible refine (HN.out _).mono ?_); rintro e x1 ⟨rfl, hx1⟩)
    | (go_at_call 14; (with_reducible refine (HP.out _).mono ?_); rintro e x2 ⟨rfl, hx2⟩)
    | (go_at_call 15; (with_reducible refine (HR.out _).mono ?_); rintro e x3 ⟨rfl, hx3⟩)
    | (go_at_call 10; (with_reducible refine (HM.out _).mono ?_); rintro e w' ⟨rfl, rfl⟩)
    | (go_at_call 11; refine (alive_any _).mono ?_; rintro e x4 ⟨rfl, hx4⟩))
  go_ret
  exact ⟨rfl, below_trans (below_trans (below_trans (below_trans hx1 hx2) hx3) ((Below.refl _ _).alloc (Nat.le_refl _) _)) hx4⟩

set_option maxRecDepth 100000 in
set_option maxHeartbeats 2000000 in
theorem walk_may (a0 : Int) (a1 : ByteArray) (w1 : a1.size ≤ maxLen) (w : World) (hm : mayB a0 = true) :
    Calls Try.prog 4 #[.int .i64 a0, .string a1] w (BoolB true w) := by
  obtain ⟨n, t, b, HP, HR⟩ := reads a1 w1
  obtain ⟨h1, h2⟩ := mayB_t.1 hm
  have HM := Lib.hid (fun W => May_eq hm W)
  have HN := Lib.hid (fun W => Number_yes a0 W hm)
  have HF := Lib.hid (fun W => RefNumber_any a0 W h1 h2)
  generalize (⟨(digs (fold a0)).toArray⟩ : ByteArray) = x at HN HF
  clear hm w1 h1 h2
  go_enter Try.func4, Try.ntmps4
  go_wp2_with (first
    | (go_at_call 13; (with_reducible refine (HN.out _).mono ?_); rintro e x1 ⟨rfl, hx1⟩)
    | (go_at_call 14; (with_reducible refine (HP.out _).mono ?_); rintro e x2 ⟨rfl, hx2⟩)
    | (go_at_call 15; (with_reducible refine (HR.out _).mono ?_); rintro e x3 ⟨rfl, hx3⟩)
    | (go_at_call 10; (with_reducible refine (HM.out _).mono ?_); rintro e w' ⟨rfl, rfl⟩)
    | (go_at_call 16; (with_reducible refine (HF.out _).mono ?_); rintro e x5 ⟨rfl, hx5⟩)
    | (go_at_call 11; refine (alive_any _).mono ?_; rintro e x4 ⟨rfl, hx4⟩))
  go_ret
  exact ⟨rfl, below_trans (below_trans (below_trans (below_trans (below_trans hx1 hx2) hx3) ((Below.refl _ _).alloc (Nat.le_refl _) _)) hx4) hx5⟩

theorem walk (a0 : Int) (a1 : ByteArray) (w1 : a1.size ≤ maxLen) (w : World) : Calls Try.prog 4 #[.int .i64 a0, .string a1] w fun e w' => e = .returned (.bool true) ∧ Below w.heap.size w w' := by
  cases hm : mayB a0 with
  | false => exact walk_not a0 a1 w1 w hm
  | true => exact walk_may a0 a1 w1 w hm

set_option maxRecDepth 100000 in
theorem lifted (os : Os) (started : os.Started) (H : Type) (enc : TypeId × Value → H) :
    ReturnsInHanded {} Try.checked os 4 .any (Rows.packNumbersSpec.pre6 enc Try.prog Try.f4 Rows.packNumbersRow.domain false) (Rows.packNumbersSpec.post enc Try.prog Try.f4 false true false false) := by
  refine returnsInHanded_of_change (C := Try.checked) own started (by kernel_rfl) Try.func4
    (ChangeSpec.witness6 (enc := enc) (C := Try.checked) false ⟨#[], #[.int .i64 0, .string ByteArray.empty], []⟩ 8 (by kernel_rfl) (by kernel_rfl) (by kernel_rfl) (by kernel_rfl)) ?_
  intro W base args ds gs before hval0 hW hcnd _
  have hval : ∀ (j : Nat) t v, Try.f4.params[j]? = some t → args[j]? = some v → Value.okWide Try.prog W .any base t v := hval0
  have hW' := hW
  obtain ⟨p, q, hA0, hV, rfl, hfz, hnd⟩ := hW
  have hA : DataW.TrodAll enc Try.prog W 0 (fun _ => true) true Try.f4.params.toList args.toList ds p := hA0
  rw [Try.params4] at hA hval
  obtain ⟨v0, vs0, d0, ds0, p0, q0, hargs, rfl, rfl, h0, r0⟩ := trodAll_cons hA
  obtain ⟨v1, vs1, d1, ds1, p1, q1, rfl, rfl, rfl, h1, r1⟩ := trodAll_cons r0
  obtain ⟨rfl, rfl, rfl⟩ := trodAll_nil r1
  obtain rfl : args = #[v0, v1] := by cases args; simp_all
  obtain ⟨rfl, rfl⟩ := trodVars_none hV
  obtain ⟨a0, rfl, rfl, rfl, w0⟩ := open_int Try.underlying3 (hval 0 3 v0 rfl rfl) h0
  obtain ⟨a1, rfl, rfl, rfl, w1⟩ := open_string Try.underlying9 (hval 1 9 v1 rfl rfl) h1
  clear hA0 hval0
  refine (walk a0 a1 w1 W).mono fun e W' ⟨he, bel⟩ => ?_
  subst he
  exact ⟨_, rfl, _, _, _, [], [], [], hW', trodAll_mk1 (shut_bool Try.underlying4 _), (trodAll_cons_mk (shut_int Try.underlying3 w0) (trodAll_cons_mk (shut_string Try.underlying9 w1) trodAll_mk0)), rfl, bel.frame _, fun h => by cases h⟩

theorem over : Rows.packNumbersRow.holds Try.pinned (OpenSpec.ofChange Rows.packNumbersSpec) :=
  OpenClaim.holds_of_wide 4 Try.f4 rfl rfl rfl rfl rfl rfl rfl ⟨rfl, rfl, rfl, rfl, rfl⟩ rfl rfl rfl rfl rfl (by kernel_rfl) Try.func4 (by kernel_rfl)
    (of_decide_eq_true (by kernel_rfl)) (by unfold Func.isWrapper; first | (rw [if_pos (by decide +kernel)]; kernel_rfl) | (rw [if_neg (by decide +kernel)]; exact ⟨rfl, rfl⟩))
    (fun os started H enc _ => lifted os started H enc)

theorem proved : Rows.PackNumbersSaid := over
#print axioms proved
end Go.Proofs.Ytlhbeckimhfbfaa.packNumbers
