/-
  Proved: for any three texts the law CheckGoes returns true: the check of a beginning goes on over the rest to the check of all. No condition.
-/
import Derived.Test.YthfiojiihjmndaaRows
import Derived.Test.YthfiojiihjmndaaAliveCrc
import Derived.ShutString
import Derived.ChangeOld
import Derived.Deep.QuietTactic
import Derived.BigQuiet
namespace Go.Proofs.Ythfiojiihjmndaa.checkGoes
open Go.ChangeShapes Go.WideShapes Go.ChangeAt Go.RowKit Go.Lib Go.Proofs.Ythfiojiihjmndaa.Crc
set_option linter.unusedVariables false
open Go.ChangeMaps (open_string shut_string)

theorem own : ownKnob Try.prog.godebug = none := by kernel_rfl

theorem app_data (a b : ByteArray) : (a ++ b).data.toList = a.data.toList ++ b.data.toList := by simp
theorem drawnB (w : World) (n : Nat) : Below w.heap.size w (w.drewN n) := ⟨rfl, rfl, rfl, Nat.le_refl _, fun _ _ => rfl⟩
theorem On_eq {c n : Nat} {s : ByteArray} (h : c < 4294967296) (hs : s.size ≤ maxLen) (e : crcOn c s.data.toList = n) (w : World) : Calls Try.prog 12 #[.int .u32 c, .string s] w (U32B n w) := e ▸ On_any c h s hs w
theorem Of_eq {n : Nat} {s : ByteArray} (hs : s.size ≤ maxLen) (e : crcOn 0 s.data.toList = n) (w : World) : Calls Try.prog 10 #[.string s] w (U32B n w) := e ▸ Of_any s hs w

set_option maxRecDepth 100000 in
set_option maxHeartbeats 2000000 in
theorem walk (s t u : ByteArray) (hs : s.size ≤ maxLen) (ht : t.size ≤ maxLen) (hu : u.size ≤ maxLen) (w : World) : Calls Try.prog 4 #[.string s, .string t, .string u] w (BoolB true w) := by
  unfold maxLen at hs ht hu
  rcases Nat.lt_or_ge 200 s.size with h4 | h4 <;> rcases Nat.lt_or_ge 200 t.size with h5 | h5 <;> rcases Nat.lt_or_ge 200 u.size with h6 | h6
  all_goals
    go_enter Try.func4, Try.ntmps4
    go_wp2
    go_quiet (fail)
    go_wp2_with fail
    first
      | (obtain ⟨a, ha, La⟩ : ∃ a : ByteArray, s.extract 0 200 = a ∧ a.size ≤ 200 := ⟨_, rfl, by simp; omega⟩
         rw [ha])
      | (obtain ⟨a, ha, La⟩ : ∃ a : ByteArray, s = a ∧ a.size ≤ 200 := ⟨_, rfl, by omega⟩
         rw [ha])
    first
      | (obtain ⟨b, hb, Lb⟩ : ∃ a : ByteArray, t.extract 0 200 = a ∧ a.size ≤ 200 := ⟨_, rfl, by simp; omega⟩
         rw [hb])
      | (obtain ⟨b, hb, Lb⟩ : ∃ a : ByteArray, t = a ∧ a.size ≤ 200 := ⟨_, rfl, by omega⟩
         rw [hb])
    first
      | (obtain ⟨c, hc, Lc⟩ : ∃ a : ByteArray, u.extract 0 200 = a ∧ a.size ≤ 200 := ⟨_, rfl, by simp; omega⟩
         rw [hc])
      | (obtain ⟨c, hc, Lc⟩ : ∃ a : ByteArray, u = a ∧ a.size ≤ 200 := ⟨_, rfl, by omega⟩
         rw [hc])
    clear ha hb hc h4 h5 h6 hs ht hu
    obtain ⟨nA, EA, lA⟩ : ∃ n, Hid (crcOn 0 a.data.toList = n) ∧ n < 4294967296 := ⟨_, rfl, crcOn_lt (by omega) _⟩
    obtain ⟨nB, EB, lB⟩ : ∃ n, Hid (crcOn nA b.data.toList = n) ∧ n < 4294967296 := ⟨_, rfl, crcOn_lt lA _⟩
    obtain ⟨nC, EC, lC⟩ : ∃ n, Hid (crcOn nB c.data.toList = n) ∧ n < 4294967296 := ⟨_, rfl, crcOn_lt lB _⟩
    have EAB : Hid (crcOn 0 (a ++ b).data.toList = nB) := by unfold Hid; rw [app_data, ← crcOn_append, EA.out, EB.out]
    have EABC : Hid (crcOn 0 (a ++ b ++ c).data.toList = nC) := by unfold Hid; rw [app_data, ← crcOn_append, EAB.out, EC.out]
    have ma : Hid (a.size ≤ maxLen) := by unfold Hid maxLen; omega
    have mb : Hid (b.size ≤ maxLen) := by unfold Hid maxLen; omega
    have mc : Hid (c.size ≤ maxLen) := by unfold Hid maxLen; omega
    have mab : Hid ((a ++ b).size ≤ maxLen) := by unfold Hid maxLen; rw [ByteArray.size_append]; omega
    have mabc : Hid ((a ++ b ++ c).size ≤ maxLen) := by unfold Hid maxLen; rw [ByteArray.size_append, ByteArray.size_append]; omega
    refine (alive_any _).mono ?_
    rintro e x1 ⟨rfl, hb1⟩
    have HB1 := Lib.hid (below_trans (drawnB w nq) hb1)
    clear hb1
    go_wp2_with fail
    refine (Of_eq ma.out EA.out _).mono ?_
    rintro e x2 ⟨rfl, hb1⟩
    have HB2 := Lib.hid (below_trans HB1.out hb1)
    clear hb1 HB1
    go_wp2_with fail
    refine (On_eq lA mb.out EB.out _).mono ?_
    rintro e x3 ⟨rfl, hb1⟩
    have HB3 := Lib.hid (below_trans HB2.out hb1)
    clear hb1 HB2
    go_wp2_with fail
    refine (Of_eq mab.out EAB.out _).mono ?_
    rintro e x4 ⟨rfl, hb1⟩
    have HB4 := Lib.hid (below_trans HB3.out hb1)
    clear hb1 HB3
    go_wp2_with fail
    refine (Of_eq ma.out EA.out _).mono ?_
    rintro e x5 ⟨rfl, hb1⟩
    have HB5 := Lib.hid (below_trans HB4.out hb1)
    clear hb1 HB4
    go_wp2_with fail
    refine (On_eq lA mb.out EB.out _).mono ?_
    rintro e x6 ⟨rfl, hb1⟩
    have HB6 := Lib.hid (below_trans HB5.out hb1)
    clear hb1 HB5
    go_wp2_with fail
    refine (On_eq lB mc.out EC.out _).mono ?_
    rintro e x7 ⟨rfl, hb1⟩
    have HB7 := Lib.hid (below_trans HB6.out hb1)
    clear hb1 HB6
    go_wp2_with fail
    refine (Of_eq mabc.out EABC.out _).mono ?_
    rintro e x8 ⟨rfl, hb1⟩
    have HB8 := Lib.hid (below_trans HB7.out hb1)
    clear hb1 HB7
    go_wp2_with fail
    refine (Of_eq ma.out EA.out _).mono ?_
    rintro e x9 ⟨rfl, hb1⟩
    have HB9 := Lib.hid (below_trans HB8.out hb1)
    clear hb1 HB8
    go_wp2_with fail
    refine (On_eq lA (by decide) (crcOn_nil nA) _).mono ?_
    rintro e x10 ⟨rfl, hb1⟩
    have HB10 := Lib.hid (below_trans HB9.out hb1)
    clear hb1 HB9
    go_wp2_with fail
    refine (Of_eq ma.out EA.out _).mono ?_
    rintro e x11 ⟨rfl, hb1⟩
    have HB11 := Lib.hid (below_trans HB10.out hb1)
    clear hb1 HB10
    go_wp2_with fail
    go_ret
    exact ⟨rfl, HB11.out⟩

theorem lifted (os : Os) (started : os.Started) (H : Type) (enc : TypeId × Value → H) :
    ReturnsInHanded {} Try.checked os 4 .any (Rows.checkGoesSpec.pre6 enc Try.prog Try.f4 Rows.checkGoesRow.domain false) (Rows.checkGoesSpec.post enc Try.prog Try.f4 false true false false) := by
  refine returnsInHanded_of_change (C := Try.checked) own started (by kernel_rfl) Try.func4
    (ChangeSpec.witness6 (enc := enc) (C := Try.checked) false ⟨#[], #[.string ByteArray.empty, .string ByteArray.empty, .string ByteArray.empty], []⟩ 8 (by kernel_rfl) (by kernel_rfl) (by kernel_rfl) (by kernel_rfl)) ?_
  intro W base args ds gs before hval0 hW hcnd _
  have hval : ∀ (j : Nat) t v, Try.f4.params[j]? = some t → args[j]? = some v → Value.okWide Try.prog W .any base t v := hval0
  have hW' := hW
  obtain ⟨p, q, hA0, hV, rfl, hfz, hnd⟩ := hW
  have hA : DataW.TrodAll enc Try.prog W 0 (fun _ => true) true Try.f4.params.toList args.toList ds p := hA0
  rw [Try.params4] at hA hval
  obtain ⟨v0, vs0, d0, ds0, p0, q0, hargs, rfl, rfl, h0, r0⟩ := trodAll_cons hA
  obtain ⟨v1, vs1, d1, ds1, p1, q1, rfl, rfl, rfl, h1, r1⟩ := trodAll_cons r0
  obtain ⟨v2, vs2, d2, ds2, p2, q2, rfl, rfl, rfl, h2, r2⟩ := trodAll_cons r1
  obtain ⟨rfl, rfl, rfl⟩ := trodAll_nil r2
  obtain rfl : args = #[v0, v1, v2] := by cases args; simp_all
  obtain ⟨rfl, rfl⟩ := trodVars_none hV
  obtain ⟨a0, rfl, rfl, rfl, w0⟩ := open_string Try.underlying9 (hval 0 9 v0 rfl rfl) h0
  obtain ⟨a1, rfl, rfl, rfl, w1⟩ := open_string Try.underlying9 (hval 1 9 v1 rfl rfl) h1
  obtain ⟨a2, rfl, rfl, rfl, w2⟩ := open_string Try.underlying9 (hval 2 9 v2 rfl rfl) h2
  clear hA0 hval0
  refine (walk a0 a1 a2 w0 w1 w2 W).mono fun e W' ⟨he, bel⟩ => ?_
  subst he
  exact ⟨_, rfl, _, _, _, [], [], [], hW', trodAll_mk1 (shut_bool Try.underlying4 _), (trodAll_cons_mk (shut_string Try.underlying9 w0) (trodAll_cons_mk (shut_string Try.underlying9 w1) (trodAll_cons_mk (shut_string Try.underlying9 w2) trodAll_mk0))), rfl, bel.frame _, fun h => by cases h⟩

theorem over : Rows.checkGoesRow.holds Try.pinned (OpenSpec.ofChange Rows.checkGoesSpec) :=
  OpenClaim.holds_of_wide 4 Try.f4 rfl rfl rfl rfl rfl rfl rfl ⟨rfl, rfl, rfl, rfl, rfl⟩ rfl rfl rfl rfl rfl (by kernel_rfl) Try.func4 (by kernel_rfl)
    (of_decide_eq_true (by kernel_rfl)) (by unfold Func.isWrapper; first | (rw [if_pos (by decide +kernel)]; kernel_rfl) | (rw [if_neg (by decide +kernel)]; exact ⟨rfl, rfl⟩))
    (fun os started H enc _ => lifted os started H enc)

theorem proved : Rows.CheckGoesSaid := over
#print axioms proved
end Go.Proofs.Ythfiojiihjmndaa.checkGoes
