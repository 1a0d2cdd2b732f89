/-
  Proved: for any number of 32 bits and any text the law CheckSums returns true: the check, on from any other one, its bytes, and the table are as the reference says. No condition.
-/
import Derived.Test.YthfiojiihjmndaaRows
import Derived.Test.YthfiojiihjmndaaAliveCrc
import Derived.Test.YthfiojiihjmndaaBytes
import Derived.ShutString
import Derived.ChangeOld
import Derived.Deep.QuietTactic
import Derived.BigQuiet
namespace Go.Proofs.Ythfiojiihjmndaa.checkSums
open Go.ChangeShapes Go.WideShapes Go.ChangeAt Go.RowKit Go.Lib Go.Proofs.Ythfiojiihjmndaa.Crc
set_option linter.unusedVariables false
open Go.ChangeMaps (open_string shut_string)

theorem own : ownKnob Try.prog.godebug = none := by kernel_rfl

set_option maxRecDepth 100000 in
set_option maxHeartbeats 2000000 in
theorem walk (c : Nat) (hc : c < 4294967296) (s : ByteArray) (hs : s.size ≤ maxLen) (w : World) : Calls Try.prog 3 #[.int .u32 c, .string s] w (BoolB true w) := by
  unfold maxLen at hs
  obtain ⟨hz, hi⟩ := zero_of_info info23
  have HI := Lib.hid hi
  rw [← tabN_zero] at hz
  have HZ := Lib.hid hz
  obtain ⟨T, HT, HS, HS0, H1, HC⟩ : ∃ T : Array Value, Hid (tabN 256 = T) ∧ Hid (T.size = 256) ∧ Hid ((tabN 0).size = T.size) ∧ Hid (T.all (·.oneCell') = true) ∧ Hid (∀ j, j < 256 → T[j]? = some (.int .u32 (off 8 j : Nat))) :=
    ⟨tabN 256, rfl, tabN_size _, by unfold Hid; rw [tabN_size, tabN_size], tabN_one _, fun j hj => tabN_at 256 j hj hj⟩
  generalize tabN 0 = Z at HZ HS0
  clear hi hz
  have hz := HZ.out
  have HSZ := Lib.hid hs
  rcases Nat.lt_or_ge 400 s.size with h4 | h4
  all_goals
    go_enter Try.func3, Try.ntmps3
    go_wp2_with (first
      | (go_at_call 7; refine (Table_any _).mono ?_; rintro e w1 ⟨rfl, hb⟩; rw [HT.out])
      | (refine wpList_store_row rfl 23 _ _ rfl w1.heap.size T rfl rfl 23 Z (heap_alloc_new _ _) (by rw [HS.out]; exact HI.out) HS0.out H1.out ?_))
    rw [World.setRow_alloc_new]
    first
      | (obtain ⟨t, ht, HL⟩ : ∃ t : ByteArray, s.extract 0 400 = t ∧ Hid (t.size ≤ maxLen) := ⟨_, rfl, by unfold Hid maxLen; simp; omega⟩
         rw [ht])
      | (obtain ⟨t, ht, HL⟩ : ∃ t : ByteArray, s = t ∧ Hid (t.size ≤ maxLen) := ⟨_, rfl, HSZ.out⟩
         rw [ht])
    clear ht hs HSZ h4 hz
    go_loopw [13] (fun i wr => ∃ k : Nat, k ≤ 256 ∧ i = .int .u32 k ∧ Hid (∀ j, j < 256 → wr.cell? ⟨w1.heap.size, j, none⟩ = some (.int .u32 (off 8 j : Nat))) ∧ Hid (Below w.heap.size w wr)) (fun i _ => 256 - (intOf i).toNat)
    case atStart => exact ⟨0, Nat.zero_le _, rfl, fun j hj => by rw [cell_of_row _ _ j T _ _ (heap_alloc_new _ _)]; exact HC.out j hj, hb.alloc hb.size _⟩
    case round =>
      obtain ⟨k, hk, rfl, HW, HB⟩ := hrel
      by_cases hlt : k < 256
      · have hcell := HW.out k hlt
        have HR : Hid (∀ W : World, Calls Try.prog 8 #[.int .u32 (k : Int)] W fun e w' => e = .returned (.int .u32 (off 8 k : Nat)) ∧ w' = W) := fun W => (refOff_any k (by omega) W).mono fun e w' h => ⟨h.1, h.2.symm⟩
        generalize off 8 k = y at hcell HR
        go_wp2
        go_quiet ((go_at_call 8; exact Calls.quiet_of_same (HR.out _)))
        go_wp2
        go_roundw
        case rel => exact ⟨k + 1, by omega, by go_num, fun j hj => HW.out j hj, ⟨HB.out.os, HB.out.tape, HB.out.output, HB.out.size, HB.out.block⟩⟩
        case measure => simp [intOf]; omega
      · clear HW
        go_wp2_with fail
        refine (alive_any _).mono ?_
        rintro e x1 ⟨rfl, hb1⟩
        have HB1 := Lib.hid hb1
        clear hb1
        go_wp2_with fail
        refine (Of_any t HL.out _).mono ?_
        rintro e x2 ⟨rfl, hb2⟩
        have HB2 := Lib.hid hb2
        clear hb2
        go_wp2_with fail
        refine (refOf_any t HL.out _).mono ?_
        rintro e x3 ⟨rfl, rfl⟩
        go_wp2_with fail
        refine (On_any c hc t HL.out _).mono ?_
        rintro e x4 ⟨rfl, hb4⟩
        have HB4 := Lib.hid hb4
        clear hb4
        go_wp2_with fail
        refine (refOn_any c hc t HL.out _).mono ?_
        rintro e x5 ⟨rfl, rfl⟩
        go_wp2_with fail
        refine (Bytes_any c hc _).mono ?_
        rintro e x6 ⟨rfl, hb6⟩
        have HB6 := Lib.hid hb6
        clear hb6
        go_wp2_with fail
        refine (refBytes_any c hc _).mono ?_
        rintro e x7 ⟨rfl, hb7⟩
        have HB7 := Lib.hid hb7
        clear hb7
        go_wp2_with fail
        go_ret
        exact ⟨rfl, below_trans (below_trans (below_trans (below_trans (below_trans HB.out HB1.out) HB2.out) HB4.out) HB6.out) HB7.out⟩

theorem lifted (os : Os) (started : os.Started) (H : Type) (enc : TypeId × Value → H) :
    ReturnsInHanded {} Try.checked os 3 .any (Rows.checkSumsSpec.pre6 enc Try.prog Try.f3 Rows.checkSumsRow.domain false) (Rows.checkSumsSpec.post enc Try.prog Try.f3 false true false false) := by
  refine returnsInHanded_of_change (C := Try.checked) own started (by kernel_rfl) Try.func3
    (ChangeSpec.witness6 (enc := enc) (C := Try.checked) false ⟨#[], #[.int .u32 0, .string ByteArray.empty], []⟩ 8 (by kernel_rfl) (by kernel_rfl) (by kernel_rfl) (by kernel_rfl)) ?_
  intro W base args ds gs before hval0 hW hcnd _
  have hval : ∀ (j : Nat) t v, Try.f3.params[j]? = some t → args[j]? = some v → Value.okWide Try.prog W .any base t v := hval0
  have hW' := hW
  obtain ⟨p, q, hA0, hV, rfl, hfz, hnd⟩ := hW
  have hA : DataW.TrodAll enc Try.prog W 0 (fun _ => true) true Try.f3.params.toList args.toList ds p := hA0
  rw [Try.params3] at hA hval
  obtain ⟨v0, vs0, d0, ds0, p0, q0, hargs, rfl, rfl, h0, r0⟩ := trodAll_cons hA
  obtain ⟨v1, vs1, d1, ds1, p1, q1, rfl, rfl, rfl, h1, r1⟩ := trodAll_cons r0
  obtain ⟨rfl, rfl, rfl⟩ := trodAll_nil r1
  obtain rfl : args = #[v0, v1] := by cases args; simp_all
  obtain ⟨rfl, rfl⟩ := trodVars_none hV
  obtain ⟨a0, rfl, rfl, rfl, w0⟩ := open_int Try.underlying22 (hval 0 22 v0 rfl rfl) h0
  obtain ⟨a1, rfl, rfl, rfl, w1⟩ := open_string Try.underlying9 (hval 1 9 v1 rfl rfl) h1
  clear hA0 hval0
  obtain ⟨b0, b1⟩ := bounds_u32 w0
  obtain ⟨c, rfl⟩ := Int.eq_ofNat_of_zero_le b0
  refine (walk c (by omega) a1 w1 W).mono fun e W' ⟨he, bel⟩ => ?_
  subst he
  exact ⟨_, rfl, _, _, _, [], [], [], hW', trodAll_mk1 (shut_bool Try.underlying4 _), (trodAll_cons_mk (shut_int Try.underlying22 w0) (trodAll_cons_mk (shut_string Try.underlying9 w1) trodAll_mk0)), rfl, bel.frame _, fun h => by cases h⟩

theorem over : Rows.checkSumsRow.holds Try.pinned (OpenSpec.ofChange Rows.checkSumsSpec) :=
  OpenClaim.holds_of_wide 3 Try.f3 rfl rfl rfl rfl rfl rfl rfl ⟨rfl, rfl, rfl, rfl, rfl⟩ rfl rfl rfl rfl rfl (by kernel_rfl) Try.func3 (by kernel_rfl)
    (of_decide_eq_true (by kernel_rfl)) (by unfold Func.isWrapper; first | (rw [if_pos (by decide +kernel)]; kernel_rfl) | (rw [if_neg (by decide +kernel)]; exact ⟨rfl, rfl⟩))
    (fun os started H enc _ => lifted os started H enc)

theorem proved : Rows.CheckSumsSaid := over
#print axioms proved
end Go.Proofs.Ythfiojiihjmndaa.checkSums
