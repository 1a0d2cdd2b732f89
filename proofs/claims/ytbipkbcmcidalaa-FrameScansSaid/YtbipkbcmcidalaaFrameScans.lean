/-
  Proved: for any two texts the law FrameScans returns true: a record's bytes, and the records of any bytes, are as the reference says, or refused. No condition.
-/
import Derived.Test.YtbipkbcmcidalaaRows
import Derived.Test.YtbipkbcmcidalaaFrmAlive
import Derived.Test.YtbipkbcmcidalaaFrmRef
import Derived.Deep.RegionWith
import Derived.Deep.CutRange
import Derived.ShutString
import Derived.ChangeOld
import Derived.SliceStrings
import Derived.Carry
namespace Go.Proofs.Ytbipkbcmcidalaa.frameScans
open Go.ChangeShapes Go.WideShapes Go.ChangeAt Go.RowKit Go.Lib Go.Proofs.Ytbipkbcmcidalaa.Frame
open Go.ChangeMaps (open_string shut_string)
set_option linter.unusedVariables false

theorem own : ownKnob Try.prog.godebug = none := by kernel_rfl

/-- Behind the law's first statement: two texts of few bytes. -/
def Cut1 (w : World) (a b : Value) (wx : World) : Prop := ∃ d t : ByteArray, a = .string d ∧ b = .string t ∧ d.size ≤ 4100 ∧ t.size ≤ 9000 ∧ Below w.heap.size w wx
theorem srow_slice {w : World} {B n : Nat} {e : TypeId} {v : Value} {xs : List Value} (h : w.ownsRow B e 1 v n xs) : ∃ a cap, v = .slice a n cap ∧ n ≤ cap := by
  obtain ⟨_, ⟨rfl, rfl⟩ | ⟨g, cap, _, rfl, _, _, h, _⟩⟩ := h
  · exact ⟨_, _, rfl, Nat.le_refl _⟩
  · exact ⟨_, _, rfl, h⟩
theorem whole_pre {t r : ByteArray} {ls : List ByteArray} (h : Scn t ls r) : (bytesOf ls).size + r.size = t.size ∧ t.extract 0 (bytesOf ls).size = bytesOf ls := by
  have h1 := (scn_bytes h).1
  have h2 := congrArg List.length h1
  rw [List.length_append, size_list, size_list] at h2
  have h3 : (bytesOf ls).size = (frms ls).length := mk_size _
  refine ⟨by omega, same_bytes ?_⟩
  rw [cut_list, h1, h3]
  simp [bytesOf]

set_option maxRecDepth 100000 in
set_option maxHeartbeats 4000000 in
theorem walk0 (d0 t0 : ByteArray) (w : World) (hd0 : d0.size ≤ maxLen) (ht0 : t0.size ≤ maxLen) : Calls Try.prog 3 #[.string d0, .string t0] w (BoolB true w) := by
  unfold maxLen at hd0 ht0
  go_enter Try.func3, Try.ntmps3
  go_upto_region 1 with (fail)
  go_cut [0, 1] from 13 to 22 (fun a b wx => Cut1 w a b wx)
  case first =>
    rcases Nat.lt_or_ge 4100 d0.size with h1 | h1 <;> rcases Nat.lt_or_ge 9000 t0.size with h2 | h2
    all_goals
      go_quiet (fail)
      (try go_wp2_with fail)
      go_meet
    all_goals refine ⟨_, _, rfl, rfl, ?_, ?_, below_drew w _⟩
    all_goals first | omega | (rw [ByteArray.size_extract]; omega)
  case rest =>
    obtain ⟨d, t, rfl, rfl, hd, ht, hbe⟩ := hcut
    have HBE := Lib.hid hbe
    clear hbe hd0 ht0
    obtain ⟨fd, ed, HF, hfe⟩ : ∃ (fd : ByteArray) (ed : Int), Hid (∀ W, Calls Try.prog 6 #[.string d] W (TextI fd ed W)) ∧
        ((d.size ≤ 4096 ∧ ed = 0 ∧ Hid (∀ W, Calls Try.prog 14 #[.string d] W (Text fd W))) ∨ (4096 < d.size ∧ ed = 3 ∧ fd = ByteArray.empty)) := by
      by_cases h : d.size ≤ 4096
      · exact ⟨_, _, fun W => Frame_yes d W h, .inl ⟨h, rfl, fun W => refFrame_any d W h⟩⟩
      · exact ⟨_, _, fun W => Frame_no d W (by omega) (by unfold maxLen; omega), .inr ⟨by omega, rfl, rfl⟩⟩
    obtain ⟨ls, r, hsc⟩ := scn_some t.size t (Nat.le_refl _)
    have hsb := scn_bytes hsc
    have hwp := whole_pre hsc
    have HSC := Lib.hid (fun W => Scan_scn hsc (by omega) W)
    have HAL := Lib.hid (fun W => All_scn hsc (by omega) W)
    have HRS := Lib.hid (fun W => refScan_any hsc (by omega) W)
    have hfl : (frms ls).length ≤ 1000000 := by
      have := hwp.1
      rw [bytesOf, mk_size] at this; omega
    have HWH := Lib.hid (fun (v : Value) (W : World) (h : SRow W v ls) => Whole_any h hsb.2.1 hfl (by omega))
    have HHP := Lib.hid (fun W => HasPrefix_yes hwp.2 (by omega) W)
    have hws := hwp.1
    have hll : ls.length ≤ 1000000 := by omega
    have HFE := Lib.hid hfe
    clear hfe hsb hwp hfl hsc
    have hn : (t.size : Int) - r.size = ((bytesOf ls).size : Int) := by omega
    rw [hn] at HSC
    clear hn
    obtain ⟨la, ea, HALE, hla⟩ : ∃ (la : List ByteArray) (ea : Int), Hid (∀ W, Calls Try.prog 8 #[.string t] W (RowN la ea W)) ∧ ((r.size = 0 ∧ la = ls ∧ ea = 0) ∨ (¬ r.size = 0 ∧ la = [] ∧ ea = 6)) := by
      refine ⟨_, _, HAL, ?_⟩
      by_cases h : r.size = 0
      · rw [if_pos h, if_pos h]; exact .inl ⟨h, rfl, rfl⟩
      · rw [if_neg h, if_neg h]; exact .inr ⟨h, rfl, rfl⟩
    have HLA := Lib.hid hla
    clear hla HAL
    generalize bytesOf ls = b at HSC HWH HHP hws
    go_wp2_with fail
    refine (HF.out _).mono ?_
    rintro e x1 ⟨rfl, hx1⟩
    have HB1 := Lib.hid (below_trans HBE.out hx1)
    clear hx1 HBE HF
    go_wp2_with fail
    refine (HSC.out _).mono ?_
    rintro e x2 ⟨v2, rfl, ho2, _, hx2⟩
    have HB2 := Lib.hid (below_trans HB1.out hx2)
    have HA2 := Lib.hid (srow_of_own ho2)
    obtain ⟨a2, cap2, rfl, _⟩ := srow_slice ho2
    clear ho2 hx2 HB1 HSC
    go_wp2_with fail
    refine (HALE.out _).mono ?_
    rintro e x3 ⟨v3, rfl, ho3, _, hx3⟩
    have HB3 := Lib.hid (below_trans HB2.out hx3)
    have HA3 := Lib.hid (srow_below HA2.out hx3)
    have HM3 := Lib.hid (srow_of_own ho3)
    obtain ⟨a3, cap3, rfl, _⟩ := srow_slice ho3
    clear ho3 hx3 HB2 HA2 HALE
    go_wp2_with fail
    refine (HRS.out _).mono ?_
    rintro e x4 ⟨v4, rfl, ho4, hx4⟩
    have HB4 := Lib.hid (below_trans HB3.out hx4)
    have HA4 := Lib.hid (srow_below HA3.out hx4)
    have HM4 := Lib.hid (srow_below HM3.out hx4)
    have HW4 := Lib.hid (srow_of_own ho4)
    obtain ⟨a4, cap4, rfl, _⟩ := srow_slice ho4
    clear ho4 hx4 HB3 HA3 HM3 HRS
    go_wp2_with fail
    refine (HWH.out _ _ HW4.out).mono ?_
    rintro e x5 ⟨rfl, hx5⟩
    have HB5 := Lib.hid (below_trans HB4.out hx5)
    have HA5 := Lib.hid (srow_below HA4.out hx5)
    have HM5 := Lib.hid (srow_below HM4.out hx5)
    have HW5 := Lib.hid (srow_below HW4.out hx5)
    clear hx5 HB4 HA4 HM4 HW4 HWH
    go_wp2_with fail
    refine (Same_yes HA5.out HW5.out hll).mono ?_
    rintro e x6 ⟨rfl, hx6⟩
    have HB6 := Lib.hid (below_trans HB5.out hx6)
    have HM6 := Lib.hid (srow_below HM5.out hx6)
    have HW6 := Lib.hid (srow_below HW5.out hx6)
    clear hx6 HB5 HA5 HM5 HW5
    go_wp2_with fail
    refine (HHP.out _).mono ?_
    rintro e x7 ⟨rfl, hx7⟩
    have HB7 := Lib.hid (below_trans HB6.out hx7)
    have HM7 := Lib.hid (srow_below HM6.out hx7)
    have HW7 := Lib.hid (srow_below HW6.out hx7)
    clear hx7 HB6 HM6 HW6
    go_wp2_with fail
    refine (alive_any _).mono ?_
    rintro e x8 ⟨rfl, hx8⟩
    have HB8 := Lib.hid (below_trans HB7.out hx8)
    have HM8 := Lib.hid (srow_below HM7.out hx8)
    have HW8 := Lib.hid (srow_below HW7.out hx8)
    clear hx8 HB7 HM7 HW7
    rcases HLA.out with ⟨h0, rfl, rfl⟩ | ⟨h0, rfl, rfl⟩
    · have j1 : ¬ (b.size : Int) < (t.size : Int) := by omega
      have j2 : (b.size : Int) = (t.size : Int) := by omega
      go_wp2_with fail
      refine (Same_yes HM8.out HW8.out hll).mono ?_
      rintro e x9 ⟨rfl, hx9⟩
      have HB9 := Lib.hid (below_trans HB8.out hx9)
      clear hx9 HB8 HM8 HW8
      rcases HFE.out with ⟨h1, rfl, HRF⟩ | ⟨h1, rfl, rfl⟩
      · go_wp2_with fail
        refine (HRF.out _).mono ?_
        rintro e x10 ⟨rfl, hx10⟩
        have HB10 := Lib.hid (below_trans HB9.out hx10)
        clear hx10 HB9
        go_wp2_with fail
        go_ret
        exact ⟨rfl, HB10.out⟩
      · go_wp2_with fail
        go_ret
        exact ⟨rfl, HB9.out⟩
    · have j1 : (b.size : Int) < (t.size : Int) := by omega
      have j2 : ¬ (b.size : Int) = (t.size : Int) := by omega
      rcases HFE.out with ⟨h1, rfl, HRF⟩ | ⟨h1, rfl, rfl⟩
      · go_wp2_with fail
        refine (HRF.out _).mono ?_
        rintro e x10 ⟨rfl, hx10⟩
        have HB10 := Lib.hid (below_trans HB8.out hx10)
        clear hx10 HB8
        go_wp2_with fail
        go_ret
        exact ⟨rfl, HB10.out⟩
      · go_wp2_with fail
        go_ret
        exact ⟨rfl, HB8.out⟩

set_option maxRecDepth 100000 in
theorem lifted (os : Os) (started : os.Started) (H : Type) (enc : TypeId × Value → H) :
    ReturnsInHanded {} Try.checked os 3 .any (Rows.frameScansSpec.pre6 enc Try.prog Try.f3 Rows.frameScansRow.domain false) (Rows.frameScansSpec.post enc Try.prog Try.f3 false true false false) := by
  refine returnsInHanded_of_change (C := Try.checked) own started (by kernel_rfl) Try.func3
    (ChangeSpec.witness6 (enc := enc) (C := Try.checked) false ⟨#[], #[.string ByteArray.empty, .string ByteArray.empty], []⟩ 8 (by kernel_rfl) (by kernel_rfl) (by kernel_rfl) (by kernel_rfl)) ?_
  intro W base args ds gs before hval0 hW hcnd _
  have hval : ∀ (j : Nat) t v, Try.f3.params[j]? = some t → args[j]? = some v → Value.okWide Try.prog W .any base t v := hval0
  have hW' := hW
  obtain ⟨p, q, hA0, hV, rfl, hfz, hnd⟩ := hW
  have hA : DataW.TrodAll enc Try.prog W 0 (fun _ => true) true Try.f3.params.toList args.toList ds p := hA0
  rw [Try.params3] at hA hval
  obtain ⟨v0, vs0, d0, ds0, p0, q0, hargs, rfl, rfl, h0, r0⟩ := trodAll_cons hA
  obtain ⟨v1, vs1, d1, ds1, p1, q1, rfl, rfl, rfl, h1, r1⟩ := trodAll_cons r0
  obtain ⟨rfl, rfl, rfl⟩ := trodAll_nil r1
  obtain rfl : args = #[v0, v1] := by cases args; simp_all
  obtain ⟨rfl, rfl⟩ := trodVars_none hV
  obtain ⟨a0, rfl, rfl, rfl, w0⟩ := open_string Try.underlying9 (hval 0 9 v0 rfl rfl) h0
  obtain ⟨a1, rfl, rfl, rfl, w1⟩ := open_string Try.underlying9 (hval 1 9 v1 rfl rfl) h1
  clear hA0 hval0
  refine (walk0 a0 a1 W w0 w1).mono fun e W' ⟨he, bel⟩ => ?_
  subst he
  exact ⟨_, rfl, _, _, _, [], _, [], hW', trodAll_mk1 (shut_bool Try.underlying4 _), (trodAll_cons_mk (shut_string Try.underlying9 w0) (trodAll_cons_mk (shut_string Try.underlying9 w1) trodAll_mk0)), rfl, bel.frame _, fun h => by cases h⟩

theorem over : Rows.frameScansRow.holds Try.pinned (OpenSpec.ofChange Rows.frameScansSpec) :=
  OpenClaim.holds_of_wide 3 Try.f3 rfl rfl rfl rfl rfl rfl rfl ⟨rfl, rfl, rfl, rfl, rfl⟩ rfl rfl rfl rfl rfl (by kernel_rfl) Try.func3 (by kernel_rfl)
    (of_decide_eq_true (by kernel_rfl)) (by unfold Func.isWrapper; first | (rw [if_pos (by decide +kernel)]; kernel_rfl) | (rw [if_neg (by decide +kernel)]; exact ⟨rfl, rfl⟩))
    (fun os started H enc _ => lifted os started H enc)

theorem proved : Rows.FrameScansSaid := over
#print axioms proved
end Go.Proofs.Ytbipkbcmcidalaa.frameScans
