/-
  Proved: for any disk, places, data, number and tear the law DiskReads returns true: what is read was put last, or was there; a flush changes nothing of it, and behind it a crash changes nothing. No condition.
-/
import Derived.Test.YthoeidgekogfiaaRows
import Derived.Test.YthoeidgekogfiaaDiskArg
import Derived.Test.YthoeidgekogfiaaDiskMath2
import Derived.Test.YthoeidgekogfiaaDiskAlive
import Derived.Test.YthoeidgekogfiaaDiskLike
namespace Go.Proofs.Ythoeidgekogfiaa.diskReads
open Go.ChangeShapes Go.WideShapes Go.ChangeAt Go.RowKit Go.Lib Go.Proofs.Ythoeidgekogfiaa.Disk
open Go.ChangeMaps (open_string shut_string)
set_option linter.unusedVariables false

theorem own : ownKnob Try.prog.godebug = none := by kernel_rfl
theorem laidOut : laidOutB Try.prog = true := by kernel_rfl

/-- Behind the law's first statement: a disk of few sectors and writes, and a text. -/
def Cut1 (w : World) (s : Value) (wx : World) : Prop :=
  ∃ (aS aW : Option Addr) (cap capW : Nat) (ls : List ByteArray) (ws : List (Int × ByteArray)) (d : ByteArray), s = .string d ∧ d.size ≤ 64 ∧ smallP ls ws ∧ DBox w.heap.size (.slice aS ls.length cap) (.slice aW ws.length capW) ls ws wx ∧ Below w.heap.size w wx
theorem small_few {ls : List ByteArray} {ws : List (Int × ByteArray)} (h1 : ls.length ≤ 20) (h2 : ws.length ≤ 66) (h3 : ∀ t ∈ ls, t.size ≤ 66) (h4 : ∀ y ∈ ws, y.2.size ≤ 66) : smallP ls ws :=
  ⟨by omega, by omega, fun j h => by have := h3 _ (List.getElem_mem h); omega, fun j h => by have := h4 _ (List.getElem_mem h); omega⟩
/-- few's answer, stored where the disk came in. -/
theorem few_stored {w x : World} {vS vW uS uW : Value} {ls : List ByteArray} {ws : List (Int × ByteArray)} (hx : Below (w.alloc (.cells #[vS, vW] 25)).drew.heap.size (w.alloc (.cells #[vS, vW] 25)).drew x)
    (hS : SRow x uS ls ∧ From (w.alloc (.cells #[vS, vW] 25)).drew.heap.size uS) (hW : WRow x uW ws ∧ From (w.alloc (.cells #[vS, vW] 25)).drew.heap.size uW) :
    Box2 w.heap.size vS vW x ∧ DBox w.heap.size uS uW ls ws ((x.setCell ⟨w.heap.size, 0, none⟩ uS).setCell ⟨w.heap.size, 1, none⟩ uW) ∧ Below w.heap.size w ((x.setCell ⟨w.heap.size, 0, none⟩ uS).setCell ⟨w.heap.size, 1, none⟩ uW) := by
  have h1 : Below (w.alloc (.cells #[vS, vW] 25)).heap.size (w.alloc (.cells #[vS, vW] 25)) x := below_trans ((Below.refl _ _).drew) hx
  have e : (w.alloc (.cells #[vS, vW] 25)).drew.heap.size = w.heap.size + 1 := by show (w.alloc _).heap.size = _; simp
  rw [e] at hS hW
  have hb := (Box2.made w vS vW 25).below h1
  exact ⟨hb, DBox.store hb hS hW, below_set2 (below_trans (al w _) h1) (Nat.le_refl _)⟩

/-- At the head of a loop that only reads what lay when it began. -/
def At1 (z : World) (n : Nat) (i : Value) (wr : World) : Prop := ∃ k : Nat, k ≤ n ∧ i = .int .i64 k ∧ Below z.heap.size z wr
theorem putE_zero {n m : Nat} {i : Int} {s : Nat} (h : putE n m i s = 0) (hm : m ≤ 64) : hasB n i = true ∧ s = 64 ∧ m < 64 := by
  unfold putE at h
  split at h
  · cases h
  · rename_i h1
    split at h
    · cases h
    · rename_i h2
      split at h
      · cases h
      · rename_i h3
        exact ⟨by simpa using h1, by omega, by omega⟩

set_option maxRecDepth 100000 in
set_option maxHeartbeats 4000000 in
theorem walk0 (vS vW : Value) (i k : Int) (s : ByteArray) (hs : s.size ≤ maxLen) (kp : Nat) (hkp : kp < 18446744073709551616) (t : Int) (w : World) (hS : ArgS w vS) (hW : ArgW w vW) : Calls Try.prog 4 #[.agg #[vS, vW], .int .i64 i, .int .i64 k, .string s, .int .u64 kp, .int .i64 t] w (BoolB true w) := by
  unfold maxLen at hs
  have HFE := Lib.hid (fun o => few_any (ArgS.below hS (below_trans (al w o) ((Below.refl _ _).drew))) (ArgW.below hW (below_trans (al w o) ((Below.refl _ _).drew))))
  obtain ⟨aS, len, cap, rfl, _⟩ := hS
  obtain ⟨aW, lenW, capW, rfl, _⟩ := hW
  go_enter Try.func4, Try.ntmps4
  go_upto_region 1 with (fail)
  go_cut [3] from 29 to 35 (fun s wx => Cut1 w s wx)
  case first =>
    obtain ⟨q, hq, hqs, hq64⟩ : ∃ q : Nat, min (s.size : Int) 64 = q ∧ q ≤ s.size ∧ q ≤ 64 := ⟨min s.size 64, by omega, by omega, by omega⟩
    have i0 : (0 : Int) ≤ (q : Int) := by omega
    have i1 : (q : Int) ≤ (s.size : Int) := by omega
    have i2 : ¬ (q : Int) < 0 := by omega
    have i3 : ¬ (s.size : Int) < (q : Int) := by omega
    go_region_with (go_at_call 6; (with_reducible refine (HFE.out _).mono ?_); rintro e x ⟨uS, uW, ls, ws, rfl, h1, h2, h3, h4, hS, hW, hx⟩; have HST := Lib.hid (few_stored hx hS hW); have HSM := Lib.hid (small_few h1 h2 h3 h4); obtain ⟨aS', cap', rfl⟩ := hS.1.slice; obtain ⟨aW', capW', rfl⟩ := hW.1.slice; obtain ⟨q0, q1, q2, q3, q4⟩ := HST.out.1; clear hS hW hx h3 h4)
    all_goals (try go_wp2_with fail)
    all_goals go_meet
    all_goals exact ⟨aS', aW', cap', capW', ls, ws, s.extract 0 q, rfl, by rw [ByteArray.size_extract]; omega, HSM.out, HST.out.2.1, HST.out.2.2⟩
  case rest =>
    clear HFE hs
    obtain ⟨aS', aW', cap', capW', ls, ws, d, rfl, hd, hsm, hDB, hbe⟩ := hcut
    have HDB := Lib.hid hDB
    have HBE := Lib.hid hbe
    have HSM := Lib.hid hsm
    obtain ⟨⟨b0, b1, b2, b3, b4⟩, _, _⟩ := hDB
    clear hbe hsm
    go_wp2_with fail
    by_cases hb : rightB ls ws = true
    case neg =>
      refine (Put_bad HDB.out.2.1 HDB.out.2.2 HSM.out (Bool.eq_false_iff.2 hb) i d).mono ?_
      rintro e y ⟨cS, cW, rfl, hS, hW, hy⟩
      have HBY := Lib.hid (below_trans HBE.out hy)
      obtain ⟨aS2, cap2, rfl⟩ := hS.1.slice
      obtain ⟨aW2, capW2, rfl⟩ := hW.1.slice
      clear hS hW hy
      go_wp2_with fail
      refine (alive_any _).mono ?_
      rintro e z ⟨rfl, hz⟩
      have HBZ := Lib.hid (below_trans (below_trans HBY.out (al y _)) hz)
      clear hz
      go_wp2_with fail
      go_ret
      exact ⟨rfl, HBZ.out⟩
    by_cases hpe : putE ls.length ws.length i d.size = 0
    case neg =>
      have hne : (putE ls.length ws.length i d.size != 0) = true := by simpa using hpe
      refine (Put_no HDB.out.2.1 HDB.out.2.2 HSM.out hb i d hpe).mono ?_
      clear hpe
      rintro e y ⟨cS, cW, rfl, hS, hW, hy⟩
      generalize putE ls.length ws.length i d.size = pe at hne ⊢
      have HBY := Lib.hid (below_trans HBE.out hy)
      obtain ⟨aS2, cap2, rfl⟩ := hS.1.slice
      obtain ⟨aW2, capW2, rfl⟩ := hW.1.slice
      clear hS hW hy
      go_wp2_with fail
      refine (alive_any _).mono ?_
      rintro e z ⟨rfl, hz⟩
      have HBZ := Lib.hid (below_trans (below_trans HBY.out (al y _)) hz)
      clear hz
      go_wp2_with fail
      go_ret
      exact ⟨rfl, HBZ.out⟩
    obtain ⟨hhi, hd64, hw64⟩ := putE_zero hpe (rightB_t.1 hb).2.2.1
    have HR2 := Lib.hid (put_right hb hhi hd64 hw64)
    have HHI := Lib.hid hhi
    have HHB := Lib.hid hb
    have HLW : Hid (ws.length < 64) := hw64
    have HLS := Lib.hid (rightB_t.1 hb).2.1
    refine (Put_yes HDB.out.2.1 HDB.out.2.2 hb i d hhi hd64 hw64).mono ?_
    clear hpe hhi hb hw64
    rintro e y ⟨cS, cW, rfl, hS, hW, hy⟩
    obtain ⟨aS2, cap2, rfl⟩ := hS.1.slice
    obtain ⟨aW2, capW2, e2⟩ := hW.1.slice
    rw [List.length_append, List.length_singleton] at e2
    subst e2
    have HDY := Lib.hid ((HDB.out.below hy).below (al y (.cells #[.slice aS2 ls.length cap2, .slice aW2 (ws.length + 1) capW2] 25)))
    have HAY := Lib.hid (DBox.made (uS := .slice aS2 ls.length cap2) (uW := .slice aW2 (ws.length + 1) capW2) (l := ls) (m := ws ++ [(i, d)]) hS.1 hW.1)
    have HBY := Lib.hid (below_trans (below_trans HBE.out hy) (al y (.cells #[.slice aS2 ls.length cap2, .slice aW2 (ws.length + 1) capW2] 25)))
    clear hS hW hy b0 b1 b2 b3 b4 HDB HBE
    have HG1 := Lib.hid (Get_any HAY.out.2.1 HAY.out.2.2 HR2.out i)
    rw [get_same HHI.out, show getE ls.length i = 0 from if_pos HHI.out] at HG1
    go_wp2_with fail
    refine HG1.out.mono ?_
    rintro e z ⟨rfl, hz⟩
    have HDZ := Lib.hid (HDY.out.below hz)
    have HAZ := Lib.hid (HAY.out.below hz)
    have HBZ := Lib.hid (below_trans HBY.out hz)
    generalize y.heap.size = ab at HAZ ⊢
    clear hz HDY HAY HBY HG1
    obtain ⟨⟨b0, b1, b2, b3, b4⟩, _, _⟩ := HAZ.out
    go_wp2_with fail
    refine (Flush_yes HAZ.out.2.1 HAZ.out.2.2 HR2.out).mono ?_
    rintro e y ⟨cS, cW, rfl, hS, hW, hy⟩
    change (SRow y cS (flushL ls (ws ++ [(i, d)])) ∧ _) at hS
    have hfl := flush_len ls (ws ++ [(i, d)])
    obtain ⟨aS3, cap3, e3⟩ := hS.1.slice
    rw [hfl] at e3
    subst e3
    obtain ⟨aW3, capW3, rfl⟩ := hW.1.slice
    have HDY := Lib.hid ((HDZ.out.below hy).below (al y (.cells #[.slice aS3 ls.length cap3, .slice aW3 0 capW3] 25)))
    have HAY := Lib.hid ((HAZ.out.below hy).below (al y (.cells #[.slice aS3 ls.length cap3, .slice aW3 0 capW3] 25)))
    have HFY := Lib.hid (DBox.made (uS := .slice aS3 ls.length cap3) (uW := .slice aW3 0 capW3) (l := flushL ls (ws ++ [(i, d)])) (m := []) hS.1 hW.1)
    have HBY := Lib.hid (below_trans (below_trans HBZ.out hy) (al y (.cells #[.slice aS3 ls.length cap3, .slice aW3 0 capW3] 25)))
    have HGF := Lib.hid (fun k => get_flush HR2.out k)
    have HRF : Hid (rightB (flushL ls (ws ++ [(i, d)])) [] = true) := crash_right HR2.out
    have HFL := Lib.hid hfl
    clear hS hW hy b0 b1 b2 b3 b4 HDZ HAZ HBZ hfl
    generalize flushL ls (ws ++ [(i, d)]) = F at HFY HGF HRF HFL
    go_wp2_with fail
    refine (Crash_yes HFY.out.2.1 HFY.out.2.2 HRF.out kp hkp t).mono ?_
    rintro e z ⟨cS, cW, rfl, hS, hW, hz⟩
    rw [crash_nil] at hS
    obtain ⟨aS4, cap4, e4⟩ := hS.1.slice
    rw [HFL.out] at e4
    subst e4
    obtain ⟨aW4, capW4, rfl⟩ := hW.1.slice
    have HDZ := Lib.hid ((HDY.out.below hz).below (al z (.cells #[.slice aS4 ls.length cap4, .slice aW4 0 capW4] 25)))
    have HAZ := Lib.hid ((HAY.out.below hz).below (al z (.cells #[.slice aS4 ls.length cap4, .slice aW4 0 capW4] 25)))
    have HFZ := Lib.hid ((HFY.out.below hz).below (al z (.cells #[.slice aS4 ls.length cap4, .slice aW4 0 capW4] 25)))
    have HCZ := Lib.hid (DBox.made (uS := .slice aS4 ls.length cap4) (uW := .slice aW4 0 capW4) (l := F) (m := []) hS.1 hW.1)
    have HBZ := Lib.hid (below_trans (below_trans HBY.out hz) (al z (.cells #[.slice aS4 ls.length cap4, .slice aW4 0 capW4] 25)))
    obtain ⟨⟨b0, b1, b2, b3, b4⟩, _, _⟩ := HFY.out.below hz
    generalize y.heap.size = fb at HFZ b0 b1 b2 b3 b4 ⊢
    clear hS hW hz HDY HAY HFY HBY
    have HLK := Lib.hid (Like_yes HFZ.out.2.1 HFZ.out.2.2 HCZ.out.2.1 HCZ.out.2.2 (by rw [HFL.out]; have := HLS.out; omega) (by simp))
    go_wp2_with fail
    refine HLK.out.mono ?_
    rintro e x ⟨rfl, hx⟩
    have HDX := Lib.hid (HDZ.out.below hx)
    have HAX := Lib.hid (HAZ.out.below hx)
    have HFX := Lib.hid (HFZ.out.below hx)
    have HBX := Lib.hid (below_trans HBZ.out hx)
    clear hx HDZ HAZ HFZ HCZ HBZ HLK b0 b1 b2 b3 b4
    generalize z.heap.size = cb
    go_wp2_with fail
    refine (alive_any _).mono ?_
    rintro e z ⟨rfl, hz⟩
    have HDZ := Lib.hid (HDX.out.below hz)
    have HAZ := Lib.hid (HAX.out.below hz)
    have HFZ := Lib.hid (HFX.out.below hz)
    have HBZ := Lib.hid (below_trans HBX.out hz)
    clear hz HDX HAX HFX HBX
    go_wp2_with fail
    have hpair := Box2.made z (.int .i64 i) (.int .i64 k) 3
    have HDY := Lib.hid (HDZ.out.below (al z (.cells #[.int .i64 i, .int .i64 k] 3)))
    have HAY := Lib.hid (HAZ.out.below (al z (.cells #[.int .i64 i, .int .i64 k] 3)))
    have HFY := Lib.hid (HFZ.out.below (al z (.cells #[.int .i64 i, .int .i64 k] 3)))
    have HBY := Lib.hid (below_trans HBZ.out (al z (.cells #[.int .i64 i, .int .i64 k] 3)))
    have HPY := Lib.hid hpair
    clear HDZ HAZ HFZ HBZ hpair
    generalize z.alloc (.cells #[.int .i64 i, .int .i64 k] 3) = Y at HDY HAY HFY HBY HPY ⊢
    generalize z.heap.size = pb at HPY ⊢
    go_loopw [93] (fun i wr => At1 Y 2 i wr) (fun i _ => 2 - (RowKit.intOf i).toNat)
    case atStart => exact ⟨0, Nat.zero_le _, rfl, Below.refl _ _⟩
    case round =>
      obtain ⟨j, hj, rfl, hbe⟩ := hrel
      have HBW := Lib.hid (below_trans HBY.out hbe)
      have HDW := Lib.hid (HDY.out.below hbe)
      have HAW := Lib.hid (HAY.out.below hbe)
      have HFW := Lib.hid (HFY.out.below hbe)
      have HBE := Lib.hid hbe
      obtain ⟨p0, p1, p2, p3, p4⟩ := HPY.out.below hbe
      clear hbe
      by_cases hlt : j < 2
      case neg =>
        go_wp2_with fail
        go_ret
        exact ⟨rfl, HBW.out⟩
      obtain ⟨kk, hkk⟩ : ∃ kk : Int, wr.cell? ⟨pb, j, none⟩ = some (.int .i64 kk) := by
        match j, hlt with
        | 0, _ => exact ⟨i, p1⟩
        | 1, _ => exact ⟨k, p2⟩
      clear p1 p2 p3 p4
      obtain ⟨⟨b0, b1, b2, b3, b4⟩, _, _⟩ := HAW.out
      have HG1 := Lib.hid (fun W (h : Below wr.heap.size wr W) => Get_any (HAW.out.2.1.below h) (HAW.out.2.2.below h) HR2.out kk)
      have HG2 := Lib.hid (fun W (h : Below wr.heap.size wr W) => Get_any (HFW.out.2.1.below h) (HFW.out.2.2.below h) HRF.out kk)
      have HG3 := Lib.hid (fun W (h : Below wr.heap.size wr W) => Get_any (HDW.out.2.1.below h) (HDW.out.2.2.below h) HHB.out kk)
      rw [(HGF.out kk).1, (HGF.out kk).2] at HG2
      have HOT : Hid (kk ≠ i → getS ls (ws ++ [(i, d)]) kk = getS ls ws kk) := fun h => get_other h
      generalize getS ls (ws ++ [(i, d)]) kk = s1 at HG1 HG2 HOT
      generalize getS ls ws kk = s3 at HG3 HOT
      generalize getE ls.length kk = ee at HG1 HG2 HG3
      go_wp2_with fail
      refine (HG1.out _ (Below.refl _ _)).mono ?_
      rintro e x1 ⟨rfl, hx1⟩
      have HX1 := Lib.hid hx1
      clear hx1 b0 b1 b2 b3 b4 hkk
      obtain ⟨⟨b0, b1, b2, b3, b4⟩, _, _⟩ := HFW.out.below HX1.out
      go_wp2_with fail
      refine (HG2.out _ HX1.out).mono ?_
      rintro e x2 ⟨rfl, hx2⟩
      have HX2 := Lib.hid (below_trans HX1.out hx2)
      clear hx2 b0 b1 b2 b3 b4
      obtain ⟨⟨b0, b1, b2, b3, b4⟩, _, _⟩ := HDW.out.below HX2.out
      go_wp2_with fail
      refine (HG3.out _ HX2.out).mono ?_
      rintro e x3 ⟨rfl, hx3⟩
      have HX3 := Lib.hid (below_trans HBE.out (below_trans HX2.out hx3))
      clear hx3 b0 b1 b2 b3 b4 HG1 HG2 HG3
      by_cases hki : kk = i
      · subst hki
        go_wp2_with fail
        go_roundw
        case rel => exact ⟨j + 1, by omega, by go_num, HX3.out⟩
        case measure => simp [RowKit.intOf]; omega
      · obtain rfl := HOT.out hki
        go_wp2_with fail
        go_roundw
        case rel => exact ⟨j + 1, by omega, by go_num, HX3.out⟩
        case measure => simp [RowKit.intOf]; omega

set_option maxRecDepth 100000 in
theorem lifted (os : Os) (started : os.Started) (H : Type) (enc : TypeId × Value → H) :
    ReturnsInHanded {} Try.checked os 4 .any (Rows.diskReadsSpec.pre6 enc Try.prog Try.f4 Rows.diskReadsRow.domain false) (Rows.diskReadsSpec.post enc Try.prog Try.f4 false true false false) := by
  refine returnsInHanded_of_change (C := Try.checked) own started (by kernel_rfl) Try.func4
    (ChangeSpec.witness6 (enc := enc) (C := Try.checked) false ⟨#[], #[.agg #[.slice none 0 0, .slice none 0 0], .int .i64 0, .int .i64 0, .string ByteArray.empty, .int .u64 0, .int .i64 0], []⟩ 8 (by kernel_rfl) (by kernel_rfl) (by kernel_rfl) (by kernel_rfl)) ?_
  intro W base args ds gs before hval0 hW hcnd _
  have hval : ∀ (j : Nat) t v, Try.f4.params[j]? = some t → args[j]? = some v → Value.okWide Try.prog W .any base t v := hval0
  have hW' := hW
  obtain ⟨p, q, hA0, hV, rfl, hfz, hnd⟩ := hW
  have hA : DataW.TrodAll enc Try.prog W 0 (fun _ => true) true Try.f4.params.toList args.toList ds p := hA0
  rw [Try.params4] at hA hval
  obtain ⟨v0, vs0, d0, ds0, p0, q0, hargs, rfl, rfl, h0, r0⟩ := trodAll_cons hA
  obtain ⟨v1, vs1, d1, ds1, p1, q1, rfl, rfl, rfl, h1, r1⟩ := trodAll_cons r0
  obtain ⟨v2, vs2, d2, ds2, p2, q2, rfl, rfl, rfl, h2, r2⟩ := trodAll_cons r1
  obtain ⟨v3, vs3, d3, ds3, p3, q3, rfl, rfl, rfl, h3, r3⟩ := trodAll_cons r2
  obtain ⟨v4, vs4, d4, ds4, p4, q4, rfl, rfl, rfl, h4, r4⟩ := trodAll_cons r3
  obtain ⟨v5, vs5, d5, ds5, p5, q5, rfl, rfl, rfl, h5, r5⟩ := trodAll_cons r4
  obtain ⟨rfl, rfl, rfl⟩ := trodAll_nil r5
  obtain rfl : args = #[v0, v1, v2, v3, v4, v5] := by cases args; simp_all
  obtain ⟨rfl, rfl⟩ := trodVars_none hV
  have k0 := h0
  have lt0 : ∀ x ∈ p0, x.block < W.heap.size := by obtain ⟨m, hm⟩ := k0; exact DataW.trod_lt m _ _ _ hm
  obtain ⟨fuel, hf⟩ := h0
  obtain ⟨vS, vW, rfl, w0, w0'⟩ := open_disk (hval 0 25 v0 rfl rfl) hf
  obtain ⟨a1, rfl, rfl, rfl, w1⟩ := open_int Try.underlying3 (hval 1 3 v1 rfl rfl) h1
  obtain ⟨a2, rfl, rfl, rfl, w2⟩ := open_int Try.underlying3 (hval 2 3 v2 rfl rfl) h2
  obtain ⟨a3, rfl, rfl, rfl, w3⟩ := open_string Try.underlying9 (hval 3 9 v3 rfl rfl) h3
  obtain ⟨a4, rfl, rfl, rfl, w4⟩ := open_int Try.underlying26 (hval 4 26 v4 rfl rfl) h4
  obtain ⟨a5, rfl, rfl, rfl, w5⟩ := open_int Try.underlying3 (hval 5 3 v5 rfl rfl) h5
  have hb4 : 0 ≤ a4 ∧ a4 < 18446744073709551616 := by
    have := w4
    simp [Lit.wf, IntKind.min, IntKind.max, IntKind.bits, IntKind.signed] at this
    omega
  obtain ⟨n4, rfl⟩ : ∃ n : Nat, a4 = n := ⟨a4.toNat, by omega⟩
  clear hA0 hval0 hf
  refine (walk0 vS vW a1 a2 a3 w3 n4 (by omega) a5 W w0 w0').mono fun e W' ⟨he, bel⟩ => ?_
  subst he
  exact ⟨_, rfl, _, _, _, [], _, [], hW', trodAll_mk1 (shut_bool Try.underlying4 _), (trodAll_cons_mk (Below.trod laidOut (by kernel_rfl) (of_decide_eq_true (by kernel_rfl)) k0 bel lt0) (trodAll_cons_mk (shut_int Try.underlying3 w1) (trodAll_cons_mk (shut_int Try.underlying3 w2) (trodAll_cons_mk (shut_string Try.underlying9 w3) (trodAll_cons_mk (shut_int Try.underlying26 w4) (trodAll_cons_mk (shut_int Try.underlying3 w5) trodAll_mk0)))))), rfl, bel.frame _, fun h => by cases h⟩

theorem over : Rows.diskReadsRow.holds Try.pinned (OpenSpec.ofChange Rows.diskReadsSpec) :=
  OpenClaim.holds_of_wide 4 Try.f4 rfl rfl rfl rfl rfl rfl rfl ⟨rfl, rfl, rfl, rfl, rfl⟩ rfl rfl rfl rfl rfl (by kernel_rfl) Try.func4 (by kernel_rfl)
    (of_decide_eq_true (by kernel_rfl)) (by unfold Func.isWrapper; first | (rw [if_pos (by decide +kernel)]; kernel_rfl) | (rw [if_neg (by decide +kernel)]; exact ⟨rfl, rfl⟩))
    (fun os started H enc _ => lifted os started H enc)

theorem proved : Rows.DiskReadsSaid := over
#print axioms proved
end Go.Proofs.Ythoeidgekogfiaa.diskReads
