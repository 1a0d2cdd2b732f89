/-
  Proved: for any journal and data the law JournalSeals returns true: what having any record wait, sealing all that wait, and sealing one instead of all, makes of any journal, is as the document says, or refused. No condition.
-/
import Derived.Test.YtfdpoekgdcklmaaGreatRows
import Derived.Test.YtfdpoekgdcklmaaGreatMx
import Derived.Test.YtfdpoekgdcklmaaGreatMs
namespace Go.Proofs.YtfdpoekgdcklmaaGreat.journalSeals
open Go.ChangeShapes Go.WideShapes Go.ChangeAt Go.RowKit Go.Lib Go.Proofs.YtfdpoekgdcklmaaGreat.Disk Go.Proofs.YtfdpoekgdcklmaaGreat.Disk.Jn
open Go.Proofs.YtfdpoekgdcklmaaGreat.Frame (frm frms)
open Go.ChangeMaps (open_string shut_string)
set_option linter.unusedVariables false

theorem own : ownKnob Tryz.prog.godebug = none := by kernel_rfl
theorem laidOut : laidOutB Tryz.prog = true := by kernel_rfl

/-- Behind the law's first statement. -/
def Cut1 (w : World) (q : Value) (wx : World) : Prop :=
  ∃ (aS aW aG aR : Option Addr) (cS cW cG cR : Nat) (J : JN) (d : ByteArray), q = .string d ∧ d.size ≤ 3002 ∧ JSmall J ∧ J.g.length ≤ 18 ∧
    JB w.heap.size (.slice aS J.ls.length cS) (.slice aW J.ws.length cW) (.slice aG J.g.length cG) (.slice aR J.l.length cR) J wx ∧ Below w.heap.size w wx

set_option maxRecDepth 100000 in
set_option maxHeartbeats 4000000 in
theorem walk0 (vS vW vG vR : Value) (s h u : Int) (d : ByteArray) (hd : d.size ≤ 9223372036854775807) (w : World) (hS : ArgS w vS) (hW : ArgW w vW) (hG : ArgS w vG) (hR : ArgS w vR) :
    Calls Tryz.prog 4 #[jv vS vW s h u vG vR, .string d] w (BoolB true w) := by
  have HFE := Lib.hid (fun W (hb : Below w.heap.size w W) => few_any (s := s) (h := h) (u := u) (hS.below hb) (hW.below hb) (hG.below hb) (hR.below hb))
  obtain ⟨aS, nS, cS, rfl⟩ := argS_slice hS
  obtain ⟨aW, nW, cW, rfl⟩ := argW_slice hW
  obtain ⟨aG, nG, cG, rfl⟩ := argS_slice hG
  obtain ⟨aR, nR, cR, rfl⟩ := argS_slice hR
  have HB0 := Lib.hid (al w (.cells #[.slice aS nS cS, .slice aW nW cW, .int .i64 s, .int .i64 h, .int .i64 u, .slice aG nG cG, .slice aR nR cR] 27))
  have HX0 := Lib.hid (Box.made w [.slice aS nS cS, .slice aW nW cW, .int .i64 s, .int .i64 h, .int .i64 u, .slice aG nG cG, .slice aR nR cR] 27)
  clear hS hW hG hR
  unfold jv at HFE ⊢
  go_enter Tryz.func4, Tryz.ntmps4
  go_upto_region 1 with (fail)
  generalize (w.alloc _) = W at HB0 HX0 ⊢
  have hWb : w.heap.size < W.heap.size := HX0.out.1
  go_cut [1] from 17 to 23 (fun q wx => Cut1 w q wx)
  case first =>
    obtain ⟨q, hq, hqd, hq2⟩ : ∃ n : Nat, min (d.size : Int) 3002 = n ∧ n ≤ d.size ∧ n ≤ 3002 := ⟨min d.size 3002, by omega, by omega, by omega⟩
    have i0 : (0 : Int) ≤ (q : Int) := by omega
    have i1 : (q : Int) ≤ (d.size : Int) := by omega
    have i2 : ¬ (q : Int) < 0 := by omega
    have i3 : ¬ (d.size : Int) < (q : Int) := by omega
    obtain ⟨c0, c1, c2, c3, c4, c5, c6⟩ := HX0.out.c7
    have HBD := Lib.hid (below_trans HB0.out ((Below.refl W.heap.size W).drew))
    refine wp_region_held_drew (S := fun _ => True) (by kernel_rfl) trivial (fun hHeld => ?_)
    refine takeH 2 19 (.string d) (calm_then calm_body) rfl rfl (by kernel_rfl) (by kernel_rfl) (by kernel_rfl) (by rfl) (fun w hSw => by go_simp) trivial ?_
    try simp only [Act.put, List.setIfInBounds_toArray, List.set_cons_zero, List.set_cons_succ]
    refine takeH 3 20 (.string d) (calm_then calm_body) rfl rfl (by kernel_rfl) (by kernel_rfl) (by kernel_rfl) (by rfl) (fun w hSw => by go_simp) trivial ?_
    try simp only [Act.put, List.setIfInBounds_toArray, List.set_cons_zero, List.set_cons_succ]
    refine takeH 4 21 (.int .i64 d.size) (calm_then calm_body) rfl rfl (by kernel_rfl) (by kernel_rfl) (by kernel_rfl) (by rfl) (fun w hSw => by go_simp) trivial ?_
    try simp only [Act.put, List.setIfInBounds_toArray, List.set_cons_zero, List.set_cons_succ]
    refine takeH 5 22 (.int .i64 q) (calm_then calm_body) rfl rfl (by kernel_rfl) (by kernel_rfl) (by kernel_rfl) (by rfl) (fun w hSw => by go_simp) trivial ?_
    try simp only [Act.put, List.setIfInBounds_toArray, List.set_cons_zero, List.set_cons_succ]
    refine takeH 6 23 (.string (d.extract 0 q)) (calm_then calm_body) rfl rfl (by kernel_rfl) (by kernel_rfl) (by kernel_rfl) (by rfl) (fun w hSw => by go_simp) trivial ?_
    try simp only [Act.put, List.setIfInBounds_toArray, List.set_cons_zero, List.set_cons_succ]
    refine wpAnyH_ready (rs := [0]) (by kernel_rfl) (by simp) (AllReadyH.cons rfl (fun K hK => ?_) AllReadyH.nil)
    go_simp
    refine hK.out _ _ trivial (fun hHeld => ?_)
    clear hK
    try simp only [Act.put, List.setIfInBounds_toArray, List.set_cons_zero, List.set_cons_succ]
    refine wpAnyH_ready (rs := [1]) (by kernel_rfl) (by simp) (AllReadyH.cons rfl (fun K hK => ?_) AllReadyH.nil)
    go_simp
    go_at_call 7
    refine (HFE.out _ HBD.out).mono ?_
    rintro e V ⟨vS, vW, vG, vR, ls, ws, g, l, rfl, k1, k2, k3, kS, kW, kG, kR, kb⟩
    have HSM := Lib.hid (And.intro (small_few (s := s) (h := h) (u := u) k1 k2 k3) k2.1)
    obtain ⟨aS1, pS1, rfl⟩ := kS.1.slice
    obtain ⟨aW1, pW1, rfl⟩ := kW.1.slice
    obtain ⟨aG1, pG1, rfl⟩ := kG.1.slice
    obtain ⟨aR1, pR1, rfl⟩ := kR.1.slice
    have hWV : Below W.heap.size W V := below_trans ((Below.refl W.heap.size W).drew) kb
    have HY := Lib.hid (jrow_end (s := s) (h := h) (u := u) HB0.out (Nat.le_refl _) hWb hWV (HX0.out.below hWV) kS kW kG kR)
    obtain ⟨f0, f1, f2, f3, f4, f5, f6⟩ := (HX0.out.below hWV).f7
    obtain ⟨r0, r1, r2, r3, r4, r5, r6⟩ := (HX0.out.below hWV).c7
    clear k1 k2 k3 kS kW kG kR kb hWV c0 c1 c2 c3 c4 c5 c6
    unfold jv
    go_simp
    refine hK.out _ _ trivial (fun hHeld => ?_)
    clear hK
    try simp only [Act.put, List.setIfInBounds_toArray, List.set_cons_zero, List.set_cons_succ]
    refine wpAnyH_ready (rs := [7]) (by kernel_rfl) (by simp) (AllReadyH.cons rfl (fun K hK => ?_) AllReadyH.nil)
    go_simp
    refine hK.out _ _ trivial (fun hHeld => ?_)
    clear hK
    try simp only [Act.put, List.setIfInBounds_toArray, List.set_cons_zero, List.set_cons_succ]
    refine takeH 8 1 (.string (d.extract 0 q)) (calm_then calm_body) rfl rfl (by kernel_rfl) (by kernel_rfl) (by kernel_rfl) (by rfl) (fun w hSw => by go_simp) trivial ?_
    try simp only [Act.put, List.setIfInBounds_toArray, List.set_cons_zero, List.set_cons_succ]
    refine wpAnyH_done (by kernel_rfl) ?_ _
    go_wp2_with fail
    go_meet
    exact ⟨aS1, aW1, aG1, aR1, pS1, pW1, pG1, pR1, ⟨ls, ws, s, h, u, g, l⟩, d.extract 0 q, rfl, by rw [ByteArray.size_extract]; omega, HSM.out.1, HSM.out.2, ⟨HY.out.1, HY.out.2.1⟩, HY.out.2.2⟩
  case rest =>
    clear HFE HB0 HX0 hWb hd
    rename World => W1
    obtain ⟨aS, aW, aG, aR, cS, cW, cG, cR, J, d, rfl, hd, hsm, hg18, hJB, hbe⟩ := hcut
    have HJB := Lib.hid hJB
    have HBE := Lib.hid hbe
    have HSM := Lib.hid hsm
    have hwb := hJB.1.1
    obtain ⟨c0, c1, c2, c3, c4, c5, c6⟩ := hJB.1.c7
    clear hJB hbe hsm
    obtain ⟨Ja, ka, Jb, kb, Jc, kc, hsp, hA, hB, hC⟩ := seals_three HSM.out (d := d) (by omega)
    have HSP := Lib.hid hsp
    have HL := Lib.hid (spec_len HSM.out hsp)
    have HAP := Lib.hid hA
    have HCM := Lib.hid hB
    have HCP := Lib.hid hC
    clear hsp hA hB hC
    unfold jv at HAP HCM HCP
    go_upto_region 5 with (first
      | (go_at_call 16; have hq := HAP.out _ _ _ _ _ HJB.out.2; (with_reducible refine hq.mono ?_); clear hq; rintro e y1 ⟨vS1, vW1, vG1, vR1, rfl, hr1, hy1⟩; obtain ⟨aS1, pS1, rfl⟩ := hr1.rS.slice; obtain ⟨aW1, pW1, rfl⟩ := hr1.rW.slice; obtain ⟨aG1, pG1, rfl⟩ := hr1.rG.slice; obtain ⟨aR1, pR1, rfl⟩ := hr1.rR.slice; have HA1 := Lib.hid (JB.made hr1); have HY1 := Lib.hid (below_trans hy1 (al y1 (.cells #[.slice aS1 Ja.ls.length pS1, .slice aW1 Ja.ws.length pW1, .int .i64 Ja.s, .int .i64 Ja.h, .int .i64 Ja.u, .slice aG1 Ja.g.length pG1, .slice aR1 Ja.l.length pR1] 27))); clear hy1 hr1 c0 c1 c2 c3 c4 c5 c6; have HJ1 := Lib.hid (HJB.out.below HY1.out); obtain ⟨c0, c1, c2, c3, c4, c5, c6⟩ := HJ1.out.1.c7; unfold jv)
      | (go_at_call 17; have hq := HCM.out _ _ _ _ _ HJ1.out.2; (with_reducible refine hq.mono ?_); clear hq; rintro e y2 ⟨vS2, vW2, vG2, vR2, rfl, hr2, hy2⟩; obtain ⟨aS2, pS2, rfl⟩ := hr2.rS.slice; obtain ⟨aW2, pW2, rfl⟩ := hr2.rW.slice; obtain ⟨aG2, pG2, rfl⟩ := hr2.rG.slice; obtain ⟨aR2, pR2, rfl⟩ := hr2.rR.slice; have HB2 := Lib.hid (JB.made hr2); have HY2 := Lib.hid (below_trans hy2 (al y2 (.cells #[.slice aS2 Jb.ls.length pS2, .slice aW2 Jb.ws.length pW2, .int .i64 Jb.s, .int .i64 Jb.h, .int .i64 Jb.u, .slice aG2 Jb.g.length pG2, .slice aR2 Jb.l.length pR2] 27))); clear hy2 hr2 c0 c1 c2 c3 c4 c5 c6; have HJ2 := Lib.hid (HJ1.out.below HY2.out); obtain ⟨c0, c1, c2, c3, c4, c5, c6⟩ := HJ2.out.1.c7; unfold jv)
      | (go_at_call 18; have hq := HCP.out _ _ _ _ _ HJ2.out.2; (with_reducible refine hq.mono ?_); clear hq; rintro e y3 ⟨vS3, vW3, vG3, vR3, rfl, hr3, hy3⟩; obtain ⟨aS3, pS3, rfl⟩ := hr3.rS.slice; obtain ⟨aW3, pW3, rfl⟩ := hr3.rW.slice; obtain ⟨aG3, pG3, rfl⟩ := hr3.rG.slice; obtain ⟨aR3, pR3, rfl⟩ := hr3.rR.slice; have HC3 := Lib.hid (JB.made hr3); have HY3 := Lib.hid (below_trans hy3 (al y3 (.cells #[.slice aS3 Jc.ls.length pS3, .slice aW3 Jc.ws.length pW3, .int .i64 Jc.s, .int .i64 Jc.h, .int .i64 Jc.u, .slice aG3 Jc.g.length pG3, .slice aR3 Jc.l.length pR3] 27))); clear hy3 hr3 c0 c1 c2 c3 c4 c5 c6; have HJ3 := Lib.hid (HJ2.out.below HY3.out); unfold jv)
      | fail)
    have HN0 : Hid (JRow (y3.alloc (.cells #[.slice aS3 Jc.ls.length pS3, .slice aW3 Jc.ws.length pW3, .int .i64 Jc.s, .int .i64 Jc.h, .int .i64 Jc.u, .slice aG3 Jc.g.length pG3, .slice aR3 Jc.l.length pR3] 27)) (.slice none 0 0) (.slice none 0 0) (.slice none 0 0) (.slice none 0 0) J0) := Lib.hid ⟨.inl ⟨rfl, rfl⟩, .inl ⟨rfl, rfl⟩, .inl ⟨rfl, rfl⟩, .inl ⟨rfl, rfl⟩⟩
    have HJ3B := Lib.hid (below_trans (below_trans HY1.out HY2.out) HY3.out)
    have HA3 := Lib.hid ((HA1.out.below HY2.out).below HY3.out)
    have HB3 := Lib.hid (HB2.out.below HY3.out)
    clear HA1 HB2 HJ1 HJ2 HY1 HY2 HY3 HJB
    change Hid (JB y3.heap.size _ _ _ _ _ (y3.alloc (.cells #[.slice aS3 Jc.ls.length pS3, .slice aW3 Jc.ws.length pW3, .int .i64 Jc.s, .int .i64 Jc.h, .int .i64 Jc.u, .slice aG3 Jc.g.length pG3, .slice aR3 Jc.l.length pR3] 27))) at HC3
    generalize y3.alloc _ = z1 at HN0 HJ3 HJ3B HA3 HB3 HC3 ⊢
    generalize y1.heap.size = ab at HA3 ⊢
    generalize y2.heap.size = bb at HB3 ⊢
    generalize y3.heap.size = cb at HC3 ⊢
    have hza := al z1 (.cells #[.slice none 0 0, .slice none 0 0, .int .i64 0, .int .i64 0, .int .i64 0, .slice none 0 0, .slice none 0 0] 27)
    have HN : Hid (JB z1.heap.size (.slice none 0 0) (.slice none 0 0) (.slice none 0 0) (.slice none 0 0) J0 (z1.alloc (.cells #[.slice none 0 0, .slice none 0 0, .int .i64 0, .int .i64 0, .int .i64 0, .slice none 0 0, .slice none 0 0] 27))) := Lib.hid (JB.made (J := J0) HN0.out)
    have HJ4 := Lib.hid (HJ3.out.below hza)
    have HA4 := Lib.hid (HA3.out.below hza)
    have HB4 := Lib.hid (HB3.out.below hza)
    have HC4 := Lib.hid (HC3.out.below hza)
    have HJ4B := Lib.hid (below_trans HJ3B.out hza)
    clear hza HN0 HJ3 HA3 HB3 HC3 HJ3B
    go_upto_region 6 with fail
    generalize z1.alloc _ = z2 at HN HJ4 HA4 HB4 HC4 HJ4B ⊢
    generalize z1.heap.size = nb at HN ⊢
    go_upto_region 8 with (go_at_call 13; refine (alive_any _).mono ?_; rintro e z3 ⟨rfl, hz⟩; have HN5 := Lib.hid (HN.out.below hz); have HJ5 := Lib.hid (HJ4.out.below hz); have HA5 := Lib.hid (HA4.out.below hz); have HB5 := Lib.hid (HB4.out.below hz); have HC5 := Lib.hid (HC4.out.below hz); have HJ5B := Lib.hid (below_trans HJ4B.out hz); clear hz)
    clear HN HJ4 HA4 HB4 HC4 HJ4B
    rcases HSP.out with ⟨hno, rfl, rfl, rfl, rfl, rfl, rfl⟩ | ⟨t, hm, ⟨hka, hJa⟩, hJb, hJc⟩
    · have HRR := Lib.hid (show Calls Tryz.prog 12 #[.agg #[.slice aS J.ls.length cS, .slice aW J.ws.length cW, .int .i64 J.s, .int .i64 J.h, .int .i64 J.u, .slice aG J.g.length cG, .slice aR J.l.length cR]] z3 (BoolB false z3) from by have h := refRight_no HJ5.out.2 HSM.out (by omega) hno; exact h)
      have HLA := Lib.hid (fun W' (hb : Below z3.heap.size z3 W') => (show Calls Tryz.prog 10 #[.agg #[.slice aS1 0 pS1, .slice aW1 0 pW1, .int .i64 0, .int .i64 0, .int .i64 0, .slice aG1 0 pG1, .slice aR1 0 pR1], .agg #[.slice none 0 0, .slice none 0 0, .int .i64 0, .int .i64 0, .int .i64 0, .slice none 0 0, .slice none 0 0]] W' (BoolB true W') from by have h := like_jb (HA5.out.below hb) (HN5.out.below hb) len_zero; exact h))
      have HLB := Lib.hid (fun W' (hb : Below z3.heap.size z3 W') => (show Calls Tryz.prog 10 #[.agg #[.slice aS2 0 pS2, .slice aW2 0 pW2, .int .i64 0, .int .i64 0, .int .i64 0, .slice aG2 0 pG2, .slice aR2 0 pR2], .agg #[.slice none 0 0, .slice none 0 0, .int .i64 0, .int .i64 0, .int .i64 0, .slice none 0 0, .slice none 0 0]] W' (BoolB true W') from by have h := like_jb (HB5.out.below hb) (HN5.out.below hb) len_zero; exact h))
      have HLC := Lib.hid (fun W' (hb : Below z3.heap.size z3 W') => (show Calls Tryz.prog 10 #[.agg #[.slice aS3 0 pS3, .slice aW3 0 pW3, .int .i64 0, .int .i64 0, .int .i64 0, .slice aG3 0 pG3, .slice aR3 0 pR3], .agg #[.slice none 0 0, .slice none 0 0, .int .i64 0, .int .i64 0, .int .i64 0, .slice none 0 0, .slice none 0 0]] W' (BoolB true W') from by have h := like_jb (HC5.out.below hb) (HN5.out.below hb) len_zero; exact h))
      have HBA : Hid (Box ab [.slice aS1 0 pS1, .slice aW1 0 pW1, .int .i64 0, .int .i64 0, .int .i64 0, .slice aG1 0 pG1, .slice aR1 0 pR1] z3) := Lib.hid HA5.out.1
      have HBB : Hid (Box bb [.slice aS2 0 pS2, .slice aW2 0 pW2, .int .i64 0, .int .i64 0, .int .i64 0, .slice aG2 0 pG2, .slice aR2 0 pR2] z3) := Lib.hid HB5.out.1
      have HBC : Hid (Box cb [.slice aS3 0 pS3, .slice aW3 0 pW3, .int .i64 0, .int .i64 0, .int .i64 0, .slice aG3 0 pG3, .slice aR3 0 pR3] z3) := Lib.hid HC5.out.1
      have HBN : Hid (Box nb [.slice none 0 0, .slice none 0 0, .int .i64 0, .int .i64 0, .int .i64 0, .slice none 0 0, .slice none 0 0] z3) := Lib.hid HN5.out.1
      obtain ⟨c0, c1, c2, c3, c4, c5, c6⟩ := HJ5.out.1.c7
      clear hno HSP HAP HCM HCP HL HA5 HB5 HC5 HN5 HJ5
      go_wp2_with (first
        | (go_at_call 12; refine HRR.out.mono ?_; rintro e z4 ⟨rfl, hz⟩; have HZ4 := Lib.hid hz; clear hz c0 c1 c2 c3 c4 c5 c6; obtain ⟨k0, k1, k2, k3, k4, k5, k6⟩ := (Box.below HBA.out HZ4.out).c7; obtain ⟨n0, n1, n2, n3, n4, n5, n6⟩ := (Box.below HBN.out HZ4.out).c7)
        | (go_at_call 10; (with_reducible refine (HLA.out _ HZ4.out).mono ?_); rintro e z5 ⟨rfl, hz⟩; have HZ5 := Lib.hid (below_trans HZ4.out hz); clear hz k0 k1 k2 k3 k4 k5 k6 n0 n1 n2 n3 n4 n5 n6; obtain ⟨k0, k1, k2, k3, k4, k5, k6⟩ := (Box.below HBB.out HZ5.out).c7; obtain ⟨n0, n1, n2, n3, n4, n5, n6⟩ := (Box.below HBN.out HZ5.out).c7)
        | (go_at_call 10; (with_reducible refine (HLB.out _ HZ5.out).mono ?_); rintro e z6 ⟨rfl, hz⟩; have HZ6 := Lib.hid (below_trans HZ5.out hz); clear hz k0 k1 k2 k3 k4 k5 k6 n0 n1 n2 n3 n4 n5 n6; obtain ⟨k0, k1, k2, k3, k4, k5, k6⟩ := (Box.below HBC.out HZ6.out).c7; obtain ⟨n0, n1, n2, n3, n4, n5, n6⟩ := (Box.below HBN.out HZ6.out).c7)
        | (go_at_call 10; (with_reducible refine (HLC.out _ HZ6.out).mono ?_); rintro e z7 ⟨rfl, hz⟩; have HZ7 := Lib.hid (below_trans HZ6.out hz); clear hz)
        | fail)
      go_ret
      exact ⟨rfl, below_trans HBE.out (below_trans HJ5B.out HZ7.out)⟩
    · have hbr := wait_zero.1 hm.wt
      have HMP := Lib.hid (opens_may hm.op)
      have hl512 := opens_len hm.op
      have h8 := hm.op.2.1
      have HRY := Lib.hid (show Calls Tryz.prog 12 #[.agg #[.slice aS J.ls.length cS, .slice aW J.ws.length cW, .int .i64 J.s, .int .i64 J.h, .int .i64 J.u, .slice aG J.g.length cG, .slice aR J.l.length cR]] z3 (BoolB true z3) from by have h := refRight_yes HJ5.out.2 (by omega) hm; exact h)
      clear HSP HAP HCM HCP
      obtain ⟨ls, ws, sj, hj, uj, g, l⟩ := J
      have e1 := hm.nw
      have e2 := hm.hs
      have e3 := hm.hh
      have e4 := hm.hu
      have HOP := Lib.hid hm.op
      dsimp only at e1 e2 e3 e4 HOP hbr h8 hl512 HRY HJ5 hka hJa hJb hJc hg18
      subst e1 e2 e3 e4
      simp only [List.length_nil] at HRY HJ5
      have HBR := Lib.hid hbr
      have HKA := Lib.hid hka
      have HJA := Lib.hid hJa
      have HJB := Lib.hid hJb
      have HJC := Lib.hid hJc
      clear hka hJa hJb hJc hbr hm HSM
      obtain ⟨c0, c1, c2, c3, c4, c5, c6⟩ := HJ5.out.1.c7
      go_upto_region 10 with (first
        | (go_at_call 12; refine HRY.out.mono ?_; rintro e z4 ⟨rfl, hz⟩; have HZ4 := Lib.hid hz; clear hz c0 c1 c2 c3 c4 c5 c6)
        | fail)
      have HJ6 := Lib.hid (HJ5.out.below HZ4.out)
      have HA6 := Lib.hid (HA5.out.below HZ4.out)
      have HB6 := Lib.hid (HB5.out.below HZ4.out)
      have HC6 := Lib.hid (HC5.out.below HZ4.out)
      have HN6 := Lib.hid (HN5.out.below HZ4.out)
      have HJ6B := Lib.hid (below_trans HJ5B.out HZ4.out)
      clear HJ5 HA5 HB5 HC5 HN5 HJ5B HZ4 HRY
      have HE : Hid (OwnS z4.heap.size (.slice (some ⟨z4.heap.size, 0, none⟩) 0 0) [] (z4.alloc (.cells #[] 9))) := Lib.hid (World.ownsRow_made z4 #[] 0 (Nat.le_refl _) (Nat.zero_le _) rfl)
      have HGN := Lib.hid (HJ6.out.2.rG.below (al z4 (.cells #[] 9)))
      dsimp only at HGN
      obtain ⟨c0, c1, c2, c3, c4, c5, c6⟩ := (HJ6.out.below (al z4 (.cells #[] 9))).1.c7
      go_upto_region 11 with (first
        | (at_builtin; refine wpList_append_texts rfl _ _ rfl z4.heap.size _ [] rfl HE.out _ g rfl HGN.out (by simp) (by omega) (by simp) ?_; intro v1 w1 ho1 hb1; rw [List.nil_append] at ho1; obtain ⟨al1, pl1, rfl⟩ := ho1.row.slice; have HS1 := Lib.hid (show z4.heap.size ≤ w1.heap.size from by have := hb1.size; rw [World.size_alloc] at this; omega); have HO1 := Lib.hid (World.ownsRow.alloc ho1 (.cells #[.string d] 9)); have HN1 := Lib.hid (one_row w1 d); have HU1 := Lib.hid (((al z4 (.cells #[] 9)).trans hb1).trans ((al w1 (.cells #[.string d] 9)).mono (by have := hb1.size; rw [World.size_alloc] at this; omega))); clear ho1 hb1)
        | (at_builtin; refine wpList_append_texts rfl _ _ rfl z4.heap.size _ g rfl HO1.out _ [d] rfl HN1.out (by omega) (by simp) (by have := HS1.out; simp; omega) ?_; intro v2 w2 ho2 hb2; have HG2 := Lib.hid ho2; have HZ5 := Lib.hid (HU1.out.trans hb2); obtain ⟨al2, pl2, rfl⟩ := ho2.row.slice; clear ho2 hb2 c0 c1 c2 c3 c4 c5 c6)
        | fail)
      have hz5 := HZ5.out
      have HJW := Lib.hid (HJ6.out.below hz5)
      have HMR : Hid (JRow w2 (.slice aS ls.length cS) (.slice aW 0 cW) (.slice al2 (g.length + 1) pl2) (.slice aR l.length cR) ⟨ls, [], t.seals, t.half, t.used, g ++ [d], l⟩) := Lib.hid ⟨HJW.out.2.rS, HJW.out.2.rW, by have h := HG2.out.row; rw [show (g ++ [d]).length = g.length + 1 by simp] at h; exact h, HJW.out.2.rR⟩
      have HM8 : Hid (JB w2.heap.size (.slice aS ls.length cS) (.slice aW 0 cW) (.slice al2 (g.length + 1) pl2) (.slice aR l.length cR) ⟨ls, [], t.seals, t.half, t.used, g ++ [d], l⟩ (w2.alloc (.cells #[.slice aS ls.length cS, .slice aW 0 cW, .int .i64 t.seals, .int .i64 t.half, .int .i64 t.used, .slice al2 (g.length + 1) pl2, .slice aR l.length cR] 27))) := Lib.hid (JB.made HMR.out)
      have hwa := al w2 (.cells #[.slice aS ls.length cS, .slice aW 0 cW, .int .i64 t.seals, .int .i64 t.half, .int .i64 t.used, .slice al2 (g.length + 1) pl2, .slice aR l.length cR] 27)
      have HJ8 := Lib.hid (HJW.out.below hwa)
      have HA8 := Lib.hid ((HA6.out.below hz5).below hwa)
      have HB8 := Lib.hid ((HB6.out.below hz5).below hwa)
      have HC8 := Lib.hid ((HC6.out.below hz5).below hwa)
      have HN8 := Lib.hid ((HN6.out.below hz5).below hwa)
      have HZ8 := Lib.hid (below_trans (below_trans HJ6B.out hz5) hwa)
      obtain ⟨c0, c1, c2, c3, c4, c5, c6⟩ := HJW.out.1.c7
      clear hz5 hwa HJ6 HA6 HB6 HC6 HN6 HE HGN HO1 HN1 HU1 HS1 HZ5 HG2 HJ6B HMR
      go_upto_region 13 with fail
      clear HJW c0 c1 c2 c3 c4 c5 c6
      generalize w2.alloc _ = x0 at HM8 HJ8 HA8 HB8 HC8 HN8 HZ8 ⊢
      generalize w2.heap.size = mb at HM8 ⊢
      have HWT := Lib.hid (show Calls Tryz.prog 19 #[.agg #[.slice aS ls.length cS, .slice aW 0 cW, .int .i64 t.seals, .int .i64 t.half, .int .i64 t.used, .slice aG g.length cG, .slice aR l.length cR], .slice al2 (g.length + 1) pl2] x0 (IntB ka x0) from by
        have h := refWaits_any (vW := .slice aW 0 cW) (vG := .slice aG g.length cG) (vR := .slice aR l.length cR) HJ8.out.2.rS HM8.out.2.rG h8 (by show ls.length ≤ 1000; omega) (by simp; omega) t.seals t.half t.used (by have := HMP.out.2.2.2; have := opens_recs HOP.out; show t.used ≤ 100000; omega)
        rw [← HKA.out] at h
        exact h)
      obtain ⟨c0, c1, c2, c3, c4, c5, c6⟩ := HJ8.out.1.c7
      go_upto_region 14 with (go_at_call 19; refine HWT.out.mono ?_; rintro e x1 ⟨rfl, hz⟩; have HJ9 := Lib.hid (HJ8.out.below hz); have HA9 := Lib.hid (HA8.out.below hz); have HB9 := Lib.hid (HB8.out.below hz); have HC9 := Lib.hid (HC8.out.below hz); have HN9 := Lib.hid (HN8.out.below hz); have HM9 := Lib.hid (HM8.out.below hz); have HZ9 := Lib.hid (below_trans HZ8.out hz); clear hz c0 c1 c2 c3 c4 c5 c6)
      clear HJ8 HA8 HB8 HC8 HN8 HM8 HZ8 HWT
      go_cut [107] from 85 to 107 (fun v wx => v = .bool false ∧ Below x1.heap.size x1 wx)
      case first =>
        obtain ⟨n0, n1, n2, n3, n4, n5, n6⟩ := HN9.out.1.c7
        obtain ⟨m0, m1, m2, m3, m4, m5, m6⟩ := HM9.out.1.c7
        rcases HJA.out with ⟨hk0, hJa⟩ | ⟨hk0, hJa⟩
        · have hlen : (g ++ [d]).length = g.length + 1 := by simp
          have HAX : Hid (Box ab [.slice aS1 ls.length pS1, .slice aW1 0 pW1, .int .i64 t.seals, .int .i64 t.half, .int .i64 t.used, .slice aG1 (g.length + 1) pG1, .slice aR1 l.length pR1] x1) := Lib.hid (by have h := HA9.out.1; rw [hJa] at h; dsimp only at h; rw [hlen] at h; exact h)
          have HLK := Lib.hid (show Calls Tryz.prog 10 #[.agg #[.slice aS1 ls.length pS1, .slice aW1 0 pW1, .int .i64 t.seals, .int .i64 t.half, .int .i64 t.used, .slice aG1 (g.length + 1) pG1, .slice aR1 l.length pR1], .agg #[.slice aS ls.length cS, .slice aW 0 cW, .int .i64 t.seals, .int .i64 t.half, .int .i64 t.used, .slice al2 (g.length + 1) pl2, .slice aR l.length cR]] x1 (BoolB true x1) from by
            have h9 := HA9.out
            have hl9 := HL.out.1
            rw [hJa] at h9 hl9
            have h := like_jb h9 HM9.out hl9
            unfold jv at h
            dsimp only at h
            rw [hlen] at h
            exact h)
          have hk1 : (ka == 0) = true := by simpa using hk0
          have hk2 : (ka != 0) = false := by simpa using hk0
          clear hlen hk0 hJa
          obtain ⟨k0, k1, k2, k3, k4, k5, k6⟩ := HAX.out.c7
          go_wp2_with (go_at_call 10; (with_reducible refine HLK.out.mono ?_); rintro e x2 ⟨rfl, hz⟩; have HZ10 := Lib.hid hz; clear hz)
          go_meet
          exact ⟨rfl, HZ10.out⟩
        · have HAX : Hid (Box ab [.slice aS1 0 pS1, .slice aW1 0 pW1, .int .i64 0, .int .i64 0, .int .i64 0, .slice aG1 0 pG1, .slice aR1 0 pR1] x1) := Lib.hid (by have h := HA9.out.1; rw [hJa] at h; exact h)
          have HNX : Hid (Box nb [.slice none 0 0, .slice none 0 0, .int .i64 0, .int .i64 0, .int .i64 0, .slice none 0 0, .slice none 0 0] x1) := Lib.hid HN9.out.1
          have HLK := Lib.hid (show Calls Tryz.prog 10 #[.agg #[.slice aS1 0 pS1, .slice aW1 0 pW1, .int .i64 0, .int .i64 0, .int .i64 0, .slice aG1 0 pG1, .slice aR1 0 pR1], .agg #[.slice none 0 0, .slice none 0 0, .int .i64 0, .int .i64 0, .int .i64 0, .slice none 0 0, .slice none 0 0]] x1 (BoolB true x1) from by
            have h9 := HA9.out
            rw [hJa] at h9
            have h := like_jb h9 HN9.out len_zero
            exact h)
          have hk1 : (ka == 0) = false := by simpa using hk0
          have hk2 : (ka != 0) = true := by simpa using hk0
          clear hk0 hJa
          clear n0 n1 n2 n3 n4 n5 n6
          obtain ⟨k0, k1, k2, k3, k4, k5, k6⟩ := HAX.out.c7
          obtain ⟨n0, n1, n2, n3, n4, n5, n6⟩ := HNX.out.c7
          go_wp2_with (go_at_call 10; (with_reducible refine HLK.out.mono ?_); rintro e x2 ⟨rfl, hz⟩; have HZ10 := Lib.hid hz; clear hz)
          go_meet
          exact ⟨rfl, HZ10.out⟩
      case rest =>
        obtain ⟨rfl, hb9⟩ := hcut
        rename World => x2
        have HJ10 := Lib.hid (HJ9.out.below hb9)
        have HB10 := Lib.hid (HB9.out.below hb9)
        have HC10 := Lib.hid (HC9.out.below hb9)
        have HN10 := Lib.hid (HN9.out.below hb9)
        have HZ10 := Lib.hid (below_trans HZ9.out hb9)
        clear hb9 HJ9 HA9 HB9 HC9 HN9 HM9 HZ9 HJA HKA
        obtain ⟨fb, hfb⟩ : ∃ fb, ((t.seals : Int) == 1099511627776) = fb := ⟨_, rfl⟩
        obtain ⟨c0, c1, c2, c3, c4, c5, c6⟩ := HJ10.out.1.c7
        go_upto_region 17 with fail
        have HFB := Lib.hid hfb
        clear hfb
        obtain ⟨F, hF⟩ : ∃ F : ByteArray, (⟨(frm d).toArray⟩ : ByteArray) = F := ⟨_, rfl⟩
        have HFS : Hid (F.size = (frm d).length) := Lib.hid (by rw [← hF, Go.Proofs.YtfdpoekgdcklmaaGreat.Frame.mk_size])
        have HFR := Lib.hid (fun W' => Go.Proofs.YtfdpoekgdcklmaaGreat.Frame.refFrame_any d W' (by omega))
        rw [hF] at HFR
        have HFF := Lib.hid hF
        clear hF
        have HRM := Lib.hid (fun W' => refRoom_any ls.length h8 (by omega) W')
        rcases HJB.out with ⟨hs40, hkb, hJb⟩ | ⟨hs40, hkb, hJb⟩
        · obtain rfl : fb = true := by rw [← HFB.out, hs40]; rfl
          have hkb1 : (kb != 7) = false := by rw [hkb]; rfl
          have HS40 := Lib.hid hs40
          clear hs40
          have HBX : Hid (Box bb [.slice aS2 0 pS2, .slice aW2 0 pW2, .int .i64 0, .int .i64 0, .int .i64 0, .slice aG2 0 pG2, .slice aR2 0 pR2] x2) := Lib.hid (by have h := HB10.out.1; rw [hJb] at h; exact h)
          have HNX : Hid (Box nb [.slice none 0 0, .slice none 0 0, .int .i64 0, .int .i64 0, .int .i64 0, .slice none 0 0, .slice none 0 0] x2) := Lib.hid HN10.out.1
          have HLB := Lib.hid (fun W' (hb : Below x2.heap.size x2 W') => (show Calls Tryz.prog 10 #[.agg #[.slice aS2 0 pS2, .slice aW2 0 pW2, .int .i64 0, .int .i64 0, .int .i64 0, .slice aG2 0 pG2, .slice aR2 0 pR2], .agg #[.slice none 0 0, .slice none 0 0, .int .i64 0, .int .i64 0, .int .i64 0, .slice none 0 0, .slice none 0 0]] W' (BoolB true W') from by
            have h9 := HB10.out.below hb
            rw [hJb] at h9
            have h := like_jb h9 (HN10.out.below hb) len_zero
            exact h))
          clear hkb hJb HB10 c0 c1 c2 c3 c4 c5 c6
          refine wp_region_held_drew (S := fun W' => Below x2.heap.size x2 W') (by kernel_rfl) ((Below.refl _ _).drew) (fun hHeld => ?_)
          refine takeH 0 111 (.bool true) (calm_then (calm_then calm_body)) rfl rfl (by kernel_rfl) (by kernel_rfl) (by kernel_rfl) (by rfl) (fun W' hSw => by go_simp) hHeld ?_
          try simp only [Act.put, List.setIfInBounds_toArray, List.set_cons_zero, List.set_cons_succ]
          refine takeH 1 112 (.bool true) (calm_then (calm_then calm_body)) rfl rfl (by kernel_rfl) (by kernel_rfl) (by kernel_rfl) (by rfl) (fun W' hSw => by go_simp) hHeld ?_
          try simp only [Act.put, List.setIfInBounds_toArray, List.set_cons_zero, List.set_cons_succ]
          refine takeH 2 113 (.int .i64 kb) (calm_then (calm_then calm_body)) rfl rfl (by kernel_rfl) (by kernel_rfl) (by kernel_rfl) (by rfl) (fun W' hSw => by go_simp) hHeld ?_
          try simp only [Act.put, List.setIfInBounds_toArray, List.set_cons_zero, List.set_cons_succ]
          refine takeH 3 114 (.bool false) (calm_then (calm_then calm_body)) rfl rfl (by kernel_rfl) (by kernel_rfl) (by kernel_rfl) (by rfl) (fun W' hSw => by go_simp) hHeld ?_
          try simp only [Act.put, List.setIfInBounds_toArray, List.set_cons_zero, List.set_cons_succ]
          refine takeH 4 115 (.bool false) (calm_then (calm_then calm_body)) rfl rfl (by kernel_rfl) (by kernel_rfl) (by kernel_rfl) (by rfl) (fun W' hSw => by go_simp) hHeld ?_
          try simp only [Act.put, List.setIfInBounds_toArray, List.set_cons_zero, List.set_cons_succ]
          refine takeH 5 116 (.agg #[.slice aS2 0 pS2, .slice aW2 0 pW2, .int .i64 0, .int .i64 0, .int .i64 0, .slice aG2 0 pG2, .slice aR2 0 pR2]) (calm_then (calm_then calm_body)) rfl rfl (by kernel_rfl) (by kernel_rfl) (by kernel_rfl) (by rfl) (fun W' hSw => by obtain ⟨k0, k1, k2, k3, k4, k5, k6⟩ := (HBX.out.below hSw).c7; go_simp) hHeld ?_
          try simp only [Act.put, List.setIfInBounds_toArray, List.set_cons_zero, List.set_cons_succ]
          refine takeH 6 117 (.agg #[.slice none 0 0, .slice none 0 0, .int .i64 0, .int .i64 0, .int .i64 0, .slice none 0 0, .slice none 0 0]) (calm_then (calm_then calm_body)) rfl rfl (by kernel_rfl) (by kernel_rfl) (by kernel_rfl) (by rfl) (fun W' hSw => by obtain ⟨n0, n1, n2, n3, n4, n5, n6⟩ := (HNX.out.below hSw).c7; go_simp) hHeld ?_
          try simp only [Act.put, List.setIfInBounds_toArray, List.set_cons_zero, List.set_cons_succ]
          refine wpAnyH_ready (rs := [7]) (by kernel_rfl) (by simp) (AllReadyH.cons rfl (fun K hK => ?_) AllReadyH.nil)
          go_simp
          go_at_call 10
          refine (HLB.out _ hHeld).mono ?_
          rintro e x3 ⟨rfl, hz⟩
          have hHeld2 := below_trans hHeld hz
          clear hz
          go_simp
          refine hK.out _ _ hHeld2 (fun hHeld => ?_)
          clear hK hHeld2
          try simp only [Act.put, List.setIfInBounds_toArray, List.set_cons_zero, List.set_cons_succ]
          refine takeH 8 119 (.bool false) (calm_then (calm_then calm_body)) rfl rfl (by kernel_rfl) (by kernel_rfl) (by kernel_rfl) (by rfl) (fun W' hSw => by go_simp) hHeld ?_
          try simp only [Act.put, List.setIfInBounds_toArray, List.set_cons_zero, List.set_cons_succ]
          refine takeH 9 120 (.bool false) (calm_then (calm_then calm_body)) rfl rfl (by kernel_rfl) (by kernel_rfl) (by kernel_rfl) (by rfl) (fun W' hSw => by go_simp) hHeld ?_
          try simp only [Act.put, List.setIfInBounds_toArray, List.set_cons_zero, List.set_cons_succ]
          refine takeH 10 121 (.bool false) (calm_then (calm_then calm_body)) rfl rfl (by kernel_rfl) (by kernel_rfl) (by kernel_rfl) (by rfl) (fun W' hSw => by go_simp) hHeld ?_
          try simp only [Act.put, List.setIfInBounds_toArray, List.set_cons_zero, List.set_cons_succ]
          refine takeH 11 122 (.bool false) (calm_then (calm_then calm_body)) rfl rfl (by kernel_rfl) (by kernel_rfl) (by kernel_rfl) (by rfl) (fun W' hSw => by go_simp) hHeld ?_
          try simp only [Act.put, List.setIfInBounds_toArray, List.set_cons_zero, List.set_cons_succ]
          refine takeH 12 123 (.bool true) (calm_then (calm_then calm_body)) rfl rfl (by kernel_rfl) (by kernel_rfl) (by kernel_rfl) (by rfl) (fun W' hSw => by go_simp) hHeld ?_
          try simp only [Act.put, List.setIfInBounds_toArray, List.set_cons_zero, List.set_cons_succ]
          refine takeH 13 124 (.bool false) (calm_then (calm_then calm_body)) rfl rfl (by kernel_rfl) (by kernel_rfl) (by kernel_rfl) (by rfl) (fun W' hSw => by go_simp) hHeld ?_
          try simp only [Act.put, List.setIfInBounds_toArray, List.set_cons_zero, List.set_cons_succ]
          refine takeH 14 125 (.bool false) (calm_then (calm_then calm_body)) rfl rfl (by kernel_rfl) (by kernel_rfl) (by kernel_rfl) (by rfl) (fun W' hSw => by go_simp) hHeld ?_
          try simp only [Act.put, List.setIfInBounds_toArray, List.set_cons_zero, List.set_cons_succ]
          refine skipH 15 126 (calm_then (calm_then calm_body)) rfl rfl (by kernel_rfl) (by kernel_rfl) (by kernel_rfl) (by rfl) hHeld ?_
          try simp only [Act.put, List.setIfInBounds_toArray, List.set_cons_zero, List.set_cons_succ]
          refine skipH 16 127 (calm_then (calm_then calm_body)) rfl rfl (by kernel_rfl) (by kernel_rfl) (by kernel_rfl) (by rfl) hHeld ?_
          try simp only [Act.put, List.setIfInBounds_toArray, List.set_cons_zero, List.set_cons_succ]
          refine skipH 17 128 (calm_then (calm_then calm_body)) rfl rfl (by kernel_rfl) (by kernel_rfl) (by kernel_rfl) (by rfl) hHeld ?_
          try simp only [Act.put, List.setIfInBounds_toArray, List.set_cons_zero, List.set_cons_succ]
          refine skipH 18 129 (calm_then (calm_then calm_body)) rfl rfl (by kernel_rfl) (by kernel_rfl) (by kernel_rfl) (by rfl) hHeld ?_
          try simp only [Act.put, List.setIfInBounds_toArray, List.set_cons_zero, List.set_cons_succ]
          refine skipH 19 130 (calm_then (calm_then calm_body)) rfl rfl (by kernel_rfl) (by kernel_rfl) (by kernel_rfl) (by rfl) hHeld ?_
          try simp only [Act.put, List.setIfInBounds_toArray, List.set_cons_zero, List.set_cons_succ]
          refine skipH 20 131 (calm_then (calm_then calm_body)) rfl rfl (by kernel_rfl) (by kernel_rfl) (by kernel_rfl) (by rfl) hHeld ?_
          try simp only [Act.put, List.setIfInBounds_toArray, List.set_cons_zero, List.set_cons_succ]
          refine skipH 21 132 (calm_then (calm_then calm_body)) rfl rfl (by kernel_rfl) (by kernel_rfl) (by kernel_rfl) (by rfl) hHeld ?_
          try simp only [Act.put, List.setIfInBounds_toArray, List.set_cons_zero, List.set_cons_succ]
          refine skipH 22 133 (calm_then (calm_then calm_body)) rfl rfl (by kernel_rfl) (by kernel_rfl) (by kernel_rfl) (by rfl) hHeld ?_
          try simp only [Act.put, List.setIfInBounds_toArray, List.set_cons_zero, List.set_cons_succ]
          refine skipH 23 134 (calm_then (calm_then calm_body)) rfl rfl (by kernel_rfl) (by kernel_rfl) (by kernel_rfl) (by rfl) hHeld ?_
          try simp only [Act.put, List.setIfInBounds_toArray, List.set_cons_zero, List.set_cons_succ]
          refine skipH 24 135 (calm_then (calm_then calm_body)) rfl rfl (by kernel_rfl) (by kernel_rfl) (by kernel_rfl) (by rfl) hHeld ?_
          try simp only [Act.put, List.setIfInBounds_toArray, List.set_cons_zero, List.set_cons_succ]
          refine skipH 25 136 (calm_then (calm_then calm_body)) rfl rfl (by kernel_rfl) (by kernel_rfl) (by kernel_rfl) (by rfl) hHeld ?_
          try simp only [Act.put, List.setIfInBounds_toArray, List.set_cons_zero, List.set_cons_succ]
          refine skipH 26 137 (calm_then (calm_then calm_body)) rfl rfl (by kernel_rfl) (by kernel_rfl) (by kernel_rfl) (by rfl) hHeld ?_
          try simp only [Act.put, List.setIfInBounds_toArray, List.set_cons_zero, List.set_cons_succ]
          refine skipH 27 138 (calm_then (calm_then calm_body)) rfl rfl (by kernel_rfl) (by kernel_rfl) (by kernel_rfl) (by rfl) hHeld ?_
          try simp only [Act.put, List.setIfInBounds_toArray, List.set_cons_zero, List.set_cons_succ]
          refine skipH 28 139 (calm_then (calm_then calm_body)) rfl rfl (by kernel_rfl) (by kernel_rfl) (by kernel_rfl) (by rfl) hHeld ?_
          try simp only [Act.put, List.setIfInBounds_toArray, List.set_cons_zero, List.set_cons_succ]
          refine skipH 29 140 (calm_then (calm_then calm_body)) rfl rfl (by kernel_rfl) (by kernel_rfl) (by kernel_rfl) (by rfl) hHeld ?_
          try simp only [Act.put, List.setIfInBounds_toArray, List.set_cons_zero, List.set_cons_succ]
          refine skipH 30 141 (calm_then (calm_then calm_body)) rfl rfl (by kernel_rfl) (by kernel_rfl) (by kernel_rfl) (by rfl) hHeld ?_
          try simp only [Act.put, List.setIfInBounds_toArray, List.set_cons_zero, List.set_cons_succ]
          refine takeH 31 142 (.bool false) (calm_then (calm_then calm_body)) rfl rfl (by kernel_rfl) (by kernel_rfl) (by kernel_rfl) (by rfl) (fun W' hSw => by go_simp) hHeld ?_
          try simp only [Act.put, List.setIfInBounds_toArray, List.set_cons_zero, List.set_cons_succ]
          refine takeH 32 143 (.bool false) (calm_then (calm_then calm_body)) rfl rfl (by kernel_rfl) (by kernel_rfl) (by kernel_rfl) (by rfl) (fun W' hSw => by go_simp) hHeld ?_
          try simp only [Act.put, List.setIfInBounds_toArray, List.set_cons_zero, List.set_cons_succ]
          refine wpAnyH_done (by kernel_rfl) ?_ _
          have HZ11 : Hid (Below x2.heap.size x2 x3) := Lib.hid hHeld
          clear hHeld
          have hkc : Jc = J0 ∧ ((3000 < d.size ∧ kc = 3) ∨ (¬ 3000 < d.size ∧ kc = 7)) := by
            rcases HJC.out with ⟨h1, h2, h3⟩ | ⟨h1, _, _⟩
            · refine ⟨h3, ?_⟩
              unfold insteadE at h2
              rw [HS40.out] at h2
              by_cases c : 3000 < d.size
              · rw [if_pos c] at h2; exact .inl ⟨c, h2⟩
              · rw [if_neg c] at h2
                by_cases c2 : roomN ls.length < (frm d).length
                · rw [if_pos c2] at h2; exact .inr ⟨c, h2⟩
                · rw [if_neg c2, if_pos rfl] at h2; exact .inr ⟨c, h2⟩
            · exact absurd HS40.out (ins_zero.1 h1).2.2
          have HCX : Hid (Box cb [.slice aS3 0 pS3, .slice aW3 0 pW3, .int .i64 0, .int .i64 0, .int .i64 0, .slice aG3 0 pG3, .slice aR3 0 pR3] x2) := Lib.hid (by have h := HC10.out.1; rw [hkc.1] at h; exact h)
          have HLC := Lib.hid (fun W' (hb : Below x2.heap.size x2 W') => (show Calls Tryz.prog 10 #[.agg #[.slice aS3 0 pS3, .slice aW3 0 pW3, .int .i64 0, .int .i64 0, .int .i64 0, .slice aG3 0 pG3, .slice aR3 0 pR3], .agg #[.slice none 0 0, .slice none 0 0, .int .i64 0, .int .i64 0, .int .i64 0, .slice none 0 0, .slice none 0 0]] W' (BoolB true W') from by
            have h9 := HC10.out.below hb
            rw [hkc.1] at h9
            have h := like_jb h9 (HN10.out.below hb) len_zero
            exact h))
          have HKC := Lib.hid hkc.2
          clear hkc HC10 HJC HJB
          go_wp2_with fail
          refine (HFR.out _).mono ?_
          rintro e x4 ⟨rfl, hz⟩
          have HZ12 := Lib.hid (below_trans HZ11.out hz)
          clear hz
          rcases HKC.out with ⟨hd3, hkc3⟩ | ⟨hd3, hkc7⟩
          · have hd3' : (3000 : Int) < (d.size : Int) := by omega
            have hkq : (kc == 3) = true := by rw [hkc3]; rfl
            clear hkc3 HKC
            obtain ⟨k0, k1, k2, k3, k4, k5, k6⟩ := (HCX.out.below HZ12.out).c7
            obtain ⟨n0, n1, n2, n3, n4, n5, n6⟩ := (HNX.out.below HZ12.out).c7
            go_wp2_with (first
              | (go_at_call 10; (with_reducible refine (HLC.out _ HZ12.out).mono ?_); rintro e x5 ⟨rfl, hz⟩; have HZ13 := Lib.hid (below_trans HZ12.out hz); clear hz)
              | fail)
            go_ret
            exact ⟨rfl, below_trans HBE.out (below_trans HZ10.out HZ13.out)⟩
          · have hd3' : ¬ (3000 : Int) < (d.size : Int) := by omega
            have hkq : (kc == 7) = true := by rw [hkc7]; rfl
            clear hkc7 HKC
            obtain ⟨k0, k1, k2, k3, k4, k5, k6⟩ := (HCX.out.below HZ12.out).c7
            obtain ⟨n0, n1, n2, n3, n4, n5, n6⟩ := (HNX.out.below HZ12.out).c7
            go_wp2_with (first
              | (go_at_call 10; (with_reducible refine (HLC.out _ HZ12.out).mono ?_); rintro e x5 ⟨rfl, hz⟩; have HZ13 := Lib.hid (below_trans HZ12.out hz); clear hz)
              | fail)
            go_ret
            exact ⟨rfl, below_trans HBE.out (below_trans HZ10.out HZ13.out)⟩
        · obtain rfl : fb = false := by rw [← HFB.out]; simp; omega
          have hkb1 : (kb != 0) = false := by rw [hkb]; rfl
          have HLT : Hid (t.seals < 1099511627776) := Lib.hid hs40
          have HSEB : Hid (Seals ls t t.half t.used (frms g) (l ++ g)) := Lib.hid (commit_seals HOP.out (fun x hx => by have := HBR.out.1 x hx; omega) HBR.out.2.2.1 HBR.out.2.2.2 hs40)
          obtain ⟨G, hG⟩ : ∃ G : ByteArray, (⟨(frms g).toArray⟩ : ByteArray) = G := ⟨_, rfl⟩
          have hS2 : Disk.SRow x2 (.slice aS ls.length cS) ls := HJ10.out.2.rS
          have hW2 : WRow x2 (.slice aW 0 cW) [] := HJ10.out.2.rW
          have hG2 : Disk.SRow x2 (.slice aG g.length cG) g := HJ10.out.2.rG
          have HWH := Lib.hid (fun W' (hb : Below x2.heap.size x2 W') => (show Calls Tryz.prog 21 #[.slice aG g.length cG] W' (fun e w' => e = .returned (.string G) ∧ Below W'.heap.size W' w') from by
            rw [← hG]
            exact Go.Proofs.YtfdpoekgdcklmaaGreat.Frame.Whole_any (hG2.below hb) (fun x hx => by have := HBR.out.1 x hx; omega) (by have := HBR.out.2.2.1; omega) (by omega)))
          have HSE := Lib.hid (fun W' (hb : Below x2.heap.size x2 W') => (show Calls Tryz.prog 20 #[.agg #[.slice aS ls.length cS, .slice aW 0 cW, .int .i64 t.seals, .int .i64 t.half, .int .i64 t.used, .slice aG g.length cG, .slice aR l.length cR], .int .i64 t.half, .int .i64 t.used, .string G] W' (SealR Jb W') from by
            rw [← hG, hJb]
            exact refSealed_j (hS2.below hb) (hW2.below hb) HOP.out HSEB.out t.half t.used))
          have HSC := Lib.hid (fun (hc : insteadE ls.length t.seals d = 0) W' (hb : Below x2.heap.size x2 W') => (show Calls Tryz.prog 20 #[.agg #[.slice aS ls.length cS, .slice aW 0 cW, .int .i64 t.seals, .int .i64 t.half, .int .i64 t.used, .slice aG g.length cG, .slice aR l.length cR], .int .i64 (IntKind.i64.wrap (1 - (t.half : Int))), .int .i64 0, .string F] W' (SealR (sealJ ls t (1 - t.half) 0 (frm d) [d]) W') from by
            rw [← HFF.out, IntWalk.i64_in _ (by have := HMP.out.1; omega), ← half_cast HMP.out.1]
            exact refSealed_j (fr := 0) (hS2.below hb) (hW2.below hb) HOP.out (compact_seals HOP.out (ins_zero.1 hc).1 (ins_zero.1 hc).2.1 hs40) t.half t.used))
          clear hS2 hW2 hG2 hG hkb hJb hs40 c0 c1 c2 c3 c4 c5 c6
          refine wp_region_held_drew (S := fun W' => Below x2.heap.size x2 W') (by kernel_rfl) ((Below.refl _ _).drew) (fun hHeld => ?_)
          refine takeH 0 111 (.bool false) (calm_then (calm_then calm_body)) rfl rfl (by kernel_rfl) (by kernel_rfl) (by kernel_rfl) (by rfl) (fun W' hSw => by go_simp) hHeld ?_
          try simp only [Act.put, List.setIfInBounds_toArray, List.set_cons_zero, List.set_cons_succ]
          refine takeH 1 112 (.bool false) (calm_then (calm_then calm_body)) rfl rfl (by kernel_rfl) (by kernel_rfl) (by kernel_rfl) (by rfl) (fun W' hSw => by go_simp) hHeld ?_
          try simp only [Act.put, List.setIfInBounds_toArray, List.set_cons_zero, List.set_cons_succ]
          refine skipH 2 113 (calm_then (calm_then calm_body)) rfl rfl (by kernel_rfl) (by kernel_rfl) (by kernel_rfl) (by rfl) hHeld ?_
          try simp only [Act.put, List.setIfInBounds_toArray, List.set_cons_zero, List.set_cons_succ]
          refine skipH 3 114 (calm_then (calm_then calm_body)) rfl rfl (by kernel_rfl) (by kernel_rfl) (by kernel_rfl) (by rfl) hHeld ?_
          try simp only [Act.put, List.setIfInBounds_toArray, List.set_cons_zero, List.set_cons_succ]
          refine skipH 4 115 (calm_then (calm_then calm_body)) rfl rfl (by kernel_rfl) (by kernel_rfl) (by kernel_rfl) (by rfl) hHeld ?_
          try simp only [Act.put, List.setIfInBounds_toArray, List.set_cons_zero, List.set_cons_succ]
          refine skipH 5 116 (calm_then (calm_then calm_body)) rfl rfl (by kernel_rfl) (by kernel_rfl) (by kernel_rfl) (by rfl) hHeld ?_
          try simp only [Act.put, List.setIfInBounds_toArray, List.set_cons_zero, List.set_cons_succ]
          refine skipH 6 117 (calm_then (calm_then calm_body)) rfl rfl (by kernel_rfl) (by kernel_rfl) (by kernel_rfl) (by rfl) hHeld ?_
          try simp only [Act.put, List.setIfInBounds_toArray, List.set_cons_zero, List.set_cons_succ]
          refine skipH 7 118 (calm_then (calm_then calm_body)) rfl rfl (by kernel_rfl) (by kernel_rfl) (by kernel_rfl) (by rfl) hHeld ?_
          try simp only [Act.put, List.setIfInBounds_toArray, List.set_cons_zero, List.set_cons_succ]
          refine skipH 8 119 (calm_then (calm_then calm_body)) rfl rfl (by kernel_rfl) (by kernel_rfl) (by kernel_rfl) (by rfl) hHeld ?_
          try simp only [Act.put, List.setIfInBounds_toArray, List.set_cons_zero, List.set_cons_succ]
          refine skipH 9 120 (calm_then (calm_then calm_body)) rfl rfl (by kernel_rfl) (by kernel_rfl) (by kernel_rfl) (by rfl) hHeld ?_
          try simp only [Act.put, List.setIfInBounds_toArray, List.set_cons_zero, List.set_cons_succ]
          refine takeH 10 121 (.bool false) (calm_then (calm_then calm_body)) rfl rfl (by kernel_rfl) (by kernel_rfl) (by kernel_rfl) (by rfl) (fun W' hSw => by go_simp) hHeld ?_
          try simp only [Act.put, List.setIfInBounds_toArray, List.set_cons_zero, List.set_cons_succ]
          refine takeH 11 122 (.bool false) (calm_then (calm_then calm_body)) rfl rfl (by kernel_rfl) (by kernel_rfl) (by kernel_rfl) (by rfl) (fun W' hSw => by go_simp) hHeld ?_
          try simp only [Act.put, List.setIfInBounds_toArray, List.set_cons_zero, List.set_cons_succ]
          refine takeH 12 123 (.bool false) (calm_then (calm_then calm_body)) rfl rfl (by kernel_rfl) (by kernel_rfl) (by kernel_rfl) (by rfl) (fun W' hSw => by go_simp) hHeld ?_
          try simp only [Act.put, List.setIfInBounds_toArray, List.set_cons_zero, List.set_cons_succ]
          refine takeH 13 124 (.bool true) (calm_then (calm_then calm_body)) rfl rfl (by kernel_rfl) (by kernel_rfl) (by kernel_rfl) (by rfl) (fun W' hSw => by go_simp) hHeld ?_
          try simp only [Act.put, List.setIfInBounds_toArray, List.set_cons_zero, List.set_cons_succ]
          refine takeH 14 125 (.bool true) (calm_then (calm_then calm_body)) rfl rfl (by kernel_rfl) (by kernel_rfl) (by kernel_rfl) (by rfl) (fun W' hSw => by go_simp) hHeld ?_
          try simp only [Act.put, List.setIfInBounds_toArray, List.set_cons_zero, List.set_cons_succ]
          refine takeH 15 126 (.int .i64 kb) (calm_then (calm_then calm_body)) rfl rfl (by kernel_rfl) (by kernel_rfl) (by kernel_rfl) (by rfl) (fun W' hSw => by go_simp) hHeld ?_
          try simp only [Act.put, List.setIfInBounds_toArray, List.set_cons_zero, List.set_cons_succ]
          refine takeH 16 127 (.bool false) (calm_then (calm_then calm_body)) rfl rfl (by kernel_rfl) (by kernel_rfl) (by kernel_rfl) (by rfl) (fun W' hSw => by go_simp) hHeld ?_
          try simp only [Act.put, List.setIfInBounds_toArray, List.set_cons_zero, List.set_cons_succ]
          refine takeH 17 128 (.bool false) (calm_then (calm_then calm_body)) rfl rfl (by kernel_rfl) (by kernel_rfl) (by kernel_rfl) (by rfl) (fun W' hSw => by go_simp) hHeld ?_
          try simp only [Act.put, List.setIfInBounds_toArray, List.set_cons_zero, List.set_cons_succ]
          refine takeH 18 129 (.agg #[.slice aS2 Jb.ls.length pS2, .slice aW2 Jb.ws.length pW2, .int .i64 Jb.s, .int .i64 Jb.h, .int .i64 Jb.u, .slice aG2 Jb.g.length pG2, .slice aR2 Jb.l.length pR2]) (calm_then (calm_then calm_body)) rfl rfl (by kernel_rfl) (by kernel_rfl) (by kernel_rfl) (by rfl) (fun W' hSw => by obtain ⟨k0, k1, k2, k3, k4, k5, k6⟩ := (HB10.out.below hSw).1.c7; go_simp) hHeld ?_
          try simp only [Act.put, List.setIfInBounds_toArray, List.set_cons_zero, List.set_cons_succ]
          refine takeH 19 130 (.agg #[.slice aS ls.length cS, .slice aW 0 cW, .int .i64 t.seals, .int .i64 t.half, .int .i64 t.used, .slice aG g.length cG, .slice aR l.length cR]) (calm_then (calm_then calm_body)) rfl rfl (by kernel_rfl) (by kernel_rfl) (by kernel_rfl) (by rfl) (fun W' hSw => by obtain ⟨c0, c1, c2, c3, c4, c5, c6⟩ := (HJ10.out.below hSw).1.c7; go_simp) hHeld ?_
          try simp only [Act.put, List.setIfInBounds_toArray, List.set_cons_zero, List.set_cons_succ]
          refine takeH 20 131 (.pointer (some ⟨w.heap.size, 3, none⟩)) (calm_then (calm_then calm_body)) rfl rfl (by kernel_rfl) (by kernel_rfl) (by kernel_rfl) (by rfl) (fun W' hSw => by go_simp) hHeld ?_
          try simp only [Act.put, List.setIfInBounds_toArray, List.set_cons_zero, List.set_cons_succ]
          refine takeH 21 132 (.int .i64 t.half) (calm_then (calm_then calm_body)) rfl rfl (by kernel_rfl) (by kernel_rfl) (by kernel_rfl) (by rfl) (fun W' hSw => by obtain ⟨c0, c1, c2, c3, c4, c5, c6⟩ := (HJ10.out.below hSw).1.c7; go_simp) hHeld ?_
          try simp only [Act.put, List.setIfInBounds_toArray, List.set_cons_zero, List.set_cons_succ]
          refine takeH 22 133 (.pointer (some ⟨w.heap.size, 4, none⟩)) (calm_then (calm_then calm_body)) rfl rfl (by kernel_rfl) (by kernel_rfl) (by kernel_rfl) (by rfl) (fun W' hSw => by go_simp) hHeld ?_
          try simp only [Act.put, List.setIfInBounds_toArray, List.set_cons_zero, List.set_cons_succ]
          refine takeH 23 134 (.int .i64 t.used) (calm_then (calm_then calm_body)) rfl rfl (by kernel_rfl) (by kernel_rfl) (by kernel_rfl) (by rfl) (fun W' hSw => by obtain ⟨c0, c1, c2, c3, c4, c5, c6⟩ := (HJ10.out.below hSw).1.c7; go_simp) hHeld ?_
          try simp only [Act.put, List.setIfInBounds_toArray, List.set_cons_zero, List.set_cons_succ]
          refine takeH 24 135 (.pointer (some ⟨w.heap.size, 5, none⟩)) (calm_then (calm_then calm_body)) rfl rfl (by kernel_rfl) (by kernel_rfl) (by kernel_rfl) (by rfl) (fun W' hSw => by go_simp) hHeld ?_
          try simp only [Act.put, List.setIfInBounds_toArray, List.set_cons_zero, List.set_cons_succ]
          refine takeH 25 136 (.slice aG g.length cG) (calm_then (calm_then calm_body)) rfl rfl (by kernel_rfl) (by kernel_rfl) (by kernel_rfl) (by rfl) (fun W' hSw => by obtain ⟨c0, c1, c2, c3, c4, c5, c6⟩ := (HJ10.out.below hSw).1.c7; go_simp) hHeld ?_
          try simp only [Act.put, List.setIfInBounds_toArray, List.set_cons_zero, List.set_cons_succ]
          refine wpAnyH_ready (rs := [26]) (by kernel_rfl) (by simp) (AllReadyH.cons rfl (fun K hK => ?_) AllReadyH.nil)
          go_simp
          go_at_call 21
          refine (HWH.out _ hHeld).mono ?_
          rintro e x3 ⟨rfl, hz⟩
          have hHeld2 := below_trans hHeld hz
          clear hz
          go_simp
          refine hK.out _ _ hHeld2 (fun hHeld => ?_)
          clear hK hHeld2
          try simp only [Act.put, List.setIfInBounds_toArray, List.set_cons_zero, List.set_cons_succ]
          refine wpAnyH_ready (rs := [27]) (by kernel_rfl) (by simp) (AllReadyH.cons rfl (fun K hK => ?_) AllReadyH.nil)
          go_simp
          go_at_call 20
          refine (HSE.out _ hHeld).mono ?_
          rintro e x4 ⟨vS4, vW4, vR4, rfl, hr4, hz⟩
          have hHeld2 := below_trans hHeld hz
          have HLK := Lib.hid (refLike_yes (HB10.out.below hHeld2).2 hr4 HL.out.2.1.1 HL.out.2.1.2.1 HL.out.2.1.2.2.1 HL.out.2.1.2.2.2)
          clear hz hr4
          unfold jv
          go_simp
          refine hK.out _ _ hHeld2 (fun hHeld => ?_)
          clear hK hHeld2
          try simp only [Act.put, List.setIfInBounds_toArray, List.set_cons_zero, List.set_cons_succ]
          refine wpAnyH_ready (rs := [28]) (by kernel_rfl) (by simp) (AllReadyH.cons rfl (fun K hK => ?_) AllReadyH.nil)
          go_simp
          go_at_call 10
          refine HLK.out.mono ?_
          rintro e x5 ⟨rfl, hz⟩
          have hHeld2 := below_trans hHeld hz
          clear hz HLK
          go_simp
          refine hK.out _ _ hHeld2 (fun hHeld => ?_)
          clear hK hHeld2
          try simp only [Act.put, List.setIfInBounds_toArray, List.set_cons_zero, List.set_cons_succ]
          refine takeH 29 140 (.bool false) (calm_then (calm_then calm_body)) rfl rfl (by kernel_rfl) (by kernel_rfl) (by kernel_rfl) (by rfl) (fun W' hSw => by go_simp) hHeld ?_
          try simp only [Act.put, List.setIfInBounds_toArray, List.set_cons_zero, List.set_cons_succ]
          refine takeH 30 141 (.bool false) (calm_then (calm_then calm_body)) rfl rfl (by kernel_rfl) (by kernel_rfl) (by kernel_rfl) (by rfl) (fun W' hSw => by go_simp) hHeld ?_
          try simp only [Act.put, List.setIfInBounds_toArray, List.set_cons_zero, List.set_cons_succ]
          refine takeH 31 142 (.bool false) (calm_then (calm_then calm_body)) rfl rfl (by kernel_rfl) (by kernel_rfl) (by kernel_rfl) (by rfl) (fun W' hSw => by go_simp) hHeld ?_
          try simp only [Act.put, List.setIfInBounds_toArray, List.set_cons_zero, List.set_cons_succ]
          refine takeH 32 143 (.bool false) (calm_then (calm_then calm_body)) rfl rfl (by kernel_rfl) (by kernel_rfl) (by kernel_rfl) (by rfl) (fun W' hSw => by go_simp) hHeld ?_
          try simp only [Act.put, List.setIfInBounds_toArray, List.set_cons_zero, List.set_cons_succ]
          refine wpAnyH_done (by kernel_rfl) ?_ _
          have HZ11 : Hid (Below x2.heap.size x2 x5) := Lib.hid hHeld
          clear hHeld
          go_wp2_with fail
          refine (HFR.out _).mono ?_
          rintro e x6 ⟨rfl, hz⟩
          have HZ12 := Lib.hid (below_trans HZ11.out hz)
          clear hz
          have hkc : (3000 < d.size ∧ kc = 3 ∧ Jc = J0) ∨ (¬ 3000 < d.size ∧ roomN ls.length < F.size ∧ kc = 7 ∧ Jc = J0) ∨ (¬ 3000 < d.size ∧ ¬ roomN ls.length < F.size ∧ kc = 0 ∧ insteadE ls.length t.seals d = 0 ∧ Jc = sealJ ls t (1 - t.half) 0 (frm d) [d]) := by
            rw [HFS.out]
            rcases HJC.out with ⟨h1, h2, h3⟩ | ⟨h1, h2, h3⟩
            · unfold insteadE at h2
              by_cases c : 3000 < d.size
              · rw [if_pos c] at h2; exact .inl ⟨c, h2, h3⟩
              · rw [if_neg c] at h2
                by_cases c2 : roomN ls.length < (frm d).length
                · rw [if_pos c2] at h2; exact .inr (.inl ⟨c, c2, h2, h3⟩)
                · rw [if_neg c2, if_neg (by have := HLT.out; omega)] at h2; exact absurd h2 h1
            · have h4 := ins_zero.1 h1
              exact .inr (.inr ⟨by omega, by omega, h2, h1, h3⟩)
          have HKC := Lib.hid hkc
          clear hkc HJC HJB
          rcases HKC.out with ⟨hd3, hk, hJc⟩ | ⟨hd3, hrm, hk, hJc⟩ | ⟨hd3, hrm, hk, hc, hJc⟩
          · have hd3' : (3000 : Int) < (d.size : Int) := by omega
            have hkq : (kc == 3) = true := by rw [hk]; rfl
            have HCX : Hid (Box cb [.slice aS3 0 pS3, .slice aW3 0 pW3, .int .i64 0, .int .i64 0, .int .i64 0, .slice aG3 0 pG3, .slice aR3 0 pR3] x2) := Lib.hid (by have h := HC10.out.1; rw [hJc] at h; exact h)
            have HNX : Hid (Box nb [.slice none 0 0, .slice none 0 0, .int .i64 0, .int .i64 0, .int .i64 0, .slice none 0 0, .slice none 0 0] x2) := Lib.hid HN10.out.1
            have HLC := Lib.hid (fun W' (hb : Below x2.heap.size x2 W') => (show Calls Tryz.prog 10 #[.agg #[.slice aS3 0 pS3, .slice aW3 0 pW3, .int .i64 0, .int .i64 0, .int .i64 0, .slice aG3 0 pG3, .slice aR3 0 pR3], .agg #[.slice none 0 0, .slice none 0 0, .int .i64 0, .int .i64 0, .int .i64 0, .slice none 0 0, .slice none 0 0]] W' (BoolB true W') from by
              have h9 := HC10.out.below hb
              rw [hJc] at h9
              have h := like_jb h9 (HN10.out.below hb) len_zero
              exact h))
            clear hk hJc HKC
            obtain ⟨k0, k1, k2, k3, k4, k5, k6⟩ := (HCX.out.below HZ12.out).c7
            obtain ⟨n0, n1, n2, n3, n4, n5, n6⟩ := (HNX.out.below HZ12.out).c7
            go_wp2_with (first
              | (go_at_call 10; (with_reducible refine (HLC.out _ HZ12.out).mono ?_); rintro e x7 ⟨rfl, hz⟩; have HZ13 := Lib.hid (below_trans HZ12.out hz); clear hz)
              | fail)
            go_ret
            exact ⟨rfl, below_trans HBE.out (below_trans HZ10.out HZ13.out)⟩
          · have hd3' : ¬ (3000 : Int) < (d.size : Int) := by omega
            have hkq : (kc == 7) = true := by rw [hk]; rfl
            have hrm' : ((roomN ls.length : Nat) : Int) < (F.size : Int) := by omega
            have HCX : Hid (Box cb [.slice aS3 0 pS3, .slice aW3 0 pW3, .int .i64 0, .int .i64 0, .int .i64 0, .slice aG3 0 pG3, .slice aR3 0 pR3] x2) := Lib.hid (by have h := HC10.out.1; rw [hJc] at h; exact h)
            have HNX : Hid (Box nb [.slice none 0 0, .slice none 0 0, .int .i64 0, .int .i64 0, .int .i64 0, .slice none 0 0, .slice none 0 0] x2) := Lib.hid HN10.out.1
            have HLC := Lib.hid (fun W' (hb : Below x2.heap.size x2 W') => (show Calls Tryz.prog 10 #[.agg #[.slice aS3 0 pS3, .slice aW3 0 pW3, .int .i64 0, .int .i64 0, .int .i64 0, .slice aG3 0 pG3, .slice aR3 0 pR3], .agg #[.slice none 0 0, .slice none 0 0, .int .i64 0, .int .i64 0, .int .i64 0, .slice none 0 0, .slice none 0 0]] W' (BoolB true W') from by
              have h9 := HC10.out.below hb
              rw [hJc] at h9
              have h := like_jb h9 (HN10.out.below hb) len_zero
              exact h))
            clear hk hJc HKC hrm
            obtain ⟨c0, c1, c2, c3, c4, c5, c6⟩ := (HJ10.out.below HZ12.out).1.c7
            obtain ⟨k0, k1, k2, k3, k4, k5, k6⟩ := (HCX.out.below HZ12.out).c7
            obtain ⟨n0, n1, n2, n3, n4, n5, n6⟩ := (HNX.out.below HZ12.out).c7
            go_wp2_with (first
              | (go_at_call 23; (with_reducible refine (HRM.out _).mono ?_); rintro e x8 ⟨rfl, rfl⟩)
              | (go_at_call 10; (with_reducible refine (HLC.out _ HZ12.out).mono ?_); rintro e x7 ⟨rfl, hz⟩; have HZ13 := Lib.hid (below_trans HZ12.out hz); clear hz)
              | fail)
            go_ret
            exact ⟨rfl, below_trans HBE.out (below_trans HZ10.out HZ13.out)⟩
          · have hd3' : ¬ (3000 : Int) < (d.size : Int) := by omega
            have hkq : (kc == 0) = true := by rw [hk]; rfl
            have hrm' : ¬ ((roomN ls.length : Nat) : Int) < (F.size : Int) := by omega
            have HSD := Lib.hid (fun W' (hb : Below x2.heap.size x2 W') => hJc ▸ HSC.out hc W' hb)
            clear hk hJc HKC hrm hc HSC
            obtain ⟨c0, c1, c2, c3, c4, c5, c6⟩ := (HJ10.out.below HZ12.out).1.c7
            go_wp2_with (first
              | (go_at_call 23; (with_reducible refine (HRM.out _).mono ?_); rintro e x8 ⟨rfl, rfl⟩)
              | fail)
            clear c0 c1 c2 c3 c4 c5 c6
            refine wp_region_held_drew (S := fun W' => Below x6.heap.size x6 W') (by kernel_rfl) ((Below.refl _ _).drew) (fun hHeld => ?_)
            refine takeH 0 174 (.int .i64 kc) (calm_then calm_body) rfl rfl (by kernel_rfl) (by kernel_rfl) (by kernel_rfl) (by rfl) (fun W' hSw => by go_simp) hHeld ?_
            try simp only [Act.put, List.setIfInBounds_toArray, List.set_cons_zero, List.set_cons_succ]
            refine takeH 1 175 (.bool true) (calm_then calm_body) rfl rfl (by kernel_rfl) (by kernel_rfl) (by kernel_rfl) (by rfl) (fun W' hSw => by go_simp) hHeld ?_
            try simp only [Act.put, List.setIfInBounds_toArray, List.set_cons_zero, List.set_cons_succ]
            refine takeH 2 176 (.bool true) (calm_then calm_body) rfl rfl (by kernel_rfl) (by kernel_rfl) (by kernel_rfl) (by rfl) (fun W' hSw => by go_simp) hHeld ?_
            try simp only [Act.put, List.setIfInBounds_toArray, List.set_cons_zero, List.set_cons_succ]
            refine takeH 3 177 (.agg #[.slice aS3 Jc.ls.length pS3, .slice aW3 Jc.ws.length pW3, .int .i64 Jc.s, .int .i64 Jc.h, .int .i64 Jc.u, .slice aG3 Jc.g.length pG3, .slice aR3 Jc.l.length pR3]) (calm_then calm_body) rfl rfl (by kernel_rfl) (by kernel_rfl) (by kernel_rfl) (by rfl) (fun W' hSw => by obtain ⟨k0, k1, k2, k3, k4, k5, k6⟩ := (HC10.out.below (below_trans HZ12.out hSw)).1.c7; go_simp) hHeld ?_
            try simp only [Act.put, List.setIfInBounds_toArray, List.set_cons_zero, List.set_cons_succ]
            refine takeH 4 178 (.agg #[.slice aS ls.length cS, .slice aW 0 cW, .int .i64 t.seals, .int .i64 t.half, .int .i64 t.used, .slice aG g.length cG, .slice aR l.length cR]) (calm_then calm_body) rfl rfl (by kernel_rfl) (by kernel_rfl) (by kernel_rfl) (by rfl) (fun W' hSw => by obtain ⟨c0, c1, c2, c3, c4, c5, c6⟩ := (HJ10.out.below (below_trans HZ12.out hSw)).1.c7; go_simp) hHeld ?_
            try simp only [Act.put, List.setIfInBounds_toArray, List.set_cons_zero, List.set_cons_succ]
            refine takeH 5 179 (.pointer (some ⟨w.heap.size, 3, none⟩)) (calm_then calm_body) rfl rfl (by kernel_rfl) (by kernel_rfl) (by kernel_rfl) (by rfl) (fun W' hSw => by go_simp) hHeld ?_
            try simp only [Act.put, List.setIfInBounds_toArray, List.set_cons_zero, List.set_cons_succ]
            refine takeH 6 180 (.int .i64 t.half) (calm_then calm_body) rfl rfl (by kernel_rfl) (by kernel_rfl) (by kernel_rfl) (by rfl) (fun W' hSw => by obtain ⟨c0, c1, c2, c3, c4, c5, c6⟩ := (HJ10.out.below (below_trans HZ12.out hSw)).1.c7; go_simp) hHeld ?_
            try simp only [Act.put, List.setIfInBounds_toArray, List.set_cons_zero, List.set_cons_succ]
            refine takeH 7 181 (.int .i64 (IntKind.i64.wrap (1 - (t.half : Int)))) (calm_then calm_body) rfl rfl (by kernel_rfl) (by kernel_rfl) (by kernel_rfl) (by rfl) (fun W' hSw => by go_simp) hHeld ?_
            try simp only [Act.put, List.setIfInBounds_toArray, List.set_cons_zero, List.set_cons_succ]
            refine takeH 8 182 (.string F) (calm_then calm_body) rfl rfl (by kernel_rfl) (by kernel_rfl) (by kernel_rfl) (by rfl) (fun W' hSw => by go_simp) hHeld ?_
            try simp only [Act.put, List.setIfInBounds_toArray, List.set_cons_zero, List.set_cons_succ]
            refine wpAnyH_ready (rs := [9]) (by kernel_rfl) (by simp) (AllReadyH.cons rfl (fun K hK => ?_) AllReadyH.nil)
            go_simp
            go_at_call 20
            refine (HSD.out _ (below_trans HZ12.out hHeld)).mono ?_
            rintro e x7 ⟨vS7, vW7, vR7, rfl, hr7, hz⟩
            have hHeld2 := below_trans hHeld hz
            have HLK := Lib.hid (refLike_yes (HC10.out.below (below_trans HZ12.out hHeld2)).2 hr7 HL.out.2.2.1 HL.out.2.2.2.1 HL.out.2.2.2.2.1 HL.out.2.2.2.2.2)
            clear hz hr7
            unfold jv
            go_simp
            refine hK.out _ _ hHeld2 (fun hHeld => ?_)
            clear hK hHeld2
            try simp only [Act.put, List.setIfInBounds_toArray, List.set_cons_zero, List.set_cons_succ]
            refine wpAnyH_ready (rs := [10]) (by kernel_rfl) (by simp) (AllReadyH.cons rfl (fun K hK => ?_) AllReadyH.nil)
            go_simp
            go_at_call 10
            refine HLK.out.mono ?_
            rintro e x8 ⟨rfl, hz⟩
            have hHeld2 := below_trans hHeld hz
            clear hz HLK
            go_simp
            refine hK.out _ _ hHeld2 (fun hHeld => ?_)
            clear hK hHeld2
            try simp only [Act.put, List.setIfInBounds_toArray, List.set_cons_zero, List.set_cons_succ]
            refine takeH 11 185 (.bool true) (calm_then calm_body) rfl rfl (by kernel_rfl) (by kernel_rfl) (by kernel_rfl) (by rfl) (fun W' hSw => by go_simp) hHeld ?_
            try simp only [Act.put, List.setIfInBounds_toArray, List.set_cons_zero, List.set_cons_succ]
            refine takeH 12 4 (.bool true) (calm_then calm_body) rfl rfl (by kernel_rfl) (by kernel_rfl) (by kernel_rfl) (by rfl) (fun W' hSw => by go_simp) hHeld ?_
            try simp only [Act.put, List.setIfInBounds_toArray, List.set_cons_zero, List.set_cons_succ]
            refine wpAnyH_done (by kernel_rfl) ?_ _
            have HZ13 : Hid (Below x6.heap.size x6 x8) := Lib.hid hHeld
            clear hHeld
            go_wp2_with fail
            go_ret
            exact ⟨rfl, below_trans HBE.out (below_trans HZ10.out (below_trans HZ12.out HZ13.out))⟩

set_option maxRecDepth 100000 in
set_option maxHeartbeats 4000000 in
theorem lifted (os : Os) (started : os.Started) (H : Type) (enc : TypeId × Value → H) :
    ReturnsInHanded {} Tryz.checked os 4 .any (Rows.journalSealsSpec.pre6 enc Tryz.prog Tryz.f4 Rows.journalSealsRow.domain false) (Rows.journalSealsSpec.post enc Tryz.prog Tryz.f4 false true false false) := by
  refine returnsInHanded_of_change (C := Tryz.checked) own started (by kernel_rfl) Tryz.func4
    (ChangeSpec.witness6 (enc := enc) (C := Tryz.checked) false ⟨#[], #[.agg #[.slice none 0 0, .slice none 0 0, .int .i64 0, .int .i64 0, .int .i64 0, .slice none 0 0, .slice none 0 0], .string ByteArray.empty], []⟩ 8 (by kernel_rfl) (by kernel_rfl) (by kernel_rfl) (by kernel_rfl)) ?_
  intro W base args ds gs before hval0 hW hcnd _
  have hval : ∀ (j : Nat) t v, Tryz.f4.params[j]? = some t → args[j]? = some v → Value.okWide Tryz.prog W .any base t v := hval0
  have hW' := hW
  obtain ⟨p, q, hA0, hV, rfl, hfz, hnd⟩ := hW
  have hA : DataW.TrodAll enc Tryz.prog W 0 (fun _ => true) true Tryz.f4.params.toList args.toList ds p := hA0
  rw [Tryz.params4] at hA hval
  obtain ⟨v0, vs0, d0, ds0, p0, q0, hargs, rfl, rfl, h0, r0⟩ := trodAll_cons hA
  obtain ⟨v1, vs1, d1, ds1, p1, q1, rfl, rfl, rfl, h1, r1⟩ := trodAll_cons r0
  obtain ⟨rfl, rfl, rfl⟩ := trodAll_nil r1
  obtain rfl : args = #[v0, v1] := by cases args; simp_all
  obtain ⟨rfl, rfl⟩ := trodVars_none hV
  have k0 := h0
  have lt0 : ∀ x ∈ p0, x.block < W.heap.size := by obtain ⟨m, hm⟩ := k0; exact DataW.trod_lt m _ _ _ hm
  obtain ⟨fuel0, hf0⟩ := h0
  obtain ⟨vS, vW, s, hh, u, vG, vR, rfl, wS, wW, wG, wR, ws, wh, wu⟩ := open_journal (hval 0 27 v0 rfl rfl) hf0
  obtain ⟨a1, rfl, rfl, rfl, w1⟩ := open_string Tryz.underlying9 (hval 1 9 v1 rfl rfl) h1
  clear hA0 hval0
  refine (walk0 vS vW vG vR s hh u a1 (by simpa [maxLen] using w1) W wS wW wG wR).mono fun e W' ⟨he, bel⟩ => ?_
  subst he
  exact ⟨_, rfl, _, _, _, [], _, [], hW', trodAll_mk1 (shut_bool Tryz.underlying4 _), (trodAll_cons_mk (Below.trod laidOut (by kernel_rfl) (of_decide_eq_true (by kernel_rfl)) k0 bel lt0) (trodAll_cons_mk (shut_string Tryz.underlying9 w1) trodAll_mk0)), rfl, bel.frame _, fun h => by cases h⟩

theorem over : Rows.journalSealsRow.holds Tryz.pinned (OpenSpec.ofChange Rows.journalSealsSpec) :=
  OpenClaim.holds_of_wide 4 Tryz.f4 rfl rfl rfl rfl rfl rfl rfl ⟨rfl, rfl, rfl, rfl, rfl⟩ rfl rfl rfl rfl rfl (by kernel_rfl) Tryz.func4 (by kernel_rfl)
    (of_decide_eq_true (by kernel_rfl)) (by unfold Func.isWrapper; first | (rw [if_pos (by decide +kernel)]; kernel_rfl) | (rw [if_neg (by decide +kernel)]; exact ⟨rfl, rfl⟩))
    (fun os started H enc _ => lifted os started H enc)

theorem proved : Rows.JournalSealsSaid := over
#print axioms proved
end Go.Proofs.YtfdpoekgdcklmaaGreat.journalSeals
