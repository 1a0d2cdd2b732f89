/-
  Proved: for any journal, text, lateness and numbers the law JournalCrashes returns true: the disk that any crash leaves of any journal is as the document says, or refused. No condition.
-/
import Derived.Test.YtfdpoekgdcklmaaGreatRows
import Derived.Test.YtfdpoekgdcklmaaGreatMw
import Derived.Test.YtfdpoekgdcklmaaGreatMx
import Derived.Test.YtfdpoekgdcklmaaGreatMs
namespace Go.Proofs.YtfdpoekgdcklmaaGreat.journalCrashes
open Go.ChangeShapes Go.WideShapes Go.ChangeAt Go.RowKit Go.Lib Go.Proofs.YtfdpoekgdcklmaaGreat.Disk Go.Proofs.YtfdpoekgdcklmaaGreat.Disk.Jn
open Go.Proofs.YtfdpoekgdcklmaaGreat.Frame (frm frms)
open Go.ChangeMaps (open_string shut_string)
set_option linter.unusedVariables false

theorem own : ownKnob Tryz.prog.godebug = none := by kernel_rfl
theorem laidOut : laidOutB Tryz.prog = true := by kernel_rfl

theorem wrow_far {W : World} {v : Value} {ws : List (Int × ByteArray)} (h : WRow W v ws) {b i n c : Nat} {a : Option Addr} (hb : W.cell? ⟨b, 0, none⟩ = some (.slice a n c)) (u : Value) : WRow (W.setCell ⟨b, i, none⟩ u) v ws := by
  rcases h with h | ⟨g, cap, h1, hc, hg, hce⟩
  · exact .inl h
  · refine .inr ⟨g, cap, h1, hc, by simpa using hg, fun j hj => ?_⟩
    have ne : b ≠ g := by
      intro e
      subst e
      have := (hce 0 (by omega)).1
      rw [Nat.zero_mul, hb] at this
      cases this
    rw [World.cell?_setCell_other _ _ _ _ (by intro e; cases e; exact ne rfl), World.cell?_setCell_other _ _ _ _ (by intro e; cases e; exact ne rfl)]
    exact hce j hj
/-- A disk stored into its block: what lay elsewhere lies as it did. -/
theorem xset {W : World} {b : Nat} {a a2 : Option Addr} {n c n2 c2 : Nat} {v1 : Value} (hb : Box b [.slice a n c, v1] W) (v2 : Value) :
    Box b [.slice a2 n2 c2, v2] ((W.setCell ⟨b, 0, none⟩ (.slice a2 n2 c2)).setCell ⟨b, 1, none⟩ v2) ∧
    (∀ v l, Disk.SRow W v l → Disk.SRow ((W.setCell ⟨b, 0, none⟩ (.slice a2 n2 c2)).setCell ⟨b, 1, none⟩ v2) v l) ∧
    (∀ v l, WRow W v l → WRow ((W.setCell ⟨b, 0, none⟩ (.slice a2 n2 c2)).setCell ⟨b, 1, none⟩ v2) v l) :=
  have h0 := (hb.one (i := 0) (by simp) (.slice a2 n2 c2)).c2.1
  ⟨hb.st2 _ _, fun _ _ h => srow_apart (srow_apart h hb.c2.1 _) h0 _, fun _ _ h => wrow_far (wrow_far h hb.c2.1 _) h0 _⟩

/-- Behind the law's first statement. -/
def Cut1 (w : World) (q : Value) (wx : World) : Prop :=
  ∃ (aS aW aG aR : Option Addr) (cS cW cG cR : Nat) (J : JN) (d : ByteArray), q = .string d ∧ d.size ≤ 3002 ∧ JSmall J ∧ J.g.length ≤ 18 ∧
    JB w.heap.size (.slice aS J.ls.length cS) (.slice aW J.ws.length cW) (.slice aG J.g.length cG) (.slice aR J.l.length cR) J wx ∧ Below w.heap.size w wx

set_option maxRecDepth 100000 in
set_option maxHeartbeats 4000000 in
theorem walk0 (vS vW vG vR : Value) (s h u : Int) (d : ByteArray) (hd : d.size ≤ 9223372036854775807) (late : Bool) (kp : Nat) (hkp : kp < 18446744073709551616) (tn : Int) (ht1 : -9223372036854775808 ≤ tn) (ht2 : tn ≤ 9223372036854775807) (w : World) (hS : ArgS w vS) (hW : ArgW w vW) (hG : ArgS w vG) (hR : ArgS w vR) :
    Calls Tryz.prog 5 #[jv vS vW s h u vG vR, .string d, .bool late, .int .u64 kp, .int .i64 tn] w (BoolB true w) := by
  have HFE := Lib.hid (fun W (hb : Below w.heap.size w W) => few_any (s := s) (h := h) (u := u) (hS.below hb) (hW.below hb) (hG.below hb) (hR.below hb))
  obtain ⟨aS, nS, cS, rfl⟩ := argS_slice hS
  obtain ⟨aW, nW, cW, rfl⟩ := argW_slice hW
  obtain ⟨aG, nG, cG, rfl⟩ := argS_slice hG
  obtain ⟨aR, nR, cR, rfl⟩ := argS_slice hR
  have HB0 := Lib.hid (al w (.cells #[.slice aS nS cS, .slice aW nW cW, .int .i64 s, .int .i64 h, .int .i64 u, .slice aG nG cG, .slice aR nR cR] 27))
  have HX0 := Lib.hid (Box.made w [.slice aS nS cS, .slice aW nW cW, .int .i64 s, .int .i64 h, .int .i64 u, .slice aG nG cG, .slice aR nR cR] 27)
  clear hS hW hG hR
  unfold jv at HFE ⊢
  go_enter Tryz.func5, Tryz.ntmps5
  go_upto_region 1 with (fail)
  generalize (w.alloc _) = W at HB0 HX0 ⊢
  have hWb : w.heap.size < W.heap.size := HX0.out.1
  go_cut [1] from 17 to 23 (fun q wx => Cut1 w q wx)
  case first =>
    obtain ⟨q, hq, hqd, hq2⟩ : ∃ n : Nat, min (d.size : Int) 3002 = n ∧ n ≤ d.size ∧ n ≤ 3002 := ⟨min d.size 3002, by omega, by omega, by omega⟩
    have i0 : (0 : Int) ≤ (q : Int) := by omega
    have i1 : (q : Int) ≤ (d.size : Int) := by omega
    have i2 : ¬ (q : Int) < 0 := by omega
    have i3 : ¬ (d.size : Int) < (q : Int) := by omega
    obtain ⟨c0, c1, c2, c3, c4, c5, c6⟩ := HX0.out.c7
    have HBD := Lib.hid (below_trans HB0.out ((Below.refl W.heap.size W).drew))
    refine wp_region_held_drew (S := fun _ => True) (by kernel_rfl) trivial (fun hHeld => ?_)
    refine takeH 2 19 (.string d) (calm_then calm_body) rfl rfl (by kernel_rfl) (by kernel_rfl) (by kernel_rfl) (by rfl) (fun w hSw => by go_simp) trivial ?_
    try simp only [Act.put, List.setIfInBounds_toArray, List.set_cons_zero, List.set_cons_succ]
    refine takeH 3 20 (.string d) (calm_then calm_body) rfl rfl (by kernel_rfl) (by kernel_rfl) (by kernel_rfl) (by rfl) (fun w hSw => by go_simp) trivial ?_
    try simp only [Act.put, List.setIfInBounds_toArray, List.set_cons_zero, List.set_cons_succ]
    refine takeH 4 21 (.int .i64 d.size) (calm_then calm_body) rfl rfl (by kernel_rfl) (by kernel_rfl) (by kernel_rfl) (by rfl) (fun w hSw => by go_simp) trivial ?_
    try simp only [Act.put, List.setIfInBounds_toArray, List.set_cons_zero, List.set_cons_succ]
    refine takeH 5 22 (.int .i64 q) (calm_then calm_body) rfl rfl (by kernel_rfl) (by kernel_rfl) (by kernel_rfl) (by rfl) (fun w hSw => by go_simp) trivial ?_
    try simp only [Act.put, List.setIfInBounds_toArray, List.set_cons_zero, List.set_cons_succ]
    refine takeH 6 23 (.string (d.extract 0 q)) (calm_then calm_body) rfl rfl (by kernel_rfl) (by kernel_rfl) (by kernel_rfl) (by rfl) (fun w hSw => by go_simp) trivial ?_
    try simp only [Act.put, List.setIfInBounds_toArray, List.set_cons_zero, List.set_cons_succ]
    refine wpAnyH_ready (rs := [0]) (by kernel_rfl) (by simp) (AllReadyH.cons rfl (fun K hK => ?_) AllReadyH.nil)
    go_simp
    refine hK.out _ _ trivial (fun hHeld => ?_)
    clear hK
    try simp only [Act.put, List.setIfInBounds_toArray, List.set_cons_zero, List.set_cons_succ]
    refine wpAnyH_ready (rs := [1]) (by kernel_rfl) (by simp) (AllReadyH.cons rfl (fun K hK => ?_) AllReadyH.nil)
    go_simp
    go_at_call 7
    refine (HFE.out _ HBD.out).mono ?_
    rintro e V ⟨vS, vW, vG, vR, ls, ws, g, l, rfl, k1, k2, k3, kS, kW, kG, kR, kb⟩
    have HSM := Lib.hid (And.intro (small_few (s := s) (h := h) (u := u) k1 k2 k3) k2.1)
    obtain ⟨aS1, pS1, rfl⟩ := kS.1.slice
    obtain ⟨aW1, pW1, rfl⟩ := kW.1.slice
    obtain ⟨aG1, pG1, rfl⟩ := kG.1.slice
    obtain ⟨aR1, pR1, rfl⟩ := kR.1.slice
    have hWV : Below W.heap.size W V := below_trans ((Below.refl W.heap.size W).drew) kb
    have HY := Lib.hid (jrow_end (s := s) (h := h) (u := u) HB0.out (Nat.le_refl _) hWb hWV (HX0.out.below hWV) kS kW kG kR)
    obtain ⟨f0, f1, f2, f3, f4, f5, f6⟩ := (HX0.out.below hWV).f7
    obtain ⟨r0, r1, r2, r3, r4, r5, r6⟩ := (HX0.out.below hWV).c7
    clear k1 k2 k3 kS kW kG kR kb hWV c0 c1 c2 c3 c4 c5 c6
    unfold jv
    go_simp
    refine hK.out _ _ trivial (fun hHeld => ?_)
    clear hK
    try simp only [Act.put, List.setIfInBounds_toArray, List.set_cons_zero, List.set_cons_succ]
    refine wpAnyH_ready (rs := [7]) (by kernel_rfl) (by simp) (AllReadyH.cons rfl (fun K hK => ?_) AllReadyH.nil)
    go_simp
    refine hK.out _ _ trivial (fun hHeld => ?_)
    clear hK
    try simp only [Act.put, List.setIfInBounds_toArray, List.set_cons_zero, List.set_cons_succ]
    refine takeH 8 1 (.string (d.extract 0 q)) (calm_then calm_body) rfl rfl (by kernel_rfl) (by kernel_rfl) (by kernel_rfl) (by rfl) (fun w hSw => by go_simp) trivial ?_
    try simp only [Act.put, List.setIfInBounds_toArray, List.set_cons_zero, List.set_cons_succ]
    refine wpAnyH_done (by kernel_rfl) ?_ _
    go_wp2_with fail
    go_meet
    exact ⟨aS1, aW1, aG1, aR1, pS1, pW1, pG1, pR1, ⟨ls, ws, s, h, u, g, l⟩, d.extract 0 q, rfl, by rw [ByteArray.size_extract]; omega, HSM.out.1, HSM.out.2, ⟨HY.out.1, HY.out.2.1⟩, HY.out.2.2⟩
  case rest =>
    clear HFE HB0 HX0 hWb hd
    rename World => W1
    obtain ⟨aS, aW, aG, aR, cS, cW, cG, cR, J, d, rfl, hd, hsm, hg18, hJB, hbe⟩ := hcut
    have HJB := Lib.hid hJB
    have HBE := Lib.hid hbe
    have HSM := Lib.hid hsm
    have hwb := hJB.1.1
    obtain ⟨c0, c1, c2, c3, c4, c5, c6⟩ := hJB.1.c7
    clear hJB hbe hsm
    by_cases hmay : ∃ t, May J t
    case neg =>
      have hno : ∀ t, ¬ May J t := fun t h => hmay ⟨t, h⟩
      have HCR := Lib.hid (Crash_bad HJB.out.2 HSM.out hno d late kp tn)
      have HRR := Lib.hid (fun W' (hb : Below W1.heap.size W1 W') => refRight_no (HJB.out.2.below hb) HSM.out (by omega) hno)
      clear hno hmay
      unfold jv at HCR HRR
      go_wp2_with fail
      refine HCR.out.mono ?_
      clear HCR
      rintro e y ⟨uS, uW, rfl, hS, hW, hy⟩
      obtain ⟨aS2, cS2, rfl⟩ := hS.1.slice
      obtain ⟨aW2, cW2, rfl⟩ := hW.1.slice
      have HY := Lib.hid (below_trans hy (al y (.cells #[.slice aS2 ([] : List ByteArray).length cS2, .slice aW2 ([] : List (Int × ByteArray)).length cW2] 25)))
      have HD := Lib.hid (Box.made y [.slice aS2 ([] : List ByteArray).length cS2, .slice aW2 ([] : List (Int × ByteArray)).length cW2] 25)
      have HJY := Lib.hid (HJB.out.below HY.out)
      clear hS hW hy c0 c1 c2 c3 c4 c5 c6
      simp only [List.length_nil] at HD HY HJY ⊢
      obtain ⟨c0, c1, c2, c3, c4, c5, c6⟩ := HJY.out.1.c7
      go_wp2_with (first
        | (go_at_call 12; (with_reducible refine (HRR.out _ HY.out).mono ?_); rintro e z ⟨rfl, hz⟩; have HZ := Lib.hid (below_trans HY.out hz); have HDZ := Lib.hid (Box.below HD.out hz); clear hz c0 c1 c2 c3 c4 c5 c6; obtain ⟨d0, d1⟩ := HDZ.out.c2)
        | (go_at_call 13; (with_reducible refine (alive_any _).mono ?_); rintro e z2 ⟨rfl, hz⟩; have HZ2 := Lib.hid (below_trans HZ.out hz); clear d0 d1; obtain ⟨d0, d1⟩ := (Box.below HDZ.out hz).c2; clear hz)
        | fail)
      go_ret
      exact ⟨rfl, below_trans HBE.out HZ2.out⟩
    obtain ⟨t, hm⟩ := hmay
    have HS1 : Hid (J.s = (t.seals : Int)) := Lib.hid hm.hs
    have HH1 : Hid (J.h = (t.half : Int)) := Lib.hid hm.hh
    have HU1 : Hid (J.u = (t.used : Int)) := Lib.hid hm.hu
    have HMP := Lib.hid (opens_may hm.op)
    have hl512 := opens_len hm.op
    have h8 := hm.op.2.1
    have HRR := Lib.hid (fun W' (hb : Below W1.heap.size W1 W') => refRight_yes (HJB.out.2.below hb) (by omega) hm)
    have HFR := Lib.hid (fun W' => Go.Proofs.YtfdpoekgdcklmaaGreat.Frame.refFrame_any d W' (by omega))
    have HRM := Lib.hid (fun W' => refRoom_any J.ls.length h8 (by omega) W')
    obtain ⟨F, hF⟩ : ∃ F : ByteArray, (⟨(frm d).toArray⟩ : ByteArray) = F := ⟨_, rfl⟩
    have hFs : F.size = (frm d).length := by rw [← hF, Go.Proofs.YtfdpoekgdcklmaaGreat.Frame.mk_size]
    rw [hF] at HFR
    by_cases hok : CrashOk J t d
    case neg =>
      have HCR := Lib.hid (Crash_refused HJB.out.2 HSM.out hm (by omega) hok late kp tn)
      have hk : (3000 < d.size ∧ crashK d = 3) ∨ (¬ 3000 < d.size ∧ crashK d = 7 ∧ t.seals = 1099511627776) ∨ (¬ 3000 < d.size ∧ crashK d = 7 ∧ t.seals ≠ 1099511627776 ∧ d.size ≠ 0 ∧ roomN J.ls.length < F.size) := by
        rw [hFs]
        unfold crashK
        unfold CrashOk at hok
        by_cases c : 3000 < d.size
        · rw [if_pos c]; exact .inl ⟨c, rfl⟩
        · rw [if_neg c]
          by_cases c2 : t.seals = 1099511627776
          · exact .inr (.inl ⟨c, rfl, c2⟩)
          · refine .inr (.inr ⟨c, rfl, c2, ?_⟩)
            apply Classical.byContradiction
            intro hc
            exact hok ⟨c2, by omega, fun h0 => by omega⟩
      generalize crashK d = k at HCR hk
      have HK := Lib.hid hk
      clear hm hok hF hFs hk
      unfold jv at HCR HRR
      go_wp2_with fail
      refine HCR.out.mono ?_
      clear HCR
      rintro e y ⟨uS, uW, rfl, hS, hW, hy⟩
      obtain ⟨aS2, cS2, rfl⟩ := hS.1.slice
      obtain ⟨aW2, cW2, rfl⟩ := hW.1.slice
      have HY := Lib.hid (below_trans hy (al y (.cells #[.slice aS2 ([] : List ByteArray).length cS2, .slice aW2 ([] : List (Int × ByteArray)).length cW2] 25)))
      have HD := Lib.hid (Box.made y [.slice aS2 ([] : List ByteArray).length cS2, .slice aW2 ([] : List (Int × ByteArray)).length cW2] 25)
      have HJY := Lib.hid (HJB.out.below HY.out)
      clear hS hW hy c0 c1 c2 c3 c4 c5 c6
      simp only [List.length_nil] at HD HY HJY ⊢
      obtain ⟨c0, c1, c2, c3, c4, c5, c6⟩ := HJY.out.1.c7
      rcases HK.out with ⟨hd3, rfl⟩ | ⟨hd3, rfl, hs40⟩ | ⟨hd3, rfl, hs40, hd0, hrm⟩
      · have hd3' : (3000 : Int) < (d.size : Int) := by omega
        go_wp2_with (first
          | (go_at_call 12; (with_reducible refine (HRR.out _ HY.out).mono ?_); rintro e z ⟨rfl, hz⟩; have HZ := Lib.hid (below_trans HY.out hz); have HDZ := Lib.hid (Box.below HD.out hz); clear hz c0 c1 c2 c3 c4 c5 c6; obtain ⟨d0, d1⟩ := HDZ.out.c2)
          | (go_at_call 13; (with_reducible refine (alive_any _).mono ?_); rintro e z2 ⟨rfl, hz⟩; have HZ2 := Lib.hid (below_trans HZ.out hz); clear d0 d1; obtain ⟨d0, d1⟩ := (Box.below HDZ.out hz).c2; clear hz)
          | fail)
        go_ret
        exact ⟨rfl, below_trans HBE.out HZ2.out⟩
      · have hd3' : ¬ (3000 : Int) < (d.size : Int) := by omega
        have HS' : Hid (J.s = 1099511627776) := Lib.hid (by rw [HS1.out, hs40]; rfl)
        clear HK hs40
        go_upto_region 7 with (first
          | (go_at_call 12; (with_reducible refine (HRR.out _ HY.out).mono ?_); rintro e z ⟨rfl, hz⟩; have HZ := Lib.hid (below_trans HY.out hz); have HDZ := Lib.hid (Box.below HD.out hz); have HJZ := Lib.hid (HJY.out.below hz); clear hz c0 c1 c2 c3 c4 c5 c6; obtain ⟨c0, c1, c2, c3, c4, c5, c6⟩ := HJZ.out.1.c7; rw [HS'.out] at c2)
          | fail)
        go_region
        have HZD := Lib.hid (below_trans HZ.out (dr z))
        have HDD := Lib.hid (Box.below HDZ.out (dr z))
        clear c0 c1 c2 c3 c4 c5 c6
        obtain ⟨d0, d1⟩ := HDD.out.c2
        go_wp2_with (first
          | (go_at_call 13; (with_reducible refine (alive_any _).mono ?_); rintro e z2 ⟨rfl, hz⟩; have HZ2 := Lib.hid (below_trans HZD.out hz); clear d0 d1; obtain ⟨d0, d1⟩ := (Box.below HDD.out hz).c2; clear hz)
          | fail)
        go_ret
        exact ⟨rfl, below_trans HBE.out HZ2.out⟩
      · have hd3' : ¬ (3000 : Int) < (d.size : Int) := by omega
        have hsne : (J.s == 1099511627776) = false := by rw [HS1.out]; simp; omega
        have hem := (empty_no hd0).2
        have hrm' : ((roomN J.ls.length : Nat) : Int) < (F.size : Int) := by omega
        clear HK hs40
        go_upto_region 7 with (first
          | (go_at_call 12; (with_reducible refine (HRR.out _ HY.out).mono ?_); rintro e z ⟨rfl, hz⟩; have HZ := Lib.hid (below_trans HY.out hz); have HDZ := Lib.hid (Box.below HD.out hz); have HJZ := Lib.hid (HJY.out.below hz); clear hz c0 c1 c2 c3 c4 c5 c6)
          | fail)
        have HSF : Hid (∀ w', Below z.heap.size z w' → w'.cell? ⟨w.heap.size, 0, none⟩ = some (.slice aS J.ls.length cS) ∧ w'.cell? ⟨w.heap.size, 2, none⟩ = some (.int .i64 J.s)) := Lib.hid (fun w' hb => by
          obtain ⟨k0, k1, k2, k3, k4, k5, k6⟩ := (HJZ.out.below hb).1.c7
          exact ⟨k0, k2⟩)
        have HS0 := Lib.hid (HSF.out _ (Below.refl _ _))
        obtain ⟨c0, c2⟩ := HS0.out
        go_region_held3 (fun w' => w'.cell? ⟨w.heap.size, 0, none⟩ = some (.slice aS J.ls.length cS) ∧ w'.cell? ⟨w.heap.size, 2, none⟩ = some (.int .i64 J.s))
          (first | with_reducible exact HSF.out _ (dr z) | with_reducible exact HSF.out _ HZ3.out | fail)
          (first
            | (go_at_call 22; (with_reducible refine (HFR.out _).mono ?_); rintro e z3 ⟨rfl, hz⟩; have HZ3 := Lib.hid (below_trans (dr z) hz); clear hz)
            | (go_at_call 23; (with_reducible refine (HRM.out _).mono ?_); rintro e z4 ⟨rfl, rfl⟩)
            | fail)
        have HZD := Lib.hid (below_trans HZ.out HZ3.out)
        have HDD := Lib.hid (Box.below HDZ.out HZ3.out)
        obtain ⟨d0, d1⟩ := HDD.out.c2
        go_wp2_with (first
          | (go_at_call 13; (with_reducible refine (alive_any _).mono ?_); rintro e z2 ⟨rfl, hz⟩; have HZ2 := Lib.hid (below_trans HZD.out hz); clear d0 d1; obtain ⟨d0, d1⟩ := (Box.below HDD.out hz).c2; clear hz)
          | fail)
        go_ret
        exact ⟨rfl, below_trans HBE.out HZ2.out⟩
    have HCR := Lib.hid (Crash_ok HJB.out.2 hm hok late kp hkp tn)
    have hse := crash_seals hm hok
    have hbr := wait_zero.1 hm.wt
    obtain ⟨ls, ws, sj, hj, uj, g, l⟩ := J
    have e1 := hm.nw
    have e2 := hm.hs
    have e3 := hm.hh
    have e4 := hm.hu
    have hop := hm.op
    dsimp only at e1 e2 e3 e4 hop hse hbr h8 hl512 HRM hg18 c0 c1 c2 c3 c4 c5 c6
    subst e1 e2 e3 e4
    unfold crashS crashWr at HCR
    unfold jv at HCR HRR
    dsimp only at HCR HRR HJB
    simp only [List.length_nil] at HCR HRR HJB c1
    have hsne : ((t.seals : Int) == 1099511627776) = false := by have := hok.1; simp; omega
    have hd3 : ¬ (3000 : Int) < (d.size : Int) := by have := hok.2.1; omega
    have HRME : Hid (d.size ≠ 0 → ¬ ((roomN ls.length : Nat) : Int) < (F.size : Int)) := Lib.hid (fun h0 => by have := hok.2.2 h0; dsimp only at this; omega)
    have HCB : Hid (d.size ≠ 0 → cBs ⟨ls, [], t.seals, t.half, t.used, g, l⟩ d = F) := Lib.hid (fun h0 => by unfold cBs; rw [if_neg h0, hF])
    clear hok hm HS1 HH1 HU1 HSM
    have hle1 : cHalf t d ≤ 1 := hse.fits.h1
    obtain ⟨hf, hhf⟩ : ∃ n, cHalf t d = n := ⟨_, rfl⟩
    obtain ⟨fr, hfr⟩ : ∃ n, cFr t d = n := ⟨_, rfl⟩
    obtain ⟨S, hS⟩ : ∃ S, cBs ⟨ls, [], t.seals, t.half, t.used, g, l⟩ d = S := ⟨_, rfl⟩
    rw [hhf, hfr, hS] at HCR hse
    rw [hhf] at hle1
    have HHF : Hid ((d.size = 0 → hf = t.half ∧ fr = t.used ∧ S = ⟨(frms g).toArray⟩) ∧ (d.size ≠ 0 → 1 - (t.half : Int) = (hf : Int) ∧ fr = 0 ∧ S = F)) := Lib.hid (by
      constructor
      · intro h0
        rw [← hhf, ← hfr, ← hS]
        unfold cHalf cFr cBs
        rw [if_pos h0, if_pos h0, if_pos h0]
        exact ⟨rfl, rfl, rfl⟩
      · intro h0
        rw [← hhf, ← hfr, ← hS]
        unfold cHalf cFr cBs
        rw [if_neg h0, if_neg h0, if_neg h0]
        exact ⟨by have := HMP.out.1; omega, rfl, hF⟩)
    have HHS := Lib.hid hse
    have HOP := Lib.hid hop
    have HBR := Lib.hid hbr
    clear hse hop hbr hhf hfr hS HCB hF hFs
    go_wp2_with fail
    refine HCR.out.mono ?_
    clear HCR
    rintro e y ⟨uS, uW, rfl, hS, hW, hy⟩
    obtain ⟨aS2, cS2, rfl⟩ := hS.1.slice
    obtain ⟨aW2, cW2, rfl⟩ : ∃ a c, uW = .slice a 0 c := hW.1.slice
    generalize hL : crashL kp _ _ tn = L at hS ⊢
    have HLL := Lib.hid hL
    have HY := Lib.hid (below_trans hy (al y (.cells #[.slice aS2 L.length cS2, .slice aW2 0 cW2] 25)))
    have HD := Lib.hid (Box.made y [.slice aS2 L.length cS2, .slice aW2 0 cW2] 25)
    have HDS := Lib.hid (And.intro (hS.1.below (al y (.cells #[.slice aS2 L.length cS2, .slice aW2 0 cW2] 25))) (hW.1.below (al y (.cells #[.slice aS2 L.length cS2, .slice aW2 0 cW2] 25))))
    have HJY := Lib.hid (HJB.out.below HY.out)
    clear hS hW hy hL c0 c1 c2 c3 c4 c5 c6
    obtain ⟨c0, c1, c2, c3, c4, c5, c6⟩ := HJY.out.1.c7
    go_upto_region 7 with (first
      | (go_at_call 12; (with_reducible refine (HRR.out _ HY.out).mono ?_); rintro e z ⟨rfl, hz⟩; have HZ := Lib.hid (below_trans HY.out hz); have HDZ := Lib.hid (Box.below HD.out hz); have HDT := Lib.hid (And.intro (HDS.out.1.below hz) (HDS.out.2.below hz)); have HJZ := Lib.hid (HJY.out.below hz); clear hz c0 c1 c2 c3 c4 c5 c6)
      | fail)
    clear HY HD HDS HJY HRR HJB
    generalize y.heap.size = db at HDZ ⊢
    have HSF : Hid (∀ w', Below z.heap.size z w' → w'.cell? ⟨w.heap.size, 0, none⟩ = some (.slice aS ls.length cS) ∧ w'.cell? ⟨w.heap.size, 2, none⟩ = some (.int .i64 t.seals)) := Lib.hid (fun w' hb => by
      obtain ⟨k0, k1, k2, k3, k4, k5, k6⟩ := (HJZ.out.below hb).1.c7
      exact ⟨k0, k2⟩)
    have HS0 := Lib.hid (HSF.out _ (Below.refl _ _))
    obtain ⟨c0, c2⟩ := HS0.out
    by_cases h0 : d.size = 0
    · have hem := (empty_yes h0).2.1
      go_region
      have HZ2 := Lib.hid (below_trans HZ.out (dr z))
      have HJ2 := Lib.hid (HJZ.out.below (dr z))
      clear c0 c2
      obtain ⟨rfl, rfl, rfl⟩ := HHF.out.1 h0
      obtain ⟨G, hG⟩ : ∃ G : ByteArray, (⟨(frms g).toArray⟩ : ByteArray) = G := ⟨_, rfl⟩
      have HWH := Lib.hid (fun W' (hb : Below z.drew.heap.size z.drew W') => (show Calls Tryz.prog 21 #[.slice aG g.length cG] W' (fun e w' => e = .returned (.string G) ∧ Below W'.heap.size W' w') from by
        rw [← hG]
        exact Go.Proofs.YtfdpoekgdcklmaaGreat.Frame.Whole_any (HJ2.out.2.rG.below hb) (fun x hx => by have := HBR.out.1 x hx; omega) (by have := HBR.out.2.2.1; omega) (by omega)))
      rw [hG] at HHS HLL
      clear hG
      go_upto_region 9 with fail
      have HZD := Lib.hid (dr z)
      generalize z.drew = z1 at *
      have HSG : Hid (∀ w', Below z1.heap.size z1 w' → w'.cell? ⟨w.heap.size, 3, none⟩ = some (.int .i64 t.half) ∧ w'.cell? ⟨w.heap.size, 4, none⟩ = some (.int .i64 t.used) ∧ w'.cell? ⟨w.heap.size, 5, none⟩ = some (.slice aG g.length cG)) := Lib.hid (fun w' hb => by
        obtain ⟨k0, k1, k2, k3, k4, k5, k6⟩ := (HJ2.out.below hb).1.c7
        exact ⟨k3, k4, k5⟩)
      have HS1 := Lib.hid (HSG.out _ (Below.refl _ _))
      obtain ⟨c3, c4, c5⟩ := HS1.out
      go_region_held3 (fun w' => w'.cell? ⟨w.heap.size, 3, none⟩ = some (.int .i64 t.half) ∧ w'.cell? ⟨w.heap.size, 4, none⟩ = some (.int .i64 t.used) ∧ w'.cell? ⟨w.heap.size, 5, none⟩ = some (.slice aG g.length cG))
        (first | with_reducible exact HSG.out _ (dr z1) | with_reducible exact HSG.out _ HZ3.out | fail)
        (first
          | (go_at_call 21; (with_reducible refine (HWH.out _ (dr z1)).mono ?_); rintro e z3 ⟨rfl, hz⟩; have HZ3 := Lib.hid (below_trans (dr z1) hz); clear hz)
          | fail)
      have HJ3 := Lib.hid (HJ2.out.below HZ3.out)
      have HB3 := Lib.hid (below_trans HZ2.out HZ3.out)
      have HZ23 := Lib.hid (below_trans HZD.out HZ3.out)
      clear c3 c4 c5
      obtain ⟨c0, c1, c2, c3, c4, c5, c6⟩ := HJ3.out.1.c7
      have hS3 : Disk.SRow z3 (.slice aS ls.length cS) ls := HJ3.out.2.rS
      have hW3 : WRow z3 (.slice aW 0 cW) [] := HJ3.out.2.rW
      have hfit := HHS.out.fits
      have hshort := HHS.out.short
      have hslt := HHS.out.lt
      rw [bytes_size] at hfit hshort
      have HFI := Lib.hid (refFirst_any (vG := .slice aG g.length cG) (vR := .slice aR l.length cR) hS3 hW3 (secs_of HOP.out.1) (by omega) hfit hshort (s := t.seals) (by omega) t.half t.used)
      have HSE := Lib.hid (fun W' (hb : Below z3.heap.size z3 W') => refSecond_any (vG := .slice aG g.length cG) (vR := .slice aR l.length cR) (hS3.below hb) (hW3.below hb) HOP.out HHS.out t.half t.used)
      have HR1 := Lib.hid (first_right (q := (t.seals + 1) % 2) HOP.out.1 HHS.out.fits HHS.out.short (by omega))
      have HR2 := Lib.hid (head_right (t := t) (half := t.half) (fr := t.used) (len := G.size) (flushed_opens HOP.out HHS.out).1 (by rw [flushed_len]; omega))
      clear hS3 hW3 hfit hshort
      cases late
      case false =>
        have hL1000 : L.length ≤ 1000 := by
          have h1 := (rightB_t.1 (crash_right HR1.out (kp := kp) (t := tn))).2.1
          have h2 := HLL.out
          simp only [Bool.false_eq_true, if_false] at h2
          rw [h2] at h1; omega
        have HCC := Lib.hid (fun (v1 : Value) (W' : World) (h0 : Disk.SRow W' (.slice aS ls.length cS) ls) (h1 : WRow W' v1 (firstW ls ((t.seals + 1) % 2) t.half t.used G.data.toList)) => (show Calls Tryz.prog 28 #[.agg #[.slice aS ls.length cS, v1], .int .u64 kp, .int .i64 tn] W' (DiskD L [] W') from HLL.out ▸ refCrash_any h0 h1 HR1.out kp hkp tn))
        go_wp2_with (first
          | (go_at_call 25; (with_reducible refine HFI.out.mono ?_); rintro e x1 ⟨v1, rfl, hr1, hf1, hb1⟩; have HX1 := Lib.hid hb1; have HXR := Lib.hid hr1; obtain ⟨a1, p1, rfl⟩ := hr1.slice; clear hr1 hf1 hb1 c0 c1 c2 c3 c4 c5 c6)
          | fail)
        have hxa := al x1 (.cells #[.slice aS ls.length cS, .slice a1 (firstW ls ((t.seals + 1) % 2) t.half t.used G.data.toList).length p1] 25)
        have HXB := Lib.hid (Box.made x1 [.slice aS ls.length cS, .slice a1 (firstW ls ((t.seals + 1) % 2) t.half t.used G.data.toList).length p1] 25)
        have HB4 := Lib.hid (below_trans (below_trans HB3.out HX1.out) hxa)
        have HJ4 := Lib.hid ((HJ3.out.below HX1.out).below hxa)
        have HD4 := Lib.hid ((HDZ.out.below HZ23.out).below (below_trans HX1.out hxa))
        have HT4 := Lib.hid (And.intro ((HDT.out.1.below HZ23.out).below (below_trans HX1.out hxa)) ((HDT.out.2.below HZ23.out).below (below_trans HX1.out hxa)))
        have HR4 := Lib.hid (And.intro (HJ4.out.2.rS) (HXR.out.below hxa))
        change Hid (Box x1.heap.size _ (x1.alloc (.cells #[.slice aS ls.length cS, .slice a1 (firstW ls ((t.seals + 1) % 2) t.half t.used G.data.toList).length p1] 25))) at HXB
        clear hxa HXR HX1
        generalize (firstW ls ((t.seals + 1) % 2) t.half t.used G.data.toList) = FW at *
        generalize x1.alloc _ = x2 at HXB HB4 HJ4 HD4 HT4 HR4 ⊢
        generalize x1.heap.size = xb at HXB ⊢
        have HSX : Hid (∀ w', Below x2.heap.size x2 w' → w'.cell? ⟨db, 0, none⟩ = some (.slice aS2 L.length cS2) ∧ w'.cell? ⟨db, 1, none⟩ = some (.slice aW2 0 cW2) ∧ w'.cell? ⟨xb, 0, none⟩ = some (.slice aS ls.length cS) ∧ w'.cell? ⟨xb, 1, none⟩ = some (.slice a1 FW.length p1)) := Lib.hid (fun w' hb => ⟨((HD4.out.below hb).c2).1, ((HD4.out.below hb).c2).2, ((HXB.out.below hb).c2).1, ((HXB.out.below hb).c2).2⟩)
        have HS4 := Lib.hid (HSX.out _ (Below.refl _ _))
        obtain ⟨d0, d1, x0, x1'⟩ := HS4.out
        go_region_held3 (fun w' => w'.cell? ⟨db, 0, none⟩ = some (.slice aS2 L.length cS2) ∧ w'.cell? ⟨db, 1, none⟩ = some (.slice aW2 0 cW2) ∧ w'.cell? ⟨xb, 0, none⟩ = some (.slice aS ls.length cS) ∧ w'.cell? ⟨xb, 1, none⟩ = some (.slice a1 FW.length p1))
          (first | with_reducible exact HSX.out _ (dr x2) | with_reducible exact HSX.out _ HZ5.out | with_reducible exact HSX.out _ HZ6.out | with_reducible exact HSX.out _ HZ7.out | fail)
          (first
            | (go_at_call 13; (with_reducible refine (alive_any _).mono ?_); rintro e y5 ⟨rfl, hz⟩; have HZ5 := Lib.hid (below_trans (dr x2) hz); clear hz)
            | (go_at_call 28; (with_reducible refine (HCC.out _ _ (HR4.out.1.below HZ5.out) (HR4.out.2.below HZ5.out)).mono ?_); rintro e y6 ⟨v7, v8, rfl, h7, h8, hz⟩; have HZ6 := Lib.hid (below_trans HZ5.out hz); have HLK := Lib.hid (Like_yes (HT4.out.1.below HZ6.out) (HT4.out.2.below HZ6.out) h7 h8 hL1000 (by simp)); clear hz h7 h8)
            | (go_at_call 27; (with_reducible refine HLK.out.mono ?_); rintro e y7 ⟨rfl, hz⟩; have HZ7 := Lib.hid (below_trans HZ6.out hz); clear hz)
            | fail)
        go_wp2_with fail
        go_ret
        exact ⟨rfl, below_trans HBE.out (below_trans HB4.out HZ7.out)⟩
      case true =>
        have hL1000 : L.length ≤ 1000 := by
          have h1 := (rightB_t.1 (crash_right HR2.out (kp := kp) (t := tn))).2.1
          have h2 := HLL.out
          simp only [if_true] at h2
          rw [h2] at h1; omega
        have HCC := Lib.hid (fun (v0 v1 : Value) (W' : World) (h0 : Disk.SRow W' v0 (flushed ls t t.half t.used G.data.toList)) (h1 : WRow W' v1 (headW t t.half t.used G.size)) => (show Calls Tryz.prog 28 #[.agg #[v0, v1], .int .u64 kp, .int .i64 tn] W' (DiskD L [] W') from HLL.out ▸ refCrash_any h0 h1 HR2.out kp hkp tn))
        generalize (flushed ls t t.half t.used G.data.toList) = FL at *
        generalize (headW t t.half t.used G.size) = HW at *
        go_wp2_with (first
          | (go_at_call 25; (with_reducible refine HFI.out.mono ?_); rintro e x1 ⟨v1, rfl, hr1, hf1, hb1⟩; have HX1 := Lib.hid hb1; obtain ⟨a1, p1, rfl⟩ := hr1.slice; have HXA := Lib.hid (below_trans hb1 (al x1 (.cells #[.slice aS ls.length cS, .slice a1 (firstW ls ((t.seals + 1) % 2) t.half t.used G.data.toList).length p1] 25))); have HXB := Lib.hid (Box.made x1 [.slice aS ls.length cS, .slice a1 (firstW ls ((t.seals + 1) % 2) t.half t.used G.data.toList).length p1] 25); clear hr1 hf1 hb1 c0 c1 c2 c3 c4 c5 c6; obtain ⟨c0, c1, c2, c3, c4, c5, c6⟩ := (HJ3.out.below HXA.out).1.c7)
          | (go_at_call 26; (with_reducible refine (HSE.out _ HXA.out).mono ?_); rintro e x3 ⟨v9, v10, rfl, h9, h10, hb3⟩; have HX3 := Lib.hid (below_trans HXA.out hb3); have HXB3 := Lib.hid (Box.below HXB.out hb3); have HR3 := Lib.hid (And.intro h9 h10); obtain ⟨a9, p9, rfl⟩ := h9.slice; obtain ⟨a10, p10, rfl⟩ := h10.slice; clear h9 h10 hb3; obtain ⟨q0, q1⟩ := HXB3.out.c2; obtain ⟨qf0, qf1⟩ := HXB3.out.f2)
          | fail)
        have HXS := Lib.hid (xset (a2 := a9) (n2 := FL.length) (c2 := p9) HXB3.out (.slice a10 HW.length p10))
        have hxl : W1.heap.size ≤ x1.heap.size := Nat.le_trans HB3.out.size HX1.out.size
        have hdx : db ≠ x1.heap.size := by have h1 := HDZ.out.1; have h2 := HZ23.out.size; have h3 := HX1.out.size; omega
        have HB4 := Lib.hid (below_st2 (below_trans HB3.out HX3.out) hxl (.slice a9 FL.length p9) (.slice a10 HW.length p10))
        have HD4 := Lib.hid (((((HDZ.out.below HZ23.out).below HX3.out)).other hdx (i := 0) (.slice a9 FL.length p9)).other hdx (i := 1) (.slice a10 HW.length p10))
        have HT4 := Lib.hid (And.intro (HXS.out.2.1 _ _ ((HDT.out.1.below HZ23.out).below HX3.out)) (HXS.out.2.2 _ _ ((HDT.out.2.below HZ23.out).below HX3.out)))
        have HR4 := Lib.hid (And.intro (HXS.out.2.1 _ _ HR3.out.1) (HXS.out.2.2 _ _ HR3.out.2))
        have HXB4 := Lib.hid HXS.out.1
        clear HXS hxl hdx q0 q1 qf0 qf1 HXB HXB3 HR3 HX3 HXA
        generalize (World.setCell (World.setCell x3 _ _) _ _) = x4 at HB4 HD4 HT4 HR4 HXB4 ⊢
        generalize x1.heap.size = xb at HXB4 ⊢
        have HSX : Hid (∀ w', Below x4.heap.size x4 w' → w'.cell? ⟨db, 0, none⟩ = some (.slice aS2 L.length cS2) ∧ w'.cell? ⟨db, 1, none⟩ = some (.slice aW2 0 cW2) ∧ w'.cell? ⟨xb, 0, none⟩ = some (.slice a9 FL.length p9) ∧ w'.cell? ⟨xb, 1, none⟩ = some (.slice a10 HW.length p10)) := Lib.hid (fun w' hb => ⟨((HD4.out.below hb).c2).1, ((HD4.out.below hb).c2).2, ((HXB4.out.below hb).c2).1, ((HXB4.out.below hb).c2).2⟩)
        have HS4 := Lib.hid (HSX.out _ (Below.refl _ _))
        obtain ⟨d0, d1, x0, x1'⟩ := HS4.out
        go_region_held3 (fun w' => w'.cell? ⟨db, 0, none⟩ = some (.slice aS2 L.length cS2) ∧ w'.cell? ⟨db, 1, none⟩ = some (.slice aW2 0 cW2) ∧ w'.cell? ⟨xb, 0, none⟩ = some (.slice a9 FL.length p9) ∧ w'.cell? ⟨xb, 1, none⟩ = some (.slice a10 HW.length p10))
          (first | with_reducible exact HSX.out _ (dr x4) | with_reducible exact HSX.out _ HZ5.out | with_reducible exact HSX.out _ HZ6.out | with_reducible exact HSX.out _ HZ7.out | fail)
          (first
            | (go_at_call 13; (with_reducible refine (alive_any _).mono ?_); rintro e y5 ⟨rfl, hz⟩; have HZ5 := Lib.hid (below_trans (dr x4) hz); clear hz)
            | (go_at_call 28; (with_reducible refine (HCC.out _ _ _ (HR4.out.1.below HZ5.out) (HR4.out.2.below HZ5.out)).mono ?_); rintro e y6 ⟨v7, v8, rfl, h7, h8, hz⟩; have HZ6 := Lib.hid (below_trans HZ5.out hz); have HLK := Lib.hid (Like_yes (HT4.out.1.below HZ6.out) (HT4.out.2.below HZ6.out) h7 h8 hL1000 (by simp)); clear hz h7 h8)
            | (go_at_call 27; (with_reducible refine HLK.out.mono ?_); rintro e y7 ⟨rfl, hz⟩; have HZ7 := Lib.hid (below_trans HZ6.out hz); clear hz)
            | fail)
        go_wp2_with fail
        go_ret
        exact ⟨rfl, below_trans HBE.out (below_trans HB4.out HZ7.out)⟩
    · have hem := (empty_no h0).2
      have hrm := HRME.out h0
      obtain ⟨hhf, rfl, rfl⟩ := HHF.out.2 h0
      go_region_held3 (fun w' => w'.cell? ⟨w.heap.size, 0, none⟩ = some (.slice aS ls.length cS) ∧ w'.cell? ⟨w.heap.size, 2, none⟩ = some (.int .i64 t.seals))
        (first | with_reducible exact HSF.out _ (dr z) | with_reducible exact HSF.out _ HZ2.out | fail)
        (first
          | (go_at_call 22; (with_reducible refine (HFR.out _).mono ?_); rintro e z2 ⟨rfl, hz⟩; have HZ2 := Lib.hid (below_trans (dr z) hz); clear hz)
          | (go_at_call 23; (with_reducible refine (HRM.out _).mono ?_); rintro e z4 ⟨rfl, rfl⟩)
          | fail)
      have HB2 := Lib.hid (below_trans HZ.out HZ2.out)
      have HJ2 := Lib.hid (HJZ.out.below HZ2.out)
      clear c0 c2
      obtain ⟨G, hG⟩ : ∃ G : ByteArray, (⟨(frms g).toArray⟩ : ByteArray) = G := ⟨_, rfl⟩
      have HWH := Lib.hid (fun W' (hb : Below z2.heap.size z2 W') => (show Calls Tryz.prog 21 #[.slice aG g.length cG] W' (fun e w' => e = .returned (.string G) ∧ Below W'.heap.size W' w') from by
        rw [← hG]
        exact Go.Proofs.YtfdpoekgdcklmaaGreat.Frame.Whole_any (HJ2.out.2.rG.below hb) (fun x hx => by have := HBR.out.1 x hx; omega) (by have := HBR.out.2.2.1; omega) (by omega)))
      clear hG
      go_upto_region 9 with fail
      have HSG : Hid (∀ w', Below z2.heap.size z2 w' → w'.cell? ⟨w.heap.size, 3, none⟩ = some (.int .i64 t.half) ∧ w'.cell? ⟨w.heap.size, 4, none⟩ = some (.int .i64 t.used) ∧ w'.cell? ⟨w.heap.size, 5, none⟩ = some (.slice aG g.length cG)) := Lib.hid (fun w' hb => by
        obtain ⟨k0, k1, k2, k3, k4, k5, k6⟩ := (HJ2.out.below hb).1.c7
        exact ⟨k3, k4, k5⟩)
      have HS1 := Lib.hid (HSG.out _ (Below.refl _ _))
      obtain ⟨c3, c4, c5⟩ := HS1.out
      go_region_held3 (fun w' => w'.cell? ⟨w.heap.size, 3, none⟩ = some (.int .i64 t.half) ∧ w'.cell? ⟨w.heap.size, 4, none⟩ = some (.int .i64 t.used) ∧ w'.cell? ⟨w.heap.size, 5, none⟩ = some (.slice aG g.length cG))
        (first | with_reducible exact HSG.out _ (dr z2) | with_reducible exact HSG.out _ HZ5.out | fail)
        (first
          | (go_at_call 21; (with_reducible refine (HWH.out _ (dr z2)).mono ?_); rintro e z5 ⟨rfl, hz⟩; have HZ5 := Lib.hid (below_trans (dr z2) hz); clear hz)
          | fail)
      have HJ5 := Lib.hid (HJ2.out.below HZ5.out)
      have HB5 := Lib.hid (below_trans HB2.out HZ5.out)
      clear c3 c4 c5
      obtain ⟨c0, c1, c2, c3, c4, c5, c6⟩ := HJ5.out.1.c7
      go_upto_region 11 with fail
      have ew : IntKind.i64.wrap (1 - (t.half : Int)) = (hf : Int) := by rw [IntWalk.i64_in _ (by have := HMP.out.1; omega)]; exact hhf
      have EW := Lib.hid ew
      clear ew hhf c0 c1 c2 c4 c5 c6
      have HSH : Hid (∀ w', Below z5.heap.size z5 w' → w'.cell? ⟨w.heap.size, 3, none⟩ = some (.int .i64 t.half)) := Lib.hid (fun w' hb => (HJ5.out.below hb).1.c7.2.2.2.1)
      go_region_held3 (fun w' => w'.cell? ⟨w.heap.size, 3, none⟩ = some (.int .i64 t.half))
        (first | with_reducible exact HSH.out _ (dr z5) | with_reducible exact HSH.out _ HZ6.out | fail)
        (first
          | (go_at_call 22; (with_reducible refine (HFR.out _).mono ?_); rintro e z6 ⟨rfl, hz⟩; have HZ6 := Lib.hid (below_trans (dr z5) hz); clear hz)
          | fail)
      rw [EW.out]
      clear c3
      have HJ3 := Lib.hid (HJ5.out.below HZ6.out)
      have HB3 := Lib.hid (below_trans HB5.out HZ6.out)
      have HZ23 := Lib.hid (below_trans (below_trans HZ2.out HZ5.out) HZ6.out)
      obtain ⟨c0, c1, c2, c3, c4, c5, c6⟩ := HJ3.out.1.c7
      have hS3 : Disk.SRow z6 (.slice aS ls.length cS) ls := HJ3.out.2.rS
      have hW3 : WRow z6 (.slice aW 0 cW) [] := HJ3.out.2.rW
      have hfit := HHS.out.fits
      have hshort := HHS.out.short
      have hslt := HHS.out.lt
      rw [bytes_size] at hfit hshort
      have HFI := Lib.hid (show Calls Tryz.prog 25 #[.agg #[.slice aS ls.length cS, .slice aW 0 cW, .int .i64 t.seals, .int .i64 t.half, .int .i64 t.used, .slice aG g.length cG, .slice aR l.length cR], .int .i64 hf, .int .i64 0, .string S] z6 (PutD (.slice aS ls.length cS) (firstW ls ((t.seals + 1) % 2) hf 0 S.data.toList) z6) from refFirst_any (vG := .slice aG g.length cG) (vR := .slice aR l.length cR) hS3 hW3 (secs_of HOP.out.1) (by omega) hfit hshort (s := t.seals) (by omega) t.half t.used)
      have HSE := Lib.hid (fun W' (hb : Below z6.heap.size z6 W') => show Calls Tryz.prog 26 #[.agg #[.slice aS ls.length cS, .slice aW 0 cW, .int .i64 t.seals, .int .i64 t.half, .int .i64 t.used, .slice aG g.length cG, .slice aR l.length cR], .int .i64 hf, .int .i64 0, .string S] W' (DiskD (flushed ls t hf 0 S.data.toList) (headW t hf 0 S.size) W') from refSecond_any (vG := .slice aG g.length cG) (vR := .slice aR l.length cR) (hS3.below hb) (hW3.below hb) HOP.out HHS.out t.half t.used)
      have HR1 := Lib.hid (first_right (q := (t.seals + 1) % 2) HOP.out.1 HHS.out.fits HHS.out.short (by omega))
      have HR2 := Lib.hid (head_right (t := t) (half := hf) (fr := 0) (len := S.size) (flushed_opens HOP.out HHS.out).1 (by rw [flushed_len]; omega))
      clear hS3 hW3 hfit hshort
      cases late
      case false =>
        have hL1000 : L.length ≤ 1000 := by
          have h1 := (rightB_t.1 (crash_right HR1.out (kp := kp) (t := tn))).2.1
          have h2 := HLL.out
          simp only [Bool.false_eq_true, if_false] at h2
          rw [h2] at h1; omega
        have HCC := Lib.hid (fun (v1 : Value) (W' : World) (h0 : Disk.SRow W' (.slice aS ls.length cS) ls) (h1 : WRow W' v1 (firstW ls ((t.seals + 1) % 2) hf 0 S.data.toList)) => (show Calls Tryz.prog 28 #[.agg #[.slice aS ls.length cS, v1], .int .u64 kp, .int .i64 tn] W' (DiskD L [] W') from HLL.out ▸ refCrash_any h0 h1 HR1.out kp hkp tn))
        go_wp2_with (first
          | (go_at_call 25; (with_reducible refine HFI.out.mono ?_); rintro e x1 ⟨v1, rfl, hr1, hf1, hb1⟩; have HX1 := Lib.hid hb1; have HXR := Lib.hid hr1; obtain ⟨a1, p1, rfl⟩ := hr1.slice; clear hr1 hf1 hb1 c0 c1 c2 c3 c4 c5 c6)
          | fail)
        have hxa := al x1 (.cells #[.slice aS ls.length cS, .slice a1 (firstW ls ((t.seals + 1) % 2) hf 0 S.data.toList).length p1] 25)
        have HXB := Lib.hid (Box.made x1 [.slice aS ls.length cS, .slice a1 (firstW ls ((t.seals + 1) % 2) hf 0 S.data.toList).length p1] 25)
        have HB4 := Lib.hid (below_trans (below_trans HB3.out HX1.out) hxa)
        have HJ4 := Lib.hid ((HJ3.out.below HX1.out).below hxa)
        have HD4 := Lib.hid ((HDZ.out.below HZ23.out).below (below_trans HX1.out hxa))
        have HT4 := Lib.hid (And.intro ((HDT.out.1.below HZ23.out).below (below_trans HX1.out hxa)) ((HDT.out.2.below HZ23.out).below (below_trans HX1.out hxa)))
        have HR4 := Lib.hid (And.intro (HJ4.out.2.rS) (HXR.out.below hxa))
        change Hid (Box x1.heap.size _ (x1.alloc (.cells #[.slice aS ls.length cS, .slice a1 (firstW ls ((t.seals + 1) % 2) hf 0 S.data.toList).length p1] 25))) at HXB
        clear hxa HXR HX1
        generalize (firstW ls ((t.seals + 1) % 2) hf 0 S.data.toList) = FW at *
        generalize x1.alloc _ = x2 at HXB HB4 HJ4 HD4 HT4 HR4 ⊢
        generalize x1.heap.size = xb at HXB ⊢
        have HSX : Hid (∀ w', Below x2.heap.size x2 w' → w'.cell? ⟨db, 0, none⟩ = some (.slice aS2 L.length cS2) ∧ w'.cell? ⟨db, 1, none⟩ = some (.slice aW2 0 cW2) ∧ w'.cell? ⟨xb, 0, none⟩ = some (.slice aS ls.length cS) ∧ w'.cell? ⟨xb, 1, none⟩ = some (.slice a1 FW.length p1)) := Lib.hid (fun w' hb => ⟨((HD4.out.below hb).c2).1, ((HD4.out.below hb).c2).2, ((HXB.out.below hb).c2).1, ((HXB.out.below hb).c2).2⟩)
        have HS4 := Lib.hid (HSX.out _ (Below.refl _ _))
        obtain ⟨d0, d1, x0, x1'⟩ := HS4.out
        go_region_held3 (fun w' => w'.cell? ⟨db, 0, none⟩ = some (.slice aS2 L.length cS2) ∧ w'.cell? ⟨db, 1, none⟩ = some (.slice aW2 0 cW2) ∧ w'.cell? ⟨xb, 0, none⟩ = some (.slice aS ls.length cS) ∧ w'.cell? ⟨xb, 1, none⟩ = some (.slice a1 FW.length p1))
          (first | with_reducible exact HSX.out _ (dr x2) | with_reducible exact HSX.out _ HZ5.out | with_reducible exact HSX.out _ HZ6.out | with_reducible exact HSX.out _ HZ7.out | fail)
          (first
            | (go_at_call 13; (with_reducible refine (alive_any _).mono ?_); rintro e y5 ⟨rfl, hz⟩; have HZ5 := Lib.hid (below_trans (dr x2) hz); clear hz)
            | (go_at_call 28; (with_reducible refine (HCC.out _ _ (HR4.out.1.below HZ5.out) (HR4.out.2.below HZ5.out)).mono ?_); rintro e y6 ⟨v7, v8, rfl, h7, h8, hz⟩; have HZ6 := Lib.hid (below_trans HZ5.out hz); have HLK := Lib.hid (Like_yes (HT4.out.1.below HZ6.out) (HT4.out.2.below HZ6.out) h7 h8 hL1000 (by simp)); clear hz h7 h8)
            | (go_at_call 27; (with_reducible refine HLK.out.mono ?_); rintro e y7 ⟨rfl, hz⟩; have HZ7 := Lib.hid (below_trans HZ6.out hz); clear hz)
            | fail)
        go_wp2_with fail
        go_ret
        exact ⟨rfl, below_trans HBE.out (below_trans HB4.out HZ7.out)⟩
      case true =>
        have hL1000 : L.length ≤ 1000 := by
          have h1 := (rightB_t.1 (crash_right HR2.out (kp := kp) (t := tn))).2.1
          have h2 := HLL.out
          simp only [if_true] at h2
          rw [h2] at h1; omega
        have HCC := Lib.hid (fun (v0 v1 : Value) (W' : World) (h0 : Disk.SRow W' v0 (flushed ls t hf 0 S.data.toList)) (h1 : WRow W' v1 (headW t hf 0 S.size)) => (show Calls Tryz.prog 28 #[.agg #[v0, v1], .int .u64 kp, .int .i64 tn] W' (DiskD L [] W') from HLL.out ▸ refCrash_any h0 h1 HR2.out kp hkp tn))
        generalize (flushed ls t hf 0 S.data.toList) = FL at *
        generalize (headW t hf 0 S.size) = HW at *
        go_wp2_with (first
          | (go_at_call 25; (with_reducible refine HFI.out.mono ?_); rintro e x1 ⟨v1, rfl, hr1, hf1, hb1⟩; have HX1 := Lib.hid hb1; obtain ⟨a1, p1, rfl⟩ := hr1.slice; have HXA := Lib.hid (below_trans hb1 (al x1 (.cells #[.slice aS ls.length cS, .slice a1 (firstW ls ((t.seals + 1) % 2) hf 0 S.data.toList).length p1] 25))); have HXB := Lib.hid (Box.made x1 [.slice aS ls.length cS, .slice a1 (firstW ls ((t.seals + 1) % 2) hf 0 S.data.toList).length p1] 25); clear hr1 hf1 hb1 c0 c1 c2 c3 c4 c5 c6; obtain ⟨c0, c1, c2, c3, c4, c5, c6⟩ := (HJ3.out.below HXA.out).1.c7)
          | (go_at_call 26; (with_reducible refine (HSE.out _ HXA.out).mono ?_); rintro e x3 ⟨v9, v10, rfl, h9, h10, hb3⟩; have HX3 := Lib.hid (below_trans HXA.out hb3); have HXB3 := Lib.hid (Box.below HXB.out hb3); have HR3 := Lib.hid (And.intro h9 h10); obtain ⟨a9, p9, rfl⟩ := h9.slice; obtain ⟨a10, p10, rfl⟩ := h10.slice; clear h9 h10 hb3; obtain ⟨q0, q1⟩ := HXB3.out.c2; obtain ⟨qf0, qf1⟩ := HXB3.out.f2)
          | fail)
        have HXS := Lib.hid (xset (a2 := a9) (n2 := FL.length) (c2 := p9) HXB3.out (.slice a10 HW.length p10))
        have hxl : W1.heap.size ≤ x1.heap.size := Nat.le_trans HB3.out.size HX1.out.size
        have hdx : db ≠ x1.heap.size := by have h1 := HDZ.out.1; have h2 := HZ23.out.size; have h3 := HX1.out.size; omega
        have HB4 := Lib.hid (below_st2 (below_trans HB3.out HX3.out) hxl (.slice a9 FL.length p9) (.slice a10 HW.length p10))
        have HD4 := Lib.hid (((((HDZ.out.below HZ23.out).below HX3.out)).other hdx (i := 0) (.slice a9 FL.length p9)).other hdx (i := 1) (.slice a10 HW.length p10))
        have HT4 := Lib.hid (And.intro (HXS.out.2.1 _ _ ((HDT.out.1.below HZ23.out).below HX3.out)) (HXS.out.2.2 _ _ ((HDT.out.2.below HZ23.out).below HX3.out)))
        have HR4 := Lib.hid (And.intro (HXS.out.2.1 _ _ HR3.out.1) (HXS.out.2.2 _ _ HR3.out.2))
        have HXB4 := Lib.hid HXS.out.1
        clear HXS hxl hdx q0 q1 qf0 qf1 HXB HXB3 HR3 HX3 HXA
        generalize (World.setCell (World.setCell x3 _ _) _ _) = x4 at HB4 HD4 HT4 HR4 HXB4 ⊢
        generalize x1.heap.size = xb at HXB4 ⊢
        have HSX : Hid (∀ w', Below x4.heap.size x4 w' → w'.cell? ⟨db, 0, none⟩ = some (.slice aS2 L.length cS2) ∧ w'.cell? ⟨db, 1, none⟩ = some (.slice aW2 0 cW2) ∧ w'.cell? ⟨xb, 0, none⟩ = some (.slice a9 FL.length p9) ∧ w'.cell? ⟨xb, 1, none⟩ = some (.slice a10 HW.length p10)) := Lib.hid (fun w' hb => ⟨((HD4.out.below hb).c2).1, ((HD4.out.below hb).c2).2, ((HXB4.out.below hb).c2).1, ((HXB4.out.below hb).c2).2⟩)
        have HS4 := Lib.hid (HSX.out _ (Below.refl _ _))
        obtain ⟨d0, d1, x0, x1'⟩ := HS4.out
        go_region_held3 (fun w' => w'.cell? ⟨db, 0, none⟩ = some (.slice aS2 L.length cS2) ∧ w'.cell? ⟨db, 1, none⟩ = some (.slice aW2 0 cW2) ∧ w'.cell? ⟨xb, 0, none⟩ = some (.slice a9 FL.length p9) ∧ w'.cell? ⟨xb, 1, none⟩ = some (.slice a10 HW.length p10))
          (first | with_reducible exact HSX.out _ (dr x4) | with_reducible exact HSX.out _ HZ5.out | with_reducible exact HSX.out _ HZ6.out | with_reducible exact HSX.out _ HZ7.out | fail)
          (first
            | (go_at_call 13; (with_reducible refine (alive_any _).mono ?_); rintro e y5 ⟨rfl, hz⟩; have HZ5 := Lib.hid (below_trans (dr x4) hz); clear hz)
            | (go_at_call 28; (with_reducible refine (HCC.out _ _ _ (HR4.out.1.below HZ5.out) (HR4.out.2.below HZ5.out)).mono ?_); rintro e y6 ⟨v7, v8, rfl, h7, h8, hz⟩; have HZ6 := Lib.hid (below_trans HZ5.out hz); have HLK := Lib.hid (Like_yes (HT4.out.1.below HZ6.out) (HT4.out.2.below HZ6.out) h7 h8 hL1000 (by simp)); clear hz h7 h8)
            | (go_at_call 27; (with_reducible refine HLK.out.mono ?_); rintro e y7 ⟨rfl, hz⟩; have HZ7 := Lib.hid (below_trans HZ6.out hz); clear hz)
            | fail)
        go_wp2_with fail
        go_ret
        exact ⟨rfl, below_trans HBE.out (below_trans HB4.out HZ7.out)⟩

set_option maxRecDepth 100000 in
set_option maxHeartbeats 4000000 in
theorem lifted (os : Os) (started : os.Started) (H : Type) (enc : TypeId × Value → H) :
    ReturnsInHanded {} Tryz.checked os 5 .any (Rows.journalCrashesSpec.pre6 enc Tryz.prog Tryz.f5 Rows.journalCrashesRow.domain false) (Rows.journalCrashesSpec.post enc Tryz.prog Tryz.f5 false true false false) := by
  refine returnsInHanded_of_change (C := Tryz.checked) own started (by kernel_rfl) Tryz.func5
    (ChangeSpec.witness6 (enc := enc) (C := Tryz.checked) false ⟨#[], #[.agg #[.slice none 0 0, .slice none 0 0, .int .i64 0, .int .i64 0, .int .i64 0, .slice none 0 0, .slice none 0 0], .string ByteArray.empty, .bool false, .int .u64 0, .int .i64 0], []⟩ 8 (by kernel_rfl) (by kernel_rfl) (by kernel_rfl) (by kernel_rfl)) ?_
  intro W base args ds gs before hval0 hW hcnd _
  have hval : ∀ (j : Nat) t v, Tryz.f5.params[j]? = some t → args[j]? = some v → Value.okWide Tryz.prog W .any base t v := hval0
  have hW' := hW
  obtain ⟨p, q, hA0, hV, rfl, hfz, hnd⟩ := hW
  have hA : DataW.TrodAll enc Tryz.prog W 0 (fun _ => true) true Tryz.f5.params.toList args.toList ds p := hA0
  rw [Tryz.params5] at hA hval
  obtain ⟨v0, vs0, d0, ds0, p0, q0, hargs, rfl, rfl, h0, r0⟩ := trodAll_cons hA
  obtain ⟨v1, vs1, d1, ds1, p1, q1, rfl, rfl, rfl, h1, r1⟩ := trodAll_cons r0
  obtain ⟨v2, vs2, d2, ds2, p2, q2, rfl, rfl, rfl, h2, r2⟩ := trodAll_cons r1
  obtain ⟨v3, vs3, d3, ds3, p3, q3, rfl, rfl, rfl, h3, r3⟩ := trodAll_cons r2
  obtain ⟨v4, vs4, d4, ds4, p4, q4, rfl, rfl, rfl, h4, r4⟩ := trodAll_cons r3
  obtain ⟨rfl, rfl, rfl⟩ := trodAll_nil r4
  obtain rfl : args = #[v0, v1, v2, v3, v4] := by cases args; simp_all
  obtain ⟨rfl, rfl⟩ := trodVars_none hV
  have k0 := h0
  have lt0 : ∀ x ∈ p0, x.block < W.heap.size := by obtain ⟨m, hm⟩ := k0; exact DataW.trod_lt m _ _ _ hm
  obtain ⟨fuel0, hf0⟩ := h0
  obtain ⟨vS, vW, s, hh, u, vG, vR, rfl, wS, wW, wG, wR, ws, wh, wu⟩ := open_journal (hval 0 27 v0 rfl rfl) hf0
  obtain ⟨a1, rfl, rfl, rfl, w1⟩ := open_string Tryz.underlying9 (hval 1 9 v1 rfl rfl) h1
  obtain ⟨a2, rfl, rfl, rfl⟩ := open_bool Tryz.underlying4 (hval 2 4 v2 rfl rfl) h2
  obtain ⟨a3, rfl, rfl, rfl, w3⟩ := open_int Tryz.underlying51 (hval 3 51 v3 rfl rfl) h3
  have hb3 : 0 ≤ a3 ∧ a3 < 18446744073709551616 := by
    have := w3
    simp [Lit.wf, IntKind.min, IntKind.max, IntKind.bits, IntKind.signed] at this
    omega
  obtain ⟨n3, rfl⟩ : ∃ n : Nat, a3 = n := ⟨a3.toNat, by omega⟩
  obtain ⟨a4, rfl, rfl, rfl, w4⟩ := open_int Tryz.underlying3 (hval 4 3 v4 rfl rfl) h4
  have hb4 : -9223372036854775808 ≤ a4 ∧ a4 ≤ 9223372036854775807 := by
    have := w4
    simp [Lit.wf, IntKind.min, IntKind.max, IntKind.bits, IntKind.signed] at this
    omega
  clear hA0 hval0
  refine (walk0 vS vW vG vR s hh u a1 (by simpa [maxLen] using w1) a2 n3 (by omega) a4 hb4.1 hb4.2 W wS wW wG wR).mono fun e W' ⟨he, bel⟩ => ?_
  subst he
  exact ⟨_, rfl, _, _, _, [], _, [], hW', trodAll_mk1 (shut_bool Tryz.underlying4 _), (trodAll_cons_mk (Below.trod laidOut (by kernel_rfl) (of_decide_eq_true (by kernel_rfl)) k0 bel lt0) (trodAll_cons_mk (shut_string Tryz.underlying9 w1) (trodAll_cons_mk (shut_bool Tryz.underlying4 _) (trodAll_cons_mk (shut_int Tryz.underlying51 w3) (trodAll_cons_mk (shut_int Tryz.underlying3 w4) trodAll_mk0))))), rfl, bel.frame _, fun h => by cases h⟩

theorem over : Rows.journalCrashesRow.holds Tryz.pinned (OpenSpec.ofChange Rows.journalCrashesSpec) :=
  OpenClaim.holds_of_wide 5 Tryz.f5 rfl rfl rfl rfl rfl rfl rfl ⟨rfl, rfl, rfl, rfl, rfl⟩ rfl rfl rfl rfl rfl (by kernel_rfl) Tryz.func5 (by kernel_rfl)
    (of_decide_eq_true (by kernel_rfl)) (by unfold Func.isWrapper; first | (rw [if_pos (by decide +kernel)]; kernel_rfl) | (rw [if_neg (by decide +kernel)]; exact ⟨rfl, rfl⟩))
    (fun os started H enc _ => lifted os started H enc)

theorem proved : Rows.JournalCrashesSaid := over
#print axioms proved
end Go.Proofs.YtfdpoekgdcklmaaGreat.journalCrashes
