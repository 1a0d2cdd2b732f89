/-
  Proved: for any journal, text, lateness, numbers and data the law JournalKeeps returns true: behind a crash the disk opens, with the records as they were, or, if it was late, as they would be; what is opened may be, and goes on. No condition.
-/
import Derived.Test.YtndakbjmahkjdaaRows
import Derived.Test.YtndakbjmahkjdaaMy
namespace Go.Proofs.Ytndakbjmahkjdaa.journalKeeps
open Go.ChangeShapes Go.WideShapes Go.ChangeAt Go.RowKit Go.Lib Go.Proofs.Ytndakbjmahkjdaa.Disk Go.Proofs.Ytndakbjmahkjdaa.Disk.Jn
open Go.Proofs.Ytndakbjmahkjdaa.Frame (frm frms)
open Go.ChangeMaps (open_string shut_string)
set_option linter.unusedVariables false

theorem own : ownKnob Try.prog.godebug = none := by kernel_rfl
theorem laidOut : laidOutB Try.prog = true := by kernel_rfl

/-- Behind the law's first statement. -/
def Cut1 (w : World) (q p : Value) (wx : World) : Prop :=
  ∃ (aS aW aG aR : Option Addr) (cS cW cG cR : Nat) (J : JN) (d x : ByteArray), q = .string d ∧ p = .string x ∧ d.size ≤ 3002 ∧ x.size ≤ 20 ∧ JSmall J ∧
    JB w.heap.size (.slice aS J.ls.length cS) (.slice aW J.ws.length cW) (.slice aG J.g.length cG) (.slice aR J.l.length cR) J wx ∧ Below w.heap.size w wx

set_option maxRecDepth 100000 in
set_option maxHeartbeats 4000000 in
theorem walk0 (vS vW vG vR : Value) (s h u : Int) (d : ByteArray) (hd : d.size ≤ 9223372036854775807) (late : Bool) (kp : Nat) (hkp : kp < 18446744073709551616) (tn : Int) (ht1 : -9223372036854775808 ≤ tn) (ht2 : tn ≤ 9223372036854775807) (x : ByteArray) (hx : x.size ≤ 9223372036854775807) (w : World) (hS : ArgS w vS) (hW : ArgW w vW) (hG : ArgS w vG) (hR : ArgS w vR) :
    Calls Try.prog 3 #[jv vS vW s h u vG vR, .string d, .bool late, .int .u64 kp, .int .i64 tn, .string x] w (BoolB true w) := by
  have HFE := Lib.hid (fun W (hb : Below w.heap.size w W) => few_any (s := s) (h := h) (u := u) (hS.below hb) (hW.below hb) (hG.below hb) (hR.below hb))
  obtain ⟨aS, nS, cS, rfl⟩ := argS_slice hS
  obtain ⟨aW, nW, cW, rfl⟩ := argW_slice hW
  obtain ⟨aG, nG, cG, rfl⟩ := argS_slice hG
  obtain ⟨aR, nR, cR, rfl⟩ := argS_slice hR
  have HB0 := Lib.hid (al w (.cells #[.slice aS nS cS, .slice aW nW cW, .int .i64 s, .int .i64 h, .int .i64 u, .slice aG nG cG, .slice aR nR cR] 27))
  have HX0 := Lib.hid (Box.made w [.slice aS nS cS, .slice aW nW cW, .int .i64 s, .int .i64 h, .int .i64 u, .slice aG nG cG, .slice aR nR cR] 27)
  clear hS hW hG hR
  unfold jv at HFE ⊢
  go_enter Try.func3, Try.ntmps3
  go_upto_region 1 with (fail)
  generalize (w.alloc _) = W at HB0 HX0 ⊢
  have hWb : w.heap.size < W.heap.size := HX0.out.1
  go_cut [1, 5] from 22 to 34 (fun q p wx => Cut1 w q p wx)
  case first =>
    obtain ⟨q, hq, hqd, hq2⟩ : ∃ n : Nat, min (d.size : Int) 3002 = n ∧ n ≤ d.size ∧ n ≤ 3002 := ⟨min d.size 3002, by omega, by omega, by omega⟩
    obtain ⟨p, hp, hpx, hp2⟩ : ∃ n : Nat, min (x.size : Int) 20 = n ∧ n ≤ x.size ∧ n ≤ 20 := ⟨min x.size 20, by omega, by omega, by omega⟩
    have i0 : (0 : Int) ≤ (q : Int) := by omega
    have i1 : (q : Int) ≤ (d.size : Int) := by omega
    have i2 : ¬ (q : Int) < 0 := by omega
    have i3 : ¬ (d.size : Int) < (q : Int) := by omega
    have j0 : (0 : Int) ≤ (p : Int) := by omega
    have j1 : (p : Int) ≤ (x.size : Int) := by omega
    have j2 : ¬ (p : Int) < 0 := by omega
    have j3 : ¬ (x.size : Int) < (p : Int) := by omega
    obtain ⟨c0, c1, c2, c3, c4, c5, c6⟩ := HX0.out.c7
    have HBD := Lib.hid (below_trans HB0.out ((Below.refl W.heap.size W).drew))
    refine wp_region_held_drew (S := fun _ => True) (by kernel_rfl) trivial (fun hHeld => ?_)
    refine takeH 2 24 (.string d) (calm_then calm_body) rfl rfl (by kernel_rfl) (by kernel_rfl) (by kernel_rfl) (by rfl) (fun w hSw => by go_simp) trivial ?_
    try simp only [Act.put, List.setIfInBounds_toArray, List.set_cons_zero, List.set_cons_succ]
    refine takeH 3 25 (.string d) (calm_then calm_body) rfl rfl (by kernel_rfl) (by kernel_rfl) (by kernel_rfl) (by rfl) (fun w hSw => by go_simp) trivial ?_
    try simp only [Act.put, List.setIfInBounds_toArray, List.set_cons_zero, List.set_cons_succ]
    refine takeH 4 26 (.int .i64 d.size) (calm_then calm_body) rfl rfl (by kernel_rfl) (by kernel_rfl) (by kernel_rfl) (by rfl) (fun w hSw => by go_simp) trivial ?_
    try simp only [Act.put, List.setIfInBounds_toArray, List.set_cons_zero, List.set_cons_succ]
    refine takeH 5 27 (.int .i64 q) (calm_then calm_body) rfl rfl (by kernel_rfl) (by kernel_rfl) (by kernel_rfl) (by rfl) (fun w hSw => by go_simp) trivial ?_
    try simp only [Act.put, List.setIfInBounds_toArray, List.set_cons_zero, List.set_cons_succ]
    refine takeH 6 28 (.string (d.extract 0 q)) (calm_then calm_body) rfl rfl (by kernel_rfl) (by kernel_rfl) (by kernel_rfl) (by rfl) (fun w hSw => by go_simp) trivial ?_
    try simp only [Act.put, List.setIfInBounds_toArray, List.set_cons_zero, List.set_cons_succ]
    refine takeH 7 29 (.string x) (calm_then calm_body) rfl rfl (by kernel_rfl) (by kernel_rfl) (by kernel_rfl) (by rfl) (fun w hSw => by go_simp) trivial ?_
    try simp only [Act.put, List.setIfInBounds_toArray, List.set_cons_zero, List.set_cons_succ]
    refine takeH 8 30 (.string x) (calm_then calm_body) rfl rfl (by kernel_rfl) (by kernel_rfl) (by kernel_rfl) (by rfl) (fun w hSw => by go_simp) trivial ?_
    try simp only [Act.put, List.setIfInBounds_toArray, List.set_cons_zero, List.set_cons_succ]
    refine takeH 9 31 (.int .i64 x.size) (calm_then calm_body) rfl rfl (by kernel_rfl) (by kernel_rfl) (by kernel_rfl) (by rfl) (fun w hSw => by go_simp) trivial ?_
    try simp only [Act.put, List.setIfInBounds_toArray, List.set_cons_zero, List.set_cons_succ]
    refine takeH 10 32 (.int .i64 p) (calm_then calm_body) rfl rfl (by kernel_rfl) (by kernel_rfl) (by kernel_rfl) (by rfl) (fun w hSw => by go_simp) trivial ?_
    try simp only [Act.put, List.setIfInBounds_toArray, List.set_cons_zero, List.set_cons_succ]
    refine takeH 11 33 (.string (x.extract 0 p)) (calm_then calm_body) rfl rfl (by kernel_rfl) (by kernel_rfl) (by kernel_rfl) (by rfl) (fun w hSw => by go_simp) trivial ?_
    try simp only [Act.put, List.setIfInBounds_toArray, List.set_cons_zero, List.set_cons_succ]
    refine wpAnyH_ready (rs := [0]) (by kernel_rfl) (by simp) (AllReadyH.cons rfl (fun K hK => ?_) AllReadyH.nil)
    go_simp
    refine hK.out _ _ trivial (fun hHeld => ?_)
    clear hK
    try simp only [Act.put, List.setIfInBounds_toArray, List.set_cons_zero, List.set_cons_succ]
    refine wpAnyH_ready (rs := [1]) (by kernel_rfl) (by simp) (AllReadyH.cons rfl (fun K hK => ?_) AllReadyH.nil)
    go_simp
    go_at_call 6
    refine (HFE.out _ HBD.out).mono ?_
    rintro e V ⟨vS, vW, vG, vR, ls, ws, g, l, rfl, k1, k2, k3, kS, kW, kG, kR, kb⟩
    have HSM := Lib.hid (small_few (s := s) (h := h) (u := u) k1 k2 k3)
    obtain ⟨aS1, pS1, rfl⟩ := kS.1.slice
    obtain ⟨aW1, pW1, rfl⟩ := kW.1.slice
    obtain ⟨aG1, pG1, rfl⟩ := kG.1.slice
    obtain ⟨aR1, pR1, rfl⟩ := kR.1.slice
    have hWV : Below W.heap.size W V := below_trans ((Below.refl W.heap.size W).drew) kb
    have HY := Lib.hid (jrow_end (s := s) (h := h) (u := u) HB0.out (Nat.le_refl _) hWb hWV (HX0.out.below hWV) kS kW kG kR)
    obtain ⟨f0, f1, f2, f3, f4, f5, f6⟩ := (HX0.out.below hWV).f7
    obtain ⟨r0, r1, r2, r3, r4, r5, r6⟩ := (HX0.out.below hWV).c7
    clear k1 k2 k3 kS kW kG kR kb hWV c0 c1 c2 c3 c4 c5 c6
    unfold jv
    go_simp
    refine hK.out _ _ trivial (fun hHeld => ?_)
    clear hK
    try simp only [Act.put, List.setIfInBounds_toArray, List.set_cons_zero, List.set_cons_succ]
    refine wpAnyH_ready (rs := [12]) (by kernel_rfl) (by simp) (AllReadyH.cons rfl (fun K hK => ?_) AllReadyH.nil)
    go_simp
    refine hK.out _ _ trivial (fun hHeld => ?_)
    clear hK
    try simp only [Act.put, List.setIfInBounds_toArray, List.set_cons_zero, List.set_cons_succ]
    refine takeH 13 1 (.string (d.extract 0 q)) (calm_then calm_body) rfl rfl (by kernel_rfl) (by kernel_rfl) (by kernel_rfl) (by rfl) (fun w hSw => by go_simp) trivial ?_
    try simp only [Act.put, List.setIfInBounds_toArray, List.set_cons_zero, List.set_cons_succ]
    refine takeH 14 5 (.string (x.extract 0 p)) (calm_then calm_body) rfl rfl (by kernel_rfl) (by kernel_rfl) (by kernel_rfl) (by rfl) (fun w hSw => by go_simp) trivial ?_
    try simp only [Act.put, List.setIfInBounds_toArray, List.set_cons_zero, List.set_cons_succ]
    refine wpAnyH_done (by kernel_rfl) ?_ _
    go_wp2_with fail
    go_meet
    exact ⟨aS1, aW1, aG1, aR1, pS1, pW1, pG1, pR1, ⟨ls, ws, s, h, u, g, l⟩, d.extract 0 q, x.extract 0 p, rfl, rfl, by rw [ByteArray.size_extract]; omega, by rw [ByteArray.size_extract]; omega, HSM.out, ⟨HY.out.1, HY.out.2.1⟩, HY.out.2.2⟩
  case rest =>
    clear HFE HB0 HX0 hWb hd hx
    obtain ⟨aS, aW, aG, aR, cS, cW, cG, cR, J, d, x, rfl, rfl, hd, hx, hsm, hJB, hbe⟩ := hcut
    have HJB := Lib.hid hJB
    have HBE := Lib.hid hbe
    have HSM := Lib.hid hsm
    have hwb := hJB.1.1
    obtain ⟨c0, c1, c2, c3, c4, c5, c6⟩ := hJB.1.c7
    clear hJB hbe hsm
    have HCR := Lib.hid (Crash_all HJB.out.2 HSM.out d (by omega) late kp hkp tn)
    unfold jv at HCR
    go_wp2_with fail
    refine HCR.out.mono ?_
    clear HCR
    rintro e y hO
    rcases hO with ⟨k, hk, hE⟩ | ⟨t, D, t', l', hm, hop, hor, hE⟩
    · have hk' : k = 1 ∨ k = 3 ∨ k = 7 := by rcases hk with ⟨h, _⟩ | ⟨h, _⟩ | h <;> simp [h]
      obtain ⟨uS, uW, rfl, hS, hW, hy⟩ := hE
      obtain ⟨aS2, cS2, rfl⟩ := hS.1.slice
      obtain ⟨aW2, cW2, rfl⟩ := hW.1.slice
      have HBY := Lib.hid (below_trans HBE.out hy)
      clear hk hS hW hy c0 c1 c2 c3 c4 c5 c6
      rcases hk' with rfl | rfl | rfl
      all_goals
        go_wp2_with fail
        refine (alive_any _).mono ?_
        rintro e z ⟨rfl, hz⟩
        have HBZ := Lib.hid (below_trans (below_trans HBY.out (al y _)) hz)
        clear hz
        go_wp2_with fail
        go_ret
        exact ⟨rfl, HBZ.out⟩
    · obtain ⟨uS, uW, rfl, hS, hW, hy⟩ := hE
      obtain ⟨aD, cD, rfl⟩ := hS.1.slice
      obtain ⟨aE, cE, rfl⟩ := hW.1.slice
      have HBY := Lib.hid (below_trans (below_trans HBE.out hy) (al y (.cells #[.slice aD D.length cD, .slice aE ([] : List (Int × ByteArray)).length cE] 25)))
      have HJY := Lib.hid ((HJB.out.below hy).below (al y (.cells #[.slice aD D.length cD, .slice aE ([] : List (Int × ByteArray)).length cE] 25)))
      have HDY := Lib.hid (And.intro (hS.1.below (al y (.cells #[.slice aD D.length cD, .slice aE ([] : List (Int × ByteArray)).length cE] 25))) (hW.1.below (al y (.cells #[.slice aD D.length cD, .slice aE ([] : List (Int × ByteArray)).length cE] 25))))
      have HMY := Lib.hid hm
      have HOP := Lib.hid hop
      have HOR := Lib.hid hor
      clear hS hW hy hm hop hor c0 c1 c2 c3 c4 c5 c6 HBE HJB
      have HOE := Lib.hid (Open_yes HDY.out.1 HDY.out.2 HOP.out)
      simp only [List.length_nil] at HBY HJY HDY HOE ⊢
      generalize D.length = nD at HBY HJY HDY HOE ⊢
      go_wp2_with fail
      refine HOE.out.mono ?_
      clear HOE
      rintro e V ⟨vS, vW, vG, vR, rfl, hS, hW, hG, hR, hx2⟩
      have HX0 : Hid (JRow V vS vW vG vR ⟨D, [], t'.seals, t'.half, t'.used, [], l'⟩) := ⟨hS.1, hW.1, hG.1, hR.1⟩
      obtain ⟨aP, cP, rfl⟩ := hS.1.slice
      obtain ⟨aQ, cQ, rfl⟩ := hW.1.slice
      obtain ⟨aT, cT, rfl⟩ := hG.1.slice
      obtain ⟨aU, cU, rfl⟩ := hR.1.slice
      have HXV := Lib.hid (JB.made HX0.out)
      have HBV := Lib.hid (below_trans hx2 (al V (.cells #[.slice aP D.length cP, .slice aQ ([] : List (Int × ByteArray)).length cQ, .int .i64 (t'.seals : Int), .int .i64 (t'.half : Int), .int .i64 (t'.used : Int), .slice aT ([] : List ByteArray).length cT, .slice aU l'.length cU] 27)))
      clear hS hW hG hR hx2 HX0
      unfold jv
      simp only [List.length_nil] at HXV HBV ⊢
      try dsimp only at HXV
      have HJV := Lib.hid (HJY.out.below HBV.out)
      have HBB := Lib.hid (below_trans HBY.out HBV.out)
      clear HJY HBY HDY HBV
      go_upto_region 6 with (fail)
      generalize V.alloc _ = V1 at HXV HJV HBB ⊢
      generalize V.heap.size = bx at HXV ⊢
      obtain ⟨c0, c1, c2, c3, c4, c5, c6⟩ := HXV.out.1.c7
      have HRX := Lib.hid (Right_yes HXV.out.2 (may_opened HOP.out))
      unfold jv at HRX
      try dsimp only at HRX
      go_upto_region 8 with (first
        | (go_at_call 10; refine HRX.out.mono ?_; rintro e Y1 ⟨rfl, hz⟩; have HXY := Lib.hid (HXV.out.below hz); have HJ1 := Lib.hid (HJV.out.below hz); have HB1 := Lib.hid (below_trans HBB.out hz); clear hz c0 c1 c2 c3 c4 c5 c6; obtain ⟨c0, c1, c2, c3, c4, c5, c6⟩ := HXY.out.1.c7)
        | (go_at_call 8; refine (alive_any _).mono ?_; rintro e Y2 ⟨rfl, hz⟩; have HX2 := Lib.hid (HXY.out.below hz); have HJ2 := Lib.hid (HJ1.out.below hz); have HB2 := Lib.hid (below_trans HB1.out hz); clear hz))
      have hlg : J.l.length ≤ 100000 ∧ J.g.length ≤ 1000 := ⟨HSM.out.l1, HSM.out.g1⟩
      go_cut [17] from 80 to 86 (fun v wx => ∃ a c, v = .slice a (J.l ++ J.g).length c ∧ Disk.SRow wx v (J.l ++ J.g) ∧ Below Y2.heap.size Y2 wx)
      case first =>
        refine wp_region_held_drew (S := fun W' => Below Y2.heap.size Y2 W') (by kernel_rfl) ((Below.refl _ _).drew) (fun hHeld => ?_)
        refine takeH 1 81 (.pointer (some ⟨w.heap.size, 6, none⟩)) (calm_then calm_body) rfl rfl (by kernel_rfl) (by kernel_rfl) (by kernel_rfl) (by rfl) (fun w hSw => by go_simp) hHeld ?_
        try simp only [Act.put, List.setIfInBounds_toArray, List.set_cons_zero, List.set_cons_succ]
        refine takeH 2 82 (.slice aR J.l.length cR) (calm_then calm_body) rfl rfl (by kernel_rfl) (by kernel_rfl) (by kernel_rfl) (by rfl) (fun w hSw => by obtain ⟨c0, c1, c2, c3, c4, c5, c6⟩ := (HJ2.out.below hSw).1.c7; go_simp) hHeld ?_
        try simp only [Act.put, List.setIfInBounds_toArray, List.set_cons_zero, List.set_cons_succ]
        refine takeH 4 84 (.pointer (some ⟨w.heap.size, 5, none⟩)) (calm_then calm_body) rfl rfl (by kernel_rfl) (by kernel_rfl) (by kernel_rfl) (by rfl) (fun w hSw => by go_simp) hHeld ?_
        try simp only [Act.put, List.setIfInBounds_toArray, List.set_cons_zero, List.set_cons_succ]
        refine takeH 5 85 (.slice aG J.g.length cG) (calm_then calm_body) rfl rfl (by kernel_rfl) (by kernel_rfl) (by kernel_rfl) (by rfl) (fun w hSw => by obtain ⟨c0, c1, c2, c3, c4, c5, c6⟩ := (HJ2.out.below hSw).1.c7; go_simp) hHeld ?_
        try simp only [Act.put, List.setIfInBounds_toArray, List.set_cons_zero, List.set_cons_succ]
        refine wpAnyH_ready (rs := [0]) (by kernel_rfl) (by simp) (AllReadyH.cons rfl (fun K hK => ?_) AllReadyH.nil)
        go_simp
        have hw0 : Below Y2.heap.size Y2 (Y2.alloc (.cells #[] 9)).drew := below_trans (al Y2 (.cells #[] 9)) ((Below.refl _ _).drew)
        have ho0 : OwnS Y2.heap.size (.slice (some ⟨Y2.heap.size, 0, none⟩) 0 0) [] (Y2.alloc (.cells #[] 9)).drew := World.ownsRow_made Y2 #[] 0 (Nat.le_refl _) (Nat.zero_le _) rfl
        generalize (Y2.alloc (.cells #[] 9)).drew = W8 at hw0 ho0 ⊢
        refine hK.out _ _ hw0 (fun hHeld => ?_)
        clear hK
        try simp only [Act.put, List.setIfInBounds_toArray, List.set_cons_zero, List.set_cons_succ]
        refine wpAnyH_ready (rs := [3]) (by kernel_rfl) (by simp) (AllReadyH.cons rfl (fun K hK => ?_) AllReadyH.nil)
        refine step_append_texts rfl 83 rfl _ _ rfl Y2.heap.size _ [] rfl ho0 _ J.l rfl (HJ2.out.below hw0).2.rR (by simp) (by omega) hw0.size (fun v9 w9 ho9 hb9 => ?_)
        refine hK.out _ _ (hw0.trans hb9) (fun hHeld => ?_)
        clear hK
        try simp only [Act.put, List.setIfInBounds_toArray, List.set_cons_zero, List.set_cons_succ]
        refine wpAnyH_ready (rs := [6]) (by kernel_rfl) (by simp) (AllReadyH.cons rfl (fun K hK => ?_) AllReadyH.nil)
        refine step_append_texts rfl 86 rfl _ _ rfl Y2.heap.size _ ([] ++ J.l) rfl ho9 _ J.g rfl (HJ2.out.below hHeld).2.rG (by simpa using hlg.1) (by omega) hHeld.size (fun v10 w10 ho10 hb10 => ?_)
        have hb11 : Below Y2.heap.size Y2 w10 := hHeld.trans hb10
        refine hK.out _ _ hb11 (fun hHeld => ?_)
        clear hK
        rw [List.nil_append] at ho10
        obtain ⟨a10, c10, rfl⟩ := ho10.row.slice
        try simp only [Act.put, List.setIfInBounds_toArray, List.set_cons_zero, List.set_cons_succ]
        refine takeH 7 17 (.slice a10 (J.l ++ J.g).length c10) (calm_then calm_body) rfl rfl (by kernel_rfl) (by kernel_rfl) (by kernel_rfl) (by rfl) (fun w hSw => by go_simp) hHeld ?_
        try simp only [Act.put, List.setIfInBounds_toArray, List.set_cons_zero, List.set_cons_succ]
        refine wpAnyH_done (by kernel_rfl) ?_ _
        go_wp2_with fail
        go_meet
        exact ⟨a10, c10, rfl, ho10.row, hb11⟩
      case rest =>
        obtain ⟨aG9, cG9, rfl, hrow9, hb9⟩ := hcut
        have HX3 := Lib.hid (HX2.out.below hb9)
        have HJ3 := Lib.hid (HJ2.out.below hb9)
        have HB3 := Lib.hid (below_trans HB2.out hb9)
        have HR9 := Lib.hid hrow9
        clear hb9 hrow9 HX2 HJ2 HB2 HXY HXV HJ1 HJV HB1 HBB c0 c1 c2 c3 c4 c5 c6 HRX HMY
        rename World => W3
        go_upto_if 88 with (fail)
        go_cut [17] from 89 to 90 (fun v wx => ∃ a c, v = .slice a (thenL J d).length c ∧ Disk.SRow wx v (thenL J d) ∧ Below W3.heap.size W3 wx)
        case first =>
          go_wp2_with fail
          · have hh : (!d.toList.isEmpty) = true := by assumption
            have h0 : ¬ d.size = 0 := fun h => by rw [(empty_yes h).2.1] at hh; cases hh
            have HT := Lib.hid (thenL_some (J := J) h0)
            go_meet
            rw [HT.out]
            exact ⟨_, _, rfl, one_row _ _, al _ _⟩
          · have hh : (!d.toList.isEmpty) = false := by assumption
            have h0 : d.size = 0 := Classical.byContradiction fun h => by rw [(empty_no h).2] at hh; cases hh
            have HT := Lib.hid (thenL_none (J := J) h0)
            go_meet
            rw [HT.out]
            exact ⟨_, _, rfl, HR9.out, Below.refl _ _⟩
        case rest =>
          obtain ⟨aT9, cT9, rfl, hrow9, hb9⟩ := hcut
          have HX4 := Lib.hid (HX3.out.below hb9)
          have HJ4 := Lib.hid (HJ3.out.below hb9)
          have HB4 := Lib.hid (below_trans HB3.out hb9)
          clear hb9 HX3 HJ3 HB3 HR9
          rename World => W4
          have HR4 : Hid (Disk.SRow W4 (.slice aT9 (thenL J d).length cT9) (thenL J d)) := hrow9
          clear hrow9
          obtain ⟨c0, c1, c2, c3, c4, c5, c6⟩ := HX4.out.1.c7
          obtain ⟨e0, e1, e2, e3, e4, e5, e6⟩ := HJ4.out.1.c7
          go_upto_region 11 with (fail)
          go_cut [106] from 91 to 106 (fun v wx => v = .bool false ∧ Below W4.heap.size W4 wx)
          case first =>
            have hl1 : l'.length ≤ 1000000 := by have := opens_recs HOP.out; omega
            have hl2 : J.l.length ≤ 1000000 := by omega
            have hl3 : (thenL J d).length ≤ 1000000 := by unfold thenL; split <;> simp <;> omega
            have HS1 := Lib.hid (SameB_any HX4.out.2.rR HJ4.out.2.rR hl1 hl2)
            have HS2 := Lib.hid (fun W (hb : Below W4.heap.size W4 W) => SameB_any (HX4.out.2.rR.below hb) (HR4.out.below hb) hl1 hl3)
            clear hl1 hl2 hl3
            by_cases hl : l' = J.l
            · rw [decide_eq_true hl] at HS1
              have HL := Lib.hid hl
              clear hl
              go_wp2_with (go_at_call 11; refine HS1.out.mono ?_; rintro e Y5 ⟨rfl, hz⟩; have HZ := Lib.hid hz; clear hz)
              go_meet
              exact ⟨rfl, HZ.out⟩
            · obtain ⟨rfl, hl2⟩ : late = true ∧ l' = thenL J d := HOR.out.resolve_left hl
              rw [decide_eq_false hl] at HS1
              rw [decide_eq_true hl2] at HS2
              have HL := Lib.hid hl2
              clear hl hl2
              go_wp2_with (first
                | (go_at_call 11; (with_reducible refine HS1.out.mono ?_); rintro e Y5 ⟨rfl, hz⟩; have HZ := Lib.hid hz; obtain ⟨c0, c1, c2, c3, c4, c5, c6⟩ := (HX4.out.below hz).1.c7; clear hz)
                | (go_at_call 11; (with_reducible refine (HS2.out _ HZ.out).mono ?_); rintro e Y6 ⟨rfl, hz⟩; have HZ2 := Lib.hid (below_trans HZ.out hz); clear hz)
                | fail)
              go_meet
              exact ⟨rfl, HZ2.out⟩
          case rest =>
            obtain ⟨rfl, hb9⟩ := hcut
            have HX5 := Lib.hid (HX4.out.below hb9)
            have HB5 := Lib.hid (below_trans HB4.out hb9)
            clear hb9 HX4 HJ4 HB4 HR4 c0 c1 c2 c3 c4 c5 c6 e0 e1 e2 e3 e4 e5 e6 HOR HSM hlg
            rename World => W5
            obtain ⟨c0, c1, c2, c3, c4, c5, c6⟩ := HX5.out.1.c7
            have HAP := Lib.hid (Append_any HX5.out.2 (may_opened HOP.out) x (by omega))
            unfold jv at HAP
            dsimp only at HAP
            rw [List.nil_append] at HAP
            generalize hk : waitE D.length t'.used [x] = k at HAP
            have HK := Lib.hid hk
            clear hk
            go_wp2_with fail
            refine HAP.out.mono ?_
            rintro e Y hA
            by_cases hk0 : k = 0
            case neg =>
              obtain rfl : k = 7 := by rw [← HK.out]; exact (wait_or (by intro d hd; simp at hd; subst hd; omega)).resolve_left (by rw [HK.out]; exact hk0)
              obtain ⟨vS, vW, vG, vR, rfl, hS, hW, hG, hR, hy⟩ := hA.2 hk0
              obtain ⟨aS3, cS3, rfl⟩ := hS.1.slice
              obtain ⟨aW3, cW3, rfl⟩ := hW.1.slice
              obtain ⟨aG3, cG3, rfl⟩ := hG.1.slice
              obtain ⟨aR3, cR3, rfl⟩ := hR.1.slice
              have HY := Lib.hid (fun o => below_trans (below_trans HB5.out hy) (al Y o))
              clear hS hW hG hR hy hk0 hA
              unfold jv
              go_wp2_with fail
              go_ret
              exact ⟨rfl, HY.out _⟩
            subst hk0
            obtain ⟨vS, vW, vG, vR, rfl, hS, hW, hG, hR, hy⟩ := hA.1 rfl
            clear hA HAP
            have HMY : Hid (May ⟨D, [], t'.seals, t'.half, t'.used, [x], l'⟩ t') := ⟨rfl, HOP.out, rfl, rfl, rfl, HK.out⟩
            have HY0 : Hid (JRow Y vS vW vG vR ⟨D, [], t'.seals, t'.half, t'.used, [x], l'⟩) := ⟨hS.1, hW.1, hG.1, hR.1⟩
            obtain ⟨aS3, cS3, rfl⟩ := hS.1.slice
            obtain ⟨aW3, cW3, rfl⟩ := hW.1.slice
            obtain ⟨aG3, cG3, rfl⟩ := hG.1.slice
            obtain ⟨aR3, cR3, rfl⟩ := hR.1.slice
            have HYY := Lib.hid (JB.made HY0.out)
            have hyb := below_trans hy (al Y (.cells #[.slice aS3 D.length cS3, .slice aW3 ([] : List (Int × ByteArray)).length cW3, .int .i64 (t'.seals : Int), .int .i64 (t'.half : Int), .int .i64 (t'.used : Int), .slice aG3 ([] ++ [x]).length cG3, .slice aR3 l'.length cR3] 27))
            have HX6 := Lib.hid (HX5.out.below hyb)
            have HB6 := Lib.hid (below_trans HB5.out hyb)
            clear hS hW hG hR hy hyb HY0 HX5 HB5 c0 c1 c2 c3 c4 c5 c6
            unfold jv
            simp only [List.length_nil, List.nil_append, List.length_singleton] at HYY HX6 HB6 ⊢
            go_upto_region 14 with (fail)
            generalize Y.alloc _ = Y7 at HYY HX6 HB6 ⊢
            generalize Y.heap.size = by7 at HYY ⊢
            obtain ⟨c0, c1, c2, c3, c4, c5, c6⟩ := HYY.out.1.c7
            have HCM := Lib.hid (Commit_any HYY.out.2 HMY.out)
            unfold jv at HCM
            dsimp only at HCM
            go_wp2_with fail
            refine HCM.out.mono ?_
            clear HCM
            rintro e Z hC
            by_cases hse : t'.seals = 1099511627776
            case pos =>
              obtain ⟨vS, vW, vG, vR, rfl, hS, hW, hG, hR, hy⟩ := hC.1 hse
              obtain ⟨aS4, cS4, rfl⟩ := hS.1.slice
              obtain ⟨aW4, cW4, rfl⟩ := hW.1.slice
              obtain ⟨aG4, cG4, rfl⟩ := hG.1.slice
              obtain ⟨aR4, cR4, rfl⟩ := hR.1.slice
              have HZ := Lib.hid (fun o => below_trans (below_trans HB6.out hy) (al Z o))
              clear hS hW hG hR hy hC hse c0 c1 c2 c3 c4 c5 c6
              unfold jv
              go_upto_region 17 with (fail)
              have HZZ := Lib.hid (HZ.out (.cells #[.slice aS4 ([] : List ByteArray).length cS4, .slice aW4 ([] : List (Int × ByteArray)).length cW4, .int .i64 0, .int .i64 0, .int .i64 0, .slice aG4 ([] : List ByteArray).length cG4, .slice aR4 ([] : List ByteArray).length cR4] 27))
              generalize Z.alloc _ = Z1 at HZZ ⊢
              go_quiet (fail)
              go_wp2_with fail
              go_ret
              exact ⟨rfl, below_trans HZZ.out (below_dn _ _)⟩
            obtain ⟨LS, uu, hC2⟩ : ∃ LS uu, JE LS [] ((t'.seals : Int) + 1) (t'.half : Int) uu [] (l' ++ [x]) 0 Y7 e Z := ⟨_, _, hC.2 (by have := (opens_may HOP.out).2.2.1; omega)⟩
            obtain ⟨vS, vW, vG, vR, rfl, hS, hW, hG, hR, hy⟩ := hC2
            have HZ0 : Hid (JRow Z vS vW vG vR ⟨LS, [], (t'.seals : Int) + 1, (t'.half : Int), uu, [], l' ++ [x]⟩) := ⟨hS.1, hW.1, hG.1, hR.1⟩
            obtain ⟨aS4, cS4, rfl⟩ := hS.1.slice
            obtain ⟨aW4, cW4, rfl⟩ := hW.1.slice
            obtain ⟨aG4, cG4, rfl⟩ := hG.1.slice
            obtain ⟨aR4, cR4, rfl⟩ := hR.1.slice
            obtain ⟨gz, rfl, _, _, _⟩ := hR.1.at (q := l'.length) (by simp)
            have HZB := Lib.hid (fun o => below_trans hy (al Z o))
            have HZJ := Lib.hid (JB.made HZ0.out)
            clear hS hW hG hR hy hC hse HZ0 c0 c1 c2 c3 c4 c5 c6
            unfold jv
            go_upto_region 17 with (fail)
            simp only [List.length_append, List.length_singleton, List.length_nil] at HZJ ⊢
            generalize hZ1 : Z.alloc _ = Z1 at HZJ ⊢
            have hZB : Below Y7.heap.size Y7 Z1 := by rw [← hZ1]; exact HZB.out _
            have HX7 := Lib.hid (HX6.out.below hZB)
            have HB7 := Lib.hid (below_trans HB6.out hZB)
            generalize Z.heap.size = bz at HZJ ⊢
            clear hZ1 hZB HZB HX6 HB6 HYY
            generalize cR4 = cz at HZJ ⊢
            have HCELL : Hid (∀ W', Below Z1.heap.size Z1 W' → W'.cell? ⟨bz, 6, none⟩ = some (.slice (some ⟨gz, 0, none⟩) (l'.length + 1) cz) ∧ W'.cell? ⟨bx, 6, none⟩ = some (.slice aU l'.length cU) ∧ W'.cell? ⟨gz, l'.length, none⟩ = some (.string x)) := Lib.hid (by
              intro W' hb
              refine ⟨((HZJ.out.below hb).1.2 6 _ rfl).1, ((HX7.out.below hb).1.2 6 _ rfl).1, ?_⟩
              have hr : Disk.SRow W' (.slice (some ⟨gz, 0, none⟩) (l' ++ [x]).length cz) (l' ++ [x]) := by have := (HZJ.out.below hb).2.rR; simpa using this
              obtain ⟨g', he, _, _, hce⟩ := hr.at (q := l'.length) (by simp)
              cases he
              rw [hce]
              simp)
            have HSAM : Hid (∀ W', Below Z1.heap.size Z1 W' → Calls Try.prog 11 #[.slice (some ⟨gz, 0, none⟩) l'.length cz, .slice aU l'.length cU] W' (BoolB true W')) := Lib.hid (by
              intro W' hb
              have hr : Disk.SRow W' (.slice (some ⟨gz, 0, none⟩) (l' ++ [x]).length cz) (l' ++ [x]) := by have := (HZJ.out.below hb).2.rR; simpa using this
              have hl1 : l'.length ≤ 1000000 := by have := opens_recs HOP.out; omega
              have := SameB_any (row_take hr) (HX7.out.below hb).2.rR hl1 hl1
              rwa [decide_eq_true rfl] at this)
            have hcz : l'.length + 1 ≤ cz := by
              have hr : Disk.SRow Z1 (.slice (some ⟨gz, 0, none⟩) (l' ++ [x]).length cz) (l' ++ [x]) := by have := HZJ.out.2.rR; simpa using this
              obtain ⟨g', he, hcap, _, _⟩ := hr.at (q := l'.length) (by simp)
              simpa using hcap
            have i0 : (0 : Int) ≤ (l'.length : Int) := by omega
            have i1 : (l'.length : Int) ≤ (cz : Int) := by omega
            have i2 : ¬ (l'.length : Int) < 0 := by omega
            have i3 : ¬ (cz : Int) < (l'.length : Int) := by omega
            have i4 : (l'.length : Int) < (l'.length : Int) + 1 := by omega
            have i5 : (l'.length : Int) ≤ 1000000 := by have := opens_recs HOP.out; omega
            have i6 : IntKind.i64.wrap ((l'.length : Int) + 1) = (l'.length : Int) + 1 := IntWalk.i64_in _ (by omega)
            have i7 : (x.toList == x.toList) = true := by simp
            refine wp_region_held_drew (S := fun W' => Below Z1.heap.size Z1 W') (by kernel_rfl) ((Below.refl _ _).drew) (fun hHeld => ?_)
            refine takeH 0 122 (.int .i64 0) (by first | exact calm_then calm_body | exact calm_body | exact calm_then (calm_then calm_body)) rfl rfl (by kernel_rfl) (by kernel_rfl) (by kernel_rfl) (by rfl) (fun W' hSw => by go_simp) hHeld ?_
            try simp only [Act.put, List.setIfInBounds_toArray, List.set_cons_zero, List.set_cons_succ]
            refine takeH 1 123 (.bool true) (by first | exact calm_then calm_body | exact calm_body | exact calm_then (calm_then calm_body)) rfl rfl (by kernel_rfl) (by kernel_rfl) (by kernel_rfl) (by rfl) (fun W' hSw => by go_simp) hHeld ?_
            try simp only [Act.put, List.setIfInBounds_toArray, List.set_cons_zero, List.set_cons_succ]
            refine takeH 2 124 (.bool true) (by first | exact calm_then calm_body | exact calm_body | exact calm_then (calm_then calm_body)) rfl rfl (by kernel_rfl) (by kernel_rfl) (by kernel_rfl) (by rfl) (fun W' hSw => by go_simp) hHeld ?_
            try simp only [Act.put, List.setIfInBounds_toArray, List.set_cons_zero, List.set_cons_succ]
            refine takeH 3 125 (.pointer (some ⟨bz, 6, none⟩)) (by first | exact calm_then calm_body | exact calm_body | exact calm_then (calm_then calm_body)) rfl rfl (by kernel_rfl) (by kernel_rfl) (by kernel_rfl) (by rfl) (fun W' hSw => by go_simp) hHeld ?_
            try simp only [Act.put, List.setIfInBounds_toArray, List.set_cons_zero, List.set_cons_succ]
            refine takeH 4 126 (.slice (some ⟨gz, 0, none⟩) (l'.length + 1) cz) (by first | exact calm_then calm_body | exact calm_body | exact calm_then (calm_then calm_body)) rfl rfl (by kernel_rfl) (by kernel_rfl) (by kernel_rfl) (by rfl) (fun W' hSw => by have z6 := (HCELL.out _ hSw).1; go_simp) hHeld ?_
            try simp only [Act.put, List.setIfInBounds_toArray, List.set_cons_zero, List.set_cons_succ]
            refine takeH 5 127 (.int .i64 (l'.length + 1)) (by first | exact calm_then calm_body | exact calm_body | exact calm_then (calm_then calm_body)) rfl rfl (by kernel_rfl) (by kernel_rfl) (by kernel_rfl) (by rfl) (fun W' hSw => by go_simp) hHeld ?_
            try simp only [Act.put, List.setIfInBounds_toArray, List.set_cons_zero, List.set_cons_succ]
            refine takeH 6 128 (.pointer (some ⟨bx, 6, none⟩)) (by first | exact calm_then calm_body | exact calm_body | exact calm_then (calm_then calm_body)) rfl rfl (by kernel_rfl) (by kernel_rfl) (by kernel_rfl) (by rfl) (fun W' hSw => by go_simp) hHeld ?_
            try simp only [Act.put, List.setIfInBounds_toArray, List.set_cons_zero, List.set_cons_succ]
            refine takeH 7 129 (.slice aU l'.length cU) (by first | exact calm_then calm_body | exact calm_body | exact calm_then (calm_then calm_body)) rfl rfl (by kernel_rfl) (by kernel_rfl) (by kernel_rfl) (by rfl) (fun W' hSw => by have x6 := (HCELL.out _ hSw).2.1; go_simp) hHeld ?_
            try simp only [Act.put, List.setIfInBounds_toArray, List.set_cons_zero, List.set_cons_succ]
            refine takeH 8 130 (.int .i64 l'.length) (by first | exact calm_then calm_body | exact calm_body | exact calm_then (calm_then calm_body)) rfl rfl (by kernel_rfl) (by kernel_rfl) (by kernel_rfl) (by rfl) (fun W' hSw => by go_simp) hHeld ?_
            try simp only [Act.put, List.setIfInBounds_toArray, List.set_cons_zero, List.set_cons_succ]
            refine takeH 9 131 (.int .i64 (l'.length + 1)) (by first | exact calm_then calm_body | exact calm_body | exact calm_then (calm_then calm_body)) rfl rfl (by kernel_rfl) (by kernel_rfl) (by kernel_rfl) (by rfl) (fun W' hSw => by go_simp) hHeld ?_
            try simp only [Act.put, List.setIfInBounds_toArray, List.set_cons_zero, List.set_cons_succ]
            refine takeH 10 132 (.bool true) (by first | exact calm_then calm_body | exact calm_body | exact calm_then (calm_then calm_body)) rfl rfl (by kernel_rfl) (by kernel_rfl) (by kernel_rfl) (by rfl) (fun W' hSw => by go_simp) hHeld ?_
            try simp only [Act.put, List.setIfInBounds_toArray, List.set_cons_zero, List.set_cons_succ]
            refine takeH 11 133 (.bool true) (by first | exact calm_then calm_body | exact calm_body | exact calm_then (calm_then calm_body)) rfl rfl (by kernel_rfl) (by kernel_rfl) (by kernel_rfl) (by rfl) (fun W' hSw => by go_simp) hHeld ?_
            try simp only [Act.put, List.setIfInBounds_toArray, List.set_cons_zero, List.set_cons_succ]
            refine takeH 12 134 (.bool true) (by first | exact calm_then calm_body | exact calm_body | exact calm_then (calm_then calm_body)) rfl rfl (by kernel_rfl) (by kernel_rfl) (by kernel_rfl) (by rfl) (fun W' hSw => by go_simp) hHeld ?_
            try simp only [Act.put, List.setIfInBounds_toArray, List.set_cons_zero, List.set_cons_succ]
            refine takeH 13 135 (.pointer (some ⟨bz, 6, none⟩)) (by first | exact calm_then calm_body | exact calm_body | exact calm_then (calm_then calm_body)) rfl rfl (by kernel_rfl) (by kernel_rfl) (by kernel_rfl) (by rfl) (fun W' hSw => by go_simp) hHeld ?_
            try simp only [Act.put, List.setIfInBounds_toArray, List.set_cons_zero, List.set_cons_succ]
            refine takeH 14 136 (.slice (some ⟨gz, 0, none⟩) (l'.length + 1) cz) (by first | exact calm_then calm_body | exact calm_body | exact calm_then (calm_then calm_body)) rfl rfl (by kernel_rfl) (by kernel_rfl) (by kernel_rfl) (by rfl) (fun W' hSw => by have z6 := (HCELL.out _ hSw).1; go_simp) hHeld ?_
            try simp only [Act.put, List.setIfInBounds_toArray, List.set_cons_zero, List.set_cons_succ]
            refine takeH 15 137 (.pointer (some ⟨bx, 6, none⟩)) (by first | exact calm_then calm_body | exact calm_body | exact calm_then (calm_then calm_body)) rfl rfl (by kernel_rfl) (by kernel_rfl) (by kernel_rfl) (by rfl) (fun W' hSw => by go_simp) hHeld ?_
            try simp only [Act.put, List.setIfInBounds_toArray, List.set_cons_zero, List.set_cons_succ]
            refine takeH 16 138 (.slice aU l'.length cU) (by first | exact calm_then calm_body | exact calm_body | exact calm_then (calm_then calm_body)) rfl rfl (by kernel_rfl) (by kernel_rfl) (by kernel_rfl) (by rfl) (fun W' hSw => by have x6 := (HCELL.out _ hSw).2.1; go_simp) hHeld ?_
            try simp only [Act.put, List.setIfInBounds_toArray, List.set_cons_zero, List.set_cons_succ]
            refine takeH 17 139 (.int .i64 l'.length) (by first | exact calm_then calm_body | exact calm_body | exact calm_then (calm_then calm_body)) rfl rfl (by kernel_rfl) (by kernel_rfl) (by kernel_rfl) (by rfl) (fun W' hSw => by go_simp) hHeld ?_
            try simp only [Act.put, List.setIfInBounds_toArray, List.set_cons_zero, List.set_cons_succ]
            refine takeH 18 140 (.slice (some ⟨gz, 0, none⟩) l'.length cz) (by first | exact calm_then calm_body | exact calm_body | exact calm_then (calm_then calm_body)) rfl rfl (by kernel_rfl) (by kernel_rfl) (by kernel_rfl) (by rfl) (fun W' hSw => by go_simp) hHeld ?_
            try simp only [Act.put, List.setIfInBounds_toArray, List.set_cons_zero, List.set_cons_succ]
            refine takeH 19 141 (.pointer (some ⟨bx, 6, none⟩)) (by first | exact calm_then calm_body | exact calm_body | exact calm_then (calm_then calm_body)) rfl rfl (by kernel_rfl) (by kernel_rfl) (by kernel_rfl) (by rfl) (fun W' hSw => by go_simp) hHeld ?_
            try simp only [Act.put, List.setIfInBounds_toArray, List.set_cons_zero, List.set_cons_succ]
            refine takeH 20 142 (.slice aU l'.length cU) (by first | exact calm_then calm_body | exact calm_body | exact calm_then (calm_then calm_body)) rfl rfl (by kernel_rfl) (by kernel_rfl) (by kernel_rfl) (by rfl) (fun W' hSw => by have x6 := (HCELL.out _ hSw).2.1; go_simp) hHeld ?_
            try simp only [Act.put, List.setIfInBounds_toArray, List.set_cons_zero, List.set_cons_succ]
            refine wpAnyH_ready (rs := [21]) (by kernel_rfl) (by simp) (AllReadyH.cons rfl (fun K hK => ?_) AllReadyH.nil)
            go_simp
            go_at_call 11
            refine (HSAM.out _ hHeld).mono ?_
            rintro e Z2 ⟨rfl, hz⟩
            have hHeld2 := below_trans hHeld hz
            clear hz
            go_simp
            refine hK.out _ _ hHeld2 (fun hHeld => ?_)
            clear hK hHeld2
            try simp only [Act.put, List.setIfInBounds_toArray, List.set_cons_zero, List.set_cons_succ]
            refine takeH 22 144 (.bool true) (by first | exact calm_then calm_body | exact calm_body | exact calm_then (calm_then calm_body)) rfl rfl (by kernel_rfl) (by kernel_rfl) (by kernel_rfl) (by rfl) (fun W' hSw => by go_simp) hHeld ?_
            try simp only [Act.put, List.setIfInBounds_toArray, List.set_cons_zero, List.set_cons_succ]
            refine takeH 23 145 (.bool true) (by first | exact calm_then calm_body | exact calm_body | exact calm_then (calm_then calm_body)) rfl rfl (by kernel_rfl) (by kernel_rfl) (by kernel_rfl) (by rfl) (fun W' hSw => by go_simp) hHeld ?_
            try simp only [Act.put, List.setIfInBounds_toArray, List.set_cons_zero, List.set_cons_succ]
            refine takeH 24 146 (.pointer (some ⟨bz, 6, none⟩)) (by first | exact calm_then calm_body | exact calm_body | exact calm_then (calm_then calm_body)) rfl rfl (by kernel_rfl) (by kernel_rfl) (by kernel_rfl) (by rfl) (fun W' hSw => by go_simp) hHeld ?_
            try simp only [Act.put, List.setIfInBounds_toArray, List.set_cons_zero, List.set_cons_succ]
            refine takeH 25 147 (.slice (some ⟨gz, 0, none⟩) (l'.length + 1) cz) (by first | exact calm_then calm_body | exact calm_body | exact calm_then (calm_then calm_body)) rfl rfl (by kernel_rfl) (by kernel_rfl) (by kernel_rfl) (by rfl) (fun W' hSw => by have z6 := (HCELL.out _ hSw).1; go_simp) hHeld ?_
            try simp only [Act.put, List.setIfInBounds_toArray, List.set_cons_zero, List.set_cons_succ]
            refine takeH 26 148 (.pointer (some ⟨bx, 6, none⟩)) (by first | exact calm_then calm_body | exact calm_body | exact calm_then (calm_then calm_body)) rfl rfl (by kernel_rfl) (by kernel_rfl) (by kernel_rfl) (by rfl) (fun W' hSw => by go_simp) hHeld ?_
            try simp only [Act.put, List.setIfInBounds_toArray, List.set_cons_zero, List.set_cons_succ]
            refine takeH 27 149 (.slice aU l'.length cU) (by first | exact calm_then calm_body | exact calm_body | exact calm_then (calm_then calm_body)) rfl rfl (by kernel_rfl) (by kernel_rfl) (by kernel_rfl) (by rfl) (fun W' hSw => by have x6 := (HCELL.out _ hSw).2.1; go_simp) hHeld ?_
            try simp only [Act.put, List.setIfInBounds_toArray, List.set_cons_zero, List.set_cons_succ]
            refine takeH 28 150 (.int .i64 l'.length) (by first | exact calm_then calm_body | exact calm_body | exact calm_then (calm_then calm_body)) rfl rfl (by kernel_rfl) (by kernel_rfl) (by kernel_rfl) (by rfl) (fun W' hSw => by go_simp) hHeld ?_
            try simp only [Act.put, List.setIfInBounds_toArray, List.set_cons_zero, List.set_cons_succ]
            refine takeH 29 151 (.pointer (some ⟨gz, l'.length, none⟩)) (by first | exact calm_then calm_body | exact calm_body | exact calm_then (calm_then calm_body)) rfl rfl (by kernel_rfl) (by kernel_rfl) (by kernel_rfl) (by rfl) (fun W' hSw => by go_simp) hHeld ?_
            try simp only [Act.put, List.setIfInBounds_toArray, List.set_cons_zero, List.set_cons_succ]
            refine takeH 30 152 (.string x) (by first | exact calm_then calm_body | exact calm_body | exact calm_then (calm_then calm_body)) rfl rfl (by kernel_rfl) (by kernel_rfl) (by kernel_rfl) (by rfl) (fun W' hSw => by have r6 := (HCELL.out _ hSw).2.2; go_simp) hHeld ?_
            try simp only [Act.put, List.setIfInBounds_toArray, List.set_cons_zero, List.set_cons_succ]
            refine takeH 31 153 (.string x) (by first | exact calm_then calm_body | exact calm_body | exact calm_then (calm_then calm_body)) rfl rfl (by kernel_rfl) (by kernel_rfl) (by kernel_rfl) (by rfl) (fun W' hSw => by go_simp) hHeld ?_
            try simp only [Act.put, List.setIfInBounds_toArray, List.set_cons_zero, List.set_cons_succ]
            refine takeH 32 154 (.bool true) (by first | exact calm_then calm_body | exact calm_body | exact calm_then (calm_then calm_body)) rfl rfl (by kernel_rfl) (by kernel_rfl) (by kernel_rfl) (by rfl) (fun W' hSw => by go_simp) hHeld ?_
            try simp only [Act.put, List.setIfInBounds_toArray, List.set_cons_zero, List.set_cons_succ]
            refine takeH 33 155 (.bool true) (by first | exact calm_then calm_body | exact calm_body | exact calm_then (calm_then calm_body)) rfl rfl (by kernel_rfl) (by kernel_rfl) (by kernel_rfl) (by rfl) (fun W' hSw => by go_simp) hHeld ?_
            try simp only [Act.put, List.setIfInBounds_toArray, List.set_cons_zero, List.set_cons_succ]
            refine takeH 34 156 (.bool true) (by first | exact calm_then calm_body | exact calm_body | exact calm_then (calm_then calm_body)) rfl rfl (by kernel_rfl) (by kernel_rfl) (by kernel_rfl) (by rfl) (fun W' hSw => by go_simp) hHeld ?_
            try simp only [Act.put, List.setIfInBounds_toArray, List.set_cons_zero, List.set_cons_succ]
            refine skipH 35 157 (by first | exact calm_then calm_body | exact calm_body | exact calm_then (calm_then calm_body)) rfl rfl (by kernel_rfl) (by kernel_rfl) (by kernel_rfl) (by rfl) hHeld ?_
            try simp only [Act.put, List.setIfInBounds_toArray, List.set_cons_zero, List.set_cons_succ]
            refine skipH 36 158 (by first | exact calm_then calm_body | exact calm_body | exact calm_then (calm_then calm_body)) rfl rfl (by kernel_rfl) (by kernel_rfl) (by kernel_rfl) (by rfl) hHeld ?_
            try simp only [Act.put, List.setIfInBounds_toArray, List.set_cons_zero, List.set_cons_succ]
            refine takeH 37 159 (.bool true) (by first | exact calm_then calm_body | exact calm_body | exact calm_then (calm_then calm_body)) rfl rfl (by kernel_rfl) (by kernel_rfl) (by kernel_rfl) (by rfl) (fun W' hSw => by go_simp) hHeld ?_
            try simp only [Act.put, List.setIfInBounds_toArray, List.set_cons_zero, List.set_cons_succ]
            refine takeH 38 12 (.bool true) (by first | exact calm_then calm_body | exact calm_body | exact calm_then (calm_then calm_body)) rfl rfl (by kernel_rfl) (by kernel_rfl) (by kernel_rfl) (by rfl) (fun W' hSw => by go_simp) hHeld ?_
            try simp only [Act.put, List.setIfInBounds_toArray, List.set_cons_zero, List.set_cons_succ]
            refine wpAnyH_done (by kernel_rfl) ?_ _
            go_wp2_with fail
            go_ret
            exact ⟨rfl, below_trans HB7.out hHeld⟩

set_option maxRecDepth 100000 in
set_option maxHeartbeats 4000000 in
theorem lifted (os : Os) (started : os.Started) (H : Type) (enc : TypeId × Value → H) :
    ReturnsInHanded {} Try.checked os 3 .any (Rows.journalKeepsSpec.pre6 enc Try.prog Try.f3 Rows.journalKeepsRow.domain false) (Rows.journalKeepsSpec.post enc Try.prog Try.f3 false true false false) := by
  refine returnsInHanded_of_change (C := Try.checked) own started (by kernel_rfl) Try.func3
    (ChangeSpec.witness6 (enc := enc) (C := Try.checked) false ⟨#[], #[.agg #[.slice none 0 0, .slice none 0 0, .int .i64 0, .int .i64 0, .int .i64 0, .slice none 0 0, .slice none 0 0], .string ByteArray.empty, .bool false, .int .u64 0, .int .i64 0, .string ByteArray.empty], []⟩ 8 (by kernel_rfl) (by kernel_rfl) (by kernel_rfl) (by kernel_rfl)) ?_
  intro W base args ds gs before hval0 hW hcnd _
  have hval : ∀ (j : Nat) t v, Try.f3.params[j]? = some t → args[j]? = some v → Value.okWide Try.prog W .any base t v := hval0
  have hW' := hW
  obtain ⟨p, q, hA0, hV, rfl, hfz, hnd⟩ := hW
  have hA : DataW.TrodAll enc Try.prog W 0 (fun _ => true) true Try.f3.params.toList args.toList ds p := hA0
  rw [Try.params3] at hA hval
  obtain ⟨v0, vs0, d0, ds0, p0, q0, hargs, rfl, rfl, h0, r0⟩ := trodAll_cons hA
  obtain ⟨v1, vs1, d1, ds1, p1, q1, rfl, rfl, rfl, h1, r1⟩ := trodAll_cons r0
  obtain ⟨v2, vs2, d2, ds2, p2, q2, rfl, rfl, rfl, h2, r2⟩ := trodAll_cons r1
  obtain ⟨v3, vs3, d3, ds3, p3, q3, rfl, rfl, rfl, h3, r3⟩ := trodAll_cons r2
  obtain ⟨v4, vs4, d4, ds4, p4, q4, rfl, rfl, rfl, h4, r4⟩ := trodAll_cons r3
  obtain ⟨v5, vs5, d5, ds5, p5, q5, rfl, rfl, rfl, h5, r5⟩ := trodAll_cons r4
  obtain ⟨rfl, rfl, rfl⟩ := trodAll_nil r5
  obtain rfl : args = #[v0, v1, v2, v3, v4, v5] := by cases args; simp_all
  obtain ⟨rfl, rfl⟩ := trodVars_none hV
  have k0 := h0
  have lt0 : ∀ x ∈ p0, x.block < W.heap.size := by obtain ⟨m, hm⟩ := k0; exact DataW.trod_lt m _ _ _ hm
  obtain ⟨fuel0, hf0⟩ := h0
  obtain ⟨vS, vW, s, hh, u, vG, vR, rfl, wS, wW, wG, wR, ws, wh, wu⟩ := open_journal (hval 0 27 v0 rfl rfl) hf0
  obtain ⟨a1, rfl, rfl, rfl, w1⟩ := open_string Try.underlying9 (hval 1 9 v1 rfl rfl) h1
  obtain ⟨a2, rfl, rfl, rfl⟩ := open_bool Try.underlying4 (hval 2 4 v2 rfl rfl) h2
  obtain ⟨a3, rfl, rfl, rfl, w3⟩ := open_int Try.underlying28 (hval 3 28 v3 rfl rfl) h3
  have hb3 : 0 ≤ a3 ∧ a3 < 18446744073709551616 := by
    have := w3
    simp [Lit.wf, IntKind.min, IntKind.max, IntKind.bits, IntKind.signed] at this
    omega
  obtain ⟨n3, rfl⟩ : ∃ n : Nat, a3 = n := ⟨a3.toNat, by omega⟩
  obtain ⟨a4, rfl, rfl, rfl, w4⟩ := open_int Try.underlying3 (hval 4 3 v4 rfl rfl) h4
  have hb4 : -9223372036854775808 ≤ a4 ∧ a4 ≤ 9223372036854775807 := by
    have := w4
    simp [Lit.wf, IntKind.min, IntKind.max, IntKind.bits, IntKind.signed] at this
    omega
  obtain ⟨a5, rfl, rfl, rfl, w5⟩ := open_string Try.underlying9 (hval 5 9 v5 rfl rfl) h5
  clear hA0 hval0
  refine (walk0 vS vW vG vR s hh u a1 (by simpa [maxLen] using w1) a2 n3 (by omega) a4 hb4.1 hb4.2 a5 (by simpa [maxLen] using w5) W wS wW wG wR).mono fun e W' ⟨he, bel⟩ => ?_
  subst he
  exact ⟨_, rfl, _, _, _, [], _, [], hW', trodAll_mk1 (shut_bool Try.underlying4 _), (trodAll_cons_mk (Below.trod laidOut (by kernel_rfl) (of_decide_eq_true (by kernel_rfl)) k0 bel lt0) (trodAll_cons_mk (shut_string Try.underlying9 w1) (trodAll_cons_mk (shut_bool Try.underlying4 _) (trodAll_cons_mk (shut_int Try.underlying28 w3) (trodAll_cons_mk (shut_int Try.underlying3 w4) (trodAll_cons_mk (shut_string Try.underlying9 w5) trodAll_mk0)))))), rfl, bel.frame _, fun h => by cases h⟩

theorem over : Rows.journalKeepsRow.holds Try.pinned (OpenSpec.ofChange Rows.journalKeepsSpec) :=
  OpenClaim.holds_of_wide 3 Try.f3 rfl rfl rfl rfl rfl rfl rfl ⟨rfl, rfl, rfl, rfl, rfl⟩ rfl rfl rfl rfl rfl (by kernel_rfl) Try.func3 (by kernel_rfl)
    (of_decide_eq_true (by kernel_rfl)) (by unfold Func.isWrapper; first | (rw [if_pos (by decide +kernel)]; kernel_rfl) | (rw [if_neg (by decide +kernel)]; exact ⟨rfl, rfl⟩))
    (fun os started H enc _ => lifted os started H enc)

theorem proved : Rows.JournalKeepsSaid := over
#print axioms proved
end Go.Proofs.Ytndakbjmahkjdaa.journalKeeps
