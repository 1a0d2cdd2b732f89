/-
  Proved: for any journal, place, byte and data the law JournalUnused returns true: what stands in the other half, and behind the records, changed anyhow, a journal opens the same, and goes on the same. No condition.
-/
import Derived.Test.YtndakbjmahkjdaaRows
import Derived.Test.YtndakbjmahkjdaaMy
import Derived.Test.YtndakbjmahkjdaaMz
namespace Go.Proofs.Ytndakbjmahkjdaa.journalUnused
open Go.ChangeShapes Go.WideShapes Go.ChangeAt Go.RowKit Go.Lib Go.Proofs.Ytndakbjmahkjdaa.Disk Go.Proofs.Ytndakbjmahkjdaa.Disk.Jn
open Go.Proofs.Ytndakbjmahkjdaa.Frame (frm frms)
open Go.ChangeMaps (open_string shut_string)
set_option linter.unusedVariables false

theorem own : ownKnob Try.prog.godebug = none := by kernel_rfl
theorem laidOut : laidOutB Try.prog = true := by kernel_rfl

/-- Behind the law's first statement. -/
def Cut1 (w : World) (p : Value) (wx : World) : Prop :=
  ∃ (aS aW aG aR : Option Addr) (cS cW cG cR : Nat) (J : JN) (x : ByteArray), p = .string x ∧ x.size ≤ 100 ∧ JSmall J ∧
    JB w.heap.size (.slice aS J.ls.length cS) (.slice aW J.ws.length cW) (.slice aG J.g.length cG) (.slice aR J.l.length cR) J wx ∧ Below w.heap.size w wx

theorem infoB : (Try.prog.info? 5).map (fun i => (i.zero, i.size, i.bytes)) = some (some (.int .u8 0), 1, 1) := by kernel_rfl
/-- 64 zeros, just made. -/
theorem brow_made {w w' : World} (h : w'.ownsRow w.heap.size 5 1 (.slice (some ⟨w.heap.size, 0, none⟩) 64 64) 64 (madeCells (Value.int .u8 0).cells (64 * 1)).toList) : Crc.BRow w.heap.size (List.replicate 64 0) w' := by
  refine ⟨(h.lt _ rfl).2, fun j hj => ?_⟩
  rw [List.length_replicate] at hj
  refine ⟨?_, h.frozenAt j⟩
  rw [h.cellAt j (by omega), List.getElem_replicate]
  have e : (madeCells (Value.int .u8 0).cells (64 * 1)).toList = List.replicate 64 (.int .u8 0) := by kernel_rfl
  rw [e, List.getElem?_replicate, if_pos hj]
  rfl
theorem rep_set {k : Nat} (h : k < 64) (c : UInt8) : (List.replicate k c ++ List.replicate (64 - k) 0).set k c = List.replicate (k + 1) c ++ List.replicate (64 - (k + 1)) 0 := by
  rw [show 64 - k = (64 - (k + 1)) + 1 by omega, List.replicate_succ (n := 64 - (k + 1)), List.set_append_right _ _ (by simp)]
  simp [List.replicate_succ', List.append_assoc]
/-- The disk's copy: its block, and sectors in a row of their own. -/
def Cp (W2 : World) (v vW : Value) (l : List ByteArray) (W : World) : Prop := Box W2.heap.size [v, vW] W ∧ OwnS (W2.heap.size + 1) v l W ∧ Below W2.heap.size W2 W
theorem copied {W2 w14 : World} {vS vW v : Value} {l : List ByteArray} (hb : Below (W2.heap.size + 1) (W2.alloc (.cells #[vS, vW] 25)) w14) (hown : OwnS (W2.heap.size + 1) v l w14) :
    Box W2.heap.size [vS, vW] w14 ∧ Cp W2 v vW l (w14.setCell ⟨W2.heap.size, 0, none⟩ v) := by
  have h1 : Box W2.heap.size [vS, vW] w14 := (Box.made W2 [vS, vW] 25).keep hb (by omega)
  exact ⟨h1, h1.one (i := 0) (by simp) v, ownsRow_setCell_below hown (by show W2.heap.size < W2.heap.size + 1; omega) _, ((al W2 _).trans (hb.mono (by omega))).setCell (p := ⟨W2.heap.size, 0, none⟩) (Nat.le_refl _) _⟩
theorem Cp.below {W2 W W' : World} {v vW : Value} {l : List ByteArray} (h : Cp W2 v vW l W) (hb : Below W.heap.size W W') : Cp W2 v vW l W' := ⟨h.1.below hb, by
  have hb2 := hb
  exact OwnS.below h.2.1 hb, below_trans h.2.2 hb⟩

theorem Cp.put {W2 W : World} {g n c p : Nat} {vW : Value} {l : List ByteArray} (h : Cp W2 (.slice (some ⟨g, 0, none⟩) n c) vW l W) (hg : W2.heap.size + 1 ≤ g) (tx : ByteArray) : Cp W2 (.slice (some ⟨g, 0, none⟩) n c) vW (l.set p tx) (W.setCell ⟨g, p, none⟩ (.string tx)) :=
  ⟨h.1.other (by omega) _, h.2.1.set tx, h.2.2.setCell (p := ⟨g, p, none⟩) (by show W2.heap.size ≤ g; omega) _⟩
theorem opens_set {ls : List ByteArray} {t : Jn.Told} {l : List ByteArray} {p : Nat} {tx : ByteArray} (h : Opens ls t l) (hp2 : 2 ≤ p) (hpn : p < ls.length) (hpu : ∀ j, j < t.used → begN ls.length t.half + j / 64 ≠ p) (htx : tx.size = 64) : Opens (ls.set p tx) t l := by
  have hg : ∀ q, q ≠ p → (ls.set p tx).getD q ⟨#[]⟩ = ls.getD q ⟨#[]⟩ := fun q hq => by
    rw [List.getD_eq_getElem?_getD, List.getD_eq_getElem?_getD, List.getElem?_set_ne (Ne.symm hq)]
  have hr := rightB_t.1 h.1
  refine opens_keep h (rightB_t.2 ⟨by simpa using hr.1, by simpa using hr.2.1, hr.2.2.1, fun j hj => ?_, fun j hj => by simp at hj⟩) (by simp) (hg _ (by omega)) (fun q hq _ => .inl (hg q (by omega))) (fun j hj => ?_)
  · by_cases e : j = p
    · subst e; rw [List.getElem_set_self]; exact htx
    · rw [List.getElem_set_ne (Ne.symm e)]; exact hr.2.2.2.1 j (by simpa using hj)
  · unfold secB
    rw [hg _ (hpu j hj)]

set_option maxRecDepth 100000 in
set_option maxHeartbeats 4000000 in
theorem walk0 (vS vW vG vR : Value) (s h u : Int) (at_ : Int) (ht1 : -9223372036854775808 ≤ at_) (ht2 : at_ ≤ 9223372036854775807) (c : Nat) (hc : c < 256) (x : ByteArray) (hx : x.size ≤ 9223372036854775807) (w : World) (hS : ArgS w vS) (hW : ArgW w vW) (hG : ArgS w vG) (hR : ArgS w vR) :
    Calls Try.prog 5 #[jv vS vW s h u vG vR, .int .i64 at_, .int .u8 c, .string x] w (BoolB true w) := by
  have HFE := Lib.hid (fun W (hb : Below w.heap.size w W) => few_any (s := s) (h := h) (u := u) (hS.below hb) (hW.below hb) (hG.below hb) (hR.below hb))
  obtain ⟨aS, nS, cS, rfl⟩ := argS_slice hS
  obtain ⟨aW, nW, cW, rfl⟩ := argW_slice hW
  obtain ⟨aG, nG, cG, rfl⟩ := argS_slice hG
  obtain ⟨aR, nR, cR, rfl⟩ := argS_slice hR
  have HB0 := Lib.hid (al w (.cells #[.slice aS nS cS, .slice aW nW cW, .int .i64 s, .int .i64 h, .int .i64 u, .slice aG nG cG, .slice aR nR cR] 27))
  have HX0 := Lib.hid (Box.made w [.slice aS nS cS, .slice aW nW cW, .int .i64 s, .int .i64 h, .int .i64 u, .slice aG nG cG, .slice aR nR cR] 27)
  clear hS hW hG hR
  unfold jv at HFE ⊢
  go_enter Try.func5, Try.ntmps5
  go_upto_region 1 with (fail)
  generalize (w.alloc _) = W at HB0 HX0 ⊢
  have hWb : w.heap.size < W.heap.size := HX0.out.1
  go_cut [3] from 26 to 32 (fun p wx => Cut1 w p wx)
  case first =>
    obtain ⟨p, hp, hpx, hp2⟩ : ∃ n : Nat, min (x.size : Int) 100 = n ∧ n ≤ x.size ∧ n ≤ 100 := ⟨min x.size 100, by omega, by omega, by omega⟩
    have j0 : (0 : Int) ≤ (p : Int) := by omega
    have j1 : (p : Int) ≤ (x.size : Int) := by omega
    have j2 : ¬ (p : Int) < 0 := by omega
    have j3 : ¬ (x.size : Int) < (p : Int) := by omega
    obtain ⟨c0, c1, c2, c3, c4, c5, c6⟩ := HX0.out.c7
    have HBD := Lib.hid (below_trans HB0.out ((Below.refl W.heap.size W).drew))
    refine wp_region_held_drew (S := fun _ => True) (by kernel_rfl) trivial (fun hHeld => ?_)
    refine takeH 2 28 (.string x) (by first | exact calm_then calm_body | exact calm_body | exact calm_then (calm_then calm_body)) rfl rfl (by kernel_rfl) (by kernel_rfl) (by kernel_rfl) (by rfl) (fun W' hSw => by go_simp) trivial ?_
    try simp only [Act.put, List.setIfInBounds_toArray, List.set_cons_zero, List.set_cons_succ]
    refine takeH 3 29 (.string x) (by first | exact calm_then calm_body | exact calm_body | exact calm_then (calm_then calm_body)) rfl rfl (by kernel_rfl) (by kernel_rfl) (by kernel_rfl) (by rfl) (fun W' hSw => by go_simp) trivial ?_
    try simp only [Act.put, List.setIfInBounds_toArray, List.set_cons_zero, List.set_cons_succ]
    refine takeH 4 30 (.int .i64 x.size) (by first | exact calm_then calm_body | exact calm_body | exact calm_then (calm_then calm_body)) rfl rfl (by kernel_rfl) (by kernel_rfl) (by kernel_rfl) (by rfl) (fun W' hSw => by go_simp) trivial ?_
    try simp only [Act.put, List.setIfInBounds_toArray, List.set_cons_zero, List.set_cons_succ]
    refine takeH 5 31 (.int .i64 p) (by first | exact calm_then calm_body | exact calm_body | exact calm_then (calm_then calm_body)) rfl rfl (by kernel_rfl) (by kernel_rfl) (by kernel_rfl) (by rfl) (fun W' hSw => by go_simp) trivial ?_
    try simp only [Act.put, List.setIfInBounds_toArray, List.set_cons_zero, List.set_cons_succ]
    refine takeH 6 32 (.string (x.extract 0 p)) (by first | exact calm_then calm_body | exact calm_body | exact calm_then (calm_then calm_body)) rfl rfl (by kernel_rfl) (by kernel_rfl) (by kernel_rfl) (by rfl) (fun W' hSw => by go_simp) trivial ?_
    try simp only [Act.put, List.setIfInBounds_toArray, List.set_cons_zero, List.set_cons_succ]
    refine wpAnyH_ready (rs := [0]) (by kernel_rfl) (by simp) (AllReadyH.cons rfl (fun K hK => ?_) AllReadyH.nil)
    go_simp
    refine hK.out _ _ trivial (fun hHeld => ?_)
    clear hK
    try simp only [Act.put, List.setIfInBounds_toArray, List.set_cons_zero, List.set_cons_succ]
    refine wpAnyH_ready (rs := [1]) (by kernel_rfl) (by simp) (AllReadyH.cons rfl (fun K hK => ?_) AllReadyH.nil)
    go_simp
    go_at_call 6
    refine (HFE.out _ HBD.out).mono ?_
    rintro e V ⟨vS, vW, vG, vR, ls, ws, g, l, rfl, k1, k2, k3, kS, kW, kG, kR, kb⟩
    have HSM := Lib.hid (small_few (s := s) (h := h) (u := u) k1 k2 k3)
    obtain ⟨aS1, pS1, rfl⟩ := kS.1.slice
    obtain ⟨aW1, pW1, rfl⟩ := kW.1.slice
    obtain ⟨aG1, pG1, rfl⟩ := kG.1.slice
    obtain ⟨aR1, pR1, rfl⟩ := kR.1.slice
    have hWV : Below W.heap.size W V := below_trans ((Below.refl W.heap.size W).drew) kb
    have HY := Lib.hid (jrow_end (s := s) (h := h) (u := u) HB0.out (Nat.le_refl _) hWb hWV (HX0.out.below hWV) kS kW kG kR)
    obtain ⟨f0, f1, f2, f3, f4, f5, f6⟩ := (HX0.out.below hWV).f7
    obtain ⟨r0, r1, r2, r3, r4, r5, r6⟩ := (HX0.out.below hWV).c7
    clear k1 k2 k3 kS kW kG kR kb hWV c0 c1 c2 c3 c4 c5 c6
    unfold jv
    go_simp
    refine hK.out _ _ trivial (fun hHeld => ?_)
    clear hK
    try simp only [Act.put, List.setIfInBounds_toArray, List.set_cons_zero, List.set_cons_succ]
    refine wpAnyH_ready (rs := [7]) (by kernel_rfl) (by simp) (AllReadyH.cons rfl (fun K hK => ?_) AllReadyH.nil)
    go_simp
    refine hK.out _ _ trivial (fun hHeld => ?_)
    clear hK
    try simp only [Act.put, List.setIfInBounds_toArray, List.set_cons_zero, List.set_cons_succ]
    refine takeH 8 3 (.string (x.extract 0 p)) (by first | exact calm_then calm_body | exact calm_body | exact calm_then (calm_then calm_body)) rfl rfl (by kernel_rfl) (by kernel_rfl) (by kernel_rfl) (by rfl) (fun W' hSw => by go_simp) trivial ?_
    try simp only [Act.put, List.setIfInBounds_toArray, List.set_cons_zero, List.set_cons_succ]
    refine wpAnyH_done (by kernel_rfl) ?_ _
    go_wp2_with fail
    go_meet
    exact ⟨aS1, aW1, aG1, aR1, pS1, pW1, pG1, pR1, ⟨ls, ws, s, h, u, g, l⟩, x.extract 0 p, rfl, by rw [ByteArray.size_extract]; omega, HSM.out, ⟨HY.out.1, HY.out.2.1⟩, HY.out.2.2⟩
  case rest =>
    clear HFE HB0 HX0 hWb hx
    obtain ⟨aS, aW, aG, aR, cS, cW, cG, cR, J, x, rfl, hx, hsm, hJB, hbe⟩ := hcut
    have HJB := Lib.hid hJB
    have HBE := Lib.hid hbe
    have HSM := Lib.hid hsm
    have hwb := hJB.1.1
    obtain ⟨c0, c1, c2, c3, c4, c5, c6⟩ := hJB.1.c7
    clear hJB hbe hsm
    by_cases hmay : ∃ t, May J t
    case neg =>
      have HR := Lib.hid (Right_no HJB.out.2 HSM.out (fun t ht => hmay ⟨t, ht⟩))
      unfold jv at HR
      clear hmay
      go_wp2_with fail
      refine HR.out.mono ?_
      rintro e y ⟨rfl, hy⟩
      have HY := Lib.hid (below_trans HBE.out hy)
      clear hy c0 c1 c2 c3 c4 c5 c6
      go_wp2_with fail
      refine (alive_any _).mono ?_
      rintro e z ⟨rfl, hz⟩
      have HZ := Lib.hid (below_trans HY.out hz)
      clear hz
      go_wp2_with fail
      go_ret
      exact ⟨rfl, HZ.out⟩
    obtain ⟨t, hm⟩ := hmay
    have HM := Lib.hid hm
    have HR := Lib.hid (Right_yes HJB.out.2 hm)
    unfold jv at HR
    clear hm
    go_wp2_with fail
    refine HR.out.mono ?_
    rintro e W2 ⟨rfl, hy⟩
    have HJ2 := Lib.hid (HJB.out.below hy)
    have HB2 := Lib.hid (below_trans HBE.out hy)
    clear hy c0 c1 c2 c3 c4 c5 c6 HR HJB HBE
    obtain ⟨c0, c1, c2, c3, c4, c5, c6⟩ := HJ2.out.1.c7
    have hn8 : 8 ≤ J.ls.length := HM.out.op.2.1
    have hn5 : J.ls.length ≤ 512 := opens_len HM.out.op
    have hmp := opens_may HM.out.op
    obtain ⟨H, hH⟩ : ∃ H, hsN J.ls.length = H := ⟨_, rfl⟩
    have hH1 : 2 * H + 2 ≤ J.ls.length ∧ J.ls.length ≤ 2 * H + 3 := by unfold hsN at hH; omega
    have hu : t.used ≤ 64 * H := by have := hmp.2.2.2; unfold roomN at this; rw [hH] at this; exact this
    obtain ⟨U, hU1, hU2⟩ : ∃ U, t.used ≤ 64 * U ∧ 64 * U ≤ t.used + 63 := ⟨(t.used + 63) / 64, by omega, by omega⟩
    have hUH : U ≤ H := by omega
    have hH3 : 3 ≤ H := by omega
    have hH5 : H ≤ 255 := by omega
    have HJU : Hid (J.u = (t.used : Int)) := HM.out.hu
    have HJH : Hid (J.h = (t.half : Int)) := HM.out.hh
    have HHN := Lib.hid hH
    have hhalf : t.half = 0 ∨ t.half = 1 := by have := hmp.1; omega
    clear hmp hH
    go_upto_region 4 with (fail)
    go_cut [9] from 37 to 42 (fun v wx => v = .int .i64 (H : Int) ∧ W2 = wx)
    case first =>
      go_wp2_with fail
      go_meet
      exact ⟨congrArg (Value.int .i64) (by omega), rfl⟩
    case rest =>
    obtain ⟨rfl, rfl⟩ := hcut
    go_upto_region 5 with (fail)
    go_cut [10] from 43 to 46 (fun v wx => v = .int .i64 (U : Int) ∧ W2 = wx)
    case first =>
      have c4' : W2.cell? ⟨w.heap.size, 4, none⟩ = some (.int .i64 (t.used : Int)) := by rw [c4, HJU.out]
      clear c4
      have hu2 : t.used ≤ 20000 := by omega
      go_wp2_with fail
      go_meet
      exact ⟨congrArg (Value.int .i64) (by omega), rfl⟩
    case rest =>
    obtain ⟨rfl, rfl⟩ := hcut
    obtain ⟨F, hF1, hF2⟩ : ∃ F, F + U ≤ 2 * H ∧ 2 * H ≤ F + U := ⟨2 * H - U, by omega, by omega⟩
    go_upto_region 6 with (fail)
    go_cut [11] from 47 to 51 (fun v wx => v = .int .i64 (F : Int) ∧ W2 = wx)
    case first =>
      go_wp2_with fail
      go_meet
      exact ⟨congrArg (Value.int .i64) (by omega), rfl⟩
    case rest =>
    obtain ⟨rfl, rfl⟩ := hcut
    have hF3 : 3 ≤ F := by omega
    have hF5 : F ≤ 510 := by omega
    go_upto_region 7 with (fail)
    go_cut [1] from 52 to 58 (fun v wx => (∃ a : Nat, a < F ∧ v = .int .i64 (a : Int)) ∧ W2 = wx)
    case first =>
      obtain ⟨m, hm1⟩ : ∃ m, Int.tmod at_ (F : Int) = m := ⟨_, rfl⟩
      have hm2 : -(F : Int) < m ∧ m < F := by
        rw [← hm1]
        have h1 := Int.tmod_lt_of_pos at_ (show (0 : Int) < F by omega)
        have h2 := Int.lt_tmod_of_pos at_ (show (0 : Int) < F by omega)
        omega
      have hm3 : -1000 ≤ m := by omega
      have hm4 : m ≤ 1000 := by omega
      have hm5 : 0 ≤ m + (F : Int) := by omega
      have hf0 : (0 : Int) < (F : Int) := by omega
      have hf1 : ((F : Int) == 0) = false := by simp; omega
      go_wp2_with fail
      go_meet
      exact ⟨⟨((m + (F : Int)) % F).toNat, by have := Int.emod_lt_of_pos (m + (F : Int)) hf0; have := Int.emod_nonneg (m + (F : Int)) (show (F : Int) ≠ 0 by omega); omega, congrArg (Value.int .i64) (by have := Int.emod_nonneg (m + (F : Int)) (show (F : Int) ≠ 0 by omega); omega)⟩, rfl⟩
    case rest =>
    obtain ⟨⟨a, ha, rfl⟩, rfl⟩ := hcut
    go_upto_region 8 with (fail)
    go_cut [12] from 59 to 66 (fun v wx => (∃ p : Nat, p = begN J.ls.length (1 - t.half) + a ∧ v = .int .i64 (p : Int)) ∧ W2 = wx)
    case first =>
      rcases hhalf with e | e
      all_goals
        have c3' : W2.cell? ⟨w.heap.size, 3, none⟩ = some (.int .i64 (t.half : Int)) := by rw [c3, HJH.out]
        rw [e] at c3'
        clear c3
        go_wp2_with fail
        go_meet
        exact ⟨⟨_, rfl, congrArg (Value.int .i64) (by unfold begN; rw [HHN.out, e]; omega)⟩, rfl⟩
    case rest =>
    obtain ⟨⟨p, hp, rfl⟩, rfl⟩ := hcut
    have HP := Lib.hid hp
    have hp2 : 2 ≤ p ∧ p ≤ 2 + H + a := by rw [hp]; unfold begN; rw [HHN.out]; rcases hhalf with e | e <;> rw [e] <;> omega
    clear hp
    go_upto_if 76 with (fail)
    go_cut [12] from 77 to 87 (fun v wx => (∃ p : Nat, 2 ≤ p ∧ p < J.ls.length ∧ (∀ j, j < t.used → begN J.ls.length t.half + j / 64 ≠ p) ∧ v = .int .i64 (p : Int)) ∧ W2 = wx)
    case first =>
      by_cases hah : H ≤ a
      · rcases hhalf with e | e
        all_goals
          have c3' : W2.cell? ⟨w.heap.size, 3, none⟩ = some (.int .i64 (t.half : Int)) := by rw [c3, HJH.out]
          rw [e] at c3'
          clear c3
          go_wp2_with fail
          go_meet
          exact ⟨⟨2 + t.half * H + U + a - H, by rw [e]; omega, by rw [e]; omega, fun j hj => by unfold begN; rw [HHN.out, e]; omega, congrArg (Value.int .i64) (by rw [e]; omega)⟩, rfl⟩
      · have hlt : a < H := by omega
        go_wp2_with fail
        go_meet
        exact ⟨⟨p, hp2.1, by rw [HP.out]; unfold begN; rw [HHN.out]; rcases hhalf with e | e <;> rw [e] <;> omega, fun j hj => by rw [HP.out]; unfold begN; rw [HHN.out]; rcases hhalf with e | e <;> rw [e] <;> omega, rfl⟩, rfl⟩
    case rest =>
    clear hp2 HP
    obtain ⟨⟨p, hp2, hpn, hpu, rfl⟩, rfl⟩ := hcut
    have HPU := Lib.hid hpu
    have HJ13 := Lib.hid (HJ2.out.below (al W2 (.cells #[.slice aS J.ls.length cS, .slice aW J.ws.length cW] 25)))
    have HD13 := Lib.hid (Box.made W2 [.slice aS J.ls.length cS, .slice aW J.ws.length cW] 25)
    have HO13 := Lib.hid (fun o => below_trans (Below.refl (W2.alloc (.cells #[.slice aS J.ls.length cS, .slice aW J.ws.length cW] 25)).heap.size _) (al (W2.alloc (.cells #[.slice aS J.ls.length cS, .slice aW J.ws.length cW] 25)) o))
    clear hpu hF1 hF2 hF3 hF5 ha hU1 hU2 hUH hu hhalf
    go_upto_region 14 with (fail)
    have hsz : (W2.alloc (.cells #[.slice aS J.ls.length cS, .slice aW J.ws.length cW] 25)).heap.size = W2.heap.size + 1 := by simp
    have HSZ := Lib.hid hsz
    clear hsz
    obtain ⟨d0, d1⟩ := HD13.out.c2
    have HOW := Lib.hid (own_empty (W2.alloc (.cells #[.slice aS J.ls.length cS, .slice aW J.ws.length cW] 25)) HSZ.out)
    have HRW := Lib.hid ((HJ13.out.below (al _ (.cells #[] 9))).2.rS)
    go_upto_region 15 with (at_builtin; refine wpList_append_texts rfl _ _ rfl (W2.heap.size + 1) _ [] rfl HOW.out _ J.ls rfl HRW.out (by simp) (by omega) (by simp) ?_; intro vC w14 hoC hbC; have HCP := Lib.hid (copied (vS := .slice aS J.ls.length cS) (vW := .slice aW J.ws.length cW) (((al (W2.alloc (.cells #[.slice aS J.ls.length cS, .slice aW J.ws.length cW] 25)) (.cells #[] 9)).mono (by simp)).trans hbC) (by rw [List.nil_append] at hoC; exact hoC)); obtain ⟨aC, cC, rfl⟩ := HCP.out.2.2.1.row.slice; obtain ⟨r0, r1⟩ := HCP.out.1.c2; obtain ⟨f0, f1⟩ := HCP.out.1.f2; clear hoC hbC)
    have HB15 := Lib.hid HCP.out.2.2.2
    generalize hW15 : w14.setCell ⟨W2.heap.size, 0, none⟩ (.slice aC J.ls.length cC) = W15 at HCP HB15 ⊢
    have HJ15 := Lib.hid (HJ2.out.below HB15.out)
    clear hW15 r0 r1 f0 f1 d0 d1 HD13 HOW HRW HO13 HJ13
    have HNE : Hid (W2.heap.size < W15.heap.size) := HCP.out.2.1.1
    obtain ⟨i1, hi1, hy0, hy1, hy2⟩ := info_parts infoB
    go_wp2_with (at_make; refine wpList_make_full _ rfl _ _ 46 rfl W15.heap.size 5 i1 (.int .u8 0) 1 Try.underlying46 hi1 hy0 hy1 _ _ 64 64 64 rfl rfl rfl rfl (by omega) (by unfold maxLen; omega) (Nat.le_refl _) ?_; intro W16 hown16 hgr16; have HM16 := Lib.hid (brow_made hown16); have HB16 := Lib.hid ((Below.refl W15.heap.size W15).grown hgr16 (Nat.le_refl _) (fun k h => by cases h)); clear hown16 hgr16)
    have HGB : Hid (W15.heap.size = W15.heap.size) := rfl
    generalize hgb : W15.heap.size = gb at HM16 HB16 HNE HGB ⊢
    have HG : Hid (W15.heap.size = gb) := hgb
    clear hgb HGB
    obtain ⟨cb, hcb⟩ : ∃ cb : UInt8, (cb.toNat : Int) = (c : Int) := ⟨UInt8.ofNat c, by rw [UInt8.toNat_ofNat_of_lt' (by simpa using hc)]⟩
    have HCB := Lib.hid hcb.symm
    clear hcb
    go_loopw [15, 98] (fun v i wr => ∃ k : Nat, k ≤ 64 ∧ i = .int .i64 k ∧ Crc.BRow gb (List.replicate k cb ++ List.replicate (64 - k) 0) wr ∧ Below gb W15 wr) (fun _ i _ => 64 - (Go.RowKit.intOf i).toNat)
    case atStart => exact ⟨0, by omega, rfl, HM16.out, HB16.out⟩
    case round =>
      obtain ⟨k, hk, rfl, hrow, hbel⟩ := hrel
      by_cases hlt : k < 64
      · have hlen : (List.replicate k cb ++ List.replicate (64 - k) 0).length = 64 := by simp; omega
        have HR1 := Lib.hid (hrow.set (k := k) (by omega) cb (x := (c : Int)) HCB.out)
        have hfr := hrow.free (j := k) (by omega)
        obtain ⟨q0, hce⟩ : ∃ q0, wr.cell? ⟨gb, k, none⟩ = some q0 := ⟨_, hrow.cell (j := k) (by omega)⟩
        have HBW := Lib.hid (hbel.setCell (p := ⟨gb, k, none⟩) (Nat.le_refl _) (.int .u8 (c : Int)))
        clear hlen hrow hbel
        go_wp2
        go_roundw
        case rel => exact ⟨k + 1, by omega, by go_num, by have := HR1.out; rwa [rep_set hlt] at this, HBW.out⟩
        case measure => simp [Go.RowKit.intOf]; omega
      · obtain rfl : k = 64 := by omega
        rename World => W17
        have HR17 : Hid (Crc.BRow gb (List.replicate 64 cb) W17) := Lib.hid (by have := hrow; rwa [Nat.sub_self, List.replicate_zero, List.append_nil] at this)
        have HB17 := Lib.hid hbel
        clear hrow hbel hlt hk HM16 HB16
        go_upto_region 21 with (fail)
        have HC17 := Lib.hid (HCP.out.2.below (HG.out ▸ HB17.out))
        have HJ17 := Lib.hid (HJ15.out.below (HG.out ▸ HB17.out))
        obtain ⟨gC, rfl, hgC, hgC2, hceC, hfrC⟩ := HC17.out.2.1.at hpn
        obtain ⟨tx, htx⟩ : ∃ tx : ByteArray, tx = ⟨(List.replicate 64 cb).toArray⟩ := ⟨_, rfl⟩
        have hconv := HR17.out.back (n := 64) (cap := 64) (by simp)
        rw [← htx] at hconv
        have HTX : Hid (tx.size = 64) := Lib.hid (by rw [htx]; rfl)
        have HPUT := Lib.hid (HC17.out.put (p := p) hgC tx)
        obtain ⟨d0, d1⟩ := HC17.out.1.c2
        have i1 : (0 : Int) ≤ (p : Int) := by omega
        have i2 : (p : Int) < (J.ls.length : Int) := by omega
        clear htx hgC HCP HJ15 HB15 HB17 HR17 HG HNE
        go_upto_region 22 with (fail)
        generalize hW18 : W17.setCell ⟨gC, p, none⟩ (.string tx) = W18 at HPUT ⊢
        clear hW18 d0 d1 i1 i2 hconv hceC hfrC hgC2
        have HJ18 := Lib.hid (HJ2.out.below HPUT.out.2.2)
        have HB18 := Lib.hid (below_trans HB2.out HPUT.out.2.2)
        have HOPD := Lib.hid (opens_set HM.out.op hp2 hpn HPU.out HTX.out)
        obtain ⟨D, hD⟩ : ∃ D, D = J.ls.set p tx := ⟨_, rfl⟩
        have HDL : Hid (D.length = J.ls.length) := Lib.hid (by rw [hD]; simp)
        rw [← hD] at HOPD HPUT
        clear hD
        have HWS : Hid (WRow W18 (.slice aW J.ws.length cW) []) := Lib.hid (wrow_nil HM.out.nw HJ18.out.2.rW)
        have HOE := Lib.hid (Open_yes HPUT.out.2.1.row HWS.out HOPD.out)
        obtain ⟨d0, d1⟩ := HPUT.out.1.c2
        go_wp2_with fail
        refine HOE.out.mono ?_
        clear HOE
        rintro e V ⟨vS, vW, vG, vR, rfl, hS, hW, hG, hR, hx2⟩
        have HX0 : Hid (JRow V vS vW vG vR ⟨D, [], t.seals, t.half, t.used, [], J.l⟩) := ⟨hS.1, hW.1, hG.1, hR.1⟩
        obtain ⟨aP, cP, rfl⟩ := hS.1.slice
        obtain ⟨aQ, cQ, rfl⟩ := hW.1.slice
        obtain ⟨aT, cT, rfl⟩ := hG.1.slice
        obtain ⟨aU, cU, rfl⟩ := hR.1.slice
        have HXV := Lib.hid (JB.made HX0.out)
        have HBO := Lib.hid (fun o => below_trans hx2 (al V o))
        have HVB : Hid (w.heap.size < V.heap.size) := Nat.lt_of_lt_of_le HJ18.out.1.1 hx2.size
        clear hS hW hG hR hx2 HX0 HWS d0 d1
        unfold jv
        simp only [List.length_nil] at HXV ⊢
        try dsimp only at HXV
        go_upto_region 23 with (fail)
        generalize hV1 : V.alloc _ = V1 at HXV ⊢
        have hVB : Below W18.heap.size W18 V1 := by rw [← hV1]; exact HBO.out _
        have HJV := Lib.hid (HJ18.out.below hVB)
        have HBV := Lib.hid (below_trans HB18.out hVB)
        clear hV1 hVB HBO HJ18 HB18 HPUT HC17 HJ17 c0 c1 c2 c3 c4 c5 c6
        generalize V.heap.size = bx at HXV HVB ⊢
        obtain ⟨x0, x1, x2, x3, x4, x5, x6⟩ := HXV.out.1.c7
        obtain ⟨c0, c1, c2, c3, c4, c5, c6⟩ := HJV.out.1.c7
        have hlm : J.l.length ≤ 1000000 := by have := opens_recs HM.out.op; omega
        have HSAM : Hid (Calls Try.prog 11 #[.slice aU J.l.length cU, .slice aR J.l.length cR] V1 (BoolB true V1)) := Lib.hid (by
          have := SameB_any HXV.out.2.rR HJV.out.2.rR hlm hlm
          rwa [decide_eq_true rfl] at this)
        have q1 : J.s = (t.seals : Int) := HM.out.hs
        have q2 : J.h = (t.half : Int) := HM.out.hh
        have q3 : J.u = (t.used : Int) := HM.out.hu
        rw [q1] at c2
        rw [q2] at c3
        rw [q3] at c4
        clear q1 q2 q3 hlm
        go_upto_region 25 with (first
          | (go_at_call 11; refine HSAM.out.mono ?_; rintro e Y1 ⟨rfl, hz⟩; have HX1 := Lib.hid (HXV.out.below hz); have HJ1 := Lib.hid (HJV.out.below hz); have HB1 := Lib.hid (below_trans HBV.out hz); clear hz)
          | (go_at_call 8; refine (alive_any _).mono ?_; rintro e Y2 ⟨rfl, hz⟩; have HX2 := Lib.hid (HX1.out.below hz); have HJ3 := Lib.hid (HJ1.out.below hz); have HB3 := Lib.hid (below_trans HB1.out hz); clear hz))
        clear x0 x1 x2 x3 x4 x5 x6 c0 c1 c2 c3 c4 c5 c6 HXV HJV HBV HX1 HJ1 HB1 HSAM
        have hne : w.heap.size ≠ bx := by have := HVB.out; omega
        have HJ4 := Lib.hid (HJ3.out.nogroup HM.out.nw)
        have HX4 := Lib.hid (HX2.out.stored (i := 5) rfl (HJ3.out.1.c7.1) (Ne.symm hne) (.slice none 0 0))
        have HB4 := Lib.hid (below_st HB3.out (Nat.le_refl _) 5 (.slice none 0 0))
        obtain ⟨c0, c1, c2, c3, c4, c5, c6⟩ := HJ3.out.1.c7
        obtain ⟨f0, f1, f2, f3, f4, f5, f6⟩ := HJ3.out.1.f7
        go_upto_region 26 with (fail)
        generalize hY3 : Y2.setCell ⟨w.heap.size, 5, none⟩ (.slice none 0 0) = Y3 at HJ4 HX4 HB4 ⊢
        clear hY3 c0 c1 c2 c3 c4 c5 c6 f0 f1 f2 f3 f4 f5 f6 HJ3 HX2 HB3
        have HMJ : Hid (May ⟨J.ls, J.ws, J.s, J.h, J.u, [], J.l⟩ t) := ⟨HM.out.nw, HM.out.op, HM.out.hs, HM.out.hh, HM.out.hu, (may_opened HM.out.op).wt⟩
        have HA1 := Lib.hid (Append_any HJ4.out.2 HMJ.out x (by omega))
        unfold jv at HA1
        try dsimp only at HA1
        obtain ⟨c0, c1, c2, c3, c4, c5, c6⟩ := HJ4.out.1.c7
        rw [List.nil_append] at HA1
        generalize hk : waitE J.ls.length t.used [x] = k at HA1
        have HK := Lib.hid hk
        clear hk
        go_wp2_with fail
        refine HA1.out.mono ?_
        clear HA1
        rintro e Y4 hA
        by_cases hk0 : k = 0
        case neg =>
          obtain rfl : k = 7 := by rw [← HK.out]; exact (wait_or (by intro d hd; simp at hd; subst hd; omega)).resolve_left (by rw [HK.out]; exact hk0)
          obtain ⟨vS, vW, vG, vR, rfl, hS, hW, hG, hR, hy⟩ := hA.2 hk0
          obtain ⟨aS5, cS5, rfl⟩ := hS.1.slice
          obtain ⟨aW5, cW5, rfl⟩ := hW.1.slice
          obtain ⟨aG5, cG5, rfl⟩ := hG.1.slice
          obtain ⟨aR5, cR5, rfl⟩ := hR.1.slice
          have HBO5 := Lib.hid (fun o => below_trans hy (al Y4 o))
          have HSZ5 : Hid (Y3.heap.size ≤ Y4.heap.size) := hy.size
          clear hS hW hG hR hy
          unfold jv
          go_upto_region 27 with (fail)
          generalize hY5 : Y4.alloc _ = Y5 at ⊢
          have hY5B : Below Y3.heap.size Y3 Y5 := by rw [← hY5]; exact HBO5.out _
          have HX5 := Lib.hid (HX4.out.below hY5B)
          have HB5 := Lib.hid (below_trans HB4.out hY5B)
          clear hY5 hY5B HBO5 HSZ5 c0 c1 c2 c3 c4 c5 c6 hA hk0 HX4 HB4 HJ4
          have ha2 := Append_any HX5.out.2 (may_opened HOPD.out) x (by omega)
          rw [List.nil_append] at ha2
          have hkk : waitE D.length t.used [x] = 7 := by rw [HDL.out]; exact HK.out
          dsimp only at ha2
          rw [hkk] at ha2
          clear hkk
          have HA2 := Lib.hid ha2
          clear ha2
          unfold jv at HA2
          try dsimp only at HA2
          obtain ⟨x0, x1, x2, x3, x4, x5, x6⟩ := HX5.out.1.c7
          go_wp2_with fail
          (with_reducible refine HA2.out.mono ?_)
          clear HA2
          rintro e Y6 hA
          obtain ⟨vS, vW, vG, vR, rfl, hS, hW, hG, hR, hy⟩ := hA.2 (by decide)
          obtain ⟨aS6, cS6, rfl⟩ := hS.1.slice
          obtain ⟨aW6, cW6, rfl⟩ := hW.1.slice
          obtain ⟨aG6, cG6, rfl⟩ := hG.1.slice
          obtain ⟨aR6, cR6, rfl⟩ := hR.1.slice
          have HY := Lib.hid (fun o => below_trans (below_trans HB5.out hy) (al Y6 o))
          clear hS hW hG hR hy hA
          unfold jv
          go_wp2_with fail
          go_ret
          exact ⟨rfl, HY.out _⟩
        subst hk0
        obtain ⟨vS, vW, vG, vR, rfl, hS, hW, hG, hR, hy⟩ := hA.1 rfl
        have HR5 : Hid (JRow Y4 vS vW vG vR ⟨J.ls, [], J.s, J.h, J.u, [x], J.l⟩) := ⟨hS.1, hW.1, hG.1, hR.1⟩
        obtain ⟨aS5, cS5, rfl⟩ := hS.1.slice
        obtain ⟨aW5, cW5, rfl⟩ := hW.1.slice
        obtain ⟨aG5, cG5, rfl⟩ := hG.1.slice
        obtain ⟨aR5, cR5, rfl⟩ := hR.1.slice
        have HT5 := Lib.hid (JB.made HR5.out)
        have HBO5 := Lib.hid (fun o => below_trans hy (al Y4 o))
        have HSZ5 : Hid (Y3.heap.size ≤ Y4.heap.size) := hy.size
        clear hS hW hG hR hy
        unfold jv
        simp only [List.length_nil, List.nil_append, List.length_singleton] at HT5 ⊢
        try dsimp only at HT5
        go_upto_region 27 with (fail)
        generalize hY5 : Y4.alloc _ = Y5 at HT5 ⊢
        have hY5B : Below Y3.heap.size Y3 Y5 := by rw [← hY5]; exact HBO5.out _
        have HX5 := Lib.hid (HX4.out.below hY5B)
        have HB5 := Lib.hid (below_trans HB4.out hY5B)
        clear hY5 hY5B HBO5 c0 c1 c2 c3 c4 c5 c6 hA HX4 HB4 HJ4
        generalize Y4.heap.size = b5 at HT5 HSZ5 ⊢
        have ha2 := Append_any HX5.out.2 (may_opened HOPD.out) x (by omega)
        rw [List.nil_append] at ha2
        have hkk : waitE D.length t.used [x] = 0 := by rw [HDL.out]; exact HK.out
        dsimp only at ha2
        rw [hkk] at ha2
        clear hkk
        have HA2 := Lib.hid ha2
        clear ha2
        unfold jv at HA2
        try dsimp only at HA2
        obtain ⟨x0, x1, x2, x3, x4, x5, x6⟩ := HX5.out.1.c7
        go_wp2_with fail
        (with_reducible refine HA2.out.mono ?_)
        clear HA2
        rintro e Y6 hA
        obtain ⟨vS, vW, vG, vR, rfl, hS, hW, hG, hR, hy⟩ := hA.1 rfl
        have HR7 : Hid (JRow Y6 vS vW vG vR ⟨D, [], t.seals, t.half, t.used, [x], J.l⟩) := ⟨hS.1, hW.1, hG.1, hR.1⟩
        obtain ⟨aS7, cS7, rfl⟩ := hS.1.slice
        obtain ⟨aW7, cW7, rfl⟩ := hW.1.slice
        obtain ⟨aG7, cG7, rfl⟩ := hG.1.slice
        obtain ⟨aR7, cR7, rfl⟩ := hR.1.slice
        have HT7 := Lib.hid (JB.made HR7.out)
        have HBO7 := Lib.hid (fun o => below_trans hy (al Y6 o))
        have HSZ7 : Hid (Y5.heap.size ≤ Y6.heap.size) := hy.size
        clear hS hW hG hR hy
        unfold jv
        simp only [List.length_nil, List.nil_append, List.length_singleton] at HT7 ⊢
        try dsimp only at HT7
        go_upto_region 28 with (fail)
        generalize hY7 : Y6.alloc _ = Y7 at HT7 ⊢
        have hY7B : Below Y5.heap.size Y5 Y7 := by rw [← hY7]; exact HBO7.out _
        have HT6 := Lib.hid (HT5.out.below hY7B)
        have HB7 := Lib.hid (below_trans HB5.out hY7B)
        clear hY7 hY7B HBO7 x0 x1 x2 x3 x4 x5 x6 hA HX5 HB5 HT5
        generalize Y6.heap.size = b7 at HT7 HSZ7 ⊢
        have HMY : Hid (May ⟨J.ls, [], J.s, J.h, J.u, [x], J.l⟩ t) := ⟨rfl, HM.out.op, HM.out.hs, HM.out.hh, HM.out.hu, HK.out⟩
        have HMZ : Hid (May ⟨D, [], t.seals, t.half, t.used, [x], J.l⟩ t) := ⟨rfl, HOPD.out, rfl, rfl, rfl, by show waitE D.length t.used [x] = 0; rw [HDL.out]; exact HK.out⟩
        obtain ⟨c0, c1, c2, c3, c4, c5, c6⟩ := HT6.out.1.c7
        have HC1 := Lib.hid (Commit_any HT6.out.2 HMY.out)
        unfold jv at HC1
        try dsimp only at HC1
        go_wp2_with fail
        (with_reducible refine HC1.out.mono ?_)
        clear HC1
        rintro e Y8 hC
        obtain ⟨kk, up, lp, hlp, ⟨LSp, sp, hp', hC1⟩, hC2⟩ : ∃ (kk up : Int) (lp : List ByteArray), lp.length ≤ 1000000 ∧ (∃ LS s h, JE LS [] s h up [] lp kk Y7 e Y8) ∧ (∀ W e' X, CommitE ⟨D, [], t.seals, t.half, t.used, [x], J.l⟩ t W e' X → ∃ LS s h, JE LS [] s h up [] lp kk W e' X) := by
          by_cases hse : t.seals = 1099511627776
          · exact ⟨7, 0, [], by simp, ⟨_, _, _, hC.1 hse⟩, fun W e' X h => ⟨_, _, _, h.1 hse⟩⟩
          · have hlt : t.seals < 1099511627776 := by have := (opens_may HM.out.op).2.2.1; omega
            exact ⟨0, (t.used : Int) + (frms [x]).length, J.l ++ [x], by have := opens_recs HM.out.op; simp; omega, ⟨_, _, _, hC.2 hlt⟩, fun W e' X h => ⟨_, _, _, h.2 hlt⟩⟩
        have HC2 := Lib.hid hC2
        clear hC hC2
        obtain ⟨vS, vW, vG, vR, rfl, hS, hW, hG, hR, hy⟩ := hC1
        have HR8 : Hid (JRow Y8 vS vW vG vR ⟨LSp, [], sp, hp', up, [], lp⟩) := ⟨hS.1, hW.1, hG.1, hR.1⟩
        obtain ⟨aS8, cS8, rfl⟩ := hS.1.slice
        obtain ⟨aW8, cW8, rfl⟩ := hW.1.slice
        obtain ⟨aG8, cG8, rfl⟩ := hG.1.slice
        obtain ⟨aR8, cR8, rfl⟩ := hR.1.slice
        have HT8 := Lib.hid (JB.made HR8.out)
        have HBO8 := Lib.hid (fun o => below_trans hy (al Y8 o))
        have HSZ8 : Hid (Y7.heap.size ≤ Y8.heap.size) := hy.size
        clear hS hW hG hR hy
        unfold jv
        simp only [List.length_nil] at HT8 ⊢
        try dsimp only at HT8
        go_upto_region 33 with (fail)
        generalize hY9 : Y8.alloc _ = Y9 at HT8 ⊢
        have hY9B : Below Y7.heap.size Y7 Y9 := by rw [← hY9]; exact HBO8.out _
        have HT9 := Lib.hid (HT7.out.below hY9B)
        have HB9 := Lib.hid (below_trans HB7.out hY9B)
        clear hY9 hY9B HBO8 HT6 HT7 HB7 c0 c1 c2 c3 c4 c5 c6
        generalize Y8.heap.size = b8 at HT8 HSZ8 ⊢
        obtain ⟨c0, c1, c2, c3, c4, c5, c6⟩ := HT9.out.1.c7
        have HC1 := Lib.hid (Commit_any HT9.out.2 HMZ.out)
        unfold jv at HC1
        try dsimp only at HC1
        go_wp2_with fail
        (with_reducible refine HC1.out.mono ?_)
        clear HC1
        rintro e Y10 hC
        obtain ⟨LSq, sq, hq', hC1⟩ := HC2.out _ _ _ hC
        clear hC HC2
        obtain ⟨vS, vW, vG, vR, rfl, hS, hW, hG, hR, hy⟩ := hC1
        have HR10 : Hid (JRow Y10 vS vW vG vR ⟨LSq, [], sq, hq', up, [], lp⟩) := ⟨hS.1, hW.1, hG.1, hR.1⟩
        obtain ⟨aS10, cS10, rfl⟩ := hS.1.slice
        obtain ⟨aW10, cW10, rfl⟩ := hW.1.slice
        obtain ⟨aG10, cG10, rfl⟩ := hG.1.slice
        obtain ⟨aR10, cR10, rfl⟩ := hR.1.slice
        have HT10 := Lib.hid (JB.made HR10.out)
        have HBO10 := Lib.hid (fun o => below_trans hy (al Y10 o))
        have HSZ10 : Hid (Y9.heap.size ≤ Y10.heap.size) := hy.size
        clear hS hW hG hR hy
        unfold jv
        simp only [List.length_nil] at HT10 ⊢
        try dsimp only at HT10
        go_upto_region 34 with (fail)
        generalize hY11 : Y10.alloc _ = Y11 at HT10 ⊢
        have hY11B : Below Y9.heap.size Y9 Y11 := by rw [← hY11]; exact HBO10.out _
        have HT11 := Lib.hid (HT8.out.below hY11B)
        have HB11 := Lib.hid (below_trans HB9.out hY11B)
        clear hY11 hY11B HBO10 HT8 HT9 HB9 c0 c1 c2 c3 c4 c5 c6
        generalize Y10.heap.size = b10 at HT10 HSZ10 ⊢
        have HSM2 : Hid (Calls Try.prog 11 #[.slice aR8 lp.length cR8, .slice aR10 lp.length cR10] Y11 (BoolB true Y11)) := Lib.hid (by
          have := SameB_any HT11.out.2.rR HT10.out.2.rR hlp hlp
          rwa [decide_eq_true rfl] at this)
        obtain ⟨c0, c1, c2, c3, c4, c5, c6⟩ := HT11.out.1.c7
        obtain ⟨d0, d1, d2, d3, d4, d5, d6⟩ := HT10.out.1.c7
        go_wp2_with (go_at_call 11; (with_reducible refine HSM2.out.mono ?_); rintro e Y12 ⟨rfl, hz⟩; have HB12 := Lib.hid (below_trans HB11.out hz); obtain ⟨e0, e1, e2, e3, e4, e5, e6⟩ := (HT11.out.below hz).1.c7; obtain ⟨g0, g1, g2, g3, g4, g5, g6⟩ := (HT10.out.below hz).1.c7; clear hz c0 c1 c2 c3 c4 c5 c6 d0 d1 d2 d3 d4 d5 d6)
        go_ret
        exact ⟨rfl, HB12.out⟩

set_option maxRecDepth 100000 in
set_option maxHeartbeats 4000000 in
theorem lifted (os : Os) (started : os.Started) (H : Type) (enc : TypeId × Value → H) :
    ReturnsInHanded {} Try.checked os 5 .any (Rows.journalUnusedSpec.pre6 enc Try.prog Try.f5 Rows.journalUnusedRow.domain false) (Rows.journalUnusedSpec.post enc Try.prog Try.f5 false true false false) := by
  refine returnsInHanded_of_change (C := Try.checked) own started (by kernel_rfl) Try.func5
    (ChangeSpec.witness6 (enc := enc) (C := Try.checked) false ⟨#[], #[.agg #[.slice none 0 0, .slice none 0 0, .int .i64 0, .int .i64 0, .int .i64 0, .slice none 0 0, .slice none 0 0], .int .i64 0, .int .u8 0, .string ByteArray.empty], []⟩ 8 (by kernel_rfl) (by kernel_rfl) (by kernel_rfl) (by kernel_rfl)) ?_
  intro W base args ds gs before hval0 hW hcnd _
  have hval : ∀ (j : Nat) t v, Try.f5.params[j]? = some t → args[j]? = some v → Value.okWide Try.prog W .any base t v := hval0
  have hW' := hW
  obtain ⟨p, q, hA0, hV, rfl, hfz, hnd⟩ := hW
  have hA : DataW.TrodAll enc Try.prog W 0 (fun _ => true) true Try.f5.params.toList args.toList ds p := hA0
  rw [Try.params5] at hA hval
  obtain ⟨v0, vs0, d0, ds0, p0, q0, hargs, rfl, rfl, h0, r0⟩ := trodAll_cons hA
  obtain ⟨v1, vs1, d1, ds1, p1, q1, rfl, rfl, rfl, h1, r1⟩ := trodAll_cons r0
  obtain ⟨v2, vs2, d2, ds2, p2, q2, rfl, rfl, rfl, h2, r2⟩ := trodAll_cons r1
  obtain ⟨v3, vs3, d3, ds3, p3, q3, rfl, rfl, rfl, h3, r3⟩ := trodAll_cons r2
  obtain ⟨rfl, rfl, rfl⟩ := trodAll_nil r3
  obtain rfl : args = #[v0, v1, v2, v3] := by cases args; simp_all
  obtain ⟨rfl, rfl⟩ := trodVars_none hV
  have k0 := h0
  have lt0 : ∀ x ∈ p0, x.block < W.heap.size := by obtain ⟨m, hm⟩ := k0; exact DataW.trod_lt m _ _ _ hm
  obtain ⟨fuel0, hf0⟩ := h0
  obtain ⟨vS, vW, s, hh, u, vG, vR, rfl, wS, wW, wG, wR, ws, wh, wu⟩ := open_journal (hval 0 27 v0 rfl rfl) hf0
  obtain ⟨a1, rfl, rfl, rfl, w1⟩ := open_int Try.underlying3 (hval 1 3 v1 rfl rfl) h1
  have hb1 : -9223372036854775808 ≤ a1 ∧ a1 ≤ 9223372036854775807 := by
    have := w1
    simp [Lit.wf, IntKind.min, IntKind.max, IntKind.bits, IntKind.signed] at this
    omega
  obtain ⟨a2, rfl, rfl, rfl, w2⟩ := open_int Try.underlying5 (hval 2 5 v2 rfl rfl) h2
  have hb2 : 0 ≤ a2 ∧ a2 < 256 := by
    have := w2
    simp [Lit.wf, IntKind.min, IntKind.max, IntKind.bits, IntKind.signed] at this
    omega
  obtain ⟨n2, rfl⟩ : ∃ n : Nat, a2 = n := ⟨a2.toNat, by omega⟩
  obtain ⟨a3, rfl, rfl, rfl, w3⟩ := open_string Try.underlying9 (hval 3 9 v3 rfl rfl) h3
  clear hA0 hval0
  refine (walk0 vS vW vG vR s hh u a1 hb1.1 hb1.2 n2 (by omega) a3 (by simpa [maxLen] using w3) W wS wW wG wR).mono fun e W' ⟨he, bel⟩ => ?_
  subst he
  exact ⟨_, rfl, _, _, _, [], _, [], hW', trodAll_mk1 (shut_bool Try.underlying4 _), (trodAll_cons_mk (Below.trod laidOut (by kernel_rfl) (of_decide_eq_true (by kernel_rfl)) k0 bel lt0) (trodAll_cons_mk (shut_int Try.underlying3 w1) (trodAll_cons_mk (shut_int Try.underlying5 w2) (trodAll_cons_mk (shut_string Try.underlying9 w3) trodAll_mk0)))), rfl, bel.frame _, fun h => by cases h⟩

theorem over : Rows.journalUnusedRow.holds Try.pinned (OpenSpec.ofChange Rows.journalUnusedSpec) :=
  OpenClaim.holds_of_wide 5 Try.f5 rfl rfl rfl rfl rfl rfl rfl ⟨rfl, rfl, rfl, rfl, rfl⟩ rfl rfl rfl rfl rfl (by kernel_rfl) Try.func5 (by kernel_rfl)
    (of_decide_eq_true (by kernel_rfl)) (by unfold Func.isWrapper; first | (rw [if_pos (by decide +kernel)]; kernel_rfl) | (rw [if_neg (by decide +kernel)]; exact ⟨rfl, rfl⟩))
    (fun os started H enc _ => lifted os started H enc)

theorem proved : Rows.JournalUnusedSaid := over
#print axioms proved
end Go.Proofs.Ytndakbjmahkjdaa.journalUnused
