/-
  Joined: JSeal, JWait, JCommit.
-/
import Derived.Test.YtndakbjmahkjdaaMu

/-
  Contract of seal (package journal): the journal behind the second flush.
-/
namespace Go.Proofs.Ytndakbjmahkjdaa.Disk.Jn
open Go.ChangeShapes Go.WideShapes Go.ChangeAt Go.RowKit Go.Lib
open Go.Proofs.Ytndakbjmahkjdaa.Frame (frm frms size_list mk_list mk_size)

/-- seal's blocks: the journal, the part, the result. -/
def SSt (w : World) (cs ps : List Value) (W : World) : Prop := Below w.heap.size w W ∧ Box w.heap.size cs W ∧ Box (w.heap.size + 1) ps W ∧ Box (w.heap.size + 1 + 1) z7 W
theorem SSt.made (w : World) (vS vW : Value) (s h u : Int) (vG vR p0 p1 p2 : Value) : SSt w [vS, vW, .int .i64 s, .int .i64 h, .int .i64 u, vG, vR] [p0, p1, p2]
    (((w.alloc (.cells #[vS, vW, .int .i64 s, .int .i64 h, .int .i64 u, vG, vR] 27)).alloc (.cells #[p0, p1, p2] 51)).alloc (.cells #[.slice none 0 0, .slice none 0 0, .int .i64 0, .int .i64 0, .int .i64 0, .slice none 0 0, .slice none 0 0] 27)) := by
  have h1 := Box.made (w.alloc (.cells #[vS, vW, .int .i64 s, .int .i64 h, .int .i64 u, vG, vR] 27)) [p0, p1, p2] 51
  have h2 := Box.made ((w.alloc (.cells #[vS, vW, .int .i64 s, .int .i64 h, .int .i64 u, vG, vR] 27)).alloc (.cells #[p0, p1, p2] 51)) z7 27
  simp only [World.size_alloc] at h1 h2
  exact ⟨below_trans (below_trans (al _ _) (al _ _)) (al _ _), ((Box.made w [vS, vW, .int .i64 s, .int .i64 h, .int .i64 u, vG, vR] 27).below (al _ _)).below (al _ _), h1.below (al _ _), h2⟩
theorem SSt.below {w W W' : World} {cs ps : List Value} (h : SSt w cs ps W) (hb : Below W.heap.size W W') : SSt w cs ps W' := ⟨below_trans h.1 hb, h.2.1.below hb, h.2.2.1.below hb, h.2.2.2.below hb⟩
theorem SSt.other {w W : World} {cs ps : List Value} (h : SSt w cs ps W) {b : Nat} (hb : w.heap.size + 1 + 1 < b) (i : Nat) (u : Value) : SSt w cs ps (W.setCell ⟨b, i, none⟩ u) :=
  ⟨below_st h.1 (by omega) _ _, h.2.1.other (by omega) _, h.2.2.1.other (by omega) _, h.2.2.2.other (by omega) _⟩
/-- A journal that came back from a call, stored into a block that was there ahead of it. -/
theorem je_end {w W X : World} {b : Nat} {vS vW vG vR : Value} {ls g l : List ByteArray} {ws : List (Int × ByteArray)} {s h u k : Int} (hB : Below w.heap.size w W) (hb : w.heap.size ≤ b) (hbW : b < W.heap.size) (hx : Below W.heap.size W X) {c0 c1 c2 c3 c4 c5 c6 : Value} (hbx : Box b [c0, c1, c2, c3, c4, c5, c6] X)
    (hS : SRow X vS ls ∧ From W.heap.size vS) (hW : WRow X vW ws ∧ From W.heap.size vW) (hG : SRow X vG g ∧ From W.heap.size vG) (hR : SRow X vR l ∧ From W.heap.size vR) :
    Box b [vS, vW, .int .i64 s, .int .i64 h, .int .i64 u, vG, vR] (((((((X.setCell ⟨b, 0, none⟩ vS).setCell ⟨b, 1, none⟩ vW).setCell ⟨b, 2, none⟩ (.int .i64 s)).setCell ⟨b, 3, none⟩ (.int .i64 h)).setCell ⟨b, 4, none⟩ (.int .i64 u)).setCell ⟨b, 5, none⟩ vG).setCell ⟨b, 6, none⟩ vR) ∧
    JE ls ws s h u g l k w (.returned (.tuple #[.agg #[vS, vW, .int .i64 s, .int .i64 h, .int .i64 u, vG, vR], .int .i64 k])) (((((((X.setCell ⟨b, 0, none⟩ vS).setCell ⟨b, 1, none⟩ vW).setCell ⟨b, 2, none⟩ (.int .i64 s)).setCell ⟨b, 3, none⟩ (.int .i64 h)).setCell ⟨b, 4, none⟩ (.int .i64 u)).setCell ⟨b, 5, none⟩ vG).setCell ⟨b, 6, none⟩ vR) := by
  have hw := hB.size
  have e : ∀ {v}, From W.heap.size v → From (b + 1) v := fun h => h.mono hbW
  refine ⟨hbx.st7 _ _ _ _ _ _ _, _, _, _, _, rfl, ⟨SRow.st7 hS.1 (e hS.2) _ _ _ _ _ _ _, hS.2.mono hw⟩, ⟨((((((hW.1.stored (e hW.2)).stored (e hW.2)).stored (e hW.2)).stored (e hW.2)).stored (e hW.2)).stored (e hW.2)).stored (e hW.2), hW.2.mono hw⟩, ⟨SRow.st7 hG.1 (e hG.2) _ _ _ _ _ _ _, hG.2.mono hw⟩, ⟨SRow.st7 hR.1 (e hR.2) _ _ _ _ _ _ _, hR.2.mono hw⟩, below_st7 (below_trans hB hx) hb _ _ _ _ _ _ _⟩

set_option maxHeartbeats 4000000 in
set_option maxRecDepth 100000 in
theorem seal_any {vS vW vG vR : Value} {ls : List ByteArray} {h u : Int} {w : World} (hS : SRow w vS ls) (hW : WRow w vW []) (hG : ∃ a n c, vG = .slice a n c) (hR : ∃ a n c, vR = .slice a n c) {t : Told} {l l' : List ByteArray} {half fr : Nat} {bs : ByteArray} (ho : Opens ls t l) (hq : Seals ls t half fr bs.data.toList l') :
    Calls Try.prog 30 #[jv vS vW t.seals h u vG vR, .agg #[.int .i64 half, .int .i64 fr, .string bs]] w (JE (sealedL ls t half fr bs.data.toList) [] ((t.seals : Int) + 1) half ((fr : Int) + bs.size) [] l' 0 w) := by
  have hsl : bs.data.toList.length = bs.size := size_list bs
  have hf := hq.fits
  have hl := hq.short
  rw [hsl] at hf hl
  have hF := flushed_opens ho hq
  have hHR : rightB (flushed ls t half fr bs.data.toList) (headW t half fr bs.size) = true := head_right hF.1 (by rw [flushed_len]; exact ho.2.1)
  have hSO := sealed_opens ho hq
  rw [hsl] at hSO
  have hLS : (sealedL ls t half fr bs.data.toList).length = ls.length := by unfold sealedL; rw [flush_len, flushed_len]
  have hFL := flushed_len ls t half fr bs.data.toList
  have HTO := Lib.hid (fun W (hb : Below w.heap.size w W) => tellOf_any (h := h) (u := u) (vG := vG) (vR := vR) (hS.below hb) (hW.below hb) hG hR ho.1 hq.lt hf hl)
  have HFT := Lib.hid (fun W vS' vW' (h1 : SRow W vS' (flushed ls t half fr bs.data.toList)) (h2 : WRow W vW' (headW t half fr bs.size)) => Flush_yes h1 h2 hHR)
  have HSD : Hid (sealedL ls t half fr bs.data.toList = crashL 18446744073709551615 (flushed ls t half fr bs.data.toList) (headW t half fr bs.size) 0) := by unfold Hid sealedL; rw [hsl]; rfl
  have HOP := Lib.hid (fun W vS' vW' (h1 : SRow W vS' (sealedL ls t half fr bs.data.toList)) (h2 : WRow W vW' []) => Open_yes h1 h2 hSO)
  have e1 : ((nextT t half fr bs.size).seals : Int) = (t.seals : Int) + 1 := by simp [nextT]
  have e2 : ((nextT t half fr bs.size).used : Int) = (fr : Int) + (bs.size : Int) := by simp [nextT]
  have e0 : ((nextT t half fr bs.size).half : Int) = (half : Int) := rfl
  rw [e0, e1, e2] at HOP
  clear e0 e1 e2
  obtain ⟨aS, cap, rfl⟩ := hS.slice
  obtain ⟨aW, capW, rfl⟩ := hW.slice
  obtain ⟨aG, nG, capG, rfl⟩ := hG
  obtain ⟨aR, nR, capR, rfl⟩ := hR
  rw [List.length_nil] at HTO ⊢
  have HA := Lib.hid (SSt.made w (.slice aS ls.length cap) (.slice aW 0 capW) t.seals h u (.slice aG nG capG) (.slice aR nR capR) (.int .i64 half) (.int .i64 fr) (.string bs))
  have HFL := Lib.hid hFL
  have HLS := Lib.hid hLS
  clear hS hW hf hl hF hHR hSO hLS hFL hsl ho hq
  unfold jv at HTO ⊢
  go_enter Try.func30, Try.ntmps30
  go_wp2_with fail
  refine (HTO.out _ HA.out.1).mono ?_
  rintro e X ⟨vS1, vW1, rfl, hS1, hW1, hx⟩
  have HX := Lib.hid (HA.out.below (below_trans hx (al X (.cells #[vS1, vW1] 25))))
  have HBX := Lib.hid (Box.made X [vS1, vW1] 25)
  have HFX := Lib.hid (HFT.out _ _ _ (hS1.1.below (al X (.cells #[vS1, vW1] 25))) (hW1.1.below (al X (.cells #[vS1, vW1] 25))))
  have htb : w.heap.size + 1 + 1 < X.heap.size := Nat.lt_of_lt_of_le HA.out.2.2.2.1 hx.size
  obtain ⟨a1, p1, e1⟩ := hS1.1.slice
  rw [HFL.out] at e1
  subst e1
  obtain ⟨a2, p2, rfl⟩ := hW1.1.slice
  clear hS1 hW1 hx HA HFT HTO
  go_wp2_with fail
  change Hid (Box X.heap.size _ (X.alloc (.cells #[.slice a1 ls.length p1, .slice a2 (headW t half fr bs.size).length p2] 25))) at HBX
  generalize (X.alloc (.cells #[.slice a1 ls.length p1, .slice a2 (headW t half fr bs.size).length p2] 25)) = X1 at HX HBX HFX ⊢
  generalize X.heap.size = tb at HBX htb ⊢
  refine HFX.out.mono ?_
  rintro e Y ⟨vS2, vW2, rfl, hS2, hW2, hy⟩
  rw [← HSD.out] at hS2
  have htX : tb < X1.heap.size := HBX.out.1
  have HBY := Lib.hid (HBX.out.below hy)
  obtain ⟨a3, p3, e3⟩ := hS2.1.slice
  rw [HLS.out] at e3
  subst e3
  obtain ⟨a4, p4, rfl⟩ := hW2.1.slice
  have hf1 : From (tb + 1) (.slice a3 ls.length p3) := hS2.2.mono htX
  have hf2 : From (tb + 1) (.slice a4 ([] : List (Int × ByteArray)).length p4) := hW2.2.mono htX
  rw [List.length_nil] at hW2 hf2 ⊢
  have HSY := Lib.hid ((hS2.1.stored (i := 0) (u := .slice a3 ls.length p3) hf1).stored (i := 1) (u := .slice a4 0 p4) hf1)
  have HWY := Lib.hid ((hW2.1.stored (i := 0) (u := .slice a3 ls.length p3) hf2).stored (i := 1) (u := .slice a4 0 p4) hf2)
  have HLY := Lib.hid (((HX.out.below hy).other htb 0 (.slice a3 ls.length p3)).other htb 1 (.slice a4 0 p4))
  have HBZ := Lib.hid (HBY.out.st2 (.slice a3 ls.length p3) (.slice a4 0 p4))
  obtain ⟨k0, k1⟩ := HBY.out.c2
  obtain ⟨k2, k3⟩ := HBY.out.f2
  clear hS2 hW2 hf1 hf2 HFX HBX hy
  go_upto_region 7 with (fail)
  generalize ((Y.setCell ⟨tb, 0, none⟩ (.slice a3 ls.length p3)).setCell ⟨tb, 1, none⟩ (.slice a4 0 p4)) = Z at HSY HWY HLY HBZ ⊢
  clear HBY k0 k1 k2 k3 HX
  obtain ⟨b0, b1⟩ := HBZ.out.c2
  go_wp2_with fail
  refine (HOP.out _ _ _ HSY.out HWY.out).mono ?_
  rintro e V ⟨vS5, vW5, vG5, vR5, rfl, hS5, hW5, hG5, hR5, hv⟩
  obtain ⟨a5, p5, rfl⟩ := hS5.1.slice
  obtain ⟨a6, p6, rfl⟩ := hW5.1.slice
  obtain ⟨a7, p7, rfl⟩ := hG5.1.slice
  obtain ⟨a8, p8, rfl⟩ := hR5.1.slice
  have HV := Lib.hid (HLY.out.below hv)
  have HEND := Lib.hid (je_end (k := 0) (s := (t.seals : Int) + 1) (h := half) (u := (fr : Int) + bs.size) HLY.out.1 (by omega : w.heap.size ≤ w.heap.size + 1 + 1) HLY.out.2.2.2.1 hv HV.out.2.2.2 hS5 hW5 hG5 hR5)
  obtain ⟨f0, f1, f2, f3, f4, f5, f6⟩ := HV.out.2.2.2.f7
  obtain ⟨r0, r1, r2, r3, r4, r5, r6⟩ := HV.out.2.2.2.c7
  clear hS5 hW5 hG5 hR5 hv b0 b1
  unfold jv
  rw [HLS.out] at HEND ⊢
  rw [List.length_nil, List.length_nil] at HEND ⊢
  go_wp2_with fail
  obtain ⟨z0, z1, z2, z3, z4, z5, z6⟩ := HEND.out.1.c7
  exact bodyPost_ret (v := .tuple #[.agg #[.slice a5 ls.length p5, .slice a6 0 p6, .int .i64 ((t.seals : Int) + 1), .int .i64 (half : Int), .int .i64 ((fr : Int) + (bs.size : Int)), .slice a7 0 p7, .slice a8 l'.length p8], .int .i64 0]) (by simp [results, Try.results30, go_sem, z0, z1, z2, z3, z4, z5, z6]) rfl HEND.out.2
end Go.Proofs.Ytndakbjmahkjdaa.Disk.Jn

/-
  Contracts of waiting, instead and sealing (package journal): what Commit seals, and Compact.
-/
namespace Go.Proofs.Ytndakbjmahkjdaa.Disk.Jn
open Go.ChangeShapes Go.WideShapes Go.ChangeAt Go.RowKit Go.Lib
open Go.Proofs.Ytndakbjmahkjdaa.Frame (frm frms size_list mk_list mk_size frm_le Frame_yes)

/-- A part, and an error's number, are returned. -/
def PartE (h f : Int) (bs : ByteArray) (k : Int) (w : World) (e : Ending) (w' : World) : Prop := e = .returned (.tuple #[.agg #[.int .i64 h, .int .i64 f, .string bs], .int .i64 k]) ∧ Below w.heap.size w w'
/-- waiting's blocks: the journal, the result. -/
def WSt (w : World) (cs : List Value) (W : World) : Prop := Below w.heap.size w W ∧ Box w.heap.size cs W ∧ Box (w.heap.size + 1) [.int .i64 0, .int .i64 0, .string ⟨#[]⟩] W
theorem WSt.made (w : World) (vS vW : Value) (s h u : Int) (vG vR : Value) : WSt w [vS, vW, .int .i64 s, .int .i64 h, .int .i64 u, vG, vR]
    ((w.alloc (.cells #[vS, vW, .int .i64 s, .int .i64 h, .int .i64 u, vG, vR] 27)).alloc (.cells #[.int .i64 0, .int .i64 0, .string ⟨#[]⟩] 51)) := by
  have h1 := Box.made (w.alloc (.cells #[vS, vW, .int .i64 s, .int .i64 h, .int .i64 u, vG, vR] 27)) [.int .i64 0, .int .i64 0, .string ⟨#[]⟩] 51
  simp only [World.size_alloc] at h1
  exact ⟨below_trans (al _ _) (al _ _), (Box.made w [vS, vW, .int .i64 s, .int .i64 h, .int .i64 u, vG, vR] 27).below (al _ _), h1⟩
theorem WSt.below {w W W' : World} {cs : List Value} (h : WSt w cs W) (hb : Below W.heap.size W W') : WSt w cs W' := ⟨below_trans h.1 hb, h.2.1.below hb, h.2.2.below hb⟩
theorem WSt.ends {w W : World} {cs : List Value} (h : WSt w cs W) (a b c : Value) : Box (w.heap.size + 1) [a, b, c] (((W.setCell ⟨w.heap.size + 1, 0, none⟩ a).setCell ⟨w.heap.size + 1, 1, none⟩ b).setCell ⟨w.heap.size + 1, 2, none⟩ c) ∧ Below w.heap.size w (((W.setCell ⟨w.heap.size + 1, 0, none⟩ a).setCell ⟨w.heap.size + 1, 1, none⟩ b).setCell ⟨w.heap.size + 1, 2, none⟩ c) :=
  ⟨h.2.2.st3 a b c, below_st3 h.1 (by omega) a b c⟩

set_option maxHeartbeats 2000000 in
set_option maxRecDepth 100000 in
theorem waiting_no {vS vW vG vR : Value} {J : JN} {w : World} (hJ : JRow w vS vW vG vR J) (hz : JSmall J) {k : Int} (hk : (k = 1 ∧ ∀ t, ¬ May J t) ∨ (k = 7 ∧ ∃ t, May J t ∧ t.seals = 1099511627776)) : Calls Try.prog 29 #[jv vS vW J.s J.h J.u vG vR] w (PartE 0 0 ⟨#[]⟩ k w) := by
  have HR : Hid (∃ rb : Bool, (∀ W, Below w.heap.size w W → Calls Try.prog 10 #[jv vS vW J.s J.h J.u vG vR] W (BoolB rb W)) ∧ ((rb = false ∧ k = 1) ∨ (rb = true ∧ k = 7 ∧ J.s = 1099511627776))) := by
    rcases hk with ⟨rfl, h⟩ | ⟨rfl, t, h, ht⟩
    · exact ⟨false, fun W hb => Right_no (hJ.below hb) hz h, .inl ⟨rfl, rfl⟩⟩
    · exact ⟨true, fun W hb => Right_yes (hJ.below hb) h, .inr ⟨rfl, rfl, by rw [h.hs, ht]; rfl⟩⟩
  obtain ⟨rb, hrb, hc⟩ := HR.out
  have HRB := Lib.hid hrb
  obtain ⟨aS, cap, rfl⟩ := hJ.rS.slice
  obtain ⟨aW, capW, rfl⟩ := hJ.rW.slice
  obtain ⟨aG, capG, rfl⟩ := hJ.rG.slice
  obtain ⟨aR, capR, rfl⟩ := hJ.rR.slice
  have HA := Lib.hid (WSt.made w (.slice aS J.ls.length cap) (.slice aW J.ws.length capW) J.s J.h J.u (.slice aG J.g.length capG) (.slice aR J.l.length capR))
  clear hJ hz hk HR hrb
  unfold jv at HRB ⊢
  go_enter Try.func29, Try.ntmps29
  go_wp2_with fail
  refine (HRB.out _ HA.out.1).mono ?_
  rintro e X ⟨rfl, hx⟩
  have HX := Lib.hid (HA.out.below hx)
  have HZ := Lib.hid (HX.out.ends (.int .i64 0) (.int .i64 0) (.string ⟨#[]⟩))
  obtain ⟨c0, c1, c2, c3, c4, c5, c6⟩ := HX.out.2.1.c7
  obtain ⟨f0, f1, f2⟩ := HX.out.2.2.f3
  obtain ⟨r0, r1, r2⟩ := HX.out.2.2.c3
  clear hx HA HRB
  rcases hc with ⟨rfl, rfl⟩ | ⟨rfl, rfl, hs⟩
  · go_wp2_with fail
    obtain ⟨z0, z1, z2⟩ := HZ.out.1.c3
    exact bodyPost_ret (v := .tuple #[.agg #[.int .i64 0, .int .i64 0, .string ⟨#[]⟩], .int .i64 1]) (by simp [results, Try.results29, go_sem, z0, z1, z2]) rfl ⟨rfl, HZ.out.2⟩
  · rw [hs] at c2
    go_wp2_with fail
    obtain ⟨z0, z1, z2⟩ := HZ.out.1.c3
    exact bodyPost_ret (v := .tuple #[.agg #[.int .i64 0, .int .i64 0, .string ⟨#[]⟩], .int .i64 7]) (by simp [results, Try.results29, go_sem, z0, z1, z2]) rfl ⟨rfl, HZ.out.2⟩

set_option maxHeartbeats 2000000 in
set_option maxRecDepth 100000 in
theorem waiting_yes {vS vW vG vR : Value} {J : JN} {w : World} (hJ : JRow w vS vW vG vR J) {t : Told} (hm : May J t) (ht : t.seals < 1099511627776) : Calls Try.prog 29 #[jv vS vW J.s J.h J.u vG vR] w (PartE t.half t.used ⟨(frms J.g).toArray⟩ 0 w) := by
  have hwt := wait_zero.1 hm.wt
  have HRB := Lib.hid (fun W (hb : Below w.heap.size w W) => Right_yes (hJ.below hb) hm)
  have HFR := Lib.hid (fun W (hb : Below w.heap.size w W) => frames_any (hJ.rG.below hb) (by omega) (fun d hd => by have := hwt.1 d hd; omega))
  obtain ⟨aS, cap, rfl⟩ := hJ.rS.slice
  obtain ⟨aW, capW, rfl⟩ := hJ.rW.slice
  obtain ⟨aG, capG, rfl⟩ := hJ.rG.slice
  obtain ⟨aR, capR, rfl⟩ := hJ.rR.slice
  have HA := Lib.hid (WSt.made w (.slice aS J.ls.length cap) (.slice aW J.ws.length capW) J.s J.h J.u (.slice aG J.g.length capG) (.slice aR J.l.length capR))
  have hs : ((J.s : Int) == 1099511627776) = false := by rw [hm.hs]; simp; omega
  have HH := Lib.hid hm.hh
  have HU := Lib.hid hm.hu
  clear hJ hm hwt
  unfold jv at HRB ⊢
  go_enter Try.func29, Try.ntmps29
  go_wp2_with fail
  refine (HRB.out _ HA.out.1).mono ?_
  rintro e X ⟨rfl, hx⟩
  have HX := Lib.hid (HA.out.below hx)
  obtain ⟨c0, c1, c2, c3, c4, c5, c6⟩ := HX.out.2.1.c7
  clear hx HA HRB
  go_upto_region 5 with (fail)
  obtain ⟨f, hfe⟩ : ∃ f : ByteArray, (⟨(frms J.g).toArray⟩ : ByteArray) = f := ⟨_, rfl⟩
  rw [hfe] at HFR
  have HFE := Lib.hid hfe
  clear hfe
  have HSF := Lib.hid (fun W' (hb : Below X.heap.size X W') => (HX.out.2.1.below hb).c7)
  have HBD := Lib.hid ((Below.refl X.heap.size X).drew)
  have HXD := Lib.hid (below_trans HX.out.1 HBD.out)
  go_region_held3 (fun w' => w'.cell? ⟨w.heap.size, 0, none⟩ = some (.slice aS J.ls.length cap) ∧ w'.cell? ⟨w.heap.size, 1, none⟩ = some (.slice aW J.ws.length capW) ∧ w'.cell? ⟨w.heap.size, 2, none⟩ = some (.int .i64 J.s) ∧ w'.cell? ⟨w.heap.size, 3, none⟩ = some (.int .i64 J.h) ∧ w'.cell? ⟨w.heap.size, 4, none⟩ = some (.int .i64 J.u) ∧ w'.cell? ⟨w.heap.size, 5, none⟩ = some (.slice aG J.g.length capG) ∧ w'.cell? ⟨w.heap.size, 6, none⟩ = some (.slice aR J.l.length capR))
    (first | with_reducible exact HSF.out _ HBD.out | with_reducible exact HSF.out _ HB1.out | with_reducible exact HSE.out | fail)
    (first
      | (go_at_call 51; (with_reducible refine (HFR.out _ HXD.out).mono ?_); rintro e Y ⟨rfl, hy⟩; have HB1 := Lib.hid (below_trans HBD.out hy); have HY := Lib.hid (HX.out.below HB1.out); obtain ⟨f0, f1, f2⟩ := HY.out.2.2.f3; obtain ⟨r0, r1, r2⟩ := HY.out.2.2.c3; have HSE := Lib.hid (((HY.out.2.1.other (i := 0) (g := w.heap.size + 1) (by omega) (.int .i64 J.h)).other (i := 1) (g := w.heap.size + 1) (by omega) (.int .i64 J.u)).other (i := 2) (g := w.heap.size + 1) (by omega) (.string f)).c7; clear hy)
      | fail)
  have HZ := Lib.hid (HY.out.ends (.int .i64 J.h) (.int .i64 J.u) (.string f))
  clear f0 f1 f2 r0 r1 r2 c0 c1 c2 c3 c4 c5 c6
  go_wp2_with fail
  obtain ⟨z0, z1, z2⟩ := HZ.out.1.c3
  exact bodyPost_ret (v := .tuple #[.agg #[.int .i64 J.h, .int .i64 J.u, .string f], .int .i64 0]) (by simp [results, Try.results29, go_sem, z0, z1, z2]) rfl ⟨by rw [HH.out, HU.out, HFE.out], HZ.out.2⟩
/-- What tells why one may not stand for all, or what is sealed then. -/
def insteadE (n s : Nat) (d : ByteArray) : Int := if 3000 < d.size then 3 else if roomN n < (frm d).length then 7 else if s = 1099511627776 then 7 else 0

set_option maxHeartbeats 2000000 in
set_option maxRecDepth 100000 in
theorem instead_bad {vS vW vG vR : Value} {J : JN} {w : World} (hJ : JRow w vS vW vG vR J) (hz : JSmall J) (hno : ∀ t, ¬ May J t) (d : ByteArray) : Calls Try.prog 35 #[jv vS vW J.s J.h J.u vG vR, .string d] w (PartE 0 0 ⟨#[]⟩ 1 w) := by
  have HRB := Lib.hid (fun W (hb : Below w.heap.size w W) => Right_no (hJ.below hb) hz hno)
  obtain ⟨aS, cap, rfl⟩ := hJ.rS.slice
  obtain ⟨aW, capW, rfl⟩ := hJ.rW.slice
  obtain ⟨aG, capG, rfl⟩ := hJ.rG.slice
  obtain ⟨aR, capR, rfl⟩ := hJ.rR.slice
  have HA := Lib.hid (WSt.made w (.slice aS J.ls.length cap) (.slice aW J.ws.length capW) J.s J.h J.u (.slice aG J.g.length capG) (.slice aR J.l.length capR))
  clear hJ hz hno
  unfold jv at HRB ⊢
  go_enter Try.func35, Try.ntmps35
  go_wp2_with fail
  refine (HRB.out _ HA.out.1).mono ?_
  rintro e X ⟨rfl, hx⟩
  have HX := Lib.hid (HA.out.below hx)
  have HZ := Lib.hid (HX.out.ends (.int .i64 0) (.int .i64 0) (.string ⟨#[]⟩))
  obtain ⟨f0, f1, f2⟩ := HX.out.2.2.f3
  obtain ⟨r0, r1, r2⟩ := HX.out.2.2.c3
  clear hx HA HRB
  go_wp2_with fail
  obtain ⟨z0, z1, z2⟩ := HZ.out.1.c3
  exact bodyPost_ret (v := .tuple #[.agg #[.int .i64 0, .int .i64 0, .string ⟨#[]⟩], .int .i64 1]) (by simp [results, Try.results35, go_sem, z0, z1, z2]) rfl ⟨rfl, HZ.out.2⟩

/-- What Compact seals, or why it does not. -/
def InsE (t : Told) (d : ByteArray) (k : Int) (w : World) (e : Ending) (w' : World) : Prop := (k = 0 → PartE (1 - (t.half : Int)) 0 ⟨(frm d).toArray⟩ 0 w e w') ∧ (k ≠ 0 → PartE 0 0 ⟨#[]⟩ k w e w')

set_option maxHeartbeats 2000000 in
set_option maxRecDepth 100000 in
theorem instead_any {vS vW vG vR : Value} {J : JN} {w : World} (hJ : JRow w vS vW vG vR J) {t : Told} (hm : May J t) (d : ByteArray) (hd : d.size ≤ 1000000) : Calls Try.prog 35 #[jv vS vW J.s J.h J.u vG vR, .string d] w (InsE t d (insteadE J.ls.length t.seals d) w) := by
  have h8 := hm.op.2.1
  have hn : J.ls.length ≤ 1000 := by have := opens_len hm.op; omega
  have HRB := Lib.hid (fun W (hb : Below w.heap.size w W) => Right_yes (hJ.below hb) hm)
  obtain ⟨aS, cap, rfl⟩ := hJ.rS.slice
  obtain ⟨aW, capW, rfl⟩ := hJ.rW.slice
  obtain ⟨aG, capG, rfl⟩ := hJ.rG.slice
  obtain ⟨aR, capR, rfl⟩ := hJ.rR.slice
  have HA := Lib.hid (WSt.made w (.slice aS J.ls.length cap) (.slice aW J.ws.length capW) J.s J.h J.u (.slice aG J.g.length capG) (.slice aR J.l.length capR))
  have HRM := Lib.hid (fun W => room_any aS J.ls.length cap (.slice aW J.ws.length capW) W (by omega) hn)
  have HS := Lib.hid hm.hs
  have HH := Lib.hid hm.hh
  have hse := (opens_may hm.op).2.2.1
  have hh1 := (opens_may hm.op).1
  clear hJ hm
  unfold jv at HRB ⊢
  by_cases h3 : 3000 < d.size
  case pos =>
    have HE : Hid (insteadE J.ls.length t.seals d = 3) := if_pos h3
    go_enter Try.func35, Try.ntmps35
    go_wp2_with fail
    refine (HRB.out _ HA.out.1).mono ?_
    rintro e X ⟨rfl, hx⟩
    have HX := Lib.hid (HA.out.below hx)
    have HZ := Lib.hid (HX.out.ends (.int .i64 0) (.int .i64 0) (.string ⟨#[]⟩))
    obtain ⟨f0, f1, f2⟩ := HX.out.2.2.f3
    obtain ⟨r0, r1, r2⟩ := HX.out.2.2.c3
    clear hx HA HRB
    go_wp2_with fail
    obtain ⟨z0, z1, z2⟩ := HZ.out.1.c3
    exact bodyPost_ret (v := .tuple #[.agg #[.int .i64 0, .int .i64 0, .string ⟨#[]⟩], .int .i64 3]) (by simp [results, Try.results35, go_sem, z0, z1, z2]) rfl (by rw [HE.out]; exact ⟨fun h => absurd h (by decide), fun _ => ⟨rfl, HZ.out.2⟩⟩)
  have hfl := frm_le d (by omega)
  obtain ⟨f, hfe⟩ : ∃ f : ByteArray, (⟨(frm d).toArray⟩ : ByteArray) = f := ⟨_, rfl⟩
  have HFR := Lib.hid (fun W => hfe ▸ Frame_yes d W (by omega))
  have hfs : f.size = (frm d).length := by rw [← hfe, mk_size]
  have hfm : f.size ≤ 100000 := by omega
  have HE : Hid (insteadE J.ls.length t.seals d = if roomN J.ls.length < f.size then 7 else if t.seals = 1099511627776 then 7 else 0) := by unfold Hid insteadE; rw [if_neg h3, hfs]
  have HFE := Lib.hid hfe
  obtain ⟨R, hR⟩ : ∃ R, roomN J.ls.length = R := ⟨_, rfl⟩
  rw [hR] at HE HRM
  clear hfe hfl hfs hR
  go_enter Try.func35, Try.ntmps35
  go_wp2_with fail
  refine (HRB.out _ HA.out.1).mono ?_
  rintro e X ⟨rfl, hx⟩
  have HX := Lib.hid (HA.out.below hx)
  clear hx HA HRB
  go_wp2_with fail
  refine (HFR.out _).mono ?_
  rintro e Y ⟨rfl, hy⟩
  have HY := Lib.hid (HX.out.below hy)
  clear hy HX HFR
  obtain ⟨c0, c1, c2, c3, c4, c5, c6⟩ := HY.out.2.1.c7
  go_wp2_with fail
  refine (HRM.out _).mono ?_
  rintro e Z ⟨rfl, hz⟩
  have HZZ := Lib.hid (HY.out.below hz)
  clear hz HY HRM c0 c1 c2 c3 c4 c5 c6
  obtain ⟨c0, c1, c2, c3, c4, c5, c6⟩ := HZZ.out.2.1.c7
  obtain ⟨f0, f1, f2⟩ := HZZ.out.2.2.f3
  obtain ⟨r0, r1, r2⟩ := HZZ.out.2.2.c3
  have HZ := Lib.hid (HZZ.out.ends (.int .i64 0) (.int .i64 0) (.string ⟨#[]⟩))
  rw [HS.out] at c2
  rw [HH.out] at c3
  by_cases hr : R < f.size
  · have HE7 : Hid (insteadE J.ls.length t.seals d = 7) := by unfold Hid; rw [HE.out, if_pos hr]
    go_wp2_with fail
    obtain ⟨z0, z1, z2⟩ := HZ.out.1.c3
    exact bodyPost_ret (v := .tuple #[.agg #[.int .i64 0, .int .i64 0, .string ⟨#[]⟩], .int .i64 7]) (by simp [results, Try.results35, go_sem, z0, z1, z2]) rfl (by rw [HE7.out]; exact ⟨fun h => absurd h (by decide), fun _ => ⟨rfl, HZ.out.2⟩⟩)
  by_cases hs : t.seals = 1099511627776
  · have HE7 : Hid (insteadE J.ls.length t.seals d = 7) := by unfold Hid; rw [HE.out, if_neg hr, if_pos hs]
    have hs' : ((t.seals : Int) == 1099511627776) = true := by rw [hs]; rfl
    clear hs
    go_wp2_with fail
    obtain ⟨z0, z1, z2⟩ := HZ.out.1.c3
    exact bodyPost_ret (v := .tuple #[.agg #[.int .i64 0, .int .i64 0, .string ⟨#[]⟩], .int .i64 7]) (by simp [results, Try.results35, go_sem, z0, z1, z2]) rfl (by rw [HE7.out]; exact ⟨fun h => absurd h (by decide), fun _ => ⟨rfl, HZ.out.2⟩⟩)
  · have HE0 : Hid (insteadE J.ls.length t.seals d = 0) := by unfold Hid; rw [HE.out, if_neg hr, if_neg hs]
    have hs' : ((t.seals : Int) == 1099511627776) = false := by simp; omega
    have HZ1 := Lib.hid (HZZ.out.ends (.int .i64 (1 - (t.half : Int))) (.int .i64 0) (.string f))
    clear hs HZ
    go_wp2_with fail
    obtain ⟨z0, z1, z2⟩ := HZ1.out.1.c3
    exact bodyPost_ret (v := .tuple #[.agg #[.int .i64 (1 - (t.half : Int)), .int .i64 0, .string f], .int .i64 0]) (by simp [results, Try.results35, go_sem, z0, z1, z2]) rfl (by rw [HE0.out, ← HFE.out]; exact ⟨fun _ => ⟨rfl, HFE.out ▸ HZ1.out.2⟩, fun h => absurd rfl h⟩)
end Go.Proofs.Ytndakbjmahkjdaa.Disk.Jn

/-
  Contracts of Commit and Compact (package journal).
-/
namespace Go.Proofs.Ytndakbjmahkjdaa.Disk.Jn
open Go.ChangeShapes Go.WideShapes Go.ChangeAt Go.RowKit Go.Lib
open Go.Proofs.Ytndakbjmahkjdaa.Frame (frm frms size_list mk_list mk_size frm_le Frame_yes)

set_option maxHeartbeats 2000000 in
set_option maxRecDepth 100000 in
theorem Commit_no {vS vW vG vR : Value} {J : JN} {w : World} (hJ : JRow w vS vW vG vR J)  {k : Int} (hk : k ≠ 0) (hp : ∀ W, Below w.heap.size w W → Calls Try.prog 29 #[jv vS vW J.s J.h J.u vG vR] W (PartE 0 0 ⟨#[]⟩ k W)) : Calls Try.prog 13 #[jv vS vW J.s J.h J.u vG vR] w (JE [] [] 0 0 0 [] [] k w) := by
  have HP := Lib.hid hp
  obtain ⟨aS, cap, rfl⟩ := hJ.rS.slice
  obtain ⟨aW, capW, rfl⟩ := hJ.rW.slice
  obtain ⟨aG, capG, rfl⟩ := hJ.rG.slice
  obtain ⟨aR, capR, rfl⟩ := hJ.rR.slice
  have HA := Lib.hid (ASt.made w (.slice aS J.ls.length cap) (.slice aW J.ws.length capW) J.s J.h J.u (.slice aG J.g.length capG) (.slice aR J.l.length capR))
  have hne : (k != 0) = true := by simpa using hk
  clear hJ hk hp
  unfold jv at HP ⊢
  go_enter Try.func13, Try.ntmps13
  go_wp2_with fail
  refine (HP.out _ HA.out.1).mono ?_
  rintro e X ⟨rfl, hx⟩
  have HX := Lib.hid (HA.out.below (below_trans hx (al X (.cells #[.int .i64 0, .int .i64 0, .string ⟨#[]⟩] 51))))
  have HZ := Lib.hid HX.out.zero
  obtain ⟨f0, f1, f2, f3, f4, f5, f6⟩ := HX.out.2.2.f7
  obtain ⟨r0, r1, r2, r3, r4, r5, r6⟩ := HX.out.2.2.c7
  clear hx HA HP
  go_wp2_with fail
  obtain ⟨z0, z1, z2, z3, z4, z5, z6⟩ := HZ.out.1.c7
  exact bodyPost_ret (v := .tuple #[.agg #[.slice none 0 0, .slice none 0 0, .int .i64 0, .int .i64 0, .int .i64 0, .slice none 0 0, .slice none 0 0], .int .i64 k]) (by simp [results, Try.results13, go_sem, z0, z1, z2, z3, z4, z5, z6]) rfl (je_zero HZ.out.2)

set_option maxHeartbeats 2000000 in
set_option maxRecDepth 100000 in
theorem Commit_go {vS vW vG vR : Value} {J : JN} {w : World} (hJ : JRow w vS vW vG vR J)  {t : Told} (hm : May J t) {half fr : Nat} {bs : ByteArray} {l' : List ByteArray} (hq : Seals J.ls t half fr bs.data.toList l') (hp : ∀ W, Below w.heap.size w W → Calls Try.prog 29 #[jv vS vW J.s J.h J.u vG vR] W (PartE half fr bs 0 W)) :
    Calls Try.prog 13 #[jv vS vW J.s J.h J.u vG vR] w (JE (sealedL J.ls t half fr bs.data.toList) [] ((t.seals : Int) + 1) half ((fr : Int) + bs.size) [] l' 0 w) := by
  have HP := Lib.hid hp
  have hLS : (sealedL J.ls t half fr bs.data.toList).length = J.ls.length := by unfold sealedL; rw [flush_len, flushed_len]
  have HSL := Lib.hid (fun W (hb : Below w.heap.size w W) => seal_any (h := J.h) (u := J.u) (hJ.rS.below hb) (hm.nw ▸ hJ.rW.below hb) (by obtain ⟨a, c, e⟩ := hJ.rG.slice; exact ⟨_, _, _, e⟩) (by obtain ⟨a, c, e⟩ := hJ.rR.slice; exact ⟨_, _, _, e⟩) hm.op hq)
  obtain ⟨aS, cap, rfl⟩ := hJ.rS.slice
  obtain ⟨aW, capW, rfl⟩ := hJ.rW.slice
  obtain ⟨aG, capG, rfl⟩ := hJ.rG.slice
  obtain ⟨aR, capR, rfl⟩ := hJ.rR.slice
  have HA := Lib.hid (ASt.made w (.slice aS J.ls.length cap) (.slice aW J.ws.length capW) J.s J.h J.u (.slice aG J.g.length capG) (.slice aR J.l.length capR))
  rw [← hm.hs] at HSL
  have HS := Lib.hid hm.hs
  have HLS := Lib.hid hLS
  clear hJ hm hp hq hLS
  unfold jv at HP HSL ⊢
  go_enter Try.func13, Try.ntmps13
  go_wp2_with fail
  refine (HP.out _ HA.out.1).mono ?_
  rintro e X ⟨rfl, hx⟩
  have HX := Lib.hid (HA.out.below (below_trans hx (al X (.cells #[.int .i64 (half : Int), .int .i64 (fr : Int), .string bs] 51))))
  obtain ⟨c0, c1, c2, c3, c4, c5, c6⟩ := HX.out.2.1.c7
  clear hx HA HP
  go_wp2_with fail
  refine (HSL.out _ HX.out.1).mono ?_
  rintro e V ⟨vS5, vW5, vG5, vR5, rfl, hS5, hW5, hG5, hR5, hv⟩
  obtain ⟨a5, p5, rfl⟩ := hS5.1.slice
  obtain ⟨a6, p6, rfl⟩ := hW5.1.slice
  obtain ⟨a7, p7, rfl⟩ := hG5.1.slice
  obtain ⟨a8, p8, rfl⟩ := hR5.1.slice
  have HV := Lib.hid (HX.out.below hv)
  have HEND := Lib.hid (je_end (k := 0) (s := J.s + 1) (h := half) (u := (fr : Int) + bs.size) HX.out.1 (by omega : w.heap.size ≤ w.heap.size + 1) HX.out.2.2.1 hv HV.out.2.2 hS5 hW5 hG5 hR5)
  obtain ⟨f0, f1, f2, f3, f4, f5, f6⟩ := HV.out.2.2.f7
  obtain ⟨r0, r1, r2, r3, r4, r5, r6⟩ := HV.out.2.2.c7
  clear hS5 hW5 hG5 hR5 hv c0 c1 c2 c3 c4 c5 c6
  unfold jv
  rw [HLS.out] at HEND ⊢
  rw [List.length_nil, List.length_nil] at HEND ⊢
  go_wp2_with fail
  obtain ⟨z0, z1, z2, z3, z4, z5, z6⟩ := HEND.out.1.c7
  exact bodyPost_ret (v := .tuple #[.agg #[.slice a5 J.ls.length p5, .slice a6 0 p6, .int .i64 (J.s + 1), .int .i64 (half : Int), .int .i64 ((fr : Int) + (bs.size : Int)), .slice a7 0 p7, .slice a8 l'.length p8], .int .i64 0]) (by simp [results, Try.results13, go_sem, z0, z1, z2, z3, z4, z5, z6]) rfl (by rw [← HS.out]; exact HEND.out.2)

set_option maxHeartbeats 2000000 in
set_option maxRecDepth 100000 in
theorem Compact_no {vS vW vG vR : Value} {J : JN} {w : World} (hJ : JRow w vS vW vG vR J) (d : ByteArray) {k : Int} (hk : k ≠ 0) (hp : ∀ W, Below w.heap.size w W → Calls Try.prog 35 #[jv vS vW J.s J.h J.u vG vR, .string d] W (PartE 0 0 ⟨#[]⟩ k W)) : Calls Try.prog 15 #[jv vS vW J.s J.h J.u vG vR, .string d] w (JE [] [] 0 0 0 [] [] k w) := by
  have HP := Lib.hid hp
  obtain ⟨aS, cap, rfl⟩ := hJ.rS.slice
  obtain ⟨aW, capW, rfl⟩ := hJ.rW.slice
  obtain ⟨aG, capG, rfl⟩ := hJ.rG.slice
  obtain ⟨aR, capR, rfl⟩ := hJ.rR.slice
  have HA := Lib.hid (ASt.made w (.slice aS J.ls.length cap) (.slice aW J.ws.length capW) J.s J.h J.u (.slice aG J.g.length capG) (.slice aR J.l.length capR))
  have hne : (k != 0) = true := by simpa using hk
  clear hJ hk hp
  unfold jv at HP ⊢
  go_enter Try.func15, Try.ntmps15
  go_wp2_with fail
  refine (HP.out _ HA.out.1).mono ?_
  rintro e X ⟨rfl, hx⟩
  have HX := Lib.hid (HA.out.below (below_trans hx (al X (.cells #[.int .i64 0, .int .i64 0, .string ⟨#[]⟩] 51))))
  have HZ := Lib.hid HX.out.zero
  obtain ⟨f0, f1, f2, f3, f4, f5, f6⟩ := HX.out.2.2.f7
  obtain ⟨r0, r1, r2, r3, r4, r5, r6⟩ := HX.out.2.2.c7
  clear hx HA HP
  go_wp2_with fail
  obtain ⟨z0, z1, z2, z3, z4, z5, z6⟩ := HZ.out.1.c7
  exact bodyPost_ret (v := .tuple #[.agg #[.slice none 0 0, .slice none 0 0, .int .i64 0, .int .i64 0, .int .i64 0, .slice none 0 0, .slice none 0 0], .int .i64 k]) (by simp [results, Try.results15, go_sem, z0, z1, z2, z3, z4, z5, z6]) rfl (je_zero HZ.out.2)

set_option maxHeartbeats 2000000 in
set_option maxRecDepth 100000 in
theorem Compact_go {vS vW vG vR : Value} {J : JN} {w : World} (hJ : JRow w vS vW vG vR J) (d : ByteArray) {t : Told} (hm : May J t) {half fr : Nat} {bs : ByteArray} {l' : List ByteArray} (hq : Seals J.ls t half fr bs.data.toList l') (hp : ∀ W, Below w.heap.size w W → Calls Try.prog 35 #[jv vS vW J.s J.h J.u vG vR, .string d] W (PartE half fr bs 0 W)) :
    Calls Try.prog 15 #[jv vS vW J.s J.h J.u vG vR, .string d] w (JE (sealedL J.ls t half fr bs.data.toList) [] ((t.seals : Int) + 1) half ((fr : Int) + bs.size) [] l' 0 w) := by
  have HP := Lib.hid hp
  have hLS : (sealedL J.ls t half fr bs.data.toList).length = J.ls.length := by unfold sealedL; rw [flush_len, flushed_len]
  have HSL := Lib.hid (fun W (hb : Below w.heap.size w W) => seal_any (h := J.h) (u := J.u) (hJ.rS.below hb) (hm.nw ▸ hJ.rW.below hb) (by obtain ⟨a, c, e⟩ := hJ.rG.slice; exact ⟨_, _, _, e⟩) (by obtain ⟨a, c, e⟩ := hJ.rR.slice; exact ⟨_, _, _, e⟩) hm.op hq)
  obtain ⟨aS, cap, rfl⟩ := hJ.rS.slice
  obtain ⟨aW, capW, rfl⟩ := hJ.rW.slice
  obtain ⟨aG, capG, rfl⟩ := hJ.rG.slice
  obtain ⟨aR, capR, rfl⟩ := hJ.rR.slice
  have HA := Lib.hid (ASt.made w (.slice aS J.ls.length cap) (.slice aW J.ws.length capW) J.s J.h J.u (.slice aG J.g.length capG) (.slice aR J.l.length capR))
  rw [← hm.hs] at HSL
  have HS := Lib.hid hm.hs
  have HLS := Lib.hid hLS
  clear hJ hm hp hq hLS
  unfold jv at HP HSL ⊢
  go_enter Try.func15, Try.ntmps15
  go_wp2_with fail
  refine (HP.out _ HA.out.1).mono ?_
  rintro e X ⟨rfl, hx⟩
  have HX := Lib.hid (HA.out.below (below_trans hx (al X (.cells #[.int .i64 (half : Int), .int .i64 (fr : Int), .string bs] 51))))
  obtain ⟨c0, c1, c2, c3, c4, c5, c6⟩ := HX.out.2.1.c7
  clear hx HA HP
  go_wp2_with fail
  refine (HSL.out _ HX.out.1).mono ?_
  rintro e V ⟨vS5, vW5, vG5, vR5, rfl, hS5, hW5, hG5, hR5, hv⟩
  obtain ⟨a5, p5, rfl⟩ := hS5.1.slice
  obtain ⟨a6, p6, rfl⟩ := hW5.1.slice
  obtain ⟨a7, p7, rfl⟩ := hG5.1.slice
  obtain ⟨a8, p8, rfl⟩ := hR5.1.slice
  have HV := Lib.hid (HX.out.below hv)
  have HEND := Lib.hid (je_end (k := 0) (s := J.s + 1) (h := half) (u := (fr : Int) + bs.size) HX.out.1 (by omega : w.heap.size ≤ w.heap.size + 1) HX.out.2.2.1 hv HV.out.2.2 hS5 hW5 hG5 hR5)
  obtain ⟨f0, f1, f2, f3, f4, f5, f6⟩ := HV.out.2.2.f7
  obtain ⟨r0, r1, r2, r3, r4, r5, r6⟩ := HV.out.2.2.c7
  clear hS5 hW5 hG5 hR5 hv c0 c1 c2 c3 c4 c5 c6
  unfold jv
  rw [HLS.out] at HEND ⊢
  rw [List.length_nil, List.length_nil] at HEND ⊢
  go_wp2_with fail
  obtain ⟨z0, z1, z2, z3, z4, z5, z6⟩ := HEND.out.1.c7
  exact bodyPost_ret (v := .tuple #[.agg #[.slice a5 J.ls.length p5, .slice a6 0 p6, .int .i64 (J.s + 1), .int .i64 (half : Int), .int .i64 ((fr : Int) + (bs.size : Int)), .slice a7 0 p7, .slice a8 l'.length p8], .int .i64 0]) (by simp [results, Try.results15, go_sem, z0, z1, z2, z3, z4, z5, z6]) rfl (by rw [← HS.out]; exact HEND.out.2)

/-- What comes of Commit. -/
def CommitE (J : JN) (t : Told) (w : World) (e : Ending) (w' : World) : Prop :=
  (t.seals = 1099511627776 → JE [] [] 0 0 0 [] [] 7 w e w') ∧
  (t.seals < 1099511627776 → JE (sealedL J.ls t t.half t.used (frms J.g)) [] ((t.seals : Int) + 1) t.half ((t.used : Int) + (frms J.g).length) [] (J.l ++ J.g) 0 w e w')
theorem may_commit {J : JN} {t : Told} (h : May J t) (ht : t.seals < 1099511627776) : Seals J.ls t t.half t.used (frms J.g) (J.l ++ J.g) := by
  have hw := wait_zero.1 h.wt
  exact commit_seals h.op (fun d hd => by have := hw.1 d hd; omega) hw.2.2.1 hw.2.2.2 ht
theorem Commit_bad {vS vW vG vR : Value} {J : JN} {w : World} (hJ : JRow w vS vW vG vR J) (hz : JSmall J) (hno : ∀ t, ¬ May J t) : Calls Try.prog 13 #[jv vS vW J.s J.h J.u vG vR] w (JE [] [] 0 0 0 [] [] 1 w) :=
  Commit_no hJ (by decide) fun _ hb => waiting_no (hJ.below hb) hz (.inl ⟨rfl, hno⟩)
theorem Commit_any {vS vW vG vR : Value} {J : JN} {w : World} (hJ : JRow w vS vW vG vR J) {t : Told} (hm : May J t) : Calls Try.prog 13 #[jv vS vW J.s J.h J.u vG vR] w (CommitE J t w) := by
  have hse := (opens_may hm.op).2.2.1
  by_cases ht : t.seals < 1099511627776
  · have hq := may_commit hm ht
    have := Commit_go hJ hm (half := t.half) (fr := t.used) (bs := ⟨(frms J.g).toArray⟩) (by rw [mk_list]; exact hq) (fun _ hb => waiting_yes (hJ.below hb) hm ht)
    rw [mk_list, mk_size] at this
    exact this.mono fun _ _ h => ⟨fun e => by omega, fun _ => h⟩
  · have hs : t.seals = 1099511627776 := by omega
    exact (Commit_no (k := 7) hJ (by decide) fun _ hb => waiting_no (hJ.below hb) (may_small hm) (.inr ⟨rfl, t, hm, hs⟩)).mono fun _ _ h => ⟨fun _ => h, fun e => absurd e ht⟩
/-- What comes of Compact. -/
def CompactE (J : JN) (t : Told) (d : ByteArray) (k : Int) (w : World) (e : Ending) (w' : World) : Prop :=
  (k ≠ 0 → JE [] [] 0 0 0 [] [] k w e w') ∧
  (k = 0 → JE (sealedL J.ls t (1 - t.half) 0 (frm d)) [] ((t.seals : Int) + 1) (1 - (t.half : Int)) ((frm d).length : Int) [] [d] 0 w e w')
theorem ins_zero {n s : Nat} {d : ByteArray} : insteadE n s d = 0 ↔ d.size ≤ 3000 ∧ (frm d).length ≤ roomN n ∧ s ≠ 1099511627776 := by
  unfold insteadE
  by_cases h1 : 3000 < d.size
  · rw [if_pos h1]; exact ⟨fun h => absurd h (by decide), fun h => by omega⟩
  rw [if_neg h1]
  by_cases h2 : roomN n < (frm d).length
  · rw [if_pos h2]; exact ⟨fun h => absurd h (by decide), fun h => by omega⟩
  rw [if_neg h2]
  by_cases h3 : s = 1099511627776
  · rw [if_pos h3]; exact ⟨fun h => absurd h (by decide), fun h => by omega⟩
  rw [if_neg h3]
  exact ⟨fun _ => ⟨by omega, by omega, h3⟩, fun _ => rfl⟩
theorem may_compact {J : JN} {t : Told} (h : May J t) {d : ByteArray} (hd : insteadE J.ls.length t.seals d = 0) : Seals J.ls t (1 - t.half) 0 (frm d) [d] := by
  have h1 := ins_zero.1 hd
  have h2 := (opens_may h.op).2.2.1
  exact compact_seals h.op h1.1 h1.2.1 (by omega)
theorem Compact_bad {vS vW vG vR : Value} {J : JN} {w : World} (hJ : JRow w vS vW vG vR J) (hz : JSmall J) (hno : ∀ t, ¬ May J t) (d : ByteArray) : Calls Try.prog 15 #[jv vS vW J.s J.h J.u vG vR, .string d] w (JE [] [] 0 0 0 [] [] 1 w) :=
  Compact_no hJ d (by decide) fun _ hb => instead_bad (hJ.below hb) hz hno d
theorem half_cast {t : Told} (h : t.half ≤ 1) : ((1 - t.half : Nat) : Int) = 1 - (t.half : Int) := by omega
theorem Compact_any {vS vW vG vR : Value} {J : JN} {w : World} (hJ : JRow w vS vW vG vR J) {t : Told} (hm : May J t) (d : ByteArray) (hd : d.size ≤ 1000000) : Calls Try.prog 15 #[jv vS vW J.s J.h J.u vG vR, .string d] w (CompactE J t d (insteadE J.ls.length t.seals d) w) := by
  have hh := (opens_may hm.op).1
  by_cases hk : insteadE J.ls.length t.seals d = 0
  · have := Compact_go hJ d hm (half := 1 - t.half) (fr := 0) (bs := ⟨(frm d).toArray⟩) (by rw [mk_list]; exact may_compact hm hk) (fun _ hb => (instead_any (hJ.below hb) hm d hd).mono fun _ _ h => by rw [half_cast hh]; exact h.1 hk)
    rw [mk_list, mk_size, half_cast hh, show (((0 : Nat) : Int) + ((frm d).length : Int)) = ((frm d).length : Int) by omega] at this
    exact this.mono fun _ _ h => ⟨fun e => absurd hk e, fun _ => h⟩
  · exact (Compact_no hJ d hk fun _ hb => (instead_any (hJ.below hb) hm d hd).mono fun _ _ h => h.2 hk).mono fun _ _ h => ⟨fun _ => h, fun e => absurd e hk⟩
end Go.Proofs.Ytndakbjmahkjdaa.Disk.Jn
