/-
  Proved: for any number of sectors, disk and journal the law JournalOpens returns true: a new journal, that of any disk, and which may be, is as the document says, or refused. No condition.
-/
import Derived.Test.YtlpkalfbcphkmaaGreatRows
import Derived.Test.YtlpkalfbcphkmaaGreatMx
import Derived.Test.YtlpkalfbcphkmaaGreatMs
import Derived.Test.YtlpkalfbcphkmaaGreatMv
import Derived.Test.YtlpkalfbcphkmaaGreatMw
namespace Go.Proofs.YtlpkalfbcphkmaaGreat.journalOpens
open Go.ChangeShapes Go.WideShapes Go.ChangeAt Go.RowKit Go.Lib Go.Proofs.YtlpkalfbcphkmaaGreat.Disk Go.Proofs.YtlpkalfbcphkmaaGreat.Disk.Jn
open Go.Proofs.YtlpkalfbcphkmaaGreat.Frame (frm frms)
open Go.ChangeMaps (open_string shut_string)
set_option linter.unusedVariables false

theorem own : ownKnob Tryz.prog.godebug = none := by kernel_rfl
theorem laidOut : laidOutB Tryz.prog = true := by kernel_rfl

/-- The law's blocks, as they came in. -/
structure In0 (w : World) (vd vj : List Value) (W : World) : Prop where
  d : Box w.heap.size vd W
  j : Box (w.heap.size + 1) vj W
  b : Below w.heap.size w W
theorem In0.below {w W W' : World} {vd vj : List Value} (h : In0 w vd vj W) (hb : Below W.heap.size W W') : In0 w vd vj W' := ⟨h.d.below hb, h.j.below hb, below_trans h.b hb⟩

theorem form_row {W : World} {aS : Option Addr} {q cS : Nat} (h : Disk.SRow W (.slice aS q cS) (formL q)) (hq : 1 < q) : ∃ gw, aS = some ⟨gw, 0, none⟩ ∧ q ≤ cS ∧ gw < W.heap.size ∧ (W.cell? ⟨gw, 1, none⟩ = some (.string (headB firstT)) ∧ ∀ k, k < q → k ≠ 1 → W.cell? ⟨gw, k, none⟩ = some (.string zeros)) := by
  have hl := formL_len q
  have h' : Disk.SRow W (.slice aS (formL q).length cS) (formL q) := by rw [hl]; exact h
  obtain ⟨gw, e, hc, hg, c1⟩ := h'.at (q := 1) (by rw [hl]; exact hq)
  refine ⟨gw, e, by rw [← hl]; exact hc, hg, ?_, fun k hk hk1 => ?_⟩
  · rw [c1]
    simp [formL]
  · obtain ⟨gw', e', _, _, ck⟩ := h'.at (q := k) (by rw [hl]; exact hk)
    rw [e] at e'
    injection e' with e'
    injection e' with e'
    subst e'
    rw [ck]
    simp [formL, List.getElem_set_ne (Ne.symm hk1)]

set_option maxRecDepth 100000 in
set_option maxHeartbeats 8000000 in
theorem walk0 (n : Int) (hn1 : -9223372036854775808 ≤ n) (hn2 : n ≤ 9223372036854775807) (vA vB : Value) (vS vW vG vR : Value) (s h u : Int) (w : World) (hA : ArgS w vA) (hB : ArgW w vB) (hS : ArgS w vS) (hW : ArgW w vW) (hG : ArgS w vG) (hR : ArgS w vR) :
    Calls Tryz.prog 3 #[.int .i64 n, .agg #[vA, vB], jv vS vW s h u vG vR] w (BoolB true w) := by
  have HFE := Lib.hid (fun W (hb : Below w.heap.size w W) => few_any (s := s) (h := h) (u := u) (hS.below hb) (hW.below hb) (hG.below hb) (hR.below hb))
  have HDE := Lib.hid (fun W (hb : Below w.heap.size w W) => disk_any (hA.below hb) (hB.below hb))
  obtain ⟨aA, nA, cA, rfl⟩ := argS_slice hA
  obtain ⟨aB, nB, cB, rfl⟩ := argW_slice hB
  obtain ⟨aS, nS, cS, rfl⟩ := argS_slice hS
  obtain ⟨aW, nW, cW, rfl⟩ := argW_slice hW
  obtain ⟨aG, nG, cG, rfl⟩ := argS_slice hG
  obtain ⟨aR, nR, cR, rfl⟩ := argS_slice hR
  obtain ⟨hx, hy⟩ := Box.made2 w [.slice aA nA cA, .slice aB nB cB] [.slice aS nS cS, .slice aW nW cW, .int .i64 s, .int .i64 h, .int .i64 u, .slice aG nG cG, .slice aR nR cR] 25 27
  have HX0 := Lib.hid hx
  have HY0 := Lib.hid hy
  have HB0 := Lib.hid (below_trans (al w (.cells #[.slice aA nA cA, .slice aB nB cB] 25)) (al (w.alloc (.cells #[.slice aA nA cA, .slice aB nB cB] 25)) (.cells #[.slice aS nS cS, .slice aW nW cW, .int .i64 s, .int .i64 h, .int .i64 u, .slice aG nG cG, .slice aR nR cR] 27)))
  clear hS hW hG hR hA hB hx hy
  unfold jv at HFE ⊢
  go_enter Tryz.func3, Tryz.ntmps3
  go_upto_region 1 with (fail)
  have HI0 : Hid (In0 w [.slice aA nA cA, .slice aB nB cB] [.slice aS nS cS, .slice aW nW cW, .int .i64 s, .int .i64 h, .int .i64 u, .slice aG nG cG, .slice aR nR cR] ((w.alloc (.cells #[.slice aA nA cA, .slice aB nB cB] 25)).alloc (.cells #[.slice aS nS cS, .slice aW nW cW, .int .i64 s, .int .i64 h, .int .i64 u, .slice aG nG cG, .slice aR nR cR] 27))) := Lib.hid ⟨HX0.out, HY0.out, HB0.out⟩
  clear HX0 HY0 HB0
  generalize ((w.alloc _).alloc _) = W at HI0 ⊢
  have hwW : w.heap.size + 1 < W.heap.size := HI0.out.j.1
  refine till_region (In0 w [.slice aA nA cA, .slice aB nB cB] [.slice aS nS cS, .slice aW nW cW, .int .i64 s, .int .i64 h, .int .i64 u, .slice aG nG cG, .slice aR nR cR]) (fun j => decide (4 ≤ j)) (by kernel_rfl) ?_
  have hS := HI0.out.below (dr W)
  try simp only [Act.put, List.setIfInBounds_toArray, List.set_cons_zero, List.set_cons_succ]
  refine takeT 0 14 [4, 5] (.agg #[.slice aA nA cA, .slice aB nB cB]) (calm_then calm_body) rfl rfl (by kernel_rfl) (by rfl) (by kernel_rfl) (by kernel_rfl) (by kernel_rfl) (by kernel_rfl) (by rfl) (fun w hSw => by obtain ⟨c0, c1⟩ := hSw.d.c2; go_simp) hS ?_
  try simp only [Act.put, List.setIfInBounds_toArray, List.set_cons_zero, List.set_cons_succ]
  refine takeT 2 16 [3, 4, 5] (.agg #[.slice aS nS cS, .slice aW nW cW, .int .i64 s, .int .i64 h, .int .i64 u, .slice aG nG cG, .slice aR nR cR]) (calm_then calm_body) rfl rfl (by kernel_rfl) (by rfl) (by kernel_rfl) (by kernel_rfl) (by kernel_rfl) (by kernel_rfl) (by rfl) (fun w hSw => by obtain ⟨c0, c1, c2, c3, c4, c5, c6⟩ := hSw.j.c7; go_simp) hS ?_
  try simp only [Act.put, List.setIfInBounds_toArray, List.set_cons_zero, List.set_cons_succ]
  refine till_ready (rs := [1]) (by kernel_rfl) (by simp) (Each.cons rfl (fun K hK => ?_) Each.nil)
  go_simp
  go_at_call 6
  refine (HDE.out _ hS.b).mono ?_
  rintro e V1 ⟨uS, uW, ls, ws, rfl, h30, h4, h66, h67, hdS, hdW, hz⟩
  obtain ⟨a1, p1, rfl⟩ := hdS.1.slice
  obtain ⟨a2, p2, rfl⟩ := hdW.1.slice
  have hS1 := hS.below hz
  go_simp
  refine hK.out _ _ (fun _ => hS1) ?_
  clear hK
  try simp only [Act.put, List.setIfInBounds_toArray, List.set_cons_zero, List.set_cons_succ]
  refine till_ready (rs := [3]) (by kernel_rfl) (by simp) (Each.cons rfl (fun K hK => ?_) Each.nil)
  go_simp
  go_at_call 7
  refine (HFE.out _ hS1.b).mono ?_
  rintro e V2 ⟨vS, vW, vG, vR, lsj, wsj, g, l, rfl, k1, k2, k3, kS, kW, kG, kR, kb⟩
  have HSM := Lib.hid (And.intro (small_few (s := s) (h := h) (u := u) k1 k2 k3) k2.1)
  obtain ⟨aS1, pS1, rfl⟩ := kS.1.slice
  obtain ⟨aW1, pW1, rfl⟩ := kW.1.slice
  obtain ⟨aG1, pG1, rfl⟩ := kG.1.slice
  obtain ⟨aR1, pR1, rfl⟩ := kR.1.slice
  have hS2 := hS1.below kb
  have hg1 : w.heap.size + 1 + 1 ≤ W.drew.heap.size := hwW
  have hg2 : w.heap.size + 1 + 1 ≤ V1.heap.size := Nat.le_trans hg1 hz.size
  have HDZ : Hid (smallP ls ws) := Lib.hid ⟨by omega, by omega, fun j hj => by have := h66 _ (List.getElem_mem hj); omega, fun j hj => by have := h67 _ (List.getElem_mem hj); omega⟩
  have HDR := Lib.hid (And.intro (SRow.st9 (hdS.1.below kb) (hdS.2.mono hg1) (.slice a1 ls.length p1) (.slice a2 ws.length p2) (.slice aS1 lsj.length pS1) (.slice aW1 wsj.length pW1) (.int .i64 s) (.int .i64 h) (.int .i64 u) (.slice aG1 g.length pG1) (.slice aR1 l.length pR1)) (WRow.st9 (hdW.1.below kb) (hdW.2.mono hg1) (.slice a1 ls.length p1) (.slice a2 ws.length p2) (.slice aS1 lsj.length pS1) (.slice aW1 wsj.length pW1) (.int .i64 s) (.int .i64 h) (.int .i64 u) (.slice aG1 g.length pG1) (.slice aR1 l.length pR1)))
  have hDB : Box w.heap.size [.slice a1 ls.length p1, .slice a2 ws.length p2] (((((((((V2.setCell ⟨w.heap.size, 0, none⟩ (.slice a1 ls.length p1)).setCell ⟨w.heap.size, 1, none⟩ (.slice a2 ws.length p2)).setCell ⟨w.heap.size + 1, 0, none⟩ (.slice aS1 lsj.length pS1)).setCell ⟨w.heap.size + 1, 1, none⟩ (.slice aW1 wsj.length pW1)).setCell ⟨w.heap.size + 1, 2, none⟩ (.int .i64 s)).setCell ⟨w.heap.size + 1, 3, none⟩ (.int .i64 h)).setCell ⟨w.heap.size + 1, 4, none⟩ (.int .i64 u)).setCell ⟨w.heap.size + 1, 5, none⟩ (.slice aG1 g.length pG1)).setCell ⟨w.heap.size + 1, 6, none⟩ (.slice aR1 l.length pR1)) :=
    Box.keep7 (Box.st2 hS2.d _ _) (by omega) _ _ _ _ _ _ _
  have hJB : JB (w.heap.size + 1) (.slice aS1 lsj.length pS1) (.slice aW1 wsj.length pW1) (.slice aG1 g.length pG1) (.slice aR1 l.length pR1) ⟨lsj, wsj, s, h, u, g, l⟩ (((((((((V2.setCell ⟨w.heap.size, 0, none⟩ (.slice a1 ls.length p1)).setCell ⟨w.heap.size, 1, none⟩ (.slice a2 ws.length p2)).setCell ⟨w.heap.size + 1, 0, none⟩ (.slice aS1 lsj.length pS1)).setCell ⟨w.heap.size + 1, 1, none⟩ (.slice aW1 wsj.length pW1)).setCell ⟨w.heap.size + 1, 2, none⟩ (.int .i64 s)).setCell ⟨w.heap.size + 1, 3, none⟩ (.int .i64 h)).setCell ⟨w.heap.size + 1, 4, none⟩ (.int .i64 u)).setCell ⟨w.heap.size + 1, 5, none⟩ (.slice aG1 g.length pG1)).setCell ⟨w.heap.size + 1, 6, none⟩ (.slice aR1 l.length pR1)) :=
    ⟨Box.st7 ((hS2.j.other (by omega) _).other (by omega) _) _ _ _ _ _ _ _, ⟨SRow.st9 kS.1 (kS.2.mono hg2) (.slice a1 ls.length p1) (.slice a2 ws.length p2) (.slice aS1 lsj.length pS1) (.slice aW1 wsj.length pW1) (.int .i64 s) (.int .i64 h) (.int .i64 u) (.slice aG1 g.length pG1) (.slice aR1 l.length pR1), WRow.st9 kW.1 (kW.2.mono hg2) (.slice a1 ls.length p1) (.slice a2 ws.length p2) (.slice aS1 lsj.length pS1) (.slice aW1 wsj.length pW1) (.int .i64 s) (.int .i64 h) (.int .i64 u) (.slice aG1 g.length pG1) (.slice aR1 l.length pR1), SRow.st9 kG.1 (kG.2.mono hg2) (.slice a1 ls.length p1) (.slice a2 ws.length p2) (.slice aS1 lsj.length pS1) (.slice aW1 wsj.length pW1) (.int .i64 s) (.int .i64 h) (.int .i64 u) (.slice aG1 g.length pG1) (.slice aR1 l.length pR1), SRow.st9 kR.1 (kR.2.mono hg2) (.slice a1 ls.length p1) (.slice a2 ws.length p2) (.slice aS1 lsj.length pS1) (.slice aW1 wsj.length pW1) (.int .i64 s) (.int .i64 h) (.int .i64 u) (.slice aG1 g.length pG1) (.slice aR1 l.length pR1)⟩⟩
  have hBE : Below w.heap.size w (((((((((V2.setCell ⟨w.heap.size, 0, none⟩ (.slice a1 ls.length p1)).setCell ⟨w.heap.size, 1, none⟩ (.slice a2 ws.length p2)).setCell ⟨w.heap.size + 1, 0, none⟩ (.slice aS1 lsj.length pS1)).setCell ⟨w.heap.size + 1, 1, none⟩ (.slice aW1 wsj.length pW1)).setCell ⟨w.heap.size + 1, 2, none⟩ (.int .i64 s)).setCell ⟨w.heap.size + 1, 3, none⟩ (.int .i64 h)).setCell ⟨w.heap.size + 1, 4, none⟩ (.int .i64 u)).setCell ⟨w.heap.size + 1, 5, none⟩ (.slice aG1 g.length pG1)).setCell ⟨w.heap.size + 1, 6, none⟩ (.slice aR1 l.length pR1)) := below_st7 (below_st2 hS2.b (Nat.le_refl _) _ _) (by omega) _ _ _ _ _ _ _
  have HDB := Lib.hid hDB
  have HJB := Lib.hid hJB
  have HBE := Lib.hid hBE
  obtain ⟨d0, d1⟩ := hS2.d.c2
  obtain ⟨df0, df1⟩ := hS2.d.f2
  have hj' := (hS2.j.other (g := w.heap.size) (i := 0) (by omega) (.slice a1 ls.length p1)).other (g := w.heap.size) (i := 1) (by omega) (.slice a2 ws.length p2)
  obtain ⟨f0, f1, f2, f3, f4, f5, f6⟩ := hj'.f7
  obtain ⟨r0, r1, r2, r3, r4, r5, r6⟩ := hj'.c7
  clear k1 k2 k3 kS kW kG kR kb hdS hdW hz h30 h4 h66 h67 hDB hJB hBE hj' hS1 hS hg1 hg2 hwW HI0 HFE HDE
  unfold jv
  go_simp
  refine hK.out _ _ (fun _ => hS2) ?_
  clear hK hS2
  try simp only [Act.put, List.setIfInBounds_toArray, List.set_cons_zero, List.set_cons_succ]
  refine till_ready (rs := [4]) (by kernel_rfl) (by simp) (Each.cons rfl (fun K hK => ?_) Each.nil)
  go_simp
  refine hK.out _ _ (fun h => absurd h (by decide)) ?_
  clear hK
  try simp only [Act.put, List.setIfInBounds_toArray, List.set_cons_zero, List.set_cons_succ]
  refine till_ready (rs := [5]) (by kernel_rfl) (by simp) (Each.cons rfl (fun K hK => ?_) Each.nil)
  go_simp
  refine hK.out _ _ (fun h => absurd h (by decide)) ?_
  clear hK
  try simp only [Act.put, List.setIfInBounds_toArray, List.set_cons_zero, List.set_cons_succ]
  refine till_done (by kernel_rfl) ?_ _
  clear d0 d1 df0 df1 f0 f1 f2 f3 f4 f5 f6 r0 r1 r2 r3 r4 r5 r6
  unfold s7 at HDR
  generalize World.setCell _ _ _ = W1 at HDB HDR HJB HBE ⊢
  have HJX : Hid (Box (w.heap.size + 1) [.slice aS1 lsj.length pS1, .slice aW1 wsj.length pW1, .int .i64 s, .int .i64 h, .int .i64 u, .slice aG1 g.length pG1, .slice aR1 l.length pR1] W1) := Lib.hid HJB.out.1
  have HJR : Hid (JRow W1 (.slice aS1 lsj.length pS1) (.slice aW1 wsj.length pW1) (.slice aG1 g.length pG1) (.slice aR1 l.length pR1) ⟨lsj, wsj, s, h, u, g, l⟩) := Lib.hid HJB.out.2
  obtain ⟨Ja, ka, hl, hO, hT⟩ := opens_two HDZ.out
  have HL := Lib.hid hl
  have HOA := Lib.hid hO
  have HTA := Lib.hid hT
  obtain ⟨bb, hb1, hb2⟩ := right_two HSM.out.1 (by have := HSM.out.2; show g.length ≤ 100; omega)
  have HRA := Lib.hid hb1
  have HRB := Lib.hid hb2
  clear hl hO hT hb1 hb2 HJB
  unfold jv at HRA HRB
  dsimp only at HRA HRB
  obtain ⟨d0, d1⟩ := HDB.out.c2
  go_upto_region 4 with (first
    | (go_at_call 8; have hq := HOA.out _ _ _ HDR.out.1 HDR.out.2; (with_reducible refine hq.mono ?_); clear hq; rintro e y1 ⟨vS1, vW1, vG1, vR1, rfl, hr1, hy1⟩; obtain ⟨bS1, qS1, rfl⟩ := hr1.rS.slice; obtain ⟨bW1, qW1, rfl⟩ := hr1.rW.slice; obtain ⟨bG1, qG1, rfl⟩ := hr1.rG.slice; obtain ⟨bR1, qR1, rfl⟩ := hr1.rR.slice; have HA1 := Lib.hid (JB.made hr1); have HY1 := Lib.hid (below_trans hy1 (al y1 (.cells #[.slice bS1 Ja.ls.length qS1, .slice bW1 Ja.ws.length qW1, .int .i64 Ja.s, .int .i64 Ja.h, .int .i64 Ja.u, .slice bG1 Ja.g.length qG1, .slice bR1 Ja.l.length qR1] 27))); clear hy1 hr1 d0 d1; obtain ⟨d0, d1⟩ := (Box.below HDB.out HY1.out).c2; unfold jv)
    | (go_at_call 9; have hq := HTA.out _ _ _ (HDR.out.1.below HY1.out) (HDR.out.2.below HY1.out); (with_reducible refine hq.mono ?_); clear hq; rintro e y2 ⟨vS2, vW2, vG2, vR2, rfl, hr2, hy2⟩; obtain ⟨bS2, qS2, rfl⟩ := hr2.rS.slice; obtain ⟨bW2, qW2, rfl⟩ := hr2.rW.slice; obtain ⟨bG2, qG2, rfl⟩ := hr2.rG.slice; obtain ⟨bR2, qR2, rfl⟩ := hr2.rR.slice; have HT2 := Lib.hid (Box.made y2 [.slice bS2 Ja.ls.length qS2, .slice bW2 Ja.ws.length qW2, .int .i64 Ja.s, .int .i64 Ja.h, .int .i64 Ja.u, .slice bG2 Ja.g.length qG2, .slice bR2 Ja.l.length qR2, .int .i64 ka] 34); have hya := al y2 (.cells #[.slice bS2 Ja.ls.length qS2, .slice bW2 Ja.ws.length qW2, .int .i64 Ja.s, .int .i64 Ja.h, .int .i64 Ja.u, .slice bG2 Ja.g.length qG2, .slice bR2 Ja.l.length qR2, .int .i64 ka] 34); have HTR := Lib.hid (hr2.below hya); have HY2 := Lib.hid (below_trans hy2 hya); clear hy2 hr2 hya d0 d1; have HA2 := Lib.hid (HA1.out.below HY2.out); unfold tv8)
    | fail)
  have HTX : Hid (Box y2.heap.size [.slice bS2 Ja.ls.length qS2, .slice bW2 Ja.ws.length qW2, .int .i64 Ja.s, .int .i64 Ja.h, .int .i64 Ja.u, .slice bG2 Ja.g.length qG2, .slice bR2 Ja.l.length qR2, .int .i64 ka] (y2.alloc (.cells #[.slice bS2 Ja.ls.length qS2, .slice bW2 Ja.ws.length qW2, .int .i64 Ja.s, .int .i64 Ja.h, .int .i64 Ja.u, .slice bG2 Ja.g.length qG2, .slice bR2 Ja.l.length qR2, .int .i64 ka] 34))) := HT2
  have HY12 := Lib.hid (below_trans HY1.out HY2.out)
  clear HT2 HDB HDR HOA HTA HA1 HY1 HY2 HDZ HSM
  generalize y2.alloc _ = W5 at HTX HTR HY12 HA2 ⊢
  generalize y2.heap.size = tb at HTX ⊢
  generalize y1.heap.size = ab at HA2 ⊢
  have HJ5 := Lib.hid (HJX.out.below HY12.out)
  have HJR5 := Lib.hid (HJR.out.below HY12.out)
  have HB5 := Lib.hid (below_trans HBE.out HY12.out)
  have HAB : Hid (Box ab [.slice bS1 Ja.ls.length qS1, .slice bW1 Ja.ws.length qW1, .int .i64 Ja.s, .int .i64 Ja.h, .int .i64 Ja.u, .slice bG1 Ja.g.length qG1, .slice bR1 Ja.l.length qR1] W5) := Lib.hid HA2.out.1
  have HLK := Lib.hid (fun W' (hb : Below W5.heap.size W5 W') => (show Calls Tryz.prog 10 #[.agg #[.slice bS1 Ja.ls.length qS1, .slice bW1 Ja.ws.length qW1, .int .i64 Ja.s, .int .i64 Ja.h, .int .i64 Ja.u, .slice bG1 Ja.g.length qG1, .slice bR1 Ja.l.length qR1], .agg #[.slice bS2 Ja.ls.length qS2, .slice bW2 Ja.ws.length qW2, .int .i64 Ja.s, .int .i64 Ja.h, .int .i64 Ja.u, .slice bG2 Ja.g.length qG2, .slice bR2 Ja.l.length qR2]] W' (BoolB true W') from by have h := refLike_yes (HA2.out.2.below hb) (HTR.out.below hb) HL.out.1 HL.out.2.1 HL.out.2.2.1 HL.out.2.2.2; exact h))
  have HR1 := Lib.hid (fun W' (hb : Below W5.heap.size W5 W') => HRA.out _ _ _ _ _ (HJR5.out.below hb))
  have HR2 := Lib.hid (fun W' (hb : Below W5.heap.size W5 W') => HRB.out _ _ _ _ _ (HJR5.out.below hb))
  clear HJX HJR HY12 HBE HRA HRB HTR HA2 HL
  have hbb : (bb != bb) = false := by simp
  have hka : (ka != ka) = false := by simp
  go_cut [46] from 25 to 46 (fun v wx => v = .bool false ∧ Below W5.heap.size W5 wx)
  case first =>
    refine wp_region_held_drew (S := fun W' => Below W5.heap.size W5 W') (by kernel_rfl) (dr _) (fun hHeld => ?_)
    refine takeH 0 25 (.int .i64 ka) (calm_then (calm_then calm_body)) rfl rfl (by kernel_rfl) (by kernel_rfl) (by kernel_rfl) (by rfl) (fun W' hSw => by go_simp) hHeld ?_
    try simp only [Act.put, List.setIfInBounds_toArray, List.set_cons_zero, List.set_cons_succ]
    refine takeH 1 26 (.pointer (some ⟨tb, 7, none⟩)) (calm_then (calm_then calm_body)) rfl rfl (by kernel_rfl) (by kernel_rfl) (by kernel_rfl) (by rfl) (fun W' hSw => by go_simp) hHeld ?_
    try simp only [Act.put, List.setIfInBounds_toArray, List.set_cons_zero, List.set_cons_succ]
    refine takeH 2 27 (.int .i64 ka) (calm_then (calm_then calm_body)) rfl rfl (by kernel_rfl) (by kernel_rfl) (by kernel_rfl) (by rfl) (fun W' hSw => by obtain ⟨t0, t1, t2, t3, t4, t5, t6, t7⟩ := (HTX.out.below hSw).c8; go_simp) hHeld ?_
    try simp only [Act.put, List.setIfInBounds_toArray, List.set_cons_zero, List.set_cons_succ]
    refine takeH 3 28 (.bool false) (calm_then (calm_then calm_body)) rfl rfl (by kernel_rfl) (by kernel_rfl) (by kernel_rfl) (by rfl) (fun W' hSw => by go_simp) hHeld ?_
    try simp only [Act.put, List.setIfInBounds_toArray, List.set_cons_zero, List.set_cons_succ]
    refine takeH 4 29 (.bool false) (calm_then (calm_then calm_body)) rfl rfl (by kernel_rfl) (by kernel_rfl) (by kernel_rfl) (by rfl) (fun W' hSw => by go_simp) hHeld ?_
    try simp only [Act.put, List.setIfInBounds_toArray, List.set_cons_zero, List.set_cons_succ]
    refine takeH 5 30 (.agg #[.slice bS1 Ja.ls.length qS1, .slice bW1 Ja.ws.length qW1, .int .i64 Ja.s, .int .i64 Ja.h, .int .i64 Ja.u, .slice bG1 Ja.g.length qG1, .slice bR1 Ja.l.length qR1]) (calm_then (calm_then calm_body)) rfl rfl (by kernel_rfl) (by kernel_rfl) (by kernel_rfl) (by rfl) (fun W' hSw => by obtain ⟨t0, t1, t2, t3, t4, t5, t6⟩ := (HAB.out.below hSw).c7; go_simp) hHeld ?_
    try simp only [Act.put, List.setIfInBounds_toArray, List.set_cons_zero, List.set_cons_succ]
    refine takeH 6 31 (.pointer (some ⟨tb, 0, none⟩)) (calm_then (calm_then calm_body)) rfl rfl (by kernel_rfl) (by kernel_rfl) (by kernel_rfl) (by rfl) (fun W' hSw => by go_simp) hHeld ?_
    try simp only [Act.put, List.setIfInBounds_toArray, List.set_cons_zero, List.set_cons_succ]
    refine takeH 7 32 (.agg #[.slice bS2 Ja.ls.length qS2, .slice bW2 Ja.ws.length qW2, .int .i64 Ja.s, .int .i64 Ja.h, .int .i64 Ja.u, .slice bG2 Ja.g.length qG2, .slice bR2 Ja.l.length qR2]) (calm_then (calm_then calm_body)) rfl rfl (by kernel_rfl) (by kernel_rfl) (by kernel_rfl) (by rfl) (fun W' hSw => by obtain ⟨t0, t1, t2, t3, t4, t5, t6, t7⟩ := (HTX.out.below hSw).c8; go_simp) hHeld ?_
    try simp only [Act.put, List.setIfInBounds_toArray, List.set_cons_zero, List.set_cons_succ]
    refine wpAnyH_ready (rs := [8]) (by kernel_rfl) (by simp) (AllReadyH.cons rfl (fun K hK => ?_) AllReadyH.nil)
    go_simp
    go_at_call 10
    (with_reducible refine (HLK.out _ hHeld).mono ?_)
    rintro e V5 ⟨rfl, hz⟩
    have hHeld2 := below_trans hHeld hz
    clear hz
    go_simp
    refine hK.out _ _ hHeld2 (fun hHeld => ?_)
    clear hK hHeld2
    try simp only [Act.put, List.setIfInBounds_toArray, List.set_cons_zero, List.set_cons_succ]
    refine takeH 9 34 (.bool false) (calm_then (calm_then calm_body)) rfl rfl (by kernel_rfl) (by kernel_rfl) (by kernel_rfl) (by rfl) (fun W' hSw => by go_simp) hHeld ?_
    try simp only [Act.put, List.setIfInBounds_toArray, List.set_cons_zero, List.set_cons_succ]
    refine takeH 10 35 (.bool false) (calm_then (calm_then calm_body)) rfl rfl (by kernel_rfl) (by kernel_rfl) (by kernel_rfl) (by rfl) (fun W' hSw => by go_simp) hHeld ?_
    try simp only [Act.put, List.setIfInBounds_toArray, List.set_cons_zero, List.set_cons_succ]
    refine takeH 11 36 (.bool false) (calm_then (calm_then calm_body)) rfl rfl (by kernel_rfl) (by kernel_rfl) (by kernel_rfl) (by rfl) (fun W' hSw => by go_simp) hHeld ?_
    try simp only [Act.put, List.setIfInBounds_toArray, List.set_cons_zero, List.set_cons_succ]
    refine takeH 12 37 (.agg #[.slice aS1 lsj.length pS1, .slice aW1 wsj.length pW1, .int .i64 s, .int .i64 h, .int .i64 u, .slice aG1 g.length pG1, .slice aR1 l.length pR1]) (calm_then (calm_then calm_body)) rfl rfl (by kernel_rfl) (by kernel_rfl) (by kernel_rfl) (by rfl) (fun W' hSw => by obtain ⟨t0, t1, t2, t3, t4, t5, t6⟩ := (HJ5.out.below hSw).c7; go_simp) hHeld ?_
    try simp only [Act.put, List.setIfInBounds_toArray, List.set_cons_zero, List.set_cons_succ]
    refine takeH 14 39 (.agg #[.slice aS1 lsj.length pS1, .slice aW1 wsj.length pW1, .int .i64 s, .int .i64 h, .int .i64 u, .slice aG1 g.length pG1, .slice aR1 l.length pR1]) (calm_then (calm_then calm_body)) rfl rfl (by kernel_rfl) (by kernel_rfl) (by kernel_rfl) (by rfl) (fun W' hSw => by obtain ⟨t0, t1, t2, t3, t4, t5, t6⟩ := (HJ5.out.below hSw).c7; go_simp) hHeld ?_
    try simp only [Act.put, List.setIfInBounds_toArray, List.set_cons_zero, List.set_cons_succ]
    refine wpAnyH_ready (rs := [13]) (by kernel_rfl) (by simp) (AllReadyH.cons rfl (fun K hK => ?_) AllReadyH.nil)
    go_simp
    go_at_call 11
    (with_reducible refine (HR1.out _ hHeld).mono ?_)
    rintro e V6 ⟨rfl, hz⟩
    have hHeld2 := below_trans hHeld hz
    clear hz
    go_simp
    refine hK.out _ _ hHeld2 (fun hHeld => ?_)
    clear hK hHeld2
    try simp only [Act.put, List.setIfInBounds_toArray, List.set_cons_zero, List.set_cons_succ]
    refine wpAnyH_ready (rs := [15]) (by kernel_rfl) (by simp) (AllReadyH.cons rfl (fun K hK => ?_) AllReadyH.nil)
    go_simp
    go_at_call 12
    (with_reducible refine (HR2.out _ hHeld).mono ?_)
    rintro e V7 ⟨rfl, hz⟩
    have hHeld2 := below_trans hHeld hz
    clear hz
    go_simp
    refine hK.out _ _ hHeld2 (fun hHeld => ?_)
    clear hK hHeld2
    try simp only [Act.put, List.setIfInBounds_toArray, List.set_cons_zero, List.set_cons_succ]
    refine takeH 16 41 (.bool false) (calm_then (calm_then calm_body)) rfl rfl (by kernel_rfl) (by kernel_rfl) (by kernel_rfl) (by rfl) (fun W' hSw => by go_simp) hHeld ?_
    try simp only [Act.put, List.setIfInBounds_toArray, List.set_cons_zero, List.set_cons_succ]
    refine takeH 17 42 (.bool false) (calm_then (calm_then calm_body)) rfl rfl (by kernel_rfl) (by kernel_rfl) (by kernel_rfl) (by rfl) (fun W' hSw => by go_simp) hHeld ?_
    try simp only [Act.put, List.setIfInBounds_toArray, List.set_cons_zero, List.set_cons_succ]
    refine takeH 18 43 (.bool false) (calm_then (calm_then calm_body)) rfl rfl (by kernel_rfl) (by kernel_rfl) (by kernel_rfl) (by rfl) (fun W' hSw => by go_simp) hHeld ?_
    try simp only [Act.put, List.setIfInBounds_toArray, List.set_cons_zero, List.set_cons_succ]
    refine wpAnyH_ready (rs := [19]) (by kernel_rfl) (by simp) (AllReadyH.cons rfl (fun K hK => ?_) AllReadyH.nil)
    go_simp
    go_at_call 13
    refine (alive_any _).mono ?_
    rintro e V8 ⟨rfl, hz⟩
    have hHeld2 := below_trans hHeld hz
    clear hz
    go_simp
    refine hK.out _ _ hHeld2 (fun hHeld => ?_)
    clear hK hHeld2
    try simp only [Act.put, List.setIfInBounds_toArray, List.set_cons_zero, List.set_cons_succ]
    refine takeH 20 45 (.bool false) (calm_then (calm_then calm_body)) rfl rfl (by kernel_rfl) (by kernel_rfl) (by kernel_rfl) (by rfl) (fun W' hSw => by go_simp) hHeld ?_
    try simp only [Act.put, List.setIfInBounds_toArray, List.set_cons_zero, List.set_cons_succ]
    refine takeH 21 46 (.bool false) (calm_then (calm_then calm_body)) rfl rfl (by kernel_rfl) (by kernel_rfl) (by kernel_rfl) (by rfl) (fun W' hSw => by go_simp) hHeld ?_
    try simp only [Act.put, List.setIfInBounds_toArray, List.set_cons_zero, List.set_cons_succ]
    refine wpAnyH_done (by kernel_rfl) ?_ _
    go_wp2_with fail
    go_meet
    exact ⟨rfl, hHeld⟩
  case rest =>
  obtain ⟨rfl, hz6⟩ := hcut
  rename World => W6
  have HB6 := Lib.hid (below_trans HB5.out hz6)
  clear hz6 HB5 HLK HR1 HR2 HTX HAB HJ5 HJR5 hbb hka
  by_cases hn : 8 ≤ n ∧ n ≤ 512
  case neg =>
    have HFN := Lib.hid (Format_no n (by omega) W6)
    go_upto_region 7 with (go_at_call 14; (with_reducible refine HFN.out.mono ?_); rintro e y6 ⟨vS6, vW6, vG6, vR6, rfl, hS, hW, hG, hR, hx⟩; have HR6 : Hid (JRow y6 vS6 vW6 vG6 vR6 J0) := Lib.hid ⟨hS.1, hW.1, hG.1, hR.1⟩; obtain ⟨aS6, cS6, rfl⟩ := hS.1.slice; obtain ⟨aW6, cW6, rfl⟩ := hW.1.slice; obtain ⟨aG6, cG6, rfl⟩ := hG.1.slice; obtain ⟨aR6, cR6, rfl⟩ := hR.1.slice; have HX6 := Lib.hid hx; clear hS hW hG hR hx; unfold jv; simp only [List.length_nil] at *)
    have HN7 : Hid (JB y6.heap.size (.slice aS6 0 cS6) (.slice aW6 0 cW6) (.slice aG6 0 cG6) (.slice aR6 0 cR6) J0 (y6.alloc (.cells #[.slice aS6 0 cS6, .slice aW6 0 cW6, .int .i64 0, .int .i64 0, .int .i64 0, .slice aG6 0 cG6, .slice aR6 0 cR6] 27))) := Lib.hid (JB.made (J := J0) HR6.out)
    have HX7 := Lib.hid (below_trans HB6.out (below_trans HX6.out (al y6 (.cells #[.slice aS6 0 cS6, .slice aW6 0 cW6, .int .i64 0, .int .i64 0, .int .i64 0, .slice aG6 0 cG6, .slice aR6 0 cR6] 27))))
    clear HR6 HX6 HB6 HFN
    generalize y6.alloc _ = W7 at HN7 HX7 ⊢
    generalize y6.heap.size = nb at HN7 ⊢
    have HNB : Hid (Box nb [.slice aS6 0 cS6, .slice aW6 0 cW6, .int .i64 0, .int .i64 0, .int .i64 0, .slice aG6 0 cG6, .slice aR6 0 cR6] W7) := Lib.hid HN7.out.1
    have HLK := Lib.hid (show Calls Tryz.prog 10 #[.agg #[.slice aS6 0 cS6, .slice aW6 0 cW6, .int .i64 0, .int .i64 0, .int .i64 0, .slice aG6 0 cG6, .slice aR6 0 cR6], .agg #[.slice none 0 0, .slice none 0 0, .int .i64 0, .int .i64 0, .int .i64 0, .slice none 0 0, .slice none 0 0]] W7 (BoolB true W7) from by have h := refLike_yes HN7.out.2 (bS := .slice none 0 0) (bW := .slice none 0 0) (bG := .slice none 0 0) (bR := .slice none 0 0) ⟨.inl ⟨rfl, rfl⟩, .inl ⟨rfl, rfl⟩, .inl ⟨rfl, rfl⟩, .inl ⟨rfl, rfl⟩⟩ len_zero.1 len_zero.2.1 len_zero.2.2.1 len_zero.2.2.2; exact h)
    obtain ⟨c0, c1, c2, c3, c4, c5, c6⟩ := HNB.out.c7
    by_cases h8 : n < 8
    · clear hn
      go_wp2_with fail
      (with_reducible refine HLK.out.mono ?_)
      rintro e V9 ⟨rfl, hz⟩
      have HE := Lib.hid (below_trans HX7.out hz)
      clear hz
      go_wp2_with fail
      go_ret
      exact ⟨rfl, HE.out⟩
    · have h9 : (512 : Int) < n := by omega
      clear hn
      go_wp2_with fail
      (with_reducible refine HLK.out.mono ?_)
      rintro e V9 ⟨rfl, hz⟩
      have HE := Lib.hid (below_trans HX7.out hz)
      clear hz
      go_wp2_with fail
      go_ret
      exact ⟨rfl, HE.out⟩
  case pos =>
  obtain ⟨q, rfl⟩ : ∃ q : Nat, n = q := ⟨n.toNat, by omega⟩
  have h1 : ¬ (q : Int) < 8 := by omega
  have h2 : ¬ (512 : Int) < (q : Int) := by omega
  have hq8 : 8 ≤ q := by omega
  have hq5 : q ≤ 512 := by omega
  clear hn hn1 hn2
  have HFY := Lib.hid (Format_yes q hq8 hq5 W6)
  go_upto_region 7 with (go_at_call 14; (with_reducible refine HFY.out.mono ?_); rintro e y6 ⟨vS6, vW6, vG6, vR6, rfl, hS, hW, hG, hR, hx⟩; have HR6 : Hid (JRow y6 vS6 vW6 vG6 vR6 ⟨formL q, [], 1, 0, 0, [], []⟩) := Lib.hid ⟨hS.1, hW.1, hG.1, hR.1⟩; obtain ⟨aS6, cS6, rfl⟩ := hS.1.slice; obtain ⟨aW6, cW6, rfl⟩ := hW.1.slice; obtain ⟨aG6, cG6, rfl⟩ := hG.1.slice; obtain ⟨aR6, cR6, rfl⟩ := hR.1.slice; have HX6 := Lib.hid hx; clear hS hW hG hR hx; unfold jv; simp only [List.length_nil, formL_len] at *)
  have HN7 : Hid (JB y6.heap.size (.slice aS6 q cS6) (.slice aW6 0 cW6) (.slice aG6 0 cG6) (.slice aR6 0 cR6) ⟨formL q, [], 1, 0, 0, [], []⟩ (y6.alloc (.cells #[.slice aS6 q cS6, .slice aW6 0 cW6, .int .i64 1, .int .i64 0, .int .i64 0, .slice aG6 0 cG6, .slice aR6 0 cR6] 27))) := Lib.hid (JB.made (J := ⟨formL q, [], 1, 0, 0, [], []⟩) HR6.out)
  have HX7 := Lib.hid (below_trans HB6.out (below_trans HX6.out (al y6 (.cells #[.slice aS6 q cS6, .slice aW6 0 cW6, .int .i64 1, .int .i64 0, .int .i64 0, .slice aG6 0 cG6, .slice aR6 0 cR6] 27))))
  clear HR6 HX6 HB6 HFY
  generalize y6.alloc _ = W7 at HN7 HX7 ⊢
  generalize y6.heap.size = nb at HN7 ⊢
  have HNB : Hid (Box nb [.slice aS6 q cS6, .slice aW6 0 cW6, .int .i64 1, .int .i64 0, .int .i64 0, .slice aG6 0 cG6, .slice aR6 0 cR6] W7) := Lib.hid HN7.out.1
  have hrS : Disk.SRow W7 (.slice aS6 q cS6) (formL q) := HN7.out.2.rS
  obtain ⟨gw, rfl, hqc, hgb, hcells⟩ := form_row hrS (by omega)
  have HCE := Lib.hid hcells
  have HHD := Lib.hid (fun W' => show Calls Tryz.prog 15 #[.int .i64 1, .int .i64 0, .int .i64 0] W' (TextB (headB firstT) W') from by have h := refHead_any firstT (by decide) (by decide) (by decide) W'; exact h)
  clear hrS hcells HN7
  have hq1 : (1 : Int) < (q : Int) := by omega
  generalize headB firstT = hd at HCE HHD
  go_upto_region 9 with fail
  go_cut [108] from 65 to 108 (fun v wx => v = .bool false ∧ Below W7.heap.size W7 wx)
  case first =>
    refine wp_region_held_drew (S := fun W' => Below W7.heap.size W7 W') (by kernel_rfl) (dr _) (fun hHeld => ?_)
    refine takeH 0 65 (.int .i64 0) (calm_then (calm_then calm_body)) rfl rfl (by kernel_rfl) (by kernel_rfl) (by kernel_rfl) (by rfl) (fun W' hSw => by go_simp) hHeld ?_
    try simp only [Act.put, List.setIfInBounds_toArray, List.set_cons_zero, List.set_cons_succ]
    refine takeH 1 66 (.bool false) (calm_then (calm_then calm_body)) rfl rfl (by kernel_rfl) (by kernel_rfl) (by kernel_rfl) (by rfl) (fun W' hSw => by go_simp) hHeld ?_
    try simp only [Act.put, List.setIfInBounds_toArray, List.set_cons_zero, List.set_cons_succ]
    refine takeH 2 67 (.bool false) (calm_then (calm_then calm_body)) rfl rfl (by kernel_rfl) (by kernel_rfl) (by kernel_rfl) (by rfl) (fun W' hSw => by go_simp) hHeld ?_
    try simp only [Act.put, List.setIfInBounds_toArray, List.set_cons_zero, List.set_cons_succ]
    refine takeH 3 68 (.pointer (some ⟨nb, 0, none⟩)) (calm_then (calm_then calm_body)) rfl rfl (by kernel_rfl) (by kernel_rfl) (by kernel_rfl) (by rfl) (fun W' hSw => by go_simp) hHeld ?_
    try simp only [Act.put, List.setIfInBounds_toArray, List.set_cons_zero, List.set_cons_succ]
    refine takeH 4 69 (.pointer (some ⟨nb, 0, none⟩)) (calm_then (calm_then calm_body)) rfl rfl (by kernel_rfl) (by kernel_rfl) (by kernel_rfl) (by rfl) (fun W' hSw => by go_simp) hHeld ?_
    try simp only [Act.put, List.setIfInBounds_toArray, List.set_cons_zero, List.set_cons_succ]
    refine takeH 5 70 (.slice (some ⟨gw, 0, none⟩) q cS6) (calm_then (calm_then calm_body)) rfl rfl (by kernel_rfl) (by kernel_rfl) (by kernel_rfl) (by rfl) (fun W' hSw => by obtain ⟨t0, t1, t2, t3, t4, t5, t6⟩ := (HNB.out.below hSw).c7; go_simp) hHeld ?_
    try simp only [Act.put, List.setIfInBounds_toArray, List.set_cons_zero, List.set_cons_succ]
    refine takeH 6 71 (.int .i64 q) (calm_then (calm_then calm_body)) rfl rfl (by kernel_rfl) (by kernel_rfl) (by kernel_rfl) (by rfl) (fun W' hSw => by go_simp) hHeld ?_
    try simp only [Act.put, List.setIfInBounds_toArray, List.set_cons_zero, List.set_cons_succ]
    refine takeH 7 72 (.int .i64 q) (calm_then (calm_then calm_body)) rfl rfl (by kernel_rfl) (by kernel_rfl) (by kernel_rfl) (by rfl) (fun W' hSw => by go_simp) hHeld ?_
    try simp only [Act.put, List.setIfInBounds_toArray, List.set_cons_zero, List.set_cons_succ]
    refine takeH 8 73 (.bool false) (calm_then (calm_then calm_body)) rfl rfl (by kernel_rfl) (by kernel_rfl) (by kernel_rfl) (by rfl) (fun W' hSw => by go_simp) hHeld ?_
    try simp only [Act.put, List.setIfInBounds_toArray, List.set_cons_zero, List.set_cons_succ]
    refine takeH 9 74 (.bool false) (calm_then (calm_then calm_body)) rfl rfl (by kernel_rfl) (by kernel_rfl) (by kernel_rfl) (by rfl) (fun W' hSw => by go_simp) hHeld ?_
    try simp only [Act.put, List.setIfInBounds_toArray, List.set_cons_zero, List.set_cons_succ]
    refine takeH 10 75 (.bool false) (calm_then (calm_then calm_body)) rfl rfl (by kernel_rfl) (by kernel_rfl) (by kernel_rfl) (by rfl) (fun W' hSw => by go_simp) hHeld ?_
    try simp only [Act.put, List.setIfInBounds_toArray, List.set_cons_zero, List.set_cons_succ]
    refine takeH 11 76 (.pointer (some ⟨nb, 0, none⟩)) (calm_then (calm_then calm_body)) rfl rfl (by kernel_rfl) (by kernel_rfl) (by kernel_rfl) (by rfl) (fun W' hSw => by go_simp) hHeld ?_
    try simp only [Act.put, List.setIfInBounds_toArray, List.set_cons_zero, List.set_cons_succ]
    refine takeH 12 77 (.pointer (some ⟨nb, 0, none⟩)) (calm_then (calm_then calm_body)) rfl rfl (by kernel_rfl) (by kernel_rfl) (by kernel_rfl) (by rfl) (fun W' hSw => by go_simp) hHeld ?_
    try simp only [Act.put, List.setIfInBounds_toArray, List.set_cons_zero, List.set_cons_succ]
    refine takeH 13 78 (.slice (some ⟨gw, 0, none⟩) q cS6) (calm_then (calm_then calm_body)) rfl rfl (by kernel_rfl) (by kernel_rfl) (by kernel_rfl) (by rfl) (fun W' hSw => by obtain ⟨t0, t1, t2, t3, t4, t5, t6⟩ := (HNB.out.below hSw).c7; go_simp) hHeld ?_
    try simp only [Act.put, List.setIfInBounds_toArray, List.set_cons_zero, List.set_cons_succ]
    refine takeH 14 79 (.pointer (some ⟨gw, 1, none⟩)) (calm_then (calm_then calm_body)) rfl rfl (by kernel_rfl) (by kernel_rfl) (by kernel_rfl) (by rfl) (fun W' hSw => by go_simp) hHeld ?_
    try simp only [Act.put, List.setIfInBounds_toArray, List.set_cons_zero, List.set_cons_succ]
    refine takeH 15 80 (.string hd) (calm_then (calm_then calm_body)) rfl rfl (by kernel_rfl) (by kernel_rfl) (by kernel_rfl) (by rfl) (fun W' hSw => by have t0 := (hSw.cell (p := ⟨gw, 1, none⟩) hgb).trans HCE.out.1; go_simp) hHeld ?_
    try simp only [Act.put, List.setIfInBounds_toArray, List.set_cons_zero, List.set_cons_succ]
    refine wpAnyH_ready (rs := [16]) (by kernel_rfl) (by simp) (AllReadyH.cons rfl (fun K hK => ?_) AllReadyH.nil)
    go_simp
    go_at_call 15
    (with_reducible refine (HHD.out _).mono ?_)
    rintro e V9 ⟨rfl, hz⟩
    have hHeld2 := below_trans hHeld hz
    clear hz
    go_simp
    refine hK.out _ _ hHeld2 (fun hHeld => ?_)
    clear hK hHeld2
    try simp only [Act.put, List.setIfInBounds_toArray, List.set_cons_zero, List.set_cons_succ]
    refine takeH 17 82 (.bool false) (calm_then (calm_then calm_body)) rfl rfl (by kernel_rfl) (by kernel_rfl) (by kernel_rfl) (by rfl) (fun W' hSw => by go_simp) hHeld ?_
    try simp only [Act.put, List.setIfInBounds_toArray, List.set_cons_zero, List.set_cons_succ]
    refine takeH 18 83 (.bool false) (calm_then (calm_then calm_body)) rfl rfl (by kernel_rfl) (by kernel_rfl) (by kernel_rfl) (by rfl) (fun W' hSw => by go_simp) hHeld ?_
    try simp only [Act.put, List.setIfInBounds_toArray, List.set_cons_zero, List.set_cons_succ]
    refine takeH 19 84 (.bool false) (calm_then (calm_then calm_body)) rfl rfl (by kernel_rfl) (by kernel_rfl) (by kernel_rfl) (by rfl) (fun W' hSw => by go_simp) hHeld ?_
    try simp only [Act.put, List.setIfInBounds_toArray, List.set_cons_zero, List.set_cons_succ]
    refine takeH 20 85 (.pointer (some ⟨nb, 2, none⟩)) (calm_then (calm_then calm_body)) rfl rfl (by kernel_rfl) (by kernel_rfl) (by kernel_rfl) (by rfl) (fun W' hSw => by go_simp) hHeld ?_
    try simp only [Act.put, List.setIfInBounds_toArray, List.set_cons_zero, List.set_cons_succ]
    refine takeH 21 86 (.int .i64 1) (calm_then (calm_then calm_body)) rfl rfl (by kernel_rfl) (by kernel_rfl) (by kernel_rfl) (by rfl) (fun W' hSw => by obtain ⟨t0, t1, t2, t3, t4, t5, t6⟩ := (HNB.out.below hSw).c7; go_simp) hHeld ?_
    try simp only [Act.put, List.setIfInBounds_toArray, List.set_cons_zero, List.set_cons_succ]
    refine takeH 22 87 (.bool false) (calm_then (calm_then calm_body)) rfl rfl (by kernel_rfl) (by kernel_rfl) (by kernel_rfl) (by rfl) (fun W' hSw => by go_simp) hHeld ?_
    try simp only [Act.put, List.setIfInBounds_toArray, List.set_cons_zero, List.set_cons_succ]
    refine takeH 23 88 (.bool false) (calm_then (calm_then calm_body)) rfl rfl (by kernel_rfl) (by kernel_rfl) (by kernel_rfl) (by rfl) (fun W' hSw => by go_simp) hHeld ?_
    try simp only [Act.put, List.setIfInBounds_toArray, List.set_cons_zero, List.set_cons_succ]
    refine takeH 24 89 (.bool false) (calm_then (calm_then calm_body)) rfl rfl (by kernel_rfl) (by kernel_rfl) (by kernel_rfl) (by rfl) (fun W' hSw => by go_simp) hHeld ?_
    try simp only [Act.put, List.setIfInBounds_toArray, List.set_cons_zero, List.set_cons_succ]
    refine takeH 25 90 (.pointer (some ⟨nb, 3, none⟩)) (calm_then (calm_then calm_body)) rfl rfl (by kernel_rfl) (by kernel_rfl) (by kernel_rfl) (by rfl) (fun W' hSw => by go_simp) hHeld ?_
    try simp only [Act.put, List.setIfInBounds_toArray, List.set_cons_zero, List.set_cons_succ]
    refine takeH 26 91 (.int .i64 0) (calm_then (calm_then calm_body)) rfl rfl (by kernel_rfl) (by kernel_rfl) (by kernel_rfl) (by rfl) (fun W' hSw => by obtain ⟨t0, t1, t2, t3, t4, t5, t6⟩ := (HNB.out.below hSw).c7; go_simp) hHeld ?_
    try simp only [Act.put, List.setIfInBounds_toArray, List.set_cons_zero, List.set_cons_succ]
    refine takeH 27 92 (.bool false) (calm_then (calm_then calm_body)) rfl rfl (by kernel_rfl) (by kernel_rfl) (by kernel_rfl) (by rfl) (fun W' hSw => by go_simp) hHeld ?_
    try simp only [Act.put, List.setIfInBounds_toArray, List.set_cons_zero, List.set_cons_succ]
    refine takeH 28 93 (.bool false) (calm_then (calm_then calm_body)) rfl rfl (by kernel_rfl) (by kernel_rfl) (by kernel_rfl) (by rfl) (fun W' hSw => by go_simp) hHeld ?_
    try simp only [Act.put, List.setIfInBounds_toArray, List.set_cons_zero, List.set_cons_succ]
    refine takeH 29 94 (.bool false) (calm_then (calm_then calm_body)) rfl rfl (by kernel_rfl) (by kernel_rfl) (by kernel_rfl) (by rfl) (fun W' hSw => by go_simp) hHeld ?_
    try simp only [Act.put, List.setIfInBounds_toArray, List.set_cons_zero, List.set_cons_succ]
    refine takeH 30 95 (.pointer (some ⟨nb, 4, none⟩)) (calm_then (calm_then calm_body)) rfl rfl (by kernel_rfl) (by kernel_rfl) (by kernel_rfl) (by rfl) (fun W' hSw => by go_simp) hHeld ?_
    try simp only [Act.put, List.setIfInBounds_toArray, List.set_cons_zero, List.set_cons_succ]
    refine takeH 31 96 (.int .i64 0) (calm_then (calm_then calm_body)) rfl rfl (by kernel_rfl) (by kernel_rfl) (by kernel_rfl) (by rfl) (fun W' hSw => by obtain ⟨t0, t1, t2, t3, t4, t5, t6⟩ := (HNB.out.below hSw).c7; go_simp) hHeld ?_
    try simp only [Act.put, List.setIfInBounds_toArray, List.set_cons_zero, List.set_cons_succ]
    refine takeH 32 97 (.bool false) (calm_then (calm_then calm_body)) rfl rfl (by kernel_rfl) (by kernel_rfl) (by kernel_rfl) (by rfl) (fun W' hSw => by go_simp) hHeld ?_
    try simp only [Act.put, List.setIfInBounds_toArray, List.set_cons_zero, List.set_cons_succ]
    refine takeH 33 98 (.bool false) (calm_then (calm_then calm_body)) rfl rfl (by kernel_rfl) (by kernel_rfl) (by kernel_rfl) (by rfl) (fun W' hSw => by go_simp) hHeld ?_
    try simp only [Act.put, List.setIfInBounds_toArray, List.set_cons_zero, List.set_cons_succ]
    refine takeH 34 99 (.bool false) (calm_then (calm_then calm_body)) rfl rfl (by kernel_rfl) (by kernel_rfl) (by kernel_rfl) (by rfl) (fun W' hSw => by go_simp) hHeld ?_
    try simp only [Act.put, List.setIfInBounds_toArray, List.set_cons_zero, List.set_cons_succ]
    refine takeH 35 100 (.pointer (some ⟨nb, 6, none⟩)) (calm_then (calm_then calm_body)) rfl rfl (by kernel_rfl) (by kernel_rfl) (by kernel_rfl) (by rfl) (fun W' hSw => by go_simp) hHeld ?_
    try simp only [Act.put, List.setIfInBounds_toArray, List.set_cons_zero, List.set_cons_succ]
    refine takeH 36 101 (.slice aR6 0 cR6) (calm_then (calm_then calm_body)) rfl rfl (by kernel_rfl) (by kernel_rfl) (by kernel_rfl) (by rfl) (fun W' hSw => by obtain ⟨t0, t1, t2, t3, t4, t5, t6⟩ := (HNB.out.below hSw).c7; go_simp) hHeld ?_
    try simp only [Act.put, List.setIfInBounds_toArray, List.set_cons_zero, List.set_cons_succ]
    refine takeH 37 102 (.int .i64 0) (calm_then (calm_then calm_body)) rfl rfl (by kernel_rfl) (by kernel_rfl) (by kernel_rfl) (by rfl) (fun W' hSw => by go_simp) hHeld ?_
    try simp only [Act.put, List.setIfInBounds_toArray, List.set_cons_zero, List.set_cons_succ]
    refine takeH 38 103 (.pointer (some ⟨nb, 5, none⟩)) (calm_then (calm_then calm_body)) rfl rfl (by kernel_rfl) (by kernel_rfl) (by kernel_rfl) (by rfl) (fun W' hSw => by go_simp) hHeld ?_
    try simp only [Act.put, List.setIfInBounds_toArray, List.set_cons_zero, List.set_cons_succ]
    refine takeH 39 104 (.slice aG6 0 cG6) (calm_then (calm_then calm_body)) rfl rfl (by kernel_rfl) (by kernel_rfl) (by kernel_rfl) (by rfl) (fun W' hSw => by obtain ⟨t0, t1, t2, t3, t4, t5, t6⟩ := (HNB.out.below hSw).c7; go_simp) hHeld ?_
    try simp only [Act.put, List.setIfInBounds_toArray, List.set_cons_zero, List.set_cons_succ]
    refine takeH 40 105 (.int .i64 0) (calm_then (calm_then calm_body)) rfl rfl (by kernel_rfl) (by kernel_rfl) (by kernel_rfl) (by rfl) (fun W' hSw => by go_simp) hHeld ?_
    try simp only [Act.put, List.setIfInBounds_toArray, List.set_cons_zero, List.set_cons_succ]
    refine takeH 41 106 (.int .i64 0) (calm_then (calm_then calm_body)) rfl rfl (by kernel_rfl) (by kernel_rfl) (by kernel_rfl) (by rfl) (fun W' hSw => by go_simp; rfl) hHeld ?_
    try simp only [Act.put, List.setIfInBounds_toArray, List.set_cons_zero, List.set_cons_succ]
    refine takeH 42 107 (.bool false) (calm_then (calm_then calm_body)) rfl rfl (by kernel_rfl) (by kernel_rfl) (by kernel_rfl) (by rfl) (fun W' hSw => by go_simp) hHeld ?_
    try simp only [Act.put, List.setIfInBounds_toArray, List.set_cons_zero, List.set_cons_succ]
    refine takeH 43 108 (.bool false) (calm_then (calm_then calm_body)) rfl rfl (by kernel_rfl) (by kernel_rfl) (by kernel_rfl) (by rfl) (fun W' hSw => by go_simp) hHeld ?_
    try simp only [Act.put, List.setIfInBounds_toArray, List.set_cons_zero, List.set_cons_succ]
    refine wpAnyH_done (by kernel_rfl) ?_ _
    go_wp2_with fail
    go_meet
    exact ⟨rfl, hHeld⟩
  case rest =>
  obtain ⟨rfl, hz⟩ := hcut
  rename World => W9
  have HB9 := Lib.hid (below_trans HX7.out hz)
  have HCE9 := Lib.hid (fun W' (hb : Below W9.heap.size W9 W') => hb)
  have HZ9 := Lib.hid hz
  obtain ⟨c0, c1, c2, c3, c4, c5, c6⟩ := (HNB.out.below hz).c7
  clear hz HX7 HHD
  go_wp2_with fail
  clear c0 c1 c2 c3 c4 c5 c6
  go_loopw [12, 13, 113] (fun _ _ i wr => ∃ k : Nat, k ≤ q ∧ i = .int .i64 k ∧ Below W7.heap.size W7 wr ∧ Below w.heap.size w wr) (fun _ _ i _ => q - (RowKit.intOf i).toNat)
  case atStart => exact ⟨0, Nat.zero_le _, rfl, HZ9.out, HB9.out⟩
  case round =>
    obtain ⟨k, hk, rfl, h7, h0⟩ := hrel
    have H7 := Lib.hid h7
    have H0 := Lib.hid h0
    clear h7 h0
    by_cases hlt : k < q
    · have hkq : (k : Int) < (q : Int) := by omega
      by_cases hk1 : k = 1
      · subst hk1
        have e1 := (H7.out.cell (p := ⟨gw, 1, none⟩) hgb).trans HCE.out.1
        go_wp2_with fail
        go_roundw
        case rel => exact ⟨2, by omega, rfl, H7.out, H0.out⟩
        case measure => simp [RowKit.intOf]; omega
      · have e1 := (H7.out.cell (p := ⟨gw, k, none⟩) hgb).trans (HCE.out.2 k hlt hk1)
        have hkn : ((k : Int) != 1) = true := by simp; omega
        obtain ⟨i1, hi1, hy0, hy1, hy2⟩ := info_parts Tryz.info5
        obtain ⟨W1', hmk, hown, hgr⟩ := run_makeSlice_full (P := Tryz.prog) wr wr.heap.size 41 5 i1 (.int .u8 0) 1 Tryz.underlying41 hi1 hy0 hy1 .i64 .i64 64 (by omega) (by rw [hy2]; omega) (by unfold maxLen; omega) (Nat.le_refl _)
        have hb := (Below.refl wr.heap.size wr).grown hgr (Nat.le_refl _) (fun k h => by cases h)
        rw [show ((64 : Nat) : Int) = 64 from rfl] at hmk
        rw [zcells_is] at hown
        have hs := own_string (dst := 9) Tryz.underlying41 Tryz.underlying5 Tryz.underlying9 (l := List.replicate 64 (0 : UInt8)) hown (by simp)
        rw [zeros_is] at hs
        have HBZ := Lib.hid hb
        clear hown hgr hb
        go_wp2_with fail
        go_roundw
        case rel => exact ⟨k + 1, by omega, by go_num, below_trans H7.out HBZ.out, below_trans H0.out HBZ.out⟩
        case measure => simp [RowKit.intOf]; omega
    · obtain rfl : k = q := by omega
      go_wp2_with fail
      go_ret
      exact ⟨rfl, H0.out⟩
set_option maxRecDepth 100000 in
set_option maxHeartbeats 4000000 in
theorem lifted (os : Os) (started : os.Started) (H : Type) (enc : TypeId × Value → H) :
    ReturnsInHanded {} Tryz.checked os 3 .any (Rows.journalOpensSpec.pre6 enc Tryz.prog Tryz.f3 Rows.journalOpensRow.domain false) (Rows.journalOpensSpec.post enc Tryz.prog Tryz.f3 false true false false) := by
  refine returnsInHanded_of_change (C := Tryz.checked) own started (by kernel_rfl) Tryz.func3
    (ChangeSpec.witness6 (enc := enc) (C := Tryz.checked) false ⟨#[], #[.int .i64 0, .agg #[.slice none 0 0, .slice none 0 0], .agg #[.slice none 0 0, .slice none 0 0, .int .i64 0, .int .i64 0, .int .i64 0, .slice none 0 0, .slice none 0 0]], []⟩ 8 (by kernel_rfl) (by kernel_rfl) (by kernel_rfl) (by kernel_rfl)) ?_
  intro W base args ds gs before hval0 hW hcnd _
  have hval : ∀ (j : Nat) t v, Tryz.f3.params[j]? = some t → args[j]? = some v → Value.okWide Tryz.prog W .any base t v := hval0
  have hW' := hW
  obtain ⟨p, q, hA0, hV, rfl, hfz, hnd⟩ := hW
  have hA : DataW.TrodAll enc Tryz.prog W 0 (fun _ => true) true Tryz.f3.params.toList args.toList ds p := hA0
  rw [Tryz.params3] at hA hval
  obtain ⟨v0, vs0, d0, ds0, p0, q0, hargs, rfl, rfl, h0, r0⟩ := trodAll_cons hA
  obtain ⟨v1, vs1, d1, ds1, p1, q1, rfl, rfl, rfl, h1, r1⟩ := trodAll_cons r0
  obtain ⟨v2, vs2, d2, ds2, p2, q2, rfl, rfl, rfl, h2, r2⟩ := trodAll_cons r1
  obtain ⟨rfl, rfl, rfl⟩ := trodAll_nil r2
  obtain rfl : args = #[v0, v1, v2] := by cases args; simp_all
  obtain ⟨rfl, rfl⟩ := trodVars_none hV
  obtain ⟨a0, rfl, rfl, rfl, w0⟩ := open_int Tryz.underlying3 (hval 0 3 v0 rfl rfl) h0
  have hb0 : -9223372036854775808 ≤ a0 ∧ a0 ≤ 9223372036854775807 := by
    have := w0
    simp [Lit.wf, IntKind.min, IntKind.max, IntKind.bits, IntKind.signed] at this
    omega
  have k1 := h1
  have lt1 : ∀ x ∈ p1, x.block < W.heap.size := by obtain ⟨m, hm⟩ := k1; exact DataW.trod_lt m _ _ _ hm
  obtain ⟨fuel1, hf1⟩ := h1
  obtain ⟨vA, vB, rfl, wA, wB⟩ := open_disk (hval 1 25 v1 rfl rfl) hf1
  have k2 := h2
  have lt2 : ∀ x ∈ p2, x.block < W.heap.size := by obtain ⟨m, hm⟩ := k2; exact DataW.trod_lt m _ _ _ hm
  obtain ⟨fuel2, hf2⟩ := h2
  obtain ⟨vS, vW, s, hh, u, vG, vR, rfl, wS, wW, wG, wR, ws, wh, wu⟩ := open_journal (hval 2 27 v2 rfl rfl) hf2
  clear hA0 hval0
  refine (walk0 a0 hb0.1 hb0.2 vA vB vS vW vG vR s hh u W wA wB wS wW wG wR).mono fun e W' ⟨he, bel⟩ => ?_
  subst he
  exact ⟨_, rfl, _, _, _, [], _, [], hW', trodAll_mk1 (shut_bool Tryz.underlying4 _), (trodAll_cons_mk (shut_int Tryz.underlying3 w0) (trodAll_cons_mk (Below.trod laidOut (by kernel_rfl) (of_decide_eq_true (by kernel_rfl)) k1 bel lt1) (trodAll_cons_mk (Below.trod laidOut (by kernel_rfl) (of_decide_eq_true (by kernel_rfl)) k2 bel lt2) trodAll_mk0))), rfl, bel.frame _, fun h => by cases h⟩

theorem over : Rows.journalOpensRow.holds Tryz.pinned (OpenSpec.ofChange Rows.journalOpensSpec) :=
  OpenClaim.holds_of_wide 3 Tryz.f3 rfl rfl rfl rfl rfl rfl rfl ⟨rfl, rfl, rfl, rfl, rfl⟩ rfl rfl rfl rfl rfl (by kernel_rfl) Tryz.func3 (by kernel_rfl)
    (of_decide_eq_true (by kernel_rfl)) (by unfold Func.isWrapper; first | (rw [if_pos (by decide +kernel)]; kernel_rfl) | (rw [if_neg (by decide +kernel)]; exact ⟨rfl, rfl⟩))
    (fun os started H enc _ => lifted os started H enc)

theorem proved : Rows.JournalOpensSaid := over
#print axioms proved

end Go.Proofs.YtlpkalfbcphkmaaGreat.journalOpens
