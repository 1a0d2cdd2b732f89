/-
  Joined: JCrashW, JFormat, JFewD.
-/
import Derived.Test.YtndakbjmahkjdaaMv

/-
  Contracts of sealing and Crash (package journal): the disk behind a crash within Commit or Compact.
-/
namespace Go.Proofs.Ytndakbjmahkjdaa.Disk.Jn
open Go.ChangeShapes Go.WideShapes Go.ChangeAt Go.RowKit Go.Lib
open Go.Proofs.Ytndakbjmahkjdaa.Frame (frm frms size_list mk_list mk_size frm_le Frame_yes)

set_option maxHeartbeats 2000000 in
set_option maxRecDepth 100000 in
theorem sealing_none {vS vW vG vR : Value} {J : JN} {w : World} (hJ : JRow w vS vW vG vR J)  {a b k : Int} {bs : ByteArray} (hp : ∀ W, Below w.heap.size w W → Calls Try.prog 29 #[jv vS vW J.s J.h J.u vG vR] W (PartE a b bs k W)) : Calls Try.prog 18 #[jv vS vW J.s J.h J.u vG vR, .string ⟨#[]⟩] w (PartE a b bs k w) := by
  have HP := Lib.hid hp
  obtain ⟨aS, cap, rfl⟩ := hJ.rS.slice
  obtain ⟨aW, capW, rfl⟩ := hJ.rW.slice
  obtain ⟨aG, capG, rfl⟩ := hJ.rG.slice
  obtain ⟨aR, capR, rfl⟩ := hJ.rR.slice
  have HA := Lib.hid (WSt.made w (.slice aS J.ls.length cap) (.slice aW J.ws.length capW) J.s J.h J.u (.slice aG J.g.length capG) (.slice aR J.l.length capR))
  clear hJ hp
  unfold jv at HP ⊢
  go_enter Try.func18, Try.ntmps18
  go_wp2_with fail
  refine (HP.out _ HA.out.1).mono ?_
  rintro e X ⟨rfl, hx⟩
  have HX := Lib.hid (HA.out.below hx)
  have HZ := Lib.hid (HX.out.ends (.int .i64 a) (.int .i64 b) (.string bs))
  obtain ⟨f0, f1, f2⟩ := HX.out.2.2.f3
  obtain ⟨r0, r1, r2⟩ := HX.out.2.2.c3
  clear hx HA HP
  go_wp2_with fail
  obtain ⟨z0, z1, z2⟩ := HZ.out.1.c3
  exact bodyPost_ret (v := .tuple #[.agg #[.int .i64 a, .int .i64 b, .string bs], .int .i64 k]) (by simp [results, Try.results18, go_sem, z0, z1, z2]) rfl ⟨rfl, HZ.out.2⟩

set_option maxHeartbeats 2000000 in
set_option maxRecDepth 100000 in
theorem sealing_some {vS vW vG vR : Value} {J : JN} {w : World} (hJ : JRow w vS vW vG vR J) (d : ByteArray) (hd : d.size ≠ 0) {a b k : Int} {bs : ByteArray} (hp : ∀ W, Below w.heap.size w W → Calls Try.prog 35 #[jv vS vW J.s J.h J.u vG vR, .string d] W (PartE a b bs k W)) : Calls Try.prog 18 #[jv vS vW J.s J.h J.u vG vR, .string d] w (PartE a b bs k w) := by
  have HP := Lib.hid hp
  obtain ⟨aS, cap, rfl⟩ := hJ.rS.slice
  obtain ⟨aW, capW, rfl⟩ := hJ.rW.slice
  obtain ⟨aG, capG, rfl⟩ := hJ.rG.slice
  obtain ⟨aR, capR, rfl⟩ := hJ.rR.slice
  have HA := Lib.hid (WSt.made w (.slice aS J.ls.length cap) (.slice aW J.ws.length capW) J.s J.h J.u (.slice aG J.g.length capG) (.slice aR J.l.length capR))
  clear hJ hp
  unfold jv at HP ⊢
  have hE1 : ¬ d.toList = [] := not_nil hd
  have hE2 : d.toList.isEmpty = false := by simpa using hE1
  go_enter Try.func18, Try.ntmps18
  go_wp2_with fail
  refine (HP.out _ HA.out.1).mono ?_
  rintro e X ⟨rfl, hx⟩
  have HX := Lib.hid (HA.out.below hx)
  have HZ := Lib.hid (HX.out.ends (.int .i64 a) (.int .i64 b) (.string bs))
  obtain ⟨f0, f1, f2⟩ := HX.out.2.2.f3
  obtain ⟨r0, r1, r2⟩ := HX.out.2.2.c3
  clear hx HA HP
  go_wp2_with fail
  obtain ⟨z0, z1, z2⟩ := HZ.out.1.c3
  exact bodyPost_ret (v := .tuple #[.agg #[.int .i64 a, .int .i64 b, .string bs], .int .i64 k]) (by simp [results, Try.results18, go_sem, z0, z1, z2]) rfl ⟨rfl, HZ.out.2⟩

/-- Crash's blocks: the journal, the result. -/
def CSt (w : World) (cs : List Value) (W : World) : Prop := Below w.heap.size w W ∧ Box w.heap.size cs W ∧ Box (w.heap.size + 1) [.slice none 0 0, .slice none 0 0] W
theorem CSt.made (w : World) (vS vW : Value) (s h u : Int) (vG vR : Value) : CSt w [vS, vW, .int .i64 s, .int .i64 h, .int .i64 u, vG, vR]
    ((w.alloc (.cells #[vS, vW, .int .i64 s, .int .i64 h, .int .i64 u, vG, vR] 27)).alloc (.cells #[.slice none 0 0, .slice none 0 0] 25)) := by
  have h1 := Box.made (w.alloc (.cells #[vS, vW, .int .i64 s, .int .i64 h, .int .i64 u, vG, vR] 27)) [.slice none 0 0, .slice none 0 0] 25
  simp only [World.size_alloc] at h1
  exact ⟨below_trans (al _ _) (al _ _), (Box.made w [vS, vW, .int .i64 s, .int .i64 h, .int .i64 u, vG, vR] 27).below (al _ _), h1⟩
theorem CSt.below {w W W' : World} {cs : List Value} (h : CSt w cs W) (hb : Below W.heap.size W W') : CSt w cs W' := ⟨below_trans h.1 hb, h.2.1.below hb, h.2.2.below hb⟩

set_option maxHeartbeats 2000000 in
set_option maxRecDepth 100000 in
theorem Crash_no {vS vW vG vR : Value} {J : JN} {w : World} (hJ : JRow w vS vW vG vR J) (d : ByteArray) {k : Int} (hk : k ≠ 0) (hp : ∀ W, Below w.heap.size w W → Calls Try.prog 18 #[jv vS vW J.s J.h J.u vG vR, .string d] W (PartE 0 0 ⟨#[]⟩ k W)) (late : Bool) (kp : Nat) (tn : Int) :
    Calls Try.prog 7 #[jv vS vW J.s J.h J.u vG vR, .string d, .bool late, .int .u64 kp, .int .i64 tn] w (DiskE [] [] k w) := by
  have HP := Lib.hid hp
  obtain ⟨aS, cap, rfl⟩ := hJ.rS.slice
  obtain ⟨aW, capW, rfl⟩ := hJ.rW.slice
  obtain ⟨aG, capG, rfl⟩ := hJ.rG.slice
  obtain ⟨aR, capR, rfl⟩ := hJ.rR.slice
  have HA := Lib.hid (CSt.made w (.slice aS J.ls.length cap) (.slice aW J.ws.length capW) J.s J.h J.u (.slice aG J.g.length capG) (.slice aR J.l.length capR))
  have hne : (k != 0) = true := by simpa using hk
  clear hJ hk hp
  unfold jv at HP ⊢
  go_enter Try.func7, Try.ntmps7
  go_wp2_with fail
  refine (HP.out _ HA.out.1).mono ?_
  rintro e X ⟨rfl, hx⟩
  have HX := Lib.hid (HA.out.below (below_trans hx (al X (.cells #[.int .i64 0, .int .i64 0, .string ⟨#[]⟩] 51))))
  have HZ := Lib.hid (And.intro (HX.out.2.2.st2 (.slice none 0 0) (.slice none 0 0)) (below_st2 HX.out.1 (by omega : w.heap.size ≤ w.heap.size + 1) (.slice none 0 0) (.slice none 0 0)))
  obtain ⟨k0, k1⟩ := HX.out.2.2.c2
  obtain ⟨k2, k3⟩ := HX.out.2.2.f2
  clear hx HA HP
  go_wp2_with fail
  obtain ⟨⟨z0, z1⟩, zB⟩ : _ ∧ _ := ⟨HZ.out.1.c2, HZ.out.2⟩
  exact bodyPost_ret (v := .tuple #[.agg #[.slice none 0 0, .slice none 0 0], .int .i64 k]) (by simp [results, Try.results7, go_sem, z0, z1]) rfl ⟨_, _, rfl, ⟨.inl ⟨rfl, rfl⟩, from_nil _⟩, ⟨.inl ⟨rfl, rfl⟩, from_nil _⟩, zB⟩

set_option maxHeartbeats 4000000 in
set_option maxRecDepth 100000 in
theorem Crash_early {vS vW vG vR : Value} {J : JN} {w : World} (hJ : JRow w vS vW vG vR J) (d : ByteArray) {t : Told} (hm : May J t) {half fr : Nat} {bs : ByteArray} {l' : List ByteArray} (hq : Seals J.ls t half fr bs.data.toList l')
    (hp : ∀ W, Below w.heap.size w W → Calls Try.prog 18 #[jv vS vW J.s J.h J.u vG vR, .string d] W (PartE half fr bs 0 W)) (kp : Nat) (hkp : kp < 18446744073709551616) (tn : Int) :
    Calls Try.prog 7 #[jv vS vW J.s J.h J.u vG vR, .string d, .bool false, .int .u64 kp, .int .i64 tn] w (DiskE (crashL kp J.ls (firstW J.ls ((t.seals + 1) % 2) half fr bs.data.toList) tn) [] 0 w) := by
  have HP := Lib.hid hp
  have hsl : bs.data.toList.length = bs.size := size_list bs
  have hf := hq.fits
  have hl := hq.short
  rw [hsl] at hf hl
  have hR1 := first_right (q := (t.seals + 1) % 2) hm.op.1 hq.fits hq.short (by omega)
  have hse := (opens_may hm.op).2.2.1
  have HLO := Lib.hid (fun W (hb : Below w.heap.size w W) => layOut_any (s := t.seals) (h := J.h) (u := J.u) (half := half) (fr := fr) (bs := bs) (hJ.rS.below hb) (hm.nw ▸ hJ.rW.below hb) (by obtain ⟨a, c, e⟩ := hJ.rG.slice; exact ⟨_, _, _, e⟩) (by obtain ⟨a, c, e⟩ := hJ.rR.slice; exact ⟨_, _, _, e⟩) hm.op.1 hse hf hl)
  rw [← hm.hs] at HLO
  have HCR := Lib.hid (fun W vS' vW' (h1 : SRow W vS' J.ls) (h2 : WRow W vW' (firstW J.ls ((t.seals + 1) % 2) half fr bs.data.toList)) => Crash_yes h1 h2 hR1 kp hkp tn)
  obtain ⟨aS, cap, rfl⟩ := hJ.rS.slice
  obtain ⟨aW, capW, rfl⟩ := hJ.rW.slice
  obtain ⟨aG, capG, rfl⟩ := hJ.rG.slice
  obtain ⟨aR, capR, rfl⟩ := hJ.rR.slice
  have HA := Lib.hid (CSt.made w (.slice aS J.ls.length cap) (.slice aW J.ws.length capW) J.s J.h J.u (.slice aG J.g.length capG) (.slice aR J.l.length capR))
  clear hJ hm hp hq hf hl hsl
  unfold jv at HP HLO ⊢
  go_enter Try.func7, Try.ntmps7
  go_wp2_with fail
  refine (HP.out _ HA.out.1).mono ?_
  rintro e X ⟨rfl, hx⟩
  have HX := Lib.hid (HA.out.below (below_trans hx (al X (.cells #[.int .i64 (half : Int), .int .i64 (fr : Int), .string bs] 51))))
  obtain ⟨c0, c1, c2, c3, c4, c5, c6⟩ := HX.out.2.1.c7
  clear hx HA HP
  go_wp2_with fail
  refine (HLO.out _ HX.out.1).mono ?_
  rintro e Y ⟨vS1, vW1, rfl, hS1, hW1, hy⟩
  have HY := Lib.hid (HX.out.below (below_trans hy (al Y (.cells #[vS1, vW1] 25))))
  have HCY := Lib.hid (HCR.out _ _ _ (hS1.1.below (al Y (.cells #[vS1, vW1] 25))) (hW1.1.below (al Y (.cells #[vS1, vW1] 25))))
  obtain ⟨a1, p1, e1⟩ := hS1.1.slice
  subst e1
  obtain ⟨a2, p2, rfl⟩ := hW1.1.slice
  clear hS1 hW1 hy c0 c1 c2 c3 c4 c5 c6 HLO
  go_wp2_with fail
  refine HCY.out.mono ?_
  rintro e V ⟨vS2, vW2, rfl, hS2, hW2, hv⟩
  have HV := Lib.hid (HY.out.below hv)
  obtain ⟨a3, p3, e3⟩ := hS2.1.slice
  rw [crashL_len] at e3
  subst e3
  obtain ⟨a4, p4, rfl⟩ := hW2.1.slice
  rw [List.length_nil] at hW2 ⊢
  have hb1 := HY.out.2.2.1
  have hf1 : From (w.heap.size + 1 + 1) (.slice a3 J.ls.length p3) := hS2.2.mono hb1
  have hf2 : From (w.heap.size + 1 + 1) (.slice a4 0 p4) := hW2.2.mono hb1
  have HEND := Lib.hid (And.intro (HV.out.2.2.st2 (.slice a3 J.ls.length p3) (.slice a4 0 p4)) (And.intro ((hS2.1.stored (i := 0) (u := .slice a3 J.ls.length p3) hf1).stored (i := 1) (u := .slice a4 0 p4) hf1)
    (And.intro ((hW2.1.stored (i := 0) (u := .slice a3 J.ls.length p3) hf2).stored (i := 1) (u := .slice a4 0 p4) hf2) (below_st2 HV.out.1 (by omega : w.heap.size ≤ w.heap.size + 1) (.slice a3 J.ls.length p3) (.slice a4 0 p4)))))
  have HF1 := Lib.hid hf1
  have HF2 := Lib.hid hf2
  obtain ⟨k0, k1⟩ := HV.out.2.2.c2
  obtain ⟨k2, k3⟩ := HV.out.2.2.f2
  clear hS2 hW2 hv hf1 hf2 HCY
  go_wp2_with fail
  obtain ⟨⟨z0, z1⟩, zS, zW, zB⟩ : _ ∧ _ := ⟨HEND.out.1.c2, HEND.out.2⟩
  exact bodyPost_ret (v := .tuple #[.agg #[.slice a3 J.ls.length p3, .slice a4 0 p4], .int .i64 0]) (by simp [results, Try.results7, go_sem, z0, z1]) rfl ⟨_, _, rfl, ⟨zS, HF1.out.mono (by omega)⟩, ⟨zW, HF2.out.mono (by omega)⟩, zB⟩

set_option maxHeartbeats 4000000 in
set_option maxRecDepth 100000 in
theorem Crash_late {vS vW vG vR : Value} {J : JN} {w : World} (hJ : JRow w vS vW vG vR J) (d : ByteArray) {t : Told} (hm : May J t) {half fr : Nat} {bs : ByteArray} {l' : List ByteArray} (hq : Seals J.ls t half fr bs.data.toList l')
    (hp : ∀ W, Below w.heap.size w W → Calls Try.prog 18 #[jv vS vW J.s J.h J.u vG vR, .string d] W (PartE half fr bs 0 W)) (kp : Nat) (hkp : kp < 18446744073709551616) (tn : Int) :
    Calls Try.prog 7 #[jv vS vW J.s J.h J.u vG vR, .string d, .bool true, .int .u64 kp, .int .i64 tn] w (DiskE (crashL kp (flushed J.ls t half fr bs.data.toList) (headW t half fr bs.size) tn) [] 0 w) := by
  have HP := Lib.hid hp
  have hsl : bs.data.toList.length = bs.size := size_list bs
  have hf := hq.fits
  have hl := hq.short
  rw [hsl] at hf hl
  have hF := flushed_opens hm.op hq
  have hR1 : rightB (flushed J.ls t half fr bs.data.toList) (headW t half fr bs.size) = true := head_right hF.1 (by rw [flushed_len]; exact hm.op.2.1)
  have HLO := Lib.hid (fun W (hb : Below w.heap.size w W) => tellOf_any (h := J.h) (u := J.u) (half := half) (fr := fr) (bs := bs) (hJ.rS.below hb) (hm.nw ▸ hJ.rW.below hb) (by obtain ⟨a, c, e⟩ := hJ.rG.slice; exact ⟨_, _, _, e⟩) (by obtain ⟨a, c, e⟩ := hJ.rR.slice; exact ⟨_, _, _, e⟩) hm.op.1 hq.lt hf hl)
  rw [← hm.hs] at HLO
  have HCR := Lib.hid (fun W vS' vW' (h1 : SRow W vS' (flushed J.ls t half fr bs.data.toList)) (h2 : WRow W vW' (headW t half fr bs.size)) => Crash_yes h1 h2 hR1 kp hkp tn)
  obtain ⟨aS, cap, rfl⟩ := hJ.rS.slice
  obtain ⟨aW, capW, rfl⟩ := hJ.rW.slice
  obtain ⟨aG, capG, rfl⟩ := hJ.rG.slice
  obtain ⟨aR, capR, rfl⟩ := hJ.rR.slice
  have HA := Lib.hid (CSt.made w (.slice aS J.ls.length cap) (.slice aW J.ws.length capW) J.s J.h J.u (.slice aG J.g.length capG) (.slice aR J.l.length capR))
  have HLL : Hid ((flushed J.ls t half fr bs.data.toList).length = J.ls.length) := flushed_len _ _ _ _ _
  clear hJ hm hp hq hf hl hsl
  unfold jv at HP HLO ⊢
  go_enter Try.func7, Try.ntmps7
  go_wp2_with fail
  refine (HP.out _ HA.out.1).mono ?_
  rintro e X ⟨rfl, hx⟩
  have HX := Lib.hid (HA.out.below (below_trans hx (al X (.cells #[.int .i64 (half : Int), .int .i64 (fr : Int), .string bs] 51))))
  obtain ⟨c0, c1, c2, c3, c4, c5, c6⟩ := HX.out.2.1.c7
  clear hx HA HP
  go_wp2_with fail
  refine (HLO.out _ HX.out.1).mono ?_
  rintro e Y ⟨vS1, vW1, rfl, hS1, hW1, hy⟩
  have HY := Lib.hid (HX.out.below (below_trans hy (al Y (.cells #[vS1, vW1] 25))))
  have HCY := Lib.hid (HCR.out _ _ _ (hS1.1.below (al Y (.cells #[vS1, vW1] 25))) (hW1.1.below (al Y (.cells #[vS1, vW1] 25))))
  obtain ⟨a1, p1, e1⟩ := hS1.1.slice
  rw [HLL.out] at e1
  subst e1
  obtain ⟨a2, p2, rfl⟩ := hW1.1.slice
  clear hS1 hW1 hy c0 c1 c2 c3 c4 c5 c6 HLO
  go_wp2_with fail
  refine HCY.out.mono ?_
  rintro e V ⟨vS2, vW2, rfl, hS2, hW2, hv⟩
  have HV := Lib.hid (HY.out.below hv)
  obtain ⟨a3, p3, e3⟩ := hS2.1.slice
  rw [crashL_len, HLL.out] at e3
  subst e3
  obtain ⟨a4, p4, rfl⟩ := hW2.1.slice
  rw [List.length_nil] at hW2 ⊢
  have hb1 := HY.out.2.2.1
  have hf1 : From (w.heap.size + 1 + 1) (.slice a3 J.ls.length p3) := hS2.2.mono hb1
  have hf2 : From (w.heap.size + 1 + 1) (.slice a4 0 p4) := hW2.2.mono hb1
  have HEND := Lib.hid (And.intro (HV.out.2.2.st2 (.slice a3 J.ls.length p3) (.slice a4 0 p4)) (And.intro ((hS2.1.stored (i := 0) (u := .slice a3 J.ls.length p3) hf1).stored (i := 1) (u := .slice a4 0 p4) hf1)
    (And.intro ((hW2.1.stored (i := 0) (u := .slice a3 J.ls.length p3) hf2).stored (i := 1) (u := .slice a4 0 p4) hf2) (below_st2 HV.out.1 (by omega : w.heap.size ≤ w.heap.size + 1) (.slice a3 J.ls.length p3) (.slice a4 0 p4)))))
  have HF1 := Lib.hid hf1
  have HF2 := Lib.hid hf2
  obtain ⟨k0, k1⟩ := HV.out.2.2.c2
  obtain ⟨k2, k3⟩ := HV.out.2.2.f2
  clear hS2 hW2 hv hf1 hf2 HCY
  go_wp2_with fail
  obtain ⟨⟨z0, z1⟩, zS, zW, zB⟩ : _ ∧ _ := ⟨HEND.out.1.c2, HEND.out.2⟩
  exact bodyPost_ret (v := .tuple #[.agg #[.slice a3 J.ls.length p3, .slice a4 0 p4], .int .i64 0]) (by simp [results, Try.results7, go_sem, z0, z1]) rfl ⟨_, _, rfl, ⟨zS, HF1.out.mono (by omega)⟩, ⟨zW, HF2.out.mono (by omega)⟩, zB⟩
end Go.Proofs.Ytndakbjmahkjdaa.Disk.Jn

/-
  Contract of Format (package journal): a journal of no records.
-/
namespace Go.Proofs.Ytndakbjmahkjdaa.Disk.Jn
open Go.ChangeShapes Go.WideShapes Go.ChangeAt Go.RowKit Go.Lib
open Go.Proofs.Ytndakbjmahkjdaa.Frame (frm frms size_list mk_list mk_size frm_le Frame_yes)

theorem own_lower {w : World} {b b' : Nat} {v : Value} {l : List ByteArray} (h : OwnS b v l w) (hb : b' ≤ b) : OwnS b' v l w := by
  obtain ⟨h1, h2 | ⟨g, cap, cur, e1, e2, rest⟩⟩ := h
  · exact ⟨h1, .inl h2⟩
  · exact ⟨h1, .inr ⟨g, cap, cur, e1, Nat.le_trans hb e2, rest⟩⟩
/-- A new disk, in a row of its own. -/
def NewE (n : Nat) (w : World) (e : Ending) (w' : World) : Prop := ∃ a cap, e = .returned (.tuple #[.agg #[.slice a n cap, .slice none 0 0], .int .i64 0]) ∧ OwnS (w.heap.size + 1) (.slice a n cap) (List.replicate n zeros) w' ∧ Below w.heap.size w w'
set_option maxHeartbeats 1000000 in
set_option maxRecDepth 100000 in
theorem New_own (n : Nat) (h1 : 1 ≤ n) (hn : n ≤ 512) (w : World) : Calls Try.prog 31 #[.int .i64 n] w (NewE n w) := by
  have h : mayB n = true := mayB_t.2 ⟨by omega, by omega⟩
  go_enter Try.func31, Try.ntmps31
  go_wp2_with (first | (go_at_call 45; refine (mayHave_any _ _).mono ?_; rintro e w' ⟨rfl, rfl⟩; rw [h]) | (go_at_call 40; refine (Repeat0_any _).mono ?_; rintro e x ⟨rfl, hx⟩))
  have hal : Below x.heap.size x (x.alloc (.cells #[.string zeros] 9)) := (Below.refl _ _).alloc (Nat.le_refl _) _
  have hc1 : (x.alloc (.cells #[.string zeros] 9)).cell? ⟨x.heap.size, 0, none⟩ = some (.string zeros) := by simp
  refine (RepeatS_any h1 hn (by simp) hc1).mono ?_
  rintro e y ⟨v, rfl, hown, hy⟩
  have hx' : Below w.heap.size w x := ((Below.refl _ _).alloc (Nat.le_refl _) _).trans (hx.mono (by simp))
  have hb1 : Below x.heap.size x y := below_trans hal hy
  have hxs : w.heap.size + 1 ≤ x.heap.size := by have := hx.size; simpa using this
  have hbx : Box2 w.heap.size (.slice none 0 0) (.slice none 0 0) y := (((Box2.made w (.slice none 0 0) (.slice none 0 0) 25).below hx).below hb1)
  have hfr : From (w.heap.size + 1) v := by
    intro g o n' cap' e
    subst e
    have := ((World.ownsRow.lt hown) g rfl).1
    simp at this
    omega
  have HE := Lib.hid (Box2.ends hbx (below_trans hx' hb1) ⟨hown.row, hfr⟩ ⟨.inl ⟨rfl, rfl⟩, from_nil _⟩)
  have HOW := Lib.hid ((OwnS.setBelow (b := w.heap.size) (i := 0) (u := v) hown (by simp; omega)).setBelow (b := w.heap.size) (i := 1) (u := .slice none 0 0) (by simp; omega))
  have hBx : w.heap.size + 1 ≤ (x.alloc (.cells #[.string zeros] 9)).heap.size := by simp; omega
  have HBX := Lib.hid hBx
  clear hBx
  obtain ⟨av, capv, rfl⟩ := hown.row.slice
  obtain ⟨b0, b1, b2, b3, b4⟩ := hbx
  clear hown hy hb1 hx' hal hc1 hfr hx
  rw [List.length_replicate] at HE HOW ⊢
  go_wp2_with fail
  obtain ⟨⟨z0, z1, z2, _⟩, z3⟩ := HE.out
  exact bodyPost_ret (v := .tuple #[.agg #[.slice av n capv, .slice none 0 0], .int .i64 0]) (by simp [results, Try.results31, go_sem, z1, z2]) rfl ⟨_, capv, rfl, own_lower HOW.out HBX.out, z3.2.2⟩

/-- The first head, and a new journal's sectors. -/
def firstT : Told := ⟨0, 1, 0⟩
def formL (n : Nat) : List ByteArray := (List.replicate n zeros).set 1 (headB firstT)
theorem formL_len (n : Nat) : (formL n).length = n := by simp [formL]
theorem form_opens {n : Nat} (h8 : 8 ≤ n) (hn : n ≤ 512) : Opens (formL n) firstT [] := by
  have hl := formL_len n
  have g1 : (formL n).getD 1 ⟨#[]⟩ = headB firstT := by
    unfold formL
    rw [List.getD, List.getElem?_set, if_pos rfl, if_pos (by simp; omega)]
    rfl
  have g0 : (formL n).getD 0 ⟨#[]⟩ = zeros := by
    unfold formL
    rw [List.getD, List.getElem?_set, if_neg (by omega), List.getElem?_replicate, if_pos (by omega)]
    rfl
  have hr : rightB (formL n) [] = true := by
    refine rightB_t.2 ⟨by omega, by omega, by simp, fun j hj => ?_, fun j hj => by simp at hj⟩
    have e : (formL n)[j] = if 1 = j then headB firstT else zeros := by simp only [formL, List.getElem_set, List.getElem_replicate]
    rw [e]
    split
    · exact headB_size _
    · exact zeros_size
  have hmay : mayP (formL n).length firstT := ⟨by simp [firstT], by simp [firstT], by simp [firstT], by simp [firstT]⟩
  refine ⟨hr, by omega, ⟨?_, ?_⟩, rfl, by simp⟩
  · show IsHead _ 1 ((formL n).getD 1 ⟨#[]⟩) firstT
    rw [g1]
    exact ⟨hmay, rfl, rfl⟩
  · intro p hp t' ht
    match p, hp with
    | 0, _ => rw [g0] at ht; exact absurd ht (head_not zeros_first t')
    | 1, _ =>
      rw [g1] at ht
      have := isHead_det (by omega) ht ⟨hmay, rfl, rfl⟩
      subst this
      exact Nat.le_refl _

set_option maxHeartbeats 2000000 in
set_option maxRecDepth 100000 in
theorem Format_yes (n : Nat) (h8 : 8 ≤ n) (hn : n ≤ 512) (w : World) : Calls Try.prog 14 #[.int .i64 n] w (JE (formL n) [] 1 0 0 [] [] 0 w) := by
  have HO := Lib.hid (fun W vS vW (h1 : SRow W vS (formL n)) (h2 : WRow W vW []) => Open_yes h1 h2 (form_opens h8 hn))
  have HPL := Lib.hid (fun W => place_any 0 1 0 1 rfl W)
  have HHO := Lib.hid (fun W => headOf_any firstT (by simp [firstT]) (by simp [firstT]) (by simp [firstT]) W)
  have HTX := Lib.hid (fun W => text_any (headL firstT) (headL_len _) W)
  have HFL := Lib.hid (formL_len n)
  have HFD : Hid (formL n = (List.replicate n zeros).set 1 (headB firstT)) := rfl
  have HZ7 := Lib.hid (Box.made w z7 27)
  have e0 : (firstT.half : Int) = 0 := rfl
  have e1 : (firstT.seals : Int) = 1 := rfl
  have e2 : (firstT.used : Int) = 0 := rfl
  have e3 : ((1 % 2 : Nat) : Int) = 1 := rfl
  rw [e0, e1, e2] at HHO
  rw [e0, e1, e2] at HO
  rw [e3] at HPL
  clear e0 e1 e2 e3
  unfold HeadB at HHO
  generalize ar (headL firstT) = A at HHO HTX
  rw [headB_text] at HTX
  generalize headB firstT = hb at HTX HFD
  go_enter Try.func14, Try.ntmps14
  go_wp2_with fail
  refine (New_own n (by omega) hn _).mono ?_
  rintro e X ⟨a, cap, rfl, hown, hx⟩
  have HX := Lib.hid (Box.below HZ7.out hx)
  have HBX := Lib.hid (below_trans (al w _) hx)
  have HBE := Lib.hid (below_trans (al X (.cells #[.slice a n cap, .slice none 0 0] 25)) (al _ (.cells #[.int .i64 0, .int .i64 1, .int .i64 0] 58)))
  have HD := Lib.hid ((Box.made X [.slice a n cap, .slice none 0 0] 25).below (al _ (.cells #[.int .i64 0, .int .i64 1, .int .i64 0] 58)))
  have HT := Lib.hid (Box.made (X.alloc (.cells #[.slice a n cap, .slice none 0 0] 25)) [.int .i64 0, .int .i64 1, .int .i64 0] 58)
  have HOW := Lib.hid hown
  clear hx hown HZ7
  go_upto_region 7 with (fail)
  obtain ⟨g, rfl, hgB, hgX, _, _⟩ := HOW.out.at (i := 1) (by simp; omega)
  simp only [World.size_alloc] at hgB
  have HOWW := Lib.hid (HOW.out.below HBE.out)
  have HXW := Lib.hid (HX.out.below HBE.out)
  have HBW := Lib.hid (below_trans HBX.out HBE.out)
  simp only [World.size_alloc] at HT
  have hw0 : w.heap.size < X.heap.size := HX.out.1
  clear HX HBX HBE HOW
  generalize ((X.alloc (.cells #[.slice (some ⟨g, 0, none⟩) n cap, .slice none 0 0] 25)).alloc (.cells #[.int .i64 0, .int .i64 1, .int .i64 0] 58)) = W at HD HT HOWW HXW HBW ⊢
  have hdb : g ≠ X.heap.size := by omega
  have htb : g ≠ X.heap.size + 1 := by omega
  have hwd : w.heap.size ≠ g := by omega
  generalize X.heap.size + 1 = tb at HT htb ⊢
  generalize hxs : X.heap.size = db at HD hdb hw0 hgX ⊢
  clear hxs
  have HSF := Lib.hid (fun W' (hb : Below W.heap.size W W') => And.intro (HD.out.below hb).c2 (HT.out.below hb).c3)
  have HBD := Lib.hid ((Below.refl W.heap.size W).drew)
  obtain ⟨b0, b1⟩ := HD.out.c2
  obtain ⟨t0, t1, t2⟩ := HT.out.c3
  have i1 : (0 : Int) ≤ (1 : Int) := by omega
  have i2 : (1 : Int) < (n : Int) := by omega
  go_region_held3 (fun w' => (w'.cell? ⟨db, 0, none⟩ = some (.slice (some ⟨g, 0, none⟩) n cap) ∧ w'.cell? ⟨db, 1, none⟩ = some (.slice none 0 0)) ∧ w'.cell? ⟨tb, 0, none⟩ = some (.int .i64 0) ∧ w'.cell? ⟨tb, 1, none⟩ = some (.int .i64 1) ∧ w'.cell? ⟨tb, 2, none⟩ = some (.int .i64 0))
    (first | with_reducible exact HSF.out _ HBD.out | with_reducible exact HSF.out _ HB1.out | with_reducible exact HSF.out _ HB2.out | with_reducible exact HSF.out _ HB3.out | with_reducible exact HSE.out | fail)
    (first
      | (go_at_call 34; (with_reducible refine (HPL.out _).mono ?_); rintro e V1 ⟨rfl, hv⟩; have HB1 := Lib.hid (below_trans HBD.out hv); clear hv)
      | (go_at_call 32; (with_reducible refine (HHO.out _).mono ?_); rintro e V2 ⟨rfl, hv⟩; have HB2 := Lib.hid (below_trans HB1.out hv); clear hv)
      | (go_at_call 33; (with_reducible refine (HTX.out _).mono ?_); rintro e V3 ⟨rfl, hv⟩; have HB3 := Lib.hid (below_trans HB2.out hv); have HO3 := Lib.hid (HOWW.out.below HB3.out); obtain ⟨g', eg, _, _, k0, k1⟩ := HO3.out.at (i := 1) (by simp; omega); cases eg; have HSE := Lib.hid (And.intro ((HD.out.below HB3.out).other (i := 1) hdb.symm (.string hb)).c2 ((HT.out.below HB3.out).other (i := 1) htb.symm (.string hb)).c3); clear hv)
      | fail)
  have HS4 := Lib.hid (HO3.out.set (i := 1) hb)
  have HD4 := Lib.hid ((HD.out.below HB3.out).other (i := 1) hdb.symm (.string hb))
  have HX4 := Lib.hid ((HXW.out.below HB3.out).other (i := 1) hwd (.string hb))
  have HB4 := Lib.hid (below_st (below_trans HBW.out HB3.out) (by omega : w.heap.size ≤ g) 1 (.string hb))
  rw [← HFD.out] at HS4
  clear b0 b1 t0 t1 t2 k0 k1 HSF HOWW HO3 HSE HXW HBW
  generalize (V3.setCell ⟨g, 1, none⟩ (.string hb)) = Y at HS4 HD4 HX4 HB4 ⊢
  obtain ⟨b0, b1⟩ := HD4.out.c2
  go_wp2_with fail
  refine (HO.out _ _ _ HS4.out.row (.inl ⟨rfl, rfl⟩)).mono ?_
  rintro e V ⟨vS5, vW5, vG5, vR5, rfl, hS5, hW5, hG5, hR5, hv⟩
  obtain ⟨a5, p5, rfl⟩ := hS5.1.slice
  obtain ⟨a6, p6, rfl⟩ := hW5.1.slice
  obtain ⟨a7, p7, rfl⟩ := hG5.1.slice
  obtain ⟨a8, p8, rfl⟩ := hR5.1.slice
  have HV := Lib.hid (HX4.out.below hv)
  have HEND := Lib.hid (je_end (k := 0) (s := 1) (h := 0) (u := 0) HB4.out (Nat.le_refl _) HX4.out.1 hv HV.out hS5 hW5 hG5 hR5)
  obtain ⟨f0, f1, f2, f3, f4, f5, f6⟩ := HV.out.f7
  obtain ⟨r0, r1, r2, r3, r4, r5, r6⟩ := HV.out.c7
  clear hS5 hW5 hG5 hR5 hv b0 b1
  unfold jv
  rw [HFL.out] at HEND ⊢
  rw [List.length_nil, List.length_nil] at HEND ⊢
  go_wp2_with fail
  obtain ⟨z0, z1, z2, z3, z4, z5, z6⟩ := HEND.out.1.c7
  exact bodyPost_ret (v := .tuple #[.agg #[.slice a5 n p5, .slice a6 0 p6, .int .i64 1, .int .i64 0, .int .i64 0, .slice a7 0 p7, .slice a8 0 p8], .int .i64 0]) (by simp [results, Try.results14, go_sem, z0, z1, z2, z3, z4, z5, z6]) rfl HEND.out.2
end Go.Proofs.Ytndakbjmahkjdaa.Disk.Jn

/-
  Contract of the law's own disk: of a disk that came in some few sectors and writes, each cut, in new rows.
-/
namespace Go.Proofs.Ytndakbjmahkjdaa.Disk.Jn
open Go.ChangeShapes Go.WideShapes Go.ChangeAt Go.RowKit Go.Lib

/-- A disk of few sectors and writes, in new rows, is returned. -/
def DkE (w : World) (e : Ending) (w' : World) : Prop :=
  ∃ uS uW ls ws, e = .returned (.agg #[uS, uW]) ∧ ls.length ≤ 30 ∧ ws.length ≤ 4 ∧ (∀ t ∈ ls, t.size ≤ 66) ∧ (∀ y ∈ ws, y.2.size ≤ 66) ∧ (SRow w' uS ls ∧ From w.heap.size uS) ∧ (WRow w' uW ws ∧ From w.heap.size uW) ∧ Below w.heap.size w w'

/-- What holds at the heads of few's two loops. -/
def Dk1 (w : World) (vS vW : Value) (n : Nat) (i : Value) (wr : World) : Prop := ∃ u l, l.length ≤ n ∧ i = .int .i64 l.length ∧ (∀ t ∈ l, t.size ≤ 66) ∧ FewB w vS vW u (.slice none 0 0) l [] wr
def Dk2 (w : World) (vS vW u : Value) (l : List ByteArray) (n : Nat) (i : Value) (wr : World) : Prop := ∃ v m, m.length ≤ n ∧ i = .int .i64 m.length ∧ (∀ y ∈ m, y.2.size ≤ 66) ∧ FewB w vS vW u v l m wr

set_option maxHeartbeats 2000000 in
set_option maxRecDepth 100000 in
theorem disk_any {vS vW : Value} {w : World} (hS : ArgS w vS) (hW : ArgW w vW) : Calls Try.prog 16 #[.agg #[vS, vW]] w (DkE w) := by
  obtain ⟨i0, hi, hz0, hz1, hz2⟩ := info_parts Try.infoS
  obtain ⟨i1, hi1, hy0, hy1, hy2⟩ := info_parts Try.infoW
  obtain ⟨aS, len, cap, rfl, hl1, hl2, HS⟩ := hS
  obtain ⟨aW, lenW, capW, rfl, hw1, hw2, HW⟩ := hW
  replace HS := Lib.hid HS
  replace HW := Lib.hid HW
  have HF := Lib.hid (FewB.made w (.slice aS len cap) (.slice aW lenW capW))
  obtain ⟨n, hn, hnl, hn20⟩ : ∃ n : Nat, min (len : Int) 30 = n ∧ n ≤ len ∧ n ≤ 30 := ⟨min len 30, by omega, by omega, by omega⟩
  go_enter Try.func16, Try.ntmps16
  go_wp2
  go_loopw [16] (fun i wr => Dk1 w (.slice aS len cap) (.slice aW lenW capW) n i wr) (fun i _ => n - (RowKit.intOf i).toNat)
  case atStart => exact ⟨_, [], Nat.zero_le _, rfl, by simp, HF.out⟩
  case round =>
    clear HF hn
    obtain ⟨u, l, hln, rfl, hall, hF⟩ := hrel
    have HF := Lib.hid hF
    have HAL := Lib.hid hall
    clear hall
    by_cases hlt : l.length < n
    · obtain ⟨b, off, rfl, hb, hcs⟩ := HS.out (by omega)
      obtain ⟨t, ht, hct⟩ := hcs l.length (by omega)
      have hce := (hF.2.2.2.2.2.cell (p := ⟨b, off + l.length, none⟩) hb).trans hct
      have hbw : b < wr.heap.size := Nat.lt_of_lt_of_le hb hF.2.2.2.2.2.size
      obtain ⟨q, hq, hqt, hq66⟩ : ∃ q : Nat, min (t.size : Int) 66 = q ∧ q ≤ t.size ∧ q ≤ 66 := ⟨min t.size 66, by omega, by omega, by omega⟩
      obtain ⟨h1, h2, ⟨o0, o1, o2, o3, o4⟩, h4, h5, h6⟩ := hF
      have HO := Lib.hid h4
      have hsz := h6.size
      have HM1 : Hid (l.length + 1 ≤ maxLen) := by unfold Hid maxLen; omega
      have HM2 : Hid ((l.length + 1) * 16 ≤ 140737488355328) := by unfold Hid; omega
      clear hcs hct h1 h2 h4 h5 h6
      go_upto_region 5 with (fail)
      have HFd := Lib.hid (HF.out.below (below_trans (al wr (.cells #[.string (t.extract 0 q)] 9)) ((Below.refl _ _).drew)))
      have HN : Hid (∀ j u, [Value.string (t.extract 0 q)][j]? = some u → (wr.alloc (.cells #[.string (t.extract 0 q)] 9)).drew.cell? ((⟨wr.heap.size, 0, none⟩ : Addr).add j) = some u) := World.news_of_block (cs := #[.string (t.extract 0 q)]) (t := 9) (fr := (0, 0)) (heap_alloc_new wr _)
      go_region_law ((refine step_append_lies _ (by rfl) _ _ _ (by rfl) (w.heap.size + 3) 9 i0 _ 1 16 Try.underlying22 hi hz0 hz1 hz2 rfl (by omega) u l.length (scells l) (by rfl) HFd.out.2.2.2.1 ⟨wr.heap.size, 0, none⟩ 1 1 [.string (t.extract 0 q)] (by rfl) (by rfl) HN.out (by simp [Value.oneCell']) (by omega) HM1.out HM2.out (by simp; omega) (wr.heap.size + 1) (by simp) ?_; intro gg capA w1 hown1 hgrow hat hltA; have HE := Lib.hid (HFd.out.snocS hgrow hown1); obtain ⟨q0, q1, q2, q3, q4⟩ := HE.out.1; clear hown1 hgrow hat))
      all_goals
        clear q0 q1 q2 q3 q4 hq
        go_wp2
        go_roundw
        case rel =>
          refine ⟨_, l ++ [t.extract 0 q], by simp; omega, by simp, ?_, HE.out.2⟩
          intro y hy
          rcases List.mem_append.1 hy with h | h
          · exact HAL.out y h
          · obtain rfl := List.mem_singleton.1 h
            rw [ByteArray.size_extract]; omega
        case measure => simp [RowKit.intOf]; omega
    · obtain ⟨⟨b0, b1, b2, b3, b4⟩, _, _, _, _, hbe⟩ := hF
      clear hbe
      obtain ⟨m0, hm, hml, hm66⟩ : ∃ n : Nat, min (lenW : Int) 4 = n ∧ n ≤ lenW ∧ n ≤ 4 := ⟨min lenW 4, by omega, by omega, by omega⟩
      go_wp2
      go_loopw [39] (fun i wr => Dk2 w (.slice aS len cap) (.slice aW lenW capW) u l m0 i wr) (fun i _ => m0 - (RowKit.intOf i).toNat)
      case atStart => exact ⟨_, [], Nat.zero_le _, rfl, by simp, HF.out⟩
      case round =>
        clear HF hm b0 b1 b2 b3 b4
        obtain ⟨v, m, hmn, rfl, hallW, hF⟩ := hrel
        have HF := Lib.hid hF
        have HALW := Lib.hid hallW
        clear hallW
        by_cases hlt2 : m.length < m0
        · obtain ⟨b, off, rfl, hb, hcs⟩ := HW.out (by omega)
          obtain ⟨ya, t, ht, hct1, hct2⟩ := hcs m.length (by omega)
          have hce1 := (hF.2.2.2.2.2.cell (p := ⟨b, off + m.length * 2, none⟩) hb).trans hct1
          have hce2 := (hF.2.2.2.2.2.cell (p := ⟨b, off + m.length * 2 + 1, none⟩) hb).trans hct2
          have hbw : b < wr.heap.size := Nat.lt_of_lt_of_le hb hF.2.2.2.2.2.size
          obtain ⟨q, hq, hqt, hq66⟩ : ∃ q : Nat, min (t.size : Int) 66 = q ∧ q ≤ t.size ∧ q ≤ 66 := ⟨min t.size 66, by omega, by omega, by omega⟩
          obtain ⟨h1, h2, ⟨o0, o1, o2, o3, o4⟩, h4, h5, h6⟩ := hF
          have hsz := h6.size
          have HM1 : Hid (m.length + 1 ≤ maxLen) := by unfold Hid maxLen; omega
          have HM2 : Hid ((m.length + 1) * 24 ≤ 140737488355328) := by unfold Hid; omega
          clear hcs hct1 hct2 h1 h2 h4 h5 h6
          have HFc := Lib.hid (HF.out.below (below_trans (al wr (.cells #[.int .i64 ya, .string (t.extract 0 q)] 75)) (al _ (.cells #[.int .i64 ya, .string (t.extract 0 q)] 75))))
          have HN : Hid (Box2 (wr.heap.size + 1) (.int .i64 ya) (.string (t.extract 0 q)) ((wr.alloc (.cells #[.int .i64 ya, .string (t.extract 0 q)] 75)).alloc (.cells #[.int .i64 ya, .string (t.extract 0 q)] 75))) := by
            have := Box2.made (wr.alloc (.cells #[.int .i64 ya, .string (t.extract 0 q)] 75)) (.int .i64 ya) (.string (t.extract 0 q)) 75
            simp only [World.size_alloc] at this
            exact this
          go_wp2_with (at_builtin; refine wpList_append_lies _ rfl _ _ 23 rfl (w.heap.size + 3) 75 i1 (.agg #[.int .i64 0, .string ⟨#[]⟩]) 2 24 Try.underlying23 hi1 hy0 hy1 hy2 rfl (by omega) v m.length (wcells m) rfl HFc.out.2.2.2.2.1 ⟨wr.heap.size + 1, 0, none⟩ 1 1 [.int .i64 ya, .string (t.extract 0 q)] rfl rfl (news2 HN.out) (by simp [Value.oneCell']) (by omega) HM1.out HM2.out (by simp; omega) (wr.heap.size + 1 + 1) (by simp) ?_; intro gg capA w1 hown1 hgrow hat hltA; have HE := Lib.hid (HFc.out.snocW hgrow hown1); obtain ⟨q0, q1, q2, q3, q4⟩ := HE.out.1; clear hown1 hgrow hat)
          go_roundw
          case rel =>
            refine ⟨_, m ++ [(ya, t.extract 0 q)], by simp; omega, by simp, ?_, HE.out.2⟩
            intro y hy
            rcases List.mem_append.1 hy with h | h
            · exact HALW.out y h
            · obtain rfl := List.mem_singleton.1 h
              show (t.extract 0 q).size ≤ 66
              rw [ByteArray.size_extract]; omega
          case measure => simp [RowKit.intOf]; omega
        · obtain ⟨h1, ⟨o0, o1, o2, o3, o4⟩, ⟨b0, b1, b2, b3, b4⟩, h4, h5, h6⟩ := hF
          have HE := Lib.hid (few_end HF.out)
          obtain ⟨au, cu, eu⟩ := h4.row.slice
          obtain ⟨av, cv, ev⟩ := h5.row.slice
          subst eu ev
          clear h1 h4 h5 h6
          go_wp2
          obtain ⟨⟨z0, z1, z2, _⟩, z3, z4, z5⟩ := HE.out
          exact bodyPost_ret (v := .agg #[.slice au l.length cu, .slice av m.length cv]) (by simp [results, Try.results16, go_sem, z1, z2]) rfl ⟨_, _, l, m, rfl, by omega, by omega, HAL.out, HALW.out, z3, z4, z5⟩
end Go.Proofs.Ytndakbjmahkjdaa.Disk.Jn
