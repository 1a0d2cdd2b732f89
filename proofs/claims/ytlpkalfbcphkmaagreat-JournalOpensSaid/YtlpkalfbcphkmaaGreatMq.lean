/-
  Joined: JWait, JCommit, JCrashW, JFormat.
-/
import Derived.Test.YtlpkalfbcphkmaaGreatMp

/-
  Contracts of waiting, instead and sealing (package journal): what Commit seals, and Compact.
-/
namespace Go.Proofs.YtlpkalfbcphkmaaGreat.Disk.Jn
open Go.ChangeShapes Go.WideShapes Go.ChangeAt Go.RowKit Go.Lib
open Go.Proofs.YtlpkalfbcphkmaaGreat.Frame (frm frms size_list mk_list mk_size frm_le Frame_yes)

/-- A part, and an error's number, are returned. -/
def PartE (h f : Int) (bs : ByteArray) (k : Int) (w : World) (e : Ending) (w' : World) : Prop := e = .returned (.tuple #[.agg #[.int .i64 h, .int .i64 f, .string bs], .int .i64 k]) ∧ Below w.heap.size w w'
/-- waiting's blocks: the journal, the result. -/
def WSt (w : World) (cs : List Value) (W : World) : Prop := Below w.heap.size w W ∧ Box w.heap.size cs W ∧ Box (w.heap.size + 1) [.int .i64 0, .int .i64 0, .string ⟨#[]⟩] W
theorem WSt.made (w : World) (vS vW : Value) (s h u : Int) (vG vR : Value) : WSt w [vS, vW, .int .i64 s, .int .i64 h, .int .i64 u, vG, vR]
    ((w.alloc (.cells #[vS, vW, .int .i64 s, .int .i64 h, .int .i64 u, vG, vR] 27)).alloc (.cells #[.int .i64 0, .int .i64 0, .string ⟨#[]⟩] 82)) := by
  have h1 := Box.made (w.alloc (.cells #[vS, vW, .int .i64 s, .int .i64 h, .int .i64 u, vG, vR] 27)) [.int .i64 0, .int .i64 0, .string ⟨#[]⟩] 82
  simp only [World.size_alloc] at h1
  exact ⟨below_trans (al _ _) (al _ _), (Box.made w [vS, vW, .int .i64 s, .int .i64 h, .int .i64 u, vG, vR] 27).below (al _ _), h1⟩
theorem WSt.below {w W W' : World} {cs : List Value} (h : WSt w cs W) (hb : Below W.heap.size W W') : WSt w cs W' := ⟨below_trans h.1 hb, h.2.1.below hb, h.2.2.below hb⟩
theorem WSt.ends {w W : World} {cs : List Value} (h : WSt w cs W) (a b c : Value) : Box (w.heap.size + 1) [a, b, c] (((W.setCell ⟨w.heap.size + 1, 0, none⟩ a).setCell ⟨w.heap.size + 1, 1, none⟩ b).setCell ⟨w.heap.size + 1, 2, none⟩ c) ∧ Below w.heap.size w (((W.setCell ⟨w.heap.size + 1, 0, none⟩ a).setCell ⟨w.heap.size + 1, 1, none⟩ b).setCell ⟨w.heap.size + 1, 2, none⟩ c) :=
  ⟨h.2.2.st3 a b c, below_st3 h.1 (by omega) a b c⟩

set_option maxHeartbeats 2000000 in
set_option maxRecDepth 100000 in
theorem waiting_no {vS vW vG vR : Value} {J : JN} {w : World} (hJ : JRow w vS vW vG vR J) (hz : JSmall J) {k : Int} (hk : (k = 1 ∧ ∀ t, ¬ May J t) ∨ (k = 7 ∧ ∃ t, May J t ∧ t.seals = 1099511627776)) : Calls Tryz.prog 47 #[jv vS vW J.s J.h J.u vG vR] w (PartE 0 0 ⟨#[]⟩ k w) := by
  have HR : Hid (∃ rb : Bool, (∀ W, Below w.heap.size w W → Calls Tryz.prog 11 #[jv vS vW J.s J.h J.u vG vR] W (BoolB rb W)) ∧ ((rb = false ∧ k = 1) ∨ (rb = true ∧ k = 7 ∧ J.s = 1099511627776))) := by
    rcases hk with ⟨rfl, h⟩ | ⟨rfl, t, h, ht⟩
    · exact ⟨false, fun W hb => Right_no (hJ.below hb) hz h, .inl ⟨rfl, rfl⟩⟩
    · exact ⟨true, fun W hb => Right_yes (hJ.below hb) h, .inr ⟨rfl, rfl, by rw [h.hs, ht]; rfl⟩⟩
  obtain ⟨rb, hrb, hc⟩ := HR.out
  have HRB := Lib.hid hrb
  obtain ⟨aS, cap, rfl⟩ := hJ.rS.slice
  obtain ⟨aW, capW, rfl⟩ := hJ.rW.slice
  obtain ⟨aG, capG, rfl⟩ := hJ.rG.slice
  obtain ⟨aR, capR, rfl⟩ := hJ.rR.slice
  have HA := Lib.hid (WSt.made w (.slice aS J.ls.length cap) (.slice aW J.ws.length capW) J.s J.h J.u (.slice aG J.g.length capG) (.slice aR J.l.length capR))
  clear hJ hz hk HR hrb
  unfold jv at HRB ⊢
  go_enter Tryz.func47, Tryz.ntmps47
  go_wp2_with fail
  refine (HRB.out _ HA.out.1).mono ?_
  rintro e X ⟨rfl, hx⟩
  have HX := Lib.hid (HA.out.below hx)
  have HZ := Lib.hid (HX.out.ends (.int .i64 0) (.int .i64 0) (.string ⟨#[]⟩))
  obtain ⟨c0, c1, c2, c3, c4, c5, c6⟩ := HX.out.2.1.c7
  obtain ⟨f0, f1, f2⟩ := HX.out.2.2.f3
  obtain ⟨r0, r1, r2⟩ := HX.out.2.2.c3
  clear hx HA HRB
  rcases hc with ⟨rfl, rfl⟩ | ⟨rfl, rfl, hs⟩
  · go_wp2_with fail
    obtain ⟨z0, z1, z2⟩ := HZ.out.1.c3
    exact bodyPost_ret (v := .tuple #[.agg #[.int .i64 0, .int .i64 0, .string ⟨#[]⟩], .int .i64 1]) (by simp [results, Tryz.results47, go_sem, z0, z1, z2]) rfl ⟨rfl, HZ.out.2⟩
  · rw [hs] at c2
    go_wp2_with fail
    obtain ⟨z0, z1, z2⟩ := HZ.out.1.c3
    exact bodyPost_ret (v := .tuple #[.agg #[.int .i64 0, .int .i64 0, .string ⟨#[]⟩], .int .i64 7]) (by simp [results, Tryz.results47, go_sem, z0, z1, z2]) rfl ⟨rfl, HZ.out.2⟩

set_option maxHeartbeats 2000000 in
set_option maxRecDepth 100000 in
theorem waiting_yes {vS vW vG vR : Value} {J : JN} {w : World} (hJ : JRow w vS vW vG vR J) {t : Told} (hm : May J t) (ht : t.seals < 1099511627776) : Calls Tryz.prog 47 #[jv vS vW J.s J.h J.u vG vR] w (PartE t.half t.used ⟨(frms J.g).toArray⟩ 0 w) := by
  have hwt := wait_zero.1 hm.wt
  have HRB := Lib.hid (fun W (hb : Below w.heap.size w W) => Right_yes (hJ.below hb) hm)
  have HFR := Lib.hid (fun W (hb : Below w.heap.size w W) => frames_any (hJ.rG.below hb) (by omega) (fun d hd => by have := hwt.1 d hd; omega))
  obtain ⟨aS, cap, rfl⟩ := hJ.rS.slice
  obtain ⟨aW, capW, rfl⟩ := hJ.rW.slice
  obtain ⟨aG, capG, rfl⟩ := hJ.rG.slice
  obtain ⟨aR, capR, rfl⟩ := hJ.rR.slice
  have HA := Lib.hid (WSt.made w (.slice aS J.ls.length cap) (.slice aW J.ws.length capW) J.s J.h J.u (.slice aG J.g.length capG) (.slice aR J.l.length capR))
  have hs : ((J.s : Int) == 1099511627776) = false := by rw [hm.hs]; simp; omega
  have HH := Lib.hid hm.hh
  have HU := Lib.hid hm.hu
  clear hJ hm hwt
  unfold jv at HRB ⊢
  go_enter Tryz.func47, Tryz.ntmps47
  go_wp2_with fail
  refine (HRB.out _ HA.out.1).mono ?_
  rintro e X ⟨rfl, hx⟩
  have HX := Lib.hid (HA.out.below hx)
  obtain ⟨c0, c1, c2, c3, c4, c5, c6⟩ := HX.out.2.1.c7
  clear hx HA HRB
  go_upto_region 5 with (fail)
  obtain ⟨f, hfe⟩ : ∃ f : ByteArray, (⟨(frms J.g).toArray⟩ : ByteArray) = f := ⟨_, rfl⟩
  rw [hfe] at HFR
  have HFE := Lib.hid hfe
  clear hfe
  have HSF := Lib.hid (fun W' (hb : Below X.heap.size X W') => (HX.out.2.1.below hb).c7)
  have HBD := Lib.hid ((Below.refl X.heap.size X).drew)
  have HXD := Lib.hid (below_trans HX.out.1 HBD.out)
  go_region_held3 (fun w' => w'.cell? ⟨w.heap.size, 0, none⟩ = some (.slice aS J.ls.length cap) ∧ w'.cell? ⟨w.heap.size, 1, none⟩ = some (.slice aW J.ws.length capW) ∧ w'.cell? ⟨w.heap.size, 2, none⟩ = some (.int .i64 J.s) ∧ w'.cell? ⟨w.heap.size, 3, none⟩ = some (.int .i64 J.h) ∧ w'.cell? ⟨w.heap.size, 4, none⟩ = some (.int .i64 J.u) ∧ w'.cell? ⟨w.heap.size, 5, none⟩ = some (.slice aG J.g.length capG) ∧ w'.cell? ⟨w.heap.size, 6, none⟩ = some (.slice aR J.l.length capR))
    (first | with_reducible exact HSF.out _ HBD.out | with_reducible exact HSF.out _ HB1.out | with_reducible exact HSE.out | fail)
    (first
      | (go_at_call 72; (with_reducible refine (HFR.out _ HXD.out).mono ?_); rintro e Y ⟨rfl, hy⟩; have HB1 := Lib.hid (below_trans HBD.out hy); have HY := Lib.hid (HX.out.below HB1.out); obtain ⟨f0, f1, f2⟩ := HY.out.2.2.f3; obtain ⟨r0, r1, r2⟩ := HY.out.2.2.c3; have HSE := Lib.hid (((HY.out.2.1.other (i := 0) (g := w.heap.size + 1) (by omega) (.int .i64 J.h)).other (i := 1) (g := w.heap.size + 1) (by omega) (.int .i64 J.u)).other (i := 2) (g := w.heap.size + 1) (by omega) (.string f)).c7; clear hy)
      | fail)
  have HZ := Lib.hid (HY.out.ends (.int .i64 J.h) (.int .i64 J.u) (.string f))
  clear f0 f1 f2 r0 r1 r2 c0 c1 c2 c3 c4 c5 c6
  go_wp2_with fail
  obtain ⟨z0, z1, z2⟩ := HZ.out.1.c3
  exact bodyPost_ret (v := .tuple #[.agg #[.int .i64 J.h, .int .i64 J.u, .string f], .int .i64 0]) (by simp [results, Tryz.results47, go_sem, z0, z1, z2]) rfl ⟨by rw [HH.out, HU.out, HFE.out], HZ.out.2⟩
/-- What tells why one may not stand for all, or what is sealed then. -/
def insteadE (n s : Nat) (d : ByteArray) : Int := if 3000 < d.size then 3 else if roomN n < (frm d).length then 7 else if s = 1099511627776 then 7 else 0

set_option maxHeartbeats 2000000 in
set_option maxRecDepth 100000 in
theorem instead_bad {vS vW vG vR : Value} {J : JN} {w : World} (hJ : JRow w vS vW vG vR J) (hz : JSmall J) (hno : ∀ t, ¬ May J t) (d : ByteArray) : Calls Tryz.prog 49 #[jv vS vW J.s J.h J.u vG vR, .string d] w (PartE 0 0 ⟨#[]⟩ 1 w) := by
  have HRB := Lib.hid (fun W (hb : Below w.heap.size w W) => Right_no (hJ.below hb) hz hno)
  obtain ⟨aS, cap, rfl⟩ := hJ.rS.slice
  obtain ⟨aW, capW, rfl⟩ := hJ.rW.slice
  obtain ⟨aG, capG, rfl⟩ := hJ.rG.slice
  obtain ⟨aR, capR, rfl⟩ := hJ.rR.slice
  have HA := Lib.hid (WSt.made w (.slice aS J.ls.length cap) (.slice aW J.ws.length capW) J.s J.h J.u (.slice aG J.g.length capG) (.slice aR J.l.length capR))
  clear hJ hz hno
  unfold jv at HRB ⊢
  go_enter Tryz.func49, Tryz.ntmps49
  go_wp2_with fail
  refine (HRB.out _ HA.out.1).mono ?_
  rintro e X ⟨rfl, hx⟩
  have HX := Lib.hid (HA.out.below hx)
  have HZ := Lib.hid (HX.out.ends (.int .i64 0) (.int .i64 0) (.string ⟨#[]⟩))
  obtain ⟨f0, f1, f2⟩ := HX.out.2.2.f3
  obtain ⟨r0, r1, r2⟩ := HX.out.2.2.c3
  clear hx HA HRB
  go_wp2_with fail
  obtain ⟨z0, z1, z2⟩ := HZ.out.1.c3
  exact bodyPost_ret (v := .tuple #[.agg #[.int .i64 0, .int .i64 0, .string ⟨#[]⟩], .int .i64 1]) (by simp [results, Tryz.results49, go_sem, z0, z1, z2]) rfl ⟨rfl, HZ.out.2⟩

/-- What Compact seals, or why it does not. -/
def InsE (t : Told) (d : ByteArray) (k : Int) (w : World) (e : Ending) (w' : World) : Prop := (k = 0 → PartE (1 - (t.half : Int)) 0 ⟨(frm d).toArray⟩ 0 w e w') ∧ (k ≠ 0 → PartE 0 0 ⟨#[]⟩ k w e w')

set_option maxHeartbeats 2000000 in
set_option maxRecDepth 100000 in
theorem instead_any {vS vW vG vR : Value} {J : JN} {w : World} (hJ : JRow w vS vW vG vR J) {t : Told} (hm : May J t) (d : ByteArray) (hd : d.size ≤ 1000000) : Calls Tryz.prog 49 #[jv vS vW J.s J.h J.u vG vR, .string d] w (InsE t d (insteadE J.ls.length t.seals d) w) := by
  have h8 := hm.op.2.1
  have hn : J.ls.length ≤ 1000 := by have := opens_len hm.op; omega
  have HRB := Lib.hid (fun W (hb : Below w.heap.size w W) => Right_yes (hJ.below hb) hm)
  obtain ⟨aS, cap, rfl⟩ := hJ.rS.slice
  obtain ⟨aW, capW, rfl⟩ := hJ.rW.slice
  obtain ⟨aG, capG, rfl⟩ := hJ.rG.slice
  obtain ⟨aR, capR, rfl⟩ := hJ.rR.slice
  have HA := Lib.hid (WSt.made w (.slice aS J.ls.length cap) (.slice aW J.ws.length capW) J.s J.h J.u (.slice aG J.g.length capG) (.slice aR J.l.length capR))
  have HRM := Lib.hid (fun W => room_any aS J.ls.length cap (.slice aW J.ws.length capW) W (by omega) hn)
  have HS := Lib.hid hm.hs
  have HH := Lib.hid hm.hh
  have hse := (opens_may hm.op).2.2.1
  have hh1 := (opens_may hm.op).1
  clear hJ hm
  unfold jv at HRB ⊢
  by_cases h3 : 3000 < d.size
  case pos =>
    have HE : Hid (insteadE J.ls.length t.seals d = 3) := if_pos h3
    go_enter Tryz.func49, Tryz.ntmps49
    go_wp2_with fail
    refine (HRB.out _ HA.out.1).mono ?_
    rintro e X ⟨rfl, hx⟩
    have HX := Lib.hid (HA.out.below hx)
    have HZ := Lib.hid (HX.out.ends (.int .i64 0) (.int .i64 0) (.string ⟨#[]⟩))
    obtain ⟨f0, f1, f2⟩ := HX.out.2.2.f3
    obtain ⟨r0, r1, r2⟩ := HX.out.2.2.c3
    clear hx HA HRB
    go_wp2_with fail
    obtain ⟨z0, z1, z2⟩ := HZ.out.1.c3
    exact bodyPost_ret (v := .tuple #[.agg #[.int .i64 0, .int .i64 0, .string ⟨#[]⟩], .int .i64 3]) (by simp [results, Tryz.results49, go_sem, z0, z1, z2]) rfl (by rw [HE.out]; exact ⟨fun h => absurd h (by decide), fun _ => ⟨rfl, HZ.out.2⟩⟩)
  have hfl := frm_le d (by omega)
  obtain ⟨f, hfe⟩ : ∃ f : ByteArray, (⟨(frm d).toArray⟩ : ByteArray) = f := ⟨_, rfl⟩
  have HFR := Lib.hid (fun W => hfe ▸ Frame_yes d W (by omega))
  have hfs : f.size = (frm d).length := by rw [← hfe, mk_size]
  have hfm : f.size ≤ 100000 := by omega
  have HE : Hid (insteadE J.ls.length t.seals d = if roomN J.ls.length < f.size then 7 else if t.seals = 1099511627776 then 7 else 0) := by unfold Hid insteadE; rw [if_neg h3, hfs]
  have HFE := Lib.hid hfe
  obtain ⟨R, hR⟩ : ∃ R, roomN J.ls.length = R := ⟨_, rfl⟩
  rw [hR] at HE HRM
  clear hfe hfl hfs hR
  go_enter Tryz.func49, Tryz.ntmps49
  go_wp2_with fail
  refine (HRB.out _ HA.out.1).mono ?_
  rintro e X ⟨rfl, hx⟩
  have HX := Lib.hid (HA.out.below hx)
  clear hx HA HRB
  go_wp2_with fail
  refine (HFR.out _).mono ?_
  rintro e Y ⟨rfl, hy⟩
  have HY := Lib.hid (HX.out.below hy)
  clear hy HX HFR
  obtain ⟨c0, c1, c2, c3, c4, c5, c6⟩ := HY.out.2.1.c7
  go_wp2_with fail
  refine (HRM.out _).mono ?_
  rintro e Z ⟨rfl, hz⟩
  have HZZ := Lib.hid (HY.out.below hz)
  clear hz HY HRM c0 c1 c2 c3 c4 c5 c6
  obtain ⟨c0, c1, c2, c3, c4, c5, c6⟩ := HZZ.out.2.1.c7
  obtain ⟨f0, f1, f2⟩ := HZZ.out.2.2.f3
  obtain ⟨r0, r1, r2⟩ := HZZ.out.2.2.c3
  have HZ := Lib.hid (HZZ.out.ends (.int .i64 0) (.int .i64 0) (.string ⟨#[]⟩))
  rw [HS.out] at c2
  rw [HH.out] at c3
  by_cases hr : R < f.size
  · have HE7 : Hid (insteadE J.ls.length t.seals d = 7) := by unfold Hid; rw [HE.out, if_pos hr]
    go_wp2_with fail
    obtain ⟨z0, z1, z2⟩ := HZ.out.1.c3
    exact bodyPost_ret (v := .tuple #[.agg #[.int .i64 0, .int .i64 0, .string ⟨#[]⟩], .int .i64 7]) (by simp [results, Tryz.results49, go_sem, z0, z1, z2]) rfl (by rw [HE7.out]; exact ⟨fun h => absurd h (by decide), fun _ => ⟨rfl, HZ.out.2⟩⟩)
  by_cases hs : t.seals = 1099511627776
  · have HE7 : Hid (insteadE J.ls.length t.seals d = 7) := by unfold Hid; rw [HE.out, if_neg hr, if_pos hs]
    have hs' : ((t.seals : Int) == 1099511627776) = true := by rw [hs]; rfl
    clear hs
    go_wp2_with fail
    obtain ⟨z0, z1, z2⟩ := HZ.out.1.c3
    exact bodyPost_ret (v := .tuple #[.agg #[.int .i64 0, .int .i64 0, .string ⟨#[]⟩], .int .i64 7]) (by simp [results, Tryz.results49, go_sem, z0, z1, z2]) rfl (by rw [HE7.out]; exact ⟨fun h => absurd h (by decide), fun _ => ⟨rfl, HZ.out.2⟩⟩)
  · have HE0 : Hid (insteadE J.ls.length t.seals d = 0) := by unfold Hid; rw [HE.out, if_neg hr, if_neg hs]
    have hs' : ((t.seals : Int) == 1099511627776) = false := by simp; omega
    have HZ1 := Lib.hid (HZZ.out.ends (.int .i64 (1 - (t.half : Int))) (.int .i64 0) (.string f))
    clear hs HZ
    go_wp2_with fail
    obtain ⟨z0, z1, z2⟩ := HZ1.out.1.c3
    exact bodyPost_ret (v := .tuple #[.agg #[.int .i64 (1 - (t.half : Int)), .int .i64 0, .string f], .int .i64 0]) (by simp [results, Tryz.results49, go_sem, z0, z1, z2]) rfl (by rw [HE0.out, ← HFE.out]; exact ⟨fun _ => ⟨rfl, HFE.out ▸ HZ1.out.2⟩, fun h => absurd rfl h⟩)
end Go.Proofs.YtlpkalfbcphkmaaGreat.Disk.Jn

/-
  Contracts of Commit and Compact (package journal).
-/
namespace Go.Proofs.YtlpkalfbcphkmaaGreat.Disk.Jn
open Go.ChangeShapes Go.WideShapes Go.ChangeAt Go.RowKit Go.Lib
open Go.Proofs.YtlpkalfbcphkmaaGreat.Frame (frm frms size_list mk_list mk_size frm_le Frame_yes)

set_option maxHeartbeats 2000000 in
set_option maxRecDepth 100000 in
theorem Commit_no {vS vW vG vR : Value} {J : JN} {w : World} (hJ : JRow w vS vW vG vR J)  {k : Int} (hk : k ≠ 0) (hp : ∀ W, Below w.heap.size w W → Calls Tryz.prog 47 #[jv vS vW J.s J.h J.u vG vR] W (PartE 0 0 ⟨#[]⟩ k W)) : Calls Tryz.prog 17 #[jv vS vW J.s J.h J.u vG vR] w (JE [] [] 0 0 0 [] [] k w) := by
  have HP := Lib.hid hp
  obtain ⟨aS, cap, rfl⟩ := hJ.rS.slice
  obtain ⟨aW, capW, rfl⟩ := hJ.rW.slice
  obtain ⟨aG, capG, rfl⟩ := hJ.rG.slice
  obtain ⟨aR, capR, rfl⟩ := hJ.rR.slice
  have HA := Lib.hid (ASt.made w (.slice aS J.ls.length cap) (.slice aW J.ws.length capW) J.s J.h J.u (.slice aG J.g.length capG) (.slice aR J.l.length capR))
  have hne : (k != 0) = true := by simpa using hk
  clear hJ hk hp
  unfold jv at HP ⊢
  go_enter Tryz.func17, Tryz.ntmps17
  go_wp2_with fail
  refine (HP.out _ HA.out.1).mono ?_
  rintro e X ⟨rfl, hx⟩
  have HX := Lib.hid (HA.out.below (below_trans hx (al X (.cells #[.int .i64 0, .int .i64 0, .string ⟨#[]⟩] 82))))
  have HZ := Lib.hid HX.out.zero
  obtain ⟨f0, f1, f2, f3, f4, f5, f6⟩ := HX.out.2.2.f7
  obtain ⟨r0, r1, r2, r3, r4, r5, r6⟩ := HX.out.2.2.c7
  clear hx HA HP
  go_wp2_with fail
  obtain ⟨z0, z1, z2, z3, z4, z5, z6⟩ := HZ.out.1.c7
  exact bodyPost_ret (v := .tuple #[.agg #[.slice none 0 0, .slice none 0 0, .int .i64 0, .int .i64 0, .int .i64 0, .slice none 0 0, .slice none 0 0], .int .i64 k]) (by simp [results, Tryz.results17, go_sem, z0, z1, z2, z3, z4, z5, z6]) rfl (je_zero HZ.out.2)

set_option maxHeartbeats 2000000 in
set_option maxRecDepth 100000 in
theorem Commit_go {vS vW vG vR : Value} {J : JN} {w : World} (hJ : JRow w vS vW vG vR J)  {t : Told} (hm : May J t) {half fr : Nat} {bs : ByteArray} {l' : List ByteArray} (hq : Seals J.ls t half fr bs.data.toList l') (hp : ∀ W, Below w.heap.size w W → Calls Tryz.prog 47 #[jv vS vW J.s J.h J.u vG vR] W (PartE half fr bs 0 W)) :
    Calls Tryz.prog 17 #[jv vS vW J.s J.h J.u vG vR] w (JE (sealedL J.ls t half fr bs.data.toList) [] ((t.seals : Int) + 1) half ((fr : Int) + bs.size) [] l' 0 w) := by
  have HP := Lib.hid hp
  have hLS : (sealedL J.ls t half fr bs.data.toList).length = J.ls.length := by unfold sealedL; rw [flush_len, flushed_len]
  have HSL := Lib.hid (fun W (hb : Below w.heap.size w W) => seal_any (h := J.h) (u := J.u) (hJ.rS.below hb) (hm.nw ▸ hJ.rW.below hb) (by obtain ⟨a, c, e⟩ := hJ.rG.slice; exact ⟨_, _, _, e⟩) (by obtain ⟨a, c, e⟩ := hJ.rR.slice; exact ⟨_, _, _, e⟩) hm.op hq)
  obtain ⟨aS, cap, rfl⟩ := hJ.rS.slice
  obtain ⟨aW, capW, rfl⟩ := hJ.rW.slice
  obtain ⟨aG, capG, rfl⟩ := hJ.rG.slice
  obtain ⟨aR, capR, rfl⟩ := hJ.rR.slice
  have HA := Lib.hid (ASt.made w (.slice aS J.ls.length cap) (.slice aW J.ws.length capW) J.s J.h J.u (.slice aG J.g.length capG) (.slice aR J.l.length capR))
  rw [← hm.hs] at HSL
  have HS := Lib.hid hm.hs
  have HLS := Lib.hid hLS
  clear hJ hm hp hq hLS
  unfold jv at HP HSL ⊢
  go_enter Tryz.func17, Tryz.ntmps17
  go_wp2_with fail
  refine (HP.out _ HA.out.1).mono ?_
  rintro e X ⟨rfl, hx⟩
  have HX := Lib.hid (HA.out.below (below_trans hx (al X (.cells #[.int .i64 (half : Int), .int .i64 (fr : Int), .string bs] 82))))
  obtain ⟨c0, c1, c2, c3, c4, c5, c6⟩ := HX.out.2.1.c7
  clear hx HA HP
  go_wp2_with fail
  refine (HSL.out _ HX.out.1).mono ?_
  rintro e V ⟨vS5, vW5, vG5, vR5, rfl, hS5, hW5, hG5, hR5, hv⟩
  obtain ⟨a5, p5, rfl⟩ := hS5.1.slice
  obtain ⟨a6, p6, rfl⟩ := hW5.1.slice
  obtain ⟨a7, p7, rfl⟩ := hG5.1.slice
  obtain ⟨a8, p8, rfl⟩ := hR5.1.slice
  have HV := Lib.hid (HX.out.below hv)
  have HEND := Lib.hid (je_end (k := 0) (s := J.s + 1) (h := half) (u := (fr : Int) + bs.size) HX.out.1 (by omega : w.heap.size ≤ w.heap.size + 1) HX.out.2.2.1 hv HV.out.2.2 hS5 hW5 hG5 hR5)
  obtain ⟨f0, f1, f2, f3, f4, f5, f6⟩ := HV.out.2.2.f7
  obtain ⟨r0, r1, r2, r3, r4, r5, r6⟩ := HV.out.2.2.c7
  clear hS5 hW5 hG5 hR5 hv c0 c1 c2 c3 c4 c5 c6
  unfold jv
  rw [HLS.out] at HEND ⊢
  rw [List.length_nil, List.length_nil] at HEND ⊢
  go_wp2_with fail
  obtain ⟨z0, z1, z2, z3, z4, z5, z6⟩ := HEND.out.1.c7
  exact bodyPost_ret (v := .tuple #[.agg #[.slice a5 J.ls.length p5, .slice a6 0 p6, .int .i64 (J.s + 1), .int .i64 (half : Int), .int .i64 ((fr : Int) + (bs.size : Int)), .slice a7 0 p7, .slice a8 l'.length p8], .int .i64 0]) (by simp [results, Tryz.results17, go_sem, z0, z1, z2, z3, z4, z5, z6]) rfl (by rw [← HS.out]; exact HEND.out.2)

set_option maxHeartbeats 2000000 in
set_option maxRecDepth 100000 in
theorem Compact_no {vS vW vG vR : Value} {J : JN} {w : World} (hJ : JRow w vS vW vG vR J) (d : ByteArray) {k : Int} (hk : k ≠ 0) (hp : ∀ W, Below w.heap.size w W → Calls Tryz.prog 49 #[jv vS vW J.s J.h J.u vG vR, .string d] W (PartE 0 0 ⟨#[]⟩ k W)) : Calls Tryz.prog 18 #[jv vS vW J.s J.h J.u vG vR, .string d] w (JE [] [] 0 0 0 [] [] k w) := by
  have HP := Lib.hid hp
  obtain ⟨aS, cap, rfl⟩ := hJ.rS.slice
  obtain ⟨aW, capW, rfl⟩ := hJ.rW.slice
  obtain ⟨aG, capG, rfl⟩ := hJ.rG.slice
  obtain ⟨aR, capR, rfl⟩ := hJ.rR.slice
  have HA := Lib.hid (ASt.made w (.slice aS J.ls.length cap) (.slice aW J.ws.length capW) J.s J.h J.u (.slice aG J.g.length capG) (.slice aR J.l.length capR))
  have hne : (k != 0) = true := by simpa using hk
  clear hJ hk hp
  unfold jv at HP ⊢
  go_enter Tryz.func18, Tryz.ntmps18
  go_wp2_with fail
  refine (HP.out _ HA.out.1).mono ?_
  rintro e X ⟨rfl, hx⟩
  have HX := Lib.hid (HA.out.below (below_trans hx (al X (.cells #[.int .i64 0, .int .i64 0, .string ⟨#[]⟩] 82))))
  have HZ := Lib.hid HX.out.zero
  obtain ⟨f0, f1, f2, f3, f4, f5, f6⟩ := HX.out.2.2.f7
  obtain ⟨r0, r1, r2, r3, r4, r5, r6⟩ := HX.out.2.2.c7
  clear hx HA HP
  go_wp2_with fail
  obtain ⟨z0, z1, z2, z3, z4, z5, z6⟩ := HZ.out.1.c7
  exact bodyPost_ret (v := .tuple #[.agg #[.slice none 0 0, .slice none 0 0, .int .i64 0, .int .i64 0, .int .i64 0, .slice none 0 0, .slice none 0 0], .int .i64 k]) (by simp [results, Tryz.results18, go_sem, z0, z1, z2, z3, z4, z5, z6]) rfl (je_zero HZ.out.2)

set_option maxHeartbeats 2000000 in
set_option maxRecDepth 100000 in
theorem Compact_go {vS vW vG vR : Value} {J : JN} {w : World} (hJ : JRow w vS vW vG vR J) (d : ByteArray) {t : Told} (hm : May J t) {half fr : Nat} {bs : ByteArray} {l' : List ByteArray} (hq : Seals J.ls t half fr bs.data.toList l') (hp : ∀ W, Below w.heap.size w W → Calls Tryz.prog 49 #[jv vS vW J.s J.h J.u vG vR, .string d] W (PartE half fr bs 0 W)) :
    Calls Tryz.prog 18 #[jv vS vW J.s J.h J.u vG vR, .string d] w (JE (sealedL J.ls t half fr bs.data.toList) [] ((t.seals : Int) + 1) half ((fr : Int) + bs.size) [] l' 0 w) := by
  have HP := Lib.hid hp
  have hLS : (sealedL J.ls t half fr bs.data.toList).length = J.ls.length := by unfold sealedL; rw [flush_len, flushed_len]
  have HSL := Lib.hid (fun W (hb : Below w.heap.size w W) => seal_any (h := J.h) (u := J.u) (hJ.rS.below hb) (hm.nw ▸ hJ.rW.below hb) (by obtain ⟨a, c, e⟩ := hJ.rG.slice; exact ⟨_, _, _, e⟩) (by obtain ⟨a, c, e⟩ := hJ.rR.slice; exact ⟨_, _, _, e⟩) hm.op hq)
  obtain ⟨aS, cap, rfl⟩ := hJ.rS.slice
  obtain ⟨aW, capW, rfl⟩ := hJ.rW.slice
  obtain ⟨aG, capG, rfl⟩ := hJ.rG.slice
  obtain ⟨aR, capR, rfl⟩ := hJ.rR.slice
  have HA := Lib.hid (ASt.made w (.slice aS J.ls.length cap) (.slice aW J.ws.length capW) J.s J.h J.u (.slice aG J.g.length capG) (.slice aR J.l.length capR))
  rw [← hm.hs] at HSL
  have HS := Lib.hid hm.hs
  have HLS := Lib.hid hLS
  clear hJ hm hp hq hLS
  unfold jv at HP HSL ⊢
  go_enter Tryz.func18, Tryz.ntmps18
  go_wp2_with fail
  refine (HP.out _ HA.out.1).mono ?_
  rintro e X ⟨rfl, hx⟩
  have HX := Lib.hid (HA.out.below (below_trans hx (al X (.cells #[.int .i64 (half : Int), .int .i64 (fr : Int), .string bs] 82))))
  obtain ⟨c0, c1, c2, c3, c4, c5, c6⟩ := HX.out.2.1.c7
  clear hx HA HP
  go_wp2_with fail
  refine (HSL.out _ HX.out.1).mono ?_
  rintro e V ⟨vS5, vW5, vG5, vR5, rfl, hS5, hW5, hG5, hR5, hv⟩
  obtain ⟨a5, p5, rfl⟩ := hS5.1.slice
  obtain ⟨a6, p6, rfl⟩ := hW5.1.slice
  obtain ⟨a7, p7, rfl⟩ := hG5.1.slice
  obtain ⟨a8, p8, rfl⟩ := hR5.1.slice
  have HV := Lib.hid (HX.out.below hv)
  have HEND := Lib.hid (je_end (k := 0) (s := J.s + 1) (h := half) (u := (fr : Int) + bs.size) HX.out.1 (by omega : w.heap.size ≤ w.heap.size + 1) HX.out.2.2.1 hv HV.out.2.2 hS5 hW5 hG5 hR5)
  obtain ⟨f0, f1, f2, f3, f4, f5, f6⟩ := HV.out.2.2.f7
  obtain ⟨r0, r1, r2, r3, r4, r5, r6⟩ := HV.out.2.2.c7
  clear hS5 hW5 hG5 hR5 hv c0 c1 c2 c3 c4 c5 c6
  unfold jv
  rw [HLS.out] at HEND ⊢
  rw [List.length_nil, List.length_nil] at HEND ⊢
  go_wp2_with fail
  obtain ⟨z0, z1, z2, z3, z4, z5, z6⟩ := HEND.out.1.c7
  exact bodyPost_ret (v := .tuple #[.agg #[.slice a5 J.ls.length p5, .slice a6 0 p6, .int .i64 (J.s + 1), .int .i64 (half : Int), .int .i64 ((fr : Int) + (bs.size : Int)), .slice a7 0 p7, .slice a8 l'.length p8], .int .i64 0]) (by simp [results, Tryz.results18, go_sem, z0, z1, z2, z3, z4, z5, z6]) rfl (by rw [← HS.out]; exact HEND.out.2)

/-- What comes of Commit. -/
def CommitE (J : JN) (t : Told) (w : World) (e : Ending) (w' : World) : Prop :=
  (t.seals = 1099511627776 → JE [] [] 0 0 0 [] [] 7 w e w') ∧
  (t.seals < 1099511627776 → JE (sealedL J.ls t t.half t.used (frms J.g)) [] ((t.seals : Int) + 1) t.half ((t.used : Int) + (frms J.g).length) [] (J.l ++ J.g) 0 w e w')
theorem may_commit {J : JN} {t : Told} (h : May J t) (ht : t.seals < 1099511627776) : Seals J.ls t t.half t.used (frms J.g) (J.l ++ J.g) := by
  have hw := wait_zero.1 h.wt
  exact commit_seals h.op (fun d hd => by have := hw.1 d hd; omega) hw.2.2.1 hw.2.2.2 ht
theorem Commit_bad {vS vW vG vR : Value} {J : JN} {w : World} (hJ : JRow w vS vW vG vR J) (hz : JSmall J) (hno : ∀ t, ¬ May J t) : Calls Tryz.prog 17 #[jv vS vW J.s J.h J.u vG vR] w (JE [] [] 0 0 0 [] [] 1 w) :=
  Commit_no hJ (by decide) fun _ hb => waiting_no (hJ.below hb) hz (.inl ⟨rfl, hno⟩)
theorem Commit_any {vS vW vG vR : Value} {J : JN} {w : World} (hJ : JRow w vS vW vG vR J) {t : Told} (hm : May J t) : Calls Tryz.prog 17 #[jv vS vW J.s J.h J.u vG vR] w (CommitE J t w) := by
  have hse := (opens_may hm.op).2.2.1
  by_cases ht : t.seals < 1099511627776
  · have hq := may_commit hm ht
    have := Commit_go hJ hm (half := t.half) (fr := t.used) (bs := ⟨(frms J.g).toArray⟩) (by rw [mk_list]; exact hq) (fun _ hb => waiting_yes (hJ.below hb) hm ht)
    rw [mk_list, mk_size] at this
    exact this.mono fun _ _ h => ⟨fun e => by omega, fun _ => h⟩
  · have hs : t.seals = 1099511627776 := by omega
    exact (Commit_no (k := 7) hJ (by decide) fun _ hb => waiting_no (hJ.below hb) (may_small hm) (.inr ⟨rfl, t, hm, hs⟩)).mono fun _ _ h => ⟨fun _ => h, fun e => absurd e ht⟩
/-- What comes of Compact. -/
def CompactE (J : JN) (t : Told) (d : ByteArray) (k : Int) (w : World) (e : Ending) (w' : World) : Prop :=
  (k ≠ 0 → JE [] [] 0 0 0 [] [] k w e w') ∧
  (k = 0 → JE (sealedL J.ls t (1 - t.half) 0 (frm d)) [] ((t.seals : Int) + 1) (1 - (t.half : Int)) ((frm d).length : Int) [] [d] 0 w e w')
theorem ins_zero {n s : Nat} {d : ByteArray} : insteadE n s d = 0 ↔ d.size ≤ 3000 ∧ (frm d).length ≤ roomN n ∧ s ≠ 1099511627776 := by
  unfold insteadE
  by_cases h1 : 3000 < d.size
  · rw [if_pos h1]; exact ⟨fun h => absurd h (by decide), fun h => by omega⟩
  rw [if_neg h1]
  by_cases h2 : roomN n < (frm d).length
  · rw [if_pos h2]; exact ⟨fun h => absurd h (by decide), fun h => by omega⟩
  rw [if_neg h2]
  by_cases h3 : s = 1099511627776
  · rw [if_pos h3]; exact ⟨fun h => absurd h (by decide), fun h => by omega⟩
  rw [if_neg h3]
  exact ⟨fun _ => ⟨by omega, by omega, h3⟩, fun _ => rfl⟩
theorem may_compact {J : JN} {t : Told} (h : May J t) {d : ByteArray} (hd : insteadE J.ls.length t.seals d = 0) : Seals J.ls t (1 - t.half) 0 (frm d) [d] := by
  have h1 := ins_zero.1 hd
  have h2 := (opens_may h.op).2.2.1
  exact compact_seals h.op h1.1 h1.2.1 (by omega)
theorem Compact_bad {vS vW vG vR : Value} {J : JN} {w : World} (hJ : JRow w vS vW vG vR J) (hz : JSmall J) (hno : ∀ t, ¬ May J t) (d : ByteArray) : Calls Tryz.prog 18 #[jv vS vW J.s J.h J.u vG vR, .string d] w (JE [] [] 0 0 0 [] [] 1 w) :=
  Compact_no hJ d (by decide) fun _ hb => instead_bad (hJ.below hb) hz hno d
theorem half_cast {t : Told} (h : t.half ≤ 1) : ((1 - t.half : Nat) : Int) = 1 - (t.half : Int) := by omega
theorem Compact_any {vS vW vG vR : Value} {J : JN} {w : World} (hJ : JRow w vS vW vG vR J) {t : Told} (hm : May J t) (d : ByteArray) (hd : d.size ≤ 1000000) : Calls Tryz.prog 18 #[jv vS vW J.s J.h J.u vG vR, .string d] w (CompactE J t d (insteadE J.ls.length t.seals d) w) := by
  have hh := (opens_may hm.op).1
  by_cases hk : insteadE J.ls.length t.seals d = 0
  · have := Compact_go hJ d hm (half := 1 - t.half) (fr := 0) (bs := ⟨(frm d).toArray⟩) (by rw [mk_list]; exact may_compact hm hk) (fun _ hb => (instead_any (hJ.below hb) hm d hd).mono fun _ _ h => by rw [half_cast hh]; exact h.1 hk)
    rw [mk_list, mk_size, half_cast hh, show (((0 : Nat) : Int) + ((frm d).length : Int)) = ((frm d).length : Int) by omega] at this
    exact this.mono fun _ _ h => ⟨fun e => absurd hk e, fun _ => h⟩
  · exact (Compact_no hJ d hk fun _ hb => (instead_any (hJ.below hb) hm d hd).mono fun _ _ h => h.2 hk).mono fun _ _ h => ⟨fun _ => h, fun e => absurd e hk⟩
end Go.Proofs.YtlpkalfbcphkmaaGreat.Disk.Jn

/-
  Contracts of sealing and Crash (package journal): the disk behind a crash within Commit or Compact.
-/
namespace Go.Proofs.YtlpkalfbcphkmaaGreat.Disk.Jn
open Go.ChangeShapes Go.WideShapes Go.ChangeAt Go.RowKit Go.Lib
open Go.Proofs.YtlpkalfbcphkmaaGreat.Frame (frm frms size_list mk_list mk_size frm_le Frame_yes)

set_option maxHeartbeats 2000000 in
set_option maxRecDepth 100000 in
theorem sealing_none {vS vW vG vR : Value} {J : JN} {w : World} (hJ : JRow w vS vW vG vR J)  {a b k : Int} {bs : ByteArray} (hp : ∀ W, Below w.heap.size w W → Calls Tryz.prog 47 #[jv vS vW J.s J.h J.u vG vR] W (PartE a b bs k W)) : Calls Tryz.prog 54 #[jv vS vW J.s J.h J.u vG vR, .string ⟨#[]⟩] w (PartE a b bs k w) := by
  have HP := Lib.hid hp
  obtain ⟨aS, cap, rfl⟩ := hJ.rS.slice
  obtain ⟨aW, capW, rfl⟩ := hJ.rW.slice
  obtain ⟨aG, capG, rfl⟩ := hJ.rG.slice
  obtain ⟨aR, capR, rfl⟩ := hJ.rR.slice
  have HA := Lib.hid (WSt.made w (.slice aS J.ls.length cap) (.slice aW J.ws.length capW) J.s J.h J.u (.slice aG J.g.length capG) (.slice aR J.l.length capR))
  clear hJ hp
  unfold jv at HP ⊢
  go_enter Tryz.func54, Tryz.ntmps54
  go_wp2_with fail
  refine (HP.out _ HA.out.1).mono ?_
  rintro e X ⟨rfl, hx⟩
  have HX := Lib.hid (HA.out.below hx)
  have HZ := Lib.hid (HX.out.ends (.int .i64 a) (.int .i64 b) (.string bs))
  obtain ⟨f0, f1, f2⟩ := HX.out.2.2.f3
  obtain ⟨r0, r1, r2⟩ := HX.out.2.2.c3
  clear hx HA HP
  go_wp2_with fail
  obtain ⟨z0, z1, z2⟩ := HZ.out.1.c3
  exact bodyPost_ret (v := .tuple #[.agg #[.int .i64 a, .int .i64 b, .string bs], .int .i64 k]) (by simp [results, Tryz.results54, go_sem, z0, z1, z2]) rfl ⟨rfl, HZ.out.2⟩

set_option maxHeartbeats 2000000 in
set_option maxRecDepth 100000 in
theorem sealing_some {vS vW vG vR : Value} {J : JN} {w : World} (hJ : JRow w vS vW vG vR J) (d : ByteArray) (hd : d.size ≠ 0) {a b k : Int} {bs : ByteArray} (hp : ∀ W, Below w.heap.size w W → Calls Tryz.prog 49 #[jv vS vW J.s J.h J.u vG vR, .string d] W (PartE a b bs k W)) : Calls Tryz.prog 54 #[jv vS vW J.s J.h J.u vG vR, .string d] w (PartE a b bs k w) := by
  have HP := Lib.hid hp
  obtain ⟨aS, cap, rfl⟩ := hJ.rS.slice
  obtain ⟨aW, capW, rfl⟩ := hJ.rW.slice
  obtain ⟨aG, capG, rfl⟩ := hJ.rG.slice
  obtain ⟨aR, capR, rfl⟩ := hJ.rR.slice
  have HA := Lib.hid (WSt.made w (.slice aS J.ls.length cap) (.slice aW J.ws.length capW) J.s J.h J.u (.slice aG J.g.length capG) (.slice aR J.l.length capR))
  clear hJ hp
  unfold jv at HP ⊢
  have hE1 : ¬ d.toList = [] := not_nil hd
  have hE2 : d.toList.isEmpty = false := by simpa using hE1
  go_enter Tryz.func54, Tryz.ntmps54
  go_wp2_with fail
  refine (HP.out _ HA.out.1).mono ?_
  rintro e X ⟨rfl, hx⟩
  have HX := Lib.hid (HA.out.below hx)
  have HZ := Lib.hid (HX.out.ends (.int .i64 a) (.int .i64 b) (.string bs))
  obtain ⟨f0, f1, f2⟩ := HX.out.2.2.f3
  obtain ⟨r0, r1, r2⟩ := HX.out.2.2.c3
  clear hx HA HP
  go_wp2_with fail
  obtain ⟨z0, z1, z2⟩ := HZ.out.1.c3
  exact bodyPost_ret (v := .tuple #[.agg #[.int .i64 a, .int .i64 b, .string bs], .int .i64 k]) (by simp [results, Tryz.results54, go_sem, z0, z1, z2]) rfl ⟨rfl, HZ.out.2⟩

/-- Crash's blocks: the journal, the result. -/
def CSt (w : World) (cs : List Value) (W : World) : Prop := Below w.heap.size w W ∧ Box w.heap.size cs W ∧ Box (w.heap.size + 1) [.slice none 0 0, .slice none 0 0] W
theorem CSt.made (w : World) (vS vW : Value) (s h u : Int) (vG vR : Value) : CSt w [vS, vW, .int .i64 s, .int .i64 h, .int .i64 u, vG, vR]
    ((w.alloc (.cells #[vS, vW, .int .i64 s, .int .i64 h, .int .i64 u, vG, vR] 27)).alloc (.cells #[.slice none 0 0, .slice none 0 0] 25)) := by
  have h1 := Box.made (w.alloc (.cells #[vS, vW, .int .i64 s, .int .i64 h, .int .i64 u, vG, vR] 27)) [.slice none 0 0, .slice none 0 0] 25
  simp only [World.size_alloc] at h1
  exact ⟨below_trans (al _ _) (al _ _), (Box.made w [vS, vW, .int .i64 s, .int .i64 h, .int .i64 u, vG, vR] 27).below (al _ _), h1⟩
theorem CSt.below {w W W' : World} {cs : List Value} (h : CSt w cs W) (hb : Below W.heap.size W W') : CSt w cs W' := ⟨below_trans h.1 hb, h.2.1.below hb, h.2.2.below hb⟩

set_option maxHeartbeats 2000000 in
set_option maxRecDepth 100000 in
theorem Crash_no {vS vW vG vR : Value} {J : JN} {w : World} (hJ : JRow w vS vW vG vR J) (d : ByteArray) {k : Int} (hk : k ≠ 0) (hp : ∀ W, Below w.heap.size w W → Calls Tryz.prog 54 #[jv vS vW J.s J.h J.u vG vR, .string d] W (PartE 0 0 ⟨#[]⟩ k W)) (late : Bool) (kp : Nat) (tn : Int) :
    Calls Tryz.prog 24 #[jv vS vW J.s J.h J.u vG vR, .string d, .bool late, .int .u64 kp, .int .i64 tn] w (DiskE [] [] k w) := by
  have HP := Lib.hid hp
  obtain ⟨aS, cap, rfl⟩ := hJ.rS.slice
  obtain ⟨aW, capW, rfl⟩ := hJ.rW.slice
  obtain ⟨aG, capG, rfl⟩ := hJ.rG.slice
  obtain ⟨aR, capR, rfl⟩ := hJ.rR.slice
  have HA := Lib.hid (CSt.made w (.slice aS J.ls.length cap) (.slice aW J.ws.length capW) J.s J.h J.u (.slice aG J.g.length capG) (.slice aR J.l.length capR))
  have hne : (k != 0) = true := by simpa using hk
  clear hJ hk hp
  unfold jv at HP ⊢
  go_enter Tryz.func24, Tryz.ntmps24
  go_wp2_with fail
  refine (HP.out _ HA.out.1).mono ?_
  rintro e X ⟨rfl, hx⟩
  have HX := Lib.hid (HA.out.below (below_trans hx (al X (.cells #[.int .i64 0, .int .i64 0, .string ⟨#[]⟩] 82))))
  have HZ := Lib.hid (And.intro (HX.out.2.2.st2 (.slice none 0 0) (.slice none 0 0)) (below_st2 HX.out.1 (by omega : w.heap.size ≤ w.heap.size + 1) (.slice none 0 0) (.slice none 0 0)))
  obtain ⟨k0, k1⟩ := HX.out.2.2.c2
  obtain ⟨k2, k3⟩ := HX.out.2.2.f2
  clear hx HA HP
  go_wp2_with fail
  obtain ⟨⟨z0, z1⟩, zB⟩ : _ ∧ _ := ⟨HZ.out.1.c2, HZ.out.2⟩
  exact bodyPost_ret (v := .tuple #[.agg #[.slice none 0 0, .slice none 0 0], .int .i64 k]) (by simp [results, Tryz.results24, go_sem, z0, z1]) rfl ⟨_, _, rfl, ⟨.inl ⟨rfl, rfl⟩, from_nil _⟩, ⟨.inl ⟨rfl, rfl⟩, from_nil _⟩, zB⟩

set_option maxHeartbeats 4000000 in
set_option maxRecDepth 100000 in
theorem Crash_early {vS vW vG vR : Value} {J : JN} {w : World} (hJ : JRow w vS vW vG vR J) (d : ByteArray) {t : Told} (hm : May J t) {half fr : Nat} {bs : ByteArray} {l' : List ByteArray} (hq : Seals J.ls t half fr bs.data.toList l')
    (hp : ∀ W, Below w.heap.size w W → Calls Tryz.prog 54 #[jv vS vW J.s J.h J.u vG vR, .string d] W (PartE half fr bs 0 W)) (kp : Nat) (hkp : kp < 18446744073709551616) (tn : Int) :
    Calls Tryz.prog 24 #[jv vS vW J.s J.h J.u vG vR, .string d, .bool false, .int .u64 kp, .int .i64 tn] w (DiskE (crashL kp J.ls (firstW J.ls ((t.seals + 1) % 2) half fr bs.data.toList) tn) [] 0 w) := by
  have HP := Lib.hid hp
  have hsl : bs.data.toList.length = bs.size := size_list bs
  have hf := hq.fits
  have hl := hq.short
  rw [hsl] at hf hl
  have hR1 := first_right (q := (t.seals + 1) % 2) hm.op.1 hq.fits hq.short (by omega)
  have hse := (opens_may hm.op).2.2.1
  have HLO := Lib.hid (fun W (hb : Below w.heap.size w W) => layOut_any (s := t.seals) (h := J.h) (u := J.u) (half := half) (fr := fr) (bs := bs) (hJ.rS.below hb) (hm.nw ▸ hJ.rW.below hb) (by obtain ⟨a, c, e⟩ := hJ.rG.slice; exact ⟨_, _, _, e⟩) (by obtain ⟨a, c, e⟩ := hJ.rR.slice; exact ⟨_, _, _, e⟩) hm.op.1 hse hf hl)
  rw [← hm.hs] at HLO
  have HCR := Lib.hid (fun W vS' vW' (h1 : SRow W vS' J.ls) (h2 : WRow W vW' (firstW J.ls ((t.seals + 1) % 2) half fr bs.data.toList)) => Crash_yes h1 h2 hR1 kp hkp tn)
  obtain ⟨aS, cap, rfl⟩ := hJ.rS.slice
  obtain ⟨aW, capW, rfl⟩ := hJ.rW.slice
  obtain ⟨aG, capG, rfl⟩ := hJ.rG.slice
  obtain ⟨aR, capR, rfl⟩ := hJ.rR.slice
  have HA := Lib.hid (CSt.made w (.slice aS J.ls.length cap) (.slice aW J.ws.length capW) J.s J.h J.u (.slice aG J.g.length capG) (.slice aR J.l.length capR))
  clear hJ hm hp hq hf hl hsl
  unfold jv at HP HLO ⊢
  go_enter Tryz.func24, Tryz.ntmps24
  go_wp2_with fail
  refine (HP.out _ HA.out.1).mono ?_
  rintro e X ⟨rfl, hx⟩
  have HX := Lib.hid (HA.out.below (below_trans hx (al X (.cells #[.int .i64 (half : Int), .int .i64 (fr : Int), .string bs] 82))))
  obtain ⟨c0, c1, c2, c3, c4, c5, c6⟩ := HX.out.2.1.c7
  clear hx HA HP
  go_wp2_with fail
  refine (HLO.out _ HX.out.1).mono ?_
  rintro e Y ⟨vS1, vW1, rfl, hS1, hW1, hy⟩
  have HY := Lib.hid (HX.out.below (below_trans hy (al Y (.cells #[vS1, vW1] 25))))
  have HCY := Lib.hid (HCR.out _ _ _ (hS1.1.below (al Y (.cells #[vS1, vW1] 25))) (hW1.1.below (al Y (.cells #[vS1, vW1] 25))))
  obtain ⟨a1, p1, e1⟩ := hS1.1.slice
  subst e1
  obtain ⟨a2, p2, rfl⟩ := hW1.1.slice
  clear hS1 hW1 hy c0 c1 c2 c3 c4 c5 c6 HLO
  go_wp2_with fail
  refine HCY.out.mono ?_
  rintro e V ⟨vS2, vW2, rfl, hS2, hW2, hv⟩
  have HV := Lib.hid (HY.out.below hv)
  obtain ⟨a3, p3, e3⟩ := hS2.1.slice
  rw [crashL_len] at e3
  subst e3
  obtain ⟨a4, p4, rfl⟩ := hW2.1.slice
  rw [List.length_nil] at hW2 ⊢
  have hb1 := HY.out.2.2.1
  have hf1 : From (w.heap.size + 1 + 1) (.slice a3 J.ls.length p3) := hS2.2.mono hb1
  have hf2 : From (w.heap.size + 1 + 1) (.slice a4 0 p4) := hW2.2.mono hb1
  have HEND := Lib.hid (And.intro (HV.out.2.2.st2 (.slice a3 J.ls.length p3) (.slice a4 0 p4)) (And.intro ((hS2.1.stored (i := 0) (u := .slice a3 J.ls.length p3) hf1).stored (i := 1) (u := .slice a4 0 p4) hf1)
    (And.intro ((hW2.1.stored (i := 0) (u := .slice a3 J.ls.length p3) hf2).stored (i := 1) (u := .slice a4 0 p4) hf2) (below_st2 HV.out.1 (by omega : w.heap.size ≤ w.heap.size + 1) (.slice a3 J.ls.length p3) (.slice a4 0 p4)))))
  have HF1 := Lib.hid hf1
  have HF2 := Lib.hid hf2
  obtain ⟨k0, k1⟩ := HV.out.2.2.c2
  obtain ⟨k2, k3⟩ := HV.out.2.2.f2
  clear hS2 hW2 hv hf1 hf2 HCY
  go_wp2_with fail
  obtain ⟨⟨z0, z1⟩, zS, zW, zB⟩ : _ ∧ _ := ⟨HEND.out.1.c2, HEND.out.2⟩
  exact bodyPost_ret (v := .tuple #[.agg #[.slice a3 J.ls.length p3, .slice a4 0 p4], .int .i64 0]) (by simp [results, Tryz.results24, go_sem, z0, z1]) rfl ⟨_, _, rfl, ⟨zS, HF1.out.mono (by omega)⟩, ⟨zW, HF2.out.mono (by omega)⟩, zB⟩

set_option maxHeartbeats 4000000 in
set_option maxRecDepth 100000 in
theorem Crash_late {vS vW vG vR : Value} {J : JN} {w : World} (hJ : JRow w vS vW vG vR J) (d : ByteArray) {t : Told} (hm : May J t) {half fr : Nat} {bs : ByteArray} {l' : List ByteArray} (hq : Seals J.ls t half fr bs.data.toList l')
    (hp : ∀ W, Below w.heap.size w W → Calls Tryz.prog 54 #[jv vS vW J.s J.h J.u vG vR, .string d] W (PartE half fr bs 0 W)) (kp : Nat) (hkp : kp < 18446744073709551616) (tn : Int) :
    Calls Tryz.prog 24 #[jv vS vW J.s J.h J.u vG vR, .string d, .bool true, .int .u64 kp, .int .i64 tn] w (DiskE (crashL kp (flushed J.ls t half fr bs.data.toList) (headW t half fr bs.size) tn) [] 0 w) := by
  have HP := Lib.hid hp
  have hsl : bs.data.toList.length = bs.size := size_list bs
  have hf := hq.fits
  have hl := hq.short
  rw [hsl] at hf hl
  have hF := flushed_opens hm.op hq
  have hR1 : rightB (flushed J.ls t half fr bs.data.toList) (headW t half fr bs.size) = true := head_right hF.1 (by rw [flushed_len]; exact hm.op.2.1)
  have HLO := Lib.hid (fun W (hb : Below w.heap.size w W) => tellOf_any (h := J.h) (u := J.u) (half := half) (fr := fr) (bs := bs) (hJ.rS.below hb) (hm.nw ▸ hJ.rW.below hb) (by obtain ⟨a, c, e⟩ := hJ.rG.slice; exact ⟨_, _, _, e⟩) (by obtain ⟨a, c, e⟩ := hJ.rR.slice; exact ⟨_, _, _, e⟩) hm.op.1 hq.lt hf hl)
  rw [← hm.hs] at HLO
  have HCR := Lib.hid (fun W vS' vW' (h1 : SRow W vS' (flushed J.ls t half fr bs.data.toList)) (h2 : WRow W vW' (headW t half fr bs.size)) => Crash_yes h1 h2 hR1 kp hkp tn)
  obtain ⟨aS, cap, rfl⟩ := hJ.rS.slice
  obtain ⟨aW, capW, rfl⟩ := hJ.rW.slice
  obtain ⟨aG, capG, rfl⟩ := hJ.rG.slice
  obtain ⟨aR, capR, rfl⟩ := hJ.rR.slice
  have HA := Lib.hid (CSt.made w (.slice aS J.ls.length cap) (.slice aW J.ws.length capW) J.s J.h J.u (.slice aG J.g.length capG) (.slice aR J.l.length capR))
  have HLL : Hid ((flushed J.ls t half fr bs.data.toList).length = J.ls.length) := flushed_len _ _ _ _ _
  clear hJ hm hp hq hf hl hsl
  unfold jv at HP HLO ⊢
  go_enter Tryz.func24, Tryz.ntmps24
  go_wp2_with fail
  refine (HP.out _ HA.out.1).mono ?_
  rintro e X ⟨rfl, hx⟩
  have HX := Lib.hid (HA.out.below (below_trans hx (al X (.cells #[.int .i64 (half : Int), .int .i64 (fr : Int), .string bs] 82))))
  obtain ⟨c0, c1, c2, c3, c4, c5, c6⟩ := HX.out.2.1.c7
  clear hx HA HP
  go_wp2_with fail
  refine (HLO.out _ HX.out.1).mono ?_
  rintro e Y ⟨vS1, vW1, rfl, hS1, hW1, hy⟩
  have HY := Lib.hid (HX.out.below (below_trans hy (al Y (.cells #[vS1, vW1] 25))))
  have HCY := Lib.hid (HCR.out _ _ _ (hS1.1.below (al Y (.cells #[vS1, vW1] 25))) (hW1.1.below (al Y (.cells #[vS1, vW1] 25))))
  obtain ⟨a1, p1, e1⟩ := hS1.1.slice
  rw [HLL.out] at e1
  subst e1
  obtain ⟨a2, p2, rfl⟩ := hW1.1.slice
  clear hS1 hW1 hy c0 c1 c2 c3 c4 c5 c6 HLO
  go_wp2_with fail
  refine HCY.out.mono ?_
  rintro e V ⟨vS2, vW2, rfl, hS2, hW2, hv⟩
  have HV := Lib.hid (HY.out.below hv)
  obtain ⟨a3, p3, e3⟩ := hS2.1.slice
  rw [crashL_len, HLL.out] at e3
  subst e3
  obtain ⟨a4, p4, rfl⟩ := hW2.1.slice
  rw [List.length_nil] at hW2 ⊢
  have hb1 := HY.out.2.2.1
  have hf1 : From (w.heap.size + 1 + 1) (.slice a3 J.ls.length p3) := hS2.2.mono hb1
  have hf2 : From (w.heap.size + 1 + 1) (.slice a4 0 p4) := hW2.2.mono hb1
  have HEND := Lib.hid (And.intro (HV.out.2.2.st2 (.slice a3 J.ls.length p3) (.slice a4 0 p4)) (And.intro ((hS2.1.stored (i := 0) (u := .slice a3 J.ls.length p3) hf1).stored (i := 1) (u := .slice a4 0 p4) hf1)
    (And.intro ((hW2.1.stored (i := 0) (u := .slice a3 J.ls.length p3) hf2).stored (i := 1) (u := .slice a4 0 p4) hf2) (below_st2 HV.out.1 (by omega : w.heap.size ≤ w.heap.size + 1) (.slice a3 J.ls.length p3) (.slice a4 0 p4)))))
  have HF1 := Lib.hid hf1
  have HF2 := Lib.hid hf2
  obtain ⟨k0, k1⟩ := HV.out.2.2.c2
  obtain ⟨k2, k3⟩ := HV.out.2.2.f2
  clear hS2 hW2 hv hf1 hf2 HCY
  go_wp2_with fail
  obtain ⟨⟨z0, z1⟩, zS, zW, zB⟩ : _ ∧ _ := ⟨HEND.out.1.c2, HEND.out.2⟩
  exact bodyPost_ret (v := .tuple #[.agg #[.slice a3 J.ls.length p3, .slice a4 0 p4], .int .i64 0]) (by simp [results, Tryz.results24, go_sem, z0, z1]) rfl ⟨_, _, rfl, ⟨zS, HF1.out.mono (by omega)⟩, ⟨zW, HF2.out.mono (by omega)⟩, zB⟩
end Go.Proofs.YtlpkalfbcphkmaaGreat.Disk.Jn

/-
  Contract of Format (package journal): a journal of no records.
-/
namespace Go.Proofs.YtlpkalfbcphkmaaGreat.Disk.Jn
open Go.ChangeShapes Go.WideShapes Go.ChangeAt Go.RowKit Go.Lib
open Go.Proofs.YtlpkalfbcphkmaaGreat.Frame (frm frms size_list mk_list mk_size frm_le Frame_yes)

theorem own_lower {w : World} {b b' : Nat} {v : Value} {l : List ByteArray} (h : OwnS b v l w) (hb : b' ≤ b) : OwnS b' v l w := by
  obtain ⟨h1, h2 | ⟨g, cap, cur, e1, e2, rest⟩⟩ := h
  · exact ⟨h1, .inl h2⟩
  · exact ⟨h1, .inr ⟨g, cap, cur, e1, Nat.le_trans hb e2, rest⟩⟩
/-- A new disk, in a row of its own. -/
def NewE (n : Nat) (w : World) (e : Ending) (w' : World) : Prop := ∃ a cap, e = .returned (.tuple #[.agg #[.slice a n cap, .slice none 0 0], .int .i64 0]) ∧ OwnS (w.heap.size + 1) (.slice a n cap) (List.replicate n zeros) w' ∧ Below w.heap.size w w'
set_option maxHeartbeats 1000000 in
set_option maxRecDepth 100000 in
theorem New_own (n : Nat) (h1 : 1 ≤ n) (hn : n ≤ 512) (w : World) : Calls Tryz.prog 42 #[.int .i64 n] w (NewE n w) := by
  have h : mayB n = true := mayB_t.2 ⟨by omega, by omega⟩
  go_enter Tryz.func42, Tryz.ntmps42
  go_wp2_with (first | (go_at_call 62; refine (mayHave_any _ _).mono ?_; rintro e w' ⟨rfl, rfl⟩; rw [h]) | (go_at_call 74; refine (Repeat0_any _).mono ?_; rintro e x ⟨rfl, hx⟩))
  have hal : Below x.heap.size x (x.alloc (.cells #[.string zeros] 9)) := (Below.refl _ _).alloc (Nat.le_refl _) _
  have hc1 : (x.alloc (.cells #[.string zeros] 9)).cell? ⟨x.heap.size, 0, none⟩ = some (.string zeros) := by simp
  refine (RepeatS_any h1 hn (by simp) hc1).mono ?_
  rintro e y ⟨v, rfl, hown, hy⟩
  have hx' : Below w.heap.size w x := ((Below.refl _ _).alloc (Nat.le_refl _) _).trans (hx.mono (by simp))
  have hb1 : Below x.heap.size x y := below_trans hal hy
  have hxs : w.heap.size + 1 ≤ x.heap.size := by have := hx.size; simpa using this
  have hbx : Box2 w.heap.size (.slice none 0 0) (.slice none 0 0) y := (((Box2.made w (.slice none 0 0) (.slice none 0 0) 25).below hx).below hb1)
  have hfr : From (w.heap.size + 1) v := by
    intro g o n' cap' e
    subst e
    have := ((World.ownsRow.lt hown) g rfl).1
    simp at this
    omega
  have HE := Lib.hid (Box2.ends hbx (below_trans hx' hb1) ⟨hown.row, hfr⟩ ⟨.inl ⟨rfl, rfl⟩, from_nil _⟩)
  have HOW := Lib.hid ((OwnS.setBelow (b := w.heap.size) (i := 0) (u := v) hown (by simp; omega)).setBelow (b := w.heap.size) (i := 1) (u := .slice none 0 0) (by simp; omega))
  have hBx : w.heap.size + 1 ≤ (x.alloc (.cells #[.string zeros] 9)).heap.size := by simp; omega
  have HBX := Lib.hid hBx
  clear hBx
  obtain ⟨av, capv, rfl⟩ := hown.row.slice
  obtain ⟨b0, b1, b2, b3, b4⟩ := hbx
  clear hown hy hb1 hx' hal hc1 hfr hx
  rw [List.length_replicate] at HE HOW ⊢
  go_wp2_with fail
  obtain ⟨⟨z0, z1, z2, _⟩, z3⟩ := HE.out
  exact bodyPost_ret (v := .tuple #[.agg #[.slice av n capv, .slice none 0 0], .int .i64 0]) (by simp [results, Tryz.results42, go_sem, z1, z2]) rfl ⟨_, capv, rfl, own_lower HOW.out HBX.out, z3.2.2⟩

/-- The first head, and a new journal's sectors. -/
def firstT : Told := ⟨0, 1, 0⟩
def formL (n : Nat) : List ByteArray := (List.replicate n zeros).set 1 (headB firstT)
theorem formL_len (n : Nat) : (formL n).length = n := by simp [formL]
theorem form_opens {n : Nat} (h8 : 8 ≤ n) (hn : n ≤ 512) : Opens (formL n) firstT [] := by
  have hl := formL_len n
  have g1 : (formL n).getD 1 ⟨#[]⟩ = headB firstT := by
    unfold formL
    rw [List.getD, List.getElem?_set, if_pos rfl, if_pos (by simp; omega)]
    rfl
  have g0 : (formL n).getD 0 ⟨#[]⟩ = zeros := by
    unfold formL
    rw [List.getD, List.getElem?_set, if_neg (by omega), List.getElem?_replicate, if_pos (by omega)]
    rfl
  have hr : rightB (formL n) [] = true := by
    refine rightB_t.2 ⟨by omega, by omega, by simp, fun j hj => ?_, fun j hj => by simp at hj⟩
    have e : (formL n)[j] = if 1 = j then headB firstT else zeros := by simp only [formL, List.getElem_set, List.getElem_replicate]
    rw [e]
    split
    · exact headB_size _
    · exact zeros_size
  have hmay : mayP (formL n).length firstT := ⟨by simp [firstT], by simp [firstT], by simp [firstT], by simp [firstT]⟩
  refine ⟨hr, by omega, ⟨?_, ?_⟩, rfl, by simp⟩
  · show IsHead _ 1 ((formL n).getD 1 ⟨#[]⟩) firstT
    rw [g1]
    exact ⟨hmay, rfl, rfl⟩
  · intro p hp t' ht
    match p, hp with
    | 0, _ => rw [g0] at ht; exact absurd ht (head_not zeros_first t')
    | 1, _ =>
      rw [g1] at ht
      have := isHead_det (by omega) ht ⟨hmay, rfl, rfl⟩
      subst this
      exact Nat.le_refl _

set_option maxHeartbeats 2000000 in
set_option maxRecDepth 100000 in
theorem Format_yes (n : Nat) (h8 : 8 ≤ n) (hn : n ≤ 512) (w : World) : Calls Tryz.prog 14 #[.int .i64 n] w (JE (formL n) [] 1 0 0 [] [] 0 w) := by
  have HO := Lib.hid (fun W vS vW (h1 : SRow W vS (formL n)) (h2 : WRow W vW []) => Open_yes h1 h2 (form_opens h8 hn))
  have HPL := Lib.hid (fun W => place_any 0 1 0 1 rfl W)
  have HHO := Lib.hid (fun W => headOf_any firstT (by simp [firstT]) (by simp [firstT]) (by simp [firstT]) W)
  have HTX := Lib.hid (fun W => text_any (headL firstT) (headL_len _) W)
  have HFL := Lib.hid (formL_len n)
  have HFD : Hid (formL n = (List.replicate n zeros).set 1 (headB firstT)) := rfl
  have HZ7 := Lib.hid (Box.made w z7 27)
  have e0 : (firstT.half : Int) = 0 := rfl
  have e1 : (firstT.seals : Int) = 1 := rfl
  have e2 : (firstT.used : Int) = 0 := rfl
  have e3 : ((1 % 2 : Nat) : Int) = 1 := rfl
  rw [e0, e1, e2] at HHO
  rw [e0, e1, e2] at HO
  rw [e3] at HPL
  clear e0 e1 e2 e3
  unfold HeadB at HHO
  generalize ar (headL firstT) = A at HHO HTX
  rw [headB_text] at HTX
  generalize headB firstT = hb at HTX HFD
  go_enter Tryz.func14, Tryz.ntmps14
  go_wp2_with fail
  refine (New_own n (by omega) hn _).mono ?_
  rintro e X ⟨a, cap, rfl, hown, hx⟩
  have HX := Lib.hid (Box.below HZ7.out hx)
  have HBX := Lib.hid (below_trans (al w _) hx)
  have HBE := Lib.hid (below_trans (al X (.cells #[.slice a n cap, .slice none 0 0] 25)) (al _ (.cells #[.int .i64 0, .int .i64 1, .int .i64 0] 63)))
  have HD := Lib.hid ((Box.made X [.slice a n cap, .slice none 0 0] 25).below (al _ (.cells #[.int .i64 0, .int .i64 1, .int .i64 0] 63)))
  have HT := Lib.hid (Box.made (X.alloc (.cells #[.slice a n cap, .slice none 0 0] 25)) [.int .i64 0, .int .i64 1, .int .i64 0] 63)
  have HOW := Lib.hid hown
  clear hx hown HZ7
  go_upto_region 7 with (fail)
  obtain ⟨g, rfl, hgB, hgX, _, _⟩ := HOW.out.at (i := 1) (by simp; omega)
  simp only [World.size_alloc] at hgB
  have HOWW := Lib.hid (HOW.out.below HBE.out)
  have HXW := Lib.hid (HX.out.below HBE.out)
  have HBW := Lib.hid (below_trans HBX.out HBE.out)
  simp only [World.size_alloc] at HT
  have hw0 : w.heap.size < X.heap.size := HX.out.1
  clear HX HBX HBE HOW
  generalize ((X.alloc (.cells #[.slice (some ⟨g, 0, none⟩) n cap, .slice none 0 0] 25)).alloc (.cells #[.int .i64 0, .int .i64 1, .int .i64 0] 63)) = W at HD HT HOWW HXW HBW ⊢
  have hdb : g ≠ X.heap.size := by omega
  have htb : g ≠ X.heap.size + 1 := by omega
  have hwd : w.heap.size ≠ g := by omega
  generalize X.heap.size + 1 = tb at HT htb ⊢
  generalize hxs : X.heap.size = db at HD hdb hw0 hgX ⊢
  clear hxs
  have HSF := Lib.hid (fun W' (hb : Below W.heap.size W W') => And.intro (HD.out.below hb).c2 (HT.out.below hb).c3)
  have HBD := Lib.hid ((Below.refl W.heap.size W).drew)
  obtain ⟨b0, b1⟩ := HD.out.c2
  obtain ⟨t0, t1, t2⟩ := HT.out.c3
  have i1 : (0 : Int) ≤ (1 : Int) := by omega
  have i2 : (1 : Int) < (n : Int) := by omega
  go_region_held3 (fun w' => (w'.cell? ⟨db, 0, none⟩ = some (.slice (some ⟨g, 0, none⟩) n cap) ∧ w'.cell? ⟨db, 1, none⟩ = some (.slice none 0 0)) ∧ w'.cell? ⟨tb, 0, none⟩ = some (.int .i64 0) ∧ w'.cell? ⟨tb, 1, none⟩ = some (.int .i64 1) ∧ w'.cell? ⟨tb, 2, none⟩ = some (.int .i64 0))
    (first | with_reducible exact HSF.out _ HBD.out | with_reducible exact HSF.out _ HB1.out | with_reducible exact HSF.out _ HB2.out | with_reducible exact HSF.out _ HB3.out | with_reducible exact HSE.out | fail)
    (first
      | (go_at_call 45; (with_reducible refine (HPL.out _).mono ?_); rintro e V1 ⟨rfl, hv⟩; have HB1 := Lib.hid (below_trans HBD.out hv); clear hv)
      | (go_at_call 43; (with_reducible refine (HHO.out _).mono ?_); rintro e V2 ⟨rfl, hv⟩; have HB2 := Lib.hid (below_trans HB1.out hv); clear hv)
      | (go_at_call 44; (with_reducible refine (HTX.out _).mono ?_); rintro e V3 ⟨rfl, hv⟩; have HB3 := Lib.hid (below_trans HB2.out hv); have HO3 := Lib.hid (HOWW.out.below HB3.out); obtain ⟨g', eg, _, _, k0, k1⟩ := HO3.out.at (i := 1) (by simp; omega); cases eg; have HSE := Lib.hid (And.intro ((HD.out.below HB3.out).other (i := 1) hdb.symm (.string hb)).c2 ((HT.out.below HB3.out).other (i := 1) htb.symm (.string hb)).c3); clear hv)
      | fail)
  have HS4 := Lib.hid (HO3.out.set (i := 1) hb)
  have HD4 := Lib.hid ((HD.out.below HB3.out).other (i := 1) hdb.symm (.string hb))
  have HX4 := Lib.hid ((HXW.out.below HB3.out).other (i := 1) hwd (.string hb))
  have HB4 := Lib.hid (below_st (below_trans HBW.out HB3.out) (by omega : w.heap.size ≤ g) 1 (.string hb))
  rw [← HFD.out] at HS4
  clear b0 b1 t0 t1 t2 k0 k1 HSF HOWW HO3 HSE HXW HBW
  generalize (V3.setCell ⟨g, 1, none⟩ (.string hb)) = Y at HS4 HD4 HX4 HB4 ⊢
  obtain ⟨b0, b1⟩ := HD4.out.c2
  go_wp2_with fail
  refine (HO.out _ _ _ HS4.out.row (.inl ⟨rfl, rfl⟩)).mono ?_
  rintro e V ⟨vS5, vW5, vG5, vR5, rfl, hS5, hW5, hG5, hR5, hv⟩
  obtain ⟨a5, p5, rfl⟩ := hS5.1.slice
  obtain ⟨a6, p6, rfl⟩ := hW5.1.slice
  obtain ⟨a7, p7, rfl⟩ := hG5.1.slice
  obtain ⟨a8, p8, rfl⟩ := hR5.1.slice
  have HV := Lib.hid (HX4.out.below hv)
  have HEND := Lib.hid (je_end (k := 0) (s := 1) (h := 0) (u := 0) HB4.out (Nat.le_refl _) HX4.out.1 hv HV.out hS5 hW5 hG5 hR5)
  obtain ⟨f0, f1, f2, f3, f4, f5, f6⟩ := HV.out.f7
  obtain ⟨r0, r1, r2, r3, r4, r5, r6⟩ := HV.out.c7
  clear hS5 hW5 hG5 hR5 hv b0 b1
  unfold jv
  rw [HFL.out] at HEND ⊢
  rw [List.length_nil, List.length_nil] at HEND ⊢
  go_wp2_with fail
  obtain ⟨z0, z1, z2, z3, z4, z5, z6⟩ := HEND.out.1.c7
  exact bodyPost_ret (v := .tuple #[.agg #[.slice a5 n p5, .slice a6 0 p6, .int .i64 1, .int .i64 0, .int .i64 0, .slice a7 0 p7, .slice a8 0 p8], .int .i64 0]) (by simp [results, Tryz.results14, go_sem, z0, z1, z2, z3, z4, z5, z6]) rfl HEND.out.2
end Go.Proofs.YtlpkalfbcphkmaaGreat.Disk.Jn
