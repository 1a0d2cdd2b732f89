/-
  Joined: JRefR, JSealA, JCrashP, JOpensA.
-/
import Derived.Test.YtfdpoekgdcklmaaGreatMw
import Derived.Test.YtfdpoekgdcklmaaGreatMv
import Derived.Test.YtfdpoekgdcklmaaGreatMs
import Derived.Test.YtfdpoekgdcklmaaGreatMq

/-
  Contract of the reference of journal: Right, which journals may be.
-/
namespace Go.Proofs.YtfdpoekgdcklmaaGreat.Disk.Jn
open Go.ChangeShapes Go.WideShapes Go.ChangeAt Go.RowKit Go.Lib
open Go.Proofs.YtfdpoekgdcklmaaGreat.Frame (frm frms)

set_option maxHeartbeats 2000000 in
set_option maxRecDepth 100000 in
theorem refRight_fail {vS vW vG vR : Value} {J : JN} {w : World} (hJ : JRow w vS vW vG vR J) (hz : JSmall J) {k : Int} (hf : Fails J.ls J.ws k) : Calls Tryz.prog 12 #[jv vS vW J.s J.h J.u vG vR] w (BoolB false w) := by
  have hk : (k == 0) = false := by rcases hf with ⟨rfl, _⟩ | ⟨rfl, _⟩ | ⟨rfl, _⟩ <;> rfl
  have HO := Lib.hid (fun W (h : Below w.heap.size w W) => refOpen_no (hJ.rS.below h) (hJ.rW.below h) hz.d hf)
  obtain ⟨aS, cap, rfl⟩ := hJ.rS.slice
  obtain ⟨aW, capW, rfl⟩ := hJ.rW.slice
  obtain ⟨aG, capG, rfl⟩ := hJ.rG.slice
  obtain ⟨aR, capR, rfl⟩ := hJ.rR.slice
  clear hJ hz hf
  unfold jv
  go_enter Tryz.func12, Tryz.ntmps12
  go_wp2_with fail
  refine (HO.out _ (al _ _)).mono ?_
  rintro e X ⟨rfl, hx⟩
  have HE := Lib.hid (below_trans (below_trans (al w _) hx) (al X (.cells #[.slice none 0 0, .slice none 0 0, .int .i64 0, .int .i64 0, .int .i64 0, .slice none 0 0, .slice none 0 0, .int .i64 k] 34)))
  clear hx HO
  unfold tv8
  go_wp2_with fail
  go_ret
  exact ⟨rfl, HE.out⟩
set_option maxHeartbeats 4000000 in
set_option maxRecDepth 100000 in
theorem refRight_open {vS vW vG vR : Value} {J : JN} {w : World} (hJ : JRow w vS vW vG vR J) (hz : JSmall J) (hg : J.g.length ≤ 100) (hw : J.ws = []) {t : Told} {l : List ByteArray} (ho : Opens J.ls t l) {b : Bool}
    (hb : b = true ↔ (J.s = t.seals ∧ J.h = t.half ∧ J.u = t.used ∧ l = J.l ∧ waitE J.ls.length t.used J.g = 0)) : Calls Tryz.prog 12 #[jv vS vW J.s J.h J.u vG vR] w (BoolB b w) := by
  obtain ⟨ls, ws, s, h, u, g, lj⟩ := J
  dsimp only at hw ho hb hg ⊢
  subst hw
  have h8 := ho.2.1
  have hn : ls.length ≤ 1000 := by have := opens_len ho; omega
  have hl1 := hz.l1
  have hl2 : l.length ≤ 1000000 := by have := opens_recs ho; omega
  have hrm : t.used ≤ 100000 := by have := (opens_may ho).2.2.2; have := opens_recs ho; omega
  have HO := Lib.hid (fun W (h : Below w.heap.size w W) => refOpen_yes (hJ.rS.below h) (hJ.rW.below h) ho)
  have HRJ := Lib.hid hJ.rR
  have HSJ := Lib.hid hJ.rS
  have HGJ := Lib.hid hJ.rG
  obtain ⟨aS, cap, rfl⟩ := hJ.rS.slice
  obtain ⟨aW, capW, rfl⟩ := hJ.rW.slice
  obtain ⟨aG, capG, rfl⟩ := hJ.rG.slice
  obtain ⟨aR, capR, rfl⟩ := hJ.rR.slice
  dsimp only at HO HRJ HSJ HGJ hl1 ⊢
  rw [List.length_nil] at HO
  have HA := Lib.hid (Box.made w [.slice aS ls.length cap, .slice aW 0 capW, .int .i64 s, .int .i64 h, .int .i64 u, .slice aG g.length capG, .slice aR lj.length capR] 27)
  have HBB := Lib.hid hb
  clear hJ hz ho hb
  unfold jv
  go_enter Tryz.func12, Tryz.ntmps12
  go_wp2_with fail
  refine (HO.out _ (al _ _)).mono ?_
  rintro e X ⟨vR', rfl, hR', hx⟩
  have HX := Lib.hid (below_trans (al w _) hx)
  have HAX := Lib.hid (Box.below HA.out hx)
  have HRX := Lib.hid hR'
  obtain ⟨a4, p4, rfl⟩ := hR'.slice
  clear hR' hx HA HO
  unfold tv8
  have HO2 := Lib.hid (Box.made X [.slice aS ls.length cap, .slice aW 0 capW, .int .i64 t.seals, .int .i64 t.half, .int .i64 t.used, .slice none 0 0, .slice a4 l.length p4, .int .i64 0] 34)
  have HBY := Lib.hid (below_trans HX.out (al X (.cells #[.slice aS ls.length cap, .slice aW 0 capW, .int .i64 t.seals, .int .i64 t.half, .int .i64 t.used, .slice none 0 0, .slice a4 l.length p4, .int .i64 0] 34)))
  have HAY := Lib.hid (HAX.out.below (al X (.cells #[.slice aS ls.length cap, .slice aW 0 capW, .int .i64 t.seals, .int .i64 t.half, .int .i64 t.used, .slice none 0 0, .slice a4 l.length p4, .int .i64 0] 34)))
  have HRY := Lib.hid (HRX.out.below (al X (.cells #[.slice aS ls.length cap, .slice aW 0 capW, .int .i64 t.seals, .int .i64 t.half, .int .i64 t.used, .slice none 0 0, .slice a4 l.length p4, .int .i64 0] 34)))
  go_upto_region 2 with (fail)
  change Hid (Box X.heap.size _ (X.alloc (.cells #[.slice aS ls.length cap, .slice aW 0 capW, .int .i64 t.seals, .int .i64 t.half, .int .i64 t.used, .slice none 0 0, .slice a4 l.length p4, .int .i64 0] 34))) at HO2
  generalize (X.alloc (.cells #[.slice aS ls.length cap, .slice aW 0 capW, .int .i64 t.seals, .int .i64 t.half, .int .i64 t.used, .slice none 0 0, .slice a4 l.length p4, .int .i64 0] 34)) = Y at HO2 HBY HAY HRY ⊢
  clear HAX HRX HX
  generalize X.heap.size = ob at HO2 ⊢
  obtain ⟨c0, c1, c2, c3, c4, c5, c6⟩ := HAY.out.c7
  obtain ⟨o0, o1, o2, o3, o4, o5, o6, o7⟩ := HO2.out.c8
  by_cases hs : s = t.seals
  case neg =>
    have hne : ((t.seals : Int) == s) = false := by simp; omega
    have HN : Hid (b = false) := by
      unfold Hid
      rw [Bool.eq_false_iff]
      exact fun h => hs (HBB.out.1 h).1
    clear hs
    go_wp2_with fail
    go_ret
    exact ⟨ret_bool HN.out.symm, HBY.out⟩
  subst hs
  by_cases hh : h = t.half
  case neg =>
    have hne : ((t.half : Int) == h) = false := by simp; omega
    have HN : Hid (b = false) := by
      unfold Hid
      rw [Bool.eq_false_iff]
      exact fun h => hh (HBB.out.1 h).2.1
    clear hh
    go_wp2_with fail
    go_ret
    exact ⟨ret_bool HN.out.symm, HBY.out⟩
  subst hh
  by_cases hu : u = t.used
  case neg =>
    have hne : ((t.used : Int) == u) = false := by simp; omega
    have HN : Hid (b = false) := by
      unfold Hid
      rw [Bool.eq_false_iff]
      exact fun h => hu (HBB.out.1 h).2.2.1
    clear hu
    go_wp2_with fail
    go_ret
    exact ⟨ret_bool HN.out.symm, HBY.out⟩
  subst hu
  have HEQ := Lib.hid (SameB_any HRY.out (HRJ.out.below HBY.out) hl2 (by omega))
  by_cases hl : l = lj
  case neg =>
    rw [decide_eq_false hl] at HEQ
    have HN : Hid (b = false) := by
      unfold Hid
      rw [Bool.eq_false_iff]
      exact fun h => hl (HBB.out.1 h).2.2.2.1
    clear hl
    go_wp2_with fail
    refine HEQ.out.mono ?_
    rintro e Z ⟨rfl, hz⟩
    have HZ := Lib.hid (below_trans HBY.out hz)
    clear hz
    go_wp2_with fail
    go_ret
    exact ⟨ret_bool HN.out.symm, HZ.out⟩
  rw [decide_eq_true hl] at HEQ
  have HN : Hid (b = decide (waitE ls.length t.used g = 0)) := by
    unfold Hid
    rw [Bool.eq_iff_iff, decide_eq_true_eq, HBB.out]
    exact ⟨fun h => h.2.2.2.2, fun h => ⟨rfl, rfl, rfl, hl, h⟩⟩
  clear hl
  go_wp2_with fail
  refine HEQ.out.mono ?_
  rintro e Z ⟨rfl, hz⟩
  have HZ := Lib.hid (below_trans HBY.out hz)
  have HAZ := Lib.hid (HAY.out.below hz)
  clear hz c0 c1 c2 c3 c4 c5 c6 o0 o1 o2 o3 o4 o5 o6 o7 HEQ
  obtain ⟨c0, c1, c2, c3, c4, c5, c6⟩ := HAZ.out.c7
  have HMW := Lib.hid (refWaits_any (vW := .slice aW 0 capW) (vG := .slice aG g.length capG) (vR := .slice aR lj.length capR) (HSJ.out.below HZ.out) (HGJ.out.below HZ.out) h8 hn hg t.seals t.half t.used hrm)
  generalize waitE ls.length t.used g = E at HN HMW
  go_wp2_with fail
  refine HMW.out.mono ?_
  rintro e V ⟨rfl, hv⟩
  have HV := Lib.hid (below_trans HZ.out hv)
  clear hv HMW
  go_wp2_with fail
  go_ret
  exact ⟨ret_bool (by rw [HN.out, Bool.eq_iff_iff]; simp), HV.out⟩
theorem refRight_no {vS vW vG vR : Value} {J : JN} {w : World} (hJ : JRow w vS vW vG vR J) (hz : JSmall J) (hg : J.g.length ≤ 100) (hno : ∀ t, ¬ May J t) : Calls Tryz.prog 12 #[jv vS vW J.s J.h J.u vG vR] w (BoolB false w) := by
  rcases open_or J.ls J.ws with ⟨k, hf⟩ | ⟨hw, t, l, ho⟩
  · exact refRight_fail hJ hz hf
  · refine refRight_open hJ hz hg hw ho ⟨(fun h => by cases h), fun ⟨h1, h2, h3, h4, h5⟩ => absurd ⟨hw, h4 ▸ ho, h1, h2, h3, h5⟩ (hno t)⟩
theorem refRight_yes {vS vW vG vR : Value} {J : JN} {w : World} (hJ : JRow w vS vW vG vR J) (hg : J.g.length ≤ 100) {t : Told} (h : May J t) : Calls Tryz.prog 12 #[jv vS vW J.s J.h J.u vG vR] w (BoolB true w) :=
  refRight_open hJ (may_small h) hg h.nw h.op ⟨fun _ => ⟨h.hs, h.hh, h.hu, rfl, h.wt⟩, fun _ => rfl⟩
end Go.Proofs.YtfdpoekgdcklmaaGreat.Disk.Jn

/-
  What Append, Commit and Compact (package journal) make of any journal, in one: for the law JournalSeals.
-/
namespace Go.Proofs.YtfdpoekgdcklmaaGreat.Disk.Jn
open Go.ChangeShapes Go.WideShapes Go.ChangeAt Go.RowKit Go.Lib
open Go.Proofs.YtfdpoekgdcklmaaGreat.Frame (frm frms mk_list mk_size size_list)

def J0 : JN := ⟨[], [], 0, 0, 0, [], []⟩
/-- A journal and an error's number are returned. -/
def JR (J : JN) (k : Int) (w : World) (e : Ending) (w' : World) : Prop := ∃ vS vW vG vR, e = .returned (.tuple #[jv vS vW J.s J.h J.u vG vR, .int .i64 k]) ∧ JRow w' vS vW vG vR J ∧ Below w.heap.size w w'
theorem jr_of {ls : List ByteArray} {ws : List (Int × ByteArray)} {s h u : Int} {g l : List ByteArray} {k : Int} {w : World} {e : Ending} {w' : World} (hE : JE ls ws s h u g l k w e w') : JR ⟨ls, ws, s, h, u, g, l⟩ k w e w' := by
  obtain ⟨vS, vW, vG, vR, rfl, h1, h2, h3, h4, h5⟩ := hE
  exact ⟨vS, vW, vG, vR, rfl, ⟨h1.1, h2.1, h3.1, h4.1⟩, h5⟩
/-- The journal behind sealing. -/
def sealJ (ls : List ByteArray) (t : Told) (half fr : Nat) (bs : List UInt8) (l : List ByteArray) : JN := ⟨sealedL ls t half fr bs, [], (nextT t half fr bs.length).seals, (nextT t half fr bs.length).half, (nextT t half fr bs.length).used, [], l⟩
/-- What the three make of a journal. -/
def SpecS (J : JN) (d : ByteArray) (Ja : JN) (ka : Int) (Jb : JN) (kb : Int) (Jc : JN) (kc : Int) : Prop :=
  ((∀ t, ¬ May J t) ∧ ka = 1 ∧ kb = 1 ∧ kc = 1 ∧ Ja = J0 ∧ Jb = J0 ∧ Jc = J0) ∨
  ∃ t, May J t ∧ (ka = waitE J.ls.length t.used (J.g ++ [d]) ∧ ((ka = 0 ∧ Ja = ⟨J.ls, [], J.s, J.h, J.u, J.g ++ [d], J.l⟩) ∨ (ka ≠ 0 ∧ Ja = J0))) ∧
    ((t.seals = 1099511627776 ∧ kb = 7 ∧ Jb = J0) ∨ (t.seals < 1099511627776 ∧ kb = 0 ∧ Jb = sealJ J.ls t t.half t.used (frms J.g) (J.l ++ J.g))) ∧
    ((kc ≠ 0 ∧ kc = insteadE J.ls.length t.seals d ∧ Jc = J0) ∨ (insteadE J.ls.length t.seals d = 0 ∧ kc = 0 ∧ Jc = sealJ J.ls t (1 - t.half) 0 (frm d) [d]))
theorem seals_three {J : JN} (hz : JSmall J) {d : ByteArray} (hd : d.size ≤ 1000000) : ∃ Ja ka Jb kb Jc kc, SpecS J d Ja ka Jb kb Jc kc ∧
    (∀ w vS vW vG vR, JRow w vS vW vG vR J → Calls Tryz.prog 16 #[jv vS vW J.s J.h J.u vG vR, .string d] w (JR Ja ka w)) ∧
    (∀ w vS vW vG vR, JRow w vS vW vG vR J → Calls Tryz.prog 17 #[jv vS vW J.s J.h J.u vG vR] w (JR Jb kb w)) ∧
    (∀ w vS vW vG vR, JRow w vS vW vG vR J → Calls Tryz.prog 18 #[jv vS vW J.s J.h J.u vG vR, .string d] w (JR Jc kc w)) := by
  by_cases hm : ∃ t, May J t
  case neg =>
    have hno : ∀ t, ¬ May J t := fun t h => hm ⟨t, h⟩
    exact ⟨J0, 1, J0, 1, J0, 1, .inl ⟨hno, rfl, rfl, rfl, rfl, rfl, rfl⟩, fun w vS vW vG vR h => (Append_bad h hz hno d).mono fun _ _ => jr_of, fun w vS vW vG vR h => (Commit_bad h hz hno).mono fun _ _ => jr_of, fun w vS vW vG vR h => (Compact_bad h hz hno d).mono fun _ _ => jr_of⟩
  obtain ⟨t, hm⟩ := hm
  have hmp := opens_may hm.op
  have hA : ∃ Ja ka, (ka = waitE J.ls.length t.used (J.g ++ [d]) ∧ ((ka = 0 ∧ Ja = ⟨J.ls, [], J.s, J.h, J.u, J.g ++ [d], J.l⟩) ∨ (ka ≠ 0 ∧ Ja = J0))) ∧ (∀ w vS vW vG vR, JRow w vS vW vG vR J → Calls Tryz.prog 16 #[jv vS vW J.s J.h J.u vG vR, .string d] w (JR Ja ka w)) := by
    by_cases hk : waitE J.ls.length t.used (J.g ++ [d]) = 0
    · exact ⟨_, 0, ⟨hk.symm, .inl ⟨rfl, rfl⟩⟩, fun w vS vW vG vR h => (Append_any h hm d hd).mono fun _ _ hE => jr_of (hE.1 hk)⟩
    · exact ⟨J0, _, ⟨rfl, .inr ⟨hk, rfl⟩⟩, fun w vS vW vG vR h => (Append_any h hm d hd).mono fun _ _ hE => jr_of (hE.2 hk)⟩
  have hB : ∃ Jb kb, ((t.seals = 1099511627776 ∧ kb = 7 ∧ Jb = J0) ∨ (t.seals < 1099511627776 ∧ kb = 0 ∧ Jb = sealJ J.ls t t.half t.used (frms J.g) (J.l ++ J.g))) ∧ (∀ w vS vW vG vR, JRow w vS vW vG vR J → Calls Tryz.prog 17 #[jv vS vW J.s J.h J.u vG vR] w (JR Jb kb w)) := by
    by_cases hs : t.seals = 1099511627776
    · exact ⟨J0, 7, .inl ⟨hs, rfl, rfl⟩, fun w vS vW vG vR h => (Commit_any h hm).mono fun _ _ hE => jr_of (hE.1 hs)⟩
    · have hlt : t.seals < 1099511627776 := by have := hmp.2.2.1; omega
      exact ⟨_, 0, .inr ⟨hlt, rfl, rfl⟩, fun w vS vW vG vR h => (Commit_any h hm).mono fun _ _ hE => jr_of (hE.2 hlt)⟩
  have hC : ∃ Jc kc, ((kc ≠ 0 ∧ kc = insteadE J.ls.length t.seals d ∧ Jc = J0) ∨ (insteadE J.ls.length t.seals d = 0 ∧ kc = 0 ∧ Jc = sealJ J.ls t (1 - t.half) 0 (frm d) [d])) ∧ (∀ w vS vW vG vR, JRow w vS vW vG vR J → Calls Tryz.prog 18 #[jv vS vW J.s J.h J.u vG vR, .string d] w (JR Jc kc w)) := by
    by_cases hk : insteadE J.ls.length t.seals d = 0
    · refine ⟨_, 0, .inr ⟨hk, rfl, rfl⟩, fun w vS vW vG vR h => (Compact_any h hm d hd).mono fun _ _ hE => ?_⟩
      have := jr_of (hE.2 hk)
      have e : (⟨sealedL J.ls t (1 - t.half) 0 (frm d), [], (t.seals : Int) + 1, 1 - (t.half : Int), ((frm d).length : Int), [], [d]⟩ : JN) = sealJ J.ls t (1 - t.half) 0 (frm d) [d] := by
        unfold sealJ nextT
        rw [show ((t.seals : Int) + 1) = ((t.seals + 1 : Nat) : Int) by omega, ← half_cast hmp.1, Nat.zero_add]
      rwa [e] at this
    · exact ⟨J0, _, .inl ⟨hk, rfl, rfl⟩, fun w vS vW vG vR h => (Compact_any h hm d hd).mono fun _ _ hE => jr_of (hE.1 hk)⟩
  obtain ⟨Ja, ka, a1, a2⟩ := hA
  obtain ⟨Jb, kb, b1, b2⟩ := hB
  obtain ⟨Jc, kc, c1, c2⟩ := hC
  exact ⟨Ja, ka, Jb, kb, Jc, kc, .inr ⟨t, hm, a1, b1, c1⟩, a2, b2, c2⟩
/-- A journal is returned. -/
def SealR (J : JN) (w : World) (e : Ending) (w' : World) : Prop := ∃ vS vW vR, e = .returned (jv vS vW J.s J.h J.u (.slice none 0 0) vR) ∧ JRow w' vS vW (.slice none 0 0) vR J ∧ Below w.heap.size w w'
theorem refSealed_j {vS vW vG vR : Value} {ls : List ByteArray} {w : World} (hS : SRow w vS ls) (hW : WRow w vW []) {t : Told} {l : List ByteArray} (ho : Opens ls t l) {half fr : Nat} {bs : List UInt8} {l' : List ByteArray} (hse : Seals ls t half fr bs l') (h u : Int) :
    Calls Tryz.prog 20 #[.agg #[vS, vW, .int .i64 t.seals, .int .i64 h, .int .i64 u, vG, vR], .int .i64 half, .int .i64 fr, .string ⟨bs.toArray⟩] w (SealR (sealJ ls t half fr bs l') w) := by
  have h1 := refSealed_any (vG := vG) (vR := vR) (S := ⟨bs.toArray⟩) hS hW ho (by rw [mk_list]; exact hse) h u
  rw [mk_list, mk_size] at h1
  exact h1.mono fun _ _ h2 => h2
/-- Small enough to be compared. -/
def JLen (J : JN) : Prop := J.ls.length ≤ 1000 ∧ J.ws.length ≤ 1000 ∧ J.g.length ≤ 1000000 ∧ J.l.length ≤ 1000000
theorem len_zero : JLen J0 := ⟨by simp [J0], by simp [J0], by simp [J0], by simp [J0]⟩
theorem sealed_len (ls : List ByteArray) (t : Told) (half fr : Nat) (bs : List UInt8) : (sealedL ls t half fr bs).length = ls.length := by unfold sealedL; rw [flush_len, flushed_len]
theorem spec_len {J : JN} (hz : JSmall J) {d : ByteArray} {Ja Jb Jc : JN} {ka kb kc : Int} (h : SpecS J d Ja ka Jb kb Jc kc) : JLen Ja ∧ JLen Jb ∧ JLen Jc := by
  have h1 := hz.d.1
  have h2 := hz.g1
  have h3 := hz.l1
  rcases h with ⟨_, _, _, _, rfl, rfl, rfl⟩ | ⟨t, hm, ⟨_, ha⟩, hb, hc⟩
  · exact ⟨len_zero, len_zero, len_zero⟩
  · refine ⟨?_, ?_, ?_⟩
    · rcases ha with ⟨_, rfl⟩ | ⟨_, rfl⟩
      · exact ⟨h1, by simp, by simp; omega, by simp; omega⟩
      · exact len_zero
    · rcases hb with ⟨_, _, rfl⟩ | ⟨_, _, rfl⟩
      · exact len_zero
      · exact ⟨by show (sealedL _ _ _ _ _).length ≤ _; rw [sealed_len]; exact h1, by simp [sealJ], by simp [sealJ], by simp [sealJ]; omega⟩
    · rcases hc with ⟨_, _, rfl⟩ | ⟨_, _, rfl⟩
      · exact len_zero
      · exact ⟨by show (sealedL _ _ _ _ _).length ≤ _; rw [sealed_len]; exact h1, by simp [sealJ], by simp [sealJ], by simp [sealJ]⟩
/-- Two that are alike. -/
theorem like_jb {a b : Nat} {aS aW aG aR bS bW bG bR : Value} {J : JN} {W : World} (ha : JB a aS aW aG aR J W) (hb : JB b bS bW bG bR J W) (hl : JLen J) : Calls Tryz.prog 10 #[jv aS aW J.s J.h J.u aG aR, jv bS bW J.s J.h J.u bG bR] W (BoolB true W) :=
  refLike_yes ha.2 hb.2 hl.1 hl.2.1 hl.2.2.1 hl.2.2.2
end Go.Proofs.YtfdpoekgdcklmaaGreat.Disk.Jn

/-
  Contract of Crash (package journal), for any journal, to the byte: refused, or the disk that the document says.
-/
namespace Go.Proofs.YtfdpoekgdcklmaaGreat.Disk.Jn
open Go.ChangeShapes Go.WideShapes Go.ChangeAt Go.RowKit Go.Lib
open Go.Proofs.YtfdpoekgdcklmaaGreat.Frame (frm frms mk_list mk_size size_list)

/-- What a crash seals: all that waits, or one instead of all. -/
def cHalf (t : Told) (d : ByteArray) : Nat := if d.size = 0 then t.half else 1 - t.half
def cFr (t : Told) (d : ByteArray) : Nat := if d.size = 0 then t.used else 0
def cBs (J : JN) (d : ByteArray) : ByteArray := if d.size = 0 then ⟨(frms J.g).toArray⟩ else ⟨(frm d).toArray⟩
/-- The disk as it is when it crashes. -/
def crashS (J : JN) (t : Told) (d : ByteArray) (late : Bool) : List ByteArray := if late then flushed J.ls t (cHalf t d) (cFr t d) (cBs J d).data.toList else J.ls
def crashWr (J : JN) (t : Told) (d : ByteArray) (late : Bool) : List (Int × ByteArray) := if late then headW t (cHalf t d) (cFr t d) (cBs J d).size else firstW J.ls ((t.seals + 1) % 2) (cHalf t d) (cFr t d) (cBs J d).data.toList
/-- It is not refused. -/
def CrashOk (J : JN) (t : Told) (d : ByteArray) : Prop := t.seals ≠ 1099511627776 ∧ d.size ≤ 3000 ∧ (d.size ≠ 0 → (frm d).length ≤ roomN J.ls.length)
theorem crash_seals {J : JN} {t : Told} (hm : May J t) {d : ByteArray} (h : CrashOk J t d) : Seals J.ls t (cHalf t d) (cFr t d) (cBs J d).data.toList (thenL J d) := by
  unfold cHalf cFr cBs thenL
  by_cases h0 : d.size = 0
  · rw [if_pos h0, if_pos h0, if_pos h0, if_pos h0, mk_list]
    exact may_commit hm (by have := (opens_may hm.op).2.2.1; have := h.1; omega)
  · rw [if_neg h0, if_neg h0, if_neg h0, if_neg h0, mk_list]
    exact may_compact hm (ins_zero.2 ⟨h.2.1, h.2.2 h0, h.1⟩)
theorem Crash_ok {vS vW vG vR : Value} {J : JN} {w : World} (hJ : JRow w vS vW vG vR J) {t : Told} (hm : May J t) {d : ByteArray} (h : CrashOk J t d) (late : Bool) (kp : Nat) (hkp : kp < 18446744073709551616) (tn : Int) :
    Calls Tryz.prog 24 #[jv vS vW J.s J.h J.u vG vR, .string d, .bool late, .int .u64 kp, .int .i64 tn] w (DiskE (crashL kp (crashS J t d late) (crashWr J t d late) tn) [] 0 w) := by
  have hq := crash_seals hm h
  have hp : ∀ W, Below w.heap.size w W → Calls Tryz.prog 54 #[jv vS vW J.s J.h J.u vG vR, .string d] W (PartE (cHalf t d) (cFr t d) (cBs J d) 0 W) := by
    intro W hb
    by_cases h0 : d.size = 0
    · have hde : d = ⟨#[]⟩ := ByteArray.ext (Array.eq_empty_of_size_eq_zero h0)
      unfold cHalf cFr cBs
      rw [if_pos h0, if_pos h0, if_pos h0, hde]
      exact sealing_none (hJ.below hb) fun W' hb' => waiting_yes ((hJ.below hb).below hb') hm (by have := (opens_may hm.op).2.2.1; have := h.1; omega)
    · unfold cHalf cFr cBs
      rw [if_neg h0, if_neg h0, if_neg h0]
      refine sealing_some (hJ.below hb) d h0 fun W' hb' => (instead_any ((hJ.below hb).below hb') hm d (by have := h.2.1; omega)).mono fun _ _ hE => ?_
      rw [half_cast (opens_may hm.op).1]
      exact hE.1 (ins_zero.2 ⟨h.2.1, h.2.2 h0, h.1⟩)
  cases late with
  | false => exact Crash_early hJ d hm hq hp kp hkp tn
  | true => exact Crash_late hJ d hm hq hp kp hkp tn
/-- The error of what is refused. -/
def crashK (d : ByteArray) : Int := if 3000 < d.size then 3 else 7
theorem Crash_refused {vS vW vG vR : Value} {J : JN} {w : World} (hJ : JRow w vS vW vG vR J) (hz : JSmall J) {t : Told} (hm : May J t) {d : ByteArray} (hd : d.size ≤ 1000000) (h : ¬ CrashOk J t d) (late : Bool) (kp : Nat) (tn : Int) :
    Calls Tryz.prog 24 #[jv vS vW J.s J.h J.u vG vR, .string d, .bool late, .int .u64 kp, .int .i64 tn] w (DiskE [] [] (crashK d) w) := by
  by_cases h0 : d.size = 0
  · have hde : d = ⟨#[]⟩ := ByteArray.ext (Array.eq_empty_of_size_eq_zero h0)
    have hs : t.seals = 1099511627776 := Classical.byContradiction fun hs => h ⟨hs, by omega, fun h1 => absurd h0 h1⟩
    have hk : crashK d = 7 := by unfold crashK; rw [if_neg (by omega)]
    rw [hk]
    refine Crash_no hJ d (k := 7) (by decide) (fun W hb => ?_) late kp tn
    rw [hde]
    exact sealing_none (hJ.below hb) fun W' hb' => waiting_no ((hJ.below hb).below hb') hz (.inr ⟨rfl, t, hm, hs⟩)
  · have hne : insteadE J.ls.length t.seals d ≠ 0 := fun hk => h ⟨(ins_zero.1 hk).2.2, (ins_zero.1 hk).1, fun _ => (ins_zero.1 hk).2.1⟩
    have hk : crashK d = insteadE J.ls.length t.seals d := by
      unfold crashK insteadE at *
      by_cases c : 3000 < d.size
      · rw [if_pos c, if_pos c]
      · rw [if_neg c, if_neg c]
        rw [if_neg c] at hne
        by_cases c2 : roomN J.ls.length < (frm d).length
        · rw [if_pos c2]
        · rw [if_neg c2] at hne ⊢
          by_cases c3 : t.seals = 1099511627776
          · rw [if_pos c3]
          · rw [if_neg c3] at hne; exact absurd rfl hne
    rw [hk]
    exact Crash_no hJ d hne (fun W hb => sealing_some (hJ.below hb) d h0 fun W' hb' => (instead_any ((hJ.below hb).below hb') hm d hd).mono fun _ _ h => h.2 hne) late kp tn
theorem Crash_bad {vS vW vG vR : Value} {J : JN} {w : World} (hJ : JRow w vS vW vG vR J) (hz : JSmall J) (hno : ∀ t, ¬ May J t) (d : ByteArray) (late : Bool) (kp : Nat) (tn : Int) :
    Calls Tryz.prog 24 #[jv vS vW J.s J.h J.u vG vR, .string d, .bool late, .int .u64 kp, .int .i64 tn] w (DiskE [] [] 1 w) := by
  refine Crash_no hJ d (k := 1) (by decide) (fun W hb => ?_) late kp tn
  by_cases h0 : d.size = 0
  · have hde : d = ⟨#[]⟩ := ByteArray.ext (Array.eq_empty_of_size_eq_zero h0)
    rw [hde]
    exact sealing_none (hJ.below hb) fun W' hb' => waiting_no ((hJ.below hb).below hb') hz (.inl ⟨rfl, hno⟩)
  · exact sealing_some (hJ.below hb) d h0 fun W' hb' => instead_bad ((hJ.below hb).below hb') hz hno d
end Go.Proofs.YtfdpoekgdcklmaaGreat.Disk.Jn

/-
  What the law JournalOpens needs: Format of what it refuses; Open, and Right, of any disk and journal, beside the reference's.
-/
namespace Go.Proofs.YtfdpoekgdcklmaaGreat.Disk.Jn
open Go.ChangeShapes Go.WideShapes Go.ChangeAt Go.RowKit Go.Lib
open Go.Proofs.YtfdpoekgdcklmaaGreat.Frame (frm frms)

set_option maxHeartbeats 2000000 in
set_option maxRecDepth 100000 in
theorem Format_no (n : Int) (h : n < 8 ∨ 512 < n) (w : World) : Calls Tryz.prog 14 #[.int .i64 n] w (JE [] [] 0 0 0 [] [] 1 w) := by
  have HB := Lib.hid (al w (.cells #[.slice none 0 0, .slice none 0 0, .int .i64 0, .int .i64 0, .int .i64 0, .slice none 0 0, .slice none 0 0] 27))
  by_cases h8 : n < 8
  · clear h
    go_enter Tryz.func14, Tryz.ntmps14
    go_wp2_with fail
    exact bodyPost_ret (v := .tuple #[.agg #[.slice none 0 0, .slice none 0 0, .int .i64 0, .int .i64 0, .int .i64 0, .slice none 0 0, .slice none 0 0], .int .i64 1]) (by simp [results, Tryz.results14, go_sem]) rfl (je_zero HB.out)
  · have h8' : ¬ n < 8 := h8
    have hm : mayB n = false := mayB_f.2 (by omega)
    have HZ := Lib.hid (Box.made w z7 27)
    have HN := Lib.hid (fun W => New_no n hm W)
    clear h hm h8
    go_enter Tryz.func14, Tryz.ntmps14
    go_wp2_with fail
    refine (HN.out _).mono ?_
    rintro e X ⟨vS, vW, rfl, hS, hW, hx⟩
    obtain ⟨a1, p1, rfl⟩ := hS.1.slice
    obtain ⟨a2, p2, rfl⟩ := hW.1.slice
    have HX := Lib.hid (And.intro (below_trans HB.out hx) (Box.below HZ.out hx))
    clear hS hW hx
    have HE := Lib.hid (And.intro (below_trans HX.out.1 (al X (.cells #[.slice a1 ([] : List ByteArray).length p1, .slice a2 ([] : List (Int × ByteArray)).length p2] 25))) (Box.below HX.out.2 (al X (.cells #[.slice a1 ([] : List ByteArray).length p1, .slice a2 ([] : List (Int × ByteArray)).length p2] 25))))
    simp only [List.length_nil] at HE ⊢
    obtain ⟨f0, f1, f2, f3, f4, f5, f6⟩ := Box.f7 HE.out.2
    obtain ⟨r0, r1, r2, r3, r4, r5, r6⟩ := Box.c7 HE.out.2
    have HQ := Lib.hid (And.intro (Box.st7 HE.out.2 (.slice none 0 0) (.slice none 0 0) (.int .i64 0) (.int .i64 0) (.int .i64 0) (.slice none 0 0) (.slice none 0 0)) (below_st7 HE.out.1 (Nat.le_refl _) (.slice none 0 0) (.slice none 0 0) (.int .i64 0) (.int .i64 0) (.int .i64 0) (.slice none 0 0) (.slice none 0 0)))
    go_wp2_with fail
    obtain ⟨z0, z1, z2, z3, z4, z5, z6⟩ := HQ.out.1.c7
    exact bodyPost_ret (v := .tuple #[.agg #[.slice none 0 0, .slice none 0 0, .int .i64 0, .int .i64 0, .int .i64 0, .slice none 0 0, .slice none 0 0], .int .i64 1]) (by simp [results, Tryz.results14, go_sem, z0, z1, z2, z3, z4, z5, z6]) rfl (je_zero HQ.out.2)

/-- The reference's answer: a journal, and an error's number. -/
def TR (J : JN) (k : Int) (w : World) (e : Ending) (w' : World) : Prop := ∃ vS vW vG vR, e = .returned (tv8 vS vW J.s J.h J.u vG vR k) ∧ JRow w' vS vW vG vR J ∧ Below w.heap.size w w'
theorem opens_two {ls : List ByteArray} {ws : List (Int × ByteArray)} (hz : smallP ls ws) : ∃ Ja ka, JLen Ja ∧
    (∀ w vS vW, SRow w vS ls → WRow w vW ws → Calls Tryz.prog 8 #[.agg #[vS, vW]] w (JR Ja ka w)) ∧
    (∀ w vS vW, SRow w vS ls → WRow w vW ws → Calls Tryz.prog 9 #[.agg #[vS, vW]] w (TR Ja ka w)) := by
  rcases open_or ls ws with ⟨k, hf⟩ | ⟨rfl, t, l, ho⟩
  · refine ⟨J0, k, len_zero, fun w vS vW h1 h2 => (Open_no h1 h2 hz hf).mono fun _ _ => jr_of, fun w vS vW h1 h2 => (refOpen_no h1 h2 hz hf).mono fun _ _ h => ?_⟩
    obtain ⟨rfl, hb⟩ := h
    exact ⟨_, _, _, _, rfl, ⟨.inl ⟨rfl, rfl⟩, .inl ⟨rfl, rfl⟩, .inl ⟨rfl, rfl⟩, .inl ⟨rfl, rfl⟩⟩, hb⟩
  · have hr := opens_recs ho
    refine ⟨⟨ls, [], t.seals, t.half, t.used, [], l⟩, 0, ⟨hz.1, by simp, by simp, by show l.length ≤ _; omega⟩, fun w vS vW h1 h2 => (Open_yes h1 h2 ho).mono fun _ _ => jr_of, fun w vS vW h1 h2 => (refOpen_yes h1 h2 ho).mono fun _ _ h => ?_⟩
    obtain ⟨vR, rfl, hR, hb⟩ := h
    exact ⟨_, _, _, _, rfl, ⟨h1.below hb, h2.below hb, .inl ⟨rfl, rfl⟩, hR⟩, hb⟩
theorem right_two {J : JN} (hz : JSmall J) (hg : J.g.length ≤ 100) : ∃ b,
    (∀ w vS vW vG vR, JRow w vS vW vG vR J → Calls Tryz.prog 11 #[jv vS vW J.s J.h J.u vG vR] w (BoolB b w)) ∧
    (∀ w vS vW vG vR, JRow w vS vW vG vR J → Calls Tryz.prog 12 #[jv vS vW J.s J.h J.u vG vR] w (BoolB b w)) := by
  by_cases h : ∃ t, May J t
  · obtain ⟨t, h⟩ := h
    exact ⟨true, fun w vS vW vG vR hJ => Right_yes hJ h, fun w vS vW vG vR hJ => refRight_yes hJ hg h⟩
  · have hno : ∀ t, ¬ May J t := fun t ht => h ⟨t, ht⟩
    exact ⟨false, fun w vS vW vG vR hJ => Right_no hJ hz hno, fun w vS vW vG vR hJ => refRight_no hJ hz hg hno⟩
end Go.Proofs.YtfdpoekgdcklmaaGreat.Disk.Jn
