/-
  Contract of the reference's Crash: the sectors that the document says.
-/
import Derived.Test.YthoeidgekogfiaaDiskRef
import Derived.Test.YthoeidgekogfiaaDiskFew
namespace Go.Proofs.Ythoeidgekogfiaa.Disk
open Go.ChangeShapes Go.WideShapes Go.ChangeAt Go.RowKit Go.Lib

/-- A disk is returned. -/
def DiskD (ls : List ByteArray) (ws : List (Int × ByteArray)) (w : World) (e : Ending) (w' : World) : Prop :=
  ∃ vS vW, e = .returned (.agg #[vS, vW]) ∧ SRow w' vS ls ∧ WRow w' vW ws ∧ Below w.heap.size w w'

/-- The last that was lost, as the reference counts it. -/
def lastI (kp : Nat) (k : Nat) : Int := match lostO kp k with | none => -1 | some r => r
theorem lastI_bit {kp k : Nat} (h : bitB kp k = true) : lastI kp (k + 1) = lastI kp k := by unfold lastI; rw [show lostO kp (k + 1) = lostO kp k from if_pos h]
theorem lastI_not {kp k : Nat} (h : ¬ bitB kp k = true) : lastI kp (k + 1) = k := by unfold lastI; rw [show lostO kp (k + 1) = some k from if_neg h]
/-- The slice does not lie in block b. -/
def Off (b : Nat) (v : Value) : Prop := ∀ g o n cap, v = .slice (some ⟨g, o, none⟩) n cap → g ≠ b
theorem From.off {B b : Nat} {v : Value} (h : From B v) (hb : b < B) : Off b v := fun g o n cap e => by have := h g o n cap e; omega
theorem SRow.off {w : World} {v : Value} {ls : List ByteArray} (h : SRow w v ls) {b : Nat} (hb : w.heap.size ≤ b) : Off b v := fun g o n cap e => by
  rcases h with ⟨rfl, _⟩ | ⟨g', cap', rfl, _, hg, _⟩
  · cases e
  · cases e; omega
theorem SRow.storedOff {w : World} {b i : Nat} {v u : Value} {ls : List ByteArray} (h : SRow w v ls) (hf : Off b v) : SRow (w.setCell ⟨b, i, none⟩ u) v ls :=
  h.setBelow fun g n cap e => hf g 0 n cap e

theorem torn_cat {d s : ByteArray} {n : Nat} (hd : d.size = 64) (hs : s.size = 64) (hn : n ≤ 64) : d.extract 0 n ++ s.extract n 64 = torn s d n := by
  apply ByteArray.ext
  apply Array.toList_inj.1
  have hl : (d.data.toList.take n).length = n := by rw [List.length_take, bytes_size]; omega
  have hb := bytes_size s
  unfold torn over
  rw [hl]
  simp [ByteArray.data_extract]
  rw [List.take_of_length_le (by simp; omega)]

/-- What holds at the head of the reference's loop, as it crashes. -/
def Crashing (w : World) (kp : Nat) (ls : List ByteArray) (ws : List (Int × ByteArray)) (vS vW : Value) (v la i : Value) (wr : World) : Prop :=
  ∃ (k : Nat) (a : Option Addr) (cap : Nat), k ≤ ws.length ∧ i = .int .i64 k ∧ la = .int .i64 (lastI kp k) ∧ v = .slice a ls.length cap ∧ SRow wr v (keepTo kp ls ws k) ∧ Off (w.heap.size + 1) v ∧ D2 w vS vW wr

theorem refCrash_end {w W : World} {vS vW v : Value} {L : List ByteArray} (hD : D2 w vS vW W) (hS : SRow W v L) (hO : Off (w.heap.size + 1) v) :
    Box2 (w.heap.size + 1) v (.slice none 0 0) (d2St w W v (.slice none 0 0)) ∧ SRow (d2St w W v (.slice none 0 0)) v L ∧ Below w.heap.size w (d2St w W v (.slice none 0 0)) :=
  ⟨(hD.stored v (.slice none 0 0)).1, (hS.storedOff hO).storedOff hO, (hD.stored v (.slice none 0 0)).2⟩

set_option maxHeartbeats 2000000 in
set_option maxRecDepth 100000 in
theorem refCrash_any {vS vW : Value} {ls : List ByteArray} {ws : List (Int × ByteArray)} {w : World} (hS : SRow w vS ls) (hW : WRow w vW ws) (hb : rightB ls ws = true) (kp : Nat) (hkp : kp < 18446744073709551616) (t : Int) : Calls Try.prog 17 #[.agg #[vS, vW], .int .u64 kp, .int .i64 t] w (DiskD (crashL kp ls ws t) [] w) := by
  have hP := rightB_t.1 hb
  obtain ⟨aS, cap, rfl⟩ := hS.slice
  obtain ⟨aW, capW, rfl⟩ := hW.slice
  have HD := Lib.hid (D2.made w (.slice aS ls.length cap) (.slice aW ws.length capW))
  have HS := Lib.hid hS
  have HW := Lib.hid hW
  have HP := Lib.hid hP
  have hl1 := hP.1
  have hl2 := hP.2.1
  have hl3 := hP.2.2.1
  clear hS hW hP hb
  go_enter Try.func17, Try.ntmps17
  go_wp2_with fail
  go_loopw [7, 8, 17] (fun v la i wr => Crashing w kp ls ws (.slice aS ls.length cap) (.slice aW ws.length capW) v la i wr) (fun _ _ i _ => ws.length - (RowKit.intOf i).toNat)
  case atStart => exact ⟨0, aS, cap, Nat.zero_le _, rfl, rfl, rfl, HS.out.below HD.out.2.2, HS.out.off (by omega), HD.out⟩
  case round =>
    obtain ⟨k, av, capv, hk, rfl, rfl, rfl, hV, hO, hD⟩ := hrel
    clear HD
    have HD := Lib.hid hD
    have HV := Lib.hid hV
    have HOF := Lib.hid hO
    obtain ⟨⟨b0, b1, b2, b3, b4⟩, ⟨d0, d1, d2, d3, d4⟩, hbe⟩ := hD
    clear hV hO
    by_cases hlt : k < ws.length
    · obtain ⟨gw, rfl, hcw, hgw, c1, c2⟩ := (HW.out.below hbe).at hlt
      obtain ⟨y1, y2, y3⟩ := HP.out.2.2.2.2 k hlt
      obtain ⟨a, d, ha⟩ : ∃ (a : Nat) (d : ByteArray), ws[k] = ((a : Int), d) := ⟨ws[k].1.toNat, ws[k].2, by rw [Int.toNat_of_nonneg y1]⟩
      have HA := Lib.hid ha
      rw [ha] at c1 c2 y1 y2 y3
      dsimp only at c1 c2 y1 y2 y3
      have hal : a < ls.length := by omega
      have HI := Lib.hid (fun W => refKept_any kp k hkp (by omega) W)
      have hBn := al wr (.cells #[.int .i64 a, .string d] 43)
      have HDn := Lib.hid (HD.out.below hBn)
      have HVn := Lib.hid (HV.out.below hBn)
      clear hbe ha hBn
      by_cases hbit : bitB kp k = true
      · have HE : Hid (keepTo kp ls ws (k + 1) = (keepTo kp ls ws k).set a d) := by
          show (if bitB kp k = true then _ else _) = _
          rw [if_pos hbit, wat_at hlt, HA.out]
          rfl
        have HST := Lib.hid (refSet_any HVn.out (by rw [keepTo_len]; omega) a (by rw [keepTo_len]; exact hal) d)
        go_wp2_with (first
          | (go_at_call 34; refine (HI.out _).mono ?_; rintro e w2 ⟨rfl, rfl⟩; rw [hbit])
          | (go_at_call 35; refine HST.out.mono ?_; rintro e x ⟨v1, rfl, ho1, hx⟩; obtain ⟨a1, cap1, e1⟩ := ho1.row.slice; rw [List.length_set, keepTo_len] at e1; subst e1))
        have HOE := Lib.hid (And.intro (And.intro (show SRow x (.slice a1 ls.length cap1) (keepTo kp ls ws (k + 1)) by rw [HE.out]; exact ho1.row) ((from_ownS ho1).off (by simp; omega) : Off (w.heap.size + 1) (.slice a1 ls.length cap1))) (HDn.out.below hx))
        clear ho1 hx
        go_roundw
        case rel => exact ⟨k + 1, a1, cap1, by omega, by go_num, by rw [lastI_bit hbit], rfl, HOE.out.1.1, HOE.out.1.2, HOE.out.2⟩
        case measure => simp [RowKit.intOf]; omega
      · have HE : Hid (keepTo kp ls ws (k + 1) = keepTo kp ls ws k) := if_neg hbit
        have HLN := Lib.hid (lastI_not hbit)
        go_wp2_with (go_at_call 34; refine (HI.out _).mono ?_; rintro e w2 ⟨rfl, rfl⟩; rw [Bool.eq_false_iff.2 hbit])
        go_roundw
        case rel => exact ⟨k + 1, av, capv, by omega, by go_num, by rw [HLN.out], rfl, by rw [HE.out]; exact HVn.out, HOF.out, HDn.out⟩
        case measure => simp [RowKit.intOf]; omega
    · obtain rfl : k = ws.length := by omega
      have HE := Lib.hid (refCrash_end HD.out HV.out HOF.out)
      rcases hlo : lostO kp ws.length with _ | r
      · have HL2 : Hid (crashL kp ls ws t = keepTo kp ls ws ws.length) := by unfold Hid crashL; rw [hlo]
        have hla : lastI kp ws.length = -1 := by unfold lastI; rw [hlo]
        rw [hla]
        clear hbe
        go_wp2_with fail
        obtain ⟨⟨z0, z1, z2, _⟩, z3, z4⟩ := HE.out
        unfold d2St at z0 z1 z2
        exact bodyPost_ret (v := .agg #[.slice av ls.length capv, .slice none 0 0]) (by simp [results, Try.results17, go_sem, z1, z2]) rfl ⟨_, _, rfl, by rw [HL2.out]; exact z3, .inl ⟨rfl, rfl⟩, z4⟩
      · have hrl : r < ws.length := lostO_lt hlo
        have hla : lastI kp ws.length = (r : Int) := by unfold lastI; rw [hlo]
        rw [hla]
        by_cases ht : 0 < t ∧ t < 64
        · obtain ⟨gw, rfl, hcw, hgw, c1, c2⟩ := (HW.out.below hbe).at hrl
          obtain ⟨y1, y2, y3⟩ := HP.out.2.2.2.2 r hrl
          obtain ⟨a, d, ha⟩ : ∃ (a : Nat) (d : ByteArray), wat ws r = ((a : Int), d) := ⟨ws[r].1.toNat, ws[r].2, by rw [Int.toNat_of_nonneg y1, wat_at hrl]⟩
          have HL2 : Hid (crashL kp ls ws t = (keepTo kp ls ws ws.length).set a (torn ((keepTo kp ls ws ws.length).getD a ⟨#[]⟩) d t.toNat)) := by
            unfold Hid crashL
            rw [hlo]
            dsimp only
            rw [if_pos ht, ha]
            rfl
          rw [wat_at hrl] at ha
          rw [ha] at c1 c2 y1 y2 y3
          dsimp only at c1 c2 y1 y2 y3
          obtain ⟨tn, rfl⟩ : ∃ tn : Nat, t = tn := ⟨t.toNat, by omega⟩
          obtain ⟨t1, t2⟩ := ht
          have hal : a < (keepTo kp ls ws ws.length).length := by rw [keepTo_len]; omega
          have hals : a < ls.length := by omega
          have hB := al wr (.cells #[.int .i64 a, .string d] 43)
          have HDn := Lib.hid (HD.out.below hB)
          have HVn := Lib.hid (HV.out.below hB)
          have HBn := Lib.hid (Box2.made wr (.int .i64 a) (.string d) 43)
          clear hbe ha hB hla hlo
          go_upto_region 12 with (fail)
          clear b0 b1 b2 b3 b4 d0 d1 d2 d3 d4 c1 c2
          generalize wr.alloc (.cells #[.int .i64 a, .string d] 43) = X at HDn HVn HBn ⊢
          generalize wr.heap.size = zb at HBn ⊢
          obtain ⟨q0, q1, q2, _, _⟩ := HBn.out
          obtain ⟨gv, rfl, hcv, hgv, cv⟩ := SRow.at (show SRow X (.slice av (keepTo kp ls ws ws.length).length capv) (keepTo kp ls ws ws.length) by rw [keepTo_len]; exact HVn.out) hal
          have hsz : ((keepTo kp ls ws ws.length)[a]).size = 64 := keepTo_size HP.out _ (Nat.le_refl _) _
          have HGD : Hid ((keepTo kp ls ws ws.length).getD a ⟨#[]⟩ = (keepTo kp ls ws ws.length)[a]) := getD_eq hal
          rw [keepTo_len] at hcv
          generalize (keepTo kp ls ws ws.length)[a] = old at cv hsz HGD
          have i0 : (0 : Int) ≤ (tn : Int) := by omega
          have i1 : (tn : Int) ≤ 64 := by omega
          have i2 : tn ≤ 64 := by omega
          have i3 : ¬ (tn : Int) < 0 := by omega
          have i4 : ¬ (64 : Int) < (tn : Int) := by omega
          have i5 : (tn : Int) ≠ 64 := by omega
          have hcd : (d.extract 0 tn).size = tn := by rw [ByteArray.size_extract]; omega
          have hco : (old.extract tn 64).size = 64 - tn := by rw [ByteArray.size_extract]; omega
          have HSE := Lib.hid (refSet_any (w := X.drew) (HVn.out.below ((Below.refl _ X).drew)) (by rw [keepTo_len]; omega) a hal (d.extract 0 tn ++ old.extract tn 64))
          go_region_held3 (fun w' => w'.cell? ⟨zb, 0, none⟩ = some (.int .i64 a) ∧ w'.cell? ⟨zb, 1, none⟩ = some (.string d) ∧ w'.cell? ⟨gv, a, none⟩ = some (.string old)) (first | exact ⟨q1, q2, cv⟩ | exact ⟨p1, p2, p3⟩ | fail)
            (first | (go_at_call 35; (with_reducible refine HSE.out.mono ?_); rintro e x2 ⟨v1, rfl, ho1, hx2⟩; obtain ⟨a1, cap1, e1⟩ := ho1.row.slice; rw [List.length_set, keepTo_len] at e1; subst e1; have HX2 := Lib.hid (below_trans ((Below.refl _ X).drew) hx2 : Below X.heap.size X x2); have HO1 := Lib.hid ho1; have p1 := (HBn.out.below HX2.out).2.1; have p2 := (HBn.out.below HX2.out).2.2.1; have p3 := (HX2.out.cell (p := ⟨gv, a, none⟩) hgv).trans cv; clear ho1 hx2) | fail)
          have HFE := Lib.hid (refCrash_end (HDn.out.below HX2.out) HO1.out.row ((from_ownS HO1.out).off HDn.out.2.1.1))
          obtain ⟨⟨b0, b1, b2, b3, b4⟩, ⟨d0, d1, d2, d3, d4⟩, hbe⟩ := HDn.out.below HX2.out
          have HTC := Lib.hid (torn_cat y3 hsz i2)
          clear p1 p2 p3 q0 q1 q2 cv hbe i0 i1 i2 i3 i4 i5 hcd hco
          go_wp2_with fail
          obtain ⟨⟨z0, z1, z2, _⟩, z3, z4⟩ := HFE.out
          unfold d2St at z0 z1 z2
          exact bodyPost_ret (v := .agg #[.slice a1 ls.length cap1, .slice none 0 0]) (by simp [results, Try.results17, go_sem, z1, z2]) rfl ⟨_, _, rfl, by rw [HL2.out, HGD.out, Int.toNat_natCast, ← HTC.out]; exact z3, .inl ⟨rfl, rfl⟩, z4⟩
        · have HL2 : Hid (crashL kp ls ws t = keepTo kp ls ws ws.length) := by
            unfold Hid crashL
            rw [hlo]
            dsimp only
            rw [if_neg ht]
          clear hbe hla
          by_cases ht1 : 0 < t
          · have ht2 : ¬ t < 64 := fun h => ht ⟨ht1, h⟩
            clear ht
            go_wp2_with fail
            obtain ⟨⟨z0, z1, z2, _⟩, z3, z4⟩ := HE.out
            unfold d2St at z0 z1 z2
            exact bodyPost_ret (v := .agg #[.slice av ls.length capv, .slice none 0 0]) (by simp [results, Try.results17, go_sem, z1, z2]) rfl ⟨_, _, rfl, by rw [HL2.out]; exact z3, .inl ⟨rfl, rfl⟩, z4⟩
          · clear ht
            go_wp2_with fail
            obtain ⟨⟨z0, z1, z2, _⟩, z3, z4⟩ := HE.out
            unfold d2St at z0 z1 z2
            exact bodyPost_ret (v := .agg #[.slice av ls.length capv, .slice none 0 0]) (by simp [results, Try.results17, go_sem, z1, z2]) rfl ⟨_, _, rfl, by rw [HL2.out]; exact z3, .inl ⟨rfl, rfl⟩, z4⟩
end Go.Proofs.Ythoeidgekogfiaa.Disk
