/-
  Joined: DiskPut, DiskFew, DiskArg, DiskMath.
-/
import Derived.Test.YtlpkalfbcphkmaaGreatMb
import Derived.Deep.AppendLies
import Derived.Deep.RegionLaw
import Derived.Deep.SlicePairs
import Derived.SliceStrings
import Derived.ChangeOld
import Derived.Carry
import Derived.ShutString

/-
  Contract of Put (package disk): a write more, or refused.
-/
namespace Go.Proofs.YtlpkalfbcphkmaaGreat.Disk
open Go.ChangeShapes Go.WideShapes Go.ChangeAt Go.RowKit Go.Lib

set_option maxHeartbeats 2000000 in
set_option maxRecDepth 100000 in
theorem Put_bad {vS vW : Value} {ls : List ByteArray} {ws : List (Int × ByteArray)} {w : World} (hS : SRow w vS ls) (hW : WRow w vW ws) (hr : smallP ls ws) (hb : rightB ls ws = false) (i : Int) (d : ByteArray) : Calls Tryz.prog 81 #[.agg #[vS, vW], .int .i64 i, .string d] w (DiskE [] [] 1 w) := by
  have HR := Lib.hid (fun W (h : Below w.heap.size w W) => hb ▸ Right_any (hS.below h) (hW.below h) hr)
  obtain ⟨aS, cap, rfl⟩ := hS.slice
  obtain ⟨aW, capW, rfl⟩ := hW.slice
  have HD := Lib.hid (D2.made w (.slice aS ls.length cap) (.slice aW ws.length capW))
  clear hS hW
  go_enter Tryz.func81, Tryz.ntmps81
  go_wp2_with fail
  refine (HR.out _ HD.out.2.2).mono ?_
  rintro e x ⟨rfl, hx⟩
  have HX := Lib.hid (HD.out.below hx)
  obtain ⟨⟨b0, b1, b2, b3, b4⟩, ⟨d0, d1, d2, d3, d4⟩, _⟩ := HX.out
  have HZ := Lib.hid (HX.out.stored (.slice none 0 0) (.slice none 0 0))
  clear hx HD
  go_wp2_with fail
  obtain ⟨⟨z0, z1, z2, _⟩, zb⟩ := HZ.out
  unfold d2St at z1 z2
  exact bodyPost_ret (v := .tuple #[.agg #[.slice none 0 0, .slice none 0 0], .int .i64 1]) (by simp [results, Tryz.results81, go_sem, z1, z2]) rfl ⟨_, _, rfl, ⟨.inl ⟨rfl, rfl⟩, from_nil _⟩, ⟨.inl ⟨rfl, rfl⟩, from_nil _⟩, zb⟩

/-- The error that Put tells of a disk that may be. -/
def putE (n m : Nat) (i : Int) (s : Nat) : Int := if hasB n i = false then 8 else if s ≠ 64 then 1 else if m = 64 then 7 else 0

set_option maxHeartbeats 2000000 in
set_option maxRecDepth 100000 in
theorem Put_no {vS vW : Value} {ls : List ByteArray} {ws : List (Int × ByteArray)} {w : World} (hS : SRow w vS ls) (hW : WRow w vW ws) (hr : smallP ls ws) (hb : rightB ls ws = true) (i : Int) (d : ByteArray) (hne : putE ls.length ws.length i d.size ≠ 0) : Calls Tryz.prog 81 #[.agg #[vS, vW], .int .i64 i, .string d] w (DiskE [] [] (putE ls.length ws.length i d.size) w) := by
  have HR := Lib.hid (fun W (h : Below w.heap.size w W) => hb ▸ Right_any (hS.below h) (hW.below h) hr)
  obtain ⟨aS, cap, rfl⟩ := hS.slice
  obtain ⟨aW, capW, rfl⟩ := hW.slice
  have HD := Lib.hid (D2.made w (.slice aS ls.length cap) (.slice aW ws.length capW))
  have HH := Lib.hid (fun W => has_any aS ls.length cap (.slice aW ws.length capW) i W)
  have HP : Hid (∀ {e : Int}, e = putE ls.length ws.length i d.size → putE ls.length ws.length i d.size = e) := fun h => h.symm
  generalize hpe : putE ls.length ws.length i d.size = pe at hne ⊢
  have HPE := Lib.hid hpe
  clear hS hW hpe HP
  have hl3 := (rightB_t.1 hb).2.2.1
  by_cases hh : hasB ls.length i = true
  · by_cases hs : d.size = 64
    · by_cases hm : ws.length = 64
      · have HE : Hid (pe = 7) := by unfold Hid; rw [← HPE.out, putE, if_neg (by rw [hh]; simp), if_neg (by omega), if_pos hm]
        have HM := Lib.hid hm
        clear hm
        go_enter Tryz.func81, Tryz.ntmps81
        go_wp2_with fail
        refine (HR.out _ HD.out.2.2).mono ?_
        rintro e x ⟨rfl, hx⟩
        have HX := Lib.hid (HD.out.below hx)
        obtain ⟨⟨b0, b1, b2, b3, b4⟩, ⟨d0, d1, d2, d3, d4⟩, _⟩ := HX.out
        clear hx HD
        go_wp2_with fail
        refine (HH.out _).mono ?_
        rintro e y ⟨rfl, hy⟩
        rw [hh]
        clear b0 b1 b2 b3 b4 d0 d1 d2 d3 d4
        have HY := Lib.hid (HX.out.below hy)
        obtain ⟨⟨b0, b1, b2, b3, b4⟩, ⟨d0, d1, d2, d3, d4⟩, _⟩ := HY.out
        have HZ := Lib.hid (HY.out.stored (.slice none 0 0) (.slice none 0 0))
        clear hy HX
        have hm := HM.out
        go_wp2_with fail
        obtain ⟨⟨z0, z1, z2, _⟩, zb⟩ := HZ.out
        unfold d2St at z1 z2
        exact bodyPost_ret (v := .tuple #[.agg #[.slice none 0 0, .slice none 0 0], .int .i64 7]) (by simp [results, Tryz.results81, go_sem, z1, z2]) rfl ⟨_, _, by rw [HE.out], ⟨.inl ⟨rfl, rfl⟩, from_nil _⟩, ⟨.inl ⟨rfl, rfl⟩, from_nil _⟩, zb⟩
      · exact absurd (by rw [← HPE.out, putE, if_neg (by rw [hh]; simp), if_neg (by omega), if_neg hm]) hne
    · have HE : Hid (pe = 1) := by unfold Hid; rw [← HPE.out, putE, if_neg (by rw [hh]; simp), if_pos hs]
      go_enter Tryz.func81, Tryz.ntmps81
      go_wp2_with fail
      refine (HR.out _ HD.out.2.2).mono ?_
      rintro e x ⟨rfl, hx⟩
      have HX := Lib.hid (HD.out.below hx)
      obtain ⟨⟨b0, b1, b2, b3, b4⟩, ⟨d0, d1, d2, d3, d4⟩, _⟩ := HX.out
      clear hx HD
      go_wp2_with fail
      refine (HH.out _).mono ?_
      rintro e y ⟨rfl, hy⟩
      rw [hh]
      clear b0 b1 b2 b3 b4 d0 d1 d2 d3 d4
      have HY := Lib.hid (HX.out.below hy)
      obtain ⟨⟨b0, b1, b2, b3, b4⟩, ⟨d0, d1, d2, d3, d4⟩, _⟩ := HY.out
      have HZ := Lib.hid (HY.out.stored (.slice none 0 0) (.slice none 0 0))
      clear hy HX
      go_wp2_with fail
      obtain ⟨⟨z0, z1, z2, _⟩, zb⟩ := HZ.out
      unfold d2St at z1 z2
      exact bodyPost_ret (v := .tuple #[.agg #[.slice none 0 0, .slice none 0 0], .int .i64 1]) (by simp [results, Tryz.results81, go_sem, z1, z2]) rfl ⟨_, _, by rw [HE.out], ⟨.inl ⟨rfl, rfl⟩, from_nil _⟩, ⟨.inl ⟨rfl, rfl⟩, from_nil _⟩, zb⟩
  · have hh' : hasB ls.length i = false := by simpa using hh
    have HE : Hid (pe = 8) := by unfold Hid; rw [← HPE.out, putE, if_pos hh']
    go_enter Tryz.func81, Tryz.ntmps81
    go_wp2_with fail
    refine (HR.out _ HD.out.2.2).mono ?_
    rintro e x ⟨rfl, hx⟩
    have HX := Lib.hid (HD.out.below hx)
    obtain ⟨⟨b0, b1, b2, b3, b4⟩, ⟨d0, d1, d2, d3, d4⟩, _⟩ := HX.out
    clear hx HD
    go_wp2_with fail
    refine (HH.out _).mono ?_
    rintro e y ⟨rfl, hy⟩
    rw [hh']
    clear b0 b1 b2 b3 b4 d0 d1 d2 d3 d4
    have HY := Lib.hid (HX.out.below hy)
    obtain ⟨⟨b0, b1, b2, b3, b4⟩, ⟨d0, d1, d2, d3, d4⟩, _⟩ := HY.out
    have HZ := Lib.hid (HY.out.stored (.slice none 0 0) (.slice none 0 0))
    clear hy HX
    go_wp2_with fail
    obtain ⟨⟨z0, z1, z2, _⟩, zb⟩ := HZ.out
    unfold d2St at z1 z2
    exact bodyPost_ret (v := .tuple #[.agg #[.slice none 0 0, .slice none 0 0], .int .i64 8]) (by simp [results, Tryz.results81, go_sem, z1, z2]) rfl ⟨_, _, by rw [HE.out], ⟨.inl ⟨rfl, rfl⟩, from_nil _⟩, ⟨.inl ⟨rfl, rfl⟩, from_nil _⟩, zb⟩

theorem al (W : World) (o : Obj) : Below W.heap.size W (W.alloc o) := (Below.refl _ _).alloc (Nat.le_refl _) _
theorem put_a {w y x1 : World} {vS vW v1 : Value} {ls : List ByteArray} {B : Nat} (hD : D2 w vS vW y) (ho : OwnS B v1 ls x1) (hB : y.heap.size ≤ B) (hb : Below y.heap.size y x1) : D2 w vS vW x1 ∧ (SRow x1 v1 ls ∧ From y.heap.size v1) := by
  refine ⟨hD.below hb, ho.row, ?_⟩
  intro g o n cap e
  subst e
  have := (World.ownsRow.lt ho) g rfl
  omega

theorem put_end {w y x1 Wc w1 : World} {vS vW u1 v2 : Value} {ls : List ByteArray} {ws : List (Int × ByteArray)} {B gg cap : Nat} {i : Int} {d : ByteArray} (hA : D2 w vS vW x1 ∧ (SRow x1 u1 ls ∧ From y.heap.size u1)) (hy : y.heap.size ≤ x1.heap.size)
    (h12 : Below x1.heap.size x1 Wc) (ho : Wc.ownsRow B 59 2 v2 ws.length (wcells ws)) (hB : x1.heap.size ≤ B) (hg : Wc.grownBy w1 v2.ownBlock)
    (hown : w1.ownsRow B 59 2 (.slice (some ⟨gg, 0, none⟩) (ws.length + 1) cap) (ws.length + 1) (wcells ws ++ [.int .i64 i, .string d])) :
    D2 w vS vW w1 ∧ (SRow w1 u1 ls ∧ From y.heap.size u1) ∧ (WRow w1 (.slice (some ⟨gg, 0, none⟩) (ws.length + 1) cap) (ws ++ [(i, d)]) ∧ From y.heap.size (.slice (some ⟨gg, 0, none⟩) (ws.length + 1) cap)) := by
  have hb : Below x1.heap.size x1 w1 := h12.grown hg h12.size (fun k e => Nat.le_trans hB ((ho.lt k e).1))
  have hO : OwnW B (.slice (some ⟨gg, 0, none⟩) (ws.length + 1) cap) (ws ++ [(i, d)]) w1 := by
    unfold OwnW
    rw [wcells_snoc, List.length_append]
    exact hown
  have hl := (hown.lt gg rfl).1
  exact ⟨hA.1.below hb, ⟨hA.2.1.below hb, hA.2.2⟩, hO.row, from_some (by omega)⟩
theorem d2_keeps {w W : World} {vS vW : Value} (h : D2 w vS vW W) (u0 u1 : Value) : Box2 w.heap.size vS vW (d2St w W u0 u1) := (h.1.other (by omega) _).other (by omega) _

theorem news2 {b : Nat} {c0 c1 : Value} {W : World} (h : Box2 b c0 c1 W) : ∀ j u, [c0, c1][j]? = some u → W.cell? ((⟨b, 0, none⟩ : Addr).add j) = some u := by
  intro j u hj
  rw [addr_at]
  match j, hj with
  | 0, hj => simp at hj; subst hj; exact h.2.1
  | 1, hj => simp at hj; subst hj; exact h.2.2.1

set_option maxHeartbeats 2000000 in
set_option maxRecDepth 100000 in
theorem Put_yes {vS vW : Value} {ls : List ByteArray} {ws : List (Int × ByteArray)} {w : World} (hS : SRow w vS ls) (hW : WRow w vW ws) (hb : rightB ls ws = true) (i : Int) (d : ByteArray) (hh : hasB ls.length i = true) (hd : d.size = 64) (hlt : ws.length < 64) : Calls Tryz.prog 81 #[.agg #[vS, vW], .int .i64 i, .string d] w (DiskE ls (ws ++ [(i, d)]) 0 w) := by
  have hP := rightB_t.1 hb
  have hr : smallP ls ws := ⟨by have := hP.2.1; omega, by have := hP.2.2.1; omega, fun j h => by rw [hP.2.2.2.1 j h]; omega, fun j h => by rw [(hP.2.2.2.2 j h).2.2]; omega⟩
  obtain ⟨i0, hi, hz0, hz1, hz2⟩ := info_parts Tryz.infoW
  have HR := Lib.hid (fun W (h : Below w.heap.size w W) => hb ▸ Right_any (hS.below h) (hW.below h) hr)
  have HC := Lib.hid (fun W (h : Below w.heap.size w W) => CloneS_any (hS.below h) hr.1)
  have HK := Lib.hid (fun W (h : Below w.heap.size w W) => CloneW_any (hW.below h) hr.2.1)
  obtain ⟨aS, cap, rfl⟩ := hS.slice
  obtain ⟨aW, capW, rfl⟩ := hW.slice
  have HD := Lib.hid (D2.made w (.slice aS ls.length cap) (.slice aW ws.length capW))
  have HH := Lib.hid (fun W => hh ▸ has_any aS ls.length cap (.slice aW ws.length capW) i W)
  clear hS hW
  go_enter Tryz.func81, Tryz.ntmps81
  go_wp2_with fail
  refine (HR.out _ HD.out.2.2).mono ?_
  rintro e x ⟨rfl, hx⟩
  have HX := Lib.hid (HD.out.below hx)
  obtain ⟨⟨b0, b1, b2, b3, b4⟩, ⟨d0, d1, d2, d3, d4⟩, _⟩ := HX.out
  clear hx HD
  go_wp2_with fail
  refine (HH.out _).mono ?_
  rintro e y ⟨rfl, hy⟩
  clear b0 b1 b2 b3 b4 d0 d1 d2 d3 d4
  have HY := Lib.hid (HX.out.below hy)
  obtain ⟨⟨b0, b1, b2, b3, b4⟩, ⟨d0, d1, d2, d3, d4⟩, hbe⟩ := HY.out
  clear hy HX
  go_upto_region 9 with (fail)
  have y0 : Below y.heap.size y y.drew := (Below.refl _ _).drew
  have y1 : Below y.heap.size y (y.alloc (.cells #[.int .i64 i, .string d] 59)).drew := ((Below.refl _ _).alloc (Nat.le_refl _) _).drew
  have HB0 := Lib.hid (below_trans hbe y0)
  have HB1 := Lib.hid (below_trans hbe y1)
  have n1 := (HY.out.below y1).1.2.1
  have n2 := (HY.out.below y1).1.2.2.1
  have HBx := Lib.hid (Box2.made y (.int .i64 i) (.string d) 59)
  have HY0 := Lib.hid y0
  have HY1 := Lib.hid y1
  clear y0 y1
  have HM1 : Hid (ws.length + 1 ≤ maxLen) := by unfold Hid maxLen; omega
  have HM2 : Hid ((ws.length + 1) * 24 ≤ 140737488355328) := by unfold Hid; omega
  go_region_held3 (fun w' => w'.cell? ⟨w.heap.size, 0, none⟩ = some (.slice aS ls.length cap) ∧ w'.cell? ⟨w.heap.size, 1, none⟩ = some (.slice aW ws.length capW))
    (first | exact ⟨b1, b2⟩ | exact ⟨n1, n2⟩ | exact ⟨a1, a2⟩ | exact ⟨a3, a4⟩ | exact ⟨c1, c2⟩ | exact ⟨c3, c4⟩ | exact ⟨e1, e2⟩ | exact ⟨e3, e4⟩ | fail)
    (first
      | (go_at_call 34; (with_reducible refine (HC.out _ HB0.out).mono ?_); rintro e x1 ⟨v1, rfl, ho1, hx1⟩; obtain ⟨as1, cap1, rfl⟩ := ho1.row.slice; have HA := Lib.hid (put_a HY.out ho1 (Nat.le_refl _) (below_trans HY0.out hx1)); have HYX := Lib.hid (below_trans HY0.out hx1).size; have HAB := Lib.hid HA.out.1.2.2; have HAC := Lib.hid (HA.out.1.below (al x1 (.cells #[.int .i64 i, .string d] 59))).2.2; have a1 := HA.out.1.1.2.1; have a2 := HA.out.1.1.2.2.1; have a3 := (HA.out.1.below (al x1 (.cells #[.int .i64 i, .string d] 59))).1.2.1; have a4 := (HA.out.1.below (al x1 (.cells #[.int .i64 i, .string d] 59))).1.2.2.1; clear ho1 hx1)
      | (go_at_call 34; (with_reducible refine (HC.out _ HB1.out).mono ?_); rintro e x1 ⟨v1, rfl, ho1, hx1⟩; obtain ⟨as1, cap1, rfl⟩ := ho1.row.slice; have HA := Lib.hid (put_a HY.out ho1 HY1.out.size (below_trans HY1.out hx1)); have HYX := Lib.hid (below_trans HY1.out hx1).size; have HAB := Lib.hid HA.out.1.2.2; have HAC := Lib.hid (HA.out.1.below (al x1 (.cells #[.int .i64 i, .string d] 59))).2.2; have a1 := HA.out.1.1.2.1; have a2 := HA.out.1.1.2.2.1; have a3 := (HA.out.1.below (al x1 (.cells #[.int .i64 i, .string d] 59))).1.2.1; have a4 := (HA.out.1.below (al x1 (.cells #[.int .i64 i, .string d] 59))).1.2.2.1; have HBx1 := Lib.hid (HBx.out.below (below_trans ((Below.refl _ _).drew) hx1)); clear ho1 hx1)
      | (go_at_call 101; (with_reducible refine (HK.out x1 HAB.out).mono ?_); rintro e x2 ⟨v2, rfl, ho2, hx2⟩; have HO2 := Lib.hid ho2; have HX2 := Lib.hid hx2; have HA2 := Lib.hid (HA.out.1.below hx2); have c1 := HA2.out.1.2.1; have c2 := HA2.out.1.2.2.1; have c3 := (HA2.out.below (al x2 (.cells #[.int .i64 i, .string d] 59))).1.2.1; have c4 := (HA2.out.below (al x2 (.cells #[.int .i64 i, .string d] 59))).1.2.2.1; clear ho2 hx2)
      | (go_at_call 101; (with_reducible refine (HK.out (x1.alloc (.cells #[.int .i64 i, .string d] 59)) HAC.out).mono ?_); rintro e x2 ⟨v2, rfl, ho2, hx2⟩; have HO2 := Lib.hid ho2; have HX2 := Lib.hid hx2; have HA2 := Lib.hid ((HA.out.1.below (al x1 (.cells #[.int .i64 i, .string d] 59))).below hx2); have c1 := HA2.out.1.2.1; have c2 := HA2.out.1.2.2.1; have HBx2 := Lib.hid ((Box2.made x1 (.int .i64 i) (.string d) 59).below hx2); clear ho2 hx2)
      | (refine step_append_lies _ (by rfl) _ _ _ (by rfl) x1.heap.size 59 i0 _ 2 24 Tryz.underlying23 hi hz0 hz1 hz2 rfl (by omega) v2 ws.length (wcells ws) (by rfl) (World.ownsRow.alloc HO2.out _) ⟨x2.heap.size, 0, none⟩ 1 1 [.int .i64 i, .string d] (by rfl) (by rfl) (news2 (Box2.made x2 (.int .i64 i) (.string d) 59)) (by simp [Value.oneCell']) (by omega) HM1.out HM2.out (Nat.le_trans HX2.out.size (by simp)) (x2.heap.size + 1) (by simp) ?_; intro gg capA w1 hown1 hgrow hat hltA; have HF := Lib.hid (put_end HA.out HYX.out (below_trans HX2.out (al x2 (.cells #[.int .i64 i, .string d] 59))) (World.ownsRow.alloc HO2.out _) (Nat.le_refl _) hgrow hown1); have e1 := HF.out.1.1.2.1; have e2 := HF.out.1.1.2.2.1; have e3 := (d2_keeps HF.out.1 (.slice as1 ls.length cap1) (.slice (some ⟨gg, 0, none⟩) (ws.length + 1) capA)).2.1; have e4 := (d2_keeps HF.out.1 (.slice as1 ls.length cap1) (.slice (some ⟨gg, 0, none⟩) (ws.length + 1) capA)).2.2.1; obtain ⟨q0, q1, q2, q3, q4⟩ := HF.out.1.2.1; clear hown1 hgrow hat)
      | (refine step_append_lies _ (by rfl) _ _ _ (by rfl) (x1.alloc (.cells #[.int .i64 i, .string d] 59)).heap.size 59 i0 _ 2 24 Tryz.underlying23 hi hz0 hz1 hz2 rfl (by omega) v2 ws.length (wcells ws) (by rfl) HO2.out ⟨x1.heap.size, 0, none⟩ 1 1 [.int .i64 i, .string d] (by rfl) (by rfl) (news2 HBx2.out) (by simp [Value.oneCell']) (by omega) HM1.out HM2.out HX2.out.size (x2.heap.size) (by simp) ?_; intro gg capA w1 hown1 hgrow hat hltA; have HF := Lib.hid (put_end HA.out HYX.out (below_trans (al x1 (.cells #[.int .i64 i, .string d] 59)) HX2.out) HO2.out (by simp) hgrow hown1); have e1 := HF.out.1.1.2.1; have e2 := HF.out.1.1.2.2.1; have e3 := (d2_keeps HF.out.1 (.slice as1 ls.length cap1) (.slice (some ⟨gg, 0, none⟩) (ws.length + 1) capA)).2.1; have e4 := (d2_keeps HF.out.1 (.slice as1 ls.length cap1) (.slice (some ⟨gg, 0, none⟩) (ws.length + 1) capA)).2.2.1; obtain ⟨q0, q1, q2, q3, q4⟩ := HF.out.1.2.1; clear hown1 hgrow hat)
      | (refine step_append_lies _ (by rfl) _ _ _ (by rfl) x1.heap.size 59 i0 _ 2 24 Tryz.underlying23 hi hz0 hz1 hz2 rfl (by omega) v2 ws.length (wcells ws) (by rfl) HO2.out ⟨y.heap.size, 0, none⟩ 1 1 [.int .i64 i, .string d] (by rfl) (by rfl) (news2 (HBx1.out.below HX2.out)) (by simp [Value.oneCell']) (by omega) HM1.out HM2.out HX2.out.size (x2.heap.size) (by simp) ?_; intro gg capA w1 hown1 hgrow hat hltA; have HF := Lib.hid (put_end HA.out HYX.out HX2.out HO2.out (Nat.le_refl _) hgrow hown1); have e1 := HF.out.1.1.2.1; have e2 := HF.out.1.1.2.2.1; have e3 := (d2_keeps HF.out.1 (.slice as1 ls.length cap1) (.slice (some ⟨gg, 0, none⟩) (ws.length + 1) capA)).2.1; have e4 := (d2_keeps HF.out.1 (.slice as1 ls.length cap1) (.slice (some ⟨gg, 0, none⟩) (ws.length + 1) capA)).2.2.1; obtain ⟨q0, q1, q2, q3, q4⟩ := HF.out.1.2.1; clear hown1 hgrow hat)
      | fail)
  all_goals
    have HE := Lib.hid (D2.ends HF.out.1 d0 HF.out.2.1 HF.out.2.2)
    go_wp2_with fail
    obtain ⟨z0, z1, z2, z3⟩ := HE.out
    unfold d2St at z0 z1 z2
    exact bodyPost_ret (v := .tuple #[.agg #[.slice as1 ls.length cap1, .slice (some ⟨gg, 0, none⟩) (ws.length + 1) capA], .int .i64 0]) (by simp [results, Tryz.results81, go_sem, z1, z2]) rfl ⟨_, _, rfl, z3⟩
end Go.Proofs.YtlpkalfbcphkmaaGreat.Disk

/-
  Contract of the law's own few: of a disk that came in some few sectors and writes, each cut, in new rows.
-/
namespace Go.Proofs.YtlpkalfbcphkmaaGreat.Disk
open Go.ChangeShapes Go.WideShapes Go.ChangeAt Go.RowKit Go.Lib

/-- A slice of texts that came in: its texts, wherever they lie. -/
def ArgS (w : World) (v : Value) : Prop := ∃ (a : Option Addr) (len cap : Nat), v = .slice a len cap ∧ len ≤ cap ∧ cap ≤ 9223372036854775807 ∧
  (0 < len → ∃ b off, a = some ⟨b, off, none⟩ ∧ b < w.heap.size ∧ ∀ j, j < len → ∃ t : ByteArray, t.size ≤ 9223372036854775807 ∧ w.cell? ⟨b, off + j, none⟩ = some (.string t))
/-- A slice of writes that came in. -/
def ArgW (w : World) (v : Value) : Prop := ∃ (a : Option Addr) (len cap : Nat), v = .slice a len cap ∧ len ≤ cap ∧ cap ≤ 9223372036854775807 ∧
  (0 < len → ∃ b off, a = some ⟨b, off, none⟩ ∧ b < w.heap.size ∧ ∀ j, j < len → ∃ (i : Int) (t : ByteArray), t.size ≤ 9223372036854775807 ∧ w.cell? ⟨b, off + j * 2, none⟩ = some (.int .i64 i) ∧ w.cell? ⟨b, off + j * 2 + 1, none⟩ = some (.string t))

theorem ArgS.below {w w' : World} {v : Value} (h : ArgS w v) (hb : Below w.heap.size w w') : ArgS w' v := by
  obtain ⟨a, len, cap, e, h1, h2, h3⟩ := h
  refine ⟨a, len, cap, e, h1, h2, fun h0 => ?_⟩
  obtain ⟨b, off, ea, hbl, hc⟩ := h3 h0
  refine ⟨b, off, ea, Nat.lt_of_lt_of_le hbl hb.size, fun j hj => ?_⟩
  obtain ⟨t, ht, hct⟩ := hc j hj
  exact ⟨t, ht, (hb.cell (p := ⟨b, off + j, none⟩) hbl).trans hct⟩
theorem ArgW.below {w w' : World} {v : Value} (h : ArgW w v) (hb : Below w.heap.size w w') : ArgW w' v := by
  obtain ⟨a, len, cap, e, h1, h2, h3⟩ := h
  refine ⟨a, len, cap, e, h1, h2, fun h0 => ?_⟩
  obtain ⟨b, off, ea, hbl, hc⟩ := h3 h0
  refine ⟨b, off, ea, Nat.lt_of_lt_of_le hbl hb.size, fun j hj => ?_⟩
  obtain ⟨i, t, ht, hct1, hct2⟩ := hc j hj
  exact ⟨i, t, ht, (hb.cell (p := ⟨b, off + j * 2, none⟩) hbl).trans hct1, (hb.cell (p := ⟨b, off + j * 2 + 1, none⟩) hbl).trans hct2⟩

/-- few's blocks: the disk that came in, the result, what is made. -/
def FewB (w : World) (vS vW u v : Value) (l : List ByteArray) (m : List (Int × ByteArray)) (W : World) : Prop :=
  Box2 w.heap.size vS vW W ∧ Box2 (w.heap.size + 1) (.slice none 0 0) (.slice none 0 0) W ∧ Box2 (w.heap.size + 1 + 1) u v W ∧ OwnS (w.heap.size + 3) u l W ∧ OwnW (w.heap.size + 3) v m W ∧ Below w.heap.size w W
def fewW (w : World) (vS vW : Value) : World := ((w.alloc (.cells #[vS, vW] 25)).alloc (.cells #[.slice none 0 0, .slice none 0 0] 25)).alloc (.cells #[.slice none 0 0, .slice none 0 0] 25)
theorem FewB.made (w : World) (vS vW : Value) : FewB w vS vW (.slice none 0 0) (.slice none 0 0) [] [] (fewW w vS vW) := by
  have b1 := Box2.made w vS vW 25
  have b2 := Box2.made (w.alloc (.cells #[vS, vW] 25)) (.slice none 0 0) (.slice none 0 0) 25
  have b3 := Box2.made ((w.alloc (.cells #[vS, vW] 25)).alloc (.cells #[.slice none 0 0, .slice none 0 0] 25)) (.slice none 0 0) (.slice none 0 0) 25
  simp only [World.size_alloc] at b2 b3
  exact ⟨(b1.below (al _ _)).below (al _ _), b2.below (al _ _), b3, World.ownsRow_nil _ _ _ _, World.ownsRow_nil _ _ _ _, below_trans (below_trans (al _ _) (al _ _)) (al _ _)⟩
theorem OwnW.below {B : Nat} {v : Value} {ls : List (Int × ByteArray)} {w w' : World} (h : OwnW B v ls w) (hb : Below w.heap.size w w') : OwnW B v ls w' := by
  obtain ⟨h0, h1 | ⟨g, cap, cur, hv, hg, hh, hrest⟩⟩ := h
  · exact ⟨h0, .inl h1⟩
  · exact ⟨h0, .inr ⟨g, cap, cur, hv, hg, (hb.block g (Array.getElem?_eq_some_iff.1 hh).1).trans hh, hrest⟩⟩
theorem OwnW.setBelow {w : World} {B b i : Nat} {v u : Value} {ls : List (Int × ByteArray)} (h : OwnW B v ls w) (hb : b < B) : OwnW B v ls (w.setCell ⟨b, i, none⟩ u) := by
  obtain ⟨h0, h1 | ⟨g, cap, cur, hv, hg, hh, hrest⟩⟩ := h
  · exact ⟨h0, .inl h1⟩
  · exact ⟨h0, .inr ⟨g, cap, cur, hv, hg, (Below.heap_setCell _ _ _ g (by simp; omega)).trans hh, hrest⟩⟩
theorem FewB.below {w W W' : World} {vS vW u v : Value} {l : List ByteArray} {m : List (Int × ByteArray)} (h : FewB w vS vW u v l m W) (hb : Below W.heap.size W W') : FewB w vS vW u v l m W' :=
  ⟨h.1.below hb, h.2.1.below hb, h.2.2.1.below hb, h.2.2.2.1.below hb, h.2.2.2.2.1.below hb, below_trans h.2.2.2.2.2 hb⟩
theorem Box2.grown {b : Nat} {c0 c1 : Value} {W W' : World} {row : Option Nat} (h : Box2 b c0 c1 W) (hg : W.grownBy W' row) (hne : some b ≠ row) : Box2 b c0 c1 W' := by
  have e := hg.block b h.1 hne
  obtain ⟨h0, h1, h2, h3, h4⟩ := h
  refine ⟨Nat.lt_of_lt_of_le h0 hg.size, ?_, ?_, ?_, ?_⟩
  · exact (World.cell?_of_block (a := ⟨b, 0, none⟩) e).trans h1
  · exact (World.cell?_of_block (a := ⟨b, 1, none⟩) e).trans h2
  · exact (World.frozen?_of_block (a := ⟨b, 0, none⟩) e).trans h3
  · exact (World.frozen?_of_block (a := ⟨b, 1, none⟩) e).trans h4
theorem Box2.set0 {b : Nat} {c0 c1 : Value} {w : World} (h : Box2 b c0 c1 w) (u : Value) : Box2 b u c1 (w.setCell ⟨b, 0, none⟩ u) := by
  obtain ⟨h0, h1, h2, h3, h4⟩ := h
  have n01 : (⟨b, 0, none⟩ : Addr) ≠ ⟨b, 1, none⟩ := by simp
  exact ⟨by simpa using h0, World.cell?_setCell_same _ _ _ h1, by rw [World.cell?_setCell_other _ _ _ _ n01]; exact h2, by rw [World.frozen?_setCell]; exact h3, by rw [World.frozen?_setCell]; exact h4⟩
theorem Box2.set1 {b : Nat} {c0 c1 : Value} {w : World} (h : Box2 b c0 c1 w) (u : Value) : Box2 b c0 u (w.setCell ⟨b, 1, none⟩ u) := by
  obtain ⟨h0, h1, h2, h3, h4⟩ := h
  have n01 : (⟨b, 1, none⟩ : Addr) ≠ ⟨b, 0, none⟩ := by simp
  exact ⟨by simpa using h0, by rw [World.cell?_setCell_other _ _ _ _ n01]; exact h1, World.cell?_setCell_same _ _ _ h2, by rw [World.frozen?_setCell]; exact h3, by rw [World.frozen?_setCell]; exact h4⟩
/-- The two rows lie in unlike blocks. -/
theorem own_apart {B : Nat} {u v : Value} {l : List ByteArray} {m : List (Int × ByteArray)} {W : World} (hu : OwnS B u l W) (hv : OwnW B v m W) : (u.ownBlock = none ∨ u.ownBlock ≠ v.ownBlock) ∧ (v.ownBlock = none ∨ v.ownBlock ≠ u.ownBlock) := by
  obtain ⟨_, ⟨rfl, _⟩ | ⟨g, cap, cur, rfl, _, hh, _⟩⟩ := hu
  · refine ⟨.inl rfl, ?_⟩
    cases h : v.ownBlock with
    | none => exact .inl rfl
    | some k => exact .inr (by simp [Value.ownBlock])
  · obtain ⟨_, ⟨rfl, _⟩ | ⟨g', cap', cur', rfl, _, hh', _⟩⟩ := hv
    · exact ⟨.inr (by simp [Value.ownBlock]), .inl rfl⟩
    · have hne : g ≠ g' := by
        rintro rfl
        rw [hh] at hh'
        simp at hh'
      exact ⟨.inr (by simpa [Value.ownBlock] using hne), .inr (by simpa [Value.ownBlock] using Ne.symm hne)⟩
/-- One text more. -/
theorem FewB.snocS {w W w1 : World} {vS vW u v : Value} {l : List ByteArray} {m : List (Int × ByteArray)} {t : ByteArray} {gg cap : Nat} (h : FewB w vS vW u v l m W) (hg : W.grownBy w1 u.ownBlock)
    (hown : w1.ownsRow (w.heap.size + 3) 9 1 (.slice (some ⟨gg, 0, none⟩) (l.length + 1) cap) (l.length + 1) (scells l ++ [.string t])) :
    Box2 (w.heap.size + 1 + 1) u v w1 ∧ FewB w vS vW (.slice (some ⟨gg, 0, none⟩) (l.length + 1) cap) v (l ++ [t]) m (w1.setCell ⟨w.heap.size + 1 + 1, 0, none⟩ (.slice (some ⟨gg, 0, none⟩) (l.length + 1) cap)) := by
  obtain ⟨h1, h2, h3, h4, h5, h6⟩ := h
  have hlt := fun k e => (World.ownsRow.lt h4 k e).1
  have ne : ∀ b, b < w.heap.size + 3 → some b ≠ u.ownBlock := fun b hb e => by have := hlt b e.symm; omega
  have k3 := h3.grown hg (ne _ (by omega))
  have kW : OwnW (w.heap.size + 3) v m w1 := World.ownsRow.kept h5 hg (own_apart h4 h5).2
  have kS : OwnS (w.heap.size + 3) (.slice (some ⟨gg, 0, none⟩) (l.length + 1) cap) (l ++ [t]) w1 := by
    unfold OwnS
    rw [scells_snoc, List.length_append]
    exact hown
  have kB : Below w.heap.size w w1 := h6.grown hg h6.size (fun k e => by have := hlt k e; omega)
  exact ⟨k3, (h1.grown hg (ne _ (by omega))).other (by omega) _, (h2.grown hg (ne _ (by omega))).other (by omega) _, k3.set0 _, kS.setBelow (by omega), kW.setBelow (by omega), kB.setCell (p := ⟨w.heap.size + 1 + 1, 0, none⟩) (by simp; omega) _⟩
/-- One write more. -/
theorem FewB.snocW {w W w1 : World} {vS vW u v : Value} {l : List ByteArray} {m : List (Int × ByteArray)} {i : Int} {t : ByteArray} {gg cap : Nat} (h : FewB w vS vW u v l m W) (hg : W.grownBy w1 v.ownBlock)
    (hown : w1.ownsRow (w.heap.size + 3) 59 2 (.slice (some ⟨gg, 0, none⟩) (m.length + 1) cap) (m.length + 1) (wcells m ++ [.int .i64 i, .string t])) :
    Box2 (w.heap.size + 1 + 1) u v w1 ∧ FewB w vS vW u (.slice (some ⟨gg, 0, none⟩) (m.length + 1) cap) l (m ++ [(i, t)]) (w1.setCell ⟨w.heap.size + 1 + 1, 1, none⟩ (.slice (some ⟨gg, 0, none⟩) (m.length + 1) cap)) := by
  obtain ⟨h1, h2, h3, h4, h5, h6⟩ := h
  have hlt := fun k e => (World.ownsRow.lt h5 k e).1
  have ne : ∀ b, b < w.heap.size + 3 → some b ≠ v.ownBlock := fun b hb e => by have := hlt b e.symm; omega
  have k3 := h3.grown hg (ne _ (by omega))
  have kS : OwnS (w.heap.size + 3) u l w1 := World.ownsRow.kept h4 hg (own_apart h4 h5).1
  have kW : OwnW (w.heap.size + 3) (.slice (some ⟨gg, 0, none⟩) (m.length + 1) cap) (m ++ [(i, t)]) w1 := by
    unfold OwnW
    rw [wcells_snoc, List.length_append]
    exact hown
  have kB : Below w.heap.size w w1 := h6.grown hg h6.size (fun k e => by have := hlt k e; omega)
  exact ⟨k3, (h1.grown hg (ne _ (by omega))).other (by omega) _, (h2.grown hg (ne _ (by omega))).other (by omega) _, k3.set1 _, kS.setBelow (by omega), kW.setBelow (by omega), kB.setCell (p := ⟨w.heap.size + 1 + 1, 1, none⟩) (by simp; omega) _⟩

/-- A disk of few sectors and writes, in new rows, is returned. -/
def FewE (w : World) (e : Ending) (w' : World) : Prop :=
  ∃ uS uW ls ws, e = .returned (.agg #[uS, uW]) ∧ ls.length ≤ 20 ∧ ws.length ≤ 66 ∧ (∀ t ∈ ls, t.size ≤ 66) ∧ (∀ y ∈ ws, y.2.size ≤ 66) ∧ (SRow w' uS ls ∧ From w.heap.size uS) ∧ (WRow w' uW ws ∧ From w.heap.size uW) ∧ Below w.heap.size w w'

theorem from_ownS {B : Nat} {u : Value} {l : List ByteArray} {W : World} (h : OwnS B u l W) : From B u := fun g o n cap e => by subst e; exact (World.ownsRow.lt h g rfl).1
theorem from_ownW {B : Nat} {u : Value} {l : List (Int × ByteArray)} {W : World} (h : OwnW B u l W) : From B u := fun g o n cap e => by subst e; exact (World.ownsRow.lt h g rfl).1
theorem few_end {w W : World} {vS vW u v : Value} {l : List ByteArray} {m : List (Int × ByteArray)} (h : FewB w vS vW u v l m W) :
    Box2 (w.heap.size + 1) u v ((W.setCell ⟨w.heap.size + 1, 0, none⟩ u).setCell ⟨w.heap.size + 1, 1, none⟩ v) ∧
    (SRow ((W.setCell ⟨w.heap.size + 1, 0, none⟩ u).setCell ⟨w.heap.size + 1, 1, none⟩ v) u l ∧ From w.heap.size u) ∧ (WRow ((W.setCell ⟨w.heap.size + 1, 0, none⟩ u).setCell ⟨w.heap.size + 1, 1, none⟩ v) v m ∧ From w.heap.size v) ∧
    Below w.heap.size w ((W.setCell ⟨w.heap.size + 1, 0, none⟩ u).setCell ⟨w.heap.size + 1, 1, none⟩ v) := by
  obtain ⟨h1, h2, h3, h4, h5, h6⟩ := h
  exact ⟨h2.set u v, ⟨((h4.setBelow (b := w.heap.size + 1) (by omega)).setBelow (b := w.heap.size + 1) (by omega)).row, (from_ownS h4).mono (by omega)⟩, ⟨((h5.setBelow (b := w.heap.size + 1) (by omega)).setBelow (b := w.heap.size + 1) (by omega)).row, (from_ownW h5).mono (by omega)⟩,
    (h6.setCell (p := ⟨w.heap.size + 1, 0, none⟩) (by simp) _).setCell (p := ⟨w.heap.size + 1, 1, none⟩) (by simp) _⟩

/-- What holds at the heads of few's two loops. -/
def Few1 (w : World) (vS vW : Value) (n : Nat) (i : Value) (wr : World) : Prop := ∃ u l, l.length ≤ n ∧ i = .int .i64 l.length ∧ (∀ t ∈ l, t.size ≤ 66) ∧ FewB w vS vW u (.slice none 0 0) l [] wr
def Few2 (w : World) (vS vW u : Value) (l : List ByteArray) (n : Nat) (i : Value) (wr : World) : Prop := ∃ v m, m.length ≤ n ∧ i = .int .i64 m.length ∧ (∀ y ∈ m, y.2.size ≤ 66) ∧ FewB w vS vW u v l m wr

end Go.Proofs.YtlpkalfbcphkmaaGreat.Disk

/-
  A disk among a law's arguments, opened: its two slices, whatever they hold.
-/
namespace Go.Proofs.YtlpkalfbcphkmaaGreat.Disk
open Go.ChangeShapes Go.WideShapes Go.ChangeAt Go.RowKit Go.Lib

section
variable {H : Type} {enc : TypeId × Value → H} {W : World} {base : Nat} {spare : Nat → Bool} {held : Bool}

theorem add_off (b off j : Nat) : (⟨b, off, none⟩ : Addr).add j = ⟨b, off + j, none⟩ := by
  unfold Addr.add
  split
  · rename_i h; subst h; rfl
  · rfl
theorem argS_of {fuel : Nat} {v : Value} {x : DataW H × List MemPlace} (h : DataW.trod enc Tryz.prog W base spare held fuel 22 [v] = some x) : ArgS W v := by
  rcases open_strings Tryz.underlying22 Tryz.underlying9 (by kernel_rfl) h with ⟨hcs, _⟩ | ⟨a, len, cap, ss, hcs, _, hl, hm, hz, _, hcell, hws⟩
  · obtain rfl : v = .slice none 0 0 := by simpa using hcs
    exact ⟨none, 0, 0, rfl, Nat.le_refl _, by omega, fun h => absurd h (Nat.lt_irrefl _)⟩
  · obtain rfl : v = .slice (some a) len cap := by simpa using hcs
    unfold maxLen at hm hws
    refine ⟨some a, len, cap, rfl, hl, by omega, fun h0 => ?_⟩
    have hls : len ≤ ss.length := by rw [hz]; split <;> omega
    obtain ⟨b, off, spot⟩ := a
    have hc := hcell 0 (by omega)
    have hspot : spot = none := by simpa [Addr.add] using World.cell?_spot hc
    subst hspot
    refine ⟨b, off, rfl, by simpa [Addr.add] using block_lt_of_cell hc, fun j hj => ⟨ss.getD j ByteArray.empty, ?_, ?_⟩⟩
    · have hjs : j < ss.length := by omega
      have := hws (ss.getD j ByteArray.empty) (by simp [List.getD, List.getElem?_eq_getElem hjs])
      omega
    · rw [← add_off]; exact hcell j (by omega)
theorem argW_of {fuel : Nat} {v : Value} {x : DataW H × List MemPlace} (h : DataW.trod enc Tryz.prog W base spare held fuel 23 [v] = some x) : ArgW W v := by
  rcases Deep.open_slice_pairs Tryz.underlying23 Tryz.underlying59 (by kernel_rfl) rfl rfl (by kernel_rfl) (by kernel_rfl) h with ⟨hcs, _⟩ | ⟨a, len, cap, m, n, V0, V1, D0, D1, P0, P1, hcs, _, hl, hm, hmm, _, hcell⟩
  · obtain rfl : v = .slice none 0 0 := by simpa using hcs
    exact ⟨none, 0, 0, rfl, Nat.le_refl _, by omega, fun h => absurd h (Nat.lt_irrefl _)⟩
  · obtain rfl : v = .slice (some a) len cap := by simpa using hcs
    unfold maxLen at hm
    refine ⟨some a, len, cap, rfl, hl, by omega, fun h0 => ?_⟩
    have hls : len ≤ m := by rw [hmm]; split <;> omega
    obtain ⟨b, off, spot⟩ := a
    have hc := (hcell 0 (by omega)).1
    have hspot : spot = none := by simpa [Addr.add] using World.cell?_spot hc
    subst hspot
    refine ⟨b, off, rfl, by simpa [Addr.add] using block_lt_of_cell hc, fun j hj => ?_⟩
    obtain ⟨h1, h2, h3, h4⟩ := hcell j (by omega)
    obtain ⟨i, e1, _⟩ := DataW.trod_int Tryz.underlying3 h3
    obtain ⟨t, e2, _, ht⟩ := DataW.trod_string Tryz.underlying9 h4
    have e1' : V0 j = .int .i64 i := by simpa using e1
    have e2' : V1 j = .string t := by simpa using e2
    rw [e1', add_off] at h1
    rw [e2', add_off] at h2
    unfold maxLen at ht
    exact ⟨i, t, by omega, h1, by rw [← h2]; congr 2⟩

set_option maxRecDepth 100000 in
theorem open_disk {v : Value} {fuel : Nat} {x : DataW H × List MemPlace} {r : Reach} {b0 : Nat} (hv : Value.okWide Tryz.prog W r b0 25 v) (h : DataW.trod enc Tryz.prog W base spare held fuel 25 v.cells.toList = some x) :
    ∃ vS vW, v = .agg #[vS, vW] ∧ ArgS W vS ∧ ArgW W vW := by
  obtain ⟨cs, rfl, hcs⟩ := okWide_struct Tryz.underlying25 hv
  have h2 : Tryz.prog.cellsOf 25 = 2 := by kernel_rfl
  rw [h2] at hcs
  obtain ⟨y0, y1, n, _, _, g0, g1⟩ := trod_struct2 Tryz.underlying25 h
  have k0 : Tryz.prog.cellsOf 22 = 1 := by kernel_rfl
  have k1 : Tryz.prog.cellsOf 23 = 1 := by kernel_rfl
  match cs, hcs with
  | ⟨[c0, c1]⟩, _ =>
    dsimp only [Value.cells] at g0 g1
    rw [k0] at g0
    rw [k1] at g1
    exact ⟨c0, c1, rfl, argS_of g0, argW_of g1⟩
end
end Go.Proofs.YtlpkalfbcphkmaaGreat.Disk

/-
  Plain mathematics of crashes: what a sector may hold behind one. No program in it.
-/
namespace Go.Proofs.YtlpkalfbcphkmaaGreat.Disk
open Go.Lib

/-- Byte i of a text. -/
def byt (s : ByteArray) (i : Nat) : Nat := (s.data.toList.getD i 0).toNat
theorem byt_eq {s : ByteArray} {i : Nat} (h : i < s.size) : s[i].toNat = byt s i := by
  have h' : i < s.data.toList.length := by rw [bytes_size]; exact h
  unfold byt
  rw [List.getD, List.getElem?_eq_getElem h']
  rfl
theorem byt_torn {s d : ByteArray} {n i : Nat} (hd : n ≤ d.size) : byt (torn s d n) i = if i < n then byt d i else byt s i := by
  unfold byt torn
  have hl : (d.data.toList.take n).length = n := by rw [List.length_take, bytes_size]; omega
  have : (over (d.data.toList.take n) s.data.toList).toArray.toList = over (d.data.toList.take n) s.data.toList := by simp
  show ((over (d.data.toList.take n) s.data.toList).toArray.toList.getD i 0).toNat = _
  rw [this, List.getD, over_at, hl]
  by_cases h : i < n
  · rw [if_pos h, if_pos h, List.getElem?_take, if_pos h]; rfl
  · rw [if_neg h, if_neg h]; rfl
/-- Sector a's text x is made of bytes of the sector that was safe and of writes at its place. -/
def Made (ls : List ByteArray) (ws : List (Int × ByteArray)) (a : Nat) (x : ByteArray) : Prop :=
  ∀ i, i < 64 → byt x i = byt (ls.getD a ⟨#[]⟩) i ∨ ∃ j, ∃ h : j < ws.length, ws[j].1 = (a : Int) ∧ byt ws[j].2 i = byt x i
theorem keepTo_made {kp : Nat} {ls : List ByteArray} {ws : List (Int × ByteArray)} (hP : rightP ls ws) : ∀ k, k ≤ ws.length → ∀ a, a < ls.length → Made ls ws a ((keepTo kp ls ws k).getD a ⟨#[]⟩)
  | 0, _, a, ha => fun i hi => .inl rfl
  | k + 1, hk, a, ha => by
    have hk' : k < ws.length := by omega
    by_cases hb : bitB kp k = true
    · have e : keepTo kp ls ws (k + 1) = (keepTo kp ls ws k).set (wat ws k).1.toNat (wat ws k).2 := if_pos hb
      rw [e, wat_at hk', List.getD, List.getElem?_set]
      obtain ⟨y1, y2, y3⟩ := hP.2.2.2.2 k hk'
      by_cases hc : ws[k].1.toNat = a
      · rw [if_pos hc, if_pos (by rw [keepTo_len]; omega)]
        exact fun i hi => .inr ⟨k, hk', by omega, rfl⟩
      · rw [if_neg hc]
        exact keepTo_made hP k (by omega) a ha
    · have e : keepTo kp ls ws (k + 1) = keepTo kp ls ws k := if_neg hb
      rw [e]
      exact keepTo_made hP k (by omega) a ha
theorem crashL_len (kp : Nat) (ls : List ByteArray) (ws : List (Int × ByteArray)) (t : Int) : (crashL kp ls ws t).length = ls.length := by
  unfold crashL
  split
  · exact keepTo_len _ _ _ _
  · split
    · rw [List.length_set]; exact keepTo_len _ _ _ _
    · exact keepTo_len _ _ _ _
theorem getD_eq {l : List ByteArray} {a : Nat} (h : a < l.length) : l.getD a ⟨#[]⟩ = l[a] := by rw [List.getD, List.getElem?_eq_getElem h]; rfl
theorem crashL_made {kp : Nat} {ls : List ByteArray} {ws : List (Int × ByteArray)} (hP : rightP ls ws) (t : Int) {a : Nat} (ha : a < ls.length) : Made ls ws a ((crashL kp ls ws t).getD a ⟨#[]⟩) ∧ ((crashL kp ls ws t).getD a ⟨#[]⟩).size = 64 := by
  have hK := keepTo_made (kp := kp) hP ws.length (Nat.le_refl _)
  have hZ : ∀ b, b < ls.length → ((keepTo kp ls ws ws.length).getD b ⟨#[]⟩).size = 64 := fun b hb => by
    rw [getD_eq (by rw [keepTo_len]; exact hb)]
    exact keepTo_size hP _ (Nat.le_refl _) _
  unfold crashL
  split
  · exact ⟨hK a ha, hZ a ha⟩
  · rename_i r hr
    have hrl := lostO_lt hr
    obtain ⟨y1, y2, y3⟩ := hP.2.2.2.2 r hrl
    split
    · rename_i ht
      rw [wat_at hrl]
      rw [List.getD, List.getElem?_set]
      by_cases hc : ws[r].1.toNat = a
      · rw [if_pos hc, if_pos (by rw [keepTo_len]; omega)]
        subst hc
        refine ⟨fun i hi => ?_, ?_⟩
        · show byt (torn _ ws[r].2 t.toNat) i = _ ∨ _
          rw [Option.getD_some, byt_torn (by omega)]
          by_cases hin : i < t.toNat
          · rw [if_pos hin]
            exact .inr ⟨r, hrl, by omega, rfl⟩
          · rw [if_neg hin]
            exact hK _ ha i hi
        · show (torn _ ws[r].2 t.toNat).size = 64
          rw [torn_size (by rw [hZ _ ha]; omega), hZ _ ha]
      · rw [if_neg hc]
        exact ⟨hK a ha, hZ a ha⟩
    · exact ⟨hK a ha, hZ a ha⟩
end Go.Proofs.YtlpkalfbcphkmaaGreat.Disk
