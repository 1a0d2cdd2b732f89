/-
  Contract of Put (package disk): a write more, or refused.
-/
import Derived.Test.YthoeidgekogfiaaDiskCrash
import Derived.Deep.AppendLies
namespace Go.Proofs.Ythoeidgekogfiaa.Disk
open Go.ChangeShapes Go.WideShapes Go.ChangeAt Go.RowKit Go.Lib

set_option maxHeartbeats 2000000 in
set_option maxRecDepth 100000 in
theorem Put_bad {vS vW : Value} {ls : List ByteArray} {ws : List (Int × ByteArray)} {w : World} (hS : SRow w vS ls) (hW : WRow w vW ws) (hr : smallP ls ws) (hb : rightB ls ws = false) (i : Int) (d : ByteArray) : Calls Try.prog 8 #[.agg #[vS, vW], .int .i64 i, .string d] w (DiskE [] [] 1 w) := by
  have HR := Lib.hid (fun W (h : Below w.heap.size w W) => hb ▸ Right_any (hS.below h) (hW.below h) hr)
  obtain ⟨aS, cap, rfl⟩ := hS.slice
  obtain ⟨aW, capW, rfl⟩ := hW.slice
  have HD := Lib.hid (D2.made w (.slice aS ls.length cap) (.slice aW ws.length capW))
  clear hS hW
  go_enter Try.func8, Try.ntmps8
  go_wp2_with fail
  refine (HR.out _ HD.out.2.2).mono ?_
  rintro e x ⟨rfl, hx⟩
  have HX := Lib.hid (HD.out.below hx)
  obtain ⟨⟨b0, b1, b2, b3, b4⟩, ⟨d0, d1, d2, d3, d4⟩, _⟩ := HX.out
  have HZ := Lib.hid (HX.out.stored (.slice none 0 0) (.slice none 0 0))
  clear hx HD
  go_wp2_with fail
  obtain ⟨⟨z0, z1, z2, _⟩, zb⟩ := HZ.out
  unfold d2St at z1 z2
  exact bodyPost_ret (v := .tuple #[.agg #[.slice none 0 0, .slice none 0 0], .int .i64 1]) (by simp [results, Try.results8, go_sem, z1, z2]) rfl ⟨_, _, rfl, ⟨.inl ⟨rfl, rfl⟩, from_nil _⟩, ⟨.inl ⟨rfl, rfl⟩, from_nil _⟩, zb⟩

/-- The error that Put tells of a disk that may be. -/
def putE (n m : Nat) (i : Int) (s : Nat) : Int := if hasB n i = false then 8 else if s ≠ 64 then 1 else if m = 64 then 7 else 0

set_option maxHeartbeats 2000000 in
set_option maxRecDepth 100000 in
theorem Put_no {vS vW : Value} {ls : List ByteArray} {ws : List (Int × ByteArray)} {w : World} (hS : SRow w vS ls) (hW : WRow w vW ws) (hr : smallP ls ws) (hb : rightB ls ws = true) (i : Int) (d : ByteArray) (hne : putE ls.length ws.length i d.size ≠ 0) : Calls Try.prog 8 #[.agg #[vS, vW], .int .i64 i, .string d] w (DiskE [] [] (putE ls.length ws.length i d.size) w) := by
  have HR := Lib.hid (fun W (h : Below w.heap.size w W) => hb ▸ Right_any (hS.below h) (hW.below h) hr)
  obtain ⟨aS, cap, rfl⟩ := hS.slice
  obtain ⟨aW, capW, rfl⟩ := hW.slice
  have HD := Lib.hid (D2.made w (.slice aS ls.length cap) (.slice aW ws.length capW))
  have HH := Lib.hid (fun W => has_any aS ls.length cap (.slice aW ws.length capW) i W)
  have HP : Hid (∀ {e : Int}, e = putE ls.length ws.length i d.size → putE ls.length ws.length i d.size = e) := fun h => h.symm
  generalize hpe : putE ls.length ws.length i d.size = pe at hne ⊢
  have HPE := Lib.hid hpe
  clear hS hW hpe HP
  have hl3 := (rightB_t.1 hb).2.2.1
  by_cases hh : hasB ls.length i = true
  · by_cases hs : d.size = 64
    · by_cases hm : ws.length = 64
      · have HE : Hid (pe = 7) := by unfold Hid; rw [← HPE.out, putE, if_neg (by rw [hh]; simp), if_neg (by omega), if_pos hm]
        have HM := Lib.hid hm
        clear hm
        go_enter Try.func8, Try.ntmps8
        go_wp2_with fail
        refine (HR.out _ HD.out.2.2).mono ?_
        rintro e x ⟨rfl, hx⟩
        have HX := Lib.hid (HD.out.below hx)
        obtain ⟨⟨b0, b1, b2, b3, b4⟩, ⟨d0, d1, d2, d3, d4⟩, _⟩ := HX.out
        clear hx HD
        go_wp2_with fail
        refine (HH.out _).mono ?_
        rintro e y ⟨rfl, hy⟩
        rw [hh]
        clear b0 b1 b2 b3 b4 d0 d1 d2 d3 d4
        have HY := Lib.hid (HX.out.below hy)
        obtain ⟨⟨b0, b1, b2, b3, b4⟩, ⟨d0, d1, d2, d3, d4⟩, _⟩ := HY.out
        have HZ := Lib.hid (HY.out.stored (.slice none 0 0) (.slice none 0 0))
        clear hy HX
        have hm := HM.out
        go_wp2_with fail
        obtain ⟨⟨z0, z1, z2, _⟩, zb⟩ := HZ.out
        unfold d2St at z1 z2
        exact bodyPost_ret (v := .tuple #[.agg #[.slice none 0 0, .slice none 0 0], .int .i64 7]) (by simp [results, Try.results8, go_sem, z1, z2]) rfl ⟨_, _, by rw [HE.out], ⟨.inl ⟨rfl, rfl⟩, from_nil _⟩, ⟨.inl ⟨rfl, rfl⟩, from_nil _⟩, zb⟩
      · exact absurd (by rw [← HPE.out, putE, if_neg (by rw [hh]; simp), if_neg (by omega), if_neg hm]) hne
    · have HE : Hid (pe = 1) := by unfold Hid; rw [← HPE.out, putE, if_neg (by rw [hh]; simp), if_pos hs]
      go_enter Try.func8, Try.ntmps8
      go_wp2_with fail
      refine (HR.out _ HD.out.2.2).mono ?_
      rintro e x ⟨rfl, hx⟩
      have HX := Lib.hid (HD.out.below hx)
      obtain ⟨⟨b0, b1, b2, b3, b4⟩, ⟨d0, d1, d2, d3, d4⟩, _⟩ := HX.out
      clear hx HD
      go_wp2_with fail
      refine (HH.out _).mono ?_
      rintro e y ⟨rfl, hy⟩
      rw [hh]
      clear b0 b1 b2 b3 b4 d0 d1 d2 d3 d4
      have HY := Lib.hid (HX.out.below hy)
      obtain ⟨⟨b0, b1, b2, b3, b4⟩, ⟨d0, d1, d2, d3, d4⟩, _⟩ := HY.out
      have HZ := Lib.hid (HY.out.stored (.slice none 0 0) (.slice none 0 0))
      clear hy HX
      go_wp2_with fail
      obtain ⟨⟨z0, z1, z2, _⟩, zb⟩ := HZ.out
      unfold d2St at z1 z2
      exact bodyPost_ret (v := .tuple #[.agg #[.slice none 0 0, .slice none 0 0], .int .i64 1]) (by simp [results, Try.results8, go_sem, z1, z2]) rfl ⟨_, _, by rw [HE.out], ⟨.inl ⟨rfl, rfl⟩, from_nil _⟩, ⟨.inl ⟨rfl, rfl⟩, from_nil _⟩, zb⟩
  · have hh' : hasB ls.length i = false := by simpa using hh
    have HE : Hid (pe = 8) := by unfold Hid; rw [← HPE.out, putE, if_pos hh']
    go_enter Try.func8, Try.ntmps8
    go_wp2_with fail
    refine (HR.out _ HD.out.2.2).mono ?_
    rintro e x ⟨rfl, hx⟩
    have HX := Lib.hid (HD.out.below hx)
    obtain ⟨⟨b0, b1, b2, b3, b4⟩, ⟨d0, d1, d2, d3, d4⟩, _⟩ := HX.out
    clear hx HD
    go_wp2_with fail
    refine (HH.out _).mono ?_
    rintro e y ⟨rfl, hy⟩
    rw [hh']
    clear b0 b1 b2 b3 b4 d0 d1 d2 d3 d4
    have HY := Lib.hid (HX.out.below hy)
    obtain ⟨⟨b0, b1, b2, b3, b4⟩, ⟨d0, d1, d2, d3, d4⟩, _⟩ := HY.out
    have HZ := Lib.hid (HY.out.stored (.slice none 0 0) (.slice none 0 0))
    clear hy HX
    go_wp2_with fail
    obtain ⟨⟨z0, z1, z2, _⟩, zb⟩ := HZ.out
    unfold d2St at z1 z2
    exact bodyPost_ret (v := .tuple #[.agg #[.slice none 0 0, .slice none 0 0], .int .i64 8]) (by simp [results, Try.results8, go_sem, z1, z2]) rfl ⟨_, _, by rw [HE.out], ⟨.inl ⟨rfl, rfl⟩, from_nil _⟩, ⟨.inl ⟨rfl, rfl⟩, from_nil _⟩, zb⟩

theorem al (W : World) (o : Obj) : Below W.heap.size W (W.alloc o) := (Below.refl _ _).alloc (Nat.le_refl _) _
theorem put_a {w y x1 : World} {vS vW v1 : Value} {ls : List ByteArray} {B : Nat} (hD : D2 w vS vW y) (ho : OwnS B v1 ls x1) (hB : y.heap.size ≤ B) (hb : Below y.heap.size y x1) : D2 w vS vW x1 ∧ (SRow x1 v1 ls ∧ From y.heap.size v1) := by
  refine ⟨hD.below hb, ho.row, ?_⟩
  intro g o n cap e
  subst e
  have := (World.ownsRow.lt ho) g rfl
  omega

theorem put_end {w y x1 Wc w1 : World} {vS vW u1 v2 : Value} {ls : List ByteArray} {ws : List (Int × ByteArray)} {B gg cap : Nat} {i : Int} {d : ByteArray} (hA : D2 w vS vW x1 ∧ (SRow x1 u1 ls ∧ From y.heap.size u1)) (hy : y.heap.size ≤ x1.heap.size)
    (h12 : Below x1.heap.size x1 Wc) (ho : Wc.ownsRow B 43 2 v2 ws.length (wcells ws)) (hB : x1.heap.size ≤ B) (hg : Wc.grownBy w1 v2.ownBlock)
    (hown : w1.ownsRow B 43 2 (.slice (some ⟨gg, 0, none⟩) (ws.length + 1) cap) (ws.length + 1) (wcells ws ++ [.int .i64 i, .string d])) :
    D2 w vS vW w1 ∧ (SRow w1 u1 ls ∧ From y.heap.size u1) ∧ (WRow w1 (.slice (some ⟨gg, 0, none⟩) (ws.length + 1) cap) (ws ++ [(i, d)]) ∧ From y.heap.size (.slice (some ⟨gg, 0, none⟩) (ws.length + 1) cap)) := by
  have hb : Below x1.heap.size x1 w1 := h12.grown hg h12.size (fun k e => Nat.le_trans hB ((ho.lt k e).1))
  have hO : OwnW B (.slice (some ⟨gg, 0, none⟩) (ws.length + 1) cap) (ws ++ [(i, d)]) w1 := by
    unfold OwnW
    rw [wcells_snoc, List.length_append]
    exact hown
  have hl := (hown.lt gg rfl).1
  exact ⟨hA.1.below hb, ⟨hA.2.1.below hb, hA.2.2⟩, hO.row, from_some (by omega)⟩
theorem d2_keeps {w W : World} {vS vW : Value} (h : D2 w vS vW W) (u0 u1 : Value) : Box2 w.heap.size vS vW (d2St w W u0 u1) := (h.1.other (by omega) _).other (by omega) _

theorem news2 {b : Nat} {c0 c1 : Value} {W : World} (h : Box2 b c0 c1 W) : ∀ j u, [c0, c1][j]? = some u → W.cell? ((⟨b, 0, none⟩ : Addr).add j) = some u := by
  intro j u hj
  rw [addr_at]
  match j, hj with
  | 0, hj => simp at hj; subst hj; exact h.2.1
  | 1, hj => simp at hj; subst hj; exact h.2.2.1

set_option maxHeartbeats 2000000 in
set_option maxRecDepth 100000 in
theorem Put_yes {vS vW : Value} {ls : List ByteArray} {ws : List (Int × ByteArray)} {w : World} (hS : SRow w vS ls) (hW : WRow w vW ws) (hb : rightB ls ws = true) (i : Int) (d : ByteArray) (hh : hasB ls.length i = true) (hd : d.size = 64) (hlt : ws.length < 64) : Calls Try.prog 8 #[.agg #[vS, vW], .int .i64 i, .string d] w (DiskE ls (ws ++ [(i, d)]) 0 w) := by
  have hP := rightB_t.1 hb
  have hr : smallP ls ws := ⟨by have := hP.2.1; omega, by have := hP.2.2.1; omega, fun j h => by rw [hP.2.2.2.1 j h]; omega, fun j h => by rw [(hP.2.2.2.2 j h).2.2]; omega⟩
  obtain ⟨i0, hi, hz0, hz1, hz2⟩ := info_parts Try.infoW
  have HR := Lib.hid (fun W (h : Below w.heap.size w W) => hb ▸ Right_any (hS.below h) (hW.below h) hr)
  have HC := Lib.hid (fun W (h : Below w.heap.size w W) => CloneS_any (hS.below h) hr.1)
  have HK := Lib.hid (fun W (h : Below w.heap.size w W) => CloneW_any (hW.below h) hr.2.1)
  obtain ⟨aS, cap, rfl⟩ := hS.slice
  obtain ⟨aW, capW, rfl⟩ := hW.slice
  have HD := Lib.hid (D2.made w (.slice aS ls.length cap) (.slice aW ws.length capW))
  have HH := Lib.hid (fun W => hh ▸ has_any aS ls.length cap (.slice aW ws.length capW) i W)
  clear hS hW
  go_enter Try.func8, Try.ntmps8
  go_wp2_with fail
  refine (HR.out _ HD.out.2.2).mono ?_
  rintro e x ⟨rfl, hx⟩
  have HX := Lib.hid (HD.out.below hx)
  obtain ⟨⟨b0, b1, b2, b3, b4⟩, ⟨d0, d1, d2, d3, d4⟩, _⟩ := HX.out
  clear hx HD
  go_wp2_with fail
  refine (HH.out _).mono ?_
  rintro e y ⟨rfl, hy⟩
  clear b0 b1 b2 b3 b4 d0 d1 d2 d3 d4
  have HY := Lib.hid (HX.out.below hy)
  obtain ⟨⟨b0, b1, b2, b3, b4⟩, ⟨d0, d1, d2, d3, d4⟩, hbe⟩ := HY.out
  clear hy HX
  go_upto_region 9 with (fail)
  have y0 : Below y.heap.size y y.drew := (Below.refl _ _).drew
  have y1 : Below y.heap.size y (y.alloc (.cells #[.int .i64 i, .string d] 43)).drew := ((Below.refl _ _).alloc (Nat.le_refl _) _).drew
  have HB0 := Lib.hid (below_trans hbe y0)
  have HB1 := Lib.hid (below_trans hbe y1)
  have n1 := (HY.out.below y1).1.2.1
  have n2 := (HY.out.below y1).1.2.2.1
  have HBx := Lib.hid (Box2.made y (.int .i64 i) (.string d) 43)
  have HY0 := Lib.hid y0
  have HY1 := Lib.hid y1
  clear y0 y1
  have HM1 : Hid (ws.length + 1 ≤ maxLen) := by unfold Hid maxLen; omega
  have HM2 : Hid ((ws.length + 1) * 24 ≤ 140737488355328) := by unfold Hid; omega
  go_region_held3 (fun w' => w'.cell? ⟨w.heap.size, 0, none⟩ = some (.slice aS ls.length cap) ∧ w'.cell? ⟨w.heap.size, 1, none⟩ = some (.slice aW ws.length capW))
    (first | exact ⟨b1, b2⟩ | exact ⟨n1, n2⟩ | exact ⟨a1, a2⟩ | exact ⟨a3, a4⟩ | exact ⟨c1, c2⟩ | exact ⟨c3, c4⟩ | exact ⟨e1, e2⟩ | exact ⟨e3, e4⟩ | fail)
    (first
      | (go_at_call 22; (with_reducible refine (HC.out _ HB0.out).mono ?_); rintro e x1 ⟨v1, rfl, ho1, hx1⟩; obtain ⟨as1, cap1, rfl⟩ := ho1.row.slice; have HA := Lib.hid (put_a HY.out ho1 (Nat.le_refl _) (below_trans HY0.out hx1)); have HYX := Lib.hid (below_trans HY0.out hx1).size; have HAB := Lib.hid HA.out.1.2.2; have HAC := Lib.hid (HA.out.1.below (al x1 (.cells #[.int .i64 i, .string d] 43))).2.2; have a1 := HA.out.1.1.2.1; have a2 := HA.out.1.1.2.2.1; have a3 := (HA.out.1.below (al x1 (.cells #[.int .i64 i, .string d] 43))).1.2.1; have a4 := (HA.out.1.below (al x1 (.cells #[.int .i64 i, .string d] 43))).1.2.2.1; clear ho1 hx1)
      | (go_at_call 22; (with_reducible refine (HC.out _ HB1.out).mono ?_); rintro e x1 ⟨v1, rfl, ho1, hx1⟩; obtain ⟨as1, cap1, rfl⟩ := ho1.row.slice; have HA := Lib.hid (put_a HY.out ho1 HY1.out.size (below_trans HY1.out hx1)); have HYX := Lib.hid (below_trans HY1.out hx1).size; have HAB := Lib.hid HA.out.1.2.2; have HAC := Lib.hid (HA.out.1.below (al x1 (.cells #[.int .i64 i, .string d] 43))).2.2; have a1 := HA.out.1.1.2.1; have a2 := HA.out.1.1.2.2.1; have a3 := (HA.out.1.below (al x1 (.cells #[.int .i64 i, .string d] 43))).1.2.1; have a4 := (HA.out.1.below (al x1 (.cells #[.int .i64 i, .string d] 43))).1.2.2.1; have HBx1 := Lib.hid (HBx.out.below (below_trans ((Below.refl _ _).drew) hx1)); clear ho1 hx1)
      | (go_at_call 23; (with_reducible refine (HK.out x1 HAB.out).mono ?_); rintro e x2 ⟨v2, rfl, ho2, hx2⟩; have HO2 := Lib.hid ho2; have HX2 := Lib.hid hx2; have HA2 := Lib.hid (HA.out.1.below hx2); have c1 := HA2.out.1.2.1; have c2 := HA2.out.1.2.2.1; have c3 := (HA2.out.below (al x2 (.cells #[.int .i64 i, .string d] 43))).1.2.1; have c4 := (HA2.out.below (al x2 (.cells #[.int .i64 i, .string d] 43))).1.2.2.1; clear ho2 hx2)
      | (go_at_call 23; (with_reducible refine (HK.out (x1.alloc (.cells #[.int .i64 i, .string d] 43)) HAC.out).mono ?_); rintro e x2 ⟨v2, rfl, ho2, hx2⟩; have HO2 := Lib.hid ho2; have HX2 := Lib.hid hx2; have HA2 := Lib.hid ((HA.out.1.below (al x1 (.cells #[.int .i64 i, .string d] 43))).below hx2); have c1 := HA2.out.1.2.1; have c2 := HA2.out.1.2.2.1; have HBx2 := Lib.hid ((Box2.made x1 (.int .i64 i) (.string d) 43).below hx2); clear ho2 hx2)
      | (refine step_append_lies _ (by rfl) _ _ _ (by rfl) x1.heap.size 43 i0 _ 2 24 Try.underlying23 hi hz0 hz1 hz2 rfl (by omega) v2 ws.length (wcells ws) (by rfl) (World.ownsRow.alloc HO2.out _) ⟨x2.heap.size, 0, none⟩ 1 1 [.int .i64 i, .string d] (by rfl) (by rfl) (news2 (Box2.made x2 (.int .i64 i) (.string d) 43)) (by simp [Value.oneCell']) (by omega) HM1.out HM2.out (Nat.le_trans HX2.out.size (by simp)) (x2.heap.size + 1) (by simp) ?_; intro gg capA w1 hown1 hgrow hat hltA; have HF := Lib.hid (put_end HA.out HYX.out (below_trans HX2.out (al x2 (.cells #[.int .i64 i, .string d] 43))) (World.ownsRow.alloc HO2.out _) (Nat.le_refl _) hgrow hown1); have e1 := HF.out.1.1.2.1; have e2 := HF.out.1.1.2.2.1; have e3 := (d2_keeps HF.out.1 (.slice as1 ls.length cap1) (.slice (some ⟨gg, 0, none⟩) (ws.length + 1) capA)).2.1; have e4 := (d2_keeps HF.out.1 (.slice as1 ls.length cap1) (.slice (some ⟨gg, 0, none⟩) (ws.length + 1) capA)).2.2.1; obtain ⟨q0, q1, q2, q3, q4⟩ := HF.out.1.2.1; clear hown1 hgrow hat)
      | (refine step_append_lies _ (by rfl) _ _ _ (by rfl) (x1.alloc (.cells #[.int .i64 i, .string d] 43)).heap.size 43 i0 _ 2 24 Try.underlying23 hi hz0 hz1 hz2 rfl (by omega) v2 ws.length (wcells ws) (by rfl) HO2.out ⟨x1.heap.size, 0, none⟩ 1 1 [.int .i64 i, .string d] (by rfl) (by rfl) (news2 HBx2.out) (by simp [Value.oneCell']) (by omega) HM1.out HM2.out HX2.out.size (x2.heap.size) (by simp) ?_; intro gg capA w1 hown1 hgrow hat hltA; have HF := Lib.hid (put_end HA.out HYX.out (below_trans (al x1 (.cells #[.int .i64 i, .string d] 43)) HX2.out) HO2.out (by simp) hgrow hown1); have e1 := HF.out.1.1.2.1; have e2 := HF.out.1.1.2.2.1; have e3 := (d2_keeps HF.out.1 (.slice as1 ls.length cap1) (.slice (some ⟨gg, 0, none⟩) (ws.length + 1) capA)).2.1; have e4 := (d2_keeps HF.out.1 (.slice as1 ls.length cap1) (.slice (some ⟨gg, 0, none⟩) (ws.length + 1) capA)).2.2.1; obtain ⟨q0, q1, q2, q3, q4⟩ := HF.out.1.2.1; clear hown1 hgrow hat)
      | (refine step_append_lies _ (by rfl) _ _ _ (by rfl) x1.heap.size 43 i0 _ 2 24 Try.underlying23 hi hz0 hz1 hz2 rfl (by omega) v2 ws.length (wcells ws) (by rfl) HO2.out ⟨y.heap.size, 0, none⟩ 1 1 [.int .i64 i, .string d] (by rfl) (by rfl) (news2 (HBx1.out.below HX2.out)) (by simp [Value.oneCell']) (by omega) HM1.out HM2.out HX2.out.size (x2.heap.size) (by simp) ?_; intro gg capA w1 hown1 hgrow hat hltA; have HF := Lib.hid (put_end HA.out HYX.out HX2.out HO2.out (Nat.le_refl _) hgrow hown1); have e1 := HF.out.1.1.2.1; have e2 := HF.out.1.1.2.2.1; have e3 := (d2_keeps HF.out.1 (.slice as1 ls.length cap1) (.slice (some ⟨gg, 0, none⟩) (ws.length + 1) capA)).2.1; have e4 := (d2_keeps HF.out.1 (.slice as1 ls.length cap1) (.slice (some ⟨gg, 0, none⟩) (ws.length + 1) capA)).2.2.1; obtain ⟨q0, q1, q2, q3, q4⟩ := HF.out.1.2.1; clear hown1 hgrow hat)
      | fail)
  all_goals
    have HE := Lib.hid (D2.ends HF.out.1 d0 HF.out.2.1 HF.out.2.2)
    go_wp2_with fail
    obtain ⟨z0, z1, z2, z3⟩ := HE.out
    unfold d2St at z0 z1 z2
    exact bodyPost_ret (v := .tuple #[.agg #[.slice as1 ls.length cap1, .slice (some ⟨gg, 0, none⟩) (ws.length + 1) capA], .int .i64 0]) (by simp [results, Try.results8, go_sem, z1, z2]) rfl ⟨_, _, rfl, z3⟩
end Go.Proofs.Ythoeidgekogfiaa.Disk
