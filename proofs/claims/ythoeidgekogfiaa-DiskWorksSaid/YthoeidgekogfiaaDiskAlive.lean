/-
  Contract of the law's alive: a sector that is torn.
-/
import Derived.Test.YthoeidgekogfiaaDiskPut
import Derived.Test.YthoeidgekogfiaaDiskNew
namespace Go.Proofs.Ythoeidgekogfiaa.Disk
open Go.ChangeShapes Go.WideShapes Go.ChangeAt Go.RowKit Go.Lib

/-- A sector of one letter. -/
def aaa : ByteArray := ⟨(Lib.repeatL [97] 64).toArray⟩
theorem aaa_size : aaa.size = 64 := by decide +kernel
theorem RepeatA_any (w : World) : Calls Try.prog 13 #[.string ⟨#[97]⟩, .int .i64 64] w (TextB aaa w) :=
  (Try.strings_Repeat ⟨#[97]⟩ 64 w (by omega) (by decide)).mono fun _ _ h => h

theorem alive_right : rightB (List.replicate 2 zeros) [] = true := rightB_t.2 ⟨by simp, by simp, by simp, fun j h => by rw [List.getElem_replicate]; exact zeros_size, fun j h => by simp at h⟩
theorem alive_right2 : rightB (List.replicate 2 zeros) [(1, aaa)] = true := rightB_t.2 ⟨by simp, by simp, by simp, fun j h => by rw [List.getElem_replicate]; exact zeros_size, fun j h => by
  match j, h with
  | 0, _ => exact ⟨(by decide : (0 : Int) ≤ 1), (by decide : (1 : Int) < 2), aaa_size⟩⟩
/-- What the crash leaves. -/
def tornA : ByteArray := torn zeros aaa 3
theorem tornA_size : tornA.size = 64 := (torn_size (by rw [zeros_size]; omega)).trans zeros_size
theorem alive_crash : crashL 0 (List.replicate 2 zeros) [(1, aaa)] 3 = [zeros, tornA] := rfl
theorem alive_right3 : rightB [zeros, tornA] [] = true := rightB_t.2 ⟨by simp, by simp, by simp, fun j h => by
  match j, h with
  | 0, _ => exact zeros_size
  | 1, _ => exact tornA_size, fun j h => by simp at h⟩
theorem alive_head : tornA.extract 0 4 = ⟨#[97, 97, 97, 0]⟩ := by decide +kernel
theorem small_of {ls : List ByteArray} {ws : List (Int × ByteArray)} (h : rightB ls ws = true) : smallP ls ws := by
  have hP := rightB_t.1 h
  exact ⟨by have := hP.2.1; omega, by have := hP.2.2.1; omega, fun j h => by rw [hP.2.2.2.1 j h]; omega, fun j h => by rw [(hP.2.2.2.2 j h).2.2]; omega⟩

/-- Block b holds a disk. -/
def DBox (b : Nat) (uS uW : Value) (l : List ByteArray) (m : List (Int × ByteArray)) (W : World) : Prop := Box2 b uS uW W ∧ SRow W uS l ∧ WRow W uW m
theorem DBox.below {b : Nat} {uS uW : Value} {l : List ByteArray} {m : List (Int × ByteArray)} {W W' : World} (h : DBox b uS uW l m W) (hb : Below W.heap.size W W') : DBox b uS uW l m W' := ⟨h.1.below hb, h.2.1.below hb, h.2.2.below hb⟩
theorem DBox.made {uS uW : Value} {l : List ByteArray} {m : List (Int × ByteArray)} {W : World} (hS : SRow W uS l) (hW : WRow W uW m) : DBox W.heap.size uS uW l m (W.alloc (.cells #[uS, uW] 25)) :=
  ⟨Box2.made _ _ _ _, hS.below (al _ _), hW.below (al _ _)⟩
theorem DBox.store {b : Nat} {c0 c1 uS uW : Value} {l : List ByteArray} {m : List (Int × ByteArray)} {W : World} (h : Box2 b c0 c1 W) (hS : SRow W uS l ∧ From (b + 1) uS) (hW : WRow W uW m ∧ From (b + 1) uW) :
    DBox b uS uW l m ((W.setCell ⟨b, 0, none⟩ uS).setCell ⟨b, 1, none⟩ uW) :=
  ⟨h.set uS uW, (hS.1.stored hS.2).stored hS.2, (hW.1.stored hW.2).stored hW.2⟩
theorem below_set2 {w W : World} {b : Nat} {u0 u1 : Value} (h : Below w.heap.size w W) (hb : w.heap.size ≤ b) : Below w.heap.size w ((W.setCell ⟨b, 0, none⟩ u0).setCell ⟨b, 1, none⟩ u1) :=
  (h.setCell (p := ⟨b, 0, none⟩) hb _).setCell (p := ⟨b, 1, none⟩) hb _
/-- A disk came back from a call, and is stored where one lay. -/
theorem DBox.again {w W X : World} {b : Nat} {c0 c1 uS uW : Value} {l0 l : List ByteArray} {m0 m : List (Int × ByteArray)} (hw : w.heap.size ≤ b) (h : DBox b c0 c1 l0 m0 W) (hb : Below w.heap.size w W) (hx : Below W.heap.size W X) (hS : SRow X uS l ∧ From W.heap.size uS) (hW : WRow X uW m ∧ From W.heap.size uW) :
    DBox b c0 c1 l0 m0 X ∧ DBox b uS uW l m ((X.setCell ⟨b, 0, none⟩ uS).setCell ⟨b, 1, none⟩ uW) ∧ Below w.heap.size w ((X.setCell ⟨b, 0, none⟩ uS).setCell ⟨b, 1, none⟩ uW) :=
  ⟨h.below hx, DBox.store (h.below hx).1 ⟨hS.1, hS.2.mono h.1.1⟩ ⟨hW.1, hW.2.mono h.1.1⟩, below_set2 (below_trans hb hx) hw⟩

set_option maxHeartbeats 2000000 in
set_option maxRecDepth 100000 in
theorem alive_any (w : World) : Calls Try.prog 16 #[] w (BoolB true w) := by
  go_enter Try.func16, Try.ntmps16
  go_wp2_with fail
  refine (New_yes 2 (by omega) (by omega) _).mono ?_
  rintro e x ⟨uS, uW, rfl, hS, hW, hx⟩
  obtain ⟨aS, cap, rfl⟩ := hS.1.slice
  obtain ⟨aW, capW, rfl⟩ := hW.1.slice
  go_upto_region 2 with (fail)
  have HD := Lib.hid (DBox.made (uS := .slice aS 2 cap) (uW := .slice aW 0 capW) (l := List.replicate 2 zeros) (m := []) hS.1 hW.1)
  have HB := Lib.hid (below_trans hx (al x (.cells #[.slice aS 2 cap, .slice aW 0 capW] 25)))
  have HXW := Lib.hid hx.size
  generalize (x.alloc (.cells #[.slice aS 2 cap, .slice aW 0 capW] 25)) = X at HD HB ⊢
  generalize x.heap.size = b at HD HXW ⊢
  clear hS hW hx
  obtain ⟨⟨b0, b1, b2, b3, b4⟩, _, _⟩ := HD.out
  go_region_with (first
      | (go_at_call 13; (with_reducible refine (RepeatA_any _).mono ?_); rintro e x1 ⟨rfl, hx1⟩; have HX1 := Lib.hid (below_trans ((Below.refl _ _).drew) hx1 : Below X.heap.size X x1); have HD1 := Lib.hid (HD.out.below HX1.out); have p1 := HD1.out.1.2.1; have p2 := HD1.out.1.2.2.1; have HPU := Lib.hid (Put_yes HD1.out.2.1 HD1.out.2.2 alive_right 1 aaa (by decide) aaa_size (by decide)); clear hx1)
      | (go_at_call 8; (with_reducible refine HPU.out.mono ?_); rintro e x2 ⟨vS, vW, rfl, hS, hW, hx2⟩; have HD2 := Lib.hid (DBox.again HXW.out HD1.out (below_trans HB.out HX1.out) hx2 hS hW); obtain ⟨aS', cap', rfl⟩ := hS.1.slice; obtain ⟨aW', capW', rfl⟩ := hW.1.slice; obtain ⟨q0, q1, q2, q3, q4⟩ := HD2.out.1.1; clear hS hW hx2)
      | fail)
  all_goals
    have HD3 : Hid (DBox b (.slice aS' 2 cap') (.slice aW' 1 capW') (List.replicate 2 zeros) [(1, aaa)] ((x2.setCell ⟨b, 0, none⟩ (.slice aS' 2 cap')).setCell ⟨b, 1, none⟩ (.slice aW' 1 capW'))) := HD2.out.2.1
    have HB3 : Hid (Below w.heap.size w ((x2.setCell ⟨b, 0, none⟩ (.slice aS' 2 cap')).setCell ⟨b, 1, none⟩ (.slice aW' 1 capW'))) := HD2.out.2.2
    clear HD2 q0 q1 q2 q3 q4 p1 p2 b0 b1 b2 b3 b4
    generalize ((x2.setCell ⟨b, 0, none⟩ (.slice aS' 2 cap')).setCell ⟨b, 1, none⟩ (.slice aW' 1 capW')) = Y at HD3 HB3 ⊢
    obtain ⟨⟨b0, b1, b2, b3, b4⟩, _, _⟩ := HD3.out
    have HCR := Lib.hid (Crash_yes HD3.out.2.1 HD3.out.2.2 alive_right2 0 (by omega) 3)
    go_wp2_with fail
    refine HCR.out.mono ?_
    rintro e y ⟨vS, vW, rfl, hS, hW, hy⟩
    rw [alive_crash] at hS
    have HD4 := Lib.hid (DBox.again HXW.out HD3.out HB3.out hy hS hW)
    obtain ⟨aS2, cap2, rfl⟩ := hS.1.slice
    obtain ⟨aW2, capW2, rfl⟩ := hW.1.slice
    clear b0 b1 b2 b3 b4 hS hW hy HCR
    obtain ⟨b0, b1, b2, b3, b4⟩ := HD4.out.1.1
    have HD5 := Lib.hid HD4.out.2.1
    have HB5 := Lib.hid HD4.out.2.2
    have HG : Hid (Calls Try.prog 9 #[.agg #[.slice aS2 2 cap2, .slice aW2 0 capW2], .int .i64 1] ((y.setCell ⟨b, 0, none⟩ (.slice aS2 2 cap2)).setCell ⟨b, 1, none⟩ (.slice aW2 0 capW2)) (TextE tornA 0 ((y.setCell ⟨b, 0, none⟩ (.slice aS2 2 cap2)).setCell ⟨b, 1, none⟩ (.slice aW2 0 capW2)))) :=
      Get_yes HD5.out.2.1 HD5.out.2.2 (small_of alive_right3) alive_right3 1 (by decide)
    obtain ⟨_, e1, e2, _, _⟩ := HD5.out.1
    go_wp2_with fail
    refine HG.out.mono ?_
    rintro e z ⟨rfl, hz⟩
    have HE := Lib.hid (below_trans HB5.out hz)
    have t1 := tornA_size
    have t2 := alive_head
    clear hz HG
    generalize tornA = r at t1 t2
    clear b0 b1 b2 b3 b4 e1 e2
    go_wp2_with fail
    go_ret
    exact ⟨rfl, HE.out⟩
end Go.Proofs.Ythoeidgekogfiaa.Disk
