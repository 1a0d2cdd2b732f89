/-
  Contract of the reference's Like: two disks that hold the same are alike.
-/
import Derived.Test.YthoeidgekogfiaaDiskRow
namespace Go.Proofs.Ythoeidgekogfiaa.Disk
open Go.ChangeShapes Go.WideShapes Go.ChangeAt Go.RowKit Go.Lib

/-- At the head of Like's loops: the two boxes; nothing that lay has turned. -/
def Alike (w : World) (n : Nat) (aS aW bS bW : Value) (i : Value) (wr : World) : Prop :=
  ∃ k : Nat, k ≤ n ∧ i = .int .i64 k ∧ Box2 w.heap.size aS aW wr ∧ Box2 (w.heap.size + 1) bS bW wr ∧ Below w.heap.size w wr
theorem drawn_below (w : World) (n : Nat) : Below w.heap.size w (w.drewN n) := ⟨rfl, rfl, rfl, Nat.le_refl _, fun _ _ => rfl⟩

set_option maxHeartbeats 2000000 in
set_option maxRecDepth 100000 in
theorem Like_yes {aS aW bS bW : Value} {ls : List ByteArray} {ws : List (Int × ByteArray)} {w : World} (h1 : SRow w aS ls) (h2 : WRow w aW ws) (h3 : SRow w bS ls) (h4 : WRow w bW ws) (hl : ls.length ≤ 1000) (hw : ws.length ≤ 1000) : Calls Try.prog 12 #[.agg #[aS, aW], .agg #[bS, bW]] w (BoolB true w) := by
  obtain ⟨a1, c1, rfl⟩ := h1.slice
  obtain ⟨a2, c2, rfl⟩ := h2.slice
  obtain ⟨a3, c3, rfl⟩ := h3.slice
  obtain ⟨a4, c4, rfl⟩ := h4.slice
  have H1 := Lib.hid h1
  have H2 := Lib.hid h2
  have H3 := Lib.hid h3
  have H4 := Lib.hid h4
  have h0 : ∀ (W : World) o, Below W.heap.size W (W.alloc o) := fun W o => (Below.refl _ _).alloc (Nat.le_refl _) _
  have HB1 := Lib.hid ((Box2.made w (.slice a1 ls.length c1) (.slice a2 ws.length c2) 25).below (h0 _ (.cells #[.slice a3 ls.length c3, .slice a4 ws.length c4] 25)))
  have HB2 : Hid (Box2 (w.heap.size + 1) (.slice a3 ls.length c3) (.slice a4 ws.length c4) ((w.alloc (.cells #[.slice a1 ls.length c1, .slice a2 ws.length c2] 25)).alloc (.cells #[.slice a3 ls.length c3, .slice a4 ws.length c4] 25))) := by
    have := Box2.made (w.alloc (.cells #[.slice a1 ls.length c1, .slice a2 ws.length c2] 25)) (.slice a3 ls.length c3) (.slice a4 ws.length c4) 25
    simp only [World.size_alloc] at this
    exact this
  have HB3 := Lib.hid (below_trans (h0 w (.cells #[.slice a1 ls.length c1, .slice a2 ws.length c2] 25)) (h0 _ (.cells #[.slice a3 ls.length c3, .slice a4 ws.length c4] 25)))
  clear h0 h1 h2 h3 h4
  go_enter Try.func12, Try.ntmps12
  go_wp2
  go_loopw [26] (fun i wr => Alike w ls.length (.slice a1 ls.length c1) (.slice a2 ws.length c2) (.slice a3 ls.length c3) (.slice a4 ws.length c4) i wr) (fun i _ => ls.length - (RowKit.intOf i).toNat)
  case atStart => exact ⟨0, Nat.zero_le _, rfl, HB1.out, HB2.out, HB3.out⟩
  case round =>
    clear HB1 HB2 HB3
    obtain ⟨k, hk, rfl, hb1, hb2, hbe⟩ := hrel
    have HB1 := Lib.hid hb1
    have HB2 := Lib.hid hb2
    have HB3 := Lib.hid hbe
    obtain ⟨p0, p1, p2, p3, p4⟩ := hb1
    obtain ⟨q0, q1, q2, q3, q4⟩ := hb2
    by_cases hlt : k < ls.length
    · obtain ⟨g1, rfl, hc1, hg1, e1⟩ := (H1.out.below hbe).at hlt
      obtain ⟨g3, rfl, hc3, hg3, e3⟩ := (H3.out.below hbe).at hlt
      have i0 : (0 : Int) ≤ (k : Int) := by omega
      have i1 : (k : Int) < (ls.length : Int) := by omega
      generalize ls[k] = x at e1 e3
      clear hbe
      go_upto_region 6 with (fail)
      go_quiet (fail)
      have HD1 := Lib.hid (HB1.out.below (drawn_below wr nq))
      have HD2 := Lib.hid (HB2.out.below (drawn_below wr nq))
      have HD3 := Lib.hid (below_trans HB3.out (drawn_below wr nq))
      clear p0 p1 p2 p3 p4 q0 q1 q2 q3 q4 e1 e3 i0 i1
      go_wp2
      go_roundw
      case rel => exact ⟨k + 1, by omega, by go_num, HD1.out, HD2.out, HD3.out⟩
      case measure => simp [RowKit.intOf]; omega
    · clear hbe
      go_wp2
      go_loopw [44] (fun i wr => Alike w ws.length (.slice a1 ls.length c1) (.slice a2 ws.length c2) (.slice a3 ls.length c3) (.slice a4 ws.length c4) i wr) (fun i _ => ws.length - (RowKit.intOf i).toNat)
      case atStart => exact ⟨0, Nat.zero_le _, rfl, HB1.out, HB2.out, HB3.out⟩
      case round =>
        clear HB1 HB2 HB3 p0 p1 p2 p3 p4 q0 q1 q2 q3 q4
        obtain ⟨k, hk, rfl, hb1, hb2, hbe⟩ := hrel
        have HB1 := Lib.hid hb1
        have HB2 := Lib.hid hb2
        have HB3 := Lib.hid hbe
        obtain ⟨p0, p1, p2, p3, p4⟩ := hb1
        obtain ⟨q0, q1, q2, q3, q4⟩ := hb2
        by_cases hlt : k < ws.length
        · obtain ⟨g2, rfl, hc2, hg2, e1, e2⟩ := (H2.out.below hbe).at hlt
          obtain ⟨g4, rfl, hc4, hg4, e3, e4⟩ := (H4.out.below hbe).at hlt
          have i0 : (0 : Int) ≤ (k : Int) := by omega
          have i1 : (k : Int) < (ws.length : Int) := by omega
          generalize ws[k] = y at e1 e2 e3 e4
          obtain ⟨ya, yd⟩ := y
          dsimp only at e1 e2 e3 e4
          clear hbe
          go_upto_region 12 with (fail)
          go_quiet (fail)
          have HD1 := Lib.hid (HB1.out.below (drawn_below wr nq))
          have HD2 := Lib.hid (HB2.out.below (drawn_below wr nq))
          have HD3 := Lib.hid (below_trans HB3.out (drawn_below wr nq))
          clear p0 p1 p2 p3 p4 q0 q1 q2 q3 q4 e1 e2 e3 e4 i0 i1
          go_wp2
          go_roundw
          case rel => exact ⟨k + 1, by omega, by go_num, HD1.out, HD2.out, HD3.out⟩
          case measure => simp [RowKit.intOf]; omega
        · clear hbe
          go_wp2
          go_ret
          exact ⟨rfl, HB3.out⟩
end Go.Proofs.Ythoeidgekogfiaa.Disk
