/-
  Contracts of package waits: Find, Move.
-/
import Derived.Test.YtcehhgcfkoldfaaWDrop
namespace Go.Proofs.Ytcehhgcfkoldfaa.Waits
open Go.ChangeShapes Go.WideShapes Go.ChangeAt Go.RowKit Go.Shelf
open Go.Proofs.Ytcehhgcfkoldfaa.Goods
open Go.Proofs.Ytcehhgcfkoldfaa.Queue (Wt ltB wv QRow)

/-- No line. -/
def noL : Ln := ⟨⟨#[]⟩, ⟨0, 0, 0⟩⟩
def findE (l : List Ln) (o : Int) : Int := dropE l o
def findV (l : List Ln) (o : Int) : Ln := if Waits.rightB l = false then noL else (getO o l).getD noL
theorem find_ways (l : List Ln) (o : Int) : (Waits.rightB l = false ∧ findE l o = 1 ∧ findV l o = noL) ∨ (Waits.rightB l = true ∧ getO o l = none ∧ findE l o = 8 ∧ findV l o = noL) ∨ ∃ x, Waits.rightB l = true ∧ getO o l = some x ∧ findE l o = 0 ∧ findV l o = x := by
  unfold findE findV
  rcases drop_ways l o with ⟨e1, e2, _⟩ | ⟨e1, e2, e3, _⟩ | ⟨x, e1, e2, e3, _⟩
  · exact .inl ⟨e1, e2, if_pos e1⟩
  · exact .inr (.inl ⟨e1, e2, e3, by rw [e1, e2]; rfl⟩)
  · exact .inr (.inr ⟨x, e1, e2, e3, by rw [e1, e2]; rfl⟩)
/-- A line and an error are returned. -/
def LineE (x : Ln) (z : Int) (w : World) (e : Ending) (w' : World) : Prop := e = .returned (.tuple #[lv x, .int .i64 z]) ∧ Below w.heap.size w w'
theorem below_four {W w : World} {b : Nat} (u0 u1 u2 u3 : Value) (h : Below W.heap.size W w) (hb : W.heap.size ≤ b) :
    Below W.heap.size W ((((w.setCell ⟨b, 0, none⟩ u0).setCell ⟨b, 1, none⟩ u1).setCell ⟨b, 2, none⟩ u2).setCell ⟨b, 3, none⟩ u3) :=
  (((h.setCell (p := ⟨b, 0, none⟩) hb u0).setCell (p := ⟨b, 1, none⟩) hb u1).setCell (p := ⟨b, 2, none⟩) hb u2).setCell (p := ⟨b, 3, none⟩) hb u3
theorem free4 {b : Nat} {v0 v1 v2 v3 : Value} {w : World} (h : Box b [v0, v1, v2, v3] w) : w.frozen? ⟨b, 0, none⟩ = false ∧ w.frozen? ⟨b, 1, none⟩ = false ∧ w.frozen? ⟨b, 2, none⟩ = false ∧ w.frozen? ⟨b, 3, none⟩ = false := ⟨(h.2 0 _ rfl).2, (h.2 1 _ rfl).2, (h.2 2 _ rfl).2, (h.2 3 _ rfl).2⟩

set_option maxRecDepth 100000 in
set_option maxHeartbeats 2000000 in
theorem Find_any {v : Value} {l : List Ln} {w : World} (h : LRow w v l) (hl : Brief l) (o : Int) : Calls Try.prog 22 #[v, .int .i64 o] w (LineE (findV l o) (findE l o) w) := by
  have HH := Lib.hid h
  have hlen := hl.1
  have hx0 := Box.made w (lcs noL) 26
  have hb0 := al w (.cells #[.string ⟨#[]⟩, .int .i64 0, .int .i64 0, .int .i64 0] 26)
  obtain ⟨W0, hW0⟩ : ∃ W, w.alloc (.cells #[.string ⟨#[]⟩, .int .i64 0, .int .i64 0, .int .i64 0] 26) = W := ⟨_, rfl⟩
  rw [hW0] at hb0
  have HX0 : Hid (Box w.heap.size (lcs noL) W0) := Lib.hid (hW0 ▸ hx0)
  have HB0 := Lib.hid hb0
  clear hx0
  unfold LineE
  rcases find_ways l o with ⟨e1, e2, e3⟩ | ⟨e1, e2, e3, e4⟩ | ⟨x, e1, e2, e3, e4⟩
  · rw [e2, e3]
    have HP := Lib.hid (placeOf_no (h.below hb0) hl o e1)
    obtain ⟨a, cap, rfl⟩ := h.slice
    clear h hl e1 e2 e3 hb0
    go_enter Try.func22, Try.ntmps22
    go_wp2_with fail
    clear hW0
    (with_reducible refine HP.out.mono ?_)
    rintro e w1 ⟨rfl, hz⟩
    obtain ⟨y0, y1, y2, y3⟩ := box4 (HX0.out.below hz)
    obtain ⟨z0, z1, z2, z3⟩ := free4 (HX0.out.below hz)
    have hsz := (HX0.out.below hz).1
    have HE := Lib.hid (below_four (b := w.heap.size) (.string ⟨#[]⟩) (.int .i64 0) (.int .i64 0) (.int .i64 0) (below_trans HB0.out hz) (Nat.le_refl _))
    clear hz
    go_wp2_with fail
    exact bodyPost_ret (by simp [results, Try.results22, go_sem, lv, noL, y0, y1, y2, y3]) rfl ⟨rfl, HE.out⟩
  · rw [e3, e4]
    have HP := Lib.hid (placeOf_is (h.below hb0) hl o e1 (.inl ⟨getO_no e2, rfl, rfl⟩))
    obtain ⟨a, cap, rfl⟩ := h.slice
    clear h hl e1 e2 e3 e4 hb0
    go_enter Try.func22, Try.ntmps22
    go_wp2_with fail
    clear hW0
    (with_reducible refine HP.out.mono ?_)
    rintro e w1 ⟨rfl, hz⟩
    obtain ⟨y0, y1, y2, y3⟩ := box4 (HX0.out.below hz)
    obtain ⟨z0, z1, z2, z3⟩ := free4 (HX0.out.below hz)
    have hsz := (HX0.out.below hz).1
    have HE := Lib.hid (below_four (b := w.heap.size) (.string ⟨#[]⟩) (.int .i64 0) (.int .i64 0) (.int .i64 0) (below_trans HB0.out hz) (Nat.le_refl _))
    clear hz
    go_wp2_with fail
    exact bodyPost_ret (by simp [results, Try.results22, go_sem, lv, noL, y0, y1, y2, y3]) rfl ⟨rfl, HE.out⟩
  · obtain ⟨i, hi, hx, hli, _⟩ := getO_idx (rightB_t.1 e1).1.2.2 e2
    rw [e3, e4]
    have HP := Lib.hid (placeOf_is (h.below hb0) hl o e1 (.inr ⟨by rw [hx]; omega, hx.symm, rfl⟩))
    obtain ⟨a, cap, rfl⟩ := h.slice
    clear h hl e1 e2 e3 e4 hb0 hx
    have hi2 : (i : Int) < l.length := by omega
    have hi3 : (0 : Int) ≤ i := by omega
    have HLI := Lib.hid hli
    clear hli
    go_enter Try.func22, Try.ntmps22
    go_wp2_with fail
    clear hW0
    (with_reducible refine HP.out.mono ?_)
    rintro e w1 ⟨rfl, hz⟩
    have hb2 := below_trans HB0.out hz
    obtain ⟨y0, y1, y2, y3⟩ := box4 (HX0.out.below hz)
    obtain ⟨z0, z1, z2, z3⟩ := free4 (HX0.out.below hz)
    have hsz := (HX0.out.below hz).1
    obtain ⟨b, off, rfl, hlc, hcap, hbl, hfour⟩ := (HH.out.below hb2).at hi
    rw [HLI.out] at hfour
    obtain ⟨k0, k1, k2, k3⟩ := hfour
    have HE := Lib.hid (below_four (b := w.heap.size) (.string x.k) (.int .i64 x.w.c) (.int .i64 x.w.s) (.int .i64 x.w.o) hb2 (Nat.le_refl _))
    clear hz hb2
    go_wp2_with fail
    exact bodyPost_ret (by simp [results, Try.results22, go_sem, lv, y0, y1, y2, y3]) rfl ⟨rfl, HE.out⟩
end Go.Proofs.Ytcehhgcfkoldfaa.Waits
