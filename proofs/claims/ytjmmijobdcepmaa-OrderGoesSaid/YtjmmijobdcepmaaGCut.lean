/-
  Contract of the law's own cut: a rule with its texts cut.
-/
import Derived.Test.YtjmmijobdcepmaaGUnits
namespace Go.Proofs.Ytjmmijobdcepmaa.Goods
open Go.ChangeShapes Go.WideShapes Go.ChangeAt Go.RowKit

/-- A text cut. -/
def cutT (s : ByteArray) : ByteArray := if s.size ≤ 18 then s else s.extract 0 18
theorem cutT_size (s : ByteArray) : (cutT s).size ≤ 18 := by
  unfold cutT
  split
  · assumption
  · rw [ByteArray.size_extract]; omega
/-- A rule with its texts cut. -/
def cutR (x : Sb) : Sb := { x with f := cutT x.f, t := cutT x.t }
theorem cutR_small (x : Sb) : small (cutR x) := ⟨by have := cutT_size x.f; unfold cutR; dsimp only; omega, by have := cutT_size x.t; unfold cutR; dsimp only; omega⟩
/-- A rule is returned; nothing that lay has turned. -/
def SubB (x : Sb) (w : World) (e : Ending) (w' : World) : Prop := e = .returned (sv x) ∧ Below w.heap.size w w'

/-- Two of a block's cells are written anew. -/
theorem Box.put {b : Nat} {vs : List Value} {w : World} (h : Box b vs w) (j : Nat) (v : Value) (_hj : j < vs.length) : Box b (vs.set j v) (w.setCell ⟨b, j, none⟩ v) := by
  refine ⟨by simpa using h.1, fun i u hi => ?_⟩
  have hil : i < vs.length := by simpa using (List.getElem?_eq_some_iff.1 hi).1
  rw [World.frozen?_setCell]
  have hc := h.2 i vs[i] (by simp [hil])
  refine ⟨?_, hc.2⟩
  by_cases e : j = i
  · subst e
    rw [World.cell?_setCell_same _ _ _ hc.1]
    simpa [hil] using hi
  · rw [World.cell?_setCell_other _ _ _ _ (by intro hh; injection hh; contradiction), hc.1]
    rw [List.getElem?_set_ne e] at hi
    simpa [hil] using hi
theorem below_put {W w : World} {b : Nat} (j : Nat) (v : Value) (h : Below W.heap.size W w) (hb : W.heap.size ≤ b) : Below W.heap.size W (w.setCell ⟨b, j, none⟩ v) := h.setCell hb v

theorem Box.other {b c : Nat} {vs : List Value} {w : World} (h : Box b vs w) (hn : b ≠ c) (j : Nat) (v : Value) : Box b vs (w.setCell ⟨c, j, none⟩ v) := by
  refine ⟨by simpa using h.1, fun i u hi => ?_⟩
  rw [World.frozen?_setCell, World.cell?_setCell_other _ _ _ _ (by intro hh; injection hh with hh; exact hn hh.symm)]
  exact h.2 i u hi
theorem Box.five {b : Nat} {c0 c1 c2 c3 c4 : Value} {w : World} (h : Box b [c0, c1, c2, c3, c4] w) (u0 u1 u2 u3 u4 : Value) :
    Box b [u0, u1, u2, u3, u4] (((((w.setCell ⟨b, 0, none⟩ u0).setCell ⟨b, 1, none⟩ u1).setCell ⟨b, 2, none⟩ u2).setCell ⟨b, 3, none⟩ u3).setCell ⟨b, 4, none⟩ u4) :=
  ((((h.put 0 u0 (by simp)).put 1 u1 (by simp)).put 2 u2 (by simp)).put 3 u3 (by simp)).put 4 u4 (by simp)
theorem Box.c5 {b : Nat} {c0 c1 c2 c3 c4 : Value} {w : World} (h : Box b [c0, c1, c2, c3, c4] w) : w.cell? ⟨b, 0, none⟩ = some c0 ∧ w.cell? ⟨b, 1, none⟩ = some c1 ∧ w.cell? ⟨b, 2, none⟩ = some c2 ∧ w.cell? ⟨b, 3, none⟩ = some c3 ∧ w.cell? ⟨b, 4, none⟩ = some c4 :=
  ⟨(h.2 0 _ rfl).1, (h.2 1 _ rfl).1, (h.2 2 _ rfl).1, (h.2 3 _ rfl).1, (h.2 4 _ rfl).1⟩
theorem Box.z5 {b : Nat} {c0 c1 c2 c3 c4 : Value} {w : World} (h : Box b [c0, c1, c2, c3, c4] w) : w.frozen? ⟨b, 0, none⟩ = false ∧ w.frozen? ⟨b, 1, none⟩ = false ∧ w.frozen? ⟨b, 2, none⟩ = false ∧ w.frozen? ⟨b, 3, none⟩ = false ∧ w.frozen? ⟨b, 4, none⟩ = false :=
  ⟨(h.2 0 _ rfl).2, (h.2 1 _ rfl).2, (h.2 2 _ rfl).2, (h.2 3 _ rfl).2, (h.2 4 _ rfl).2⟩
theorem below_five {W w : World} {b : Nat} (u0 u1 u2 u3 u4 : Value) (h : Below W.heap.size W w) (hb : W.heap.size ≤ b) :
    Below W.heap.size W (((((w.setCell ⟨b, 0, none⟩ u0).setCell ⟨b, 1, none⟩ u1).setCell ⟨b, 2, none⟩ u2).setCell ⟨b, 3, none⟩ u3).setCell ⟨b, 4, none⟩ u4) :=
  ((((h.setCell hb u0).setCell hb u1).setCell hb u2).setCell hb u3).setCell hb u4
/-- Behind the cut's stores. -/
theorem cut_step {w W : World} {f t f' t' : ByteArray} {r n d : Int} {vs : List Value} (hb : Box w.heap.size [.string f, .string t, .int .i64 r, .int .i64 n, .int .i64 d] W) (hy : Box (w.heap.size + 1) vs W) (he : Below w.heap.size w W) :
    ∃ V, ((W.setCell ⟨w.heap.size, 0, none⟩ (.string f')).setCell ⟨w.heap.size, 1, none⟩ (.string t')).drew = V ∧ Box w.heap.size [.string f', .string t', .int .i64 r, .int .i64 n, .int .i64 d] V ∧ Box (w.heap.size + 1) vs V ∧ Below w.heap.size w V := by
  refine ⟨_, rfl, ?_, ?_, ?_⟩
  · exact ((hb.put 0 (.string f') (by simp)).put 1 (.string t') (by simp)).below (dr _)
  · exact ((hy.other (by omega) 0 _).other (by omega) 1 _).below (dr _)
  · exact below_trans ((he.setCell (Nat.le_refl _) _).setCell (Nat.le_refl _) _) (dr _)

end Go.Proofs.Ytjmmijobdcepmaa.Goods
