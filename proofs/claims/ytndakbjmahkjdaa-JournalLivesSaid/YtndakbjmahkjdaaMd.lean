/-
  Joined: DiskFew, DiskArg, DiskMath.
-/
import Derived.Test.YtndakbjmahkjdaaMc
import Derived.Deep.RegionLaw
import Derived.Deep.SlicePairs
import Derived.SliceStrings
import Derived.ChangeOld
import Derived.Carry
import Derived.ShutString

/-
  Contract of the law's own few: of a disk that came in some few sectors and writes, each cut, in new rows.
-/
namespace Go.Proofs.Ytndakbjmahkjdaa.Disk
open Go.ChangeShapes Go.WideShapes Go.ChangeAt Go.RowKit Go.Lib

/-- A slice of texts that came in: its texts, wherever they lie. -/
def ArgS (w : World) (v : Value) : Prop := ∃ (a : Option Addr) (len cap : Nat), v = .slice a len cap ∧ len ≤ cap ∧ cap ≤ 9223372036854775807 ∧
  (0 < len → ∃ b off, a = some ⟨b, off, none⟩ ∧ b < w.heap.size ∧ ∀ j, j < len → ∃ t : ByteArray, t.size ≤ 9223372036854775807 ∧ w.cell? ⟨b, off + j, none⟩ = some (.string t))
/-- A slice of writes that came in. -/
def ArgW (w : World) (v : Value) : Prop := ∃ (a : Option Addr) (len cap : Nat), v = .slice a len cap ∧ len ≤ cap ∧ cap ≤ 9223372036854775807 ∧
  (0 < len → ∃ b off, a = some ⟨b, off, none⟩ ∧ b < w.heap.size ∧ ∀ j, j < len → ∃ (i : Int) (t : ByteArray), t.size ≤ 9223372036854775807 ∧ w.cell? ⟨b, off + j * 2, none⟩ = some (.int .i64 i) ∧ w.cell? ⟨b, off + j * 2 + 1, none⟩ = some (.string t))

theorem ArgS.below {w w' : World} {v : Value} (h : ArgS w v) (hb : Below w.heap.size w w') : ArgS w' v := by
  obtain ⟨a, len, cap, e, h1, h2, h3⟩ := h
  refine ⟨a, len, cap, e, h1, h2, fun h0 => ?_⟩
  obtain ⟨b, off, ea, hbl, hc⟩ := h3 h0
  refine ⟨b, off, ea, Nat.lt_of_lt_of_le hbl hb.size, fun j hj => ?_⟩
  obtain ⟨t, ht, hct⟩ := hc j hj
  exact ⟨t, ht, (hb.cell (p := ⟨b, off + j, none⟩) hbl).trans hct⟩
theorem ArgW.below {w w' : World} {v : Value} (h : ArgW w v) (hb : Below w.heap.size w w') : ArgW w' v := by
  obtain ⟨a, len, cap, e, h1, h2, h3⟩ := h
  refine ⟨a, len, cap, e, h1, h2, fun h0 => ?_⟩
  obtain ⟨b, off, ea, hbl, hc⟩ := h3 h0
  refine ⟨b, off, ea, Nat.lt_of_lt_of_le hbl hb.size, fun j hj => ?_⟩
  obtain ⟨i, t, ht, hct1, hct2⟩ := hc j hj
  exact ⟨i, t, ht, (hb.cell (p := ⟨b, off + j * 2, none⟩) hbl).trans hct1, (hb.cell (p := ⟨b, off + j * 2 + 1, none⟩) hbl).trans hct2⟩

/-- few's blocks: the disk that came in, the result, what is made. -/
def FewB (w : World) (vS vW u v : Value) (l : List ByteArray) (m : List (Int × ByteArray)) (W : World) : Prop :=
  Box2 w.heap.size vS vW W ∧ Box2 (w.heap.size + 1) (.slice none 0 0) (.slice none 0 0) W ∧ Box2 (w.heap.size + 1 + 1) u v W ∧ OwnS (w.heap.size + 3) u l W ∧ OwnW (w.heap.size + 3) v m W ∧ Below w.heap.size w W
def fewW (w : World) (vS vW : Value) : World := ((w.alloc (.cells #[vS, vW] 25)).alloc (.cells #[.slice none 0 0, .slice none 0 0] 25)).alloc (.cells #[.slice none 0 0, .slice none 0 0] 25)
theorem FewB.made (w : World) (vS vW : Value) : FewB w vS vW (.slice none 0 0) (.slice none 0 0) [] [] (fewW w vS vW) := by
  have b1 := Box2.made w vS vW 25
  have b2 := Box2.made (w.alloc (.cells #[vS, vW] 25)) (.slice none 0 0) (.slice none 0 0) 25
  have b3 := Box2.made ((w.alloc (.cells #[vS, vW] 25)).alloc (.cells #[.slice none 0 0, .slice none 0 0] 25)) (.slice none 0 0) (.slice none 0 0) 25
  simp only [World.size_alloc] at b2 b3
  exact ⟨(b1.below (al _ _)).below (al _ _), b2.below (al _ _), b3, World.ownsRow_nil _ _ _ _, World.ownsRow_nil _ _ _ _, below_trans (below_trans (al _ _) (al _ _)) (al _ _)⟩
theorem OwnW.below {B : Nat} {v : Value} {ls : List (Int × ByteArray)} {w w' : World} (h : OwnW B v ls w) (hb : Below w.heap.size w w') : OwnW B v ls w' := by
  obtain ⟨h0, h1 | ⟨g, cap, cur, hv, hg, hh, hrest⟩⟩ := h
  · exact ⟨h0, .inl h1⟩
  · exact ⟨h0, .inr ⟨g, cap, cur, hv, hg, (hb.block g (Array.getElem?_eq_some_iff.1 hh).1).trans hh, hrest⟩⟩
theorem OwnW.setBelow {w : World} {B b i : Nat} {v u : Value} {ls : List (Int × ByteArray)} (h : OwnW B v ls w) (hb : b < B) : OwnW B v ls (w.setCell ⟨b, i, none⟩ u) := by
  obtain ⟨h0, h1 | ⟨g, cap, cur, hv, hg, hh, hrest⟩⟩ := h
  · exact ⟨h0, .inl h1⟩
  · exact ⟨h0, .inr ⟨g, cap, cur, hv, hg, (Below.heap_setCell _ _ _ g (by simp; omega)).trans hh, hrest⟩⟩
theorem FewB.below {w W W' : World} {vS vW u v : Value} {l : List ByteArray} {m : List (Int × ByteArray)} (h : FewB w vS vW u v l m W) (hb : Below W.heap.size W W') : FewB w vS vW u v l m W' :=
  ⟨h.1.below hb, h.2.1.below hb, h.2.2.1.below hb, h.2.2.2.1.below hb, h.2.2.2.2.1.below hb, below_trans h.2.2.2.2.2 hb⟩
theorem Box2.grown {b : Nat} {c0 c1 : Value} {W W' : World} {row : Option Nat} (h : Box2 b c0 c1 W) (hg : W.grownBy W' row) (hne : some b ≠ row) : Box2 b c0 c1 W' := by
  have e := hg.block b h.1 hne
  obtain ⟨h0, h1, h2, h3, h4⟩ := h
  refine ⟨Nat.lt_of_lt_of_le h0 hg.size, ?_, ?_, ?_, ?_⟩
  · exact (World.cell?_of_block (a := ⟨b, 0, none⟩) e).trans h1
  · exact (World.cell?_of_block (a := ⟨b, 1, none⟩) e).trans h2
  · exact (World.frozen?_of_block (a := ⟨b, 0, none⟩) e).trans h3
  · exact (World.frozen?_of_block (a := ⟨b, 1, none⟩) e).trans h4
theorem Box2.set0 {b : Nat} {c0 c1 : Value} {w : World} (h : Box2 b c0 c1 w) (u : Value) : Box2 b u c1 (w.setCell ⟨b, 0, none⟩ u) := by
  obtain ⟨h0, h1, h2, h3, h4⟩ := h
  have n01 : (⟨b, 0, none⟩ : Addr) ≠ ⟨b, 1, none⟩ := by simp
  exact ⟨by simpa using h0, World.cell?_setCell_same _ _ _ h1, by rw [World.cell?_setCell_other _ _ _ _ n01]; exact h2, by rw [World.frozen?_setCell]; exact h3, by rw [World.frozen?_setCell]; exact h4⟩
theorem Box2.set1 {b : Nat} {c0 c1 : Value} {w : World} (h : Box2 b c0 c1 w) (u : Value) : Box2 b c0 u (w.setCell ⟨b, 1, none⟩ u) := by
  obtain ⟨h0, h1, h2, h3, h4⟩ := h
  have n01 : (⟨b, 1, none⟩ : Addr) ≠ ⟨b, 0, none⟩ := by simp
  exact ⟨by simpa using h0, by rw [World.cell?_setCell_other _ _ _ _ n01]; exact h1, World.cell?_setCell_same _ _ _ h2, by rw [World.frozen?_setCell]; exact h3, by rw [World.frozen?_setCell]; exact h4⟩
/-- The two rows lie in unlike blocks. -/
theorem own_apart {B : Nat} {u v : Value} {l : List ByteArray} {m : List (Int × ByteArray)} {W : World} (hu : OwnS B u l W) (hv : OwnW B v m W) : (u.ownBlock = none ∨ u.ownBlock ≠ v.ownBlock) ∧ (v.ownBlock = none ∨ v.ownBlock ≠ u.ownBlock) := by
  obtain ⟨_, ⟨rfl, _⟩ | ⟨g, cap, cur, rfl, _, hh, _⟩⟩ := hu
  · refine ⟨.inl rfl, ?_⟩
    cases h : v.ownBlock with
    | none => exact .inl rfl
    | some k => exact .inr (by simp [Value.ownBlock])
  · obtain ⟨_, ⟨rfl, _⟩ | ⟨g', cap', cur', rfl, _, hh', _⟩⟩ := hv
    · exact ⟨.inr (by simp [Value.ownBlock]), .inl rfl⟩
    · have hne : g ≠ g' := by
        rintro rfl
        rw [hh] at hh'
        simp at hh'
      exact ⟨.inr (by simpa [Value.ownBlock] using hne), .inr (by simpa [Value.ownBlock] using Ne.symm hne)⟩
/-- One text more. -/
theorem FewB.snocS {w W w1 : World} {vS vW u v : Value} {l : List ByteArray} {m : List (Int × ByteArray)} {t : ByteArray} {gg cap : Nat} (h : FewB w vS vW u v l m W) (hg : W.grownBy w1 u.ownBlock)
    (hown : w1.ownsRow (w.heap.size + 3) 9 1 (.slice (some ⟨gg, 0, none⟩) (l.length + 1) cap) (l.length + 1) (scells l ++ [.string t])) :
    Box2 (w.heap.size + 1 + 1) u v w1 ∧ FewB w vS vW (.slice (some ⟨gg, 0, none⟩) (l.length + 1) cap) v (l ++ [t]) m (w1.setCell ⟨w.heap.size + 1 + 1, 0, none⟩ (.slice (some ⟨gg, 0, none⟩) (l.length + 1) cap)) := by
  obtain ⟨h1, h2, h3, h4, h5, h6⟩ := h
  have hlt := fun k e => (World.ownsRow.lt h4 k e).1
  have ne : ∀ b, b < w.heap.size + 3 → some b ≠ u.ownBlock := fun b hb e => by have := hlt b e.symm; omega
  have k3 := h3.grown hg (ne _ (by omega))
  have kW : OwnW (w.heap.size + 3) v m w1 := World.ownsRow.kept h5 hg (own_apart h4 h5).2
  have kS : OwnS (w.heap.size + 3) (.slice (some ⟨gg, 0, none⟩) (l.length + 1) cap) (l ++ [t]) w1 := by
    unfold OwnS
    rw [scells_snoc, List.length_append]
    exact hown
  have kB : Below w.heap.size w w1 := h6.grown hg h6.size (fun k e => by have := hlt k e; omega)
  exact ⟨k3, (h1.grown hg (ne _ (by omega))).other (by omega) _, (h2.grown hg (ne _ (by omega))).other (by omega) _, k3.set0 _, kS.setBelow (by omega), kW.setBelow (by omega), kB.setCell (p := ⟨w.heap.size + 1 + 1, 0, none⟩) (by simp; omega) _⟩
/-- One write more. -/
theorem FewB.snocW {w W w1 : World} {vS vW u v : Value} {l : List ByteArray} {m : List (Int × ByteArray)} {i : Int} {t : ByteArray} {gg cap : Nat} (h : FewB w vS vW u v l m W) (hg : W.grownBy w1 v.ownBlock)
    (hown : w1.ownsRow (w.heap.size + 3) 75 2 (.slice (some ⟨gg, 0, none⟩) (m.length + 1) cap) (m.length + 1) (wcells m ++ [.int .i64 i, .string t])) :
    Box2 (w.heap.size + 1 + 1) u v w1 ∧ FewB w vS vW u (.slice (some ⟨gg, 0, none⟩) (m.length + 1) cap) l (m ++ [(i, t)]) (w1.setCell ⟨w.heap.size + 1 + 1, 1, none⟩ (.slice (some ⟨gg, 0, none⟩) (m.length + 1) cap)) := by
  obtain ⟨h1, h2, h3, h4, h5, h6⟩ := h
  have hlt := fun k e => (World.ownsRow.lt h5 k e).1
  have ne : ∀ b, b < w.heap.size + 3 → some b ≠ v.ownBlock := fun b hb e => by have := hlt b e.symm; omega
  have k3 := h3.grown hg (ne _ (by omega))
  have kS : OwnS (w.heap.size + 3) u l w1 := World.ownsRow.kept h4 hg (own_apart h4 h5).1
  have kW : OwnW (w.heap.size + 3) (.slice (some ⟨gg, 0, none⟩) (m.length + 1) cap) (m ++ [(i, t)]) w1 := by
    unfold OwnW
    rw [wcells_snoc, List.length_append]
    exact hown
  have kB : Below w.heap.size w w1 := h6.grown hg h6.size (fun k e => by have := hlt k e; omega)
  exact ⟨k3, (h1.grown hg (ne _ (by omega))).other (by omega) _, (h2.grown hg (ne _ (by omega))).other (by omega) _, k3.set1 _, kS.setBelow (by omega), kW.setBelow (by omega), kB.setCell (p := ⟨w.heap.size + 1 + 1, 1, none⟩) (by simp; omega) _⟩

/-- A disk of few sectors and writes, in new rows, is returned. -/
def FewE (w : World) (e : Ending) (w' : World) : Prop :=
  ∃ uS uW ls ws, e = .returned (.agg #[uS, uW]) ∧ ls.length ≤ 20 ∧ ws.length ≤ 66 ∧ (∀ t ∈ ls, t.size ≤ 66) ∧ (∀ y ∈ ws, y.2.size ≤ 66) ∧ (SRow w' uS ls ∧ From w.heap.size uS) ∧ (WRow w' uW ws ∧ From w.heap.size uW) ∧ Below w.heap.size w w'

theorem from_ownS {B : Nat} {u : Value} {l : List ByteArray} {W : World} (h : OwnS B u l W) : From B u := fun g o n cap e => by subst e; exact (World.ownsRow.lt h g rfl).1
theorem from_ownW {B : Nat} {u : Value} {l : List (Int × ByteArray)} {W : World} (h : OwnW B u l W) : From B u := fun g o n cap e => by subst e; exact (World.ownsRow.lt h g rfl).1
theorem few_end {w W : World} {vS vW u v : Value} {l : List ByteArray} {m : List (Int × ByteArray)} (h : FewB w vS vW u v l m W) :
    Box2 (w.heap.size + 1) u v ((W.setCell ⟨w.heap.size + 1, 0, none⟩ u).setCell ⟨w.heap.size + 1, 1, none⟩ v) ∧
    (SRow ((W.setCell ⟨w.heap.size + 1, 0, none⟩ u).setCell ⟨w.heap.size + 1, 1, none⟩ v) u l ∧ From w.heap.size u) ∧ (WRow ((W.setCell ⟨w.heap.size + 1, 0, none⟩ u).setCell ⟨w.heap.size + 1, 1, none⟩ v) v m ∧ From w.heap.size v) ∧
    Below w.heap.size w ((W.setCell ⟨w.heap.size + 1, 0, none⟩ u).setCell ⟨w.heap.size + 1, 1, none⟩ v) := by
  obtain ⟨h1, h2, h3, h4, h5, h6⟩ := h
  exact ⟨h2.set u v, ⟨((h4.setBelow (b := w.heap.size + 1) (by omega)).setBelow (b := w.heap.size + 1) (by omega)).row, (from_ownS h4).mono (by omega)⟩, ⟨((h5.setBelow (b := w.heap.size + 1) (by omega)).setBelow (b := w.heap.size + 1) (by omega)).row, (from_ownW h5).mono (by omega)⟩,
    (h6.setCell (p := ⟨w.heap.size + 1, 0, none⟩) (by simp) _).setCell (p := ⟨w.heap.size + 1, 1, none⟩) (by simp) _⟩

/-- What holds at the heads of few's two loops. -/
def Few1 (w : World) (vS vW : Value) (n : Nat) (i : Value) (wr : World) : Prop := ∃ u l, l.length ≤ n ∧ i = .int .i64 l.length ∧ (∀ t ∈ l, t.size ≤ 66) ∧ FewB w vS vW u (.slice none 0 0) l [] wr
def Few2 (w : World) (vS vW u : Value) (l : List ByteArray) (n : Nat) (i : Value) (wr : World) : Prop := ∃ v m, m.length ≤ n ∧ i = .int .i64 m.length ∧ (∀ y ∈ m, y.2.size ≤ 66) ∧ FewB w vS vW u v l m wr

end Go.Proofs.Ytndakbjmahkjdaa.Disk

/-
  A disk among a law's arguments, opened: its two slices, whatever they hold.
-/
namespace Go.Proofs.Ytndakbjmahkjdaa.Disk
open Go.ChangeShapes Go.WideShapes Go.ChangeAt Go.RowKit Go.Lib

section
variable {H : Type} {enc : TypeId × Value → H} {W : World} {base : Nat} {spare : Nat → Bool} {held : Bool}

theorem add_off (b off j : Nat) : (⟨b, off, none⟩ : Addr).add j = ⟨b, off + j, none⟩ := by
  unfold Addr.add
  split
  · rename_i h; subst h; rfl
  · rfl
theorem argS_of {fuel : Nat} {v : Value} {x : DataW H × List MemPlace} (h : DataW.trod enc Try.prog W base spare held fuel 22 [v] = some x) : ArgS W v := by
  rcases open_strings Try.underlying22 Try.underlying9 (by kernel_rfl) h with ⟨hcs, _⟩ | ⟨a, len, cap, ss, hcs, _, hl, hm, hz, _, hcell, hws⟩
  · obtain rfl : v = .slice none 0 0 := by simpa using hcs
    exact ⟨none, 0, 0, rfl, Nat.le_refl _, by omega, fun h => absurd h (Nat.lt_irrefl _)⟩
  · obtain rfl : v = .slice (some a) len cap := by simpa using hcs
    unfold maxLen at hm hws
    refine ⟨some a, len, cap, rfl, hl, by omega, fun h0 => ?_⟩
    have hls : len ≤ ss.length := by rw [hz]; split <;> omega
    obtain ⟨b, off, spot⟩ := a
    have hc := hcell 0 (by omega)
    have hspot : spot = none := by simpa [Addr.add] using World.cell?_spot hc
    subst hspot
    refine ⟨b, off, rfl, by simpa [Addr.add] using block_lt_of_cell hc, fun j hj => ⟨ss.getD j ByteArray.empty, ?_, ?_⟩⟩
    · have hjs : j < ss.length := by omega
      have := hws (ss.getD j ByteArray.empty) (by simp [List.getD, List.getElem?_eq_getElem hjs])
      omega
    · rw [← add_off]; exact hcell j (by omega)
theorem argW_of {fuel : Nat} {v : Value} {x : DataW H × List MemPlace} (h : DataW.trod enc Try.prog W base spare held fuel 23 [v] = some x) : ArgW W v := by
  rcases Deep.open_slice_pairs Try.underlying23 Try.underlying75 (by kernel_rfl) rfl rfl (by kernel_rfl) (by kernel_rfl) h with ⟨hcs, _⟩ | ⟨a, len, cap, m, n, V0, V1, D0, D1, P0, P1, hcs, _, hl, hm, hmm, _, hcell⟩
  · obtain rfl : v = .slice none 0 0 := by simpa using hcs
    exact ⟨none, 0, 0, rfl, Nat.le_refl _, by omega, fun h => absurd h (Nat.lt_irrefl _)⟩
  · obtain rfl : v = .slice (some a) len cap := by simpa using hcs
    unfold maxLen at hm
    refine ⟨some a, len, cap, rfl, hl, by omega, fun h0 => ?_⟩
    have hls : len ≤ m := by rw [hmm]; split <;> omega
    obtain ⟨b, off, spot⟩ := a
    have hc := (hcell 0 (by omega)).1
    have hspot : spot = none := by simpa [Addr.add] using World.cell?_spot hc
    subst hspot
    refine ⟨b, off, rfl, by simpa [Addr.add] using block_lt_of_cell hc, fun j hj => ?_⟩
    obtain ⟨h1, h2, h3, h4⟩ := hcell j (by omega)
    obtain ⟨i, e1, _⟩ := DataW.trod_int Try.underlying3 h3
    obtain ⟨t, e2, _, ht⟩ := DataW.trod_string Try.underlying9 h4
    have e1' : V0 j = .int .i64 i := by simpa using e1
    have e2' : V1 j = .string t := by simpa using e2
    rw [e1', add_off] at h1
    rw [e2', add_off] at h2
    unfold maxLen at ht
    exact ⟨i, t, by omega, h1, by rw [← h2]; congr 2⟩

set_option maxRecDepth 100000 in
theorem open_disk {v : Value} {fuel : Nat} {x : DataW H × List MemPlace} {r : Reach} {b0 : Nat} (hv : Value.okWide Try.prog W r b0 25 v) (h : DataW.trod enc Try.prog W base spare held fuel 25 v.cells.toList = some x) :
    ∃ vS vW, v = .agg #[vS, vW] ∧ ArgS W vS ∧ ArgW W vW := by
  obtain ⟨cs, rfl, hcs⟩ := okWide_struct Try.underlying25 hv
  have h2 : Try.prog.cellsOf 25 = 2 := by kernel_rfl
  rw [h2] at hcs
  obtain ⟨y0, y1, n, _, _, g0, g1⟩ := trod_struct2 Try.underlying25 h
  have k0 : Try.prog.cellsOf 22 = 1 := by kernel_rfl
  have k1 : Try.prog.cellsOf 23 = 1 := by kernel_rfl
  match cs, hcs with
  | ⟨[c0, c1]⟩, _ =>
    dsimp only [Value.cells] at g0 g1
    rw [k0] at g0
    rw [k1] at g1
    exact ⟨c0, c1, rfl, argS_of g0, argW_of g1⟩
end
end Go.Proofs.Ytndakbjmahkjdaa.Disk

/-
  Plain mathematics of crashes: what a sector may hold behind one. No program in it.
-/
namespace Go.Proofs.Ytndakbjmahkjdaa.Disk
open Go.Lib

/-- Byte i of a text. -/
def byt (s : ByteArray) (i : Nat) : Nat := (s.data.toList.getD i 0).toNat
theorem byt_eq {s : ByteArray} {i : Nat} (h : i < s.size) : s[i].toNat = byt s i := by
  have h' : i < s.data.toList.length := by rw [bytes_size]; exact h
  unfold byt
  rw [List.getD, List.getElem?_eq_getElem h']
  rfl
theorem byt_torn {s d : ByteArray} {n i : Nat} (hd : n ≤ d.size) : byt (torn s d n) i = if i < n then byt d i else byt s i := by
  unfold byt torn
  have hl : (d.data.toList.take n).length = n := by rw [List.length_take, bytes_size]; omega
  have : (over (d.data.toList.take n) s.data.toList).toArray.toList = over (d.data.toList.take n) s.data.toList := by simp
  show ((over (d.data.toList.take n) s.data.toList).toArray.toList.getD i 0).toNat = _
  rw [this, List.getD, over_at, hl]
  by_cases h : i < n
  · rw [if_pos h, if_pos h, List.getElem?_take, if_pos h]; rfl
  · rw [if_neg h, if_neg h]; rfl
/-- Sector a's text x is made of bytes of the sector that was safe and of writes at its place. -/
def Made (ls : List ByteArray) (ws : List (Int × ByteArray)) (a : Nat) (x : ByteArray) : Prop :=
  ∀ i, i < 64 → byt x i = byt (ls.getD a ⟨#[]⟩) i ∨ ∃ j, ∃ h : j < ws.length, ws[j].1 = (a : Int) ∧ byt ws[j].2 i = byt x i
theorem keepTo_made {kp : Nat} {ls : List ByteArray} {ws : List (Int × ByteArray)} (hP : rightP ls ws) : ∀ k, k ≤ ws.length → ∀ a, a < ls.length → Made ls ws a ((keepTo kp ls ws k).getD a ⟨#[]⟩)
  | 0, _, a, ha => fun i hi => .inl rfl
  | k + 1, hk, a, ha => by
    have hk' : k < ws.length := by omega
    by_cases hb : bitB kp k = true
    · have e : keepTo kp ls ws (k + 1) = (keepTo kp ls ws k).set (wat ws k).1.toNat (wat ws k).2 := if_pos hb
      rw [e, wat_at hk', List.getD, List.getElem?_set]
      obtain ⟨y1, y2, y3⟩ := hP.2.2.2.2 k hk'
      by_cases hc : ws[k].1.toNat = a
      · rw [if_pos hc, if_pos (by rw [keepTo_len]; omega)]
        exact fun i hi => .inr ⟨k, hk', by omega, rfl⟩
      · rw [if_neg hc]
        exact keepTo_made hP k (by omega) a ha
    · have e : keepTo kp ls ws (k + 1) = keepTo kp ls ws k := if_neg hb
      rw [e]
      exact keepTo_made hP k (by omega) a ha
theorem crashL_len (kp : Nat) (ls : List ByteArray) (ws : List (Int × ByteArray)) (t : Int) : (crashL kp ls ws t).length = ls.length := by
  unfold crashL
  split
  · exact keepTo_len _ _ _ _
  · split
    · rw [List.length_set]; exact keepTo_len _ _ _ _
    · exact keepTo_len _ _ _ _
theorem getD_eq {l : List ByteArray} {a : Nat} (h : a < l.length) : l.getD a ⟨#[]⟩ = l[a] := by rw [List.getD, List.getElem?_eq_getElem h]; rfl
theorem crashL_made {kp : Nat} {ls : List ByteArray} {ws : List (Int × ByteArray)} (hP : rightP ls ws) (t : Int) {a : Nat} (ha : a < ls.length) : Made ls ws a ((crashL kp ls ws t).getD a ⟨#[]⟩) ∧ ((crashL kp ls ws t).getD a ⟨#[]⟩).size = 64 := by
  have hK := keepTo_made (kp := kp) hP ws.length (Nat.le_refl _)
  have hZ : ∀ b, b < ls.length → ((keepTo kp ls ws ws.length).getD b ⟨#[]⟩).size = 64 := fun b hb => by
    rw [getD_eq (by rw [keepTo_len]; exact hb)]
    exact keepTo_size hP _ (Nat.le_refl _) _
  unfold crashL
  split
  · exact ⟨hK a ha, hZ a ha⟩
  · rename_i r hr
    have hrl := lostO_lt hr
    obtain ⟨y1, y2, y3⟩ := hP.2.2.2.2 r hrl
    split
    · rename_i ht
      rw [wat_at hrl]
      rw [List.getD, List.getElem?_set]
      by_cases hc : ws[r].1.toNat = a
      · rw [if_pos hc, if_pos (by rw [keepTo_len]; omega)]
        subst hc
        refine ⟨fun i hi => ?_, ?_⟩
        · show byt (torn _ ws[r].2 t.toNat) i = _ ∨ _
          rw [Option.getD_some, byt_torn (by omega)]
          by_cases hin : i < t.toNat
          · rw [if_pos hin]
            exact .inr ⟨r, hrl, by omega, rfl⟩
          · rw [if_neg hin]
            exact hK _ ha i hi
        · show (torn _ ws[r].2 t.toNat).size = 64
          rw [torn_size (by rw [hZ _ ha]; omega), hZ _ ha]
      · rw [if_neg hc]
        exact ⟨hK a ha, hZ a ha⟩
    · exact ⟨hK a ha, hZ a ha⟩
end Go.Proofs.Ytndakbjmahkjdaa.Disk
