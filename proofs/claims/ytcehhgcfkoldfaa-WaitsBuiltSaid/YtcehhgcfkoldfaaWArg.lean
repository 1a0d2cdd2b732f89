/-
  Lines among a law's arguments, opened.
-/
import Derived.Test.YtcehhgcfkoldfaaWFew
import Derived.Deep.Slices
namespace Go.Proofs.Ytcehhgcfkoldfaa.Waits
open Go.ChangeShapes Go.WideShapes Go.ChangeAt Go.RowKit Go.Lib Go.Deep
open Go.Proofs.Ytcehhgcfkoldfaa.Goods
open Go.Proofs.Ytcehhgcfkoldfaa.Queue (Wt ltB wv QRow)

section
variable {H : Type} {enc : TypeId × Value → H} {W : World} {base : Nat} {spare : Nat → Bool} {held : Bool}

theorem wait_of {fuel : Nat} {c0 c1 c2 : Value} {x : DataW H × List MemPlace} (h : DataW.trod enc Try.prog W base spare held fuel 24 [c0, c1, c2] = some x) :
    ∃ y : Wt, c0 = .int .i64 y.c ∧ c1 = .int .i64 y.s ∧ c2 = .int .i64 y.o := by
  obtain ⟨xs, n, _, _, _, hx, hf⟩ := DataW.trod_struct Try.underlying24 h
  have k1 : Try.prog.cellsOf 3 = 1 := by kernel_rfl
  match xs, hx with
  | [x0, x1, x2], _ =>
    have g0 : DataW.trod enc Try.prog W base spare held n 3 (([c0, c1, c2].drop 0).take (Try.prog.cellsOf 3)) = some x0 := hf 0 _ rfl
    have g1 : DataW.trod enc Try.prog W base spare held n 3 (([c0, c1, c2].drop 1).take (Try.prog.cellsOf 3)) = some x1 := hf 1 _ rfl
    have g2 : DataW.trod enc Try.prog W base spare held n 3 (([c0, c1, c2].drop 2).take (Try.prog.cellsOf 3)) = some x2 := hf 2 _ rfl
    rw [k1] at g0 g1 g2
    obtain ⟨a, e0, _, _⟩ := DataW.trod_int Try.underlying3 g0
    obtain ⟨b, e1, _, _⟩ := DataW.trod_int Try.underlying3 g1
    obtain ⟨c, e2, _, _⟩ := DataW.trod_int Try.underlying3 g2
    exact ⟨⟨a, b, c⟩, by simpa using e0, by simpa using e1, by simpa using e2⟩
set_option maxRecDepth 100000 in
theorem line_of {fuel : Nat} {c0 c1 c2 c3 : Value} {x : DataW H × List MemPlace} (h : DataW.trod enc Try.prog W base spare held fuel 26 [c0, c1, c2, c3] = some x) :
    ∃ y : Ln, c0 = .string y.k ∧ c1 = .int .i64 y.w.c ∧ c2 = .int .i64 y.w.s ∧ c3 = .int .i64 y.w.o ∧ y.k.size ≤ 9223372036854775807 := by
  obtain ⟨xs, n, _, _, _, hx, hf⟩ := DataW.trod_struct Try.underlying26 h
  have k1 : Try.prog.cellsOf 24 = 3 := by kernel_rfl
  have k2 : Try.prog.cellsOf 9 = 1 := by kernel_rfl
  match xs, hx with
  | [x0, x1], _ =>
    have g0 : DataW.trod enc Try.prog W base spare held n 9 (([c0, c1, c2, c3].drop 0).take (Try.prog.cellsOf 9)) = some x0 := hf 0 _ rfl
    have g1 : DataW.trod enc Try.prog W base spare held n 24 (([c0, c1, c2, c3].drop 1).take (Try.prog.cellsOf 24)) = some x1 := hf 1 _ rfl
    rw [k2] at g0
    rw [k1] at g1
    obtain ⟨s, e0, _, w0⟩ := DataW.trod_string Try.underlying9 g0
    obtain ⟨y, e1, e2, e3⟩ := wait_of (c0 := c1) (c1 := c2) (c2 := c3) g1
    exact ⟨⟨s, y⟩, by simpa using e0, e1, e2, e3, by simpa [maxLen] using w0⟩

set_option maxRecDepth 100000 in
theorem open_line {v : Value} {fuel : Nat} {x : DataW H × List MemPlace} {r : Reach} {b0 : Nat} (hv : Value.okWide Try.prog W r b0 26 v) (h : DataW.trod enc Try.prog W base spare held fuel 26 v.cells.toList = some x) : ∃ y : Ln, v = lv y ∧ y.k.size ≤ 9223372036854775807 := by
  obtain ⟨cs, rfl, hcs⟩ := okWide_struct Try.underlying26 hv
  have h4 : Try.prog.cellsOf 26 = 4 := by kernel_rfl
  rw [h4] at hcs
  match cs, hcs with
  | ⟨[c0, c1, c2, c3]⟩, _ =>
    obtain ⟨y, rfl, rfl, rfl, rfl, hc⟩ := line_of (c0 := c0) (c1 := c1) (c2 := c2) (c3 := c3) h
    exact ⟨y, rfl, hc⟩

set_option maxRecDepth 100000 in
theorem argL_of {fuel : Nat} {v : Value} {x : DataW H × List MemPlace} (h : DataW.trod enc Try.prog W base spare held fuel 22 [v] = some x) : ArgL W v := by
  rcases open_slice Try.underlying22 h with ⟨hcs, _⟩ | ⟨a, len, cap, m, n, D, Pl, hcs, hb, hl, hm, hmm, hx, hi⟩
  · obtain rfl : v = .slice none 0 0 := by simpa using hcs
    exact ⟨[], .nil _, by simp⟩
  · obtain rfl : v = .slice (some a) len cap := by simpa using hcs
    unfold maxLen at hm
    have hls : len ≤ m := by rw [hmm]; split <;> omega
    have k4 : Try.prog.cellsOf 26 = 4 := by kernel_rfl
    obtain ⟨b, off, spot⟩ := a
    have one : ∀ j, ∃ y : Ln, j < len → W.cell? ((⟨b, off, spot⟩ : Addr).add (j * 4)) = some (.string y.k) ∧ W.cell? (((⟨b, off, spot⟩ : Addr).add (j * 4)).add 1) = some (.int .i64 y.w.c) ∧ W.cell? (((⟨b, off, spot⟩ : Addr).add (j * 4)).add 2) = some (.int .i64 y.w.s) ∧ W.cell? (((⟨b, off, spot⟩ : Addr).add (j * 4)).add 3) = some (.int .i64 y.w.o) ∧ y.k.size ≤ 9223372036854775807 := by
      intro j
      by_cases hj : j < len
      · obtain ⟨cs', hc, ht'⟩ := hi j (by omega)
        rw [k4] at hc
        obtain ⟨_, hcl, hat⟩ := World.cells?_some hc
        match cs', hcl with
        | [c0, c1, c2, c3], _ =>
          obtain ⟨y, rfl, rfl, rfl, rfl, hcame⟩ := line_of ht'
          refine ⟨y, fun _ => ⟨?_, hat 1 (by omega), hat 2 (by omega), hat 3 (by omega), hcame⟩⟩
          have := hat 0 (by omega)
          rwa [show ((⟨b, off, spot⟩ : Addr).add (j * 4)).add 0 = (⟨b, off, spot⟩ : Addr).add (j * 4) by unfold Addr.add; split <;> simp_all] at this
      · exact ⟨noL, fun h => absurd h hj⟩
    obtain ⟨f, hf⟩ := Classical.skolem.1 one
    have e1 : ((List.range len).map f).length = len := by simp
    refine ⟨(List.range len).map f, ⟨some ⟨b, off, spot⟩, cap, by rw [e1], by omega, by omega, fun h0 => ?_⟩, fun x hx => ?_⟩
    · rw [e1] at h0
      obtain ⟨z0, _⟩ := hf 0 h0
      have hspot : spot = none := by simpa [Addr.add] using World.cell?_spot z0
      subst hspot
      refine ⟨b, off, rfl, by simpa [Addr.add] using block_lt_of_cell z0, fun j hj => ?_⟩
      obtain ⟨z0, z1, z2, z3, _⟩ := hf j (by omega)
      rw [addr_add] at z0 z1 z2 z3
      rw [addr_add] at z1 z2 z3
      rw [show ((List.range len).map f)[j] = f j by simp]
      exact ⟨z0, z1, z2, z3⟩
    · obtain ⟨j, hj, rfl⟩ := List.mem_map.1 hx
      exact (hf j (by simpa using hj)).2.2.2.2
end
end Go.Proofs.Ytcehhgcfkoldfaa.Waits
