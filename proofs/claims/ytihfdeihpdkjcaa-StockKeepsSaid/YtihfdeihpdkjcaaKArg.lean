/-
  Rows among a law's arguments, opened.
-/
import Derived.Test.YtihfdeihpdkjcaaKDoes
import Derived.Deep.Slices
namespace Go.Proofs.Ytihfdeihpdkjcaa.Goods.Stk
open Go.ChangeShapes Go.WideShapes Go.ChangeAt Go.RowKit Go.Lib Go.Deep

section
variable {H : Type} {enc : TypeId × Value → H} {W : World} {base : Nat} {spare : Nat → Bool} {held : Bool}

theorem row_of {fuel : Nat} {c0 c1 c2 c3 c4 c5 : Value} {x : DataW H × List MemPlace} (h : DataW.trod enc Try.prog W base spare held fuel 25 [c0, c1, c2, c3, c4, c5] = some x) :
    ∃ y : Rw, c0 = .string y.s ∧ c1 = .int .i64 y.n ∧ c2 = .int .i64 y.f ∧ c3 = .int .i64 y.h ∧ c4 = .int .i64 y.p ∧ c5 = .int .i64 y.t ∧ y.s.size ≤ 9223372036854775807 := by
  obtain ⟨xs, n, _, _, _, hx, hf⟩ := DataW.trod_struct Try.underlying25 h
  have k1 : Try.prog.cellsOf 3 = 1 := by kernel_rfl
  have k2 : Try.prog.cellsOf 9 = 1 := by kernel_rfl
  match xs, hx with
  | [x0, x1, x2, x3, x4, x5], _ =>
    have g0 : DataW.trod enc Try.prog W base spare held n 9 (([c0, c1, c2, c3, c4, c5].drop 0).take (Try.prog.cellsOf 9)) = some x0 := hf 0 _ rfl
    have g1 : DataW.trod enc Try.prog W base spare held n 3 (([c0, c1, c2, c3, c4, c5].drop 1).take (Try.prog.cellsOf 3)) = some x1 := hf 1 _ rfl
    have g2 : DataW.trod enc Try.prog W base spare held n 3 (([c0, c1, c2, c3, c4, c5].drop 2).take (Try.prog.cellsOf 3)) = some x2 := hf 2 _ rfl
    have g3 : DataW.trod enc Try.prog W base spare held n 3 (([c0, c1, c2, c3, c4, c5].drop 3).take (Try.prog.cellsOf 3)) = some x3 := hf 3 _ rfl
    have g4 : DataW.trod enc Try.prog W base spare held n 3 (([c0, c1, c2, c3, c4, c5].drop 4).take (Try.prog.cellsOf 3)) = some x4 := hf 4 _ rfl
    have g5 : DataW.trod enc Try.prog W base spare held n 3 (([c0, c1, c2, c3, c4, c5].drop 5).take (Try.prog.cellsOf 3)) = some x5 := hf 5 _ rfl
    rw [k2] at g0
    rw [k1] at g1 g2 g3 g4 g5
    obtain ⟨s, e0, _, w0⟩ := DataW.trod_string Try.underlying9 g0
    obtain ⟨a1, e1, _, _⟩ := DataW.trod_int Try.underlying3 g1
    obtain ⟨a2, e2, _, _⟩ := DataW.trod_int Try.underlying3 g2
    obtain ⟨a3, e3, _, _⟩ := DataW.trod_int Try.underlying3 g3
    obtain ⟨a4, e4, _, _⟩ := DataW.trod_int Try.underlying3 g4
    obtain ⟨a5, e5, _, _⟩ := DataW.trod_int Try.underlying3 g5
    exact ⟨⟨s, a1, a2, a3, a4, a5⟩, by simpa using e0, by simpa using e1, by simpa using e2, by simpa using e3, by simpa using e4, by simpa using e5, by simpa [maxLen] using w0⟩

theorem argR_of {fuel : Nat} {v : Value} {x : DataW H × List MemPlace} (h : DataW.trod enc Try.prog W base spare held fuel 22 [v] = some x) : ArgR W v := by
  rcases open_slice Try.underlying22 h with ⟨hcs, _⟩ | ⟨a, len, cap, m, n, D, Pl, hcs, hb, hl, hm, hmm, hx, hi⟩
  · obtain rfl : v = .slice none 0 0 := by simpa using hcs
    exact ⟨[], .nil _, by simp⟩
  · obtain rfl : v = .slice (some a) len cap := by simpa using hcs
    unfold maxLen at hm
    have hls : len ≤ m := by rw [hmm]; split <;> omega
    have k6 : Try.prog.cellsOf 25 = 6 := by kernel_rfl
    obtain ⟨b, off, spot⟩ := a
    have one : ∀ j, ∃ y : Rw, j < len → W.cell? ((⟨b, off, spot⟩ : Addr).add (j * 6)) = some (.string y.s) ∧ W.cell? (((⟨b, off, spot⟩ : Addr).add (j * 6)).add 1) = some (.int .i64 y.n) ∧ W.cell? (((⟨b, off, spot⟩ : Addr).add (j * 6)).add 2) = some (.int .i64 y.f) ∧ W.cell? (((⟨b, off, spot⟩ : Addr).add (j * 6)).add 3) = some (.int .i64 y.h) ∧ W.cell? (((⟨b, off, spot⟩ : Addr).add (j * 6)).add 4) = some (.int .i64 y.p) ∧ W.cell? (((⟨b, off, spot⟩ : Addr).add (j * 6)).add 5) = some (.int .i64 y.t) ∧ y.s.size ≤ 9223372036854775807 := by
      intro j
      by_cases hj : j < len
      · obtain ⟨cs', hc, ht'⟩ := hi j (by omega)
        rw [k6] at hc
        obtain ⟨_, hcl, hat⟩ := World.cells?_some hc
        match cs', hcl with
        | [c0, c1, c2, c3, c4, c5], _ =>
          obtain ⟨y, rfl, rfl, rfl, rfl, rfl, rfl, hcame⟩ := row_of ht'
          refine ⟨y, fun _ => ⟨?_, hat 1 (by omega), hat 2 (by omega), hat 3 (by omega), hat 4 (by omega), hat 5 (by omega), hcame⟩⟩
          have := hat 0 (by omega)
          rwa [show ((⟨b, off, spot⟩ : Addr).add (j * 6)).add 0 = (⟨b, off, spot⟩ : Addr).add (j * 6) by unfold Addr.add; split <;> simp_all] at this
      · exact ⟨noR, fun h => absurd h hj⟩
    obtain ⟨f, hf⟩ := Classical.skolem.1 one
    have e1 : ((List.range len).map f).length = len := by simp
    refine ⟨(List.range len).map f, ⟨some ⟨b, off, spot⟩, cap, by rw [e1], by omega, by omega, fun h0 => ?_⟩, fun x hx => ?_⟩
    · rw [e1] at h0
      obtain ⟨z0, _⟩ := hf 0 h0
      have hspot : spot = none := by simpa [Addr.add] using World.cell?_spot z0
      subst hspot
      refine ⟨b, off, rfl, by simpa [Addr.add] using block_lt_of_cell z0, fun j hj => ?_⟩
      obtain ⟨z0, z1, z2, z3, z4, z5, _⟩ := hf j (by omega)
      rw [addr_add] at z0 z1 z2 z3 z4 z5
      rw [addr_add] at z1 z2 z3 z4 z5
      rw [show ((List.range len).map f)[j] = f j by simp]
      exact ⟨z0, z1, z2, z3, z4, z5⟩
    · obtain ⟨j, hj, rfl⟩ := List.mem_map.1 hx
      exact (hf j (by simpa using hj)).2.2.2.2.2.2
end
end Go.Proofs.Ytihfdeihpdkjcaa.Goods.Stk
