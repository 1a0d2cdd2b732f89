/-
  Goods among a law's arguments, opened.
-/
import Derived.Test.YthhadeohabkleaaGArg1
import Derived.Test.YthhadeohabkleaaGStay
namespace Go.Proofs.Ythhadeohabkleaa.Goods
open Go.ChangeShapes Go.WideShapes Go.ChangeAt Go.RowKit Go.Lib Go.Deep

section
variable {H : Type} {enc : TypeId × Value → H} {W : World} {base : Nat} {spare : Nat → Bool} {held : Bool}

theorem argT_of {fuel : Nat} {v : Value} {x : DataW H × List MemPlace} (h : DataW.trod enc Try.prog W base spare held fuel 22 [v] = some x) : ArgT W v := by
  rcases open_slice Try.underlying22 h with ⟨hcs, _⟩ | ⟨a, len, cap, m, n, D, Pl, hcs, hb, hl, hm, hmm, hx, hi⟩
  · obtain rfl : v = .slice none 0 0 := by simpa using hcs
    exact ⟨[], .nil _, by simp⟩
  · obtain rfl : v = .slice (some a) len cap := by simpa using hcs
    unfold maxLen at hm
    have hls : len ≤ m := by rw [hmm]; split <;> omega
    have k1 : Try.prog.cellsOf 9 = 1 := by kernel_rfl
    obtain ⟨b, off, spot⟩ := a
    have one : ∀ j, ∃ y : ByteArray, j < len → W.cell? ((⟨b, off, spot⟩ : Addr).add (j * 1)) = some (.string y) ∧ y.size ≤ 9223372036854775807 := by
      intro j
      by_cases hj : j < len
      · obtain ⟨cs', hc, ht'⟩ := hi j (by omega)
        rw [k1] at hc
        obtain ⟨_, hcl, hat⟩ := World.cells?_some hc
        match cs', hcl with
        | [c0], _ =>
          obtain ⟨y, e0, _, w0⟩ := DataW.trod_string Try.underlying9 ht'
          have e0' : c0 = .string y := by simpa using e0
          subst e0'
          refine ⟨y, fun _ => ⟨?_, by simpa [maxLen] using w0⟩⟩
          have := hat 0 (by omega)
          rwa [show ((⟨b, off, spot⟩ : Addr).add (j * 1)).add 0 = (⟨b, off, spot⟩ : Addr).add (j * 1) by unfold Addr.add; split <;> simp_all] at this
      · exact ⟨ByteArray.empty, fun h => absurd h hj⟩
    obtain ⟨f, hf⟩ := Classical.skolem.1 one
    have e1 : ((List.range len).map f).length = len := by simp
    refine ⟨(List.range len).map f, ⟨some ⟨b, off, spot⟩, cap, by rw [e1], by omega, by omega, fun h0 => ?_⟩, fun x hx => ?_⟩
    · rw [e1] at h0
      obtain ⟨z0, _⟩ := hf 0 h0
      have hspot : spot = none := by simpa [Addr.add] using World.cell?_spot z0
      subst hspot
      refine ⟨b, off, rfl, by simpa [Addr.add] using block_lt_of_cell z0, fun j hj => ?_⟩
      obtain ⟨z0, _⟩ := hf j (by omega)
      rw [addr_add, Nat.mul_one] at z0
      rw [show ((List.range len).map f)[j] = f j by simp]
      exact z0
    · obtain ⟨j, hj, rfl⟩ := List.mem_map.1 hx
      exact (hf j (by simpa using hj)).2

theorem argG_of {fuel : Nat} {v : Value} {x : DataW H × List MemPlace} (h : DataW.trod enc Try.prog W base spare held fuel 23 [v] = some x) : ArgG W v := by
  rcases open_slice Try.underlying23 h with ⟨hcs, _⟩ | ⟨a, len, cap, m, n, D, Pl, hcs, hb, hl, hm, hmm, hx, hi⟩
  · obtain rfl : v = .slice none 0 0 := by simpa using hcs
    exact ⟨[], .nil _, by simp⟩
  · obtain rfl : v = .slice (some a) len cap := by simpa using hcs
    unfold maxLen at hm
    have hls : len ≤ m := by rw [hmm]; split <;> omega
    have k5 : Try.prog.cellsOf 27 = 5 := by kernel_rfl
    obtain ⟨b, off, spot⟩ := a
    have one : ∀ j, ∃ y : Sb, j < len → W.cell? ((⟨b, off, spot⟩ : Addr).add (j * 5)) = some (.string y.f) ∧ W.cell? (((⟨b, off, spot⟩ : Addr).add (j * 5)).add 1) = some (.string y.t) ∧ W.cell? (((⟨b, off, spot⟩ : Addr).add (j * 5)).add 2) = some (.int .i64 y.r) ∧ W.cell? (((⟨b, off, spot⟩ : Addr).add (j * 5)).add 3) = some (.int .i64 y.n) ∧ W.cell? (((⟨b, off, spot⟩ : Addr).add (j * 5)).add 4) = some (.int .i64 y.d) ∧ Came y := by
      intro j
      by_cases hj : j < len
      · obtain ⟨cs', hc, ht'⟩ := hi j (by omega)
        rw [k5] at hc
        obtain ⟨_, hcl, hat⟩ := World.cells?_some hc
        match cs', hcl with
        | [c0, c1, c2, c3, c4], _ =>
          obtain ⟨y, rfl, rfl, rfl, rfl, rfl, hcame⟩ := sub_of ht'
          refine ⟨y, fun _ => ⟨?_, hat 1 (by omega), hat 2 (by omega), hat 3 (by omega), hat 4 (by omega), hcame⟩⟩
          have := hat 0 (by omega)
          rwa [show ((⟨b, off, spot⟩ : Addr).add (j * 5)).add 0 = (⟨b, off, spot⟩ : Addr).add (j * 5) by unfold Addr.add; split <;> simp_all] at this
      · exact ⟨default, fun h => absurd h hj⟩
    obtain ⟨f, hf⟩ := Classical.skolem.1 one
    have e1 : ((List.range len).map f).length = len := by simp
    refine ⟨(List.range len).map f, ⟨some ⟨b, off, spot⟩, cap, by rw [e1], by omega, by omega, fun h0 => ?_⟩, fun x hx => ?_⟩
    · rw [e1] at h0
      obtain ⟨z0, _⟩ := hf 0 h0
      have hspot : spot = none := by simpa [Addr.add] using World.cell?_spot z0
      subst hspot
      refine ⟨b, off, rfl, by simpa [Addr.add] using block_lt_of_cell z0, fun j hj => ?_⟩
      obtain ⟨z0, z1, z2, z3, z4, _⟩ := hf j (by omega)
      rw [addr_add] at z0 z1 z2 z3 z4
      rw [addr_add] at z1 z2 z3 z4
      rw [show ((List.range len).map f)[j] = f j by simp]
      exact ⟨z0, z1, z2, z3, z4⟩
    · obtain ⟨j, hj, rfl⟩ := List.mem_map.1 hx
      have := (hf j (by simpa using hj)).2.2.2.2.2
      exact ⟨this.1, this.2.1⟩

theorem open_goods {v : Value} {fuel : Nat} {x : DataW H × List MemPlace} {r : Reach} {b0 : Nat} (hv : Value.okWide Try.prog W r b0 25 v) (h : DataW.trod enc Try.prog W base spare held fuel 25 v.cells.toList = some x) : ∃ va vb, v = .agg #[va, vb] ∧ ArgT W va ∧ ArgG W vb := by
  obtain ⟨cs, rfl, hcs⟩ := okWide_struct Try.underlying25 hv
  have h2 : Try.prog.cellsOf 25 = 2 := by kernel_rfl
  rw [h2] at hcs
  obtain ⟨xs, n, _, _, _, hx, hf⟩ := DataW.trod_struct Try.underlying25 h
  have k0 : Try.prog.cellsOf 22 = 1 := by kernel_rfl
  have k1 : Try.prog.cellsOf 23 = 1 := by kernel_rfl
  clear h hv
  match cs, hcs with
  | ⟨[c0, c1]⟩, _ =>
    match xs, hx with
    | [x0, x1], _ =>
      have g0 : DataW.trod enc Try.prog W base spare held n 22 (([c0, c1].drop 0).take (Try.prog.cellsOf 22)) = some x0 := hf 0 _ rfl
      have g1 : DataW.trod enc Try.prog W base spare held n 23 (([c0, c1].drop 1).take (Try.prog.cellsOf 23)) = some x1 := hf 1 _ rfl
      rw [k0] at g0
      rw [k1] at g1
      exact ⟨c0, c1, rfl, argT_of g0, argG_of g1⟩
end
end Go.Proofs.Ythhadeohabkleaa.Goods
