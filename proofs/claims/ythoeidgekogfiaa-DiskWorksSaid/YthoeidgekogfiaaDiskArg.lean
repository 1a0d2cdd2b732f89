/-
  A disk among a law's arguments, opened: its two slices, whatever they hold.
-/
import Derived.Test.YthoeidgekogfiaaDiskFew
import Derived.Deep.SlicePairs
import Derived.SliceStrings
import Derived.ChangeOld
import Derived.Carry
import Derived.ShutString
namespace Go.Proofs.Ythoeidgekogfiaa.Disk
open Go.ChangeShapes Go.WideShapes Go.ChangeAt Go.RowKit Go.Lib

section
variable {H : Type} {enc : TypeId × Value → H} {W : World} {base : Nat} {spare : Nat → Bool} {held : Bool}

theorem add_off (b off j : Nat) : (⟨b, off, none⟩ : Addr).add j = ⟨b, off + j, none⟩ := by
  unfold Addr.add
  split
  · rename_i h; subst h; rfl
  · rfl
theorem argS_of {fuel : Nat} {v : Value} {x : DataW H × List MemPlace} (h : DataW.trod enc Try.prog W base spare held fuel 22 [v] = some x) : ArgS W v := by
  rcases open_strings Try.underlying22 Try.underlying9 (by kernel_rfl) h with ⟨hcs, _⟩ | ⟨a, len, cap, ss, hcs, _, hl, hm, hz, _, hcell, hws⟩
  · obtain rfl : v = .slice none 0 0 := by simpa using hcs
    exact ⟨none, 0, 0, rfl, Nat.le_refl _, by omega, fun h => absurd h (Nat.lt_irrefl _)⟩
  · obtain rfl : v = .slice (some a) len cap := by simpa using hcs
    unfold maxLen at hm hws
    refine ⟨some a, len, cap, rfl, hl, by omega, fun h0 => ?_⟩
    have hls : len ≤ ss.length := by rw [hz]; split <;> omega
    obtain ⟨b, off, spot⟩ := a
    have hc := hcell 0 (by omega)
    have hspot : spot = none := by simpa [Addr.add] using World.cell?_spot hc
    subst hspot
    refine ⟨b, off, rfl, by simpa [Addr.add] using block_lt_of_cell hc, fun j hj => ⟨ss.getD j ByteArray.empty, ?_, ?_⟩⟩
    · have hjs : j < ss.length := by omega
      have := hws (ss.getD j ByteArray.empty) (by simp [List.getD, List.getElem?_eq_getElem hjs])
      omega
    · rw [← add_off]; exact hcell j (by omega)
theorem argW_of {fuel : Nat} {v : Value} {x : DataW H × List MemPlace} (h : DataW.trod enc Try.prog W base spare held fuel 23 [v] = some x) : ArgW W v := by
  rcases Deep.open_slice_pairs Try.underlying23 Try.underlying43 (by kernel_rfl) rfl rfl (by kernel_rfl) (by kernel_rfl) h with ⟨hcs, _⟩ | ⟨a, len, cap, m, n, V0, V1, D0, D1, P0, P1, hcs, _, hl, hm, hmm, _, hcell⟩
  · obtain rfl : v = .slice none 0 0 := by simpa using hcs
    exact ⟨none, 0, 0, rfl, Nat.le_refl _, by omega, fun h => absurd h (Nat.lt_irrefl _)⟩
  · obtain rfl : v = .slice (some a) len cap := by simpa using hcs
    unfold maxLen at hm
    refine ⟨some a, len, cap, rfl, hl, by omega, fun h0 => ?_⟩
    have hls : len ≤ m := by rw [hmm]; split <;> omega
    obtain ⟨b, off, spot⟩ := a
    have hc := (hcell 0 (by omega)).1
    have hspot : spot = none := by simpa [Addr.add] using World.cell?_spot hc
    subst hspot
    refine ⟨b, off, rfl, by simpa [Addr.add] using block_lt_of_cell hc, fun j hj => ?_⟩
    obtain ⟨h1, h2, h3, h4⟩ := hcell j (by omega)
    obtain ⟨i, e1, _⟩ := DataW.trod_int Try.underlying3 h3
    obtain ⟨t, e2, _, ht⟩ := DataW.trod_string Try.underlying9 h4
    have e1' : V0 j = .int .i64 i := by simpa using e1
    have e2' : V1 j = .string t := by simpa using e2
    rw [e1', add_off] at h1
    rw [e2', add_off] at h2
    unfold maxLen at ht
    exact ⟨i, t, by omega, h1, by rw [← h2]; congr 2⟩

theorem open_disk {v : Value} {fuel : Nat} {x : DataW H × List MemPlace} {r : Reach} {b0 : Nat} (hv : Value.okWide Try.prog W r b0 25 v) (h : DataW.trod enc Try.prog W base spare held fuel 25 v.cells.toList = some x) :
    ∃ vS vW, v = .agg #[vS, vW] ∧ ArgS W vS ∧ ArgW W vW := by
  obtain ⟨cs, rfl, hcs⟩ := okWide_struct Try.underlying25 hv
  have h2 : Try.prog.cellsOf 25 = 2 := by kernel_rfl
  rw [h2] at hcs
  obtain ⟨y0, y1, n, _, _, g0, g1⟩ := trod_struct2 Try.underlying25 h
  have k0 : Try.prog.cellsOf 22 = 1 := by kernel_rfl
  have k1 : Try.prog.cellsOf 23 = 1 := by kernel_rfl
  match cs, hcs with
  | ⟨[c0, c1]⟩, _ =>
    dsimp only [Value.cells] at g0 g1
    rw [k0] at g0
    rw [k1] at g1
    exact ⟨c0, c1, rfl, argS_of g0, argW_of g1⟩
end
end Go.Proofs.Ythoeidgekogfiaa.Disk
