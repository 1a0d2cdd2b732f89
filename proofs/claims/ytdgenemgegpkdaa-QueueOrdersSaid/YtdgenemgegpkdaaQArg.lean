/-
  Waits among a law's arguments, opened.
-/
import Derived.Test.YtdgenemgegpkdaaQQueue
import Derived.Deep.Slices
namespace Go.Proofs.Ytdgenemgegpkdaa.Queue
open Go.ChangeShapes Go.WideShapes Go.ChangeAt Go.RowKit Go.Lib Go.Deep

/-- A slice of waits that came in. -/
def ArgQ (w : World) (v : Value) : Prop := ∃ l, QRow w v l
theorem QRow.take {w : World} {a : Option Addr} {cap : Nat} {l : List Wt} (h : QRow w (.slice a l.length cap) l) {n : Nat} (hn : n ≤ l.length) : QRow w (.slice a n cap) (l.take n) := by
  obtain ⟨a', cap', e, h1, h2, h3⟩ := h
  cases e
  have e1 : (l.take n).length = n := by rw [List.length_take]; omega
  refine ⟨a, cap, by rw [e1], by omega, h2, fun h0 => ?_⟩
  obtain ⟨b, off, ea, hbl, hc⟩ := h3 (by omega)
  exact ⟨b, off, ea, hbl, fun j hj => by
    rw [List.getElem_take]
    exact hc j (by omega)⟩

theorem add_off (b off j : Nat) : (⟨b, off, none⟩ : Addr).add j = ⟨b, off + j, none⟩ := by
  unfold Addr.add
  split
  · rename_i h; subst h; rfl
  · rfl

section
variable {H : Type} {enc : TypeId × Value → H} {W : World} {base : Nat} {spare : Nat → Bool} {held : Bool}

theorem wait_of {fuel : Nat} {c0 c1 c2 : Value} {x : DataW H × List MemPlace} (h : DataW.trod enc Try.prog W base spare held fuel 24 [c0, c1, c2] = some x) :
    ∃ y : Wt, c0 = .int .i64 y.c ∧ c1 = .int .i64 y.s ∧ c2 = .int .i64 y.o := by
  obtain ⟨xs, n, _, _, _, hx, hf⟩ := DataW.trod_struct Try.underlying24 h
  have k1 : Try.prog.cellsOf 3 = 1 := by kernel_rfl
  match xs, hx with
  | [x0, x1, x2], _ =>
    have g0 : DataW.trod enc Try.prog W base spare held n 3 (([c0, c1, c2].drop 0).take (Try.prog.cellsOf 3)) = some x0 := hf 0 _ rfl
    have g1 : DataW.trod enc Try.prog W base spare held n 3 (([c0, c1, c2].drop 1).take (Try.prog.cellsOf 3)) = some x1 := hf 1 _ rfl
    have g2 : DataW.trod enc Try.prog W base spare held n 3 (([c0, c1, c2].drop 2).take (Try.prog.cellsOf 3)) = some x2 := hf 2 _ rfl
    rw [k1] at g0 g1 g2
    obtain ⟨a, e0, _, _⟩ := DataW.trod_int Try.underlying3 g0
    obtain ⟨b, e1, _, _⟩ := DataW.trod_int Try.underlying3 g1
    obtain ⟨c, e2, _, _⟩ := DataW.trod_int Try.underlying3 g2
    exact ⟨⟨a, b, c⟩, by simpa using e0, by simpa using e1, by simpa using e2⟩

theorem open_wait {v : Value} {fuel : Nat} {x : DataW H × List MemPlace} {r : Reach} {b0 : Nat} (hv : Value.okWide Try.prog W r b0 24 v) (h : DataW.trod enc Try.prog W base spare held fuel 24 v.cells.toList = some x) : ∃ y : Wt, v = wv y := by
  obtain ⟨cs, rfl, hcs⟩ := okWide_struct Try.underlying24 hv
  have h3 : Try.prog.cellsOf 24 = 3 := by kernel_rfl
  rw [h3] at hcs
  match cs, hcs with
  | ⟨[c0, c1, c2]⟩, _ =>
    obtain ⟨y, rfl, rfl, rfl⟩ := wait_of (c0 := c0) (c1 := c1) (c2 := c2) h
    exact ⟨y, rfl⟩

theorem argQ_of {fuel : Nat} {v : Value} {x : DataW H × List MemPlace} (h : DataW.trod enc Try.prog W base spare held fuel 22 [v] = some x) : ArgQ W v := by
  rcases open_slice Try.underlying22 h with ⟨hcs, _⟩ | ⟨a, len, cap, m, n, D, Pl, hcs, hb, hl, hm, hmm, hx, hi⟩
  · obtain rfl : v = .slice none 0 0 := by simpa using hcs
    exact ⟨[], nil_row _⟩
  · obtain rfl : v = .slice (some a) len cap := by simpa using hcs
    unfold maxLen at hm
    have hls : len ≤ m := by rw [hmm]; split <;> omega
    have k3 : Try.prog.cellsOf 24 = 3 := by kernel_rfl
    obtain ⟨b, off, spot⟩ := a
    have one : ∀ j, ∃ y : Wt, j < len → W.cell? ((⟨b, off, spot⟩ : Addr).add (j * 3)) = some (.int .i64 y.c) ∧ W.cell? (((⟨b, off, spot⟩ : Addr).add (j * 3)).add 1) = some (.int .i64 y.s) ∧ W.cell? (((⟨b, off, spot⟩ : Addr).add (j * 3)).add 2) = some (.int .i64 y.o) := by
      intro j
      by_cases hj : j < len
      · obtain ⟨cs', hc, ht'⟩ := hi j (by omega)
        rw [k3] at hc
        obtain ⟨_, hcl, hat⟩ := World.cells?_some hc
        match cs', hcl with
        | [c0, c1, c2], _ =>
          obtain ⟨y, rfl, rfl, rfl⟩ := wait_of ht'
          refine ⟨y, fun _ => ⟨?_, hat 1 (by omega), hat 2 (by omega)⟩⟩
          have := hat 0 (by omega)
          rwa [show ((⟨b, off, spot⟩ : Addr).add (j * 3)).add 0 = (⟨b, off, spot⟩ : Addr).add (j * 3) by unfold Addr.add; split <;> simp_all] at this
      · exact ⟨⟨0, 0, 0⟩, fun h => absurd h hj⟩
    obtain ⟨f, hf⟩ := Classical.skolem.1 one
    have e1 : ((List.range len).map f).length = len := by simp
    refine ⟨(List.range len).map f, some ⟨b, off, spot⟩, cap, by rw [e1], by omega, by omega, fun h0 => ?_⟩
    rw [e1] at h0
    obtain ⟨z0, _⟩ := hf 0 h0
    have hspot : spot = none := by simpa [Addr.add] using World.cell?_spot z0
    subst hspot
    have ha : ∀ o j, (⟨b, o, none⟩ : Addr).add j = ⟨b, o + j, none⟩ := fun o j => add_off b o j
    refine ⟨b, off, rfl, by simpa [Addr.add] using block_lt_of_cell z0, fun j hj => ?_⟩
    obtain ⟨z0, z1, z2⟩ := hf j (by omega)
    rw [ha] at z0 z1 z2
    rw [ha] at z1 z2
    rw [show ((List.range len).map f)[j] = f j by simp]
    exact ⟨z0, z1, z2⟩
end
end Go.Proofs.Ytdgenemgegpkdaa.Queue
