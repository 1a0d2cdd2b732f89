/-
  Acts with stock among a law's arguments, opened: of each its kind, name and number.
-/
import Derived.Test.YtihfdeihpdkjcaaKArg
namespace Go.Proofs.Ytihfdeihpdkjcaa.Goods.Stk
open Go.ChangeShapes Go.WideShapes Go.ChangeAt Go.RowKit Go.Lib Go.Deep

/-- A slice of acts that came in. -/
def ArgK (w : World) (v : Value) : Prop := ∃ (a : Option Addr) (len cap : Nat), v = .slice a len cap ∧ len ≤ cap ∧ cap ≤ 9223372036854775807 ∧
  (0 < len → ∃ b off, a = some ⟨b, off, none⟩ ∧ b < w.heap.size ∧ ∀ j, j < len → ∃ (k : Int) (s : ByteArray) (n : Int), s.size ≤ 9223372036854775807 ∧
    w.cell? ⟨b, off + j * 3, none⟩ = some (.int .i64 k) ∧ w.cell? ⟨b, off + j * 3 + 1, none⟩ = some (.string s) ∧ w.cell? ⟨b, off + j * 3 + 2, none⟩ = some (.int .i64 n))

section
variable {H : Type} {enc : TypeId × Value → H} {W : World} {base : Nat} {spare : Nat → Bool} {held : Bool}

theorem act_of {fuel : Nat} {c0 c1 c2 : Value} {x : DataW H × List MemPlace} (h : DataW.trod enc Try.prog W base spare held fuel 44 [c0, c1, c2] = some x) :
    ∃ (k : Int) (s : ByteArray) (n : Int), c0 = .int .i64 k ∧ c1 = .string s ∧ c2 = .int .i64 n ∧ s.size ≤ 9223372036854775807 := by
  obtain ⟨xs, n, _, _, _, hx, hf⟩ := DataW.trod_struct Try.underlying44 h
  have k1 : Try.prog.cellsOf 3 = 1 := by kernel_rfl
  have k2 : Try.prog.cellsOf 9 = 1 := by kernel_rfl
  match xs, hx with
  | [x0, x1, x2], _ =>
    have g0 : DataW.trod enc Try.prog W base spare held n 3 (([c0, c1, c2].drop 0).take (Try.prog.cellsOf 3)) = some x0 := hf 0 _ rfl
    have g1 : DataW.trod enc Try.prog W base spare held n 9 (([c0, c1, c2].drop 1).take (Try.prog.cellsOf 9)) = some x1 := hf 1 _ rfl
    have g2 : DataW.trod enc Try.prog W base spare held n 3 (([c0, c1, c2].drop 2).take (Try.prog.cellsOf 3)) = some x2 := hf 2 _ rfl
    rw [k1] at g0 g2
    rw [k2] at g1
    obtain ⟨k, e0, _, _⟩ := DataW.trod_int Try.underlying3 g0
    obtain ⟨d, e1, _, w1⟩ := DataW.trod_string Try.underlying9 g1
    obtain ⟨t, e2, _, _⟩ := DataW.trod_int Try.underlying3 g2
    exact ⟨k, d, t, by simpa using e0, by simpa using e1, by simpa using e2, by simpa [maxLen] using w1⟩

theorem argS_of {fuel : Nat} {v : Value} {x : DataW H × List MemPlace} (h : DataW.trod enc Try.prog W base spare held fuel 41 [v] = some x) : ArgK W v := by
  rcases open_slice Try.underlying41 h with ⟨hcs, _⟩ | ⟨a, len, cap, m, n, D, Pl, hcs, hb, hl, hm, hmm, hx, hi⟩
  · obtain rfl : v = .slice none 0 0 := by simpa using hcs
    exact ⟨none, 0, 0, rfl, Nat.le_refl _, by omega, fun h => absurd h (Nat.lt_irrefl _)⟩
  · obtain rfl : v = .slice (some a) len cap := by simpa using hcs
    unfold maxLen at hm
    refine ⟨some a, len, cap, rfl, hl, by omega, fun h0 => ?_⟩
    have hls : len ≤ m := by rw [hmm]; split <;> omega
    have k3 : Try.prog.cellsOf 44 = 3 := by kernel_rfl
    obtain ⟨b, off, spot⟩ := a
    have one : ∀ j, j < len → ∃ c0 c1 c2, DataW.trod enc Try.prog W base spare held n 44 [c0, c1, c2] = some (D j, Pl j) ∧ W.cell? ((⟨b, off, spot⟩ : Addr).add (j * 3)) = some c0 ∧ W.cell? (((⟨b, off, spot⟩ : Addr).add (j * 3)).add 1) = some c1 ∧ W.cell? (((⟨b, off, spot⟩ : Addr).add (j * 3)).add 2) = some c2 := by
      intro j hj
      obtain ⟨cs', hc, ht'⟩ := hi j (by omega)
      rw [k3] at hc
      obtain ⟨_, hcl, hat⟩ := World.cells?_some hc
      match cs', hcl with
      | [c0, c1, c2], _ =>
        refine ⟨c0, c1, c2, ht', ?_, hat 1 (by omega), hat 2 (by omega)⟩
        have := hat 0 (by omega)
        rwa [show ((⟨b, off, spot⟩ : Addr).add (j * 3)).add 0 = (⟨b, off, spot⟩ : Addr).add (j * 3) by unfold Addr.add; split <;> simp_all] at this
    obtain ⟨_, _, _, _, z0, _⟩ := one 0 h0
    have hspot : spot = none := by simpa [Addr.add] using World.cell?_spot z0
    subst hspot
    have ha : ∀ o j, (⟨b, o, none⟩ : Addr).add j = ⟨b, o + j, none⟩ := fun o j => addr_add b o j
    refine ⟨b, off, rfl, by simpa [Addr.add] using block_lt_of_cell z0, fun j hj => ?_⟩
    obtain ⟨c0, c1, c2, ht, z0, z1, z2⟩ := one j hj
    obtain ⟨k, s, t, rfl, rfl, rfl, h1⟩ := act_of ht
    rw [ha] at z0 z1 z2
    rw [ha] at z1 z2
    exact ⟨k, s, t, h1, z0, z1, z2⟩
end
end Go.Proofs.Ytihfdeihpdkjcaa.Goods.Stk
