/-
  A rule among a law's arguments, opened.
-/
import Derived.Test.YthhadeohabkleaaGCut
import Derived.Deep.Slices
namespace Go.Proofs.Ythhadeohabkleaa.Goods
open Go.ChangeShapes Go.WideShapes Go.ChangeAt Go.RowKit Go.Lib Go.Deep

/-- What came in as a rule. -/
def Came (x : Sb) : Prop := x.f.size ≤ 9223372036854775807 ∧ x.t.size ≤ 9223372036854775807 ∧ (-9223372036854775808 ≤ x.r ∧ x.r ≤ 9223372036854775807) ∧ (-9223372036854775808 ≤ x.n ∧ x.n ≤ 9223372036854775807) ∧ (-9223372036854775808 ≤ x.d ∧ x.d ≤ 9223372036854775807)

section
variable {H : Type} {enc : TypeId × Value → H} {W : World} {base : Nat} {spare : Nat → Bool} {held : Bool}

theorem sub_of {fuel : Nat} {c0 c1 c2 c3 c4 : Value} {x : DataW H × List MemPlace} (h : DataW.trod enc Try.prog W base spare held fuel 27 [c0, c1, c2, c3, c4] = some x) :
    ∃ y : Sb, c0 = .string y.f ∧ c1 = .string y.t ∧ c2 = .int .i64 y.r ∧ c3 = .int .i64 y.n ∧ c4 = .int .i64 y.d ∧ Came y := by
  obtain ⟨xs, n, _, _, _, hx, hf⟩ := DataW.trod_struct Try.underlying27 h
  have k1 : Try.prog.cellsOf 3 = 1 := by kernel_rfl
  have k2 : Try.prog.cellsOf 9 = 1 := by kernel_rfl
  match xs, hx with
  | [x0, x1, x2, x3, x4], _ =>
    have g0 : DataW.trod enc Try.prog W base spare held n 9 (([c0, c1, c2, c3, c4].drop 0).take (Try.prog.cellsOf 9)) = some x0 := hf 0 _ rfl
    have g1 : DataW.trod enc Try.prog W base spare held n 9 (([c0, c1, c2, c3, c4].drop 1).take (Try.prog.cellsOf 9)) = some x1 := hf 1 _ rfl
    have g2 : DataW.trod enc Try.prog W base spare held n 3 (([c0, c1, c2, c3, c4].drop 2).take (Try.prog.cellsOf 3)) = some x2 := hf 2 _ rfl
    have g3 : DataW.trod enc Try.prog W base spare held n 3 (([c0, c1, c2, c3, c4].drop 3).take (Try.prog.cellsOf 3)) = some x3 := hf 3 _ rfl
    have g4 : DataW.trod enc Try.prog W base spare held n 3 (([c0, c1, c2, c3, c4].drop 4).take (Try.prog.cellsOf 3)) = some x4 := hf 4 _ rfl
    rw [k2] at g0 g1
    rw [k1] at g2 g3 g4
    obtain ⟨f, e0, _, w0⟩ := DataW.trod_string Try.underlying9 g0
    obtain ⟨t, e1, _, w1⟩ := DataW.trod_string Try.underlying9 g1
    obtain ⟨r, e2, _, w2⟩ := DataW.trod_int Try.underlying3 g2
    obtain ⟨k, e3, _, w3⟩ := DataW.trod_int Try.underlying3 g3
    obtain ⟨d, e4, _, w4⟩ := DataW.trod_int Try.underlying3 g4
    have b2 : -9223372036854775808 ≤ r ∧ r ≤ 9223372036854775807 := by
      simp [Lit.wf, IntKind.min, IntKind.max, IntKind.bits, IntKind.signed] at w2
      omega
    have b3 : -9223372036854775808 ≤ k ∧ k ≤ 9223372036854775807 := by
      simp [Lit.wf, IntKind.min, IntKind.max, IntKind.bits, IntKind.signed] at w3
      omega
    have b4 : -9223372036854775808 ≤ d ∧ d ≤ 9223372036854775807 := by
      simp [Lit.wf, IntKind.min, IntKind.max, IntKind.bits, IntKind.signed] at w4
      omega
    exact ⟨⟨f, t, r, k, d⟩, by simpa using e0, by simpa using e1, by simpa using e2, by simpa using e3, by simpa using e4, by simpa [maxLen] using w0, by simpa [maxLen] using w1, b2, b3, b4⟩

theorem open_sub {v : Value} {fuel : Nat} {x : DataW H × List MemPlace} {r : Reach} {b0 : Nat} (hv : Value.okWide Try.prog W r b0 27 v) (h : DataW.trod enc Try.prog W base spare held fuel 27 v.cells.toList = some x) : ∃ y : Sb, v = sv y ∧ Came y := by
  obtain ⟨cs, rfl, hcs⟩ := okWide_struct Try.underlying27 hv
  have h5 : Try.prog.cellsOf 27 = 5 := by kernel_rfl
  rw [h5] at hcs
  match cs, hcs with
  | ⟨[c0, c1, c2, c3, c4]⟩, _ =>
    obtain ⟨y, rfl, rfl, rfl, rfl, rfl, hc⟩ := sub_of (c0 := c0) (c1 := c1) (c2 := c2) (c3 := c3) (c4 := c4) h
    exact ⟨y, rfl, hc⟩
end
end Go.Proofs.Ythhadeohabkleaa.Goods
