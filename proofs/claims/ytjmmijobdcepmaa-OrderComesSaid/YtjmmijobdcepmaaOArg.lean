/-
  Ints, acts, loads and orders among a law's arguments, opened.
-/
import Derived.Test.YtjmmijobdcepmaaOFew
namespace Go.Proofs.Ytjmmijobdcepmaa.Order
open Go.ChangeShapes Go.WideShapes Go.ChangeAt Go.RowKit Go.Deep
open Go.Proofs.Ytjmmijobdcepmaa.Pay (Py)
open Go.Proofs.Ytjmmijobdcepmaa.Ask (As)

/-- A slice of ints that came in; of acts, each of two ints. -/
def ArgI (w : World) (v : Value) : Prop := ∃ (a : Option Addr) (len cap : Nat), v = .slice a len cap ∧ len ≤ cap ∧ cap ≤ 9223372036854775807 ∧
  (0 < len → ∃ b off, a = some ⟨b, off, none⟩ ∧ b < w.heap.size ∧ ∀ j, j < len → ∃ (k : Int), w.cell? ⟨b, off + j, none⟩ = some (.int .i64 k))
def ArgK (w : World) (v : Value) : Prop := ∃ (a : Option Addr) (len cap : Nat), v = .slice a len cap ∧ len ≤ cap ∧ cap ≤ 9223372036854775807 ∧
  (0 < len → ∃ b off, a = some ⟨b, off, none⟩ ∧ b < w.heap.size ∧ ∀ j, j < len → ∃ (k n : Int), w.cell? ⟨b, off + j * 2, none⟩ = some (.int .i64 k) ∧ w.cell? ⟨b, off + j * 2 + 1, none⟩ = some (.int .i64 n))
theorem addr_add (b off j : Nat) : (⟨b, off, none⟩ : Addr).add j = ⟨b, off + j, none⟩ := by
  unfold Addr.add
  split
  · rename_i h; subst h; rfl
  · rfl
theorem tmod_bd {m : Int} (n : Int) (hm : 0 < m) (h2 : m ≤ 1000000) : 0 ≤ (wrap64 (n.tmod m + m)).tmod m ∧ (wrap64 (n.tmod m + m)).tmod m ≤ m - 1 := by
  have h : -m < n.tmod m ∧ n.tmod m < m := by
    rcases Int.le_total 0 n with h | h
    · rw [Int.tmod_eq_emod_of_nonneg h]
      have := Int.emod_nonneg n (by omega : m ≠ 0)
      have := Int.emod_lt_of_pos n hm
      omega
    · obtain ⟨k, rfl⟩ : ∃ k, n = -k := ⟨-n, by omega⟩
      rw [Int.neg_tmod, Int.tmod_eq_emod_of_nonneg (by omega)]
      have := Int.emod_nonneg k (by omega : m ≠ 0)
      have := Int.emod_lt_of_pos k hm
      omega
  have e : wrap64 (n.tmod m + m) = n.tmod m + m := IntWalk.wrap64_in _ (by omega)
  rw [e, Int.tmod_eq_emod_of_nonneg (by omega)]
  have := Int.emod_nonneg (n.tmod m + m) (by omega : m ≠ 0)
  have := Int.emod_lt_of_pos (n.tmod m + m) hm
  omega
theorem addr_add0 (a : Addr) : a.add 0 = a := by unfold Addr.add; split <;> simp_all

section
variable {H : Type} {enc : TypeId × Value → H} {W : World} {base : Nat} {spare : Nat → Bool} {held : Bool}

set_option maxRecDepth 100000 in
theorem paid_of {fuel : Nat} {c0 c1 c2 c3 : Value} {x : DataW H × List MemPlace} (h : DataW.trod enc Try.prog W base spare held fuel 25 [c0, c1, c2, c3] = some x) :
    ∃ y : Py, c0 = .int .i64 y.a ∧ c1 = .int .i64 y.c ∧ c2 = .int .i64 y.u ∧ c3 = .int .i64 y.s := by
  obtain ⟨xs, n, _, _, _, hx, hf⟩ := DataW.trod_struct Try.underlying25 h
  have k0 : Try.prog.cellsOf 3 = 1 := by kernel_rfl
  match xs, hx with
  | [x0, x1, x2, x3], _ =>
    have g0 : DataW.trod enc Try.prog W base spare held n 3 (([c0, c1, c2, c3].drop 0).take (Try.prog.cellsOf 3)) = some x0 := hf 0 _ rfl
    have g1 : DataW.trod enc Try.prog W base spare held n 3 (([c0, c1, c2, c3].drop 1).take (Try.prog.cellsOf 3)) = some x1 := hf 1 _ rfl
    have g2 : DataW.trod enc Try.prog W base spare held n 3 (([c0, c1, c2, c3].drop 2).take (Try.prog.cellsOf 3)) = some x2 := hf 2 _ rfl
    have g3 : DataW.trod enc Try.prog W base spare held n 3 (([c0, c1, c2, c3].drop 3).take (Try.prog.cellsOf 3)) = some x3 := hf 3 _ rfl
    rw [k0] at g0 g1 g2 g3
    obtain ⟨a0, e0, _, _⟩ := DataW.trod_int Try.underlying3 g0
    obtain ⟨a1, e1, _, _⟩ := DataW.trod_int Try.underlying3 g1
    obtain ⟨a2, e2, _, _⟩ := DataW.trod_int Try.underlying3 g2
    obtain ⟨a3, e3, _, _⟩ := DataW.trod_int Try.underlying3 g3
    exact ⟨⟨a0, a1, a2, a3⟩, by simpa using e0, by simpa using e1, by simpa using e2, by simpa using e3⟩

set_option maxRecDepth 100000 in
theorem asked_of {fuel : Nat} {c0 c1 : Value} {x : DataW H × List MemPlace} (h : DataW.trod enc Try.prog W base spare held fuel 27 [c0, c1] = some x) :
    ∃ y : As, c0 = .int .i64 y.s ∧ c1 = .int .i64 y.u := by
  obtain ⟨xs, n, _, _, _, hx, hf⟩ := DataW.trod_struct Try.underlying27 h
  have k0 : Try.prog.cellsOf 3 = 1 := by kernel_rfl
  match xs, hx with
  | [x0, x1], _ =>
    have g0 : DataW.trod enc Try.prog W base spare held n 3 (([c0, c1].drop 0).take (Try.prog.cellsOf 3)) = some x0 := hf 0 _ rfl
    have g1 : DataW.trod enc Try.prog W base spare held n 3 (([c0, c1].drop 1).take (Try.prog.cellsOf 3)) = some x1 := hf 1 _ rfl
    rw [k0] at g0 g1
    obtain ⟨a0, e0, _, _⟩ := DataW.trod_int Try.underlying3 g0
    obtain ⟨a1, e1, _, _⟩ := DataW.trod_int Try.underlying3 g1
    exact ⟨⟨a0, a1⟩, by simpa using e0, by simpa using e1⟩

set_option maxRecDepth 100000 in
theorem load_of {fuel : Nat} {c0 c1 c2 c3 : Value} {x : DataW H × List MemPlace} (h : DataW.trod enc Try.prog W base spare held fuel 23 [c0, c1, c2, c3] = some x) :
    ∃ y : Ld, c0 = .string y.k ∧ c1 = .int .i64 y.u ∧ c2 = .int .i64 y.c ∧ c3 = .int .i64 y.y ∧ y.k.size ≤ 9223372036854775807 := by
  obtain ⟨xs, n, _, _, _, hx, hf⟩ := DataW.trod_struct Try.underlying23 h
  have k0 : Try.prog.cellsOf 9 = 1 := by kernel_rfl
  have k1 : Try.prog.cellsOf 3 = 1 := by kernel_rfl
  match xs, hx with
  | [x0, x1, x2, x3], _ =>
    have g0 : DataW.trod enc Try.prog W base spare held n 9 (([c0, c1, c2, c3].drop 0).take (Try.prog.cellsOf 9)) = some x0 := hf 0 _ rfl
    have g1 : DataW.trod enc Try.prog W base spare held n 3 (([c0, c1, c2, c3].drop 1).take (Try.prog.cellsOf 3)) = some x1 := hf 1 _ rfl
    have g2 : DataW.trod enc Try.prog W base spare held n 3 (([c0, c1, c2, c3].drop 2).take (Try.prog.cellsOf 3)) = some x2 := hf 2 _ rfl
    have g3 : DataW.trod enc Try.prog W base spare held n 3 (([c0, c1, c2, c3].drop 3).take (Try.prog.cellsOf 3)) = some x3 := hf 3 _ rfl
    rw [k0] at g0
    rw [k1] at g1 g2 g3
    obtain ⟨a0, e0, _, w0⟩ := DataW.trod_string Try.underlying9 g0
    obtain ⟨a1, e1, _, _⟩ := DataW.trod_int Try.underlying3 g1
    obtain ⟨a2, e2, _, _⟩ := DataW.trod_int Try.underlying3 g2
    obtain ⟨a3, e3, _, _⟩ := DataW.trod_int Try.underlying3 g3
    exact ⟨⟨a0, a1, a2, a3⟩, by simpa using e0, by simpa using e1, by simpa using e2, by simpa using e3, by simpa [maxLen] using w0⟩

set_option maxRecDepth 100000 in
theorem order_of {fuel : Nat} {c0 c1 c2 c3 c4 c5 c6 c7 c8 c9 c10 c11 c12 c13 c14 c15 c16 c17 c18 c19 c20 : Value} {x : DataW H × List MemPlace} (h : DataW.trod enc Try.prog W base spare held fuel 29 [c0, c1, c2, c3, c4, c5, c6, c7, c8, c9, c10, c11, c12, c13, c14, c15, c16, c17, c18, c19, c20] = some x) :
    ∃ y : Od, c0 = .int .i64 y.id ∧ c1 = .string y.k ∧ c2 = .int .i64 y.cl ∧ c3 = .int .i64 y.sq ∧ c4 = .int .i64 y.n ∧ c5 = .int .i64 y.d ∧ c6 = .int .i64 y.p ∧ c7 = .int .i64 y.c ∧ c8 = .bool y.sp ∧ c9 = .int .i64 y.ph ∧ c10 = .string y.l.k ∧ c11 = .int .i64 y.l.u ∧ c12 = .int .i64 y.l.c ∧ c13 = .int .i64 y.l.y ∧ c14 = .int .i64 y.py.a ∧ c15 = .int .i64 y.py.c ∧ c16 = .int .i64 y.py.u ∧ c17 = .int .i64 y.py.s ∧ c18 = .int .i64 y.ak.s ∧ c19 = .int .i64 y.ak.u ∧ c20 = .bool y.en ∧ y.k.size ≤ 9223372036854775807 ∧ y.l.k.size ≤ 9223372036854775807 := by
  obtain ⟨xs, n, _, _, _, hx, hf⟩ := DataW.trod_struct Try.underlying29 h
  have k0 : Try.prog.cellsOf 3 = 1 := by kernel_rfl
  have k1 : Try.prog.cellsOf 9 = 1 := by kernel_rfl
  have k2 : Try.prog.cellsOf 4 = 1 := by kernel_rfl
  have k3 : Try.prog.cellsOf 23 = 4 := by kernel_rfl
  have k4 : Try.prog.cellsOf 25 = 4 := by kernel_rfl
  have k5 : Try.prog.cellsOf 27 = 2 := by kernel_rfl
  match xs, hx with
  | [x0, x1, x2, x3, x4, x5, x6, x7, x8, x9, x10, x11, x12, x13], _ =>
    have g0 : DataW.trod enc Try.prog W base spare held n 3 (([c0, c1, c2, c3, c4, c5, c6, c7, c8, c9, c10, c11, c12, c13, c14, c15, c16, c17, c18, c19, c20].drop 0).take (Try.prog.cellsOf 3)) = some x0 := hf 0 _ rfl
    have g1 : DataW.trod enc Try.prog W base spare held n 9 (([c0, c1, c2, c3, c4, c5, c6, c7, c8, c9, c10, c11, c12, c13, c14, c15, c16, c17, c18, c19, c20].drop 1).take (Try.prog.cellsOf 9)) = some x1 := hf 1 _ rfl
    have g2 : DataW.trod enc Try.prog W base spare held n 3 (([c0, c1, c2, c3, c4, c5, c6, c7, c8, c9, c10, c11, c12, c13, c14, c15, c16, c17, c18, c19, c20].drop 2).take (Try.prog.cellsOf 3)) = some x2 := hf 2 _ rfl
    have g3 : DataW.trod enc Try.prog W base spare held n 3 (([c0, c1, c2, c3, c4, c5, c6, c7, c8, c9, c10, c11, c12, c13, c14, c15, c16, c17, c18, c19, c20].drop 3).take (Try.prog.cellsOf 3)) = some x3 := hf 3 _ rfl
    have g4 : DataW.trod enc Try.prog W base spare held n 3 (([c0, c1, c2, c3, c4, c5, c6, c7, c8, c9, c10, c11, c12, c13, c14, c15, c16, c17, c18, c19, c20].drop 4).take (Try.prog.cellsOf 3)) = some x4 := hf 4 _ rfl
    have g5 : DataW.trod enc Try.prog W base spare held n 3 (([c0, c1, c2, c3, c4, c5, c6, c7, c8, c9, c10, c11, c12, c13, c14, c15, c16, c17, c18, c19, c20].drop 5).take (Try.prog.cellsOf 3)) = some x5 := hf 5 _ rfl
    have g6 : DataW.trod enc Try.prog W base spare held n 3 (([c0, c1, c2, c3, c4, c5, c6, c7, c8, c9, c10, c11, c12, c13, c14, c15, c16, c17, c18, c19, c20].drop 6).take (Try.prog.cellsOf 3)) = some x6 := hf 6 _ rfl
    have g7 : DataW.trod enc Try.prog W base spare held n 3 (([c0, c1, c2, c3, c4, c5, c6, c7, c8, c9, c10, c11, c12, c13, c14, c15, c16, c17, c18, c19, c20].drop 7).take (Try.prog.cellsOf 3)) = some x7 := hf 7 _ rfl
    have g8 : DataW.trod enc Try.prog W base spare held n 4 (([c0, c1, c2, c3, c4, c5, c6, c7, c8, c9, c10, c11, c12, c13, c14, c15, c16, c17, c18, c19, c20].drop 8).take (Try.prog.cellsOf 4)) = some x8 := hf 8 _ rfl
    have g9 : DataW.trod enc Try.prog W base spare held n 3 (([c0, c1, c2, c3, c4, c5, c6, c7, c8, c9, c10, c11, c12, c13, c14, c15, c16, c17, c18, c19, c20].drop 9).take (Try.prog.cellsOf 3)) = some x9 := hf 9 _ rfl
    have g10 : DataW.trod enc Try.prog W base spare held n 23 (([c0, c1, c2, c3, c4, c5, c6, c7, c8, c9, c10, c11, c12, c13, c14, c15, c16, c17, c18, c19, c20].drop 10).take (Try.prog.cellsOf 23)) = some x10 := hf 10 _ rfl
    have g11 : DataW.trod enc Try.prog W base spare held n 25 (([c0, c1, c2, c3, c4, c5, c6, c7, c8, c9, c10, c11, c12, c13, c14, c15, c16, c17, c18, c19, c20].drop 14).take (Try.prog.cellsOf 25)) = some x11 := hf 11 _ rfl
    have g12 : DataW.trod enc Try.prog W base spare held n 27 (([c0, c1, c2, c3, c4, c5, c6, c7, c8, c9, c10, c11, c12, c13, c14, c15, c16, c17, c18, c19, c20].drop 18).take (Try.prog.cellsOf 27)) = some x12 := hf 12 _ rfl
    have g13 : DataW.trod enc Try.prog W base spare held n 4 (([c0, c1, c2, c3, c4, c5, c6, c7, c8, c9, c10, c11, c12, c13, c14, c15, c16, c17, c18, c19, c20].drop 20).take (Try.prog.cellsOf 4)) = some x13 := hf 13 _ rfl
    rw [k0] at g0 g2 g3 g4 g5 g6 g7 g9
    rw [k1] at g1
    rw [k2] at g8 g13
    rw [k3] at g10
    rw [k4] at g11
    rw [k5] at g12
    obtain ⟨a0, e0, _, _⟩ := DataW.trod_int Try.underlying3 g0
    obtain ⟨a1, e1, _, w1⟩ := DataW.trod_string Try.underlying9 g1
    obtain ⟨a2, e2, _, _⟩ := DataW.trod_int Try.underlying3 g2
    obtain ⟨a3, e3, _, _⟩ := DataW.trod_int Try.underlying3 g3
    obtain ⟨a4, e4, _, _⟩ := DataW.trod_int Try.underlying3 g4
    obtain ⟨a5, e5, _, _⟩ := DataW.trod_int Try.underlying3 g5
    obtain ⟨a6, e6, _, _⟩ := DataW.trod_int Try.underlying3 g6
    obtain ⟨a7, e7, _, _⟩ := DataW.trod_int Try.underlying3 g7
    obtain ⟨a8, e8, _⟩ := DataW.trod_bool Try.underlying4 g8
    obtain ⟨a9, e9, _, _⟩ := DataW.trod_int Try.underlying3 g9
    obtain ⟨a10, e10_0, e10_1, e10_2, e10_3, e10_4⟩ := load_of (c0 := c10) (c1 := c11) (c2 := c12) (c3 := c13) g10
    obtain ⟨a11, e11_0, e11_1, e11_2, e11_3⟩ := paid_of (c0 := c14) (c1 := c15) (c2 := c16) (c3 := c17) g11
    obtain ⟨a12, e12_0, e12_1⟩ := asked_of (c0 := c18) (c1 := c19) g12
    obtain ⟨a13, e13, _⟩ := DataW.trod_bool Try.underlying4 g13
    exact ⟨⟨a0, a1, a2, a3, a4, a5, a6, a7, a8, a9, a10, a11, a12, a13⟩, by simpa using e0, by simpa using e1, by simpa using e2, by simpa using e3, by simpa using e4, by simpa using e5, by simpa using e6, by simpa using e7, by simpa using e8, by simpa using e9, e10_0, e10_1, e10_2, e10_3, e11_0, e11_1, e11_2, e11_3, e12_0, e12_1, by simpa using e13, by simpa [maxLen] using w1, e10_4⟩

set_option maxRecDepth 100000 in
theorem open_load {v : Value} {fuel : Nat} {x : DataW H × List MemPlace} {r : Reach} {b0 : Nat} (hv : Value.okWide Try.prog W r b0 23 v) (h : DataW.trod enc Try.prog W base spare held fuel 23 v.cells.toList = some x) : ∃ y : Ld, v = ldv y ∧ y.k.size ≤ 9223372036854775807 := by
  obtain ⟨cs, rfl, hcs⟩ := okWide_struct Try.underlying23 hv
  have h4 : Try.prog.cellsOf 23 = 4 := by kernel_rfl
  rw [h4] at hcs
  match cs, hcs with
  | ⟨[c0, c1, c2, c3]⟩, _ =>
    obtain ⟨y, rfl, rfl, rfl, rfl, w0⟩ := load_of (c0 := c0) (c1 := c1) (c2 := c2) (c3 := c3) h
    exact ⟨y, rfl, w0⟩

set_option maxRecDepth 100000 in
theorem open_order {v : Value} {fuel : Nat} {x : DataW H × List MemPlace} {r : Reach} {b0 : Nat} (hv : Value.okWide Try.prog W r b0 29 v) (h : DataW.trod enc Try.prog W base spare held fuel 29 v.cells.toList = some x) : ∃ y : Od, v = ov y ∧ y.k.size ≤ 9223372036854775807 ∧ y.l.k.size ≤ 9223372036854775807 := by
  obtain ⟨cs, rfl, hcs⟩ := okWide_struct Try.underlying29 hv
  have h4 : Try.prog.cellsOf 29 = 21 := by kernel_rfl
  rw [h4] at hcs
  match cs, hcs with
  | ⟨[c0, c1, c2, c3, c4, c5, c6, c7, c8, c9, c10, c11, c12, c13, c14, c15, c16, c17, c18, c19, c20]⟩, _ =>
    obtain ⟨y, rfl, rfl, rfl, rfl, rfl, rfl, rfl, rfl, rfl, rfl, rfl, rfl, rfl, rfl, rfl, rfl, rfl, rfl, rfl, rfl, rfl, w0, w1⟩ := order_of (c0 := c0) (c1 := c1) (c2 := c2) (c3 := c3) (c4 := c4) (c5 := c5) (c6 := c6) (c7 := c7) (c8 := c8) (c9 := c9) (c10 := c10) (c11 := c11) (c12 := c12) (c13 := c13) (c14 := c14) (c15 := c15) (c16 := c16) (c17 := c17) (c18 := c18) (c19 := c19) (c20 := c20) h
    exact ⟨y, rfl, w0, w1⟩

set_option maxRecDepth 100000 in
theorem actk_of {fuel : Nat} {c0 c1 : Value} {x : DataW H × List MemPlace} (h : DataW.trod enc Try.prog W base spare held fuel 51 [c0, c1] = some x) :
    ∃ k n : Int, c0 = .int .i64 k ∧ c1 = .int .i64 n := by
  obtain ⟨xs, n, _, _, _, hx, hf⟩ := DataW.trod_struct Try.underlying51 h
  have k0 : Try.prog.cellsOf 3 = 1 := by kernel_rfl
  match xs, hx with
  | [x0, x1], _ =>
    have g0 : DataW.trod enc Try.prog W base spare held n 3 (([c0, c1].drop 0).take (Try.prog.cellsOf 3)) = some x0 := hf 0 _ rfl
    have g1 : DataW.trod enc Try.prog W base spare held n 3 (([c0, c1].drop 1).take (Try.prog.cellsOf 3)) = some x1 := hf 1 _ rfl
    rw [k0] at g0 g1
    obtain ⟨a0, e0, _, _⟩ := DataW.trod_int Try.underlying3 g0
    obtain ⟨a1, e1, _, _⟩ := DataW.trod_int Try.underlying3 g1
    exact ⟨a0, a1, by simpa using e0, by simpa using e1⟩

theorem argI_of {fuel : Nat} {v : Value} {x : DataW H × List MemPlace} (h : DataW.trod enc Try.prog W base spare held fuel 53 [v] = some x) : ArgI W v := by
  rcases open_slice Try.underlying53 h with ⟨hcs, _⟩ | ⟨a, len, cap, m, n, D, Pl, hcs, hb, hl, hm, hmm, hx, hi⟩
  · obtain rfl : v = .slice none 0 0 := by simpa using hcs
    exact ⟨none, 0, 0, rfl, Nat.le_refl _, by omega, fun h => absurd h (Nat.lt_irrefl _)⟩
  · obtain rfl : v = .slice (some a) len cap := by simpa using hcs
    unfold maxLen at hm
    refine ⟨some a, len, cap, rfl, hl, by omega, fun h0 => ?_⟩
    have hls : len ≤ m := by rw [hmm]; split <;> omega
    have k3 : Try.prog.cellsOf 3 = 1 := by kernel_rfl
    obtain ⟨b, off, spot⟩ := a
    have one : ∀ j, j < len → ∃ c0, DataW.trod enc Try.prog W base spare held n 3 [c0] = some (D j, Pl j) ∧ W.cell? ((⟨b, off, spot⟩ : Addr).add (j * 1)) = some c0 := by
      intro j hj
      obtain ⟨cs', hc, ht'⟩ := hi j (by omega)
      rw [k3] at hc
      obtain ⟨_, hcl, hat⟩ := World.cells?_some hc
      match cs', hcl with
      | [c0], _ =>
        refine ⟨c0, ht', ?_⟩
        have := hat 0 (by omega)
        rwa [addr_add0] at this
    obtain ⟨_, _, z0⟩ := one 0 h0
    have hspot : spot = none := by simpa [Addr.add] using World.cell?_spot z0
    subst hspot
    have ha : ∀ o j, (⟨b, o, none⟩ : Addr).add j = ⟨b, o + j, none⟩ := fun o j => addr_add b o j
    refine ⟨b, off, rfl, by simpa [Addr.add] using block_lt_of_cell z0, fun j hj => ?_⟩
    obtain ⟨c0, ht, z0⟩ := one j hj
    obtain ⟨t, e, _, _⟩ := DataW.trod_int Try.underlying3 ht
    obtain rfl : c0 = .int .i64 t := by simpa using e
    rw [ha, Nat.mul_one] at z0
    exact ⟨t, z0⟩

theorem argK_of {fuel : Nat} {v : Value} {x : DataW H × List MemPlace} (h : DataW.trod enc Try.prog W base spare held fuel 49 [v] = some x) : ArgK W v := by
  rcases open_slice Try.underlying49 h with ⟨hcs, _⟩ | ⟨a, len, cap, m, n, D, Pl, hcs, hb, hl, hm, hmm, hx, hi⟩
  · obtain rfl : v = .slice none 0 0 := by simpa using hcs
    exact ⟨none, 0, 0, rfl, Nat.le_refl _, by omega, fun h => absurd h (Nat.lt_irrefl _)⟩
  · obtain rfl : v = .slice (some a) len cap := by simpa using hcs
    unfold maxLen at hm
    refine ⟨some a, len, cap, rfl, hl, by omega, fun h0 => ?_⟩
    have hls : len ≤ m := by rw [hmm]; split <;> omega
    have k3 : Try.prog.cellsOf 51 = 2 := by kernel_rfl
    obtain ⟨b, off, spot⟩ := a
    have one : ∀ j, j < len → ∃ c0 c1, DataW.trod enc Try.prog W base spare held n 51 [c0, c1] = some (D j, Pl j) ∧ W.cell? ((⟨b, off, spot⟩ : Addr).add (j * 2)) = some c0 ∧ W.cell? (((⟨b, off, spot⟩ : Addr).add (j * 2)).add 1) = some c1 := by
      intro j hj
      obtain ⟨cs', hc, ht'⟩ := hi j (by omega)
      rw [k3] at hc
      obtain ⟨_, hcl, hat⟩ := World.cells?_some hc
      match cs', hcl with
      | [c0, c1], _ =>
        refine ⟨c0, c1, ht', ?_, hat 1 (by omega)⟩
        have := hat 0 (by omega)
        rwa [addr_add0] at this
    obtain ⟨_, _, _, z0, _⟩ := one 0 h0
    have hspot : spot = none := by simpa [Addr.add] using World.cell?_spot z0
    subst hspot
    have ha : ∀ o j, (⟨b, o, none⟩ : Addr).add j = ⟨b, o + j, none⟩ := fun o j => addr_add b o j
    refine ⟨b, off, rfl, by simpa [Addr.add] using block_lt_of_cell z0, fun j hj => ?_⟩
    obtain ⟨c0, c1, ht, z0, z1⟩ := one j hj
    obtain ⟨k, t, rfl, rfl⟩ := actk_of ht
    rw [ha] at z0 z1
    rw [ha] at z1
    exact ⟨k, t, z0, z1⟩
end
end Go.Proofs.Ytjmmijobdcepmaa.Order
