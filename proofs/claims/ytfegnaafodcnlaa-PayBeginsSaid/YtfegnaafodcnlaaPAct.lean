/-
  Money put into its block; acts with money among a law's arguments, opened: of each its kind and number.
-/
import Derived.Test.YtfegnaafodcnlaaPFew
namespace Go.Proofs.Ytfegnaafodcnlaa.Pay
open Go.ChangeShapes Go.WideShapes Go.ChangeAt Go.RowKit Go.Shelf Go.Deep

/-- Money is put into a block of four cells. -/
def put4 (b : Nat) (x : Py) (w : World) : World := (((w.setCell ⟨b, 0, none⟩ (.int .i64 x.a)).setCell ⟨b, 1, none⟩ (.int .i64 x.c)).setCell ⟨b, 2, none⟩ (.int .i64 x.u)).setCell ⟨b, 3, none⟩ (.int .i64 x.s)
theorem box_put4 {b : Nat} {c0 c1 c2 c3 : Value} {w : World} (h : Box b [c0, c1, c2, c3] w) (x : Py) : Box b [.int .i64 x.a, .int .i64 x.c, .int .i64 x.u, .int .i64 x.s] (put4 b x w) := by
  obtain ⟨k0, k1, k2, k3⟩ := h.c4
  obtain ⟨z0, z1, z2, z3⟩ := h.z4
  unfold put4
  refine ⟨by simpa using h.1, fun j v hj => ?_⟩
  match j, hj with
  | 0, hj => cases hj; exact ⟨by simp [go_sem, k0], by simp [go_sem, z0]⟩
  | 1, hj => cases hj; exact ⟨by simp [go_sem, k1], by simp [go_sem, z1]⟩
  | 2, hj => cases hj; exact ⟨by simp [go_sem, k2], by simp [go_sem, z2]⟩
  | 3, hj => cases hj; exact ⟨by simp [go_sem, k3], by simp [go_sem, z3]⟩
  | j + 4, hj => cases hj
theorem put4_below {W w : World} {b : Nat} (x : Py) (h : Below W.heap.size W w) (hb : W.heap.size ≤ b) : Below W.heap.size W (put4 b x w) := below_four _ _ _ _ h hb
theorem box_set_other {b g j : Nat} {vs : List Value} {w : World} (h : Box b vs w) (hne : g ≠ b) (x : Value) : Box b vs (w.setCell ⟨g, j, none⟩ x) := by
  refine ⟨by simpa using h.1, fun i v hi => ?_⟩
  obtain ⟨h1, h2⟩ := h.2 i v hi
  constructor
  · simp [go_sem, h1]
  · simp [go_sem, h2]
theorem box_put_other {b g : Nat} {vs : List Value} {w : World} (h : Box b vs w) (hne : g ≠ b) (x : Py) : Box b vs (put4 g x w) :=
  box_set_other (box_set_other (box_set_other (box_set_other h hne _) hne _) hne _) hne _
theorem neq_yes {x y : Py} (h : x = y) (w : World) : (binOp .neq 23 (.agg #[.int .i64 x.a, .int .i64 x.c, .int .i64 x.u, .int .i64 x.s]) (.agg #[.int .i64 y.a, .int .i64 y.c, .int .i64 y.u, .int .i64 y.s])).run Try.prog w = .ok (.bool false) w := by
  have := neq_pay x y w
  rwa [decide_eq_true h] at this
theorem Box.c2 {b : Nat} {c0 c1 : Value} {w : World} (h : Box b [c0, c1] w) : w.cell? ⟨b, 0, none⟩ = some c0 ∧ w.cell? ⟨b, 1, none⟩ = some c1 := ⟨(h.2 0 _ rfl).1, (h.2 1 _ rfl).1⟩

theorem kind_mod (k : Int) : ∃ m : Nat, m < 4 ∧ Int.tmod (Int.tmod k 4 + 4) 4 = m ∧ -4 < Int.tmod k 4 ∧ Int.tmod k 4 < 4 := by
  have h : -4 < k.tmod 4 ∧ k.tmod 4 < 4 := by
    rcases Int.le_total 0 k with h | h
    · rw [Int.tmod_eq_emod_of_nonneg h]; omega
    · obtain ⟨m, rfl⟩ : ∃ m, k = -m := ⟨-k, by omega⟩
      rw [Int.neg_tmod, Int.tmod_eq_emod_of_nonneg (by omega)]; omega
  refine ⟨(Int.tmod (Int.tmod k 4 + 4) 4).toNat, ?_, ?_, h.1, h.2⟩
  · rw [Int.tmod_eq_emod_of_nonneg (by omega)]; omega
  · rw [Int.tmod_eq_emod_of_nonneg (by omega)]; omega

/-- A slice of acts that came in. -/
def ArgP (w : World) (v : Value) : Prop := ∃ (a : Option Addr) (len cap : Nat), v = .slice a len cap ∧ len ≤ cap ∧ cap ≤ 9223372036854775807 ∧
  (0 < len → ∃ b off, a = some ⟨b, off, none⟩ ∧ b < w.heap.size ∧ ∀ j, j < len → ∃ k n : Int, (-9223372036854775808 ≤ n ∧ n ≤ 9223372036854775807) ∧ w.cell? ⟨b, off + j * 2, none⟩ = some (.int .i64 k) ∧ w.cell? ⟨b, off + j * 2 + 1, none⟩ = some (.int .i64 n))
theorem addr_add (b off j : Nat) : (⟨b, off, none⟩ : Addr).add j = ⟨b, off + j, none⟩ := by
  unfold Addr.add
  split
  · rename_i h; subst h; rfl
  · rfl

section
variable {H : Type} {enc : TypeId × Value → H} {W : World} {base : Nat} {spare : Nat → Bool} {held : Bool}

theorem act_of {fuel : Nat} {c0 c1 : Value} {x : DataW H × List MemPlace} (h : DataW.trod enc Try.prog W base spare held fuel 39 [c0, c1] = some x) :
    ∃ k n : Int, c0 = .int .i64 k ∧ c1 = .int .i64 n ∧ (-9223372036854775808 ≤ n ∧ n ≤ 9223372036854775807) := by
  obtain ⟨xs, n, _, _, _, hx, hf⟩ := DataW.trod_struct Try.underlying39 h
  have k1 : Try.prog.cellsOf 3 = 1 := by kernel_rfl
  match xs, hx with
  | [x0, x1], _ =>
    have g0 : DataW.trod enc Try.prog W base spare held n 3 (([c0, c1].drop 0).take (Try.prog.cellsOf 3)) = some x0 := hf 0 _ rfl
    have g1 : DataW.trod enc Try.prog W base spare held n 3 (([c0, c1].drop 1).take (Try.prog.cellsOf 3)) = some x1 := hf 1 _ rfl
    rw [k1] at g0 g1
    obtain ⟨k, e0, _, _⟩ := DataW.trod_int Try.underlying3 g0
    obtain ⟨t, e1, _, w1⟩ := DataW.trod_int Try.underlying3 g1
    refine ⟨k, t, by simpa using e0, by simpa using e1, ?_⟩
    have := w1
    simp [Lit.wf, IntKind.min, IntKind.max, IntKind.bits, IntKind.signed] at this
    omega

theorem argP_of {fuel : Nat} {v : Value} {x : DataW H × List MemPlace} (h : DataW.trod enc Try.prog W base spare held fuel 37 [v] = some x) : ArgP W v := by
  rcases open_slice Try.underlying37 h with ⟨hcs, _⟩ | ⟨a, len, cap, m, n, D, Pl, hcs, hb, hl, hm, hmm, hx, hi⟩
  · obtain rfl : v = .slice none 0 0 := by simpa using hcs
    exact ⟨none, 0, 0, rfl, Nat.le_refl _, by omega, fun h => absurd h (Nat.lt_irrefl _)⟩
  · obtain rfl : v = .slice (some a) len cap := by simpa using hcs
    unfold maxLen at hm
    refine ⟨some a, len, cap, rfl, hl, by omega, fun h0 => ?_⟩
    have hls : len ≤ m := by rw [hmm]; split <;> omega
    have k3 : Try.prog.cellsOf 39 = 2 := by kernel_rfl
    obtain ⟨b, off, spot⟩ := a
    have one : ∀ j, j < len → ∃ c0 c1, DataW.trod enc Try.prog W base spare held n 39 [c0, c1] = some (D j, Pl j) ∧ W.cell? ((⟨b, off, spot⟩ : Addr).add (j * 2)) = some c0 ∧ W.cell? (((⟨b, off, spot⟩ : Addr).add (j * 2)).add 1) = some c1 := by
      intro j hj
      obtain ⟨cs', hc, ht'⟩ := hi j (by omega)
      rw [k3] at hc
      obtain ⟨_, hcl, hat⟩ := World.cells?_some hc
      match cs', hcl with
      | [c0, c1], _ =>
        refine ⟨c0, c1, ht', ?_, hat 1 (by omega)⟩
        have := hat 0 (by omega)
        rwa [show ((⟨b, off, spot⟩ : Addr).add (j * 2)).add 0 = (⟨b, off, spot⟩ : Addr).add (j * 2) by unfold Addr.add; split <;> simp_all] at this
    obtain ⟨_, _, _, z0, _⟩ := one 0 h0
    have hspot : spot = none := by simpa [Addr.add] using World.cell?_spot z0
    subst hspot
    have ha : ∀ o j, (⟨b, o, none⟩ : Addr).add j = ⟨b, o + j, none⟩ := fun o j => addr_add b o j
    refine ⟨b, off, rfl, by simpa [Addr.add] using block_lt_of_cell z0, fun j hj => ?_⟩
    obtain ⟨c0, c1, ht, z0, z1⟩ := one j hj
    obtain ⟨k, t, rfl, rfl, h1⟩ := act_of ht
    rw [ha] at z0 z1
    rw [ha] at z1
    exact ⟨k, t, h1, z0, z1⟩
end
end Go.Proofs.Ytfegnaafodcnlaa.Pay
