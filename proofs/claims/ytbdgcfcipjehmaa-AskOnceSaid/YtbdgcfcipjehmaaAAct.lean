/-
  Asking put into its block; acts with asking among a law's arguments, opened: of each its kind, how much later, and the answer.
-/
import Derived.Test.YtbdgcfcipjehmaaAHand
namespace Go.Proofs.Ytbdgcfcipjehmaa.Ask
open Go.ChangeShapes Go.WideShapes Go.ChangeAt Go.RowKit Go.Deep

/-- Asking is put into a block of two cells. -/
def put2 (b : Nat) (x : As) (w : World) : World := (w.setCell ⟨b, 0, none⟩ (.int .i64 x.s)).setCell ⟨b, 1, none⟩ (.int .i64 x.u)
theorem box_put2 {b : Nat} {c0 c1 : Value} {w : World} (h : Box b [c0, c1] w) (x : As) : Box b [.int .i64 x.s, .int .i64 x.u] (put2 b x w) := by
  obtain ⟨k0, k1⟩ := h.c2
  obtain ⟨z0, z1⟩ := h.z2
  unfold put2
  refine ⟨by simpa using h.1, fun j v hj => ?_⟩
  match j, hj with
  | 0, hj => cases hj; exact ⟨by simp [go_sem, k0], by simp [go_sem, z0]⟩
  | 1, hj => cases hj; exact ⟨by simp [go_sem, k1], by simp [go_sem, z1]⟩
  | j + 2, hj => cases hj
theorem put2_below {W w : World} {b : Nat} (x : As) (h : Below W.heap.size W w) (hb : W.heap.size ≤ b) : Below W.heap.size W (put2 b x w) := below_two _ _ h hb
theorem box_set_other {b g j : Nat} {vs : List Value} {w : World} (h : Box b vs w) (hne : g ≠ b) (x : Value) : Box b vs (w.setCell ⟨g, j, none⟩ x) := by
  refine ⟨by simpa using h.1, fun i v hi => ?_⟩
  obtain ⟨h1, h2⟩ := h.2 i v hi
  constructor
  · simp [go_sem, h1]
  · simp [go_sem, h2]
theorem box_put_other {b g : Nat} {vs : List Value} {w : World} (h : Box b vs w) (hne : g ≠ b) (x : As) : Box b vs (put2 g x w) :=
  box_set_other (box_set_other h hne _) hne _
theorem Box.c3 {b : Nat} {c0 c1 c2 : Value} {w : World} (h : Box b [c0, c1, c2] w) : w.cell? ⟨b, 0, none⟩ = some c0 ∧ w.cell? ⟨b, 1, none⟩ = some c1 ∧ w.cell? ⟨b, 2, none⟩ = some c2 := ⟨(h.2 0 _ rfl).1, (h.2 1 _ rfl).1, (h.2 2 _ rfl).1⟩

/-- A remainder that is turned to at least 0. -/
theorem mod_any (n : Nat) (h0 : 0 < n) (h1 : n < 1000) (k : Int) : ∃ m : Nat, m < n ∧ Int.tmod (Int.tmod k n + n) n = m ∧ -(n : Int) < Int.tmod k n ∧ Int.tmod k n < n := by
  have h : -(n : Int) < k.tmod n ∧ k.tmod n < n := by
    rcases Int.le_total 0 k with h | h
    · rw [Int.tmod_eq_emod_of_nonneg h]
      have := Int.emod_nonneg k (by omega : (n : Int) ≠ 0)
      have := Int.emod_lt_of_pos k (by omega : (0 : Int) < n)
      omega
    · obtain ⟨m, rfl⟩ : ∃ m, k = -m := ⟨-k, by omega⟩
      rw [Int.neg_tmod, Int.tmod_eq_emod_of_nonneg (by omega)]
      have := Int.emod_nonneg m (by omega : (n : Int) ≠ 0)
      have := Int.emod_lt_of_pos m (by omega : (0 : Int) < n)
      omega
  have e : Int.tmod (Int.tmod k n + n) n = (Int.tmod k n + n) % n := Int.tmod_eq_emod_of_nonneg (by omega)
  have p1 := Int.emod_nonneg (Int.tmod k n + n) (by omega : (n : Int) ≠ 0)
  have p2 := Int.emod_lt_of_pos (Int.tmod k n + n) (by omega : (0 : Int) < n)
  exact ⟨(Int.tmod (Int.tmod k n + n) n).toNat, by omega, by omega, h.1, h.2⟩

/-- A slice of acts that came in. -/
def ArgA (w : World) (v : Value) : Prop := ∃ (a : Option Addr) (len cap : Nat), v = .slice a len cap ∧ len ≤ cap ∧ cap ≤ 9223372036854775807 ∧
  (0 < len → ∃ b off, a = some ⟨b, off, none⟩ ∧ b < w.heap.size ∧ ∀ j, j < len → ∃ (k n : Int) (y : Bool), w.cell? ⟨b, off + j * 3, none⟩ = some (.int .i64 k) ∧ w.cell? ⟨b, off + j * 3 + 1, none⟩ = some (.int .i64 n) ∧ w.cell? ⟨b, off + j * 3 + 2, none⟩ = some (.bool y))
theorem addr_add (b off j : Nat) : (⟨b, off, none⟩ : Addr).add j = ⟨b, off + j, none⟩ := by
  unfold Addr.add
  split
  · rename_i h; subst h; rfl
  · rfl

section
variable {H : Type} {enc : TypeId × Value → H} {W : World} {base : Nat} {spare : Nat → Bool} {held : Bool}

theorem act_of {fuel : Nat} {c0 c1 c2 : Value} {x : DataW H × List MemPlace} (h : DataW.trod enc Try.prog W base spare held fuel 36 [c0, c1, c2] = some x) :
    ∃ (k n : Int) (y : Bool), c0 = .int .i64 k ∧ c1 = .int .i64 n ∧ c2 = .bool y := by
  obtain ⟨xs, n, _, _, _, hx, hf⟩ := DataW.trod_struct Try.underlying36 h
  have k1 : Try.prog.cellsOf 3 = 1 := by kernel_rfl
  have k2 : Try.prog.cellsOf 4 = 1 := by kernel_rfl
  match xs, hx with
  | [x0, x1, x2], _ =>
    have g0 : DataW.trod enc Try.prog W base spare held n 3 (([c0, c1, c2].drop 0).take (Try.prog.cellsOf 3)) = some x0 := hf 0 _ rfl
    have g1 : DataW.trod enc Try.prog W base spare held n 3 (([c0, c1, c2].drop 1).take (Try.prog.cellsOf 3)) = some x1 := hf 1 _ rfl
    have g2 : DataW.trod enc Try.prog W base spare held n 4 (([c0, c1, c2].drop 2).take (Try.prog.cellsOf 4)) = some x2 := hf 2 _ rfl
    rw [k1] at g0 g1
    rw [k2] at g2
    obtain ⟨k, e0, _, _⟩ := DataW.trod_int Try.underlying3 g0
    obtain ⟨t, e1, _, _⟩ := DataW.trod_int Try.underlying3 g1
    obtain ⟨y, e2, _⟩ := DataW.trod_bool Try.underlying4 g2
    exact ⟨k, t, y, by simpa using e0, by simpa using e1, by simpa using e2⟩

theorem argA_of {fuel : Nat} {v : Value} {x : DataW H × List MemPlace} (h : DataW.trod enc Try.prog W base spare held fuel 34 [v] = some x) : ArgA W v := by
  rcases open_slice Try.underlying34 h with ⟨hcs, _⟩ | ⟨a, len, cap, m, n, D, Pl, hcs, hb, hl, hm, hmm, hx, hi⟩
  · obtain rfl : v = .slice none 0 0 := by simpa using hcs
    exact ⟨none, 0, 0, rfl, Nat.le_refl _, by omega, fun h => absurd h (Nat.lt_irrefl _)⟩
  · obtain rfl : v = .slice (some a) len cap := by simpa using hcs
    unfold maxLen at hm
    refine ⟨some a, len, cap, rfl, hl, by omega, fun h0 => ?_⟩
    have hls : len ≤ m := by rw [hmm]; split <;> omega
    have k3 : Try.prog.cellsOf 36 = 3 := by kernel_rfl
    obtain ⟨b, off, spot⟩ := a
    have one : ∀ j, j < len → ∃ c0 c1 c2, DataW.trod enc Try.prog W base spare held n 36 [c0, c1, c2] = some (D j, Pl j) ∧ W.cell? ((⟨b, off, spot⟩ : Addr).add (j * 3)) = some c0 ∧ W.cell? (((⟨b, off, spot⟩ : Addr).add (j * 3)).add 1) = some c1 ∧ W.cell? (((⟨b, off, spot⟩ : Addr).add (j * 3)).add 2) = some c2 := by
      intro j hj
      obtain ⟨cs', hc, ht'⟩ := hi j (by omega)
      rw [k3] at hc
      obtain ⟨_, hcl, hat⟩ := World.cells?_some hc
      match cs', hcl with
      | [c0, c1, c2], _ =>
        refine ⟨c0, c1, c2, ht', ?_, hat 1 (by omega), hat 2 (by omega)⟩
        have := hat 0 (by omega)
        rwa [show ((⟨b, off, spot⟩ : Addr).add (j * 3)).add 0 = (⟨b, off, spot⟩ : Addr).add (j * 3) by unfold Addr.add; split <;> simp_all] at this
    obtain ⟨_, _, _, _, z0, _⟩ := one 0 h0
    have hspot : spot = none := by simpa [Addr.add] using World.cell?_spot z0
    subst hspot
    have ha : ∀ o j, (⟨b, o, none⟩ : Addr).add j = ⟨b, o + j, none⟩ := fun o j => addr_add b o j
    refine ⟨b, off, rfl, by simpa [Addr.add] using block_lt_of_cell z0, fun j hj => ?_⟩
    obtain ⟨c0, c1, c2, ht, z0, z1, z2⟩ := one j hj
    obtain ⟨k, t, y, rfl, rfl, rfl⟩ := act_of ht
    rw [ha] at z0 z1 z2
    rw [ha] at z1 z2
    exact ⟨k, t, y, z0, z1, z2⟩
end
end Go.Proofs.Ytbdgcfcipjehmaa.Ask
