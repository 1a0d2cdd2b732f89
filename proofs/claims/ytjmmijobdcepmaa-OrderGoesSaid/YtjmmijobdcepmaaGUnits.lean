/-
  Contracts of package goods: Units, and the reference's; of the law's own cut and alive.
-/
import Derived.Test.YtjmmijobdcepmaaGName
namespace Go.Proofs.Ytjmmijobdcepmaa.Goods
open Go.ChangeShapes Go.WideShapes Go.ChangeAt Go.RowKit

/-- A number and an error are returned; nothing that lay has turned. -/
def PairB (k z : Int) (w : World) (e : Ending) (w' : World) : Prop := e = .returned (.tuple #[.int .i64 k, .int .i64 z]) ∧ Below w.heap.size w w'
theorem ret_pair {a b c d : Int} (h : a = c) (h' : b = d) : Ending.returned (.tuple #[.int .i64 a, .int .i64 b]) = .returned (.tuple #[.int .i64 c, .int .i64 d]) := by rw [h, h']
/-- May so many be asked for? -/
def cntP (n : Int) : Prop := 1 ≤ n ∧ n ≤ 1073741824
instance (n : Int) : Decidable (cntP n) := by unfold cntP; exact inferInstance
/-- The error, and the number, of Units. -/
def unitsE (x : Sb) (n : Int) : Int := if mayB x = false ∨ ¬ cntP n then 1 else if 1073741824 < need x n then 2 else 0
def unitsK (x : Sb) (n : Int) : Int := if unitsE x n = 0 then need x n else 0

theorem need_bd {x : Sb} {n : Int} (hx : numP x) (hn : cntP n) : 1 ≤ need x n ∧ need x n ≤ 107374182499 ∧ 1 ≤ n * x.n ∧ n * x.n ≤ 107374182400 := by
  obtain ⟨_, _, h1, h2, h3, h4⟩ := hx
  obtain ⟨h5, h6⟩ := hn
  have hp1 : 1 * 1 ≤ n * x.n := Int.mul_le_mul h5 h1 (by omega) (by omega)
  have hp2 : n * x.n ≤ 1073741824 * 100 := Int.mul_le_mul h6 h2 (by omega) (by omega)
  unfold need
  generalize n * x.n = p at *
  refine ⟨?_, ?_, by omega, by omega⟩
  · rw [Int.le_ediv_iff_mul_le (by omega)]; omega
  · apply Int.le_of_lt_add_one
    rw [Int.ediv_lt_iff_lt_mul (by omega)]
    have : (107374182499 + 1) * 1 ≤ (107374182499 + 1) * x.d := Int.mul_le_mul_of_nonneg_left h3 (by omega)
    omega
theorem need_enough {x : Sb} {n : Int} (hx : numP x) : n * x.n ≤ need x n * x.d ∧ (need x n - 1) * x.d < n * x.n := by
  obtain ⟨_, _, _, _, h3, _⟩ := hx
  unfold need
  generalize n * x.n = p
  have h1 := Int.emod_add_mul_ediv (p + x.d - 1) x.d
  have h2 := Int.emod_nonneg (p + x.d - 1) (by omega : x.d ≠ 0)
  have h4 := Int.emod_lt_of_pos (p + x.d - 1) (by omega : 0 < x.d)
  have h5 : ((p + x.d - 1) / x.d - 1) * x.d = (p + x.d - 1) / x.d * x.d - x.d := by rw [Int.sub_mul, Int.one_mul]
  rw [h5, Int.mul_comm ((p + x.d - 1) / x.d)]
  omega
theorem need_by_rest (p d : Int) (_hp : 0 ≤ p) (hd : 1 ≤ d) : (p + d - 1) / d = if p % d > 0 then p / d + 1 else p / d := by
  have h1 := Int.emod_add_mul_ediv p d
  have h2 := Int.emod_nonneg p (by omega : d ≠ 0)
  have h4 := Int.emod_lt_of_pos p (by omega : 0 < d)
  split
  · next h =>
    have : p + d - 1 = (p % d - 1) + d * (p / d + 1) := by rw [Int.mul_add, Int.mul_one]; omega
    rw [this, Int.add_mul_ediv_left _ _ (by omega), Int.ediv_eq_zero_of_lt (by omega) (by omega)]
    omega
  · next h =>
    have : p + d - 1 = (d - 1) + d * (p / d) := by omega
    rw [this, Int.add_mul_ediv_left _ _ (by omega), Int.ediv_eq_zero_of_lt (by omega) (by omega)]
    omega

/-- The law's rule. -/
def lawSb : Sb := ⟨⟨#[97]⟩, ⟨#[98]⟩, 1, 3, 2⟩
theorem law_small : small lawSb := ⟨by decide, by decide⟩
theorem law_units : unitsK lawSb 5 = 8 ∧ unitsE lawSb 5 = 0 := by
  have hm : mayB lawSb = true := by
    rw [mayB_t]
    exact ⟨by decide, by decide, by decide, by decide⟩
  have he : unitsE lawSb 5 = 0 := by
    unfold unitsE
    rw [if_neg (by rw [hm]; decide)]
    rfl
  exact ⟨by unfold unitsK; rw [if_pos he]; rfl, he⟩
end Go.Proofs.Ytjmmijobdcepmaa.Goods
