/-
  Contracts of package goods: Units, and the reference's; of the law's own cut and alive.
-/
import Derived.Test.YthhadeohabkleaaGName
namespace Go.Proofs.Ythhadeohabkleaa.Goods
open Go.ChangeShapes Go.WideShapes Go.ChangeAt Go.RowKit

/-- A number and an error are returned; nothing that lay has turned. -/
def PairB (k z : Int) (w : World) (e : Ending) (w' : World) : Prop := e = .returned (.tuple #[.int .i64 k, .int .i64 z]) ∧ Below w.heap.size w w'
theorem ret_pair {a b c d : Int} (h : a = c) (h' : b = d) : Ending.returned (.tuple #[.int .i64 a, .int .i64 b]) = .returned (.tuple #[.int .i64 c, .int .i64 d]) := by rw [h, h']
/-- May so many be asked for? -/
def cntP (n : Int) : Prop := 1 ≤ n ∧ n ≤ 1073741824
instance (n : Int) : Decidable (cntP n) := by unfold cntP; exact inferInstance
/-- The error, and the number, of Units. -/
def unitsE (x : Sb) (n : Int) : Int := if mayB x = false ∨ ¬ cntP n then 1 else if 1073741824 < need x n then 2 else 0
def unitsK (x : Sb) (n : Int) : Int := if unitsE x n = 0 then need x n else 0

theorem need_bd {x : Sb} {n : Int} (hx : numP x) (hn : cntP n) : 1 ≤ need x n ∧ need x n ≤ 107374182499 ∧ 1 ≤ n * x.n ∧ n * x.n ≤ 107374182400 := by
  obtain ⟨_, _, h1, h2, h3, h4⟩ := hx
  obtain ⟨h5, h6⟩ := hn
  have hp1 : 1 * 1 ≤ n * x.n := Int.mul_le_mul h5 h1 (by omega) (by omega)
  have hp2 : n * x.n ≤ 1073741824 * 100 := Int.mul_le_mul h6 h2 (by omega) (by omega)
  unfold need
  generalize n * x.n = p at *
  refine ⟨?_, ?_, by omega, by omega⟩
  · rw [Int.le_ediv_iff_mul_le (by omega)]; omega
  · apply Int.le_of_lt_add_one
    rw [Int.ediv_lt_iff_lt_mul (by omega)]
    have : (107374182499 + 1) * 1 ≤ (107374182499 + 1) * x.d := Int.mul_le_mul_of_nonneg_left h3 (by omega)
    omega
theorem need_enough {x : Sb} {n : Int} (hx : numP x) : n * x.n ≤ need x n * x.d ∧ (need x n - 1) * x.d < n * x.n := by
  obtain ⟨_, _, _, _, h3, _⟩ := hx
  unfold need
  generalize n * x.n = p
  have h1 := Int.emod_add_mul_ediv (p + x.d - 1) x.d
  have h2 := Int.emod_nonneg (p + x.d - 1) (by omega : x.d ≠ 0)
  have h4 := Int.emod_lt_of_pos (p + x.d - 1) (by omega : 0 < x.d)
  have h5 : ((p + x.d - 1) / x.d - 1) * x.d = (p + x.d - 1) / x.d * x.d - x.d := by rw [Int.sub_mul, Int.one_mul]
  rw [h5, Int.mul_comm ((p + x.d - 1) / x.d)]
  omega
theorem need_by_rest (p d : Int) (_hp : 0 ≤ p) (hd : 1 ≤ d) : (p + d - 1) / d = if p % d > 0 then p / d + 1 else p / d := by
  have h1 := Int.emod_add_mul_ediv p d
  have h2 := Int.emod_nonneg p (by omega : d ≠ 0)
  have h4 := Int.emod_lt_of_pos p (by omega : 0 < d)
  split
  · next h =>
    have : p + d - 1 = (p % d - 1) + d * (p / d + 1) := by rw [Int.mul_add, Int.mul_one]; omega
    rw [this, Int.add_mul_ediv_left _ _ (by omega), Int.ediv_eq_zero_of_lt (by omega) (by omega)]
    omega
  · next h =>
    have : p + d - 1 = (d - 1) + d * (p / d) := by omega
    rw [this, Int.add_mul_ediv_left _ _ (by omega), Int.ediv_eq_zero_of_lt (by omega) (by omega)]
    omega

set_option maxRecDepth 100000 in
set_option maxHeartbeats 1000000 in
theorem Units_any (x : Sb) (hx : small x) (n : Int) (w : World) : Calls Try.prog 21 #[sv x, .int .i64 n] w (PairB (unitsK x n) (unitsE x n) w) := by
  have HM := Lib.hid (fun W => ruleMayBe_any x hx W)
  have HB := Lib.hid (al w (.cells #[.string x.f, .string x.t, .int .i64 x.r, .int .i64 x.n, .int .i64 x.d] 27))
  have HX := Lib.hid (Box.made w [.string x.f, .string x.t, .int .i64 x.r, .int .i64 x.n, .int .i64 x.d] 27)
  have HSV : Hid (sv x = .agg #[.string x.f, .string x.t, .int .i64 x.r, .int .i64 x.n, .int .i64 x.d]) := Lib.hid rfl
  cases hm : mayB x with
  | false =>
    have e1 : unitsE x n = 1 := by unfold unitsE; rw [if_pos (.inl hm)]
    have e2 : unitsK x n = 0 := by unfold unitsK; rw [e1]; rfl
    rw [e1, e2]
    rw [hm] at HM
    clear e1 e2 hm
    unfold sv at HM ⊢
    go_enter Try.func21, Try.ntmps21
    go_wp2_with (go_at_call 28; (with_reducible refine (HM.out _).mono ?_); rintro e w1 ⟨rfl, hz⟩; have HZ := Lib.hid (below_trans HB.out hz); clear hz)
    go_ret2
    exact ⟨rfl, HZ.out⟩
  | true =>
    by_cases hn : cntP n
    · have hnp := (mayB_t.1 hm).2.2.2
      obtain ⟨b1, b2, b3, b4⟩ := need_bd hnp hn
      obtain ⟨_, _, _, _, d1, d2⟩ := hnp
      have e1 : unitsE x n = if 1073741824 < need x n then 2 else 0 := by unfold unitsE; rw [if_neg (by simp [hm, hn])]
      have e2 : unitsK x n = if 1073741824 < need x n then 0 else need x n := by
        unfold unitsK; rw [e1]
        by_cases hc : 1073741824 < need x n
        · rw [if_pos hc, if_pos hc, if_neg (by decide)]
        · rw [if_neg hc, if_neg hc, if_pos rfl]
      rw [e1, e2]
      rw [hm] at HM
      obtain ⟨n1, n2⟩ := hn
      clear e1 e2 hm
      unfold sv at HM ⊢
      unfold need at b1 b2 ⊢
      generalize x.r = r at *
      generalize x.f = f at *
      generalize x.t = t at *
      generalize x.d = d at *
      generalize x.n = k at *
      obtain ⟨p, hp⟩ : ∃ p, n * k = p := ⟨_, rfl⟩
      rw [hp] at b1 b2 b3 b4 ⊢
      have w1 : wrap64 (n * k) = p := (IntWalk.wrap64_in (n * k) (by omega)).trans hp
      obtain ⟨q, hq⟩ : ∃ q, (p + d - 1) / d = q := ⟨_, rfl⟩
      rw [hq] at b1 b2 ⊢
      clear hp
      by_cases hc : 1073741824 < q
      · rw [if_pos hc, if_pos hc]
        go_enter Try.func21, Try.ntmps21
        go_wp2_with fail
        (with_reducible refine (HM.out _).mono ?_)
        rintro e w1 ⟨rfl, hz⟩
        have HY := HX.out.below hz
        have s0 := HY.1
        have k3 := (HY.2 3 _ rfl).1
        have k4 := (HY.2 4 _ rfl).1
        have HZ := Lib.hid (below_trans HB.out hz)
        clear hz HY
        go_wp2_with fail
        go_ret2
        exact ⟨rfl, HZ.out⟩
      · rw [if_neg hc, if_neg hc]
        go_enter Try.func21, Try.ntmps21
        go_wp2_with fail
        (with_reducible refine (HM.out _).mono ?_)
        rintro e w1 ⟨rfl, hz⟩
        have HY := HX.out.below hz
        have s0 := HY.1
        have k3 := (HY.2 3 _ rfl).1
        have k4 := (HY.2 4 _ rfl).1
        have HZ := Lib.hid (below_trans HB.out hz)
        clear hz HY
        go_wp2_with fail
        go_ret2
        exact ⟨ret_pair hq rfl, HZ.out⟩
    · have e1 : unitsE x n = 1 := by unfold unitsE; rw [if_pos (.inr hn)]
      have e2 : unitsK x n = 0 := by unfold unitsK; rw [e1]; rfl
      rw [e1, e2]
      rw [hm] at HM
      clear e1 e2 hm
      have hn2 : n < 1 ∨ 1073741824 < n := by unfold cntP at hn; omega
      clear hn
      unfold sv at HM ⊢
      rcases hn2 with hn | hn
      · go_enter Try.func21, Try.ntmps21
        go_wp2_with (go_at_call 28; (with_reducible refine (HM.out _).mono ?_); rintro e w1 ⟨rfl, hz⟩; have HZ := Lib.hid (below_trans HB.out hz); clear hz)
        go_ret2
        exact ⟨rfl, HZ.out⟩
      · go_enter Try.func21, Try.ntmps21
        go_wp2_with (go_at_call 28; (with_reducible refine (HM.out _).mono ?_); rintro e w1 ⟨rfl, hz⟩; have HZ := Lib.hid (below_trans HB.out hz); clear hz)
        go_ret2
        exact ⟨rfl, HZ.out⟩

set_option maxRecDepth 100000 in
set_option maxHeartbeats 1000000 in
theorem refUnits_any (x : Sb) (n : Int) (hx : numP x) (hn : cntP n) (w : World) : Calls Try.prog 22 #[sv x, .int .i64 n] w (IntB (need x n) w) := by
  have HB := Lib.hid (al w (.cells #[.string x.f, .string x.t, .int .i64 x.r, .int .i64 x.n, .int .i64 x.d] 27))
  obtain ⟨b1, b2, b3, b4⟩ := need_bd hx hn
  obtain ⟨_, _, _, _, d1, d2⟩ := hx
  have HN := Lib.hid (need_by_rest (n * x.n) x.d (by omega) d1)
  obtain ⟨n1, n2⟩ := hn
  unfold sv
  unfold need at *
  generalize x.r = r at *
  generalize x.f = f at *
  generalize x.t = t at *
  generalize x.d = d at *
  generalize x.n = k at *
  obtain ⟨p, hp⟩ : ∃ p, n * k = p := ⟨_, rfl⟩
  rw [hp] at b1 b2 b3 b4 HN ⊢
  have w1 : wrap64 (n * k) = p := (IntWalk.wrap64_in (n * k) (by omega)).trans hp
  have hqb := IntWalk.tdiv_le p d (by omega) d1
  have hmb := And.intro (Int.emod_nonneg p (by omega : d ≠ 0)) (Int.emod_lt_of_pos p (by omega : 0 < d))
  clear hp
  obtain ⟨q, hq⟩ : ∃ q, p / d = q := ⟨_, rfl⟩
  obtain ⟨m, hm0⟩ : ∃ m, p % d = m := ⟨_, rfl⟩
  rw [hq] at hqb HN
  rw [hm0] at hmb HN
  generalize (p + d - 1) / d = u at *
  by_cases hm : m > 0
  · rw [if_pos hm] at HN
    go_enter Try.func22, Try.ntmps22
    go_wp2
    go_ret
    exact ⟨ret_int HN.out.symm, HB.out⟩
  · rw [if_neg hm] at HN
    go_enter Try.func22, Try.ntmps22
    go_wp2
    go_ret
    exact ⟨ret_int HN.out.symm, HB.out⟩

/-- The law's rule. -/
def lawSb : Sb := ⟨⟨#[97]⟩, ⟨#[98]⟩, 1, 3, 2⟩
theorem law_small : small lawSb := ⟨by decide, by decide⟩
theorem law_units : unitsK lawSb 5 = 8 ∧ unitsE lawSb 5 = 0 := by
  have hm : mayB lawSb = true := by
    rw [mayB_t]
    exact ⟨by decide, by decide, by decide, by decide⟩
  have he : unitsE lawSb 5 = 0 := by
    unfold unitsE
    rw [if_neg (by rw [hm]; decide)]
    rfl
  exact ⟨by unfold unitsK; rw [if_pos he]; rfl, he⟩
set_option maxRecDepth 100000 in
theorem alive_any (w : World) : Calls Try.prog 13 #[] w (BoolB true w) := by
  have hu := fun W => Units_any lawSb law_small 5 W
  rw [law_units.1, law_units.2] at hu
  unfold sv lawSb at hu
  have HU := Lib.hid hu
  clear hu
  go_enter Try.func13, Try.ntmps13
  go_wp2_with fail
  refine (HU.out _).mono ?_
  rintro e w1 ⟨rfl, hz⟩
  go_wp2_with fail
  go_ret
  exact ⟨rfl, hz⟩
end Go.Proofs.Ythhadeohabkleaa.Goods
