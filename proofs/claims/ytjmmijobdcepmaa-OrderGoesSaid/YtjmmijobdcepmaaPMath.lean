/-
  Money that is promised, as plain mathematics: which may be, and what beginning, time, renewing, catching and closing makes of it. No program in it.
-/
import Derived.Test.YtjmmijobdcepmaaProg
namespace Go.Proofs.Ytjmmijobdcepmaa.Pay

/-- Money: its amount, how much of it is caught, until when, how it stands. -/
structure Py where
  a : Int
  c : Int
  u : Int
  s : Int
theorem Py.same {x y : Py} (h1 : x.a = y.a) (h2 : x.c = y.c) (h3 : x.u = y.u) (h4 : x.s = y.s) : x = y := by
  cases x; cases y; simp only at h1 h2 h3 h4; subst h1; subst h2; subst h3; subst h4; rfl
instance (x y : Py) : Decidable (x = y) := if h : x.a = y.a ∧ x.c = y.c ∧ x.u = y.u ∧ x.s = y.s then .isTrue (Py.same h.1 h.2.1 h.2.2.1 h.2.2.2) else .isFalse (fun e => h (by rw [e]; exact ⟨rfl, rfl, rfl, rfl⟩))
def noP : Py := ⟨0, 0, 0, 0⟩
/-- Money may be. -/
def RightP (p : Py) : Prop := 0 ≤ p.a ∧ p.a ≤ 1125899906842624 ∧ 0 ≤ p.c ∧ p.c ≤ p.a ∧ 0 ≤ p.u ∧ p.u ≤ 1099511627776 ∧ 1 ≤ p.s ∧ p.s ≤ 3
instance (p : Py) : Decidable (RightP p) := by unfold RightP; exact inferInstance
def rightB (p : Py) : Bool := decide (RightP p)
theorem rightB_t {p : Py} : rightB p = true ↔ RightP p := by unfold rightB; exact decide_eq_true_iff
theorem rightB_f {p : Py} : rightB p = false ↔ ¬ RightP p := by unfold rightB; exact decide_eq_false_iff_not
/-- It holds at a time. -/
def GoodP (p : Py) (t : Int) : Prop := RightP p ∧ p.s = 1 ∧ t < p.u
instance (p : Py) (t : Int) : Decidable (GoodP p t) := by unfold GoodP; exact inferInstance
def goodB (p : Py) (t : Int) : Bool := decide (GoodP p t)
theorem goodB_t {p : Py} {t : Int} : goodB p t = true ↔ GoodP p t := by unfold goodB; exact decide_eq_true_iff
theorem goodB_f {p : Py} {t : Int} : goodB p t = false ↔ ¬ GoodP p t := by unfold goodB; exact decide_eq_false_iff_not
def TimeP (t : Int) : Prop := 0 ≤ t ∧ t ≤ 1099511627776
instance (t : Int) : Decidable (TimeP t) := by unfold TimeP; exact inferInstance
def UnitP (n : Int) : Prop := 1 ≤ n ∧ n ≤ 1073741824
instance (n : Int) : Decidable (UnitP n) := by unfold UnitP; exact inferInstance

/-! ### what is done -/
def newE (n q t : Int) : Int := if ¬ (UnitP n ∧ UnitP q ∧ TimeP t) then 1 else if 1125899906842624 < n * q then 2 else 0
def newO (n q t : Int) : Py := if newE n q t = 0 then ⟨n * q, 0, t, 1⟩ else noP
def lapB (p : Py) (t : Int) : Bool := decide (RightP p ∧ p.s = 1 ∧ p.u ≤ t)
def lapE (p : Py) : Int := if rightB p = true then 0 else 1
def lapO (p : Py) (t : Int) : Py := if ¬ rightB p = true then noP else if lapB p t = true then ⟨p.a, p.c, p.u, 2⟩ else p
def renE (p : Py) (t : Int) : Int := if ¬ (rightB p = true ∧ TimeP t) then 1 else if p.s = 2 then 0 else 10
def renO (p : Py) (t : Int) : Py := if renE p t = 0 then ⟨p.a, p.c, t, 1⟩ else noP
def catE (p : Py) (n : Int) : Int := if ¬ (rightB p = true ∧ 0 ≤ n) then 1 else if p.s = 3 then 10 else if p.a - p.c < n then 2 else 0
def catO (p : Py) (n : Int) : Py := if catE p n = 0 then ⟨p.a, p.c + n, p.u, p.s⟩ else noP
def cloE (p : Py) : Int := if ¬ rightB p = true then 1 else if p.s = 3 then 10 else 0
def cloO (p : Py) : Py := if cloE p = 0 then ⟨p.a, p.c, p.u, 3⟩ else noP

theorem new_ways (n q t : Int) : (¬ (UnitP n ∧ UnitP q ∧ TimeP t) ∧ newE n q t = 1 ∧ newO n q t = noP) ∨ (UnitP n ∧ UnitP q ∧ TimeP t ∧ 1125899906842624 < n * q ∧ newE n q t = 2 ∧ newO n q t = noP) ∨
    (UnitP n ∧ UnitP q ∧ TimeP t ∧ n * q ≤ 1125899906842624 ∧ 1 ≤ n * q ∧ newE n q t = 0 ∧ newO n q t = ⟨n * q, 0, t, 1⟩) := by
  unfold newO newE
  by_cases h : UnitP n ∧ UnitP q ∧ TimeP t
  · by_cases h2 : 1125899906842624 < n * q
    · exact .inr (.inl ⟨h.1, h.2.1, h.2.2, h2, by simp [h, h2], by simp [h, h2]⟩)
    · have h1 : 1 ≤ n * q := by
        have := Int.mul_le_mul (show 1 ≤ n from h.1.1) (show 1 ≤ q from h.2.1.1) (by omega) (by have := h.1.1; omega)
        omega
      exact .inr (.inr ⟨h.1, h.2.1, h.2.2, by omega, h1, by simp [h, h2], by simp [h, h2]⟩)
  · exact .inl ⟨h, by simp [h], by simp [h]⟩
/-- As many as 2^60: no product is too great to be worked out. -/
theorem unit_mul {n q : Int} (h1 : UnitP n) (h2 : UnitP q) : 1 ≤ n * q ∧ n * q ≤ 1152921504606846976 := by
  have a1 := Int.mul_le_mul h1.1 h2.1 (by omega) (by have := h1.1; omega)
  have a2 := Int.mul_le_mul h1.2 h2.2 (by have := h2.1; omega) (by omega)
  omega
/-- As the law asks it: by dividing. -/
theorem over_div {n q : Int} (h2 : UnitP q) : (1125899906842624 / q < n) ↔ 1125899906842624 < n * q := by
  have hq : 0 < q := by have := h2.1; omega
  exact Int.ediv_lt_iff_lt_mul hq
theorem new_right {n q t : Int} (h : newE n q t = 0) : RightP (newO n q t) ∧ (newO n q t).a = n * q ∧ (newO n q t).c = 0 ∧ newO n q t = ⟨n * q, 0, t, 1⟩ := by
  rcases new_ways n q t with ⟨_, e, _⟩ | ⟨_, _, _, _, e, _⟩ | ⟨_, _, ht, h1, h2, _, e⟩
  · rw [h] at e; cases e
  · rw [h] at e; cases e
  · rw [e]
    refine ⟨⟨by simp only; omega, h1, by simp, by simp only; omega, ht.1, ht.2, by simp, by simp⟩, rfl, rfl, rfl⟩
theorem lap_ways (p : Py) (t : Int) : (rightB p = false ∧ lapE p = 1 ∧ lapB p t = false ∧ lapO p t = noP) ∨ (rightB p = true ∧ p.s = 1 ∧ p.u ≤ t ∧ lapE p = 0 ∧ lapB p t = true ∧ lapO p t = ⟨p.a, p.c, p.u, 2⟩) ∨
    (rightB p = true ∧ ¬ (p.s = 1 ∧ p.u ≤ t) ∧ lapE p = 0 ∧ lapB p t = false ∧ lapO p t = p) := by
  unfold lapO lapE lapB
  cases hr : rightB p with
  | false => exact .inl ⟨rfl, by simp, decide_eq_false (fun h => (rightB_f.1 hr) h.1), by simp⟩
  | true =>
    have hp := rightB_t.1 hr
    by_cases h : p.s = 1 ∧ p.u ≤ t
    · exact .inr (.inl ⟨rfl, h.1, h.2, rfl, decide_eq_true ⟨hp, h⟩, by simp [hp, h]⟩)
    · exact .inr (.inr ⟨rfl, h, rfl, decide_eq_false (fun h2 => h h2.2), by simp; intro _ h1 h2; exact absurd ⟨h1, h2⟩ h⟩)
theorem ren_ways (p : Py) (t : Int) : (¬ (rightB p = true ∧ TimeP t) ∧ renE p t = 1 ∧ renO p t = noP) ∨ (rightB p = true ∧ TimeP t ∧ p.s ≠ 2 ∧ renE p t = 10 ∧ renO p t = noP) ∨ (rightB p = true ∧ TimeP t ∧ p.s = 2 ∧ renE p t = 0 ∧ renO p t = ⟨p.a, p.c, t, 1⟩) := by
  unfold renO renE
  by_cases h : rightB p = true ∧ TimeP t
  · by_cases h2 : p.s = 2
    · exact .inr (.inr ⟨h.1, h.2, h2, by simp [h, h2], by simp [h, h2]⟩)
    · exact .inr (.inl ⟨h.1, h.2, h2, by simp [h, h2], by simp [h, h2]⟩)
  · exact .inl ⟨h, by simp [h], by simp [h]⟩
theorem cat_ways (p : Py) (n : Int) : (¬ (rightB p = true ∧ 0 ≤ n) ∧ catE p n = 1 ∧ catO p n = noP) ∨ (rightB p = true ∧ 0 ≤ n ∧ p.s = 3 ∧ catE p n = 10 ∧ catO p n = noP) ∨ (rightB p = true ∧ 0 ≤ n ∧ p.s ≠ 3 ∧ p.a - p.c < n ∧ catE p n = 2 ∧ catO p n = noP) ∨
    (rightB p = true ∧ 0 ≤ n ∧ p.s ≠ 3 ∧ n ≤ p.a - p.c ∧ catE p n = 0 ∧ catO p n = ⟨p.a, p.c + n, p.u, p.s⟩) := by
  unfold catO catE
  by_cases h : rightB p = true ∧ 0 ≤ n
  · by_cases h2 : p.s = 3
    · exact .inr (.inl ⟨h.1, h.2, h2, by simp [h, h2], by simp [h, h2]⟩)
    · by_cases h3 : p.a - p.c < n
      · exact .inr (.inr (.inl ⟨h.1, h.2, h2, h3, by simp [h, h2, h3], by simp [h, h2, h3]⟩))
      · exact .inr (.inr (.inr ⟨h.1, h.2, h2, by omega, by simp [h, h2, h3], by simp [h, h2, h3]⟩))
  · exact .inl ⟨h, by simp [h], by simp [h]⟩
theorem clo_ways (p : Py) : (rightB p = false ∧ cloE p = 1 ∧ cloO p = noP) ∨ (rightB p = true ∧ p.s = 3 ∧ cloE p = 10 ∧ cloO p = noP) ∨ (rightB p = true ∧ p.s ≠ 3 ∧ cloE p = 0 ∧ cloO p = ⟨p.a, p.c, p.u, 3⟩) := by
  unfold cloO cloE
  cases hr : rightB p with
  | false => exact .inl ⟨rfl, by simp, by simp⟩
  | true =>
    by_cases h : p.s = 3
    · exact .inr (.inl ⟨rfl, h, by simp [h], by simp [h]⟩)
    · exact .inr (.inr ⟨rfl, h, by simp [h], by simp [h]⟩)

/-! ### what follows: what may be stays such, no amount changes, what is closed stays, and what does not hold is renewed ahead of holding again -/
/-- What an act that is done leaves: d more is caught; r tells that it was renewing. -/
def Kept (p x : Py) (d : Int) (r : Bool) : Prop := RightP x ∧ x.a = p.a ∧ x.c = p.c + d ∧ (p.s = 3 → x = p) ∧ (r = false → GoodP x (-1) → GoodP p (-1))
theorem lap_keeps {p : Py} {t : Int} (h : lapE p = 0) : RightP p ∧ Kept p (lapO p t) 0 false := by
  rcases lap_ways p t with ⟨_, e, _⟩ | ⟨hr, h1, h2, _, _, e⟩ | ⟨hr, _, _, _, e⟩
  · rw [h] at e; cases e
  · have hp := rightB_t.1 hr
    rw [e]
    obtain ⟨q1, q2, q3, q4, q5, q6, q7, q8⟩ := hp
    exact ⟨⟨q1, q2, q3, q4, q5, q6, q7, q8⟩, ⟨q1, q2, q3, q4, q5, q6, by simp, by simp⟩, rfl, by simp, fun e3 => by omega, fun _ hg => absurd hg.2.1 (by simp)⟩
  · have hp := rightB_t.1 hr
    rw [e]
    exact ⟨hp, hp, rfl, by omega, fun _ => rfl, fun _ hg => hg⟩
theorem ren_keeps {p : Py} {t : Int} (h : renE p t = 0) : RightP p ∧ Kept p (renO p t) 0 true := by
  rcases ren_ways p t with ⟨_, e, _⟩ | ⟨_, _, _, e, _⟩ | ⟨hr, ht, hs, _, e⟩
  · rw [h] at e; cases e
  · rw [h] at e; cases e
  · have hp := rightB_t.1 hr
    rw [e]
    obtain ⟨q1, q2, q3, q4, q5, q6, q7, q8⟩ := hp
    exact ⟨⟨q1, q2, q3, q4, q5, q6, q7, q8⟩, ⟨q1, q2, q3, q4, ht.1, ht.2, by simp, by simp⟩, rfl, by simp, fun e3 => by omega, fun e => by cases e⟩
theorem cat_keeps {p : Py} {n : Int} (h : catE p n = 0) : RightP p ∧ 0 ≤ n ∧ n ≤ p.a - p.c ∧ p.s ≠ 3 ∧ catO p n = ⟨p.a, p.c + n, p.u, p.s⟩ ∧ Kept p (catO p n) n false := by
  rcases cat_ways p n with ⟨_, e, _⟩ | ⟨_, _, _, e, _⟩ | ⟨_, _, _, _, e, _⟩ | ⟨hr, h0, hs, h1, _, e⟩
  · rw [h] at e; cases e
  · rw [h] at e; cases e
  · rw [h] at e; cases e
  · have hp := rightB_t.1 hr
    rw [e]
    obtain ⟨q1, q2, q3, q4, q5, q6, q7, q8⟩ := hp
    refine ⟨⟨q1, q2, q3, q4, q5, q6, q7, q8⟩, h0, h1, hs, rfl, ⟨q1, q2, by simp only; omega, by simp only; omega, q5, q6, q7, q8⟩, rfl, rfl, fun e3 => absurd e3 hs, fun _ hg => ⟨⟨q1, q2, q3, q4, q5, q6, q7, q8⟩, hg.2.1, hg.2.2⟩⟩
theorem clo_keeps {p : Py} (h : cloE p = 0) : RightP p ∧ p.s ≠ 3 ∧ cloO p = ⟨p.a, p.c, p.u, 3⟩ ∧ Kept p (cloO p) 0 false := by
  rcases clo_ways p with ⟨_, e, _⟩ | ⟨_, _, e, _⟩ | ⟨hr, hs, _, e⟩
  · rw [h] at e; cases e
  · rw [h] at e; cases e
  · have hp := rightB_t.1 hr
    rw [e]
    obtain ⟨q1, q2, q3, q4, q5, q6, q7, q8⟩ := hp
    exact ⟨⟨q1, q2, q3, q4, q5, q6, q7, q8⟩, hs, rfl, ⟨q1, q2, q3, q4, q5, q6, by simp, by simp⟩, rfl, by simp, fun e3 => absurd e3 hs, fun _ hg => absurd hg.2.1 (by simp)⟩

/-! ### what is caught in two parts -/
theorem cat_less {p : Py} {a b : Int} (hb : 0 ≤ b) (ha : 0 ≤ a) (h : catE p a ≠ 0) : catE p (a + b) ≠ 0 := fun h2 => by
  obtain ⟨hr, _, h3, hs, _, _⟩ := cat_keeps h2
  rcases cat_ways p a with ⟨e, _⟩ | ⟨_, _, e, _⟩ | ⟨_, _, _, e, _⟩ | ⟨_, _, _, _, e, _⟩
  · exact e ⟨rightB_t.2 hr, ha⟩
  · exact hs e
  · omega
  · exact h e
theorem cat_two {p : Py} {a b : Int} (ha : 0 ≤ a) (hb : 0 ≤ b) (h : catE p a = 0) : catE (catO p a) b = catE p (a + b) ∧ catO (catO p a) b = catO p (a + b) := by
  obtain ⟨hr, _, h3, hs, e, hk⟩ := cat_keeps h
  have hrx := hk.1
  rw [e] at hrx ⊢
  rcases cat_ways ⟨p.a, p.c + a, p.u, p.s⟩ b with ⟨e1, _⟩ | ⟨_, _, e1, _⟩ | ⟨_, _, _, e1, e2, e3⟩ | ⟨_, _, _, e1, e2, e3⟩
  · exact absurd ⟨rightB_t.2 hrx, hb⟩ e1
  · exact absurd e1 hs
  · simp only at e1
    rcases cat_ways p (a + b) with ⟨d1, _⟩ | ⟨_, _, d1, _⟩ | ⟨_, _, _, d1, d2, d3⟩ | ⟨_, _, _, d1, d2, d3⟩
    · exact absurd ⟨rightB_t.2 hr, by omega⟩ d1
    · exact absurd d1 hs
    · exact ⟨e2.trans d2.symm, e3.trans d3.symm⟩
    · omega
  · simp only at e1
    rcases cat_ways p (a + b) with ⟨d1, _⟩ | ⟨_, _, d1, _⟩ | ⟨_, _, _, d1, d2, d3⟩ | ⟨_, _, _, d1, d2, d3⟩
    · exact absurd ⟨rightB_t.2 hr, by omega⟩ d1
    · exact absurd d1 hs
    · omega
    · refine ⟨e2.trans d2.symm, e3.trans ?_⟩
      rw [d3, Int.add_assoc]
/-- What lapsed catches just as before; what is closed no more. -/
theorem cat_lapsed {p : Py} {a t : Int} (h : catE p a = 0) : lapE p = 0 ∧ catE (lapO p t) a = 0 ∧ (catO (lapO p t) a).c = p.c + a := by
  obtain ⟨hr, h0, h3, hs, _, _⟩ := cat_keeps h
  have hl : lapE p = 0 := if_pos (rightB_t.2 hr)
  obtain ⟨_, hk⟩ := lap_keeps (t := t) hl
  have hs2 : (lapO p t).s ≠ 3 := by
    rcases lap_ways p t with ⟨e, _⟩ | ⟨_, _, _, _, _, e⟩ | ⟨_, _, _, _, e⟩
    · rw [rightB_t.2 hr] at e; cases e
    · rw [e]; simp
    · rw [e]; exact hs
  have ha := hk.2.1
  have hc := hk.2.2.1
  rcases cat_ways (lapO p t) a with ⟨e, _⟩ | ⟨_, _, e, _⟩ | ⟨_, _, _, e, _⟩ | ⟨_, _, _, _, e, e2⟩
  · exact absurd ⟨rightB_t.2 hk.1, h0⟩ e
  · exact absurd e hs2
  · omega
  · exact ⟨hl, e, by rw [e2]; simp only; omega⟩
theorem cat_closed {p : Py} (h : p.s ≠ 3) (hr : RightP p) : cloE p = 0 ∧ catE (cloO p) 0 = 10 := by
  have hc : cloE p = 0 := by unfold cloE; rw [if_neg (by rw [rightB_t.2 hr]; simp), if_neg h]
  obtain ⟨_, _, e, hk⟩ := clo_keeps hc
  refine ⟨hc, ?_⟩
  rcases cat_ways (cloO p) 0 with ⟨d, _⟩ | ⟨_, _, _, d, _⟩ | ⟨_, _, d, _⟩ | ⟨_, _, d, _⟩
  · exact absurd ⟨rightB_t.2 hk.1, by omega⟩ d
  · exact d
  · rw [e] at d; exact absurd rfl d
  · rw [e] at d; exact absurd rfl d
end Go.Proofs.Ytjmmijobdcepmaa.Pay
