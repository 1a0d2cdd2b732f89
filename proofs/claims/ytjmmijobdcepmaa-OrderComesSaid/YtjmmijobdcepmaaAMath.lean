/-
  Asking, as plain mathematics: which may be, and what beginning, answering and time makes of it. No program in it.
-/
import Derived.Test.YtjmmijobdcepmaaProg
namespace Go.Proofs.Ytjmmijobdcepmaa.Ask

/-- Asking: how it stands, until when. -/
structure As where
  s : Int
  u : Int
theorem As.same {x y : As} (h1 : x.s = y.s) (h2 : x.u = y.u) : x = y := by cases x; cases y; simp only at h1 h2; subst h1; subst h2; rfl
instance (x y : As) : Decidable (x = y) := if h : x.s = y.s ∧ x.u = y.u then .isTrue (As.same h.1 h.2) else .isFalse (fun e => h (by rw [e]; exact ⟨rfl, rfl⟩))
def noA : As := ⟨0, 0⟩
/-- Asking may be. -/
def RightA (a : As) : Prop := a.s = 0 ∧ a.u = 0 ∨ 1 ≤ a.s ∧ a.s ≤ 3 ∧ 0 ≤ a.u ∧ a.u ≤ 1099511627776
instance (a : As) : Decidable (RightA a) := by unfold RightA; exact inferInstance
def rightB (a : As) : Bool := decide (RightA a)
theorem rightB_t {a : As} : rightB a = true ↔ RightA a := by unfold rightB; exact decide_eq_true_iff
theorem rightB_f {a : As} : rightB a = false ↔ ¬ RightA a := by unfold rightB; exact decide_eq_false_iff_not
/-- Another thing may stand. -/
def MayP (a : As) (t : Int) : Prop := RightA a ∧ a.s = 2 ∧ t < a.u
instance (a : As) (t : Int) : Decidable (MayP a t) := by unfold MayP; exact inferInstance
def mayB (a : As) (t : Int) : Bool := decide (MayP a t)
theorem mayB_t {a : As} {t : Int} : mayB a t = true ↔ MayP a t := by unfold mayB; exact decide_eq_true_iff
theorem mayB_f {a : As} {t : Int} : mayB a t = false ↔ ¬ MayP a t := by unfold mayB; exact decide_eq_false_iff_not
def TimeP (t : Int) : Prop := 0 ≤ t ∧ t ≤ 1099511627776
instance (t : Int) : Decidable (TimeP t) := by unfold TimeP; exact inferInstance

/-! ### what is done -/
def begE (a : As) (t : Int) : Int := if ¬ (rightB a = true ∧ TimeP t) then 1 else if a.s = 0 then 0 else 10
def begO (a : As) (t : Int) : As := if begE a t = 0 then ⟨1, t⟩ else noA
def ansE (a : As) (t : Int) : Int := if ¬ rightB a = true then 1 else if a.s = 1 then (if a.u ≤ t then 12 else 0) else 10
def ansO (a : As) (y : Bool) (t : Int) : As := if ansE a t = 0 then ⟨if y then 2 else 3, a.u⟩ else noA
def lapE (a : As) : Int := if rightB a = true then 0 else 1
def lapB (a : As) (t : Int) : Bool := decide (RightA a ∧ (a.s = 1 ∨ a.s = 2) ∧ a.u ≤ t)
def lapO (a : As) (t : Int) : As := if ¬ rightB a = true then noA else if lapB a t = true then ⟨3, a.u⟩ else a

theorem beg_ways (a : As) (t : Int) : (¬ (rightB a = true ∧ TimeP t) ∧ begE a t = 1 ∧ begO a t = noA) ∨ (rightB a = true ∧ TimeP t ∧ a.s ≠ 0 ∧ begE a t = 10 ∧ begO a t = noA) ∨ (rightB a = true ∧ TimeP t ∧ a.s = 0 ∧ begE a t = 0 ∧ begO a t = ⟨1, t⟩) := by
  unfold begO begE
  by_cases h : rightB a = true ∧ TimeP t
  · by_cases h2 : a.s = 0
    · exact .inr (.inr ⟨h.1, h.2, h2, by simp [h, h2], by simp [h, h2]⟩)
    · exact .inr (.inl ⟨h.1, h.2, h2, by simp [h, h2], by simp [h, h2]⟩)
  · exact .inl ⟨h, by simp [h], by simp [h]⟩
theorem ans_ways (a : As) (y : Bool) (t : Int) : (rightB a = false ∧ ansE a t = 1 ∧ ansO a y t = noA) ∨ (rightB a = true ∧ a.s ≠ 1 ∧ ansE a t = 10 ∧ ansO a y t = noA) ∨ (rightB a = true ∧ a.s = 1 ∧ a.u ≤ t ∧ ansE a t = 12 ∧ ansO a y t = noA) ∨ (rightB a = true ∧ a.s = 1 ∧ t < a.u ∧ ansE a t = 0 ∧ ansO a y t = ⟨if y then 2 else 3, a.u⟩) := by
  unfold ansO ansE
  cases hr : rightB a with
  | false => exact .inl ⟨rfl, by simp, by simp⟩
  | true =>
    by_cases h1 : a.s = 1
    · by_cases h2 : a.u ≤ t
      · exact .inr (.inr (.inl ⟨rfl, h1, h2, by simp [h1, h2], by simp [h1, h2]⟩))
      · exact .inr (.inr (.inr ⟨rfl, h1, by omega, by simp [h1, h2], by simp [h1, h2]⟩))
    · exact .inr (.inl ⟨rfl, h1, by simp [h1], by simp [h1]⟩)
theorem lap_ways (a : As) (t : Int) : (rightB a = false ∧ lapE a = 1 ∧ lapB a t = false ∧ lapO a t = noA) ∨ (rightB a = true ∧ (a.s = 1 ∨ a.s = 2) ∧ a.u ≤ t ∧ lapE a = 0 ∧ lapB a t = true ∧ lapO a t = ⟨3, a.u⟩) ∨
    (rightB a = true ∧ ¬ ((a.s = 1 ∨ a.s = 2) ∧ a.u ≤ t) ∧ lapE a = 0 ∧ lapB a t = false ∧ lapO a t = a) := by
  unfold lapO lapE lapB
  cases hr : rightB a with
  | false => exact .inl ⟨rfl, by simp, decide_eq_false (fun h => (rightB_f.1 hr) h.1), by simp⟩
  | true =>
    have ha := rightB_t.1 hr
    by_cases h : (a.s = 1 ∨ a.s = 2) ∧ a.u ≤ t
    · have hd : decide (RightA a ∧ (a.s = 1 ∨ a.s = 2) ∧ a.u ≤ t) = true := decide_eq_true ⟨ha, h⟩
      exact .inr (.inl ⟨rfl, h.1, h.2, rfl, hd, by rw [hd]; rfl⟩)
    · have hd : decide (RightA a ∧ (a.s = 1 ∨ a.s = 2) ∧ a.u ≤ t) = false := decide_eq_false (fun h2 => h h2.2)
      exact .inr (.inr ⟨rfl, h, rfl, hd, by rw [hd]; rfl⟩)
/-- What is answered of asking that may not be. -/
theorem none_of {a : As} (h : rightB a = false) (u : Int) (y : Bool) (t : Int) : begE a u = 1 ∧ begO a u = noA ∧ ansE a t = 1 ∧ ansO a y t = noA ∧ lapE a = 1 ∧ lapO a t = noA ∧ lapB a t = false ∧ mayB a t = false := by
  have hn : ¬ rightB a = true := by rw [h]; simp
  have e1 : begE a u = 1 := if_pos (fun h2 => hn h2.1)
  have e2 : ansE a t = 1 := if_pos hn
  refine ⟨e1, by unfold begO; rw [e1]; rfl, e2, by unfold ansO; rw [e2]; rfl, if_neg hn, if_pos hn, ?_, mayB_f.2 (fun h2 => hn (rightB_t.2 h2.1))⟩
  exact decide_eq_false (fun h2 => hn (rightB_t.2 h2.1))
/-- It lapsed just if it is other than it was. -/
theorem lap_turned {a : As} (h : rightB a = true) (t : Int) : lapE a = 0 ∧ lapB a t = !decide (lapO a t = a) := by
  rcases lap_ways a t with ⟨e, _⟩ | ⟨_, hs, _, e1, e2, e3⟩ | ⟨_, _, e1, e2, e3⟩
  · rw [h] at e; cases e
  · rw [e1, e2, e3, decide_eq_false]
    · exact ⟨rfl, rfl⟩
    · intro e
      have := congrArg As.s e
      simp only at this
      omega
  · rw [e1, e2, e3, decide_eq_true rfl]
    exact ⟨rfl, rfl⟩

/-! ### what follows: asked once, answered once (the law's counters: asked c, yes d, until l) -/
/-- How asking stands beside the counters, at a time: not asked yet; asked, and not answered; behind a yes; behind a no, or lapsed. -/
def Once (a : As) (now c d l : Int) : Prop := 0 ≤ now ∧ now ≤ 400 ∧
  (c = 0 ∧ d = 0 ∧ a = noA ∧ l = 0 ∨
   c = 1 ∧ 0 ≤ l ∧ l ≤ 410 ∧ a.u = l ∧ (a.s = 1 ∧ d = 0 ∨ a.s = 2 ∧ d = 1 ∨ a.s = 3 ∧ d = 0 ∨ a.s = 3 ∧ d = 1 ∧ l ≤ now))
theorem once_begin : Once noA 0 0 0 0 := ⟨by omega, by omega, .inl ⟨rfl, rfl, rfl, rfl⟩⟩
theorem Once.right {a : As} {now c d l : Int} (h : Once a now c d l) : RightA a := by
  obtain ⟨_, _, ⟨_, _, rfl, _⟩ | ⟨_, h1, h2, h3, h4⟩⟩ := h
  · exact .inl ⟨rfl, rfl⟩
  · exact .inr (by omega)
/-- Time goes on. -/
theorem Once.later {a : As} {now c d l k : Int} (h : Once a now c d l) (h0 : 0 ≤ k) (h1 : now + k ≤ 400) : Once a (now + k) c d l := by
  obtain ⟨h2, h3, h4⟩ := h
  exact ⟨by omega, h1, by rcases h4 with h | ⟨g1, g2, g3, g4, g5⟩; exact .inl h; exact .inr ⟨g1, g2, g3, g4, by omega⟩⟩
/-- It begins. -/
theorem Once.begun {a : As} {now c d l : Int} (h : Once a now c d l) (hz : begE a (now + 10) = 0) : c = 0 ∧ d = 0 ∧ Once (begO a (now + 10)) now (c + 1) d (now + 10) := by
  rcases beg_ways a (now + 10) with ⟨_, e, _⟩ | ⟨_, _, _, e, _⟩ | ⟨_, _, hs, _, e⟩
  · rw [hz] at e; cases e
  · rw [hz] at e; cases e
  · obtain ⟨h2, h3, ⟨rfl, rfl, _, _⟩ | ⟨_, _, _, _, h4⟩⟩ := h
    · rw [e]
      exact ⟨rfl, rfl, h2, h3, .inr ⟨rfl, by omega, by omega, rfl, .inl ⟨rfl, rfl⟩⟩⟩
    · omega
/-- It is answered. -/
theorem Once.answered {a : As} {now c d l : Int} (y : Bool) (h : Once a now c d l) (hz : ansE a now = 0) : c = 1 ∧ d = 0 ∧ now < l ∧ Once (ansO a y now) now c (if y then d + 1 else d) l := by
  rcases ans_ways a y now with ⟨_, e, _⟩ | ⟨_, _, e, _⟩ | ⟨_, _, _, e, _⟩ | ⟨_, hs, hu, _, e⟩
  · rw [hz] at e; cases e
  · rw [hz] at e; cases e
  · rw [hz] at e; cases e
  · obtain ⟨h2, h3, ⟨_, _, rfl, _⟩ | ⟨rfl, g1, g2, g3, h4⟩⟩ := h
    · cases hs
    · have hd : d = 0 := by omega
      subst hd
      rw [e]
      refine ⟨rfl, rfl, by omega, h2, h3, .inr ⟨rfl, g1, g2, g3, ?_⟩⟩
      cases y with
      | false => exact .inr (.inr (.inl ⟨rfl, rfl⟩))
      | true => exact .inr (.inl ⟨rfl, rfl⟩)
/-- It lapses. -/
theorem Once.lapsed {a : As} {now c d l : Int} (h : Once a now c d l) : lapE a = 0 ∧ Once (lapO a now) now c d l := by
  have hr := rightB_t.2 h.right
  rcases lap_ways a now with ⟨e, _⟩ | ⟨_, hs, hu, e1, _, e⟩ | ⟨_, _, e1, _, e⟩
  · rw [hr] at e; cases e
  · refine ⟨e1, ?_⟩
    rw [e]
    obtain ⟨h2, h3, ⟨_, _, rfl, _⟩ | ⟨g0, g1, g2, g3, h4⟩⟩ := h
    · rcases hs with hs | hs <;> cases hs
    · exact ⟨h2, h3, .inr ⟨g0, g1, g2, g3, by simp; omega⟩⟩
  · exact ⟨e1, by rw [e]; exact h⟩
/-- What the law asks of each step. -/
theorem Once.asks {a : As} {now c d l : Int} (h : Once a now c d l) : c ≤ 1 ∧ d ≤ 1 ∧ (mayB a now = true → d = 1 ∧ now < l) ∧ (d = 1 → now < l → mayB a now = true) := by
  have hr := h.right
  obtain ⟨h2, h3, ⟨rfl, rfl, rfl, rfl⟩ | ⟨rfl, g1, g2, g3, h4⟩⟩ := h
  · exact ⟨by omega, by omega, fun h => (by cases (mayB_t.1 h).2.1), fun h => (by cases h)⟩
  · refine ⟨by omega, by omega, fun h => ?_, fun h h' => mayB_t.2 ⟨hr, by omega, by omega⟩⟩
    obtain ⟨_, q1, q2⟩ := mayB_t.1 h
    omega
end Go.Proofs.Ytjmmijobdcepmaa.Ask
