/-
  Orders, as plain mathematics: which may be, how one comes, what it lacks and would take, and what sending, coming and being cut off makes of it. No program in it.
-/
import Derived.Test.YtjmmijobdcepmaaGMath
import Derived.Test.YtjmmijobdcepmaaPMath
import Derived.Test.YtjmmijobdcepmaaAMath
namespace Go.Proofs.Ytjmmijobdcepmaa.Order
open Go.Proofs.Ytjmmijobdcepmaa.Pay (Py RightP UnitP TimeP GoodP)
open Go.Proofs.Ytjmmijobdcepmaa.Ask (As RightA)
open Go.Proofs.Ytjmmijobdcepmaa.Goods (nameB)

/-- A load: of what, how many units, how many they count, its key. -/
structure Ld where
  k : ByteArray
  u : Int
  c : Int
  y : Int
theorem Ld.same {x y : Ld} (h1 : x.k = y.k) (h2 : x.u = y.u) (h3 : x.c = y.c) (h4 : x.y = y.y) : x = y := by
  cases x; cases y; simp only at h1 h2 h3 h4; subst h1; subst h2; subst h3; subst h4; rfl
instance (x y : Ld) : Decidable (x = y) := if h : x.k = y.k ∧ x.u = y.u ∧ x.c = y.c ∧ x.y = y.y then .isTrue (Ld.same h.1 h.2.1 h.2.2.1 h.2.2.2) else .isFalse (fun e => h (by rw [e]; exact ⟨rfl, rfl, rfl, rfl⟩))
def noL : Ld := ⟨ByteArray.empty, 0, 0, 0⟩
/-- An order: its number, for what, class, time of coming, how many it needs, how many came, the price, until when, in parts, its phase, what is sent, its money, its asking, whether it ends. -/
structure Od where
  id : Int
  k : ByteArray
  cl : Int
  sq : Int
  n : Int
  d : Int
  p : Int
  c : Int
  sp : Bool
  ph : Int
  l : Ld
  py : Py
  ak : As
  en : Bool
theorem Od.same {x y : Od} (h : x.id = y.id ∧ x.k = y.k ∧ x.cl = y.cl ∧ x.sq = y.sq ∧ x.n = y.n ∧ x.d = y.d ∧ x.p = y.p ∧ x.c = y.c ∧ x.sp = y.sp ∧ x.ph = y.ph ∧ x.l = y.l ∧ x.py = y.py ∧ x.ak = y.ak ∧ x.en = y.en) : x = y := by
  cases x; cases y
  simp only at h
  obtain ⟨h1, h2, h3, h4, h5, h6, h7, h8, h9, h10, h11, h12, h13, h14⟩ := h
  subst h1; subst h2; subst h3; subst h4; subst h5; subst h6; subst h7; subst h8; subst h9; subst h10; subst h11; subst h12; subst h13; subst h14; rfl
instance (x y : Od) : Decidable (x = y) :=
  if h : x.id = y.id ∧ x.k = y.k ∧ x.cl = y.cl ∧ x.sq = y.sq ∧ x.n = y.n ∧ x.d = y.d ∧ x.p = y.p ∧ x.c = y.c ∧ x.sp = y.sp ∧ x.ph = y.ph ∧ x.l = y.l ∧ x.py = y.py ∧ x.ak = y.ak ∧ x.en = y.en then .isTrue (Od.same h)
  else .isFalse (fun e => h (by rw [e]; exact ⟨rfl, rfl, rfl, rfl, rfl, rfl, rfl, rfl, rfl, rfl, rfl, rfl, rfl, rfl⟩))
def noO : Od := ⟨0, ByteArray.empty, 0, 0, 0, 0, 0, 0, false, 0, noL, Pay.noP, Ask.noA, false⟩

/-! ### which may be -/
def WaitP (o : Od) : Prop := 0 ≤ o.cl ∧ o.cl ≤ 3 ∧ 1 ≤ o.sq ∧ o.sq ≤ 1099511627776 ∧ 1 ≤ o.id ∧ o.id ≤ 1099511627776
instance (o : Od) : Decidable (WaitP o) := by unfold WaitP; exact inferInstance
/-- What is asked whatever the phase is. -/
def BaseP (o : Od) : Prop := WaitP o ∧ nameB o.k = true ∧ UnitP o.n ∧ UnitP o.p ∧ 0 ≤ o.d ∧ o.d ≤ o.n ∧ TimeP o.c ∧ RightP o.py ∧ RightA o.ak ∧ o.py.a = o.n * o.p ∧ o.py.c = o.d * o.p
instance (o : Od) : Decidable (BaseP o) := by unfold BaseP; exact inferInstance
def LoadP (o : Od) : Prop := nameB o.l.k = true ∧ UnitP o.l.u ∧ 1 ≤ o.l.c ∧ o.l.c ≤ o.n - o.d ∧ 1 ≤ o.l.y ∧ o.l.y ≤ 1099511627776 ∧ (o.l.k = o.k → o.l.u = o.l.c)
instance (o : Od) : Decidable (LoadP o) := by unfold LoadP; exact inferInstance
/-- No load, and it does not end. -/
def BareP (o : Od) : Prop := o.l = noL ∧ o.en = false
instance (o : Od) : Decidable (BareP o) := by unfold BareP; exact inferInstance
def PhaseP (o : Od) : Prop :=
  o.ph = 1 ∧ o.d < o.n ∧ BareP o ∧ o.py.s ≠ 3 ∨ o.ph = 2 ∧ LoadP o ∧ o.py.s ≠ 3 ∨
  o.ph = 3 ∧ o.d = o.n ∧ BareP o ∧ o.py.s = 3 ∨ o.ph = 4 ∧ 0 < o.d ∧ o.d < o.n ∧ BareP o ∧ o.py.s = 3 ∨ o.ph = 5 ∧ o.d = 0 ∧ BareP o ∧ o.py.s = 3
instance (o : Od) : Decidable (PhaseP o) := by unfold PhaseP; exact inferInstance
def RightO (o : Od) : Prop := BaseP o ∧ PhaseP o
instance (o : Od) : Decidable (RightO o) := by unfold RightO; exact inferInstance
def rightB (o : Od) : Bool := decide (RightO o)
theorem rightB_t {o : Od} : rightB o = true ↔ RightO o := by unfold rightB; exact decide_eq_true_iff
theorem rightB_f {o : Od} : rightB o = false ↔ ¬ RightO o := by unfold rightB; exact decide_eq_false_iff_not
theorem RightO.phase {o : Od} (h : RightO o) : 1 ≤ o.ph ∧ o.ph ≤ 5 := by
  obtain ⟨_, h⟩ := h
  unfold PhaseP at h
  omega
/-- It is not at its end just in the first two phases. -/
def openB (o : Od) : Bool := rightB o && decide (o.ph < 3)
def lack (o : Od) : Int := if rightB o = true then o.n - o.d else 0
theorem lack_bd {o : Od} (h : RightO o) : lack o = o.n - o.d ∧ 0 ≤ o.n - o.d ∧ o.n - o.d ≤ 1073741824 := by
  have hr := rightB_t.2 h
  obtain ⟨⟨_, _, hn, _, h1, h2, _⟩, _⟩ := h
  exact ⟨if_pos hr, by omega, by have := hn.2; omega⟩
/-- Products of what may be. -/
theorem RightO.sums {o : Od} (h : RightO o) : o.n * o.p ≤ 1125899906842624 ∧ 0 ≤ o.d * o.p ∧ o.d * o.p ≤ o.n * o.p := by
  obtain ⟨⟨_, _, hn, hp, h1, h2, _, hr, _, ha, hc⟩, _⟩ := h
  obtain ⟨q1, q2, q3, q4, _⟩ := hr
  rw [ha] at q2 q4
  rw [hc] at q3 q4
  exact ⟨q2, q3, q4⟩

/-! ### how one comes, and what it would take -/
def newX (o : Od) (t : Int) : Od := ⟨o.id, o.k, o.cl, o.sq, o.n, 0, o.p, o.c, o.sp, 1, noL, ⟨o.n * o.p, 0, t, 1⟩, Ask.noA, false⟩
def newE (o : Od) (t : Int) : Int := if ¬ (UnitP o.n ∧ UnitP o.p ∧ TimeP t) then 1 else if 1125899906842624 < o.n * o.p then 2 else if rightB (newX o t) = true then 0 else 1
def newO (o : Od) (t : Int) : Od := if newE o t = 0 then newX o t else noO
theorem new_ways (o : Od) (t : Int) : (¬ (UnitP o.n ∧ UnitP o.p ∧ TimeP t) ∧ newE o t = 1 ∧ newO o t = noO) ∨ (UnitP o.n ∧ UnitP o.p ∧ TimeP t ∧ 1125899906842624 < o.n * o.p ∧ newE o t = 2 ∧ newO o t = noO) ∨
    (UnitP o.n ∧ UnitP o.p ∧ TimeP t ∧ o.n * o.p ≤ 1125899906842624 ∧ rightB (newX o t) = false ∧ newE o t = 1 ∧ newO o t = noO) ∨
    (UnitP o.n ∧ UnitP o.p ∧ TimeP t ∧ o.n * o.p ≤ 1125899906842624 ∧ rightB (newX o t) = true ∧ newE o t = 0 ∧ newO o t = newX o t) := by
  unfold newO newE
  by_cases h : UnitP o.n ∧ UnitP o.p ∧ TimeP t
  · by_cases h2 : 1125899906842624 < o.n * o.p
    · exact .inr (.inl ⟨h.1, h.2.1, h.2.2, h2, by simp [h, h2], by simp [h, h2]⟩)
    · cases h3 : rightB (newX o t) with
      | false => exact .inr (.inr (.inl ⟨h.1, h.2.1, h.2.2, by omega, rfl, by simp [h, h2], by simp [h, h2]⟩))
      | true => exact .inr (.inr (.inr ⟨h.1, h.2.1, h.2.2, by omega, rfl, by simp [h, h2], by simp [h, h2]⟩))
  · exact .inl ⟨h, by simp [h], by simp [h]⟩
/-- What it would take of what is free, at a time. -/
def wants (o : Od) (f t : Int) : Int := if ¬ (RightO o ∧ o.ph = 1 ∧ GoodP o.py t ∧ 1 ≤ f) then 0 else if o.n - o.d ≤ f then o.n - o.d else if o.sp = true then f else 0
theorem wants_ways (o : Od) (f t : Int) : (¬ (RightO o ∧ o.ph = 1 ∧ GoodP o.py t ∧ 1 ≤ f) ∧ wants o f t = 0) ∨ (RightO o ∧ o.ph = 1 ∧ GoodP o.py t ∧ 1 ≤ f ∧ o.n - o.d ≤ f ∧ wants o f t = o.n - o.d) ∨
    (RightO o ∧ o.ph = 1 ∧ GoodP o.py t ∧ 1 ≤ f ∧ f < o.n - o.d ∧ o.sp = true ∧ wants o f t = f) ∨ (RightO o ∧ o.ph = 1 ∧ GoodP o.py t ∧ 1 ≤ f ∧ f < o.n - o.d ∧ o.sp = false ∧ wants o f t = 0) := by
  unfold wants
  by_cases h : RightO o ∧ o.ph = 1 ∧ GoodP o.py t ∧ 1 ≤ f
  · rw [if_neg (fun h2 => h2 h)]
    by_cases h2 : o.n - o.d ≤ f
    · exact .inr (.inl ⟨h.1, h.2.1, h.2.2.1, h.2.2.2, h2, if_pos h2⟩)
    · rw [if_neg h2]
      cases hs : o.sp with
      | true => exact .inr (.inr (.inl ⟨h.1, h.2.1, h.2.2.1, h.2.2.2, by omega, rfl, rfl⟩))
      | false => exact .inr (.inr (.inr ⟨h.1, h.2.1, h.2.2.1, h.2.2.2, by omega, rfl, rfl⟩))
  · exact .inl ⟨h, if_pos h⟩

/-! ### sending, coming, being cut off -/
def sendX (o : Od) (l : Ld) : Od := { o with ph := 2, l := l }
def sendE (o : Od) (l : Ld) : Int := if ¬ rightB o = true then 1 else if o.ph = 1 then (if rightB (sendX o l) = true then 0 else 1) else 10
def sendO (o : Od) (l : Ld) : Od := if sendE o l = 0 then sendX o l else noO
theorem send_ways (o : Od) (l : Ld) : (rightB o = false ∧ sendE o l = 1 ∧ sendO o l = noO) ∨ (rightB o = true ∧ o.ph ≠ 1 ∧ sendE o l = 10 ∧ sendO o l = noO) ∨ (rightB o = true ∧ o.ph = 1 ∧ rightB (sendX o l) = false ∧ sendE o l = 1 ∧ sendO o l = noO) ∨
    (rightB o = true ∧ o.ph = 1 ∧ rightB (sendX o l) = true ∧ sendE o l = 0 ∧ sendO o l = sendX o l) := by
  unfold sendO sendE
  cases hr : rightB o with
  | false => exact .inl ⟨rfl, by simp, by simp⟩
  | true =>
    by_cases h1 : o.ph = 1
    · cases h2 : rightB (sendX o l) with
      | false => exact .inr (.inr (.inl ⟨rfl, h1, rfl, by simp [h1], by simp [h1]⟩))
      | true => exact .inr (.inr (.inr ⟨rfl, h1, rfl, by simp [h1], by simp [h1]⟩))
    · exact .inr (.inl ⟨rfl, h1, by simp [h1], by simp [h1]⟩)
/-- In which phase it is when it came. -/
def camePh (o : Od) : Int := if o.d + o.l.c = o.n then 3 else if o.en = true then 4 else 1
def cameX (o : Od) : Od := { o with d := o.d + o.l.c, ph := camePh o, l := noL, py := ⟨o.py.a, o.py.c + o.l.c * o.p, o.py.u, if camePh o = 1 then o.py.s else 3⟩, en := false }
def cameE (o : Od) : Int := if ¬ rightB o = true then 1 else if o.ph = 2 then 0 else 10
def cameO (o : Od) : Od := if cameE o = 0 then cameX o else noO
def cameN (o : Od) : Int := if cameE o = 0 then o.l.c * o.p else 0
theorem came_ways (o : Od) : (rightB o = false ∧ cameE o = 1 ∧ cameO o = noO ∧ cameN o = 0) ∨ (rightB o = true ∧ o.ph ≠ 2 ∧ cameE o = 10 ∧ cameO o = noO ∧ cameN o = 0) ∨ (rightB o = true ∧ o.ph = 2 ∧ cameE o = 0 ∧ cameO o = cameX o ∧ cameN o = o.l.c * o.p) := by
  unfold cameO cameN cameE
  cases hr : rightB o with
  | false => exact .inl ⟨rfl, by simp, by simp, by simp⟩
  | true =>
    by_cases h : o.ph = 2
    · exact .inr (.inr ⟨rfl, h, by simp [h], by simp [h], by simp [h]⟩)
    · exact .inr (.inl ⟨rfl, h, by simp [h], by simp [h], by simp [h]⟩)
def endX (o : Od) : Od := if o.ph = 2 then { o with en := true } else { o with ph := if 0 < o.d then 4 else 5, py := ⟨o.py.a, o.py.c, o.py.u, 3⟩ }
def endE (o : Od) : Int := if ¬ rightB o = true then 1 else if 3 ≤ o.ph ∨ o.en = true then 10 else 0
def endO (o : Od) : Od := if endE o = 0 then endX o else noO
theorem end_ways (o : Od) : (rightB o = false ∧ endE o = 1 ∧ endO o = noO) ∨ (rightB o = true ∧ (3 ≤ o.ph ∨ o.en = true) ∧ endE o = 10 ∧ endO o = noO) ∨ (rightB o = true ∧ o.ph = 2 ∧ o.en = false ∧ endE o = 0 ∧ endO o = { o with en := true }) ∨
    (rightB o = true ∧ o.ph = 1 ∧ o.en = false ∧ endE o = 0 ∧ endO o = { o with ph := if 0 < o.d then 4 else 5, py := ⟨o.py.a, o.py.c, o.py.u, 3⟩ }) := by
  unfold endO endE endX
  cases hr : rightB o with
  | false => exact .inl ⟨rfl, by simp, by simp⟩
  | true =>
    have hph := (rightB_t.1 hr).phase
    by_cases h : 3 ≤ o.ph ∨ o.en = true
    · exact .inr (.inl ⟨rfl, h, by simp [h], by simp [h]⟩)
    · have he : o.en = false := by cases he : o.en with | false => rfl | true => exact absurd (.inr he) h
      by_cases h2 : o.ph = 2
      · exact .inr (.inr (.inl ⟨rfl, h2, he, by simp [h], by simp [he, h2]⟩))
      · exact .inr (.inr (.inr ⟨rfl, by omega, he, by simp [h], by simp [h, h2]⟩))

/-! ### what follows: what may be stays such -/
/-- What is caught when it comes. -/
theorem came_sum {o : Od} (h : RightO o) (h2 : o.ph = 2) : LoadP o ∧ o.py.s ≠ 3 ∧ 1 ≤ o.l.c * o.p ∧ o.l.c * o.p ≤ o.py.a - o.py.c ∧ o.py.c + o.l.c * o.p = (o.d + o.l.c) * o.p ∧ (o.d + o.l.c) * o.p ≤ o.n * o.p ∧ o.d + o.l.c ≤ o.n := by
  have hs := h.sums
  obtain ⟨⟨_, _, hn, hp, h3, h4, _, hr, _, ha, hc⟩, hph⟩ := h
  have hl : LoadP o ∧ o.py.s ≠ 3 := by
    rcases hph with h | h | h | h | h
    · omega
    · exact h.2
    · omega
    · omega
    · omega
  obtain ⟨hl, hs3⟩ := hl
  obtain ⟨l1, l2, l3, l4, _⟩ := hl
  have a1 : 1 * 1 ≤ o.l.c * o.p := Int.mul_le_mul l3 hp.1 (by omega) (by omega)
  have a2 : (o.d + o.l.c) * o.p ≤ o.n * o.p := Int.mul_le_mul_of_nonneg_right (by omega) (by have := hp.1; omega)
  have a3 : (o.d + o.l.c) * o.p = o.d * o.p + o.l.c * o.p := Int.add_mul _ _ _
  exact ⟨⟨l1, l2, l3, l4, by assumption⟩, hs3, by omega, by omega, by omega, a2, by omega⟩
theorem new_right {o : Od} {t : Int} (h : newE o t = 0) : RightO (newO o t) ∧ newO o t = newX o t := by
  rcases new_ways o t with ⟨_, e, _⟩ | ⟨_, _, _, _, e, _⟩ | ⟨_, _, _, _, _, e, _⟩ | ⟨_, _, _, _, e1, _, e2⟩
  · rw [h] at e; cases e
  · rw [h] at e; cases e
  · rw [h] at e; cases e
  · rw [e2]; exact ⟨rightB_t.1 e1, rfl⟩
theorem send_right {o : Od} {l : Ld} (h : sendE o l = 0) : RightO o ∧ o.ph = 1 ∧ RightO (sendO o l) ∧ sendO o l = sendX o l := by
  rcases send_ways o l with ⟨_, e, _⟩ | ⟨_, _, e, _⟩ | ⟨_, _, _, e, _⟩ | ⟨hr, h1, h2, _, e⟩
  · rw [h] at e; cases e
  · rw [h] at e; cases e
  · rw [h] at e; cases e
  · rw [e]; exact ⟨rightB_t.1 hr, h1, rightB_t.1 h2, rfl⟩
theorem came_right {o : Od} (h : cameE o = 0) : RightO o ∧ o.ph = 2 ∧ RightO (cameO o) ∧ cameO o = cameX o ∧ cameN o = o.l.c * o.p := by
  rcases came_ways o with ⟨_, e, _⟩ | ⟨_, _, e, _⟩ | ⟨hr, h2, _, e, en⟩
  · rw [h] at e; cases e
  · rw [h] at e; cases e
  · have hro := rightB_t.1 hr
    refine ⟨hro, h2, ?_, e, en⟩
    rw [e]
    obtain ⟨hl, hs3, b1, b2, b3, b4, b5⟩ := came_sum hro h2
    obtain ⟨⟨q1, q2, q3, q4, q5, q6, q7, q8, q9, q10, q11⟩, _⟩ := hro
    obtain ⟨r1, r2, r3, r4, r5, r6, r7, r8⟩ := q8
    have hc1 := hl.2.2.1
    have hs : (if camePh o = 1 then o.py.s else 3) = o.py.s ∧ camePh o = 1 ∨ (if camePh o = 1 then o.py.s else 3) = 3 ∧ camePh o ≠ 1 := by
      by_cases hp : camePh o = 1
      · exact .inl ⟨if_pos hp, hp⟩
      · exact .inr ⟨if_neg hp, hp⟩
    refine ⟨⟨q1, q2, q3, q4, by simp only [cameX]; omega, by simp only [cameX]; omega, q7, ⟨r1, r2, by simp only [cameX]; omega, by simp only [cameX]; omega, r5, r6, by simp only [cameX]; omega, by simp only [cameX]; omega⟩, q9, q10, by simp only [cameX]; exact b3⟩, ?_⟩
    have hb : BareP (cameX o) := ⟨rfl, rfl⟩
    by_cases hd : o.d + o.l.c = o.n
    · have hp : camePh o = 3 := by unfold camePh; rw [if_pos hd]
      exact .inr (.inr (.inl ⟨hp, hd, hb, by simp [cameX, hp]⟩))
    · cases he : o.en with
      | true =>
        have hp : camePh o = 4 := by unfold camePh; rw [if_neg hd, if_pos he]
        exact .inr (.inr (.inr (.inl ⟨hp, by simp only [cameX]; omega, by simp only [cameX]; omega, hb, by simp [cameX, hp]⟩)))
      | false =>
        have hp : camePh o = 1 := by unfold camePh; rw [if_neg hd, he]; rfl
        exact .inl ⟨hp, by simp only [cameX]; omega, hb, by simp [cameX, hp, hs3]⟩
theorem end_right {o : Od} (h : endE o = 0) : RightO o ∧ RightO (endO o) ∧ o.ph < 3 ∧ o.en = false ∧ ((endO o).ph = 2 ∧ (endO o).en = true ∨ 3 ≤ (endO o).ph) ∧ (endO o).d = o.d ∧ (endO o).n = o.n ∧ (endO o).p = o.p ∧ (endO o).py.c = o.py.c := by
  rcases end_ways o with ⟨_, e, _⟩ | ⟨_, _, e, _⟩ | ⟨hr, h2, h3, _, e⟩ | ⟨hr, h2, h3, _, e⟩
  · rw [h] at e; cases e
  · rw [h] at e; cases e
  · have hro := rightB_t.1 hr
    rw [e]
    refine ⟨hro, ⟨hro.1, ?_⟩, by omega, h3, .inl ⟨h2, rfl⟩, rfl, rfl, rfl, rfl⟩
    obtain ⟨hl, hs3, _⟩ := came_sum hro h2
    exact .inr (.inl ⟨h2, hl, hs3⟩)
  · have hro := rightB_t.1 hr
    rw [e]
    obtain ⟨⟨q1, q2, q3, q4, q5, q6, q7, q8, q9, q10, q11⟩, hph⟩ := hro
    obtain ⟨r1, r2, r3, r4, r5, r6, r7, r8⟩ := q8
    have h1 : o.d < o.n ∧ BareP o := by
      rcases hph with h | h | h | h | h
      · exact ⟨h.2.1, h.2.2.1⟩
      · omega
      · omega
      · omega
      · omega
    refine ⟨⟨⟨q1, q2, q3, q4, q5, q6, q7, ⟨r1, r2, r3, r4, r5, r6, r7, r8⟩, q9, q10, q11⟩, hph⟩, ⟨⟨q1, q2, q3, q4, q5, q6, q7, ⟨r1, r2, r3, r4, r5, r6, by simp, by simp⟩, q9, q10, q11⟩, ?_⟩, by omega, h3, .inr (by simp only; split <;> omega), rfl, rfl, rfl, rfl⟩
    by_cases hd : 0 < o.d
    · exact .inr (.inr (.inr (.inl ⟨by simp [hd], hd, h1.1, h1.2, rfl⟩)))
    · exact .inr (.inr (.inr (.inr ⟨by simp [hd], by simp only; omega, h1.2, rfl⟩)))
/-- At its end it stays as it is: nothing is done. -/
theorem shut_stays {o : Od} (h : RightO o) (h3 : 3 ≤ o.ph) (l : Ld) (f t : Int) : wants o f t = 0 ∧ sendE o l ≠ 0 ∧ cameE o ≠ 0 ∧ endE o ≠ 0 := by
  have hr := rightB_t.2 h
  refine ⟨?_, ?_, ?_, ?_⟩
  · rcases wants_ways o f t with h | h | h | h
    · exact h.2
    · omega
    · omega
    · omega
  · intro e
    have := (send_right e).2.1
    omega
  · intro e
    have := (came_right e).2.1
    omega
  · intro e
    have := (end_right e).2.2.1
    omega
/-- What is told of one that is at its end. -/
theorem shut_tells {o : Od} (h : RightO o) (h3 : 3 ≤ o.ph) : openB o = false ∧ o.py.s = 3 ∧ decide (o.ph = 3) = decide (o.d = o.n) ∧ decide (o.ph = 5) = decide (o.d = 0) := by
  have hn := h.1.2.2.1.1
  refine ⟨by unfold openB; rw [decide_eq_false (by omega), Bool.and_false], ?_⟩
  obtain ⟨_, h | h | h | h | h⟩ := h
  · omega
  · omega
  · refine ⟨h.2.2.2, ?_, ?_⟩
    · rw [decide_eq_true h.1, decide_eq_true h.2.1]
    · rw [decide_eq_false (by omega), decide_eq_false (by omega)]
  · refine ⟨h.2.2.2.2, ?_, ?_⟩
    · rw [decide_eq_false (by omega), decide_eq_false (by omega)]
    · rw [decide_eq_false (by omega), decide_eq_false (by omega)]
  · refine ⟨h.2.2.2, ?_, ?_⟩
    · rw [decide_eq_false (by omega), decide_eq_false (by omega)]
    · rw [decide_eq_true h.1, decide_eq_true h.2.1]
end Go.Proofs.Ytjmmijobdcepmaa.Order
