/-
  Orders, as plain mathematics: what the laws OrderEnds and OrderParts keep. No program in it.
-/
import Derived.Test.YtjmmijobdcepmaaOMath
namespace Go.Proofs.Ytjmmijobdcepmaa.Order
open Go.Proofs.Ytjmmijobdcepmaa.Pay (Py RightP UnitP TimeP GoodP)
open Go.Proofs.Ytjmmijobdcepmaa.Ask (As RightA)
open Go.Proofs.Ytjmmijobdcepmaa.Goods (nameB)

/-- An order as both laws have it come. -/
def ordX (k : ByteArray) (n p : Int) (sp : Bool) : Od := ⟨1, k, 0, 1, n, 0, p, 9, sp, 0, noL, Pay.noP, Ask.noA, false⟩
/-- One of which so many came. -/
def partO (k : ByteArray) (n p d : Int) (sp : Bool) : Od := ⟨1, k, 0, 1, n, d, p, 9, sp, 1, noL, ⟨n * p, d * p, 100, 1⟩, Ask.noA, false⟩
theorem small_mul {n p : Int} (hn : 1 ≤ n ∧ n ≤ 50) (hp : 1 ≤ p ∧ p ≤ 50) : 1 ≤ n * p ∧ n * p ≤ 2500 := by
  have a1 := Int.mul_le_mul hn.1 hp.1 (by omega) (by omega)
  have a2 := Int.mul_le_mul hn.2 hp.2 (by omega) (by omega)
  omega
theorem part_right {k : ByteArray} {n p d : Int} {sp : Bool} (hk : nameB k = true) (hn : 1 ≤ n ∧ n ≤ 50) (hp : 1 ≤ p ∧ p ≤ 50) (h0 : 0 ≤ d) (hd : d < n) : RightO (partO k n p d sp) := by
  have hs := small_mul hn hp
  have a1 : 0 ≤ d * p := Int.mul_nonneg h0 (by omega)
  have a2 : d * p ≤ n * p := Int.mul_le_mul_of_nonneg_right (by omega) (by omega)
  refine ⟨⟨⟨by simp [partO], by simp [partO], by simp [partO], by simp [partO], by simp [partO], by simp [partO]⟩, hk, ⟨hn.1, by simp only [partO]; omega⟩, ⟨hp.1, by simp only [partO]; omega⟩, h0, by simp only [partO]; omega, ⟨by simp [partO], by simp [partO]⟩,
    ⟨by simp only [partO]; omega, by simp only [partO]; omega, a1, a2, by simp [partO], by simp [partO], by simp [partO], by simp [partO]⟩, .inl ⟨rfl, rfl⟩, rfl, rfl⟩, .inl ⟨rfl, hd, ⟨rfl, rfl⟩, by simp [partO]⟩⟩
theorem ord_new {k : ByteArray} {n p : Int} {sp : Bool} (hk : nameB k = true) (hn : 1 ≤ n ∧ n ≤ 50) (hp : 1 ≤ p ∧ p ≤ 50) : newE (ordX k n p sp) 100 = 0 ∧ newO (ordX k n p sp) 100 = partO k n p 0 sp := by
  have hs := small_mul hn hp
  have e : newX (ordX k n p sp) 100 = partO k n p 0 sp := by
    unfold newX ordX partO
    simp
  rcases new_ways (ordX k n p sp) 100 with ⟨h, _⟩ | ⟨_, _, _, h, _⟩ | ⟨_, _, _, _, h, _⟩ | ⟨_, _, _, _, _, h1, h2⟩
  · exact absurd ⟨⟨hn.1, by simp only [ordX]; omega⟩, ⟨hp.1, by simp only [ordX]; omega⟩, by decide⟩ h
  · simp only [ordX] at h; omega
  · rw [e, rightB_t.2 (part_right hk hn hp (by omega) (by omega))] at h; cases h
  · exact ⟨h1, h2.trans e⟩

/-! ### OrderEnds -/
/-- How an order stands beside what came of it, and whether it was cut off. -/
def Ends (o : Od) (k : ByteArray) (n p : Int) (sp : Bool) (m : Int) (cut : Bool) : Prop := RightO o ∧ o.n = n ∧ o.p = p ∧ o.k = k ∧ o.sp = sp ∧ m = o.d * p ∧ o.py.u = 100 ∧ (o.ph < 3 → o.py.s = 1) ∧ (cut = true → 3 ≤ o.ph ∨ o.en = true)
theorem ends_new {k : ByteArray} {n p : Int} {sp : Bool} (hk : nameB k = true) (hn : 1 ≤ n ∧ n ≤ 50) (hp : 1 ≤ p ∧ p ≤ 50) : Ends (partO k n p 0 sp) k n p sp 0 false :=
  ⟨part_right hk hn hp (by omega) (by omega), rfl, rfl, rfl, rfl, by simp [partO], rfl, fun _ => rfl, fun h => by cases h⟩
theorem Ends.asks {o : Od} {k : ByteArray} {n p m : Int} {sp cut : Bool} (h : Ends o k n p sp m cut) : rightB o = true ∧ o.py.c = m ∧ m = o.d * p ∧ o.d ≤ n := by
  obtain ⟨hr, h1, h2, _, _, h3, _⟩ := h
  have hrr := hr
  obtain ⟨⟨_, _, _, _, q5, q6, _, _, _, q10, q11⟩, _⟩ := hr
  exact ⟨rightB_t.2 hrr, by rw [q11, h2, h3], h3, by omega⟩
theorem Ends.came_bd {o : Od} {k : ByteArray} {n p m : Int} {sp cut : Bool} (h : Ends o k n p sp m cut) (hn : n ≤ 50) (hp : p ≤ 50) : 0 ≤ m ∧ m ≤ 2500 := by
  obtain ⟨hr, h1, h2, _, _, h3, _⟩ := h
  have hs := hr.sums
  obtain ⟨⟨_, _, q3, q4, q5, q6, _⟩, _⟩ := hr
  rw [h1, h2] at hs
  have := small_mul (n := n) (p := p) ⟨by have := q3.1; omega, hn⟩ ⟨by have := q4.1; omega, hp⟩
  omega
/-- What it would take is sent. -/
theorem Ends.wants {o : Od} {k : ByteArray} {n p m : Int} {sp cut : Bool} (h : Ends o k n p sp m cut) (f t y : Int) (hy : 1 ≤ y ∧ y ≤ 1099511627776) (hw : 0 < wants o f t) :
    wants o f t ≤ f ∧ wants o f t ≤ lack o ∧ (sp = false → wants o f t = lack o) ∧ wants o f t ≤ 1073741824 ∧ sendE o ⟨k, wants o f t, wants o f t, y⟩ = 0 := by
  obtain ⟨hr, h1, h2, h3, h4, _, _, h6, h7⟩ := h
  obtain ⟨l1, l2, l3⟩ := lack_bd hr
  have hgo : RightO o → o.ph = 1 → ∀ x, 1 ≤ x → x ≤ o.n - o.d → sendE o ⟨k, x, x, y⟩ = 0 := by
    intro hr hph x hx hx2
    have hs : o.py.s ≠ 3 := by have := h6 (by omega); omega
    have hb := hr.1
    have hx3 : rightB (sendX o ⟨k, x, x, y⟩) = true := rightB_t.2 ⟨hb, .inr (.inl ⟨rfl, ⟨by show nameB k = true; rw [← h3]; exact hb.2.1, ⟨hx, by simp only [sendX]; omega⟩, hx, by simp only [sendX]; omega, hy.1, hy.2, fun _ => rfl⟩, hs⟩)⟩
    rcases send_ways o ⟨k, x, x, y⟩ with ⟨e, _⟩ | ⟨_, e, _⟩ | ⟨_, _, e, _⟩ | ⟨_, _, _, e, _⟩
    · rw [rightB_t.2 hr] at e; cases e
    · exact absurd hph e
    · rw [hx3] at e; cases e
    · exact e
  rcases wants_ways o f t with ⟨_, e⟩ | ⟨_, hph, _, hf, hl, e⟩ | ⟨_, hph, _, hf, hl, hs, e⟩ | ⟨_, hph, _, hf, hl, hs, e⟩
  · omega
  · rw [e] at hw ⊢
    exact ⟨hl, by omega, fun _ => l1.symm, by omega, hgo hr hph _ (by omega) (by omega)⟩
  · rw [e] at hw ⊢
    exact ⟨by omega, by omega, fun e2 => (by rw [h4] at hs; rw [hs] at e2; cases e2), by omega, hgo hr hph _ (by omega) (by omega)⟩
  · omega
theorem Ends.sent {o : Od} {k : ByteArray} {n p m : Int} {sp cut : Bool} {l : Ld} (h : Ends o k n p sp m cut) (hz : sendE o l = 0) : Ends (sendO o l) k n p sp m cut := by
  obtain ⟨hr, h1, h2, h3, h4, h5, h8, h6, h7⟩ := h
  obtain ⟨_, hph, hr2, e⟩ := send_right hz
  refine ⟨hr2, ?_⟩
  rw [e]
  refine ⟨h1, h2, h3, h4, h5, h8, fun _ => h6 (by omega), fun hc => ?_⟩
  exfalso
  rcases h7 hc with h | h
  · omega
  · obtain ⟨_, q⟩ := hr
    rcases q with q | q | q | q | q
    · have := q.2.2.1.2; rw [h] at this; cases this
    · omega
    · omega
    · omega
    · omega
theorem Ends.came {o : Od} {k : ByteArray} {n p m : Int} {sp cut : Bool} (h : Ends o k n p sp m cut) (hz : cameE o = 0) : Ends (cameO o) k n p sp (m + cameN o) cut ∧ (o.en = true → 3 ≤ (cameO o).ph) := by
  obtain ⟨hr, h1, h2, h3, h4, h5, h8, h6, h7⟩ := h
  obtain ⟨_, hph, hr2, e, en⟩ := came_right hz
  have hlast : o.en = true → 3 ≤ camePh o := by
    intro he
    unfold camePh
    rw [he]
    split
    · omega
    · simp
  refine ⟨⟨hr2, ?_⟩, by rw [e]; exact hlast⟩
  rw [e, en]
  refine ⟨h1, h2, h3, h4, ?_, h8, fun hp => ?_, fun hc => .inl (hlast (by rcases h7 hc with h | h; omega; exact h))⟩
  · rw [h5, ← h2]
    simp only [cameX]
    rw [Int.add_mul]
  · have hp1 : camePh o = 1 := by
      have : camePh o < 3 := hp
      unfold camePh at this ⊢
      split at this
      · omega
      · split at this
        · omega
        · rename_i a b; rw [if_neg a, if_neg b]
    simp only [cameX]
    rw [if_pos hp1]
    exact h6 (by omega)
theorem Ends.ended {o : Od} {k : ByteArray} {n p m : Int} {sp cut : Bool} (h : Ends o k n p sp m cut) (hz : endE o = 0) : Ends (endO o) k n p sp m true := by
  obtain ⟨hr, h1, h2, h3, h4, h5, h8, h6, h7⟩ := h
  rcases end_ways o with ⟨_, e, _⟩ | ⟨_, _, e, _⟩ | ⟨_, hp, _, _, e⟩ | ⟨_, hp, _, _, e⟩
  · rw [hz] at e; cases e
  · rw [hz] at e; cases e
  · refine ⟨(end_right hz).2.1, ?_⟩
    rw [e]
    exact ⟨h1, h2, h3, h4, h5, h8, fun _ => h6 (by omega), fun _ => .inr rfl⟩
  · have h3' := (end_right hz).2.2.2.2.1
    refine ⟨(end_right hz).2.1, ?_⟩
    rw [e] at h3' ⊢
    refine ⟨h1, h2, h3, h4, h5, h8, fun hq => ?_, fun _ => h3'.elim (fun g => .inr g.2) .inl⟩
    rcases h3' with g | g
    · have := g.1; simp only at this hq; split at this <;> omega
    · omega
/-- Refused to be cut off: it was. -/
theorem Ends.was {o : Od} {k : ByteArray} {n p m : Int} {sp cut : Bool} (h : Ends o k n p sp m cut) (hz : endE o ≠ 0) : Ends o k n p sp m true := by
  obtain ⟨hr, h1, h2, h3, h4, h5, h8, h6, h7⟩ := h
  refine ⟨hr, h1, h2, h3, h4, h5, h8, h6, fun _ => ?_⟩
  rcases end_ways o with ⟨e, _⟩ | ⟨_, e, _⟩ | ⟨_, _, _, e, _⟩ | ⟨_, _, _, e, _⟩
  · rw [rightB_t.2 hr] at e; cases e
  · exact e
  · exact absurd e hz
  · exact absurd e hz
/-- Cut off, and with what was sent come, it is at its end. -/
theorem Ends.last {o : Od} {k : ByteArray} {n p m : Int} {sp : Bool} (h : Ends o k n p sp m true) : (cameE o = 0 → 3 ≤ (cameO o).ph ∧ RightO (cameO o)) ∧ (cameE o ≠ 0 → 3 ≤ o.ph ∧ RightO o) := by
  constructor
  · intro hz
    have hp := (came_right hz).2.1
    have hr := (came_right hz).2.2.1
    have h2 := (h.came hz).2
    obtain ⟨_, _, _, _, _, _, _, _, h7⟩ := h
    exact ⟨h2 (by rcases h7 rfl with g | g; omega; exact g), hr⟩
  · intro hz
    obtain ⟨hr, _, _, _, _, _, _, _, h7⟩ := h
    refine ⟨?_, hr⟩
    have h2 : o.ph ≠ 2 := by
      intro e
      rcases came_ways o with ⟨g, _⟩ | ⟨_, g, _⟩ | ⟨_, _, g, _⟩
      · rw [rightB_t.2 hr] at g; cases g
      · exact g e
      · exact hz g
    rcases h7 rfl with g | g
    · exact g
    · obtain ⟨_, q⟩ := hr
      rcases q with q | q | q | q | q
      · have := q.2.2.1.2; rw [g] at this; cases this
      · omega
      · omega
      · omega
      · omega
/-- What is not open was left as it was. -/
theorem Ends.shut {o : Od} {k : ByteArray} {n p m : Int} {sp cut : Bool} (h : Ends o k n p sp m cut) (ho : openB o = false) : 3 ≤ o.ph := by
  unfold openB at ho
  rw [h.asks.1, Bool.true_and] at ho
  have := of_decide_eq_false ho
  omega

/-! ### OrderParts -/
/-- All came. -/
def doneO (k : ByteArray) (n p : Int) (sp : Bool) : Od := ⟨1, k, 0, 1, n, n, p, 9, sp, 3, noL, ⟨n * p, n * p, 100, 3⟩, Ask.noA, false⟩
theorem part_wants {k : ByteArray} {n p d f : Int} (hk : nameB k = true) (hn : 1 ≤ n ∧ n ≤ 50) (hp : 1 ≤ p ∧ p ≤ 50) (h0 : 0 ≤ d) (hd : d < n) (hf : 0 ≤ f) : wants (partO k n p d true) f 5 = min f (n - d) ∧ lack (partO k n p d true) = n - d := by
  have hr := part_right (sp := true) hk hn hp h0 hd
  refine ⟨?_, (lack_bd hr).1⟩
  have hg : GoodP (partO k n p d true).py 5 := ⟨hr.1.2.2.2.2.2.2.2.1, rfl, by simp [partO]⟩
  rcases wants_ways (partO k n p d true) f 5 with ⟨e1, e2⟩ | ⟨_, _, _, e1, e, e2⟩ | ⟨_, _, _, e1, e, _, e2⟩ | ⟨_, _, _, _, _, e, _⟩
  · rw [e2]
    have : ¬ 1 ≤ f := fun h => e1 ⟨hr, rfl, hg, h⟩
    omega
  · rw [e2]; simp only [partO] at e ⊢; omega
  · rw [e2]; simp only [partO] at e ⊢; omega
  · cases e
/-- A part is sent, and comes. -/
theorem part_step {k : ByteArray} {n p d m y : Int} (hk : nameB k = true) (hn : 1 ≤ n ∧ n ≤ 50) (hp : 1 ≤ p ∧ p ≤ 50) (h0 : 0 ≤ d) (h1 : 1 ≤ m) (h2 : m ≤ n - d) (hy : 1 ≤ y ∧ y ≤ 1099511627776) :
    sendE (partO k n p d true) ⟨k, m, m, y⟩ = 0 ∧ cameE (sendO (partO k n p d true) ⟨k, m, m, y⟩) = 0 ∧ cameN (sendO (partO k n p d true) ⟨k, m, m, y⟩) = m * p ∧
    cameO (sendO (partO k n p d true) ⟨k, m, m, y⟩) = if d + m = n then doneO k n p true else partO k n p (d + m) true := by
  have hr := part_right (sp := true) hk hn hp h0 (show d < n by omega)
  have hx : RightO (sendX (partO k n p d true) ⟨k, m, m, y⟩) := ⟨hr.1, .inr (.inl ⟨rfl, ⟨hk, ⟨h1, by simp only [sendX]; omega⟩, h1, h2, hy.1, hy.2, fun _ => rfl⟩, by simp [sendX, partO]⟩)⟩
  have hz : sendE (partO k n p d true) ⟨k, m, m, y⟩ = 0 := by
    unfold sendE
    exact (if_neg (by rw [rightB_t.2 hr]; simp)).trans ((if_pos rfl).trans (if_pos (rightB_t.2 hx)))
  obtain ⟨_, _, _, es⟩ := send_right hz
  rw [es]
  have hz2 : cameE (sendX (partO k n p d true) ⟨k, m, m, y⟩) = 0 := by
    unfold cameE
    exact (if_neg (by rw [rightB_t.2 hx]; simp)).trans (if_pos rfl)
  obtain ⟨_, _, _, ec, en⟩ := came_right hz2
  refine ⟨hz, hz2, en, ?_⟩
  rw [ec]
  by_cases hd : d + m = n
  · rw [if_pos hd]
    have hp3 : camePh (sendX (partO k n p d true) ⟨k, m, m, y⟩) = 3 := if_pos hd
    unfold cameX
    rw [hp3]
    unfold doneO sendX partO
    simp only
    rw [← Int.add_mul, hd]
    rfl
  · rw [if_neg hd]
    have hp1 : camePh (sendX (partO k n p d true) ⟨k, m, m, y⟩) = 1 := by
      unfold camePh
      exact (if_neg hd).trans (if_neg (by simp [sendX, partO]))
    unfold cameX
    rw [hp1]
    unfold sendX partO
    simp only
    rw [← Int.add_mul]
    rfl
theorem done_tells {k : ByteArray} {n p : Int} {sp : Bool} : openB (doneO k n p sp) = false := by
  unfold openB
  rw [decide_eq_false (by simp [doneO]), Bool.and_false]
theorem part_open {k : ByteArray} {n p d : Int} {sp : Bool} (hk : nameB k = true) (hn : 1 ≤ n ∧ n ≤ 50) (hp : 1 ≤ p ∧ p ≤ 50) (h0 : 0 ≤ d) (hd : d < n) : openB (partO k n p d sp) = true := by
  unfold openB
  rw [rightB_t.2 (part_right hk hn hp h0 hd), decide_eq_true (by simp [partO])]
  rfl
end Go.Proofs.Ytjmmijobdcepmaa.Order
