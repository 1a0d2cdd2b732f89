/-
  What is told as time goes on, as plain mathematics: how an outbox stands beside the keys that are open and the times at which each was told last.
-/
import Derived.Test.YtlhepocjcdbhjaaUMath
namespace Go.Proofs.Ytlhepocjcdbhjaa.Outbox

/-- Behind i acts: so it stands, at time n; these keys are open, so many; each was told at. -/
structure Tl (l : List Ot) (t n : Int) (i : Nat) (op hp : Int → Bool) (m : Nat) (td : Int → Int) : Prop where
  right : RightP l t
  few : l.length ≤ i
  last : t ≤ i
  time : 0 ≤ n ∧ n ≤ 19 * i
  opn : ∀ y, op y = hp y
  has : ∀ y, hp y = true ↔ ∃ x ∈ l, x.y = y
  cnt : m = l.length
  due : ∀ x ∈ l, td x.y = x.d - 10
  bd : ∀ y, -10 ≤ td y ∧ td y ≤ 570
theorem Tl.start : Tl [] 0 0 0 (fun _ => false) (fun _ => false) 0 (fun _ => 0) :=
  ⟨⟨by decide, ⟨by decide, by decide⟩, fun x h => (by cases h), List.Pairwise.nil⟩, Nat.le_refl _, by decide, ⟨by decide, by decide⟩, fun _ => rfl, fun y => ⟨fun h => (by cases h), fun ⟨x, h, _⟩ => (by cases h)⟩, rfl, fun x h => (by cases h), fun y => ⟨by decide, by decide⟩⟩
variable {l : List Ot} {t n : Int} {i : Nat} {op hp : Int → Bool} {m : Nat} {td : Int → Int}
theorem Tl.later (h : Tl l t n i op hp m td) {b : Int} (hb : 0 ≤ b ∧ b ≤ 19) : Tl l t (n + b) (i + 1) op hp m td :=
  ⟨h.right, by have := h.few; omega, by have := h.last; omega, by have := h.time; omega, h.opn, h.has, h.cnt, h.due, h.bd⟩
theorem Tl.shut (h : Tl l t n i op hp m td) {y : Int} (hy : t < y) : hp y = false := by
  cases e : hp y with
  | false => rfl
  | true =>
    obtain ⟨x, hx, rfl⟩ := (h.has y).1 e
    have := (h.right.2.2.1 x hx).2
    omega
/-- Something is put (at most once an act). -/
theorem Tl.put (h : Tl l t n i op hp m td) (hi : i < 30) {k o : Int} (hk : 1 ≤ k ∧ k ≤ 3) (ho : 1 ≤ o ∧ o ≤ 5) (hf : find l k o = none) {n' : Int} (hn : 0 ≤ n' ∧ n' ≤ 570 ∧ n' ≤ 19 * (i + 1 : Nat)) :
    Tl (Outbox.put l t k o n') (t + 1) n' (i + 1) (fun z => if z = t + 1 then true else op z) (fun z => decide (z = t + 1) || hp z) (if hp (t + 1) = true then m else m + 1) (fun z => if z = t + 1 then n' - 10 else td z) := by
  have h1 := h.few
  have h2 := h.last
  have hs := h.shut (y := t + 1) (by omega)
  refine ⟨put_right h.right (by omega) (by omega) hk ⟨ho.1, by omega⟩ ⟨hn.1, by omega⟩ hf, by unfold Outbox.put; rw [List.length_append]; show l.length + 1 ≤ i + 1; omega, by omega, ⟨hn.1, hn.2.2⟩, fun y => ?_, fun y => ?_, ?_, fun x hx => ?_, fun y => ?_⟩
  · by_cases e : y = t + 1
    · rw [if_pos e, decide_eq_true e]; rfl
    · rw [if_neg e, decide_eq_false e, h.opn]; rfl
  · rw [Bool.or_eq_true, decide_eq_true_eq, h.has]
    unfold Outbox.put
    constructor
    · rintro (e | ⟨x, hx, e⟩)
      · exact ⟨_, List.mem_append_right _ (List.mem_singleton.2 rfl), e.symm⟩
      · exact ⟨x, List.mem_append_left _ hx, e⟩
    · rintro ⟨x, hx, e⟩
      rcases List.mem_append.1 hx with hx | hx
      · exact .inr ⟨x, hx, e⟩
      · obtain rfl := List.mem_singleton.1 hx
        exact .inl e.symm
  · rw [hs, if_neg (by decide), h.cnt]
    unfold Outbox.put
    rw [List.length_append]
    rfl
  · unfold Outbox.put at hx
    rcases List.mem_append.1 hx with hx | hx
    · have := (h.right.2.2.1 x hx).2
      rw [if_neg (by omega)]
      exact h.due x hx
    · obtain rfl := List.mem_singleton.1 hx
      rw [if_pos rfl]
  · have := h.bd y
    split <;> omega
theorem Tl.get_iff (h : Tl l t n i op hp m td) (y : Int) : (get l y).isSome = hp y := by
  cases e : get l y with
  | none =>
    cases e2 : hp y with
    | false => rfl
    | true =>
      obtain ⟨x, hx, e3⟩ := (h.has y).1 e2
      exact absurd e3 (get_none.1 e x hx)
  | some x =>
    have := get_some e
    rw [(h.has y).2 ⟨x, this.1, this.2⟩]
    rfl
/-- One is done. -/
theorem Tl.done (h : Tl l t n i op hp m td) {y : Int} {x : Ot} (hx : get l y = some x) :
    Tl (Outbox.done l y) t n i (fun z => if z = y then false else op z) (fun z => !decide (z = y) && hp z) (if hp y = true then m - 1 else m) td := by
  have hl := done_length h.right hx
  have hg := get_some hx
  refine ⟨done_right h.right y, by have := h.few; omega, h.last, h.time, fun z => ?_, fun z => ?_, ?_, fun x hx => h.due x (mem_done.1 hx).1, h.bd⟩
  · by_cases e : z = y
    · rw [if_pos e, decide_eq_true e]; rfl
    · rw [if_neg e, decide_eq_false e, h.opn]; rfl
  · rw [Bool.and_eq_true, Bool.not_eq_true', decide_eq_false_iff_not, h.has]
    constructor
    · rintro ⟨e, x, hx, e2⟩
      exact ⟨x, mem_done.2 ⟨hx, fun e3 => e (by rw [← e2, e3])⟩, e2⟩
    · rintro ⟨x, hx, e2⟩
      have := mem_done.1 hx
      exact ⟨fun e => this.2 (by rw [e2, e]), x, this.1, e2⟩
  · rw [if_pos ((h.has y).2 ⟨x, hg.1, hg.2⟩), h.cnt]
    omega
/-- The keys of these; told at n, if of these. -/
def seenF (s : List Ot) (z : Int) : Bool := s.any (fun x => decide (z = x.y))
def tdF (s : List Ot) (n : Int) (td : Int → Int) (z : Int) : Int := if seenF s z = true then n else td z
theorem seenF_t {s : List Ot} {z : Int} : seenF s z = true ↔ ∃ x ∈ s, z = x.y := by
  unfold seenF
  rw [List.any_eq_true]
  simp only [decide_eq_true_eq]
theorem seenF_nil (z : Int) : seenF [] z = false := rfl
theorem tdF_nil (n : Int) (td : Int → Int) (z : Int) : tdF [] n td z = td z := rfl
theorem seenF_take (s : List Ot) {j : Nat} (hj : j < s.length) (z : Int) : seenF (s.take (j + 1)) z = (decide (z = s[j].y) || seenF (s.take j) z) := by
  unfold seenF
  rw [List.take_succ_eq_append_getElem hj, List.any_append, List.any_cons, List.any_nil, Bool.or_false, Bool.or_comm]
theorem tdF_take (s : List Ot) {j : Nat} (hj : j < s.length) (n : Int) (td : Int → Int) (z : Int) : tdF (s.take (j + 1)) n td z = if z = s[j].y then n else tdF (s.take j) n td z := by
  unfold tdF
  rw [seenF_take s hj]
  by_cases e : z = s[j].y
  · rw [decide_eq_true e, Bool.true_or, if_pos rfl, if_pos e]
  · rw [decide_eq_false e, Bool.false_or, if_neg e]
/-- One that is told: it is open, its time has come, it was not told yet. -/
theorem Tl.tells (h : Tl l t n i op hp m td) {n' : Int} {j : Nat} (hj : j < (told l n').length) : op (told l n')[j].y = true ∧ tdF ((told l n').take j) n' td (told l n')[j].y + 10 ≤ n' ∧ seenF ((told l n').take j) (told l n')[j].y = false := by
  have hm := mem_told.1 (List.getElem_mem hj)
  have hs : seenF ((told l n').take j) (told l n')[j].y = false := by
    cases e : seenF ((told l n').take j) (told l n')[j].y with
    | false => rfl
    | true =>
      obtain ⟨x, hx, e2⟩ := seenF_t.1 e
      obtain ⟨q, hq, rfl⟩ := List.mem_iff_getElem.1 hx
      rw [List.getElem_take] at e2
      rw [List.length_take] at hq
      have hp := List.pairwise_iff_getElem.1 (h.right.2.2.2.sublist (show (Outbox.told l n').Sublist l from List.filter_sublist)) q j (by show q < (told l n').length; omega) hj (by omega)
      have : (told l n')[q].y < (told l n')[j].y := hp.1
      omega
  refine ⟨by rw [h.opn]; exact (h.has _).2 ⟨_, hm.1, rfl⟩, ?_, hs⟩
  unfold tdF
  rw [hs, if_neg (by decide), h.due _ hm.1]
  omega
/-- One that is open and was not told: its time has not come. -/
theorem Tl.waits (h : Tl l t n i op hp m td) {n' y : Int} (hy : hp y = true) (hs : seenF (told l n') y = false) : n' < tdF (told l n') n' td y + 10 := by
  obtain ⟨x, hx, rfl⟩ := (h.has y).1 hy
  unfold tdF
  rw [hs, if_neg (by decide), h.due x hx]
  by_cases e : x.d ≤ n'
  · rw [seenF_t.2 ⟨x, mem_told.2 ⟨hx, e⟩, rfl⟩] at hs
    cases hs
  · omega
/-- It has told. -/
theorem Tl.told (h : Tl l t n i op hp m td) (hn : n ≤ 570) : Tl (Outbox.tell l n) t n i op hp m (tdF (Outbox.told l n) n td) := by
  refine ⟨tell_right h.right ⟨h.time.1, by omega⟩, by unfold tell; rw [List.length_map]; exact h.few, h.last, h.time, h.opn, fun y => ?_, by unfold tell; rw [List.length_map]; exact h.cnt, fun x hx => ?_, fun y => ?_⟩
  · rw [h.has]
    unfold tell
    constructor
    · rintro ⟨x, hx, e⟩
      exact ⟨_, List.mem_map_of_mem hx, by rw [later_y]; exact e⟩
    · rintro ⟨x, hx, e⟩
      obtain ⟨z, hz, rfl⟩ := List.mem_map.1 hx
      rw [later_y] at e
      exact ⟨z, hz, e⟩
  · unfold tell at hx
    obtain ⟨z, hz, rfl⟩ := List.mem_map.1 hx
    have hd := h.due z hz
    rw [later_y]
    unfold tdF Outbox.later
    by_cases e : z.d ≤ n
    · rw [if_pos e, seenF_t.2 ⟨z, mem_told.2 ⟨hz, e⟩, rfl⟩, if_pos rfl]
      show n = next n - 10
      unfold next
      rw [if_pos (by omega)]
      omega
    · rw [if_neg e]
      have hs : seenF (Outbox.told l n) z.y = false := by
        cases e2 : seenF (Outbox.told l n) z.y with
        | false => rfl
        | true =>
          obtain ⟨x, hx, e3⟩ := seenF_t.1 e2
          have hm := mem_told.1 hx
          exact absurd (by rw [key_once h.right hz hm.1 e3]; exact hm.2) e
      rw [hs, if_neg (by decide)]
      exact hd
  · have h1 := h.bd y
    have h2 := h.time
    unfold tdF
    split <;> omega
end Go.Proofs.Ytlhepocjcdbhjaa.Outbox
