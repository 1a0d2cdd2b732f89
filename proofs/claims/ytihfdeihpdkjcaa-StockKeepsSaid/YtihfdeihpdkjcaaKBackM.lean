/-
  Stock, as plain mathematics: what is held and released, and what is done with two things that are not the same. No program in it.
-/
import Derived.Test.YtihfdeihpdkjcaaKMath
namespace Go.Proofs.Ytihfdeihpdkjcaa.Goods.Stk
open Go

theorem mvR_fold (x : Rw) (n : Int) : mvR (src 1) (dst 1) n x = { x with f := x.f - n, h := x.h + n } := rfl
theorem mvR_back (x : Rw) (n : Int) : mvR (src 2) (dst 2) n (mvR (src 1) (dst 1) n x) = x := by
  refine Rw.same rfl rfl ?_ ?_ rfl rfl
  · show x.f - n + n = x.f; omega
  · show x.h + n - n = x.h; omega
theorem getL_of_set {x : Rw} {k : ByteArray} {l : List Rw} (hy : x.s = k) : getL k (setL x l) = some x := by subst hy; exact getL_setL
theorem set_set {x y : Rw} {l : List Rw} (hs : x.s = y.s) (hp : l.Pairwise (fun a b => ltR a b = true)) : setL x (setL y l) = setL x l := by
  refine rows_ext (setL_rises _ (setL_rises _ hp)) (setL_rises _ hp) fun k => ?_
  by_cases h : x.s = k
  · rw [getL_of_set h, getL_of_set h]
  · rw [getL_setL_ne h, getL_setL_ne (hs ▸ h), getL_setL_ne h]
theorem set_same {x : Rw} {l : List Rw} (hp : l.Pairwise (fun a b => ltR a b = true)) (h : getL x.s l = some x) : setL x l = l := by
  refine rows_ext (setL_rises _ hp) hp fun k => ?_
  by_cases hk : x.s = k
  · rw [getL_of_set hk, ← hk, h]
  · rw [getL_setL_ne hk]
theorem set_swap {x y : Rw} {l : List Rw} (hs : x.s ≠ y.s) (hp : l.Pairwise (fun a b => ltR a b = true)) : setL x (setL y l) = setL y (setL x l) := by
  refine rows_ext (setL_rises _ (setL_rises _ hp)) (setL_rises _ (setL_rises _ hp)) fun k => ?_
  by_cases h : x.s = k
  · have h2 : y.s ≠ k := fun e => hs (h.trans e.symm)
    rw [getL_of_set h, getL_setL_ne h2, getL_of_set h]
  · by_cases h2 : y.s = k
    · rw [getL_setL_ne h, getL_of_set h2, getL_of_set h2]
    · rw [getL_setL_ne h, getL_setL_ne h2, getL_setL_ne h2, getL_setL_ne h]
theorem set_at {x y : Rw} {k : ByteArray} {l : List Rw} (hp : l.Pairwise (fun a b => ltR a b = true)) (h : getL k l = some x) (hy : y.s = k) {i : Nat} (hi : i < l.length) (hn : l[i].s ≠ k) : ∃ h : i < (setL y l).length, (setL y l)[i] = l[i] := by
  obtain ⟨h1, h2, h3⟩ := pos_some hp h
  have e := h3 y hy
  have hne : posL k l ≠ i := fun e => by subst e; rw [h2] at hn; exact hn (getL_name h).1
  have hl : i < (l.set (posL k l) y).length := by rw [List.length_set]; exact hi
  have : (l.set (posL k l) y)[i] = l[i] := List.getElem_set_ne hne hl
  revert hl this
  rw [e]
  exact fun hl this => ⟨hl, this⟩

/-- What a move that is done tells. -/
theorem move_done {q : Nat} {l : List Rw} {k : ByteArray} {n : Int} (h : moveE q l k n = 0) : ∃ x, rightS l = true ∧ unitP n ∧ getL k l = some x ∧ ¬ fld (src q) x < n ∧ moveL q l k n = setL (mvR (src q) (dst q) n x) l ∧ moveO q l k n = setL (mvR (src q) (dst q) n x) l := by
  rcases moveE_ways q l k n with ⟨_, e⟩ | ⟨_, _, e⟩ | ⟨_, _, _, e⟩ | ⟨x, h1, h2, h3, ⟨_, e⟩ | ⟨h4, _, e⟩⟩
  · rw [h] at e; cases e
  · rw [h] at e; cases e
  · rw [h] at e; cases e
  · rw [h] at e; cases e
  · exact ⟨x, h1, h2, h3, h4, e, by unfold moveO; rw [if_pos h, e]⟩
theorem move_do {q : Nat} {l : List Rw} {k : ByteArray} {n : Int} {x : Rw} (h1 : rightS l = true) (h2 : unitP n) (h3 : getL k l = some x) (h4 : ¬ fld (src q) x < n) : moveE q l k n = 0 ∧ moveO q l k n = setL (mvR (src q) (dst q) n x) l := by
  have e : moveE q l k n = 0 := by unfold moveE; rw [h1, decide_eq_true h2, h3]; simp [h4]
  obtain ⟨y, _, _, g, _, _, e2⟩ := move_done e
  rw [h3] at g
  cases g
  exact ⟨e, e2⟩
/-- Held, then released, or shipped. -/
theorem back_all {l : List Rw} {k : ByteArray} {n : Int} (h : moveE 1 l k n = 0) : ∃ x, getL k l = some x ∧ rightS l = true ∧ unitP n ∧ ¬ x.f < n ∧ rightS (moveO 1 l k n) = true ∧ (moveO 1 l k n).length = l.length ∧
    moveE 2 (moveO 1 l k n) k n = 0 ∧ moveO 2 (moveO 1 l k n) k n = l ∧ moveE 3 (moveO 1 l k n) k n = 0 ∧ (moveO 3 (moveO 1 l k n) k n).length = l.length ∧
    (∀ i (hi : i < l.length), l[i].s ≠ k → (∃ h : i < (moveO 1 l k n).length, (moveO 1 l k n)[i] = l[i]) ∧ ∃ h : i < (moveO 3 (moveO 1 l k n) k n).length, (moveO 3 (moveO 1 l k n) k n)[i] = l[i]) := by
  obtain ⟨x, h1, h2, h3, h4, e1, e2⟩ := move_done h
  have hr : rightS (moveO 1 l k n) = true := by rw [e2, ← e1]; exact move_right h
  obtain ⟨hx, hxm⟩ := getL_name h3
  obtain ⟨_, hnm, hp, hadd⟩ := rightS_t.1 h1
  have hadx := hadd x hxm
  have hys : (mvR (src 1) (dst 1) n x).s = k := (mvR_s _ _ _ _).trans hx
  have hlen : (moveO 1 l k n).length = l.length := by rw [e2]; exact setL_len_some hp (r0 := x) (by rw [hys]; exact h3)
  have hg : getL k (moveO 1 l k n) = some (mvR (src 1) (dst 1) n x) := by rw [e2]; exact getL_of_set hys
  have hf : ¬ (mvR (src 1) (dst 1) n x).h < n := by
    rw [mvR_fold]
    have := hadx.2.2.1.1
    show ¬ x.h + n < n
    omega
  obtain ⟨a1, a2⟩ := move_do (q := 2) hr h2 hg hf
  obtain ⟨b1, b2⟩ := move_do (q := 3) hr h2 hg hf
  have hzs : (mvR (src 3) (dst 3) n (mvR (src 1) (dst 1) n x)).s = k := (mvR_s _ _ _ _).trans hys
  refine ⟨x, h3, h1, h2, h4, hr, hlen, a1, ?_, b1, ?_, fun i hi hn => ?_⟩
  · rw [a2, e2, mvR_back, set_set (by rw [mvR_s]) hp, set_same hp (by rw [hx]; exact h3)]
  · rw [b2, setL_len_some ((rightS_t.1 hr).2.2.1) (r0 := mvR (src 1) (dst 1) n x) (by rw [hzs]; exact hg), hlen]
  · obtain ⟨p1, p2⟩ := set_at hp h3 hys hi hn
    rw [← e2] at p1
    have p3 : (moveO 1 l k n)[i] = l[i] := by
      have : ∀ (m : List Rw) (e : m = setL (mvR (src 1) (dst 1) n x) l) (h : i < m.length), m[i] = l[i] := fun m e h => by subst e; exact p2
      exact this _ e2 p1
    refine ⟨⟨p1, p3⟩, ?_⟩
    rw [b2]
    obtain ⟨q1, q2⟩ := set_at (rightS_t.1 hr).2.2.1 hg hzs p1 (by rw [p3]; exact hn)
    exact ⟨q1, q2.trans p3⟩
/-- Refused: nothing is there. -/
theorem back_no {l : List Rw} {k : ByteArray} {n : Int} (h : moveE 1 l k n ≠ 0) : moveO 1 l k n = [] ∧ (rightS l = false ∨ (rightS l = true ∧ getL k l = none) ∨ ∃ x, rightS l = true ∧ getL k l = some x ∧ (n < 1 ∨ x.f < n)) := by
  refine ⟨by unfold moveO; rw [if_neg h], ?_⟩
  rcases moveE_ways 1 l k n with ⟨h1, _⟩ | ⟨h1, h2, _⟩ | ⟨h1, _, h3, _⟩ | ⟨x, h1, h2, h3, ⟨h4, _⟩ | ⟨_, e, _⟩⟩
  · exact .inl h1
  · cases hg : getL k l with
    | none => exact .inr (.inl ⟨h1, rfl⟩)
    | some x =>
      refine .inr (.inr ⟨x, h1, rfl, ?_⟩)
      have := ((rightS_t.1 h1).2.2.2 x (getL_name hg).2).2.1.2
      unfold unitP at h2
      omega
  · exact .inr (.inl ⟨h1, h3⟩)
  · exact .inr (.inr ⟨x, h1, h3, .inr h4⟩)
  · exact absurd e h
/-- Two that are not the same, in either order. -/
theorem apart_all {p q : Nat} {l : List Rw} {a b : ByteArray} {n m : Int} (hab : a ≠ b) (h1 : moveE p l a n = 0) (h2 : moveE q l b m = 0) :
    moveE q (moveO p l a n) b m = 0 ∧ moveE p (moveO q l b m) a n = 0 ∧ moveO q (moveO p l a n) b m = moveO p (moveO q l b m) a n ∧ rightS (moveO p l a n) = true ∧ rightS (moveO q l b m) = true ∧ rightS (moveO q (moveO p l a n) b m) = true := by
  obtain ⟨x, r1, u1, g1, f1, e1, o1⟩ := move_done h1
  obtain ⟨y, r2, u2, g2, f2, e2, o2⟩ := move_done h2
  have hp := (rightS_t.1 r1).2.2.1
  have ra : rightS (moveO p l a n) = true := by rw [o1, ← e1]; exact move_right h1
  have rb : rightS (moveO q l b m) = true := by rw [o2, ← e2]; exact move_right h2
  have hx : (mvR (src p) (dst p) n x).s = a := (mvR_s _ _ _ _).trans (getL_name g1).1
  have hy : (mvR (src q) (dst q) m y).s = b := (mvR_s _ _ _ _).trans (getL_name g2).1
  have ga : getL b (moveO p l a n) = some y := by rw [o1, getL_setL_ne (by rw [hx]; exact hab)]; exact g2
  have gb : getL a (moveO q l b m) = some x := by rw [o2, getL_setL_ne (by rw [hy]; exact hab.symm)]; exact g1
  obtain ⟨c1, c2⟩ := move_do (q := q) ra u2 ga f2
  obtain ⟨d1, d2⟩ := move_do (q := p) rb u1 gb f1
  refine ⟨c1, d1, ?_, ra, rb, ?_⟩
  · rw [c2, d2, o1, o2]
    exact set_swap (by rw [hx, hy]; exact hab.symm) hp
  · have := move_right c1
    obtain ⟨_, _, _, _, _, e3, o3⟩ := move_done c1
    rw [o3, ← e3]; exact this
theorem right_brief {l : List Rw} (h : rightS l = true) : l.length ≤ 8 ∧ ∀ x ∈ l, x.s.size ≤ 16 := ⟨(rightS_t.1 h).1, fun x hx => (name_size ((rightS_t.1 h).2.1 x hx)).2⟩
end Go.Proofs.Ytihfdeihpdkjcaa.Goods.Stk
