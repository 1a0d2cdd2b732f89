/-
  What coming in and moving makes of each row's numbers. No program in it.
-/
import Derived.Test.YtihfdeihpdkjcaaKBackM
import Derived.Test.YtihfdeihpdkjcaaKFind
namespace Go.Proofs.Ytihfdeihpdkjcaa.Goods.Stk

/-- A number of the row of a name, or none. -/
def numL (c : Nat) (l : List Rw) (s : ByteArray) : Int := match getL s l with
  | none => 0
  | some x => fld c x
theorem numL_set (c : Nat) (x : Rw) (l : List Rw) (s : ByteArray) : numL c (setL x l) s = if s = x.s then fld c x else numL c l s := by
  unfold numL
  by_cases h : x.s = s
  · subst h
    rw [getL_setL, if_pos rfl]
  · rw [getL_setL_ne h, if_neg (fun e => h e.symm)]
theorem hasR_set (x : Rw) (l : List Rw) (s : ByteArray) : hasR s (setL x l) = (decide (s = x.s) || hasR s l) := by
  unfold hasR
  by_cases h : x.s = s
  · subst h
    rw [getL_setL, decide_eq_true rfl]
    rfl
  · rw [getL_setL_ne h, decide_eq_false (fun e => h e.symm)]
    rfl
theorem hasR_some {s : ByteArray} {l : List Rw} {x : Rw} (h : getL s l = some x) : hasR s l = true := by unfold hasR; rw [h]; rfl
theorem hasR_none {s : ByteArray} {l : List Rw} (h : getL s l = none) : hasR s l = false := by unfold hasR; rw [h]; rfl
theorem numL_some {c : Nat} {s : ByteArray} {l : List Rw} {x : Rw} (h : getL s l = some x) : numL c l s = fld c x := by unfold numL; rw [h]
theorem numL_none {c : Nat} {s : ByteArray} {l : List Rw} (h : getL s l = none) : numL c l s = 0 := by unfold numL; rw [h]
theorem numL_mem {c : Nat} {l : List Rw} (hl : rightS l = true) {x : Rw} (hx : x ∈ l) : numL c l x.s = fld c x := numL_some (getL_of (rightS_t.1 hl).2.2.1 hx rfl)

/-- A function that is turned at one place. -/
def turn (f : ByteArray → Int) (s : ByteArray) (v : Int) : ByteArray → Int := fun t => if t = s then v else f t
theorem turn_same {f : ByteArray → Int} {s : ByteArray} {v : Int} (h : f s = v) : turn f s v = f := by
  funext t
  unfold turn
  split
  · rename_i e; rw [e, h]
  · rfl

/-- Something comes in. -/
theorem recv_keeps {l : List Rw} {s : ByteArray} {n : Int} (h : recvE l s n = 0) : unitP n ∧ 0 ≤ numL 1 l s ∧ numL 1 l s + n ≤ 1073741824 ∧ rightS (recvO l s n) = true ∧ numL 1 (recvO l s n) = turn (numL 1 l) s (numL 1 l s + n) ∧ numL 4 (recvO l s n) = numL 4 l ∧ numL 5 (recvO l s n) = numL 5 l ∧
    (fun t => hasR t (recvO l s n)) = (fun t => decide (t = s) || hasR t l) ∧ (recvO l s n).length = if hasR s l then l.length else l.length + 1 := by
  have hr := recv_right h
  have ho : recvO l s n = recvL l s n := by unfold recvO; rw [if_pos h]
  rcases recvE_ways l s n with ⟨_, e⟩ | ⟨_, _, e⟩ | ⟨_, _, _, e⟩ | ⟨_, _, _, _, _, e⟩ | ⟨h1, h2, hk, h3, h4, _, e⟩ | ⟨x, h1, h2, hk, h3, ⟨_, e⟩ | ⟨h4, _, e⟩⟩
  · rw [h] at e; cases e
  · rw [h] at e; cases e
  · rw [h] at e; cases e
  · rw [h] at e; cases e
  · rw [e] at hr
    rw [ho, e]
    have u := h2.2
    refine ⟨h2, by rw [numL_none h3]; exact Int.le_refl _, by rw [numL_none h3]; omega, hr, ?_, ?_, ?_, ?_, ?_⟩
    · funext t
      rw [numL_set, numL_none h3]
      unfold turn
      simp only [inR, zeroR, fld]
    · funext t
      rw [numL_set]
      simp only [inR, zeroR, fld]
      split
      · rename_i e; rw [e, numL_none h3]
      · rfl
    · funext t
      rw [numL_set]
      simp only [inR, zeroR, fld]
      split
      · rename_i e; rw [e, numL_none h3]
      · rfl
    · funext t
      rw [hasR_set]
      rfl
    · rw [hasR_none h3, setL_len_none (by exact h3)]
      rfl
  · rw [h] at e; cases e
  · rw [e] at hr
    rw [ho, e]
    have a := (rightS_t.1 h1).2.2.2 _ (getL_name h3).2
    have es := (getL_name h3).1
    refine ⟨h2, by rw [numL_some h3]; exact a.1.1, by rw [numL_some h3]; simp only [fld]; omega, hr, ?_, ?_, ?_, ?_, ?_⟩
    · funext t
      rw [numL_set, numL_some h3]
      unfold turn
      simp only [inR, fld, es]
    · funext t
      rw [numL_set]
      simp only [inR, fld, es]
      split
      · rename_i e; rw [e, numL_some h3]; rfl
      · rfl
    · funext t
      rw [numL_set]
      simp only [inR, fld, es]
      split
      · rename_i e; rw [e, numL_some h3]; rfl
      · rfl
    · funext t
      rw [hasR_set]
      simp only [inR, es]
    · rw [hasR_some h3, setL_len_some (r0 := x) (rightS_t.1 h1).2.2.1 (by show getL x.s l = _; rw [es]; exact h3)]
      rfl

/-- Something moves: by the kind. -/
def gonK (q : Nat) (l : List Rw) (s : ByteArray) (n : Int) : ByteArray → Int := if q = 3 then turn (numL 4 l) s (numL 4 l s + n) else numL 4 l
def losK (q : Nat) (l : List Rw) (s : ByteArray) (n : Int) : ByteArray → Int := if q = 4 then turn (numL 5 l) s (numL 5 l s + n) else numL 5 l
theorem move_keeps {q : Nat} (hq : q = 1 ∨ q = 2 ∨ q = 3 ∨ q = 4) {l : List Rw} {s : ByteArray} {n : Int} (h : moveE q l s n = 0) : unitP n ∧ (0 ≤ numL 4 l s ∧ numL 4 l s ≤ 1073741824) ∧ (0 ≤ numL 5 l s ∧ numL 5 l s ≤ 1073741824) ∧ rightS (moveO q l s n) = true ∧ numL 1 (moveO q l s n) = numL 1 l ∧ numL 4 (moveO q l s n) = gonK q l s n ∧ numL 5 (moveO q l s n) = losK q l s n ∧
    (fun t => hasR t (moveO q l s n)) = (fun t => hasR t l) ∧ (moveO q l s n).length = l.length := by
  have hr := move_right h
  obtain ⟨x, h1, h2, h3, h4, e, ho⟩ := move_done h
  rw [e] at hr
  rw [ho]
  have a := (rightS_t.1 h1).2.2.2 _ (getL_name h3).2
  have es := (getL_name h3).1
  have ms : (mvR (src q) (dst q) n x).s = s := by rw [mvR_s, es]
  refine ⟨h2, by rw [numL_some h3]; exact a.2.2.2.1, by rw [numL_some h3]; exact a.2.2.2.2.1, hr, ?_, ?_, ?_, ?_, ?_⟩
  · funext t
    rw [numL_set, ms]
    split
    · rename_i et
      rw [et, numL_some h3]
      rcases hq with rfl | rfl | rfl | rfl <;> rfl
    · rfl
  · funext t
    rw [numL_set, ms]
    unfold gonK turn
    rw [numL_some h3]
    split
    · rename_i et
      rcases hq with rfl | rfl | rfl | rfl <;> simp [et, numL_some h3, mvR, src, dst, put, fld]
    · rename_i et
      rcases hq with rfl | rfl | rfl | rfl <;> simp [et]
  · funext t
    rw [numL_set, ms]
    unfold losK turn
    rw [numL_some h3]
    split
    · rename_i et
      rcases hq with rfl | rfl | rfl | rfl <;> simp [et, numL_some h3, mvR, src, dst, put, fld]
    · rename_i et
      rcases hq with rfl | rfl | rfl | rfl <;> simp [et]
  · funext t
    rw [hasR_set, ms]
    by_cases e : t = s
    · rw [e, hasR_some h3]; simp
    · rw [decide_eq_false e]; rfl
  · exact setL_len_some (r0 := x) (rightS_t.1 h1).2.2.1 (by rw [ms]; exact h3)
end Go.Proofs.Ytihfdeihpdkjcaa.Goods.Stk
