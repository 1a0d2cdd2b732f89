/-
  Sorted waits: put in one by one; what is sorted hangs on the waits alone. Plain mathematics.
-/
import Derived.Test.YtdgenemgegpkdaaQTop
namespace Go.Proofs.Ytdgenemgegpkdaa.Queue
open Go.ChangeShapes Go.WideShapes Go.ChangeAt Go.RowKit Go.Lib Go.Sort

/-- Ahead of which one of a row it comes. -/
def pos (x : Wt) : List Wt → Nat
  | [] => 0
  | a :: r => if ltB x a = true then 0 else pos x r + 1
theorem pos_le (x : Wt) : ∀ l, pos x l ≤ l.length
  | [] => Nat.le_refl _
  | a :: r => by unfold pos; split; exact Nat.zero_le _; exact Nat.succ_le_succ (pos_le x r)
theorem pos_lt (x : Wt) : ∀ (l : List Wt) (j : Nat) (h : j < l.length), j < pos x l → ltB x l[j] = false
  | a :: r, 0, h, hj => by
    unfold pos at hj
    cases hc : ltB x a with
    | true => rw [hc, if_pos rfl] at hj; omega
    | false => exact hc
  | a :: r, j + 1, h, hj => by
    unfold pos at hj
    cases hc : ltB x a with
    | true => rw [hc, if_pos rfl] at hj; omega
    | false =>
      rw [hc, if_neg (by decide)] at hj
      exact pos_lt x r j (by simpa using h) (by omega)
theorem pos_at (x : Wt) : ∀ (l : List Wt) (h : pos x l < l.length), ltB x l[pos x l] = true
  | a :: r, h => by
    cases hc : ltB x a with
    | true =>
      have e : pos x (a :: r) = 0 := by unfold pos; rw [hc, if_pos rfl]
      simp only [e, List.getElem_cons_zero]
      exact hc
    | false =>
      have e : pos x (a :: r) = pos x r + 1 := by conv => lhs; unfold pos
                                                  rw [hc, if_neg (by decide)]
      rw [e, List.length_cons] at h
      simp only [e, List.getElem_cons_succ]
      exact pos_at x r (by omega)
/-- One more, behind those that go ahead of it. -/
def insL (x : Wt) (l : List Wt) : List Wt := l.take (pos x l) ++ [x] ++ l.drop (pos x l)
theorem insL_len (x : Wt) (l : List Wt) : (insL x l).length = l.length + 1 := by unfold insL; have := pos_le x l; simp; omega
/-- All, in their order. -/
def sortL (l : List Wt) : List Wt := l.foldl (fun o x => insL x o) []
theorem sortL_snoc {l : List Wt} {i : Nat} (h : i < l.length) : sortL (l.take (i + 1)) = insL l[i] (sortL (l.take i)) := by
  unfold sortL
  rw [List.take_succ_eq_append_getElem h, List.foldl_append]
  rfl
theorem sortL_len_aux (l : List Wt) : ∀ o, (l.foldl (fun o x => insL x o) o).length = o.length + l.length := by
  induction l with
  | nil => intro o; rfl
  | cons a r ih => intro o; rw [List.foldl_cons, ih, insL_len, List.length_cons]; omega
theorem sortL_len (l : List Wt) : (sortL l).length = l.length := by unfold sortL; rw [sortL_len_aux]; simp

/-- None goes ahead of one that stands ahead of it. -/
def Srt (l : List Wt) : Prop := l.Pairwise (fun a b => ltB b a = false)
theorem insL_nil (x : Wt) : insL x [] = [x] := rfl
theorem insL_cons (x a : Wt) (r : List Wt) : insL x (a :: r) = if ltB x a = true then x :: a :: r else a :: insL x r := by
  unfold insL
  conv => lhs; unfold pos
  split
  · simp
  · simp
theorem insL_perm (x : Wt) : ∀ l, (insL x l).Perm (x :: l)
  | [] => List.Perm.refl _
  | a :: r => by
    rw [insL_cons]
    split
    · exact List.Perm.refl _
    · exact ((insL_perm x r).cons a).trans (List.Perm.swap x a r)
theorem insL_srt (x : Wt) : ∀ l, Srt l → Srt (insL x l)
  | [], _ => List.pairwise_singleton _ _
  | a :: r, h => by
    obtain ⟨h1, h2⟩ := List.pairwise_cons.1 h
    rw [insL_cons]
    split
    · rename_i hc
      refine List.pairwise_cons.2 ⟨fun b hb => ?_, h⟩
      rcases List.mem_cons.1 hb with rfl | hb
      · exact ltB_asym hc
      · exact ltB_swo.ntrans _ _ _ (h1 b hb) (ltB_asym hc)
    · rename_i hc
      refine List.pairwise_cons.2 ⟨fun b hb => ?_, insL_srt x r h2⟩
      rcases List.mem_cons.1 ((insL_perm x r).mem_iff.1 hb) with rfl | hb
      · exact Bool.eq_false_iff.2 hc
      · exact h1 b hb
theorem sort_aux (l : List Wt) : ∀ o, Srt o → Srt (l.foldl (fun o x => insL x o) o) ∧ (l.foldl (fun o x => insL x o) o).Perm (o ++ l) := by
  induction l with
  | nil => intro o h; exact ⟨h, by simp⟩
  | cons a r ih =>
    intro o h
    obtain ⟨h1, h2⟩ := ih _ (insL_srt a o h)
    refine ⟨h1, h2.trans ?_⟩
    exact ((insL_perm a o).append_right r).trans (by simpa using (List.perm_middle (l₁ := o) (l₂ := r) (a := a)).symm)
theorem sortL_srt (l : List Wt) : Srt (sortL l) := (sort_aux l [] List.Pairwise.nil).1
theorem sortL_perm (l : List Wt) : (sortL l).Perm l := (sort_aux l [] List.Pairwise.nil).2
/-- Sorted rows of the same waits are the same. -/
theorem srt_eq : ∀ {l m : List Wt}, Srt l → Srt m → l.Perm m → l = m
  | [], m, _, _, h => (List.nil_perm.1 h).symm
  | a :: l, [], _, _, h => absurd h.length_eq (by simp)
  | a :: l, b :: m, h1, h2, h => by
    obtain ⟨p1, p2⟩ := List.pairwise_cons.1 h1
    obtain ⟨q1, q2⟩ := List.pairwise_cons.1 h2
    have e : a = b := by
      have ha : a ∈ b :: m := h.mem_iff.1 (by simp)
      have hb : b ∈ a :: l := h.mem_iff.2 (by simp)
      rcases List.mem_cons.1 ha with e | ha
      · exact e
      · rcases List.mem_cons.1 hb with e | hb
        · exact e.symm
        · exact ltB_anti _ _ (q1 a ha) (p1 b hb)
    subst e
    rw [srt_eq p2 q2 (List.perm_cons _ |>.1 h)]
theorem sortL_eq {l m : List Wt} (h : l.Perm m) : sortL l = sortL m := srt_eq (sortL_srt l) (sortL_srt m) ((sortL_perm l).trans (h.trans (sortL_perm m).symm))
theorem sortL_cons {x : Wt} {m : List Wt} (h : ∀ y ∈ m, ltB y x = false) : sortL (x :: m) = x :: sortL m :=
  srt_eq (sortL_srt _) (List.pairwise_cons.2 ⟨fun b hb => h b ((sortL_perm m).mem_iff.1 hb), sortL_srt m⟩) ((sortL_perm _).trans ((sortL_perm m).symm.cons x))
theorem allB_perm {l m : List Wt} (h : l.Perm m) (ha : allB m = true) : allB l = true := by
  unfold allB at ha ⊢
  rw [Bool.and_eq_true, decide_eq_true_eq, List.all_eq_true] at ha ⊢
  exact ⟨by rw [h.length_eq]; exact ha.1, fun y hy => ha.2 y (h.mem_iff.1 hy)⟩
/-- What is pushed: a heap of all, and of what came in. -/
theorem goes_push {l : List Wt} {x : Wt} (hr : rightB l = true) (hm : mayB x = true) (hl : l.length < 64) : ∃ L : List Wt, (up l.length (l ++ [x]).toArray).toList = L ∧ rightB L = true ∧ L.length = l.length + 1 ∧ sortL L = sortL (l ++ [x]) := by
  obtain ⟨L, M, h1, h2, h3, _⟩ := top_push hr hm hl
  unfold rightB at hr
  rw [Bool.and_eq_true, hpB_t] at hr
  refine ⟨L, h1, h2, h3, sortL_eq ?_⟩
  have h3 := (push_holds hr.2 x).2.2
  rw [show l.toArray.push x = (l ++ [x]).toArray by simp, show l.toArray.size = l.length by simp, h1] at h3
  exact h3
/-- What is popped: the first of all, and a heap of the other ones. -/
theorem goes_pop {l : List Wt} (hr : rightB l = true) (h0 : 0 < l.length) : ∃ (M : List Wt) (x : Wt), (down (l.length - 1) 0 (swp l.toArray 0 (l.length - 1))).toList.dropLast = M ∧ (down (l.length - 1) 0 (swp l.toArray 0 (l.length - 1)))[l.length - 1]! = x ∧
    rightB M = true ∧ M.length = l.length - 1 ∧ sortL l = x :: sortL M := by
  unfold rightB at hr
  rw [Bool.and_eq_true, hpB_t] at hr
  obtain ⟨ha, hp⟩ := hr
  obtain ⟨p1, p2, p3, p4, p5, p6⟩ := pop_holds hp (by simpa using h0)
  rw [show l.toArray.size = l.length by simp] at p1 p2 p3 p4 p5
  generalize down (l.length - 1) 0 (swp l.toArray 0 (l.length - 1)) = e at *
  have e1 : e.toList.dropLast = e.pop.toList := by simp
  have p5' : (l.toArray[0]! :: e.pop.toList).Perm l := p5
  refine ⟨_, _, rfl, rfl, ?_, by rw [e1, Array.length_toList]; exact p4, ?_⟩
  · unfold rightB
    rw [Bool.and_eq_true, hpB_t, e1]
    refine ⟨?_, p3⟩
    unfold allB at ha ⊢
    rw [Bool.and_eq_true, decide_eq_true_eq, List.all_eq_true] at ha ⊢
    refine ⟨by rw [Array.length_toList, p4]; omega, fun y hy => ha.2 y (p5'.mem_iff.1 (List.mem_cons_of_mem _ hy))⟩
  · rw [p2, e1, ← sortL_eq p5']
    exact sortL_cons fun y hy => p6 y (p5'.mem_iff.1 (List.mem_cons_of_mem _ hy))
end Go.Proofs.Ytdgenemgegpkdaa.Queue
