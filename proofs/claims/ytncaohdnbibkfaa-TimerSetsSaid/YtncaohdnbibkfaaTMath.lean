/-
  Timers, as plain mathematics: which may be, what setting one, clearing, and a time makes of them. No program in it. A timer is three numbers (when, kind, order), in the order of these three: as a wait is.
-/
import Derived.Test.YtncaohdnbibkfaaQMath
namespace Go.Proofs.Ytncaohdnbibkfaa.Timer
open Go.Sort Go.Proofs.Ytncaohdnbibkfaa.Queue

instance (a b : Wt) : Decidable (a = b) := if h : a.c = b.c ∧ a.s = b.s ∧ a.o = b.o then .isTrue (Wt.same h.1 h.2.1 h.2.2) else .isFalse (fun e => h (by rw [e]; exact ⟨rfl, rfl, rfl⟩))
/-- May a timer be? -/
def mayT (x : Wt) : Bool := decide (0 ≤ x.c ∧ x.c ≤ 1099511627776 ∧ 1 ≤ x.s ∧ x.s ≤ 3 ∧ 1 ≤ x.o ∧ x.o ≤ 1099511627776)
/-- Is it of that kind and order? -/
def keyB (k o : Int) (x : Wt) : Bool := decide (x.s = k ∧ x.o = o)
/-- Not of the same kind and order. -/
def Diff (a b : Wt) : Prop := ¬ (a.s = b.s ∧ a.o = b.o)
instance (a b : Wt) : Decidable (Diff a b) := by unfold Diff; exact inferInstance
theorem Diff.symm {a b : Wt} (h : Diff a b) : Diff b a := fun e => h ⟨e.1.symm, e.2.symm⟩
theorem keyB_f {k o : Int} {x : Wt} : keyB k o x = false ↔ ¬ (x.s = k ∧ x.o = o) := by unfold keyB; exact decide_eq_false_iff_not
theorem keyB_t {k o : Int} {x : Wt} : keyB k o x = true ↔ (x.s = k ∧ x.o = o) := by unfold keyB; exact decide_eq_true_iff
/-- Each above the one ahead of it. -/
def Up (l : List Wt) : Prop := l.Pairwise (fun a b => ltB a b = true)
def RightP (l : List Wt) : Prop := l.length ≤ 96 ∧ (∀ x ∈ l, mayT x = true) ∧ Up l ∧ l.Pairwise Diff
instance (l : List Wt) : Decidable (RightP l) := by unfold RightP Up; exact inferInstance
def rightB (l : List Wt) : Bool := decide (RightP l)
theorem rightB_t {l : List Wt} : rightB l = true ↔ RightP l := by unfold rightB; exact decide_eq_true_iff
theorem rightB_f {l : List Wt} : rightB l = false ↔ ¬ RightP l := by unfold rightB; exact decide_eq_false_iff_not
/-- As the reference looks, one by one. -/
def Sound (l : List Wt) (i : Nat) : Prop := ∀ (h : i < l.length), mayT l[i] = true ∧ ∀ j (hj : j < i), ltB l[j] l[i] = true ∧ Diff l[j] l[i]
theorem right_of {l : List Wt} (hn : l.length ≤ 96) (h : ∀ i, i < l.length → Sound l i) : rightB l = true := by
  refine rightB_t.2 ⟨hn, fun x hx => ?_, List.pairwise_iff_getElem.2 fun i j hi hj hij => ?_, List.pairwise_iff_getElem.2 fun i j hi hj hij => ?_⟩
  · obtain ⟨i, hi, rfl⟩ := List.mem_iff_getElem.1 hx
    exact (h i hi hi).1
  · exact ((h j hj hj).2 i hij).1
  · exact ((h j hj hj).2 i hij).2
theorem right_may {l : List Wt} {i : Nat} (hi : i < l.length) (h : mayT l[i] = false) : rightB l = false := rightB_f.2 fun hr => by
  have := hr.2.1 _ (List.getElem_mem hi)
  rw [h] at this; cases this
theorem right_pair {l : List Wt} {i j : Nat} (hi : i < l.length) (hj : j < i) (h : ltB l[j] l[i] = false ∨ ¬ Diff l[j] l[i]) : rightB l = false := rightB_f.2 fun hr => by
  rcases h with h | h
  · have := List.pairwise_iff_getElem.1 hr.2.2.1 j i (by omega) hi hj
    rw [h] at this; cases this
  · exact h (List.pairwise_iff_getElem.1 hr.2.2.2 j i (by omega) hi hj)
theorem right_long {l : List Wt} (h : 96 < l.length) : rightB l = false := rightB_f.2 fun hr => by have := hr.1; omega
theorem Up.of {l : List Wt} (h : ∀ i (hi : i + 1 < l.length), ltB l[i] l[i + 1] = true) : Up l := by
  refine List.pairwise_iff_getElem.2 fun i j hi hj hij => ?_
  induction j with
  | zero => omega
  | succ j ih =>
    by_cases e : i = j
    · subst e; exact h i hj
    · exact ltB_swo.trans _ _ _ (ih (by omega) (by omega)) (h j hj)
/-- What rises hangs on what is in it alone. -/
theorem up_eq : ∀ {l m : List Wt}, Up l → Up m → l.Perm m → l = m
  | [], m, _, _, h => h.nil_eq
  | x :: l, [], _, _, h => by cases h.eq_nil
  | x :: l, y :: m, hl, hm, h => by
    have hl' := List.pairwise_cons.1 hl
    have hm' := List.pairwise_cons.1 hm
    have e : x = y := by
      rcases List.mem_cons.1 (h.mem_iff.2 List.mem_cons_self) with e | hy
      · exact e.symm
      · rcases List.mem_cons.1 (h.mem_iff.1 List.mem_cons_self) with e | hx
        · exact e
        · have := ltB_asym (hl'.1 y hy)
          rw [hm'.1 x hx] at this
          cases this
    subst e
    rw [up_eq hl'.2 hm'.2 ((List.perm_cons x).1 h)]

/-! ### one more, in its place -/
/-- Ahead of the first one that stands behind it. -/
def insT (x : Wt) : List Wt → List Wt
  | [] => [x]
  | y :: r => if ltB x y = true then x :: y :: r else y :: insT x r
theorem insT_perm (x : Wt) : ∀ l, (insT x l).Perm (x :: l)
  | [] => .refl _
  | y :: r => by
    unfold insT
    split
    · exact .refl _
    · exact ((insT_perm x r).cons y).trans (.swap x y r)
theorem insT_len (x : Wt) (l : List Wt) : (insT x l).length = l.length + 1 := (insT_perm x l).length_eq
theorem insT_mem {x y : Wt} {l : List Wt} : y ∈ insT x l ↔ y = x ∨ y ∈ l := by rw [(insT_perm x l).mem_iff, List.mem_cons]
theorem insT_up {x : Wt} : ∀ {l : List Wt}, Up l → (∀ y ∈ l, y ≠ x) → Up (insT x l)
  | [], _, _ => by simp [insT, Up]
  | y :: r, h, hne => by
    have h' := List.pairwise_cons.1 h
    unfold insT
    split
    · rename_i e
      refine List.pairwise_cons.2 ⟨fun z hz => ?_, h⟩
      rcases List.mem_cons.1 hz with rfl | hz
      · exact e
      · exact ltB_swo.trans _ _ _ e (h'.1 z hz)
    · rename_i e
      have e' : ltB x y = false := by simpa using e
      have hyx : ltB y x = true := by
        cases hc : ltB y x with
        | true => rfl
        | false => exact absurd (ltB_anti _ _ hc e') (hne y List.mem_cons_self)
      refine List.pairwise_cons.2 ⟨fun z hz => ?_, insT_up h'.2 (fun z hz => hne z (List.mem_cons_of_mem _ hz))⟩
      rcases insT_mem.1 hz with rfl | hz
      · exact hyx
      · exact h'.1 z hz
/-- So many are not behind it. -/
def posT (x : Wt) : List Wt → Nat
  | [] => 0
  | y :: r => if ltB x y = true then 0 else posT x r + 1
theorem posT_le (x : Wt) : ∀ l, posT x l ≤ l.length
  | [] => Nat.le_refl _
  | y :: r => by unfold posT; split <;> simp [posT_le x r]
theorem insT_pos (x : Wt) : ∀ l, insT x l = l.take (posT x l) ++ x :: l.drop (posT x l)
  | [] => rfl
  | y :: r => by
    unfold insT posT
    split
    · rfl
    · rw [List.take_succ_cons, List.drop_succ_cons, List.cons_append, insT_pos x r]
/-- Of what rises, and has not got it: all ahead of its place are below it, all from it on above it. -/
theorem posT_ways {x : Wt} : ∀ {l : List Wt}, Up l → (∀ y ∈ l, y ≠ x) → (∀ i (h : i < l.length), i < posT x l → ltB l[i] x = true) ∧ (∀ i (h : i < l.length), posT x l ≤ i → ltB x l[i] = true)
  | [], _, _ => ⟨fun i h => by simp at h, fun i h => by simp at h⟩
  | y :: r, h, hne => by
    have h' := List.pairwise_cons.1 h
    obtain ⟨h1, h2⟩ := posT_ways h'.2 (fun z hz => hne z (List.mem_cons_of_mem _ hz))
    by_cases e : ltB x y = true
    · have e0 : posT x (y :: r) = 0 := by rw [posT, if_pos e]
      rw [e0]
      refine ⟨fun i _ hi => by omega, fun i hi _ => ?_⟩
      cases i with
      | zero => exact e
      | succ i => exact ltB_swo.trans _ _ _ e (h'.1 _ (List.getElem_mem _))
    · have e0 : posT x (y :: r) = posT x r + 1 := by rw [posT, if_neg e]
      have e' : ltB x y = false := by simpa using e
      have hyx : ltB y x = true := by
        cases hc : ltB y x with
        | true => rfl
        | false => exact absurd (ltB_anti _ _ hc e') (hne y List.mem_cons_self)
      rw [e0]
      refine ⟨fun i hi hl => ?_, fun i hi hl => ?_⟩
      · cases i with
        | zero => exact hyx
        | succ i => exact h1 i (by simpa using hi) (by omega)
      · cases i with
        | zero => omega
        | succ i => exact h2 i (by simpa using hi) (by omega)

/-! ### the calls -/
def clearL (k o : Int) (l : List Wt) : List Wt := l.filter (fun y => !keyB k o y)
def setL (x : Wt) (l : List Wt) : List Wt := insT x (clearL x.s x.o l)
def clearE (l : List Wt) : Int := if rightB l = true then 0 else 1
def clearO (k o : Int) (l : List Wt) : List Wt := if rightB l = true then clearL k o l else []
def setE (x : Wt) (l : List Wt) : Int := if (rightB l && mayT x) = false then 1 else if (clearL x.s x.o l).length = 96 then 7 else 0
def setO (x : Wt) (l : List Wt) : List Wt := if setE x l = 0 then setL x l else []
def dueL (t : Int) (l : List Wt) : List Wt := l.filter (fun y => decide (y.c ≤ t))
def restL (t : Int) (l : List Wt) : List Wt := l.filter (fun y => !decide (y.c ≤ t))
theorem clear_sub (k o : Int) (l : List Wt) : (clearL k o l).Sublist l := List.filter_sublist
theorem right_sub {l m : List Wt} (h : RightP l) (hs : m.Sublist l) : RightP m := ⟨Nat.le_trans hs.length_le h.1, fun x hx => h.2.1 x (hs.subset hx), h.2.2.1.sublist hs, h.2.2.2.sublist hs⟩
theorem clear_right {l : List Wt} (h : RightP l) (k o : Int) : RightP (clearL k o l) := right_sub h (clear_sub k o l)
theorem due_right {l : List Wt} (h : RightP l) (t : Int) : RightP (dueL t l) := right_sub h List.filter_sublist
theorem rest_right {l : List Wt} (h : RightP l) (t : Int) : RightP (restL t l) := right_sub h List.filter_sublist
theorem clear_diff {k o : Int} {l : List Wt} {x : Wt} (hx : x.s = k ∧ x.o = o) : ∀ y ∈ clearL k o l, Diff y x := fun y hy => by
  have := (List.mem_filter.1 hy).2
  simp only [Bool.not_eq_true', keyB_f] at this
  rw [← hx.1, ← hx.2] at this
  exact this
theorem Diff.ne {a b : Wt} (h : Diff a b) : a ≠ b := fun e => h (by rw [e]; exact ⟨rfl, rfl⟩)
theorem set_ways (x : Wt) (l : List Wt) : (rightB l = false ∧ setE x l = 1 ∧ setO x l = []) ∨ (rightB l = true ∧ mayT x = false ∧ setE x l = 1 ∧ setO x l = []) ∨ (rightB l = true ∧ mayT x = true ∧ (clearL x.s x.o l).length = 96 ∧ setE x l = 7 ∧ setO x l = []) ∨
    (rightB l = true ∧ mayT x = true ∧ (clearL x.s x.o l).length < 96 ∧ setE x l = 0 ∧ setO x l = setL x l) := by
  unfold setO
  unfold setE
  cases h1 : rightB l with
  | false => exact .inl ⟨rfl, rfl, rfl⟩
  | true =>
    cases h2 : mayT x with
    | false => exact .inr (.inl ⟨rfl, rfl, rfl, rfl⟩)
    | true =>
      by_cases h3 : (clearL x.s x.o l).length = 96
      · exact .inr (.inr (.inl ⟨rfl, rfl, h3, by simp [h3], by simp [h3]⟩))
      · have := (clear_right (rightB_t.1 h1) x.s x.o).1
        exact .inr (.inr (.inr ⟨rfl, rfl, by omega, by simp [h3], by simp [h3]⟩))
/-- What may be stays such. -/
theorem set_right {x : Wt} {l : List Wt} (h : setE x l = 0) : RightP l ∧ mayT x = true ∧ (clearL x.s x.o l).length < 96 ∧ setO x l = setL x l ∧ RightP (setL x l) := by
  rcases set_ways x l with ⟨_, e, _⟩ | ⟨_, _, e, _⟩ | ⟨_, _, _, e, _⟩ | ⟨h1, h2, h3, _, h5⟩
  · rw [h] at e; cases e
  · rw [h] at e; cases e
  · rw [h] at e; cases e
  · have hr := rightB_t.1 h1
    have hc := clear_right hr x.s x.o
    have hd : ∀ y ∈ clearL x.s x.o l, Diff y x := clear_diff ⟨rfl, rfl⟩
    refine ⟨hr, h2, h3, h5, by unfold setL; rw [insT_len]; omega, fun y hy => ?_, insT_up hc.2.2.1 (fun y hy => (hd y hy).ne), ?_⟩
    · rcases insT_mem.1 hy with rfl | hy
      · exact h2
      · exact hc.2.1 y hy
    · unfold setL
      refine ((insT_perm x _).pairwise_iff (fun {a b} (q : Diff a b) => q.symm)).2 (List.pairwise_cons.2 ⟨fun y hy => (hd y hy).symm, hc.2.2.2⟩)
theorem clear_clear (k o k' o' : Int) (l : List Wt) : clearL k o (clearL k' o' l) = clearL k' o' (clearL k o l) := by
  unfold clearL
  rw [List.filter_filter, List.filter_filter]
  congr 1
  funext y
  exact Bool.and_comm _ _
theorem clear_twice (k o : Int) (l : List Wt) : clearL k o (clearL k o l) = clearL k o l := by
  unfold clearL
  rw [List.filter_filter]
  congr 1
  funext y
  exact Bool.and_self _
/-- Cleared, it is as if it had not been. -/
theorem clear_set {x : Wt} {l : List Wt} (h : RightP l) : clearL x.s x.o (setL x l) = clearL x.s x.o l := by
  have hc := clear_right h x.s x.o
  have hd : ∀ y ∈ clearL x.s x.o l, Diff y x := clear_diff ⟨rfl, rfl⟩
  have hu : Up (setL x l) := insT_up hc.2.2.1 (fun y hy => (hd y hy).ne)
  refine up_eq (hu.sublist (clear_sub _ _ _)) hc.2.2.1 ?_
  unfold setL
  refine ((insT_perm x _).filter _).trans ?_
  rw [List.filter_cons_of_neg (by simp [keyB])]
  exact List.Perm.of_eq (clear_twice _ _ _)
/-- One of another kind or order stays. -/
theorem clear_other {a : Wt} {k o : Int} (hd : ¬ (a.s = k ∧ a.o = o)) (l : List Wt) : (clearL k o (setL a l)).Perm (a :: clearL k o (clearL a.s a.o l)) := by
  unfold setL
  refine ((insT_perm a _).filter _).trans ?_
  rw [List.filter_cons_of_pos (by simp [keyB_f.2 hd])]
  exact .refl _
/-- Of the same kind and order the last one stands. -/
theorem set_same {a b : Wt} {l : List Wt} (h : RightP l) (he : a.s = b.s ∧ a.o = b.o) : setL b (setL a l) = setL b l := by
  show insT b (clearL b.s b.o (setL a l)) = insT b (clearL b.s b.o l)
  rw [← he.1, ← he.2, clear_set h]
/-- In whichever order they are set. -/
theorem set_comm {a b : Wt} {l : List Wt} (h : RightP l) (hd : Diff a b) : setL b (setL a l) = setL a (setL b l) := by
  have key : ∀ {a b : Wt}, Diff a b → Up (setL b (setL a l)) ∧ (setL b (setL a l)).Perm (b :: a :: clearL b.s b.o (clearL a.s a.o l)) := fun {a b} hd => by
    have hda : ∀ y ∈ clearL a.s a.o l, Diff y a := clear_diff ⟨rfl, rfl⟩
    have hua : Up (setL a l) := insT_up (clear_right h a.s a.o).2.2.1 (fun y hy => (hda y hy).ne)
    have hdb : ∀ y ∈ clearL b.s b.o (setL a l), Diff y b := clear_diff ⟨rfl, rfl⟩
    refine ⟨insT_up (hua.sublist (clear_sub _ _ _)) (fun y hy => (hdb y hy).ne), ?_⟩
    exact (insT_perm b _).trans ((clear_other hd l).cons b)
  obtain ⟨u1, p1⟩ := key hd
  obtain ⟨u2, p2⟩ := key hd.symm
  refine up_eq u1 u2 (p1.trans (List.Perm.trans ?_ p2.symm))
  rw [clear_clear]
  exact .swap a b _
theorem clear_len (k o : Int) {l : List Wt} (hd : l.Pairwise Diff) : l.length ≤ (clearL k o l).length + 1 := by
  induction l with
  | nil => simp
  | cons y r ih =>
    have h' := List.pairwise_cons.1 hd
    unfold clearL
    cases hk : keyB k o y with
    | false =>
      rw [List.filter_cons_of_pos (by simp [hk])]
      have := ih h'.2
      unfold clearL at this
      simp only [List.length_cons]
      omega
    | true =>
      rw [List.filter_cons_of_neg (by simp [hk])]
      have e : r.filter (fun y => !keyB k o y) = r := List.filter_eq_self.2 fun z hz => by
        have hdz := h'.1 z hz
        have hy := keyB_t.1 hk
        have : keyB k o z = false := keyB_f.2 fun hz2 => hdz ⟨hy.1.trans hz2.1.symm, hy.2.trans hz2.2.symm⟩
        simp [this]
      rw [e]
      simp
/-- If both go in one after the other, they do the other way about. -/
theorem set_turn {a b : Wt} {l : List Wt} (h1 : setE a l = 0) (h2 : setE b (setL a l) = 0) (hd : Diff a b) : setE b l = 0 ∧ setE a (setL b l) = 0 := by
  obtain ⟨hr, ha, hla, _, _⟩ := set_right h1
  obtain ⟨_, hb, hlb, _, _⟩ := set_right h2
  have hp := (clear_other hd l).length_eq
  rw [hp, List.length_cons] at hlb
  have hbl : (clearL b.s b.o l).length ≤ (clearL a.s a.o (clearL b.s b.o l)).length + 1 := clear_len a.s a.o (clear_right hr b.s b.o).2.2.2
  rw [clear_clear] at hbl
  have hb0 : setE b l = 0 := by
    unfold setE
    rw [rightB_t.2 hr, hb, if_neg (by simp), if_neg (by omega)]
  refine ⟨hb0, ?_⟩
  obtain ⟨_, _, _, _, hrb⟩ := set_right hb0
  have hp2 := (clear_other hd.symm l).length_eq
  rw [clear_clear, List.length_cons] at hp2
  unfold setE
  rw [rightB_t.2 hrb, ha, if_neg (by simp), if_neg (by omega)]
theorem set_again {a b : Wt} {l : List Wt} (h1 : setE a l = 0) (h2 : setE b (setL a l) = 0) (he : a.s = b.s ∧ a.o = b.o) : setE b l = 0 := by
  obtain ⟨hr, _, hla, _, _⟩ := set_right h1
  obtain ⟨_, hb, _, _, _⟩ := set_right h2
  unfold setE
  rw [rightB_t.2 hr, hb, if_neg (by simp), if_neg (by rw [← he.1, ← he.2]; omega)]

/-! ### what is due -/
theorem up_c {l : List Wt} (h : Up l) {i j : Nat} (hi : i < l.length) (hj : j < l.length) (hij : i ≤ j) : l[i].c ≤ l[j].c := by
  by_cases e : i = j
  · subst e; exact Int.le_refl _
  · have := List.pairwise_iff_getElem.1 h i j hi hj (by omega)
    rw [ltB_t] at this
    unfold ltP at this
    omega
/-- Those that are due stand ahead. -/
theorem due_cut (t : Int) : ∀ {l : List Wt}, Up l → dueL t l = l.take (dueL t l).length ∧ restL t l = l.drop (dueL t l).length
  | [], _ => ⟨rfl, rfl⟩
  | y :: r, h => by
    have h' := List.pairwise_cons.1 h
    obtain ⟨h1, h2⟩ := due_cut t h'.2
    by_cases hy : y.c ≤ t
    · have e1 : dueL t (y :: r) = y :: dueL t r := List.filter_cons_of_pos (by simp [hy])
      have e2 : restL t (y :: r) = restL t r := List.filter_cons_of_neg (by simp [hy])
      rw [e1, e2, List.length_cons, List.take_succ_cons, List.drop_succ_cons]
      exact ⟨by rw [← h1], h2⟩
    · have hn : ∀ z ∈ y :: r, ¬ z.c ≤ t := fun z hz => by
        rcases List.mem_cons.1 hz with rfl | hz
        · exact hy
        · have := h'.1 z hz
          rw [ltB_t] at this
          unfold ltP at this
          omega
      have e1 : dueL t (y :: r) = [] := List.filter_eq_nil_iff.2 fun z hz => by simpa using hn z hz
      have e2 : restL t (y :: r) = y :: r := List.filter_eq_self.2 fun z hz => by simpa using hn z hz
      rw [e1, e2]
      exact ⟨rfl, rfl⟩
theorem due_all (t : Int) (l : List Wt) : (dueL t l).length + (restL t l).length = l.length := by
  unfold dueL restL
  induction l with
  | nil => rfl
  | cons y r ih =>
    by_cases hy : y.c ≤ t
    · rw [List.filter_cons_of_pos (by simp [hy]), List.filter_cons_of_neg (by simp [hy]), List.length_cons, List.length_cons]; omega
    · rw [List.filter_cons_of_neg (by simp [hy]), List.filter_cons_of_pos (by simp [hy]), List.length_cons, List.length_cons]; omega
/-- What is due is due later, too. -/
theorem due_later {t u : Int} (h : t ≤ u) {l : List Wt} (hu : Up l) : (dueL t l).length ≤ (dueL u l).length ∧ (dueL u l).take (dueL t l).length = dueL t l := by
  have hs : dueL t l = dueL t (dueL u l) := by
    unfold dueL
    rw [List.filter_filter]
    congr 1
    funext y
    by_cases hy : y.c ≤ t
    · have : y.c ≤ u := by omega
      simp [hy, this]
    · simp [hy]
  have hlen : (dueL t l).length ≤ (dueL u l).length := by rw [hs]; exact List.length_filter_le _ _
  refine ⟨hlen, ?_⟩
  have := (due_cut t (show Up (dueL u l) from hu.sublist List.filter_sublist)).1
  rw [← hs] at this
  exact this.symm
theorem rest_none (t : Int) (l : List Wt) : dueL t (restL t l) = [] ∧ restL t (restL t l) = restL t l := by
  unfold dueL restL
  rw [List.filter_filter, List.filter_filter]
  refine ⟨List.filter_eq_nil_iff.2 fun y _ => by simp, ?_⟩
  congr 1
  funext y
  exact Bool.and_self _
theorem rest_next {t : Int} {l : List Wt} {y : Wt} (h : y ∈ restL t l) : t < y.c := by
  have := (List.mem_filter.1 h).2
  simpa using this
end Go.Proofs.Ytncaohdnbibkfaa.Timer
