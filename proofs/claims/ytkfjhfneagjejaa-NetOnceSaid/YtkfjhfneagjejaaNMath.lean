/-
  Parcels that may be lost, come twice, and out of order (net), as plain mathematics: which may be, what posting, taking, having one there twice and putting one last makes of them; how often each is there. No program in it.
-/
import Derived.PlainAid
namespace Go.Proofs.Ytkfjhfneagjejaa.Net

/-- A parcel: its number, whether it comes back, its key, kind, order, and its answer. -/
structure Pc where
  n : Int
  b : Bool
  y : Int
  k : Int
  o : Int
  s : Bool
theorem Pc.same {a b : Pc} (h1 : a.n = b.n) (h2 : a.b = b.b) (h3 : a.y = b.y) (h4 : a.k = b.k) (h5 : a.o = b.o) (h6 : a.s = b.s) : a = b := by
  cases a; cases b; simp only at h1 h2 h3 h4 h5 h6; rw [h1, h2, h3, h4, h5, h6]
instance (a b : Pc) : Decidable (a = b) := if h : a.n = b.n ∧ a.b = b.b ∧ a.y = b.y ∧ a.k = b.k ∧ a.o = b.o ∧ a.s = b.s then .isTrue (Pc.same h.1 h.2.1 h.2.2.1 h.2.2.2.1 h.2.2.2.2.1 h.2.2.2.2.2) else .isFalse (fun e => h (by rw [e]; exact ⟨rfl, rfl, rfl, rfl, rfl, rfl⟩))
def noP : Pc := ⟨0, false, 0, 0, 0, false⟩
def numP (n : Int) : Prop := 1 ≤ n ∧ n ≤ 1099511627776
instance (n : Int) : Decidable (numP n) := by unfold numP; exact inferInstance
/-- May it be? -/
def MayP (x : Pc) : Prop := (x.s = true → x.b = true ∧ x.k = 3) ∧ numP x.y ∧ numP x.o ∧ 1 ≤ x.k ∧ x.k ≤ 3
instance (x : Pc) : Decidable (MayP x) := by unfold MayP; exact inferInstance
def mayB (x : Pc) : Bool := decide (MayP x)
theorem mayB_t {x : Pc} : mayB x = true ↔ MayP x := by unfold mayB; exact decide_eq_true_iff
theorem mayB_f {x : Pc} : mayB x = false ↔ ¬ MayP x := by unfold mayB; exact decide_eq_false_iff_not
def RightP (l : List Pc) (t : Int) : Prop := l.length ≤ 64 ∧ (0 ≤ t ∧ t ≤ 1099511627776) ∧ ∀ x ∈ l, MayP x ∧ 1 ≤ x.n ∧ x.n ≤ t
instance (l : List Pc) (t : Int) : Decidable (RightP l t) := by unfold RightP; exact inferInstance
def rightB (l : List Pc) (t : Int) : Bool := decide (RightP l t)
theorem rightB_t {l : List Pc} {t : Int} : rightB l t = true ↔ RightP l t := by unfold rightB; exact decide_eq_true_iff
theorem rightB_f {l : List Pc} {t : Int} : rightB l t = false ↔ ¬ RightP l t := by unfold rightB; exact decide_eq_false_iff_not
/-- One by one. -/
theorem right_of {l : List Pc} {t : Int} (hn : l.length ≤ 64) (ht : 0 ≤ t ∧ t ≤ 1099511627776) (h : ∀ i (hi : i < l.length), MayP l[i] ∧ 1 ≤ l[i].n ∧ l[i].n ≤ t) : rightB l t = true :=
  rightB_t.2 ⟨hn, ht, fun x hx => by obtain ⟨i, hi, rfl⟩ := List.mem_iff_getElem.1 hx; exact h i hi⟩
theorem right_no {l : List Pc} {t : Int} {i : Nat} (hi : i < l.length) (h : ¬ (MayP l[i] ∧ 1 ≤ l[i].n ∧ l[i].n ≤ t)) : rightB l t = false := rightB_f.2 fun hr => h (hr.2.2 _ (List.getElem_mem hi))
theorem right_long {l : List Pc} {t : Int} (h : 64 < l.length) : rightB l t = false := rightB_f.2 fun hr => by have := hr.1; omega
theorem right_last {l : List Pc} {t : Int} (h : ¬ (0 ≤ t ∧ t ≤ 1099511627776)) : rightB l t = false := rightB_f.2 fun hr => h hr.2.1
/-- What is posted stands behind; what is left; what is there twice; what is put last. -/
def num (p : Pc) (n : Int) : Pc := { p with n := n }
def post (l : List Pc) (t : Int) (p : Pc) : List Pc := l ++ [num p (t + 1)]
def rest (l : List Pc) (i : Nat) : List Pc := l.take i ++ l.drop (i + 1)
def twice (l : List Pc) (i : Nat) (h : i < l.length) : List Pc := l ++ [l[i]]
def last (l : List Pc) (i : Nat) (h : i < l.length) : List Pc := rest l i ++ [l[i]]
theorem num_may {p : Pc} {n : Int} : MayP (num p n) ↔ MayP p := Iff.rfl
theorem rest_mem {l : List Pc} {i : Nat} {x : Pc} (h : x ∈ rest l i) : x ∈ l := by
  unfold rest at h
  rcases List.mem_append.1 h with h | h
  · exact List.mem_of_mem_take h
  · exact List.mem_of_mem_drop h
theorem rest_len {l : List Pc} {i : Nat} (h : i < l.length) : (rest l i).length + 1 = l.length := by
  unfold rest
  rw [List.length_append, List.length_take, List.length_drop]
  omega
theorem last_len {l : List Pc} {i : Nat} (h : i < l.length) : (last l i h).length = l.length := by
  unfold last
  rw [List.length_append]
  exact rest_len h
theorem post_right {l : List Pc} {t : Int} {p : Pc} (h : RightP l t) (hl : l.length < 64) (ht : t < 1099511627776) (hp : MayP p) : RightP (post l t p) (t + 1) := by
  have h0 := h.2.1
  refine ⟨by unfold post; rw [List.length_append]; show l.length + 1 ≤ 64; omega, by omega, fun x hx => ?_⟩
  unfold post at hx
  rcases List.mem_append.1 hx with hx | hx
  · have := h.2.2 x hx
    exact ⟨this.1, this.2.1, by omega⟩
  · obtain rfl := List.mem_singleton.1 hx
    exact ⟨hp, by show 1 ≤ t + 1; omega, Int.le_refl _⟩
theorem rest_right {l : List Pc} {t : Int} {i : Nat} (h : RightP l t) (hi : i < l.length) : RightP (rest l i) t :=
  ⟨by have := rest_len hi; have := h.1; omega, h.2.1, fun x hx => h.2.2 x (rest_mem hx)⟩
theorem twice_right {l : List Pc} {t : Int} {i : Nat} (h : RightP l t) (hi : i < l.length) (hl : l.length < 64) : RightP (twice l i hi) t := by
  refine ⟨by unfold twice; rw [List.length_append]; show l.length + 1 ≤ 64; omega, h.2.1, fun x hx => ?_⟩
  unfold twice at hx
  rcases List.mem_append.1 hx with hx | hx
  · exact h.2.2 x hx
  · obtain rfl := List.mem_singleton.1 hx
    exact h.2.2 _ (List.getElem_mem hi)
theorem last_right {l : List Pc} {t : Int} {i : Nat} (h : RightP l t) (hi : i < l.length) : RightP (last l i hi) t := by
  refine ⟨by rw [last_len]; exact h.1, h.2.1, fun x hx => ?_⟩
  unfold last at hx
  rcases List.mem_append.1 hx with hx | hx
  · exact h.2.2 x (rest_mem hx)
  · obtain rfl := List.mem_singleton.1 hx
    exact h.2.2 _ (List.getElem_mem hi)

/-- Turned so often: the first ones stand behind. -/
def turn (l : List Pc) (k : Nat) : List Pc := l.drop k ++ l.take k
theorem turn_zero (l : List Pc) : turn l 0 = l := by unfold turn; simp
theorem turn_all (l : List Pc) : turn l l.length = l := by unfold turn; simp
theorem turn_len (l : List Pc) (k : Nat) : (turn l k).length = l.length := by
  unfold turn
  rw [List.length_append, List.length_drop, List.length_take]
  omega
theorem turn_step {l : List Pc} {k : Nat} (h : k < l.length) : last (turn l k) 0 (by rw [turn_len]; omega) = turn l (k + 1) := by
  have e : l.drop k = l[k] :: l.drop (k + 1) := List.drop_eq_getElem_cons h
  have e2 : turn l k = l[k] :: (l.drop (k + 1) ++ l.take k) := by unfold turn; rw [e]; rfl
  have e3 : rest (turn l k) 0 = l.drop (k + 1) ++ l.take k := by unfold rest; rw [e2]; simp
  unfold last
  rw [e3]
  have e4 : (turn l k)[0]'(by rw [turn_len]; omega) = l[k] := by simp [e2]
  rw [e4]
  unfold turn
  rw [List.take_succ_eq_append_getElem h, List.append_assoc]

/-- How often a number is there. -/
def cnt (l : List Pc) (z : Int) : Int := ((l.filter (fun x => decide (x.n = z))).length : Int)
theorem cnt_nil (z : Int) : cnt [] z = 0 := rfl
theorem cnt_append (l m : List Pc) (z : Int) : cnt (l ++ m) z = cnt l z + cnt m z := by unfold cnt; rw [List.filter_append, List.length_append]; omega
theorem cnt_one (x : Pc) (z : Int) : cnt [x] z = if z = x.n then 1 else 0 := by
  unfold cnt
  by_cases e : z = x.n
  · rw [if_pos e, List.filter_cons_of_pos (by simpa using e.symm)]; rfl
  · rw [if_neg e, List.filter_cons_of_neg (by simpa using (fun h => e (Eq.symm h)))]; rfl
theorem cnt_cons (x : Pc) (l : List Pc) (z : Int) : cnt (x :: l) z = (if z = x.n then 1 else 0) + cnt l z := by
  rw [← cnt_one x z, ← cnt_append]; rfl
theorem cnt_take {l : List Pc} {j : Nat} (h : j < l.length) (z : Int) : cnt (l.take (j + 1)) z = cnt (l.take j) z + (if z = l[j].n then 1 else 0) := by
  rw [List.take_succ_eq_append_getElem h, cnt_append, cnt_one]
theorem cnt_rest {l : List Pc} {i : Nat} (h : i < l.length) (z : Int) : cnt (rest l i) z = cnt l z - (if z = l[i].n then 1 else 0) := by
  have e : l = l.take i ++ l[i] :: l.drop (i + 1) := by rw [← List.drop_eq_getElem_cons h, List.take_append_drop]
  have e2 : cnt l z = cnt (l.take i) z + ((if z = l[i].n then 1 else 0) + cnt (l.drop (i + 1)) z) := by
    rw [← cnt_cons, ← cnt_append, ← e]
  unfold rest
  rw [cnt_append, e2]
  omega
theorem cnt_twice {l : List Pc} {i : Nat} (h : i < l.length) (z : Int) : cnt (twice l i h) z = cnt l z + (if z = l[i].n then 1 else 0) := by
  unfold twice
  rw [cnt_append, cnt_one]
theorem cnt_last {l : List Pc} {i : Nat} (h : i < l.length) (z : Int) : cnt (last l i h) z = cnt l z := by
  unfold last
  rw [cnt_append, cnt_one, cnt_rest h]
  omega
theorem cnt_post (l : List Pc) (t : Int) (p : Pc) (z : Int) : cnt (post l t p) z = cnt l z + (if z = t + 1 then 1 else 0) := by
  unfold post
  rw [cnt_append, cnt_one]
  rfl
theorem cnt_pos {l : List Pc} {i : Nat} (h : i < l.length) : 1 ≤ cnt l l[i].n := by
  unfold cnt
  have : l[i] ∈ l.filter (fun x => decide (x.n = l[i].n)) := List.mem_filter.2 ⟨List.getElem_mem h, by simp⟩
  have := List.length_pos_of_mem this
  omega
theorem cnt_le (l : List Pc) (z : Int) : 0 ≤ cnt l z ∧ cnt l z ≤ l.length := by
  unfold cnt
  have := List.length_filter_le (fun x : Pc => decide (x.n = z)) l
  omega

/-- What is there, what was sent, and how often each number is left to be taken. -/
structure Once (l : List Pc) (t : Int) (sent : List Pc) (left : Int → Int) : Prop where
  right : RightP l t
  many : (sent.length : Int) = t
  same : ∀ x ∈ l, ∃ (h : (x.n - 1).toNat < sent.length), sent[(x.n - 1).toNat] = x
  left : ∀ z, left z = cnt l z
theorem Once.start : Once [] 0 [] (fun _ => 0) := ⟨⟨by decide, ⟨by decide, by decide⟩, fun x h => (by cases h)⟩, rfl, fun x h => (by cases h), fun z => rfl⟩
variable {l : List Pc} {t : Int} {sent : List Pc} {left : Int → Int}
theorem Once.post (h : Once l t sent left) {p : Pc} (hl : l.length < 64) (ht : t < 1099511627776) (hp : MayP p) : Once (Net.post l t p) (t + 1) (sent ++ [num p (t + 1)]) (fun z => if z = t + 1 then left (t + 1) + 1 else left z) := by
  have hm := h.many
  have h0 := h.right.2.1
  refine ⟨post_right h.right hl ht hp, by rw [List.length_append]; show ((sent.length + 1 : Nat) : Int) = t + 1; omega, fun x hx => ?_, fun z => ?_⟩
  · unfold Net.post at hx
    rcases List.mem_append.1 hx with hx | hx
    · obtain ⟨h1, h2⟩ := h.same x hx
      exact ⟨by rw [List.length_append]; omega, by rw [List.getElem_append_left h1]; exact h2⟩
    · obtain rfl := List.mem_singleton.1 hx
      have e : ((num p (t + 1)).n - 1).toNat = sent.length := by show (t + 1 - 1).toNat = _; omega
      refine ⟨by rw [List.length_append, e]; show sent.length < sent.length + 1; omega, ?_⟩
      simp [e]
  · rw [cnt_post]
    by_cases e : z = t + 1
    · subst e
      rw [if_pos rfl, if_pos rfl, h.left]
    · rw [if_neg e, if_neg e, h.left]
      omega
theorem Once.take (h : Once l t sent left) {i : Nat} (hi : i < l.length) : Once (rest l i) t sent (fun z => if z = l[i].n then left l[i].n - 1 else left z) := by
  refine ⟨rest_right h.right hi, h.many, fun x hx => h.same x (rest_mem hx), fun z => ?_⟩
  rw [cnt_rest hi]
  by_cases e : z = l[i].n
  · rw [if_pos e, if_pos e, e, h.left]
  · rw [if_neg e, if_neg e, h.left]
    omega
theorem Once.twice (h : Once l t sent left) {i : Nat} (hi : i < l.length) (hl : l.length < 64) : Once (Net.twice l i hi) t sent (fun z => if z = l[i].n then left l[i].n + 1 else left z) := by
  refine ⟨twice_right h.right hi hl, h.many, fun x hx => ?_, fun z => ?_⟩
  · unfold Net.twice at hx
    rcases List.mem_append.1 hx with hx | hx
    · exact h.same x hx
    · obtain rfl := List.mem_singleton.1 hx
      exact h.same _ (List.getElem_mem hi)
  · rw [cnt_twice hi]
    by_cases e : z = l[i].n
    · rw [if_pos e, if_pos e, e, h.left]
    · rw [if_neg e, if_neg e, h.left]
      omega
theorem Once.last (h : Once l t sent left) {i : Nat} (hi : i < l.length) : Once (Net.last l i hi) t sent left := by
  refine ⟨last_right h.right hi, h.many, fun x hx => ?_, fun z => by rw [cnt_last hi]; exact h.left z⟩
  unfold Net.last at hx
  rcases List.mem_append.1 hx with hx | hx
  · exact h.same x (rest_mem hx)
  · obtain rfl := List.mem_singleton.1 hx
    exact h.same _ (List.getElem_mem hi)
/-- What is taken is what was sent; and it was left to be taken. -/
theorem Once.taken (h : Once l t sent left) {i : Nat} (hi : i < l.length) : (∃ (hs : (l[i].n - 1).toNat < sent.length), sent[(l[i].n - 1).toNat] = l[i]) ∧ 1 ≤ l[i].n ∧ l[i].n ≤ sent.length ∧ 1 ≤ left l[i].n := by
  have h1 := h.right.2.2 _ (List.getElem_mem hi)
  have h2 := cnt_pos hi
  rw [← h.left] at h2
  exact ⟨h.same _ (List.getElem_mem hi), h1.2.1, by rw [h.many]; exact h1.2.2, h2⟩
end Go.Proofs.Ytkfjhfneagjejaa.Net
