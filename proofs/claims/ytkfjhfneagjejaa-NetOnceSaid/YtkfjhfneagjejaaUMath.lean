/-
  What is told until it is answered (outbox), as plain mathematics: which may be, what putting, doing, finding and telling makes of it. No program in it.
-/
import Derived.PlainAid
namespace Go.Proofs.Ytkfjhfneagjejaa.Outbox

/-- Something told: its key, kind, order, and when it is told again. -/
structure Ot where
  y : Int
  k : Int
  o : Int
  d : Int
theorem Ot.same {a b : Ot} (h1 : a.y = b.y) (h2 : a.k = b.k) (h3 : a.o = b.o) (h4 : a.d = b.d) : a = b := by cases a; cases b; simp only at h1 h2 h3 h4; rw [h1, h2, h3, h4]
instance (a b : Ot) : Decidable (a = b) := if h : a.y = b.y ∧ a.k = b.k ∧ a.o = b.o ∧ a.d = b.d then .isTrue (Ot.same h.1 h.2.1 h.2.2.1 h.2.2.2) else .isFalse (fun e => h (by rw [e]; exact ⟨rfl, rfl, rfl, rfl⟩))
def noT : Ot := ⟨0, 0, 0, 0⟩
/-- May it be? -/
def mayU (x : Ot) : Bool := decide (1 ≤ x.y ∧ x.y ≤ 1099511627776 ∧ 1 ≤ x.o ∧ x.o ≤ 1099511627776 ∧ 1 ≤ x.k ∧ x.k ≤ 3 ∧ 0 ≤ x.d ∧ x.d ≤ 1099511627776)
theorem mayU_t {x : Ot} : mayU x = true ↔ (1 ≤ x.y ∧ x.y ≤ 1099511627776 ∧ 1 ≤ x.o ∧ x.o ≤ 1099511627776 ∧ 1 ≤ x.k ∧ x.k ≤ 3 ∧ 0 ≤ x.d ∧ x.d ≤ 1099511627776) := by unfold mayU; exact decide_eq_true_iff
theorem mayU_f {x : Ot} : mayU x = false ↔ ¬ (1 ≤ x.y ∧ x.y ≤ 1099511627776 ∧ 1 ≤ x.o ∧ x.o ≤ 1099511627776 ∧ 1 ≤ x.k ∧ x.k ≤ 3 ∧ 0 ≤ x.d ∧ x.d ≤ 1099511627776) := by unfold mayU; exact decide_eq_false_iff_not
/-- Is it of that kind and order? Of that key? -/
def ofB (k o : Int) (x : Ot) : Bool := decide (x.k = k ∧ x.o = o)
def keyB (y : Int) (x : Ot) : Bool := decide (x.y = y)
theorem ofB_t {k o : Int} {x : Ot} : ofB k o x = true ↔ (x.k = k ∧ x.o = o) := by unfold ofB; exact decide_eq_true_iff
theorem ofB_f {k o : Int} {x : Ot} : ofB k o x = false ↔ ¬ (x.k = k ∧ x.o = o) := by unfold ofB; exact decide_eq_false_iff_not
theorem keyB_t {y : Int} {x : Ot} : keyB y x = true ↔ x.y = y := by unfold keyB; exact decide_eq_true_iff
theorem keyB_f {y : Int} {x : Ot} : keyB y x = false ↔ ¬ x.y = y := by unfold keyB; exact decide_eq_false_iff_not
/-- An earlier one beside a later one. -/
def Ahead (a b : Ot) : Prop := a.y < b.y ∧ ¬ (a.k = b.k ∧ a.o = b.o)
instance (a b : Ot) : Decidable (Ahead a b) := by unfold Ahead; exact inferInstance
def RightP (l : List Ot) (t : Int) : Prop := l.length ≤ 96 ∧ (0 ≤ t ∧ t ≤ 1099511627776) ∧ (∀ x ∈ l, mayU x = true ∧ x.y ≤ t) ∧ l.Pairwise Ahead
instance (l : List Ot) (t : Int) : Decidable (RightP l t) := by unfold RightP; exact inferInstance
def rightB (l : List Ot) (t : Int) : Bool := decide (RightP l t)
theorem rightB_t {l : List Ot} {t : Int} : rightB l t = true ↔ RightP l t := by unfold rightB; exact decide_eq_true_iff
theorem rightB_f {l : List Ot} {t : Int} : rightB l t = false ↔ ¬ RightP l t := by unfold rightB; exact decide_eq_false_iff_not
/-- As the reference looks, one by one. -/
def Sound (l : List Ot) (t : Int) (i : Nat) : Prop := ∀ (h : i < l.length), mayU l[i] = true ∧ l[i].y ≤ t ∧ ∀ j (hj : j < i), Ahead l[j] l[i]
theorem right_of {l : List Ot} {t : Int} (hn : l.length ≤ 96) (ht : 0 ≤ t ∧ t ≤ 1099511627776) (h : ∀ i, i < l.length → Sound l t i) : rightB l t = true := by
  refine rightB_t.2 ⟨hn, ht, fun x hx => ?_, List.pairwise_iff_getElem.2 fun i j hi hj hij => (h j hj hj).2.2 i hij⟩
  obtain ⟨i, hi, rfl⟩ := List.mem_iff_getElem.1 hx
  exact ⟨(h i hi hi).1, (h i hi hi).2.1⟩
theorem right_may {l : List Ot} {t : Int} {i : Nat} (hi : i < l.length) (h : ¬ (mayU l[i] = true ∧ l[i].y ≤ t)) : rightB l t = false := rightB_f.2 fun hr => h (hr.2.2.1 _ (List.getElem_mem hi))
theorem right_pair {l : List Ot} {t : Int} {i j : Nat} (hi : i < l.length) (hj : j < i) (h : ¬ Ahead l[j] l[i]) : rightB l t = false := rightB_f.2 fun hr => h (List.pairwise_iff_getElem.1 hr.2.2.2 j i (by omega) hi hj)
theorem right_long {l : List Ot} {t : Int} (h : 96 < l.length) : rightB l t = false := rightB_f.2 fun hr => by have := hr.1; omega
theorem right_last {l : List Ot} {t : Int} (h : ¬ (0 ≤ t ∧ t ≤ 1099511627776)) : rightB l t = false := rightB_f.2 fun hr => h hr.2.1
/-- Keys rise step by step, so they rise. -/
theorem rise_of {l : List Ot} (h : ∀ i (hi : i + 1 < l.length), l[i].y < l[i + 1].y) : l.Pairwise (fun a b => a.y < b.y) := by
  refine List.pairwise_iff_getElem.2 fun i j hi hj hij => ?_
  induction j with
  | zero => omega
  | succ j ih =>
    by_cases e : i = j
    · subst e; exact h i hj
    · have := ih (by omega) (by omega)
      have := h j hj
      omega
theorem ahead_of {l : List Ot} (h1 : l.Pairwise (fun a b => a.y < b.y)) (h2 : l.Pairwise (fun a b => ¬ (a.k = b.k ∧ a.o = b.o))) : l.Pairwise Ahead := h1.and h2
/-- The first of a kind and order; the first of a key. -/
def find (l : List Ot) (k o : Int) : Option Ot := l.find? (ofB k o)
def get (l : List Ot) (y : Int) : Option Ot := l.find? (keyB y)
/-- What is put behind; what is left; what is told; what stands behind that. -/
def put (l : List Ot) (t k o n : Int) : List Ot := l ++ [⟨t + 1, k, o, n⟩]
def done (l : List Ot) (y : Int) : List Ot := l.filter (fun x => !keyB y x)
def told (l : List Ot) (n : Int) : List Ot := l.filter (fun x => decide (x.d ≤ n))
def next (n : Int) : Int := if n + 10 ≤ 1099511627776 then n + 10 else 1099511627776
def later (n : Int) (x : Ot) : Ot := if x.d ≤ n then { x with d := next n } else x
def tell (l : List Ot) (n : Int) : List Ot := l.map (later n)
theorem next_bd {n : Int} (h : 0 ≤ n ∧ n ≤ 1099511627776) : 0 ≤ next n ∧ next n ≤ 1099511627776 := by unfold next; split <;> omega
theorem later_y (n : Int) (x : Ot) : (later n x).y = x.y := by unfold later; split <;> rfl
theorem later_k (n : Int) (x : Ot) : (later n x).k = x.k := by unfold later; split <;> rfl
theorem later_o (n : Int) (x : Ot) : (later n x).o = x.o := by unfold later; split <;> rfl
theorem right_sub {l m : List Ot} {t : Int} (h : RightP l t) (hs : m.Sublist l) : RightP m t :=
  ⟨Nat.le_trans hs.length_le h.1, h.2.1, fun x hx => h.2.2.1 x (hs.subset hx), h.2.2.2.sublist hs⟩
theorem done_right {l : List Ot} {t : Int} (h : RightP l t) (y : Int) : RightP (done l y) t := right_sub h List.filter_sublist
theorem put_right {l : List Ot} {t k o n : Int} (h : RightP l t) (hl : l.length < 96) (ht : t < 1099511627776) (hk : 1 ≤ k ∧ k ≤ 3) (ho : 1 ≤ o ∧ o ≤ 1099511627776) (hn : 0 ≤ n ∧ n ≤ 1099511627776) (hf : find l k o = none) : RightP (put l t k o n) (t + 1) := by
  have h0 := h.2.1
  refine ⟨by unfold put; rw [List.length_append]; show l.length + 1 ≤ 96; omega, by omega, fun x hx => ?_, List.pairwise_append.2 ⟨h.2.2.2, List.pairwise_singleton _ _, fun a ha b hb => ?_⟩⟩
  · rcases List.mem_append.1 hx with hx | hx
    · have := h.2.2.1 x hx
      exact ⟨this.1, by omega⟩
    · obtain rfl := List.mem_singleton.1 hx
      exact ⟨mayU_t.2 ⟨by show 1 ≤ t + 1; omega, by show t + 1 ≤ _; omega, ho.1, ho.2, hk.1, hk.2, hn.1, hn.2⟩, Int.le_refl _⟩
  · obtain rfl := List.mem_singleton.1 hb
    have h1 := h.2.2.1 a ha
    have h2 := List.find?_eq_none.1 hf a ha
    exact ⟨by show a.y < t + 1; omega, fun e => h2 (ofB_t.2 e)⟩
theorem tell_right {l : List Ot} {t n : Int} (h : RightP l t) (hn : 0 ≤ n ∧ n ≤ 1099511627776) : RightP (tell l n) t := by
  refine ⟨by unfold tell; rw [List.length_map]; exact h.1, h.2.1, fun x hx => ?_, List.pairwise_map.2 (h.2.2.2.imp fun {a b} ha => ?_)⟩
  · obtain ⟨z, hz, rfl⟩ := List.mem_map.1 hx
    have h1 := h.2.2.1 z hz
    have h2 := mayU_t.1 h1.1
    have h3 := next_bd hn
    refine ⟨mayU_t.2 ?_, by rw [later_y]; exact h1.2⟩
    rw [later_y, later_k, later_o]
    refine ⟨h2.1, h2.2.1, h2.2.2.1, h2.2.2.2.1, h2.2.2.2.2.1, h2.2.2.2.2.2.1, ?_⟩
    unfold later
    split
    · exact h3
    · exact h2.2.2.2.2.2.2
  · unfold Ahead
    rw [later_y, later_y, later_k, later_k, later_o, later_o]
    exact ha
theorem get_some {l : List Ot} {y : Int} {x : Ot} (h : get l y = some x) : x ∈ l ∧ x.y = y := ⟨List.mem_of_find?_eq_some h, keyB_t.1 (by have := List.find?_some h; simpa using this)⟩
theorem get_none {l : List Ot} {y : Int} : get l y = none ↔ ∀ x ∈ l, x.y ≠ y := by
  unfold get
  rw [List.find?_eq_none]
  exact ⟨fun h x hx e => h x hx (keyB_t.2 e), fun h x hx e => h x hx (keyB_t.1 e)⟩
theorem find_some {l : List Ot} {k o : Int} {x : Ot} (h : find l k o = some x) : x ∈ l ∧ x.k = k ∧ x.o = o := ⟨List.mem_of_find?_eq_some h, ofB_t.1 (by have := List.find?_some h; simpa using this)⟩
/-- By its key each stands once. -/
theorem key_once {l : List Ot} {t : Int} (h : RightP l t) {a b : Ot} (ha : a ∈ l) (hb : b ∈ l) (e : a.y = b.y) : a = b := by
  obtain ⟨i, hi, rfl⟩ := List.mem_iff_getElem.1 ha
  obtain ⟨j, hj, rfl⟩ := List.mem_iff_getElem.1 hb
  have hp := List.pairwise_iff_getElem.1 h.2.2.2
  rcases Nat.lt_trichotomy i j with hij | hij | hij
  · have := (hp i j hi hj hij).1; omega
  · subst hij; rfl
  · have := (hp j i hj hi hij).1; omega
/-- What is done is left out, and nothing else. -/
theorem mem_done {l : List Ot} {y : Int} {x : Ot} : x ∈ done l y ↔ x ∈ l ∧ x.y ≠ y := by
  unfold done
  rw [List.mem_filter]
  constructor
  · rintro ⟨h1, h2⟩; exact ⟨h1, by simpa [keyB] using h2⟩
  · rintro ⟨h1, h2⟩; exact ⟨h1, by simpa [keyB] using h2⟩
theorem done_none {l : List Ot} {y : Int} (h : get l y = none) : done l y = l := List.filter_eq_self.2 fun x hx => by simpa [keyB] using get_none.1 h x hx
/-- One less. -/
theorem done_length {l : List Ot} {t y : Int} (h : RightP l t) {x : Ot} (hx : get l y = some x) : (done l y).length + 1 = l.length := by
  have key : ∀ (m : List Ot), m.Pairwise Ahead → x ∈ m → (m.filter (fun z => !keyB x.y z)).length + 1 = m.length := by
    intro m hm hxm
    induction m with
    | nil => cases hxm
    | cons a r ih =>
      have hp := List.pairwise_cons.1 hm
      by_cases e : a.y = x.y
      · have hr : r.filter (fun z => !keyB x.y z) = r := List.filter_eq_self.2 fun z hz => by
          have := (hp.1 z hz).1
          have hne : z.y ≠ x.y := by omega
          simpa [keyB] using hne
        rw [List.filter_cons_of_neg (by simpa [keyB] using e), hr]
        rfl
      · have hr : x ∈ r := by
          rcases List.mem_cons.1 hxm with e2 | h2
          · exact absurd (by rw [e2]) e
          · exact h2
        rw [List.filter_cons_of_pos (by simpa [keyB] using e), List.length_cons, List.length_cons, ih hp.2 hr]
  obtain ⟨h1, rfl⟩ := get_some hx
  exact key l h.2.2.2 h1
theorem mem_told {l : List Ot} {n : Int} {x : Ot} : x ∈ told l n ↔ x ∈ l ∧ x.d ≤ n := by
  unfold told
  rw [List.mem_filter, decide_eq_true_eq]
/-- Row by row, as the reference goes. -/
theorem filter_take (l : List Ot) (p : Ot → Bool) {i : Nat} (h : i < l.length) : (l.take (i + 1)).filter p = if p l[i] = true then (l.take i).filter p ++ [l[i]] else (l.take i).filter p := by
  rw [List.take_succ_eq_append_getElem h, List.filter_append]
  by_cases hp : p l[i] = true
  · rw [if_pos hp, List.filter_cons_of_pos hp, List.filter_nil]
  · rw [if_neg hp, List.filter_cons_of_neg hp, List.filter_nil, List.append_nil]
theorem map_take (l : List Ot) (f : Ot → Ot) {i : Nat} (h : i < l.length) : (l.take (i + 1)).map f = (l.take i).map f ++ [f l[i]] := by
  rw [List.take_succ_eq_append_getElem h, List.map_append, List.map_cons, List.map_nil]
end Go.Proofs.Ytkfjhfneagjejaa.Outbox
