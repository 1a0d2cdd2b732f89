/-
  Goods, as plain mathematics: what may be stays such; rules put in either order make the same; each is alone of its rank.
-/
import Derived.Test.YthhadeohabkleaaGHold
namespace Go.Proofs.Ythhadeohabkleaa.Goods

theorem right_in {s : List ByteArray} {l : List Sb} : rightB s l = true ↔ skusB s = true ∧ l.length ≤ 16 ∧ (∀ x ∈ l, mayB x = true ∧ amongB x s = true) ∧ l.Pairwise (fun a b => belowB a b = true) ∧ l.Pairwise (fun a b => toB a b = false) := by
  unfold rightB subsB risesB twiceB amongB
  simp only [Bool.and_eq_true, decide_eq_true_eq, List.all_eq_true, Bool.not_not]
  constructor
  · rintro ⟨h1, ⟨⟨h2, h3⟩, h4⟩, h5⟩
    exact ⟨h1, h2, fun x hx => ⟨(h3 x hx).1, (h3 x hx).2⟩, h4, by simpa using h5⟩
  · rintro ⟨h1, h2, h3, h4, h5⟩
    exact ⟨h1, ⟨⟨h2, fun x hx => ⟨(h3 x hx).1, (h3 x hx).2⟩⟩, h4⟩, by simpa using h5⟩
theorem rule_in {s : List ByteArray} {l : List Sb} {x : Sb} : ruleE s l x = 0 ↔ rightB s l = true ∧ mayB x = true ∧ amongB x s = true ∧ (∀ o ∈ l, clashB o x = false) ∧ l.length ≠ 16 := by
  rcases rule_ways s l x with ⟨h1, e⟩ | ⟨h1, h2, e⟩ | ⟨h1, h2, h3, e⟩ | ⟨h1, h2, h3, h4, e⟩ | ⟨h1, h2, h3, h4, h5, e⟩ | ⟨h1, h2, h3, h4, h5, e⟩
  · simp [e, h1]
  · simp [e, h2]
  · simp [e, h3]
  · rw [e]
    obtain ⟨o, ho, hc⟩ := List.any_eq_true.1 h4
    constructor
    · intro h; cases h
    · rintro ⟨_, _, _, h, _⟩
      rw [h o ho] at hc
      cases hc
  · simp [e, h5]
  · rw [e]
    refine ⟨fun _ => ⟨h1, h2, h3, fun o ho => ?_, h5⟩, fun _ => rfl⟩
    have := List.any_eq_false.1 h4 o ho
    simpa using this
theorem clash_not {o x : Sb} (h : clashB o x = false) : rankB o x = false ∧ toB o x = false := by
  unfold clashB at h
  simpa using h
theorem rank_symm (a b : Sb) : rankB a b = rankB b a := by
  unfold rankB
  exact decide_eq_decide.2 ⟨fun h => ⟨h.1.symm, h.2.symm⟩, fun h => ⟨h.1.symm, h.2.symm⟩⟩
theorem to_symm (a b : Sb) : toB a b = toB b a := by
  unfold toB
  exact decide_eq_decide.2 ⟨fun h => ⟨h.1.symm, h.2.symm⟩, fun h => ⟨h.1.symm, h.2.symm⟩⟩
theorem clash_symm (a b : Sb) : clashB a b = clashB b a := by unfold clashB; rw [rank_symm, to_symm]
theorem apart_ways {o x : Sb} (h : rankB o x = false) : belowB o x = true ∨ belowB x o = true := by
  cases h1 : belowB o x with
  | true => exact .inl rfl
  | false =>
    cases h2 : belowB x o with
    | true => exact .inr rfl
    | false =>
      have := belowB_total h1 h2
      unfold rankB at h
      rw [decide_eq_true this] at h
      cases h

/-- Put into a row that rises, it rises. -/
theorem put_rises {α : Type} {lt : α → α → Bool} (ht : ∀ a b c, lt a b = true → lt b c = true → lt a c = true) {x : α} : ∀ {l : List α}, l.Pairwise (fun a b => lt a b = true) → (∀ o ∈ l, lt o x = true ∨ lt x o = true) → (putL (fun o => lt o x) x l).Pairwise (fun a b => lt a b = true)
  | [], _, _ => by simp [putL]
  | y :: l, hp, hc => by
    rw [List.pairwise_cons] at hp
    by_cases hy : lt y x = true
    · have ih := put_rises ht hp.2 (fun o ho => hc o (List.mem_cons_of_mem _ ho))
      have e : putL (fun o => lt o x) x (y :: l) = y :: putL (fun o => lt o x) x l := by
        unfold putL
        simp [hy]
      rw [e, List.pairwise_cons]
      refine ⟨fun o ho => ?_, ih⟩
      rcases put_mem.1 ho with rfl | ho
      · exact hy
      · exact hp.1 o ho
    · have e : putL (fun o => lt o x) x (y :: l) = x :: y :: l := by
        unfold putL
        simp [hy]
      have hxy : lt x y = true := (hc y (List.mem_cons_self ..)).resolve_left hy
      rw [e, List.pairwise_cons, List.pairwise_cons]
      refine ⟨fun o ho => ?_, hp⟩
      rcases List.mem_cons.1 ho with rfl | ho
      · exact hxy
      · exact ht _ _ _ hxy (hp.1 o ho)
theorem put_perm {α : Type} (p : α → Bool) (x : α) (l : List α) : (putL p x l).Perm (x :: l) := by
  unfold putL
  refine List.perm_middle.trans ?_
  rw [List.takeWhile_append_dropWhile]
/-- Two rows that rise, of the same, are the same. -/
theorem rises_same {α : Type} {lt : α → α → Bool} (hi : ∀ a, lt a a = false) (ht : ∀ a b c, lt a b = true → lt b c = true → lt a c = true) : ∀ {l m : List α}, l.Pairwise (fun a b => lt a b = true) → m.Pairwise (fun a b => lt a b = true) → (∀ x, x ∈ l ↔ x ∈ m) → l = m
  | [], [], _, _, _ => rfl
  | [], y :: m, _, _, h => absurd ((h y).2 (List.mem_cons_self ..)) List.not_mem_nil
  | x :: l, [], _, _, h => absurd ((h x).1 (List.mem_cons_self ..)) List.not_mem_nil
  | x :: l, y :: m, hl, hm, h => by
    rw [List.pairwise_cons] at hl hm
    have hno : ∀ {a b : α}, lt a b = true → lt b a = true → False := fun h1 h2 => by
      have := ht _ _ _ h1 h2
      rw [hi] at this
      cases this
    have e : x = y := by
      rcases List.mem_cons.1 ((h x).1 (List.mem_cons_self ..)) with e | hx
      · exact e
      · rcases List.mem_cons.1 ((h y).2 (List.mem_cons_self ..)) with e | hy
        · exact e.symm
        · exact (hno (hl.1 y hy) (hm.1 x hx)).elim
    subst e
    have : l = m := rises_same hi ht hl.2 hm.2 (fun z => by
      have hz := h z
      rw [List.mem_cons, List.mem_cons] at hz
      constructor
      · intro hzl
        rcases hz.1 (.inr hzl) with rfl | hzm
        · have := hl.1 z hzl
          rw [hi] at this
          cases this
        · exact hzm
      · intro hzm
        rcases hz.2 (.inr hzm) with rfl | hzl
        · have := hm.1 z hzm
          rw [hi] at this
          cases this
        · exact hzl)
    rw [this]
theorem below_tr (a b c : Sb) (h1 : belowB a b = true) (h2 : belowB b c = true) : belowB a c = true := belowB_trans h1 h2

/-- A rule more. -/
def putR (x : Sb) (l : List Sb) : List Sb := putL (fun o => belowB o x) x l
theorem rule_stays {s : List ByteArray} {l : List Sb} {x : Sb} (h : ruleE s l x = 0) : rightB s (putR x l) = true := by
  obtain ⟨h1, h2, h3, h4, h5⟩ := rule_in.1 h
  obtain ⟨r1, r2, r3, r4, r5⟩ := right_in.1 h1
  refine right_in.2 ⟨r1, ?_, fun y hy => ?_, ?_, ?_⟩
  · unfold putR; rw [put_length]; omega
  · rcases put_mem.1 hy with rfl | hy
    · exact ⟨h2, h3⟩
    · exact r3 y hy
  · exact put_rises below_tr r4 (fun o ho => apart_ways (clash_not (h4 o ho)).1)
  · have hs : ∀ {a b : Sb}, toB a b = false → toB b a = false := fun hab => by rw [to_symm]; exact hab
    refine ((put_perm _ x l).pairwise_iff (fun hab => hs hab)).2 ?_
    rw [List.pairwise_cons]
    exact ⟨fun o ho => by rw [to_symm]; exact (clash_not (h4 o ho)).2, r5⟩
theorem rule_turned {s : List ByteArray} {l : List Sb} {a b : Sb} (ha : ruleE s l a = 0) (hb : ruleE s (putR a l) b = 0) : ruleE s l b = 0 ∧ ruleE s (putR b l) a = 0 ∧ putR a (putR b l) = putR b (putR a l) := by
  obtain ⟨a1, a2, a3, a4, a5⟩ := rule_in.1 ha
  obtain ⟨b1, b2, b3, b4, b5⟩ := rule_in.1 hb
  have hlen : (putR a l).length = l.length + 1 := put_length _ _ _
  obtain ⟨r1, r2, _⟩ := right_in.1 a1
  obtain ⟨_, q2, _⟩ := right_in.1 b1
  rw [hlen] at b5 q2
  have hbl : ∀ o ∈ l, clashB o b = false := fun o ho => b4 o (put_mem.2 (.inr ho))
  have hab : clashB a b = false := b4 a (put_mem.2 (.inl rfl))
  have e1 : ruleE s l b = 0 := rule_in.2 ⟨a1, b2, b3, hbl, by omega⟩
  have e2 : ruleE s (putR b l) a = 0 := by
    refine rule_in.2 ⟨rule_stays e1, a2, a3, fun o ho => ?_, ?_⟩
    · rcases put_mem.1 ho with rfl | ho
      · rw [clash_symm]; exact hab
      · exact a4 o ho
    · unfold putR; rw [put_length]; omega
  refine ⟨e1, e2, rises_same belowB_self below_tr (right_in.1 (rule_stays e2)).2.2.2.1 (right_in.1 (rule_stays hb)).2.2.2.1 fun x => ?_⟩
  unfold putR
  rw [put_mem, put_mem, put_mem, put_mem]
  constructor
  · rintro (h | h | h)
    · exact .inr (.inl h)
    · exact .inl h
    · exact .inr (.inr h)
  · rintro (h | h | h)
    · exact .inr (.inl h)
    · exact .inl h
    · exact .inr (.inr h)

/-- How many of a rank. -/
def cntL (r : Int) (l : List Sb) : Nat := (l.filter (fun o => decide (o.r = r))).length
theorem cnt_yes {r : Int} {l : List Sb} {k : Nat} (hk : k < l.length) (e : l[k].r = r) : cntL r (l.take (k + 1)) = cntL r (l.take k) + 1 := by
  unfold cntL
  rw [List.take_succ_eq_append_getElem hk, List.filter_append]
  simp [e]
theorem cnt_no {r : Int} {l : List Sb} {k : Nat} (hk : k < l.length) (e : ¬ l[k].r = r) : cntL r (l.take (k + 1)) = cntL r (l.take k) := by
  unfold cntL
  rw [List.take_succ_eq_append_getElem hk, List.filter_append]
  simp [e]
theorem cnt_len (r : Int) (l : List Sb) (k : Nat) : cntL r (l.take k) ≤ l.length := by
  have h1 : cntL r (l.take k) ≤ (l.take k).length := List.length_filter_le _ _
  rw [List.length_take] at h1
  omega
/-- Of its name, each rule is alone of its rank. -/
theorem alone {s : List ByteArray} {l : List Sb} {a : Sb} (h : ruleE s l a = 0) : (∀ o ∈ forL a.f (putR a l), o.r = a.r → o = a) ∧ cntL a.r (forL a.f (putR a l)) = 1 := by
  obtain ⟨_, _, _, h4, _⟩ := rule_in.1 h
  have hno : ∀ o ∈ l, o.f = a.f → ¬ o.r = a.r := fun o ho h1 h2 => by
    have := (clash_not (h4 o ho)).1
    unfold rankB at this
    rw [decide_eq_true ⟨h1, h2⟩] at this
    cases this
  constructor
  · intro o ho hr
    obtain ⟨ho, hf⟩ := List.mem_filter.1 ho
    rcases put_mem.1 ho with rfl | ho
    · rfl
    · exact absurd hr (hno o ho (by simpa using hf))
  · unfold cntL forL
    rw [List.filter_filter]
    have hp := (put_perm (fun o => belowB o a) a l).filter (fun o => decide (o.r = a.r) && decide (o.f = a.f))
    have he : (a :: l).filter (fun o => decide (o.r = a.r) && decide (o.f = a.f)) = [a] := by
      rw [List.filter_cons]
      simp only [decide_true, Bool.and_self, if_true]
      rw [List.filter_eq_nil_iff.2 ?_]
      intro o ho
      have := hno o ho
      simp only [Bool.and_eq_true, decide_eq_true_eq]
      exact fun h => this h.2 h.1
    rw [he] at hp
    exact hp.length_eq
end Go.Proofs.Ythhadeohabkleaa.Goods
