/-
  Stock, as plain mathematics: rows, which stock may be, the row of a name, what coming in and moving makes. No program in it.
-/
import Derived.Test.YtihfdeihpdkjcaaGOrd
namespace Go.Proofs.Ytihfdeihpdkjcaa.Goods.Stk
open Go

/-- A row: of what, how many came in, are free, held, shipped, lost. -/
structure Rw where
  s : ByteArray
  n : Int
  f : Int
  h : Int
  p : Int
  t : Int
theorem Rw.same {a b : Rw} (h1 : a.s = b.s) (h2 : a.n = b.n) (h3 : a.f = b.f) (h4 : a.h = b.h) (h5 : a.p = b.p) (h6 : a.t = b.t) : a = b := by cases a; cases b; cases h1; cases h2; cases h3; cases h4; cases h5; cases h6; rfl
instance : DecidableEq Rw := fun a b =>
  if h : a.s = b.s ∧ a.n = b.n ∧ a.f = b.f ∧ a.h = b.h ∧ a.p = b.p ∧ a.t = b.t then .isTrue (Rw.same h.1 h.2.1 h.2.2.1 h.2.2.2.1 h.2.2.2.2.1 h.2.2.2.2.2)
  else .isFalse fun e => h (by rw [e]; exact ⟨rfl, rfl, rfl, rfl, rfl, rfl⟩)
def inP (n : Int) : Prop := 0 ≤ n ∧ n ≤ 1073741824
instance (n : Int) : Decidable (inP n) := by unfold inP; exact inferInstance
def addP (x : Rw) : Prop := inP x.n ∧ inP x.f ∧ inP x.h ∧ inP x.p ∧ inP x.t ∧ x.n = x.f + x.h + x.p + x.t
instance (x : Rw) : Decidable (addP x) := by unfold addP; exact inferInstance
def addB (x : Rw) : Bool := decide (addP x)
def unitP (n : Int) : Prop := 1 ≤ n ∧ n ≤ 1073741824
instance (n : Int) : Decidable (unitP n) := by unfold unitP; exact inferInstance
def ltR (a b : Rw) : Bool := ltT a.s b.s
def names (l : List Rw) : List ByteArray := l.map Rw.s
theorem names_len (l : List Rw) : (names l).length = l.length := by simp [names]
/-- May stock be? -/
def rightS (l : List Rw) : Bool := decide (l.length ≤ 8) && (skusB (names l) && l.all addB)
theorem rises_names (l : List Rw) : risesB ltT (names l) = risesB ltR l := by
  unfold risesB names ltR
  congr 1
  rw [List.pairwise_map]
theorem rightS_t {l : List Rw} : rightS l = true ↔ l.length ≤ 8 ∧ (∀ x ∈ l, nameB x.s = true) ∧ l.Pairwise (fun a b => ltR a b = true) ∧ ∀ x ∈ l, addP x := by
  unfold rightS skusB
  rw [names_len, rises_names]
  simp only [Bool.and_eq_true, decide_eq_true_eq, List.all_eq_true, addB, risesB, names, List.mem_map]
  constructor
  · rintro ⟨h1, ⟨⟨_, h2⟩, h3⟩, h4⟩
    exact ⟨h1, fun x hx => h2 _ ⟨x, hx, rfl⟩, h3, h4⟩
  · rintro ⟨h1, h2, h3, h4⟩
    exact ⟨h1, ⟨⟨h1, fun _ ⟨x, hx, e⟩ => e ▸ h2 x hx⟩, h3⟩, h4⟩

/-- The row of a name. -/
def getL (k : ByteArray) : List Rw → Option Rw
  | [] => none
  | y :: r => if y.s = k then some y else getL k r
/-- Rows with one so, in its place. -/
def setL (x : Rw) : List Rw → List Rw
  | [] => [x]
  | y :: r => if ltT y.s x.s = true then y :: setL x r else if y.s = x.s then x :: r else x :: y :: r
theorem getL_name {k : ByteArray} : ∀ {l : List Rw} {x : Rw}, getL k l = some x → x.s = k ∧ x ∈ l
  | [], _, h => by cases h
  | y :: r, x, h => by
    unfold getL at h
    split at h
    · rename_i e; cases h; exact ⟨e, List.mem_cons_self⟩
    · have := getL_name h; exact ⟨this.1, List.mem_cons_of_mem _ this.2⟩
theorem getL_none {k : ByteArray} : ∀ {l : List Rw}, getL k l = none → ∀ x ∈ l, x.s ≠ k
  | [], _, _, hx => by cases hx
  | y :: r, h, x, hx => by
    unfold getL at h
    split at h
    · cases h
    · rename_i e
      rcases List.mem_cons.1 hx with rfl | hx
      · exact e
      · exact getL_none h x hx
theorem getL_of {k : ByteArray} : ∀ {l : List Rw} {x : Rw}, (l.Pairwise (fun a b => ltR a b = true)) → x ∈ l → x.s = k → getL k l = some x
  | y :: r, x, hp, hx, e => by
    unfold getL
    rw [List.pairwise_cons] at hp
    rcases List.mem_cons.1 hx with rfl | hx
    · rw [if_pos e]
    · rw [if_neg (fun h => ltT_ne (hp.1 x hx) (h.trans e.symm)), getL_of hp.2 hx e]

theorem setL_head {x y : Rw} : ∀ {l : List Rw}, (∀ z ∈ l, ltT y.s z.s = true) → ltT y.s x.s = true → ∀ z ∈ setL x l, ltT y.s z.s = true
  | [], _, h2, z, hz => by rw [List.mem_singleton.1 hz]; exact h2
  | a :: r, h1, h2, z, hz => by
    unfold setL at hz
    split at hz
    · rcases List.mem_cons.1 hz with rfl | hz
      · exact h1 _ List.mem_cons_self
      · exact setL_head (fun z hz => h1 z (List.mem_cons_of_mem _ hz)) h2 z hz
    · split at hz
      · rcases List.mem_cons.1 hz with rfl | hz
        · exact h2
        · exact h1 _ (List.mem_cons_of_mem _ hz)
      · rcases List.mem_cons.1 hz with rfl | hz
        · exact h2
        · exact h1 _ hz
theorem setL_rises (x : Rw) : ∀ {l : List Rw}, l.Pairwise (fun a b => ltR a b = true) → (setL x l).Pairwise (fun a b => ltR a b = true)
  | [], _ => by simp [setL]
  | y :: r, h => by
    rw [List.pairwise_cons] at h
    unfold setL
    split
    · rename_i e
      rw [List.pairwise_cons]
      exact ⟨setL_head h.1 e, setL_rises x h.2⟩
    · rename_i e1
      split
      · rename_i e
        rw [List.pairwise_cons]
        exact ⟨fun z hz => by have := h.1 z hz; unfold ltR at *; rwa [← e], h.2⟩
      · rename_i e2
        have h3 : ltT x.s y.s = true := by
          cases hc : ltT x.s y.s with
          | true => rfl
          | false => exact absurd (ltT_total (by simpa using e1) hc) e2
        rw [List.pairwise_cons]
        refine ⟨fun z hz => ?_, List.pairwise_cons.2 h⟩
        rcases List.mem_cons.1 hz with rfl | hz
        · exact h3
        · exact ltT_trans h3 (h.1 z hz)
theorem setL_mem {x z : Rw} : ∀ {l : List Rw}, z ∈ setL x l → z = x ∨ z ∈ l
  | [], h => .inl (List.mem_singleton.1 h)
  | y :: r, h => by
    unfold setL at h
    split at h
    · rcases List.mem_cons.1 h with rfl | h
      · exact .inr List.mem_cons_self
      · exact (setL_mem h).imp id (List.mem_cons_of_mem _)
    · split at h
      · rcases List.mem_cons.1 h with rfl | h
        · exact .inl rfl
        · exact .inr (List.mem_cons_of_mem _ h)
      · rcases List.mem_cons.1 h with rfl | h
        · exact .inl rfl
        · exact .inr h
theorem setL_len_some {x r0 : Rw} : ∀ {l : List Rw}, l.Pairwise (fun a b => ltR a b = true) → getL x.s l = some r0 → (setL x l).length = l.length
  | y :: r, hp, h => by
    rw [List.pairwise_cons] at hp
    unfold getL at h
    unfold setL
    split at h
    · rename_i e
      rw [if_neg (by rw [e, ltT_self]; simp), if_pos e, List.length_cons, List.length_cons]
    · have hm := getL_name h
      have hl := hp.1 _ hm.2
      unfold ltR at hl
      rw [hm.1] at hl
      rw [if_pos hl, List.length_cons, setL_len_some hp.2 h, List.length_cons]
theorem setL_len_none {x : Rw} : ∀ {l : List Rw}, getL x.s l = none → (setL x l).length = l.length + 1
  | [], _ => rfl
  | y :: r, h => by
    unfold getL at h
    unfold setL
    split at h
    · cases h
    · rename_i e
      split
      · rw [List.length_cons, setL_len_none h, List.length_cons]
      · first | (rw [if_neg e, List.length_cons]; done) | rfl
theorem getL_setL {x : Rw} : ∀ {l : List Rw}, getL x.s (setL x l) = some x
  | [] => by simp [setL, getL]
  | y :: r => by
    unfold setL
    split
    · rename_i e
      unfold getL
      rw [if_neg (ltT_ne e), getL_setL]
    · split
      · unfold getL; rw [if_pos rfl]
      · unfold getL; rw [if_pos rfl]
theorem getL_setL_ne {x : Rw} {k : ByteArray} (hk : x.s ≠ k) : ∀ {l : List Rw}, getL k (setL x l) = getL k l
  | [] => by simp [setL, getL, hk]
  | y :: r => by
    unfold setL
    split
    · unfold getL; rw [getL_setL_ne hk]
    · split
      · rename_i e
        unfold getL
        rw [if_neg hk, if_neg (by rw [e]; exact hk)]
      · rw [getL, if_neg hk]
/-- Rows that rise, with the same row of each name, are the same. -/
theorem rows_ext : ∀ {l m : List Rw}, l.Pairwise (fun a b => ltR a b = true) → m.Pairwise (fun a b => ltR a b = true) → (∀ k, getL k l = getL k m) → l = m
  | [], [], _, _, _ => rfl
  | [], y :: r, _, _, h => by have := h y.s; simp [getL] at this
  | y :: r, [], _, _, h => by have := h y.s; simp [getL] at this
  | x :: l, y :: m, hl, hm, h => by
    have hl' := List.pairwise_cons.1 hl
    have hm' := List.pairwise_cons.1 hm
    have e : x = y := by
      have h1 := h x.s
      have h2 := h y.s
      rw [getL, if_pos rfl] at h1
      rw [getL, getL, if_pos rfl] at h2
      rw [getL] at h1
      split at h1
      · injection h1
      · rename_i n1
        split at h2
        · injection h2
        · rename_i n2
          have a1 := hm'.1 x (getL_name h1.symm).2
          have a2 := hl'.1 y (getL_name h2).2
          unfold ltR at a1 a2
          rw [ltT_not a1] at a2
          cases a2
    subst e
    rw [rows_ext hl'.2 hm'.2 fun k => ?_]
    have := h k
    rw [getL, getL] at this
    by_cases hk : x.s = k
    · cases h1 : getL k l with
      | some z => exact absurd (hk.trans (getL_name h1).1.symm) (ltT_ne (hl'.1 _ (getL_name h1).2))
      | none =>
        cases h2 : getL k m with
        | some z => exact absurd (hk.trans (getL_name h2).1.symm) (ltT_ne (hm'.1 _ (getL_name h2).2))
        | none => rfl
    · rwa [if_neg hk, if_neg hk] at this

/-- A number of a row, by its place; and a row with one so. -/
def fld : Nat → Rw → Int
  | 1, x => x.n
  | 2, x => x.f
  | 3, x => x.h
  | 4, x => x.p
  | _, x => x.t
def put : Nat → Int → Rw → Rw
  | 1, v, x => { x with n := v }
  | 2, v, x => { x with f := v }
  | 3, v, x => { x with h := v }
  | 4, v, x => { x with p := v }
  | _, v, x => { x with t := v }
theorem put_s (c : Nat) (v : Int) (x : Rw) : (put c v x).s = x.s := by unfold put; split <;> rfl
/-- Units go from one number to another one. -/
def mvR (c d : Nat) (n : Int) (x : Rw) : Rw := put d (fld d (put c (fld c x - n) x) + n) (put c (fld c x - n) x)
theorem mvR_s (c d : Nat) (n : Int) (x : Rw) : (mvR c d n x).s = x.s := by unfold mvR; rw [put_s, put_s]
/-- From where and to where the moves go. -/
def src : Nat → Nat
  | 1 => 2
  | 2 => 3
  | 3 => 3
  | _ => 2
def dst : Nat → Nat
  | 1 => 3
  | 2 => 2
  | 3 => 4
  | _ => 5
def zeroR (k : ByteArray) : Rw := ⟨k, 0, 0, 0, 0, 0⟩
def inR (n : Int) (x : Rw) : Rw := { x with n := x.n + n, f := x.f + n }
/-- The errors. -/
def moveE (q : Nat) (l : List Rw) (k : ByteArray) (n : Int) : Int :=
  if (rightS l && decide (unitP n)) = false then 1 else match getL k l with
  | none => 8
  | some x => if fld (src q) x < n then 11 else 0
def moveL (q : Nat) (l : List Rw) (k : ByteArray) (n : Int) : List Rw := match getL k l with
  | none => []
  | some x => setL (mvR (src q) (dst q) n x) l
def recvE (l : List Rw) (k : ByteArray) (n : Int) : Int :=
  if (rightS l && decide (unitP n) && nameB k) = false then 1 else match getL k l with
  | none => if l.length = 8 then 7 else 0
  | some x => if 1073741824 < x.n + n then 2 else 0
def recvL (l : List Rw) (k : ByteArray) (n : Int) : List Rw := setL (inR n ((getL k l).getD (zeroR k))) l
def moveO (q : Nat) (l : List Rw) (k : ByteArray) (n : Int) : List Rw := if moveE q l k n = 0 then moveL q l k n else []
def recvO (l : List Rw) (k : ByteArray) (n : Int) : List Rw := if recvE l k n = 0 then recvL l k n else []
theorem mvR_add {q : Nat} {n : Int} {x : Rw} (h : addP x) (hn : unitP n) (hs : n ≤ fld (src q) x) : addP (mvR (src q) (dst q) n x) := by
  obtain ⟨⟨a1, a2⟩, ⟨b1, b2⟩, ⟨c1, c2⟩, ⟨d1, d2⟩, ⟨e1, e2⟩, hx⟩ := h
  obtain ⟨n1, n2⟩ := hn
  unfold addP inP mvR
  unfold src at *
  unfold dst
  split at hs <;> simp only [fld, put] at * <;> omega
theorem inR_add {n : Int} {x : Rw} (h : addP x) (hn : unitP n) (hs : x.n + n ≤ 1073741824) : addP (inR n x) := by
  obtain ⟨⟨a1, a2⟩, ⟨b1, b2⟩, ⟨c1, c2⟩, ⟨d1, d2⟩, ⟨e1, e2⟩, hx⟩ := h
  obtain ⟨n1, n2⟩ := hn
  unfold addP inP inR
  simp only
  omega
theorem zero_add (k : ByteArray) : addP (zeroR k) := by unfold addP inP zeroR; simp only; omega
theorem moveE_ways (q : Nat) (l : List Rw) (k : ByteArray) (n : Int) :
    (rightS l = false ∧ moveE q l k n = 1) ∨ (rightS l = true ∧ ¬ unitP n ∧ moveE q l k n = 1) ∨ (rightS l = true ∧ unitP n ∧ getL k l = none ∧ moveE q l k n = 8) ∨
    ∃ x, rightS l = true ∧ unitP n ∧ getL k l = some x ∧ ((fld (src q) x < n ∧ moveE q l k n = 11) ∨ (¬ fld (src q) x < n ∧ moveE q l k n = 0 ∧ moveL q l k n = setL (mvR (src q) (dst q) n x) l)) := by
  unfold moveE moveL
  cases h1 : rightS l with
  | false => exact .inl ⟨rfl, rfl⟩
  | true =>
    by_cases h2 : unitP n
    · rw [decide_eq_true h2]
      cases h3 : getL k l with
      | none => exact .inr (.inr (.inl ⟨rfl, h2, rfl, rfl⟩))
      | some x =>
        refine .inr (.inr (.inr ⟨x, rfl, h2, rfl, ?_⟩))
        by_cases h4 : fld (src q) x < n
        · exact .inl ⟨h4, by simp [h4]⟩
        · exact .inr ⟨h4, by simp [h4], rfl⟩
    · rw [decide_eq_false h2]
      exact .inr (.inl ⟨rfl, h2, rfl⟩)
theorem recvE_ways (l : List Rw) (k : ByteArray) (n : Int) :
    (rightS l = false ∧ recvE l k n = 1) ∨ (rightS l = true ∧ ¬ unitP n ∧ recvE l k n = 1) ∨ (rightS l = true ∧ unitP n ∧ nameB k = false ∧ recvE l k n = 1) ∨
    (rightS l = true ∧ unitP n ∧ nameB k = true ∧ getL k l = none ∧ l.length = 8 ∧ recvE l k n = 7) ∨ (rightS l = true ∧ unitP n ∧ nameB k = true ∧ getL k l = none ∧ l.length ≠ 8 ∧ recvE l k n = 0 ∧ recvL l k n = setL (inR n (zeroR k)) l) ∨
    ∃ x, rightS l = true ∧ unitP n ∧ nameB k = true ∧ getL k l = some x ∧ ((1073741824 < x.n + n ∧ recvE l k n = 2) ∨ (¬ 1073741824 < x.n + n ∧ recvE l k n = 0 ∧ recvL l k n = setL (inR n x) l)) := by
  unfold recvE recvL
  cases h1 : rightS l with
  | false => exact .inl ⟨rfl, rfl⟩
  | true =>
    by_cases h2 : unitP n
    · rw [decide_eq_true h2]
      cases hk : nameB k with
      | false => exact .inr (.inr (.inl ⟨rfl, h2, rfl, rfl⟩))
      | true =>
        cases h3 : getL k l with
        | none =>
          by_cases h4 : l.length = 8
          · exact .inr (.inr (.inr (.inl ⟨rfl, h2, rfl, rfl, h4, by simp [h4]⟩)))
          · exact .inr (.inr (.inr (.inr (.inl ⟨rfl, h2, rfl, rfl, h4, by simp [h4], rfl⟩))))
        | some x =>
          refine .inr (.inr (.inr (.inr (.inr ⟨x, rfl, h2, rfl, rfl, ?_⟩))))
          by_cases h4 : 1073741824 < x.n + n
          · exact .inl ⟨h4, by simp [h4]⟩
          · exact .inr ⟨h4, by simp [h4], rfl⟩
    · rw [decide_eq_false h2]
      exact .inr (.inl ⟨rfl, h2, rfl⟩)
/-- What is done leaves stock that may be. -/
theorem move_right {q : Nat} {l : List Rw} {k : ByteArray} {n : Int} (h : moveE q l k n = 0) : rightS (moveL q l k n) = true := by
  rcases moveE_ways q l k n with ⟨_, e⟩ | ⟨_, _, e⟩ | ⟨_, _, _, e⟩ | ⟨x, h1, h2, h3, ⟨_, e⟩ | ⟨h4, _, e⟩⟩
  · rw [h] at e; cases e
  · rw [h] at e; cases e
  · rw [h] at e; cases e
  · rw [h] at e; cases e
  · rw [e]
    rw [rightS_t] at h1 ⊢
    obtain ⟨r1, r2, r3, r4⟩ := h1
    obtain ⟨g1, g2⟩ := getL_name h3
    have es : (mvR (src q) (dst q) n x).s = x.s := mvR_s _ _ _ _
    refine ⟨?_, fun y hy => ?_, setL_rises _ r3, fun y hy => ?_⟩
    · rw [setL_len_some r3 (r0 := x) (by rw [es, g1]; exact h3)]; exact r1
    · rcases setL_mem hy with rfl | hy
      · rw [es]; exact r2 _ g2
      · exact r2 _ hy
    · rcases setL_mem hy with rfl | hy
      · exact mvR_add (r4 _ g2) h2 (by omega)
      · exact r4 _ hy
theorem recv_right {l : List Rw} {k : ByteArray} {n : Int} (h : recvE l k n = 0) : rightS (recvL l k n) = true := by
  rcases recvE_ways l k n with ⟨_, e⟩ | ⟨_, _, e⟩ | ⟨_, _, _, e⟩ | ⟨_, _, _, _, _, e⟩ | ⟨h1, h2, hk, h3, h4, _, e⟩ | ⟨x, h1, h2, hk, h3, ⟨_, e⟩ | ⟨h4, _, e⟩⟩
  · rw [h] at e; cases e
  · rw [h] at e; cases e
  · rw [h] at e; cases e
  · rw [h] at e; cases e
  · rw [e]
    rw [rightS_t] at h1 ⊢
    obtain ⟨r1, r2, r3, r4⟩ := h1
    refine ⟨?_, fun y hy => ?_, setL_rises _ r3, fun y hy => ?_⟩
    · rw [setL_len_none (by exact h3)]; omega
    · rcases setL_mem hy with rfl | hy
      · exact hk
      · exact r2 _ hy
    · rcases setL_mem hy with rfl | hy
      · exact inR_add (zero_add k) h2 (by unfold zeroR; have := h2.2; simp only; omega)
      · exact r4 _ hy
  · rw [h] at e; cases e
  · rw [e]
    rw [rightS_t] at h1 ⊢
    obtain ⟨r1, r2, r3, r4⟩ := h1
    obtain ⟨g1, g2⟩ := getL_name h3
    refine ⟨?_, fun y hy => ?_, setL_rises _ r3, fun y hy => ?_⟩
    · rw [setL_len_some r3 (r0 := x) (by show getL x.s l = _; rw [g1]; exact h3)]; exact r1
    · rcases setL_mem hy with rfl | hy
      · exact (r2 _ g2 : nameB x.s = true)
      · exact r2 _ hy
    · rcases setL_mem hy with rfl | hy
      · exact inR_add (r4 _ g2) h2 (by omega)
      · exact r4 _ hy

/-- Where the row of a name is, or would be. -/
def posL (k : ByteArray) : List Rw → Nat
  | [] => 0
  | y :: r => if ltT y.s k = true then posL k r + 1 else 0
theorem posL_le (k : ByteArray) : ∀ l : List Rw, posL k l ≤ l.length
  | [] => Nat.le_refl _
  | y :: r => by unfold posL; split <;> simp [posL_le k r]
theorem posL_is {k : ByteArray} : ∀ {l : List Rw} {i : Nat}, i ≤ l.length → (∀ t (h : t < l.length), t < i → ltT l[t].s k = true) → (∀ (h : i < l.length), ltT l[i].s k = false) → posL k l = i
  | [], i, hi, _, _ => by simp at hi; simp [posL, hi]
  | y :: r, 0, _, _, h2 => by
    have := h2 (by simp)
    simp only [List.getElem_cons_zero] at this
    simp [posL, this]
  | y :: r, i + 1, hi, h1, h2 => by
    have := h1 0 (by simp) (by omega)
    simp only [List.getElem_cons_zero] at this
    unfold posL
    rw [if_pos this, posL_is (by simpa using hi) (fun t ht hti => h1 (t + 1) (by simpa using ht) (by omega)) (fun h => h2 (by simpa using h))]
theorem pos_some {k : ByteArray} {x : Rw} : ∀ {l : List Rw}, l.Pairwise (fun a b => ltR a b = true) → getL k l = some x → ∃ h : posL k l < l.length, l[posL k l] = x ∧ ∀ y : Rw, y.s = k → l.set (posL k l) y = setL y l
  | y :: r, hp, h => by
    rw [List.pairwise_cons] at hp
    unfold getL at h
    split at h
    · rename_i e
      cases h
      have e0 : posL k (x :: r) = 0 := by unfold posL; rw [if_neg (by rw [e, ltT_self]; simp)]
      simp only [e0]
      exact ⟨by simp, rfl, fun z hz => by simp only [List.set_cons_zero, setL]; rw [if_neg (by rw [hz, e, ltT_self]; simp), if_pos (e.trans hz.symm)]⟩
    · have hm := getL_name h
      have hl := hp.1 _ hm.2
      unfold ltR at hl
      rw [hm.1] at hl
      obtain ⟨h1, h2, h3⟩ := pos_some hp.2 h
      have e0 : posL k (y :: r) = posL k r + 1 := by rw [posL, if_pos hl]
      simp only [e0]
      exact ⟨by simpa using h1, by simpa using h2, fun z hz => by simp only [List.set_cons_succ, setL]; rw [hz, if_pos hl, h3 z hz]⟩
theorem pos_none {k : ByteArray} : ∀ {l : List Rw}, getL k l = none → ∀ y : Rw, y.s = k → l.take (posL k l) ++ y :: l.drop (posL k l) = setL y l
  | [], _, _, _ => rfl
  | z :: r, h, y, hy => by
    unfold getL at h
    split at h
    · cases h
    · rename_i e
      unfold posL setL
      rw [hy]
      split
      · rw [List.take_succ_cons, List.drop_succ_cons, List.cons_append, pos_none h y hy]
      · first | (rw [if_neg e]; rfl) | rfl
theorem pos_ne {k : ByteArray} {l : List Rw} (hn : getL k l = none) (h : posL k l < l.length) : l[posL k l].s ≠ k := getL_none hn _ (List.getElem_mem h)
end Go.Proofs.Ytihfdeihpdkjcaa.Goods.Stk
