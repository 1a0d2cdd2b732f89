/-
  Lines and indexes, as plain mathematics: which lines may be, which is ahead, sorted ones, and what putting, dropping, moving and asking makes of an index. No program in it.
-/
import Derived.Test.YtcehhgcfkoldfaaGOrd
import Derived.Test.YtcehhgcfkoldfaaQMath
namespace Go.Proofs.Ytcehhgcfkoldfaa.Waits
open Go.Sort Go.Proofs.Ytcehhgcfkoldfaa.Goods Go.Proofs.Ytcehhgcfkoldfaa.Queue

/-- A line: what is waited for, and the wait. -/
structure Ln where
  k : ByteArray
  w : Wt
instance : Inhabited Ln := ⟨⟨⟨#[]⟩, ⟨0, 0, 0⟩⟩⟩
theorem Ln.same {a b : Ln} (h1 : a.k = b.k) (h2 : a.w = b.w) : a = b := by cases a; cases b; cases h1; cases h2; rfl
instance (a b : Wt) : Decidable (a = b) := if h : a.c = b.c ∧ a.s = b.s ∧ a.o = b.o then .isTrue (Wt.same h.1 h.2.1 h.2.2) else .isFalse (fun e => h (by rw [e]; exact ⟨rfl, rfl, rfl⟩))
instance (a b : Ln) : Decidable (a = b) := if h : a.k = b.k ∧ a.w = b.w then .isTrue (Ln.same h.1 h.2) else .isFalse (fun e => h (by rw [e]; exact ⟨rfl, rfl⟩))
/-- May a line be, by itself? -/
def mayW (x : Wt) : Bool := decide (0 ≤ x.c ∧ x.c ≤ 3 ∧ 1 ≤ x.s ∧ x.s ≤ 1099511627776 ∧ 1 ≤ x.o ∧ x.o ≤ 1099511627776)
def mayL (x : Ln) : Bool := nameB x.k && mayW x.w
/-- Is a line ahead of another one? -/
def ltL (a b : Ln) : Bool := ltT a.k b.k || (decide (a.k = b.k) && ltB a.w b.w)
theorem ltL_t {a b : Ln} : ltL a b = true ↔ ltT a.k b.k = true ∨ (a.k = b.k ∧ ltB a.w b.w = true) := by unfold ltL; simp
theorem ltL_f {a b : Ln} : ltL a b = false ↔ ltT a.k b.k = false ∧ (a.k = b.k → ltB a.w b.w = false) := by
  unfold ltL
  simp
theorem ltL_self (x : Ln) : ltL x x = false := ltL_f.2 ⟨ltT_self _, fun _ => ltB_swo.irrefl _⟩
theorem ltL_trans {x y z : Ln} (h1 : ltL x y = true) (h2 : ltL y z = true) : ltL x z = true := by
  rw [ltL_t] at *
  rcases h1 with h1 | ⟨e1, h1⟩
  · rcases h2 with h2 | ⟨e2, h2⟩
    · exact .inl (ltT_trans h1 h2)
    · exact .inl (by rw [← e2]; exact h1)
  · rcases h2 with h2 | ⟨e2, h2⟩
    · exact .inl (by rw [e1]; exact h2)
    · exact .inr ⟨e1.trans e2, ltB_swo.trans _ _ _ h1 h2⟩
theorem ltL_anti {x y : Ln} (h1 : ltL x y = false) (h2 : ltL y x = false) : x = y := by
  rw [ltL_f] at *
  have e := ltT_total h1.1 h2.1
  exact Ln.same e (ltB_anti _ _ (h1.2 e) (h2.2 e.symm))
theorem ltL_asym {x y : Ln} (h : ltL x y = true) : ltL y x = false := by
  cases hc : ltL y x with
  | false => rfl
  | true => rw [← ltL_self x, ← ltL_trans h hc]
theorem ltL_ne {x y : Ln} (h : ltL x y = true) : x ≠ y := fun e => by rw [e, ltL_self] at h; cases h
theorem ltL_or {x y : Ln} (h : x ≠ y) (h2 : ltL x y = false) : ltL y x = true := by
  cases hc : ltL y x with
  | true => rfl
  | false => exact absurd (ltL_anti h2 hc) h

/-! ### sorted -/
/-- One is put in, behind those that are ahead of it. -/
def insL (x : Ln) : List Ln → List Ln
  | [] => [x]
  | y :: r => if ltL y x = true then y :: insL x r else x :: y :: r
/-- So many are ahead of it. -/
def posI (x : Ln) : List Ln → Nat
  | [] => 0
  | y :: r => if ltL y x = true then posI x r + 1 else 0
theorem posI_le (x : Ln) : ∀ l, posI x l ≤ l.length
  | [] => Nat.le_refl _
  | y :: r => by unfold posI; split <;> simp [posI_le x r]
theorem posI_lt (x : Ln) : ∀ (l : List Ln) (j : Nat) (h : j < l.length), j < posI x l → ltL l[j] x = true
  | y :: r, j, h, hj => by
    unfold posI at hj
    split at hj
    · rename_i e
      cases j with
      | zero => exact e
      | succ j => exact posI_lt x r j (by simpa using h) (by omega)
    · omega
theorem posI_at (x : Ln) : ∀ (l : List Ln) (h : posI x l < l.length), ltL l[posI x l] x = false
  | y :: r, h => by
    by_cases e : ltL y x = true
    · have e0 : posI x (y :: r) = posI x r + 1 := by rw [posI, if_pos e]
      simp only [e0] at h ⊢
      exact posI_at x r (by simpa using h)
    · have e0 : posI x (y :: r) = 0 := by rw [posI, if_neg e]
      simp only [e0]
      simpa using e
theorem insL_pos (x : Ln) : ∀ l, insL x l = l.take (posI x l) ++ x :: l.drop (posI x l)
  | [] => rfl
  | y :: r => by
    unfold insL posI
    split
    · rw [List.take_succ_cons, List.drop_succ_cons, List.cons_append, insL_pos x r]
    · rfl
theorem insL_len (x : Ln) : ∀ l, (insL x l).length = l.length + 1
  | [] => rfl
  | y :: r => by unfold insL; split <;> simp [insL_len x r]
theorem insL_perm (x : Ln) : ∀ l, (insL x l).Perm (x :: l)
  | [] => .refl _
  | y :: r => by
    unfold insL
    split
    · exact ((insL_perm x r).cons y).trans (.swap x y r)
    · exact .refl _
/-- None goes ahead of one ahead of it. -/
def Srt (l : List Ln) : Prop := l.Pairwise (fun a b => ltL b a = false)
theorem ge_trans {x y z : Ln} (h1 : ltL y x = false) (h2 : ltL z y = false) : ltL z x = false := by
  cases hc : ltL z x with
  | false => rfl
  | true =>
    by_cases e : x = y
    · subst e; rw [hc] at h2; cases h2
    · rw [← ltL_trans hc (ltL_or (fun e2 => e e2.symm) h1), h2]
theorem insL_srt (x : Ln) : ∀ {l}, Srt l → Srt (insL x l)
  | [], _ => by simp [insL, Srt]
  | y :: r, h => by
    have h' := List.pairwise_cons.1 h
    unfold insL
    split
    · rename_i e
      refine List.pairwise_cons.2 ⟨fun z hz => ?_, insL_srt x h'.2⟩
      rcases List.mem_cons.1 ((insL_perm x r).mem_iff.1 hz) with rfl | hz
      · exact ltL_asym e
      · exact h'.1 z hz
    · rename_i e
      have e' : ltL y x = false := by simpa using e
      refine List.pairwise_cons.2 ⟨fun z hz => ?_, h⟩
      rcases List.mem_cons.1 hz with rfl | hz
      · exact e'
      · exact ge_trans e' (h'.1 z hz)
/-- The index of lines. -/
def makeL (l : List Ln) : List Ln := l.foldl (fun o x => insL x o) []
theorem makeL_snoc (l : List Ln) (x : Ln) : makeL (l ++ [x]) = insL x (makeL l) := by unfold makeL; rw [List.foldl_append]; rfl
theorem makeL_take {l : List Ln} {i : Nat} (h : i < l.length) : makeL (l.take (i + 1)) = insL l[i] (makeL (l.take i)) := by rw [← makeL_snoc, List.take_append_getElem h]
theorem make_aux : ∀ (l o : List Ln), Srt o → Srt (l.foldl (fun o x => insL x o) o) ∧ (l.foldl (fun o x => insL x o) o).Perm (o ++ l)
  | [], o, h => ⟨h, by simp⟩
  | x :: r, o, h => by
    obtain ⟨h1, h2⟩ := make_aux r (insL x o) (insL_srt x h)
    refine ⟨h1, h2.trans ?_⟩
    exact ((insL_perm x o).append_right r).trans (by simpa using (List.perm_middle (a := x) (l₁ := o) (l₂ := r)).symm)
theorem makeL_srt (l : List Ln) : Srt (makeL l) := (make_aux l [] List.Pairwise.nil).1
theorem makeL_perm (l : List Ln) : (makeL l).Perm l := (make_aux l [] List.Pairwise.nil).2
theorem makeL_len (l : List Ln) : (makeL l).length = l.length := (makeL_perm l).length_eq
/-- Sorted lines hang on the lines alone. -/
theorem srt_eq : ∀ {l m : List Ln}, Srt l → Srt m → l.Perm m → l = m
  | [], m, _, _, h => (h.nil_eq)
  | x :: l, [], _, _, h => by cases h.eq_nil
  | x :: l, y :: m, hl, hm, h => by
    have hl' := List.pairwise_cons.1 hl
    have hm' := List.pairwise_cons.1 hm
    have e : x = y := by
      have a : ltL y x = false := by
        rcases List.mem_cons.1 (h.mem_iff.2 List.mem_cons_self) with e | hy
        · rw [e]; exact ltL_self _
        · exact hl'.1 y hy
      have b : ltL x y = false := by
        rcases List.mem_cons.1 (h.mem_iff.1 List.mem_cons_self) with e | hx
        · rw [e]; exact ltL_self _
        · exact hm'.1 x hx
      exact ltL_anti b a
    subst e
    rw [srt_eq hl'.2 hm'.2 ((List.perm_cons x).1 h)]
theorem makeL_eq {l m : List Ln} (h : l.Perm m) : makeL l = makeL m := srt_eq (makeL_srt l) (makeL_srt m) ((makeL_perm l).trans (h.trans (makeL_perm m).symm))
theorem makeL_same {l : List Ln} (h : Srt l) : makeL l = l := srt_eq (makeL_srt l) h (makeL_perm l)
theorem makeL_ins {l : List Ln} (h : Srt l) (x : Ln) : makeL (l ++ [x]) = insL x l := by rw [makeL_snoc, makeL_same h]

/-! ### which may be -/
/-- No two of the same order, or time. -/
def Apart (a b : Ln) : Prop := a.w.o ≠ b.w.o ∧ a.w.s ≠ b.w.s
instance (a b : Ln) : Decidable (Apart a b) := by unfold Apart; exact inferInstance
theorem Apart.symm {a b : Ln} (h : Apart a b) : Apart b a := ⟨fun e => h.1 e.symm, fun e => h.2 e.symm⟩
theorem Apart.ne {a b : Ln} (h : Apart a b) : a ≠ b := fun e => h.1 (by rw [e])
theorem apart_of {l : List Ln} (hp : l.Pairwise Apart) {x y : Ln} (hx : x ∈ l) (hy : y ∈ l) (hne : x ≠ y) : Apart x y := by
  obtain ⟨i, hi, rfl⟩ := List.mem_iff_getElem.1 hx
  obtain ⟨j, hj, rfl⟩ := List.mem_iff_getElem.1 hy
  rcases Nat.lt_trichotomy i j with h | h | h
  · exact List.pairwise_iff_getElem.1 hp i j hi hj h
  · subst h; exact absurd rfl hne
  · exact (List.pairwise_iff_getElem.1 hp j i hj hi h).symm
def twiceB (l : List Ln) (x : Ln) : Bool := l.any (fun y => decide (y.w.o = x.w.o) || decide (y.w.s = x.w.s))
theorem twiceB_f {l : List Ln} {x : Ln} : twiceB l x = false ↔ ∀ y ∈ l, Apart y x := by
  unfold twiceB Apart
  simp
def AllP (l : List Ln) : Prop := l.length ≤ 32 ∧ (∀ x ∈ l, mayL x = true) ∧ l.Pairwise Apart
instance (l : List Ln) : Decidable (AllP l) := by unfold AllP; exact inferInstance
def allB (l : List Ln) : Bool := decide (AllP l)
theorem allB_t {l : List Ln} : allB l = true ↔ AllP l := by unfold allB; exact decide_eq_true_iff
theorem AllP.perm {l m : List Ln} (h : l.Perm m) (ha : AllP m) : AllP l :=
  ⟨by rw [h.length_eq]; exact ha.1, fun x hx => ha.2.1 x (h.mem_iff.1 hx), (h.pairwise_iff (fun {a b} (q : Apart a b) => q.symm)).2 ha.2.2⟩
theorem allB_perm {l m : List Ln} (h : l.Perm m) : allB l = allB m := by
  have : AllP l ↔ AllP m := ⟨AllP.perm h.symm, AllP.perm h⟩
  unfold allB
  simp only [this]
/-- Found so, line by line: as the reference does. -/
theorem all_take {l : List Ln} (hn : l.length ≤ 32) (h : ∀ i (hi : i < l.length), mayL l[i] = true ∧ twiceB (l.take i) l[i] = false) : allB l = true := by
  refine allB_t.2 ⟨hn, fun x hx => ?_, List.pairwise_iff_getElem.2 fun i j hi hj hij => ?_⟩
  · obtain ⟨i, hi, rfl⟩ := List.mem_iff_getElem.1 hx
    exact (h i hi).1
  · refine twiceB_f.1 (h j hj).2 l[i] ?_
    rw [List.mem_take_iff_getElem]
    exact ⟨i, by omega, rfl⟩
theorem all_not {l : List Ln} {i : Nat} (hi : i < l.length) (h : mayL l[i] = false ∨ twiceB (l.take i) l[i] = true) : allB l = false := by
  cases hc : allB l with
  | false => rfl
  | true =>
    obtain ⟨_, h2, h3⟩ := allB_t.1 hc
    rcases h with h | h
    · rw [h2 _ (List.getElem_mem hi)] at h; cases h
    · have : twiceB (l.take i) l[i] = false := twiceB_f.2 fun y hy => by
        obtain ⟨j, hj, rfl⟩ := List.mem_take_iff_getElem.1 hy
        exact List.pairwise_iff_getElem.1 h3 j i (by omega) hi (by omega)
      rw [this] at h; cases h
theorem all_long {l : List Ln} (h : 32 < l.length) : allB l = false := by
  cases hc : allB l with
  | false => rfl
  | true => have := (allB_t.1 hc).1; omega

/-- Are they an index? -/
def RightP (l : List Ln) : Prop := AllP l ∧ l.Pairwise (fun a b => ltL a b = true)
instance (l : List Ln) : Decidable (RightP l) := by unfold RightP; exact inferInstance
def rightB (l : List Ln) : Bool := decide (RightP l)
theorem rightB_t {l : List Ln} : rightB l = true ↔ RightP l := by unfold rightB; exact decide_eq_true_iff
theorem RightP.srt {l : List Ln} (h : RightP l) : Srt l := h.2.imp fun q => ltL_asym q
theorem strict {l : List Ln} (ha : AllP l) (hs : Srt l) : RightP l :=
  ⟨ha, List.pairwise_iff_getElem.2 fun i j hi hj hij => ltL_or (fun e => (List.pairwise_iff_getElem.1 ha.2.2 i j hi hj hij).ne e.symm) (List.pairwise_iff_getElem.1 hs i j hi hj hij)⟩
theorem make_right {l : List Ln} (h : AllP l) : RightP (makeL l) := strict (h.perm (makeL_perm l)) (makeL_srt l)
/-- As the reference has it: they are the index that is made of them. -/
theorem right_make (l : List Ln) : rightB l = (allB l && decide (makeL l = l)) := by
  by_cases h : RightP l
  · rw [rightB_t.2 h, allB_t.2 h.1, decide_eq_true (makeL_same h.srt)]
    rfl
  · have h1 : rightB l = false := by unfold rightB; exact decide_eq_false h
    rw [h1]
    cases ha : allB l with
    | false => rfl
    | true =>
      rw [decide_eq_false (fun e => h (by rw [← e]; exact make_right (allB_t.1 ha)))]
      rfl

/-! ### the calls -/
def makeE (l : List Ln) : Int := if allB l = true then 0 else 1
def makeO (l : List Ln) : List Ln := if allB l = true then makeL l else []
def putE (l : List Ln) (x : Ln) : Int := if (rightB l && mayL x) = false then 1 else if twiceB l x = true then 9 else if l.length = 32 then 7 else 0
def putO (l : List Ln) (x : Ln) : List Ln := if putE l x = 0 then makeL (l ++ [x]) else []
def withoutL (l : List Ln) (o : Int) : List Ln := l.filter (fun y => decide (y.w.o ≠ o))
/-- An order's line. -/
def getO (o : Int) : List Ln → Option Ln
  | [] => none
  | y :: r => if y.w.o = o then some y else getO o r
def dropE (l : List Ln) (o : Int) : Int := if rightB l = false then 1 else match getO o l with
  | none => 8
  | some _ => 0
def dropO (l : List Ln) (o : Int) : List Ln := if dropE l o = 0 then withoutL l o else []
def inClass (x : Ln) (c : Int) : Ln := ⟨x.k, ⟨c, x.w.s, x.w.o⟩⟩
def moveE (l : List Ln) (o c : Int) : Int := if (rightB l && decide (0 ≤ c ∧ c ≤ 3)) = false then 1 else match getO o l with
  | none => 8
  | some _ => 0
def moveL (l : List Ln) (o c : Int) : List Ln := match getO o l with
  | none => []
  | some x => makeL (withoutL l o ++ [inClass x c])
def moveO (l : List Ln) (o c : Int) : List Ln := if moveE l o c = 0 then moveL l o c else []
def ofL (l : List Ln) (k : ByteArray) : List Wt := (l.filter (fun y => decide (y.k = k))).map Ln.w

theorem getO_is {o : Int} : ∀ {l : List Ln} {x : Ln}, getO o l = some x → x.w.o = o ∧ x ∈ l
  | [], _, h => by cases h
  | y :: r, x, h => by
    unfold getO at h
    split at h
    · rename_i e; cases h; exact ⟨e, List.mem_cons_self⟩
    · exact ⟨(getO_is h).1, List.mem_cons_of_mem _ (getO_is h).2⟩
theorem getO_none {o : Int} : ∀ {l : List Ln}, getO o l = none → ∀ x ∈ l, x.w.o ≠ o
  | [], _, _, hx => by cases hx
  | y :: r, h, x, hx => by
    unfold getO at h
    split at h
    · cases h
    · rename_i e
      rcases List.mem_cons.1 hx with rfl | hx
      · exact e
      · exact getO_none h x hx
theorem getO_mem {o : Int} {l : List Ln} (hp : l.Pairwise Apart) {x : Ln} (hx : x ∈ l) (ho : x.w.o = o) : getO o l = some x := by
  cases hc : getO o l with
  | none => exact absurd ho (getO_none hc x hx)
  | some y =>
    obtain ⟨h1, h2⟩ := getO_is hc
    by_cases e : y = x
    · rw [e]
    · exact absurd (h1.trans ho.symm) (apart_of hp h2 hx e).1
theorem without_none {o : Int} {l : List Ln} (h : ∀ x ∈ l, x.w.o ≠ o) : withoutL l o = l := by
  unfold withoutL
  exact List.filter_eq_self.2 fun x hx => by simpa using h x hx
theorem without_srt {l : List Ln} (h : Srt l) (o : Int) : Srt (withoutL l o) := h.filter _
/-- A line is put in: what comes of it. -/
theorem put_ways (l : List Ln) (x : Ln) : (rightB l = false ∧ putE l x = 1) ∨ (rightB l = true ∧ mayL x = false ∧ putE l x = 1) ∨ (rightB l = true ∧ mayL x = true ∧ twiceB l x = true ∧ putE l x = 9) ∨
    (rightB l = true ∧ mayL x = true ∧ twiceB l x = false ∧ l.length = 32 ∧ putE l x = 7) ∨ (rightB l = true ∧ mayL x = true ∧ twiceB l x = false ∧ l.length < 32 ∧ putE l x = 0 ∧ putO l x = insL x l) := by
  unfold putO
  unfold putE
  cases h1 : rightB l with
  | false => exact .inl ⟨rfl, rfl⟩
  | true =>
    cases h2 : mayL x with
    | false => exact .inr (.inl ⟨rfl, rfl, rfl⟩)
    | true =>
      cases h3 : twiceB l x with
      | true => exact .inr (.inr (.inl ⟨rfl, rfl, rfl, rfl⟩))
      | false =>
        by_cases h4 : l.length = 32
        · exact .inr (.inr (.inr (.inl ⟨rfl, rfl, rfl, h4, by simp [h4]⟩)))
        · have := (rightB_t.1 h1).1.1
          refine .inr (.inr (.inr (.inr ⟨rfl, rfl, rfl, by omega, by simp [h4], ?_⟩)))
          simp only [h4]
          simp [makeL_ins (rightB_t.1 h1).srt]
theorem put_done {l : List Ln} {x : Ln} (h : putE l x = 0) : RightP l ∧ mayL x = true ∧ (∀ y ∈ l, Apart y x) ∧ l.length < 32 ∧ putO l x = insL x l ∧ RightP (putO l x) := by
  rcases put_ways l x with ⟨_, e⟩ | ⟨_, _, e⟩ | ⟨_, _, _, e⟩ | ⟨_, _, _, _, e⟩ | ⟨h1, h2, h3, h4, _, h5⟩
  · rw [h] at e; cases e
  · rw [h] at e; cases e
  · rw [h] at e; cases e
  · rw [h] at e; cases e
  · have hr := rightB_t.1 h1
    have ht := twiceB_f.1 h3
    refine ⟨hr, h2, ht, h4, h5, ?_⟩
    rw [h5]
    refine strict ?_ (insL_srt x hr.srt)
    exact AllP.perm (insL_perm x l) ⟨by simp; omega, fun y hy => by
      rcases List.mem_cons.1 hy with rfl | hy
      · exact h2
      · exact hr.1.2.1 y hy, List.pairwise_cons.2 ⟨fun y hy => (ht y hy).symm, hr.1.2.2⟩⟩
/-- Lines that are put in one by one are the index of them. -/
theorem put_make {p : List Ln} {y : Ln} (h : AllP (p ++ [y])) : putE (makeL p) y = 0 ∧ putO (makeL p) y = makeL (p ++ [y]) := by
  have hp : AllP p := ⟨by have := h.1; simp at this; omega, fun x hx => h.2.1 x (List.mem_append_left _ hx), (List.pairwise_append.1 h.2.2).1⟩
  have h1 := make_right hp
  have h2 : mayL y = true := h.2.1 y (by simp)
  have h3 : twiceB (makeL p) y = false := twiceB_f.2 fun x hx => (List.pairwise_append.1 h.2.2).2.2 x ((makeL_perm p).mem_iff.1 hx) y (by simp)
  have h4 : (makeL p).length ≠ 32 := by have := h.1; rw [makeL_len]; simp at this; omega
  have e : putE (makeL p) y = 0 := by unfold putE; rw [rightB_t.2 h1, h2, h3, if_neg h4]; rfl
  refine ⟨e, ?_⟩
  unfold putO
  rw [if_pos e, makeL_ins h1.srt, makeL_snoc]
/-- What is put in, and dropped, is as it was. -/
theorem put_drop {l : List Ln} {x : Ln} (h : putE l x = 0) : dropE (putO l x) x.w.o = 0 ∧ dropO (putO l x) x.w.o = l := by
  obtain ⟨hr, _, ht, _, h5, hR⟩ := put_done h
  have hx : x ∈ putO l x := by rw [h5]; exact (insL_perm x l).mem_iff.2 List.mem_cons_self
  have e : dropE (putO l x) x.w.o = 0 := by unfold dropE; rw [rightB_t.2 hR, getO_mem hR.1.2.2 hx rfl]; rfl
  refine ⟨e, ?_⟩
  unfold dropO
  rw [if_pos e]
  refine srt_eq (without_srt hR.srt _) hr.srt ?_
  rw [h5]
  unfold withoutL
  refine ((insL_perm x l).filter _).trans ?_
  rw [List.filter_cons_of_neg (by simp)]
  exact List.Perm.of_eq (without_none fun y hy => (ht y hy).1)
theorem drop_ways (l : List Ln) (o : Int) : (rightB l = false ∧ dropE l o = 1 ∧ dropO l o = []) ∨ (rightB l = true ∧ getO o l = none ∧ dropE l o = 8 ∧ dropO l o = []) ∨ ∃ x, rightB l = true ∧ getO o l = some x ∧ dropE l o = 0 ∧ dropO l o = withoutL l o := by
  unfold dropO
  unfold dropE
  cases h1 : rightB l with
  | false => exact .inl ⟨rfl, rfl, rfl⟩
  | true =>
    cases h2 : getO o l with
    | none => exact .inr (.inl ⟨rfl, rfl, rfl, rfl⟩)
    | some x => exact .inr (.inr ⟨x, rfl, rfl, rfl, rfl⟩)
theorem move_ways (l : List Ln) (o c : Int) : (rightB l = false ∧ moveE l o c = 1 ∧ moveO l o c = []) ∨ (rightB l = true ∧ ¬ (0 ≤ c ∧ c ≤ 3) ∧ moveE l o c = 1 ∧ moveO l o c = []) ∨ (rightB l = true ∧ (0 ≤ c ∧ c ≤ 3) ∧ getO o l = none ∧ moveE l o c = 8 ∧ moveO l o c = []) ∨
    ∃ x, rightB l = true ∧ (0 ≤ c ∧ c ≤ 3) ∧ getO o l = some x ∧ moveE l o c = 0 ∧ moveO l o c = makeL (withoutL l o ++ [inClass x c]) := by
  unfold moveO moveL
  unfold moveE
  cases h1 : rightB l with
  | false => exact .inl ⟨rfl, rfl, rfl⟩
  | true =>
    by_cases h2 : 0 ≤ c ∧ c ≤ 3
    · rw [decide_eq_true h2]
      cases h3 : getO o l with
      | none => exact .inr (.inr (.inl ⟨rfl, h2, rfl, rfl, rfl⟩))
      | some x => exact .inr (.inr (.inr ⟨x, rfl, h2, rfl, rfl, rfl⟩))
    · rw [decide_eq_false h2]
      exact .inr (.inl ⟨rfl, h2, rfl, rfl⟩)
/-- Those of one name, of an index: each goes ahead of all behind it. -/
theorem of_sorted {l : List Ln} (h : RightP l) (k : ByteArray) : (ofL l k).Pairwise (fun a b => ltB a b = true ∧ a.o ≠ b.o ∧ a.s ≠ b.s) := by
  unfold ofL
  rw [List.pairwise_map]
  have h1 : (l.filter (fun y => decide (y.k = k))).Pairwise (fun a b => ltL a b = true ∧ Apart a b) := (h.2.and h.1.2.2).filter _
  refine List.Pairwise.imp_of_mem (fun {a b} ha hb q => ?_) h1
  have ea : a.k = k := by simpa using (List.mem_filter.1 ha).2
  have eb : b.k = k := by simpa using (List.mem_filter.1 hb).2
  refine ⟨?_, q.2⟩
  rcases ltL_t.1 q.1 with q1 | q1
  · rw [ea, eb, ltT_self] at q1; cases q1
  · exact q1.2
/-- What a line is moved to: an index, in which it is found so. -/
theorem move_done {l : List Ln} {o c : Int} (h : moveE l o c = 0) : ∃ x, rightB l = true ∧ getO o l = some x ∧ moveO l o c = makeL (withoutL l o ++ [inClass x c]) ∧ rightB (moveO l o c) = true ∧ getO o (moveO l o c) = some (inClass x c) ∧ (0 ≤ c ∧ c ≤ 3) := by
  rcases move_ways l o c with ⟨_, e, _⟩ | ⟨_, _, e, _⟩ | ⟨_, _, _, e, _⟩ | ⟨x, h1, h2, h3, _, h5⟩
  · rw [h] at e; cases e
  · rw [h] at e; cases e
  · rw [h] at e; cases e
  · obtain ⟨g1, g2⟩ := getO_is h3
    have hr := rightB_t.1 h1
    have hall : AllP (withoutL l o ++ [inClass x c]) := by
      have hsub : (withoutL l o).Sublist l := List.filter_sublist
      have hlen : (withoutL l o).length < l.length := by
        refine Nat.lt_of_le_of_ne hsub.length_le (fun e => ?_)
        have := hsub.eq_of_length e
        rw [← this] at g2
        have := (List.mem_filter.1 g2).2
        simp [g1] at this
      refine ⟨by have := hr.1.1; simp; omega, fun y hy => ?_, List.pairwise_append.2 ⟨hr.1.2.2.sublist hsub, by simp, fun y hy z hz => ?_⟩⟩
      · rcases List.mem_append.1 hy with hy | hy
        · exact hr.1.2.1 y (hsub.subset hy)
        · obtain rfl := List.mem_singleton.1 hy
          have hm := hr.1.2.1 x g2
          unfold mayL mayW at hm ⊢
          simp only [Bool.and_eq_true, decide_eq_true_eq] at hm ⊢
          exact ⟨hm.1, h2.1, h2.2, hm.2.2.2⟩
      · obtain rfl := List.mem_singleton.1 hz
        have hy1 : y.w.o ≠ o := by simpa using (List.mem_filter.1 hy).2
        have hyx : y ≠ x := fun e => hy1 (by rw [e]; exact g1)
        have q : Apart y x := apart_of hr.1.2.2 (hsub.subset hy) g2 hyx
        exact ⟨q.1, q.2⟩
    have hR := make_right hall
    refine ⟨x, h1, h3, h5, ?_, ?_, h2⟩
    · rw [h5]; exact rightB_t.2 hR
    · rw [h5]
      exact getO_mem hR.1.2.2 ((makeL_perm _).mem_iff.2 (by simp)) g1
/-- Is a wait behind one of that class, that came then? -/
def laterB (c s : Int) (y : Wt) : Bool := decide (c < y.c) || (decide (y.c = c) && decide (s < y.s))
/-- Of those of one name, an index's: all ahead of one go ahead of it, all behind it later. -/
theorem of_fair {l : List Ln} (h : RightP l) {x : Ln} (hx : x ∈ l) : ∃ j, ∃ hj : j < (ofL l x.k).length, (ofL l x.k)[j] = x.w ∧ ∀ i (hi : i < (ofL l x.k).length), i ≠ j → (ofL l x.k)[i].o ≠ x.w.o ∧ laterB x.w.c x.w.s (ofL l x.k)[i] = decide (j < i) := by
  have hp := of_sorted h x.k
  have hm : x.w ∈ ofL l x.k := by
    unfold ofL
    exact List.mem_map.2 ⟨x, List.mem_filter.2 ⟨hx, by simp⟩, rfl⟩
  obtain ⟨j, hj, he⟩ := List.mem_iff_getElem.1 hm
  refine ⟨j, hj, he, fun i hi hne => ?_⟩
  rcases Nat.lt_or_gt_of_ne hne with hlt | hgt
  · obtain ⟨q1, q2, q3⟩ := List.pairwise_iff_getElem.1 hp i j hi hj hlt
    rw [he] at q1 q2 q3
    refine ⟨q2, ?_⟩
    rw [decide_eq_false (by omega)]
    rw [ltB_t] at q1
    unfold ltP at q1
    unfold laterB
    simp only [Bool.or_eq_false_iff, Bool.and_eq_false_iff, decide_eq_false_iff_not]
    omega
  · obtain ⟨q1, q2, q3⟩ := List.pairwise_iff_getElem.1 hp j i hj hi hgt
    rw [he] at q1 q2 q3
    refine ⟨fun e => q2 e.symm, ?_⟩
    rw [decide_eq_true hgt]
    rw [ltB_t] at q1
    unfold ltP at q1
    unfold laterB
    simp only [Bool.or_eq_true, Bool.and_eq_true, decide_eq_true_eq]
    omega
end Go.Proofs.Ytcehhgcfkoldfaa.Waits
