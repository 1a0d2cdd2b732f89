/-
  Plain mathematics of records' bytes: what a record's bytes are, with which record a text begins, which records a text has; records one behind the other, a beginning of them, a record that is hurt. Nothing is walked here.
-/
import Derived.Test.YtbipkbcmcidalaaBack
import Derived.Test.YtbipkbcmcidalaaBytes
namespace Go.Proofs.Ytbipkbcmcidalaa.Frame
open Go.Proofs.Ytbipkbcmcidalaa.Crc (four crcOn crcOn_lt)

/-- A record's bytes. -/
def frm (d : ByteArray) : List UInt8 := digs (fold d.size) ++ (d.data.toList ++ four (crcOn 0 d.data.toList))
/-- The text s begins with the record d, with r behind it. -/
def Is (s d r : ByteArray) : Prop := d.size ≤ 4096 ∧ s.data.toList = frm d ++ r.data.toList
/-- The text begins with no record. -/
def No (s : ByteArray) : Prop := ∀ d r, ¬ Is s d r

theorem four_len (c : Nat) : (four c).length = 4 := rfl
theorem size_list (s : ByteArray) : s.data.toList.length = s.size := by simp
theorem frm_len (d : ByteArray) : (frm d).length = (digs (fold d.size)).length + d.size + 4 := by
  unfold frm; rw [List.length_append, List.length_append, four_len, size_list]; omega
theorem frm_pos (d : ByteArray) : 5 ≤ (frm d).length := by
  have := digs_len_pos (fold d.size); rw [frm_len]; omega
theorem fold_nat (n : Nat) : fold (n : Int) = 2 * n := by unfold fold; rw [if_neg (by omega)]; omega
theorem frm_le (d : ByteArray) (h : d.size ≤ 4096) : (frm d).length ≤ d.size + 13 := by
  have := digs_len9 (fold d.size) (by rw [fold_nat]; omega); rw [frm_len]; omega
theorem mk_list (l : List UInt8) : (⟨l.toArray⟩ : ByteArray).data.toList = l := by simp
theorem mk_size (l : List UInt8) : (⟨l.toArray⟩ : ByteArray).size = l.length := by simp [ByteArray.size]
theorem mk_of (s : ByteArray) : (⟨s.data.toList.toArray⟩ : ByteArray) = s := same_bytes (by simp)

theorem rd_det {s t t' : ByteArray} {n n' : Int} (h : Rd s n t 0) (h' : Rd s n' t' 0) : n = n' ∧ t = t' := by
  obtain ⟨i, hi, _, _, rfl, rfl⟩ := rd_good h
  obtain ⟨j, hj, _, _, rfl, rfl⟩ := rd_good h'
  obtain rfl := last_unique hi hj
  exact ⟨rfl, rfl⟩
theorem rd_of_is {s d r : ByteArray} (h : Is s d r) : Rd s d.size ⟨(d.data.toList ++ (four (crcOn 0 d.data.toList) ++ r.data.toList)).toArray⟩ 0 := by
  obtain ⟨h1, h2⟩ := h
  refine rd_of (mayB_t.2 ⟨by omega, by omega⟩) ?_
  rw [h2, mk_list]; simp [frm]
theorem app_inj {a b c d : List UInt8} (h : a ++ b = c ++ d) (hl : a.length = c.length) : a = c ∧ b = d := List.append_inj h hl
theorem is_det {s d r d' r' : ByteArray} (h : Is s d r) (h' : Is s d' r') : d = d' ∧ r = r' := by
  obtain ⟨e1, e2⟩ := rd_det (rd_of_is h) (rd_of_is h')
  have e3 := congrArg (fun x : ByteArray => x.data.toList) e2
  simp only at e3
  obtain ⟨e4, e5⟩ := app_inj e3 (by rw [size_list, size_list]; omega)
  obtain ⟨_, e6⟩ := app_inj e5 (by rw [four_len, four_len])
  exact ⟨same_bytes e4, same_bytes e6⟩
theorem is_size {s d r : ByteArray} (h : Is s d r) : r.size + 5 ≤ s.size := by
  have h1 := congrArg List.length h.2
  have := frm_pos d
  rw [List.length_append, size_list, size_list] at h1
  omega
theorem is_size' {s d r : ByteArray} (h : Is s d r) : s.size = (frm d).length + r.size := by
  have h1 := congrArg List.length h.2
  rwa [List.length_append, size_list, size_list] at h1
theorem no_short {s : ByteArray} (h : s.size < 5) : No s := fun _ _ hi => by have := is_size hi; omega

theorem cut_list (t : ByteArray) (i j : Nat) : (t.extract i j).data.toList = (t.data.toList.drop i).take (j - i) := by
  rw [Go.Lib.extract_data]

/-- With which record a text begins, as it is found out. -/
theorem looks (s : ByteArray) : ∃ n t b, Rd s n t b ∧ ((b ≠ 0 ∧ No s) ∨ (b = 0 ∧ n < 0 ∧ No s) ∨ (b = 0 ∧ 4096 < n ∧ No s) ∨ (∃ k : Nat, b = 0 ∧ n = k ∧ k ≤ 4096 ∧ t.size < k + 4 ∧ No s) ∨
    (∃ k : Nat, b = 0 ∧ n = k ∧ k ≤ 4096 ∧ k + 4 ≤ t.size ∧ t.extract k (k + 4) ≠ ⟨(four (crcOn 0 (t.extract 0 k).data.toList)).toArray⟩ ∧ No s) ∨
    (∃ k : Nat, b = 0 ∧ n = k ∧ k ≤ 4096 ∧ k + 4 ≤ t.size ∧ t.extract k (k + 4) = ⟨(four (crcOn 0 (t.extract 0 k).data.toList)).toArray⟩ ∧ Is s (t.extract 0 k) (t.extract (k + 4) t.size))) := by
  obtain ⟨n, t, b, h⟩ := rd_some s
  refine ⟨n, t, b, h, ?_⟩
  have key : ∀ d r, Is s d r → b = 0 ∧ n = d.size ∧ d.size ≤ 4096 ∧ t.data.toList = d.data.toList ++ (four (crcOn 0 d.data.toList) ++ r.data.toList) := by
    intro d r hi
    have hr := rd_of_is hi
    have hb : b = 0 := by
      apply Classical.byContradiction
      intro hb
      obtain ⟨i, hil, hz, hm, he, _⟩ := rd_good hr
      rcases h with ⟨h1, _⟩ | ⟨j, hj, ha⟩
      · exact last_not hil h1
      · obtain rfl := last_unique hil hj
        rcases ha with ⟨h1, h2, _, _, _⟩ | ⟨h1, h2, _, _, _⟩ | ⟨_, _, _, _, h3⟩
        · rcases hz with hz | ⟨_, hz⟩
          · omega
          · exact hz hil.1 (h2 hil.1)
        · rw [h2] at hm; cases hm
        · exact hb h3
    subst hb
    obtain ⟨e1, e2⟩ := rd_det h hr
    exact ⟨rfl, e1, hi.1, by rw [e2, mk_list]⟩
  by_cases hb : b = 0
  · subst hb
    by_cases h1 : n < 0
    · exact .inr (.inl ⟨rfl, h1, fun d r hi => by have := (key d r hi).2.1; omega⟩)
    by_cases h2 : 4096 < n
    · exact .inr (.inr (.inl ⟨rfl, h2, fun d r hi => by have := (key d r hi).2; omega⟩))
    obtain ⟨k, rfl⟩ : ∃ k : Nat, n = k := ⟨n.toNat, by omega⟩
    by_cases h3 : t.size < k + 4
    · refine .inr (.inr (.inr (.inl ⟨k, rfl, rfl, by omega, h3, fun d r hi => ?_⟩)))
      obtain ⟨_, e1, _, e2⟩ := key d r hi
      have := congrArg List.length e2
      rw [List.length_append, List.length_append, four_len, size_list, size_list] at this
      omega
    · have hx0 : (t.extract 0 k).data.toList = t.data.toList.take k := by rw [cut_list]; simp
      have hx1 : (t.extract k (k + 4)).data.toList = (t.data.toList.drop k).take 4 := by rw [cut_list]; congr 1; omega
      have hx2 : (t.extract (k + 4) t.size).data.toList = t.data.toList.drop (k + 4) := drop_list _ _
      have hz : (t.extract 0 k).size = k := by rw [ByteArray.size_extract]; omega
      by_cases h4 : t.extract k (k + 4) = ⟨(four (crcOn 0 (t.extract 0 k).data.toList)).toArray⟩
      · refine .inr (.inr (.inr (.inr (.inr ⟨k, rfl, rfl, by omega, by omega, h4, by rw [hz]; omega, ?_⟩))))
        have e5 := congrArg (fun x : ByteArray => x.data.toList) h4
        simp only at e5
        unfold frm
        rw [hz, ← e5, hx0, hx1, hx2, ← (rd_back h).2, List.append_assoc, List.append_assoc]
        congr 1
        rw [← List.drop_drop, List.take_append_drop, List.take_append_drop]
      · refine .inr (.inr (.inr (.inr (.inl ⟨k, rfl, rfl, by omega, by omega, h4, fun d r hi => h4 ?_⟩))))
        obtain ⟨_, e1, _, e2⟩ := key d r hi
        have ek : k = d.size := by omega
        have hd : (t.extract 0 k).data.toList = d.data.toList := by
          rw [hx0, e2, List.take_left' (by rw [size_list]; omega)]
        apply same_bytes
        rw [mk_list, hd, hx1, e2, List.drop_left' (by rw [size_list]; omega), List.take_left' (four_len _)]
  · exact .inl ⟨hb, fun d r hi => hb (key d r hi).1⟩

/-- The records of a text, and what is left behind them. -/
inductive Scn : ByteArray → List ByteArray → ByteArray → Prop
  | done (s : ByteArray) : No s → Scn s [] s
  | more (s d r : ByteArray) (l : List ByteArray) (t : ByteArray) : Is s d r → Scn r l t → Scn s (d :: l) t
def frms : List ByteArray → List UInt8
  | [] => []
  | d :: l => frm d ++ frms l
theorem frms_append (l m : List ByteArray) : frms (l ++ m) = frms l ++ frms m := by
  induction l with
  | nil => rfl
  | cons d l ih => simp [frms, ih]
theorem frms_snoc (l : List ByteArray) (d : ByteArray) : frms (l ++ [d]) = frms l ++ frm d := by rw [frms_append]; simp [frms]
theorem is_or (s : ByteArray) : (∃ d r, Is s d r) ∨ No s := by
  by_cases h : ∃ d r, Is s d r
  · exact .inl h
  · exact .inr fun d r hi => h ⟨d, r, hi⟩
theorem scn_some (n : Nat) : ∀ s : ByteArray, s.size ≤ n → ∃ l t, Scn s l t := by
  induction n with
  | zero => exact fun s h => ⟨[], s, .done s (no_short (by omega))⟩
  | succ n ih =>
    intro s h
    rcases is_or s with ⟨d, r, hi⟩ | hn
    · obtain ⟨l, t, hl⟩ := ih r (by have := is_size hi; omega)
      exact ⟨d :: l, t, .more _ _ _ _ _ hi hl⟩
    · exact ⟨[], s, .done s hn⟩
theorem scn_det {s : ByteArray} {l : List ByteArray} {t : ByteArray} (h : Scn s l t) : ∀ {l' t'}, Scn s l' t' → l = l' ∧ t = t' := by
  induction h with
  | done s hn =>
    intro l' t' h'
    cases h' with
    | done => exact ⟨rfl, rfl⟩
    | more _ d r l _ hi => exact absurd hi (hn _ _)
  | more s d r l t hi _ ih =>
    intro l' t' h'
    cases h' with
    | done _ hn => exact absurd hi (hn _ _)
    | more _ d' r' l _ hi' hr' =>
      obtain ⟨rfl, rfl⟩ := is_det hi hi'
      obtain ⟨rfl, rfl⟩ := ih hr'
      exact ⟨rfl, rfl⟩
theorem scn_bytes {s : ByteArray} {l : List ByteArray} {t : ByteArray} (h : Scn s l t) : s.data.toList = frms l ++ t.data.toList ∧ (∀ d ∈ l, d.size ≤ 4096) ∧ t.size + 5 * l.length ≤ s.size := by
  induction h with
  | done s hn => exact ⟨rfl, by simp, by simp⟩
  | more s d r l t hi _ ih =>
    refine ⟨by rw [hi.2, ih.1]; simp [frms], fun x hx => ?_, ?_⟩
    · rcases List.mem_cons.1 hx with rfl | hx
      · exact hi.1
      · exact ih.2.1 x hx
    · have := is_size hi; have := ih.2.2; simp only [List.length_cons]; omega
theorem scn_pre {r : ByteArray} {m : List ByteArray} {t : ByteArray} (h : Scn r m t) : ∀ (l : List ByteArray) (s : ByteArray), (∀ d ∈ l, d.size ≤ 4096) → s.data.toList = frms l ++ r.data.toList → Scn s (l ++ m) t := by
  intro l
  induction l with
  | nil =>
    intro s _ e
    have : s = r := same_bytes (by simpa [frms] using e)
    subst this; exact h
  | cons d l ih =>
    intro s hl e
    refine .more s d ⟨(frms l ++ r.data.toList).toArray⟩ _ _ ⟨hl d (by simp), by rw [e, mk_list]; simp [frms]⟩ (ih _ (fun x hx => hl x (by simp [hx])) (mk_list _))
/-- Of a beginning of records' bytes a beginning of them is scanned. -/
theorem scn_take (l : List ByteArray) : ∀ (s : ByteArray) (k : Nat), (∀ d ∈ l, d.size ≤ 4096) → s.data.toList = (frms l).take k → ∃ j t, j ≤ l.length ∧ Scn s (l.take j) t := by
  induction l with
  | nil =>
    intro s k _ e
    refine ⟨0, s, by simp, .done s (no_short ?_)⟩
    have e0 : s.data.toList.length = 0 := by rw [e]; simp [frms]
    rw [size_list] at e0
    omega
  | cons d l ih =>
    intro s k hl e
    by_cases hk : (frm d).length ≤ k
    · have e' : (frms (d :: l)).take k = frm d ++ (frms l).take (k - (frm d).length) := by
        rw [show frms (d :: l) = frm d ++ frms l from rfl, List.take_append, List.take_of_length_le hk]
      obtain ⟨j, t, hj, hs⟩ := ih ⟨((frms l).take (k - (frm d).length)).toArray⟩ (k - (frm d).length) (fun x hx => hl x (by simp [hx])) (mk_list _)
      exact ⟨j + 1, t, by simp; omega, .more s d _ _ _ ⟨hl d (by simp), by rw [e, e', mk_list]⟩ hs⟩
    · refine ⟨0, s, by simp, .done s fun d' r' hi => hk ?_⟩
      have h1 : Is ⟨(frms (d :: l)).toArray⟩ d ⟨(frms l).toArray⟩ := ⟨hl d (by simp), by rw [mk_list, mk_list]; rfl⟩
      have h2 : Is ⟨(frms (d :: l)).toArray⟩ d' ⟨(r'.data.toList ++ (frms (d :: l)).drop k).toArray⟩ := by
        refine ⟨hi.1, ?_⟩
        rw [mk_list, mk_list, ← List.append_assoc, ← hi.2, e, List.take_append_drop]
      obtain ⟨rfl, _⟩ := is_det h1 h2
      have := is_size' hi
      have h3 := congrArg List.length e
      rw [size_list, List.length_take] at h3
      omega
theorem four_inj {a b : Nat} (ha : a < 4294967296) (hb : b < 4294967296) (h : four a = four b) : a = b := by
  unfold four at h
  simp only [List.cons.injEq, and_true] at h
  obtain ⟨h1, h2, h3, h4⟩ := h
  have g1 := congrArg UInt8.toNat h1
  have g2 := congrArg UInt8.toNat h2
  have g3 := congrArg UInt8.toNat h3
  have g4 := congrArg UInt8.toNat h4
  simp at g1 g2 g3 g4
  omega
/-- A record whose own bytes are hurt, so that their check is another one, is none. -/
theorem no_hurt {s d d' : ByteArray} {x : List UInt8} (hd : d.size ≤ 4096) (hl : d'.size = d.size) (hc : crcOn 0 d'.data.toList ≠ crcOn 0 d.data.toList)
    (e : s.data.toList = digs (fold d.size) ++ (d'.data.toList ++ (four (crcOn 0 d.data.toList) ++ x))) : No s := by
  intro y r hi
  have h1 := rd_of_is hi
  have h2 : Rd s d.size ⟨(d'.data.toList ++ (four (crcOn 0 d.data.toList) ++ x)).toArray⟩ 0 := rd_of (mayB_t.2 ⟨by omega, by omega⟩) (by rw [e, mk_list])
  obtain ⟨e1, e2⟩ := rd_det h1 h2
  have e3 := congrArg (fun x : ByteArray => x.data.toList) e2
  simp only at e3
  obtain ⟨e4, e5⟩ := app_inj e3 (by rw [size_list, size_list]; omega)
  obtain ⟨e6, _⟩ := app_inj e5 (by rw [four_len, four_len])
  rw [e4] at e6
  exact hc (four_inj (crcOn_lt (by omega) _) (crcOn_lt (by omega) _) e6)

/-- What is handed on of a text, of m bytes in all: each record with the place where its bytes end; and what is left. -/
inductive Hands (m : Nat) : ByteArray → List (ByteArray × Int) → ByteArray → Prop
  | done (s : ByteArray) : No s → Hands m s [] s
  | more (s d r : ByteArray) (xs : List (ByteArray × Int)) (t : ByteArray) : Is s d r → Hands m r xs t → Hands m s ((d, (m : Int) - r.size) :: xs) t
theorem hands_scn {m : Nat} {s : ByteArray} {xs : List (ByteArray × Int)} {t : ByteArray} (h : Hands m s xs t) : Scn s (xs.map Prod.fst) t := by
  induction h with
  | done s hn => exact .done s hn
  | more s d r xs t hi _ ih => exact .more _ _ _ _ _ hi ih
/-- Where the last one ends. -/
def endOf (xs : List (ByteArray × Int)) : Int := (xs.getLast?.map Prod.snd).getD 0
theorem endOf_snoc (xs : List (ByteArray × Int)) (x : ByteArray × Int) : endOf (xs ++ [x]) = x.2 := by simp [endOf]
theorem hands_end {m : Nat} {s : ByteArray} {xs : List (ByteArray × Int)} {t : ByteArray} (h : Hands m s xs t) : (xs = [] ∧ t = s) ∨ (xs ≠ [] ∧ endOf xs = (m : Int) - t.size) := by
  induction h with
  | done s hn => exact .inl ⟨rfl, rfl⟩
  | more s d r xs t hi _ ih =>
    refine .inr ⟨by simp, ?_⟩
    rcases ih with ⟨rfl, rfl⟩ | ⟨h1, h2⟩
    · simp [endOf]
    · rw [← h2]
      unfold endOf
      rw [List.getLast?_cons, List.getLast?_eq_some_getLast h1]
      simp
end Go.Proofs.Ytbipkbcmcidalaa.Frame
