/-
  Joined: Frm, JHead, JMath, Shelf.
-/
import Derived.Test.YtlpkalfbcphkmaaGreatMg
import Derived.Test.YtlpkalfbcphkmaaGreatMh
import Derived.Test.YtlpkalfbcphkmaaGreatMd
import Derived.Shelf.Strings.Builder1
import Derived.Shelf.Strings.Builder2
import Derived.Shelf.Strings.OnBuilder
import Derived.Shelf.Strings.BuilderF
import Derived.Shelf.Strings.Prefix
import Derived.Shelf.Bits.Mul64
import Derived.Shelf.Strings.Repeat
import Derived.Shelf.Slices.Equal
import Derived.Shelf.Slices.Empties2
import Derived.Test.YtlpkalfbcphkmaaGreatProg

/-
  Plain mathematics of records' bytes: what a record's bytes are, with which record a text begins, which records a text has; records one behind the other, a beginning of them, a record that is hurt. Nothing is walked here.
-/
namespace Go.Proofs.YtlpkalfbcphkmaaGreat.Frame
open Go.Proofs.YtlpkalfbcphkmaaGreat.Crc (four crcOn crcOn_lt)

/-- A record's bytes. -/
def frm (d : ByteArray) : List UInt8 := digs (fold d.size) ++ (d.data.toList ++ four (crcOn 0 d.data.toList))
/-- The text s begins with the record d, with r behind it. -/
def Is (s d r : ByteArray) : Prop := d.size ≤ 4096 ∧ s.data.toList = frm d ++ r.data.toList
/-- The text begins with no record. -/
def No (s : ByteArray) : Prop := ∀ d r, ¬ Is s d r

theorem four_len (c : Nat) : (four c).length = 4 := rfl
theorem size_list (s : ByteArray) : s.data.toList.length = s.size := by simp
theorem frm_len (d : ByteArray) : (frm d).length = (digs (fold d.size)).length + d.size + 4 := by
  unfold frm; rw [List.length_append, List.length_append, four_len, size_list]; omega
theorem frm_pos (d : ByteArray) : 5 ≤ (frm d).length := by
  have := digs_len_pos (fold d.size); rw [frm_len]; omega
theorem fold_nat (n : Nat) : fold (n : Int) = 2 * n := by unfold fold; rw [if_neg (by omega)]; omega
theorem frm_le (d : ByteArray) (h : d.size ≤ 4096) : (frm d).length ≤ d.size + 13 := by
  have := digs_len9 (fold d.size) (by rw [fold_nat]; omega); rw [frm_len]; omega
theorem mk_list (l : List UInt8) : (⟨l.toArray⟩ : ByteArray).data.toList = l := by simp
theorem mk_size (l : List UInt8) : (⟨l.toArray⟩ : ByteArray).size = l.length := by simp [ByteArray.size]
theorem mk_of (s : ByteArray) : (⟨s.data.toList.toArray⟩ : ByteArray) = s := same_bytes (by simp)

theorem rd_det {s t t' : ByteArray} {n n' : Int} (h : Rd s n t 0) (h' : Rd s n' t' 0) : n = n' ∧ t = t' := by
  obtain ⟨i, hi, _, _, rfl, rfl⟩ := rd_good h
  obtain ⟨j, hj, _, _, rfl, rfl⟩ := rd_good h'
  obtain rfl := last_unique hi hj
  exact ⟨rfl, rfl⟩
theorem rd_of_is {s d r : ByteArray} (h : Is s d r) : Rd s d.size ⟨(d.data.toList ++ (four (crcOn 0 d.data.toList) ++ r.data.toList)).toArray⟩ 0 := by
  obtain ⟨h1, h2⟩ := h
  refine rd_of (mayB_t.2 ⟨by omega, by omega⟩) ?_
  rw [h2, mk_list]; simp [frm]
theorem app_inj {a b c d : List UInt8} (h : a ++ b = c ++ d) (hl : a.length = c.length) : a = c ∧ b = d := List.append_inj h hl
theorem is_det {s d r d' r' : ByteArray} (h : Is s d r) (h' : Is s d' r') : d = d' ∧ r = r' := by
  obtain ⟨e1, e2⟩ := rd_det (rd_of_is h) (rd_of_is h')
  have e3 := congrArg (fun x : ByteArray => x.data.toList) e2
  simp only at e3
  obtain ⟨e4, e5⟩ := app_inj e3 (by rw [size_list, size_list]; omega)
  obtain ⟨_, e6⟩ := app_inj e5 (by rw [four_len, four_len])
  exact ⟨same_bytes e4, same_bytes e6⟩
theorem is_size {s d r : ByteArray} (h : Is s d r) : r.size + 5 ≤ s.size := by
  have h1 := congrArg List.length h.2
  have := frm_pos d
  rw [List.length_append, size_list, size_list] at h1
  omega
theorem is_size' {s d r : ByteArray} (h : Is s d r) : s.size = (frm d).length + r.size := by
  have h1 := congrArg List.length h.2
  rwa [List.length_append, size_list, size_list] at h1
theorem no_short {s : ByteArray} (h : s.size < 5) : No s := fun _ _ hi => by have := is_size hi; omega

theorem cut_list (t : ByteArray) (i j : Nat) : (t.extract i j).data.toList = (t.data.toList.drop i).take (j - i) := by
  rw [Go.Lib.extract_data]

/-- With which record a text begins, as it is found out. -/
theorem looks (s : ByteArray) : ∃ n t b, Rd s n t b ∧ ((b ≠ 0 ∧ No s) ∨ (b = 0 ∧ n < 0 ∧ No s) ∨ (b = 0 ∧ 4096 < n ∧ No s) ∨ (∃ k : Nat, b = 0 ∧ n = k ∧ k ≤ 4096 ∧ t.size < k + 4 ∧ No s) ∨
    (∃ k : Nat, b = 0 ∧ n = k ∧ k ≤ 4096 ∧ k + 4 ≤ t.size ∧ t.extract k (k + 4) ≠ ⟨(four (crcOn 0 (t.extract 0 k).data.toList)).toArray⟩ ∧ No s) ∨
    (∃ k : Nat, b = 0 ∧ n = k ∧ k ≤ 4096 ∧ k + 4 ≤ t.size ∧ t.extract k (k + 4) = ⟨(four (crcOn 0 (t.extract 0 k).data.toList)).toArray⟩ ∧ Is s (t.extract 0 k) (t.extract (k + 4) t.size))) := by
  obtain ⟨n, t, b, h⟩ := rd_some s
  refine ⟨n, t, b, h, ?_⟩
  have key : ∀ d r, Is s d r → b = 0 ∧ n = d.size ∧ d.size ≤ 4096 ∧ t.data.toList = d.data.toList ++ (four (crcOn 0 d.data.toList) ++ r.data.toList) := by
    intro d r hi
    have hr := rd_of_is hi
    have hb : b = 0 := by
      apply Classical.byContradiction
      intro hb
      obtain ⟨i, hil, hz, hm, he, _⟩ := rd_good hr
      rcases h with ⟨h1, _⟩ | ⟨j, hj, ha⟩
      · exact last_not hil h1
      · obtain rfl := last_unique hil hj
        rcases ha with ⟨h1, h2, _, _, _⟩ | ⟨h1, h2, _, _, _⟩ | ⟨_, _, _, _, h3⟩
        · rcases hz with hz | ⟨_, hz⟩
          · omega
          · exact hz hil.1 (h2 hil.1)
        · rw [h2] at hm; cases hm
        · exact hb h3
    subst hb
    obtain ⟨e1, e2⟩ := rd_det h hr
    exact ⟨rfl, e1, hi.1, by rw [e2, mk_list]⟩
  by_cases hb : b = 0
  · subst hb
    by_cases h1 : n < 0
    · exact .inr (.inl ⟨rfl, h1, fun d r hi => by have := (key d r hi).2.1; omega⟩)
    by_cases h2 : 4096 < n
    · exact .inr (.inr (.inl ⟨rfl, h2, fun d r hi => by have := (key d r hi).2; omega⟩))
    obtain ⟨k, rfl⟩ : ∃ k : Nat, n = k := ⟨n.toNat, by omega⟩
    by_cases h3 : t.size < k + 4
    · refine .inr (.inr (.inr (.inl ⟨k, rfl, rfl, by omega, h3, fun d r hi => ?_⟩)))
      obtain ⟨_, e1, _, e2⟩ := key d r hi
      have := congrArg List.length e2
      rw [List.length_append, List.length_append, four_len, size_list, size_list] at this
      omega
    · have hx0 : (t.extract 0 k).data.toList = t.data.toList.take k := by rw [cut_list]; simp
      have hx1 : (t.extract k (k + 4)).data.toList = (t.data.toList.drop k).take 4 := by rw [cut_list]; congr 1; omega
      have hx2 : (t.extract (k + 4) t.size).data.toList = t.data.toList.drop (k + 4) := drop_list _ _
      have hz : (t.extract 0 k).size = k := by rw [ByteArray.size_extract]; omega
      by_cases h4 : t.extract k (k + 4) = ⟨(four (crcOn 0 (t.extract 0 k).data.toList)).toArray⟩
      · refine .inr (.inr (.inr (.inr (.inr ⟨k, rfl, rfl, by omega, by omega, h4, by rw [hz]; omega, ?_⟩))))
        have e5 := congrArg (fun x : ByteArray => x.data.toList) h4
        simp only at e5
        unfold frm
        rw [hz, ← e5, hx0, hx1, hx2, ← (rd_back h).2, List.append_assoc, List.append_assoc]
        congr 1
        rw [← List.drop_drop, List.take_append_drop, List.take_append_drop]
      · refine .inr (.inr (.inr (.inr (.inl ⟨k, rfl, rfl, by omega, by omega, h4, fun d r hi => h4 ?_⟩))))
        obtain ⟨_, e1, _, e2⟩ := key d r hi
        have ek : k = d.size := by omega
        have hd : (t.extract 0 k).data.toList = d.data.toList := by
          rw [hx0, e2, List.take_left' (by rw [size_list]; omega)]
        apply same_bytes
        rw [mk_list, hd, hx1, e2, List.drop_left' (by rw [size_list]; omega), List.take_left' (four_len _)]
  · exact .inl ⟨hb, fun d r hi => hb (key d r hi).1⟩

/-- The records of a text, and what is left behind them. -/
inductive Scn : ByteArray → List ByteArray → ByteArray → Prop
  | done (s : ByteArray) : No s → Scn s [] s
  | more (s d r : ByteArray) (l : List ByteArray) (t : ByteArray) : Is s d r → Scn r l t → Scn s (d :: l) t
def frms : List ByteArray → List UInt8
  | [] => []
  | d :: l => frm d ++ frms l
theorem frms_append (l m : List ByteArray) : frms (l ++ m) = frms l ++ frms m := by
  induction l with
  | nil => rfl
  | cons d l ih => simp [frms, ih]
theorem frms_snoc (l : List ByteArray) (d : ByteArray) : frms (l ++ [d]) = frms l ++ frm d := by rw [frms_append]; simp [frms]
theorem is_or (s : ByteArray) : (∃ d r, Is s d r) ∨ No s := by
  by_cases h : ∃ d r, Is s d r
  · exact .inl h
  · exact .inr fun d r hi => h ⟨d, r, hi⟩
theorem scn_some (n : Nat) : ∀ s : ByteArray, s.size ≤ n → ∃ l t, Scn s l t := by
  induction n with
  | zero => exact fun s h => ⟨[], s, .done s (no_short (by omega))⟩
  | succ n ih =>
    intro s h
    rcases is_or s with ⟨d, r, hi⟩ | hn
    · obtain ⟨l, t, hl⟩ := ih r (by have := is_size hi; omega)
      exact ⟨d :: l, t, .more _ _ _ _ _ hi hl⟩
    · exact ⟨[], s, .done s hn⟩
theorem scn_det {s : ByteArray} {l : List ByteArray} {t : ByteArray} (h : Scn s l t) : ∀ {l' t'}, Scn s l' t' → l = l' ∧ t = t' := by
  induction h with
  | done s hn =>
    intro l' t' h'
    cases h' with
    | done => exact ⟨rfl, rfl⟩
    | more _ d r l _ hi => exact absurd hi (hn _ _)
  | more s d r l t hi _ ih =>
    intro l' t' h'
    cases h' with
    | done _ hn => exact absurd hi (hn _ _)
    | more _ d' r' l _ hi' hr' =>
      obtain ⟨rfl, rfl⟩ := is_det hi hi'
      obtain ⟨rfl, rfl⟩ := ih hr'
      exact ⟨rfl, rfl⟩
theorem scn_bytes {s : ByteArray} {l : List ByteArray} {t : ByteArray} (h : Scn s l t) : s.data.toList = frms l ++ t.data.toList ∧ (∀ d ∈ l, d.size ≤ 4096) ∧ t.size + 5 * l.length ≤ s.size := by
  induction h with
  | done s hn => exact ⟨rfl, by simp, by simp⟩
  | more s d r l t hi _ ih =>
    refine ⟨by rw [hi.2, ih.1]; simp [frms], fun x hx => ?_, ?_⟩
    · rcases List.mem_cons.1 hx with rfl | hx
      · exact hi.1
      · exact ih.2.1 x hx
    · have := is_size hi; have := ih.2.2; simp only [List.length_cons]; omega
theorem scn_pre {r : ByteArray} {m : List ByteArray} {t : ByteArray} (h : Scn r m t) : ∀ (l : List ByteArray) (s : ByteArray), (∀ d ∈ l, d.size ≤ 4096) → s.data.toList = frms l ++ r.data.toList → Scn s (l ++ m) t := by
  intro l
  induction l with
  | nil =>
    intro s _ e
    have : s = r := same_bytes (by simpa [frms] using e)
    subst this; exact h
  | cons d l ih =>
    intro s hl e
    refine .more s d ⟨(frms l ++ r.data.toList).toArray⟩ _ _ ⟨hl d (by simp), by rw [e, mk_list]; simp [frms]⟩ (ih _ (fun x hx => hl x (by simp [hx])) (mk_list _))
/-- Of a beginning of records' bytes a beginning of them is scanned. -/
theorem scn_take (l : List ByteArray) : ∀ (s : ByteArray) (k : Nat), (∀ d ∈ l, d.size ≤ 4096) → s.data.toList = (frms l).take k → ∃ j t, j ≤ l.length ∧ Scn s (l.take j) t := by
  induction l with
  | nil =>
    intro s k _ e
    refine ⟨0, s, by simp, .done s (no_short ?_)⟩
    have e0 : s.data.toList.length = 0 := by rw [e]; simp [frms]
    rw [size_list] at e0
    omega
  | cons d l ih =>
    intro s k hl e
    by_cases hk : (frm d).length ≤ k
    · have e' : (frms (d :: l)).take k = frm d ++ (frms l).take (k - (frm d).length) := by
        rw [show frms (d :: l) = frm d ++ frms l from rfl, List.take_append, List.take_of_length_le hk]
      obtain ⟨j, t, hj, hs⟩ := ih ⟨((frms l).take (k - (frm d).length)).toArray⟩ (k - (frm d).length) (fun x hx => hl x (by simp [hx])) (mk_list _)
      exact ⟨j + 1, t, by simp; omega, .more s d _ _ _ ⟨hl d (by simp), by rw [e, e', mk_list]⟩ hs⟩
    · refine ⟨0, s, by simp, .done s fun d' r' hi => hk ?_⟩
      have h1 : Is ⟨(frms (d :: l)).toArray⟩ d ⟨(frms l).toArray⟩ := ⟨hl d (by simp), by rw [mk_list, mk_list]; rfl⟩
      have h2 : Is ⟨(frms (d :: l)).toArray⟩ d' ⟨(r'.data.toList ++ (frms (d :: l)).drop k).toArray⟩ := by
        refine ⟨hi.1, ?_⟩
        rw [mk_list, mk_list, ← List.append_assoc, ← hi.2, e, List.take_append_drop]
      obtain ⟨rfl, _⟩ := is_det h1 h2
      have := is_size' hi
      have h3 := congrArg List.length e
      rw [size_list, List.length_take] at h3
      omega
theorem four_inj {a b : Nat} (ha : a < 4294967296) (hb : b < 4294967296) (h : four a = four b) : a = b := by
  unfold four at h
  simp only [List.cons.injEq, and_true] at h
  obtain ⟨h1, h2, h3, h4⟩ := h
  have g1 := congrArg UInt8.toNat h1
  have g2 := congrArg UInt8.toNat h2
  have g3 := congrArg UInt8.toNat h3
  have g4 := congrArg UInt8.toNat h4
  simp at g1 g2 g3 g4
  omega
/-- A record whose own bytes are hurt, so that their check is another one, is none. -/
theorem no_hurt {s d d' : ByteArray} {x : List UInt8} (hd : d.size ≤ 4096) (hl : d'.size = d.size) (hc : crcOn 0 d'.data.toList ≠ crcOn 0 d.data.toList)
    (e : s.data.toList = digs (fold d.size) ++ (d'.data.toList ++ (four (crcOn 0 d.data.toList) ++ x))) : No s := by
  intro y r hi
  have h1 := rd_of_is hi
  have h2 : Rd s d.size ⟨(d'.data.toList ++ (four (crcOn 0 d.data.toList) ++ x)).toArray⟩ 0 := rd_of (mayB_t.2 ⟨by omega, by omega⟩) (by rw [e, mk_list])
  obtain ⟨e1, e2⟩ := rd_det h1 h2
  have e3 := congrArg (fun x : ByteArray => x.data.toList) e2
  simp only at e3
  obtain ⟨e4, e5⟩ := app_inj e3 (by rw [size_list, size_list]; omega)
  obtain ⟨e6, _⟩ := app_inj e5 (by rw [four_len, four_len])
  rw [e4] at e6
  exact hc (four_inj (crcOn_lt (by omega) _) (crcOn_lt (by omega) _) e6)

/-- What is handed on of a text, of m bytes in all: each record with the place where its bytes end; and what is left. -/
inductive Hands (m : Nat) : ByteArray → List (ByteArray × Int) → ByteArray → Prop
  | done (s : ByteArray) : No s → Hands m s [] s
  | more (s d r : ByteArray) (xs : List (ByteArray × Int)) (t : ByteArray) : Is s d r → Hands m r xs t → Hands m s ((d, (m : Int) - r.size) :: xs) t
theorem hands_scn {m : Nat} {s : ByteArray} {xs : List (ByteArray × Int)} {t : ByteArray} (h : Hands m s xs t) : Scn s (xs.map Prod.fst) t := by
  induction h with
  | done s hn => exact .done s hn
  | more s d r xs t hi _ ih => exact .more _ _ _ _ _ hi ih
/-- Where the last one ends. -/
def endOf (xs : List (ByteArray × Int)) : Int := (xs.getLast?.map Prod.snd).getD 0
theorem endOf_snoc (xs : List (ByteArray × Int)) (x : ByteArray × Int) : endOf (xs ++ [x]) = x.2 := by simp [endOf]
theorem hands_end {m : Nat} {s : ByteArray} {xs : List (ByteArray × Int)} {t : ByteArray} (h : Hands m s xs t) : (xs = [] ∧ t = s) ∨ (xs ≠ [] ∧ endOf xs = (m : Int) - t.size) := by
  induction h with
  | done s hn => exact .inl ⟨rfl, rfl⟩
  | more s d r xs t hi _ ih =>
    refine .inr ⟨by simp, ?_⟩
    rcases ih with ⟨rfl, rfl⟩ | ⟨h1, h2⟩
    · simp [endOf]
    · rw [← h2]
      unfold endOf
      rw [List.getLast?_cons, List.getLast?_eq_some_getLast h1]
      simp
end Go.Proofs.YtlpkalfbcphkmaaGreat.Frame

/-
  Plain mathematics of a journal's heads: their bytes, which sector is one, which of the two tells of more. No program in it.
-/
namespace Go.Proofs.YtlpkalfbcphkmaaGreat.Disk.Jn
open Go.Lib

/-- How many sectors a half has, of so many; its room; where it begins. -/
def hsN (n : Nat) : Nat := (n - 2) / 2
def roomN (n : Nat) : Nat := 64 * hsN n
def begN (n half : Nat) : Nat := 2 + half * hsN n

/-- A number in k bytes, the lowest first; the number of bytes. -/
def low : Nat → Nat → List UInt8
  | _, 0 => []
  | n, k + 1 => UInt8.ofNat n :: low (n / 256) k
def num : List UInt8 → Nat
  | [] => 0
  | b :: r => b.toNat + 256 * num r
theorem low_len : ∀ (k n : Nat), (low n k).length = k
  | 0, _ => rfl
  | k + 1, n => by simp [low, low_len k]
theorem num_low : ∀ (k n : Nat), num (low n k) = n % 256 ^ k
  | 0, n => by simp [low, num, Nat.mod_one]
  | k + 1, n => by
    have e : (256 : Nat) ^ (k + 1) = 256 * 256 ^ k := by rw [Nat.pow_succ, Nat.mul_comm]
    rw [low, num, num_low k, e, Nat.mod_mul]
    simp
theorem num_lt : ∀ l : List UInt8, num l < 256 ^ l.length
  | [] => by simp [num]
  | b :: r => by
    have := num_lt r
    have hb : b.toNat < 256 := b.toNat_lt
    rw [num, List.length_cons, Nat.pow_succ]
    omega
theorem num_snoc : ∀ (l : List UInt8) (b : UInt8), num (l ++ [b]) = num l + 256 ^ l.length * b.toNat
  | [], b => by simp [num]
  | a :: r, b => by
    rw [List.cons_append, num, num, num_snoc r b, List.length_cons, Nat.pow_succ, Nat.mul_add, ← Nat.mul_assoc, Nat.mul_comm 256 (256 ^ _)]
    omega
theorem low_at : ∀ (k n i : Nat), i < k → (low n k)[i]? = some (UInt8.ofNat (n / 256 ^ i))
  | k + 1, n, 0, _ => by simp [low]
  | k + 1, n, i + 1, h => by
    rw [low, List.getElem?_cons_succ, low_at k (n / 256) i (by omega), Nat.div_div_eq_div_mul, Nat.pow_succ, Nat.mul_comm]

/-- What a head tells. -/
structure Told where
  half : Nat
  seals : Nat
  used : Nat
/-- A disk's head may tell it. -/
def mayP (n : Nat) (t : Told) : Prop := t.half ≤ 1 ∧ 1 ≤ t.seals ∧ t.seals ≤ 1099511627776 ∧ t.used ≤ roomN n
/-- A half of a head's bytes, and a head's bytes. -/
def halfL (t : Told) : List UInt8 := [116, 97, 114, 114, 121] ++ (UInt8.ofNat t.half :: (low t.seals 8 ++ (low t.used 4 ++ List.replicate 14 0)))
def headL (t : Told) : List UInt8 := halfL t ++ halfL t
def headB (t : Told) : ByteArray := ⟨(headL t).toArray⟩
theorem halfL_len (t : Told) : (halfL t).length = 32 := by simp [halfL, low_len]
theorem headL_len (t : Told) : (headL t).length = 64 := by simp [headL, halfL_len]
theorem headB_list (t : Told) : (headB t).data.toList = headL t := by simp [headB]
theorem headB_size (t : Told) : (headB t).size = 64 := by rw [← bytes_size, headB_list, headL_len]
/-- A sector at place p is the head that tells t. -/
def IsHead (n p : Nat) (s : ByteArray) (t : Told) : Prop := mayP n t ∧ t.seals % 2 = p ∧ s = headB t
theorem halfL_inj {n n' : Nat} {t t' : Told} (hn : n ≤ 1000) (hn' : n' ≤ 1000) (h : mayP n t) (h' : mayP n' t') (e : halfL t = halfL t') : t = t' := by
  unfold halfL at e
  have e1 := List.append_cancel_left e
  rw [List.cons.injEq] at e1
  obtain ⟨e2, e3⟩ := e1
  obtain ⟨e4, e5⟩ := List.append_inj e3 (by rw [low_len, low_len])
  obtain ⟨e6, _⟩ := List.append_inj e5 (by rw [low_len, low_len])
  obtain ⟨a1, a2, a3, a4⟩ := h
  obtain ⟨b1, b2, b3, b4⟩ := h'
  have g2 := congrArg UInt8.toNat e2
  have g4 := congrArg num e4
  have g6 := congrArg num e6
  rw [num_low, num_low] at g4 g6
  simp at g2 g4 g6
  unfold roomN hsN at a4 b4
  cases t; cases t'
  simp only [Told.mk.injEq]
  dsimp only at a1 a2 a3 a4 b1 b2 b3 b4 g2 g4 g6
  omega
theorem isHead_det {n p p' : Nat} {s : ByteArray} {t t' : Told} (hn : n ≤ 1000) (h : IsHead n p s t) (h' : IsHead n p' s t') : t = t' := by
  have e : headL t = headL t' := by rw [← headB_list, ← headB_list, ← h.2.2, ← h'.2.2]
  exact halfL_inj hn hn h.1 h'.1 (List.append_inj e (by rw [halfL_len, halfL_len])).1
theorem headL_first (t : Told) : (headL t)[0]? = some 116 := rfl
/-- What begins with a zero is no head. -/
theorem head_not {n p : Nat} {s : ByteArray} (h : s.data.toList[0]? = some 0) (t : Told) : ¬ IsHead n p s t := by
  rintro ⟨_, _, rfl⟩
  rw [headB_list, headL_first] at h
  cases h
/-- A head over zeros, torn: it is none, or whole. -/
theorem head_torn {n p : Nat} {t t' : Told} {k : Nat} (hk : k ≤ 64) (h : IsHead n p ⟨((headL t).take k ++ List.replicate (64 - k) 0).toArray⟩ t') : (headL t).take k ++ List.replicate (64 - k) 0 = headL t := by
  have e : (headL t).take k ++ List.replicate (64 - k) 0 = halfL t' ++ halfL t' := by
    have := congrArg (fun x : ByteArray => x.data.toList) h.2.2
    simpa [headB, headL] using this
  by_cases h32 : k ≤ 32
  · exfalso
    have e2 := congrArg (fun l => l[32]?) e
    rw [List.getElem?_append_right (by rw [List.length_take, headL_len]; omega), List.getElem?_append_right (by rw [halfL_len]; omega), halfL_len, List.length_take, headL_len, List.getElem?_replicate, if_pos (by omega)] at e2
    exact absurd e2 (by simp [halfL])
  · have e2 := congrArg (List.take 32) e
    rw [List.take_append, List.take_take, List.length_take, headL_len, Nat.min_eq_left (by omega), show 32 - min k 64 = 0 by omega, List.take_zero, List.append_nil, List.take_left' (halfL_len t')] at e2
    have e3 : (headL t).take 32 = halfL t := List.take_left' (halfL_len t)
    rw [e, ← e2, e3]
    rfl
end Go.Proofs.YtlpkalfbcphkmaaGreat.Disk.Jn

/-
  Plain mathematics of journals: the bytes of a half, which head is the newest, the records that a disk's journal has. No program in it.
-/
namespace Go.Proofs.YtlpkalfbcphkmaaGreat.Disk.Jn
open Go.Lib
open Go.Proofs.YtlpkalfbcphkmaaGreat.Frame (frm frms frms_append frms_snoc frm_pos frm_len size_list mk_list Scn scn_pre scn_det scn_bytes no_short)

theorem hs_le {n half : Nat} (hn : 8 ≤ n) (hh : half ≤ 1) : begN n half + hsN n ≤ n := by
  unfold begN hsN
  have : half * ((n - 2) / 2) ≤ 1 * ((n - 2) / 2) := Nat.mul_le_mul_right _ hh
  omega
/-- Each sector has 64 bytes. -/
def Secs64 (ls : List ByteArray) : Prop := ∀ x ∈ ls, x.size = 64
theorem secs_of {ls : List ByteArray} {ws : List (Int × ByteArray)} (h : rightB ls ws = true) : Secs64 ls := fun x hx => by
  obtain ⟨j, hj, rfl⟩ := List.getElem_of_mem hx
  exact (rightB_t.1 h).2.2.2.1 j hj
/-- Byte i of sector a. -/
def secB (ls : List ByteArray) (a i : Nat) : Option UInt8 := (ls.getD a ⟨#[]⟩).data.toList[i]?
theorem flat_len : ∀ L : List ByteArray, Secs64 L → (L.flatMap (·.data.toList)).length = 64 * L.length
  | [], _ => rfl
  | x :: r, h => by
    rw [List.flatMap_cons, List.length_append, flat_len r (fun y hy => h y (by simp [hy])), size_list, h x (by simp), List.length_cons]
    omega
theorem flat_at : ∀ (L : List ByteArray), Secs64 L → ∀ j : Nat, (L.flatMap (·.data.toList))[j]? = secB L (j / 64) (j % 64)
  | [], _, j => by simp [secB]
  | x :: r, h, j => by
    have hx : x.data.toList.length = 64 := by rw [size_list]; exact h x (by simp)
    rw [List.flatMap_cons]
    by_cases hj : j < 64
    · rw [List.getElem?_append_left (by omega), show j / 64 = 0 by omega, show j % 64 = j by omega]
      rfl
    · rw [List.getElem?_append_right (by omega), hx, flat_at r (fun y hy => h y (by simp [hy])), show j / 64 = (j - 64) / 64 + 1 by omega, show j % 64 = (j - 64) % 64 by omega]
      rfl
/-- The bytes of a half. -/
def bytesOf (ls : List ByteArray) (half : Nat) : List UInt8 := ((ls.drop (begN ls.length half)).take (hsN ls.length)).flatMap (·.data.toList)
theorem half_secs {ls : List ByteArray} (h : Secs64 ls) (a b : Nat) : Secs64 ((ls.drop a).take b) := fun x hx => h x (List.mem_of_mem_drop (List.mem_of_mem_take hx))
theorem bytesOf_len {ls : List ByteArray} (h : Secs64 ls) (hn : 8 ≤ ls.length) {half : Nat} (hh : half ≤ 1) : (bytesOf ls half).length = roomN ls.length := by
  have := hs_le hn hh
  unfold bytesOf
  rw [flat_len _ (half_secs h _ _), List.length_take, List.length_drop]
  unfold roomN
  congr 1
  omega
theorem bytesOf_at {ls : List ByteArray} (h : Secs64 ls) {half j : Nat} (hj : j < roomN ls.length) : (bytesOf ls half)[j]? = secB ls (begN ls.length half + j / 64) (j % 64) := by
  unfold bytesOf
  rw [flat_at _ (half_secs h _ _)]
  unfold secB
  have : j / 64 < hsN ls.length := by unfold roomN at hj; omega
  rw [List.getD, List.getD, List.getElem?_take, if_pos this, List.getElem?_drop]
theorem take_same {ls ls' : List ByteArray} (h : Secs64 ls) (h' : Secs64 ls') (hl : ls'.length = ls.length) {half u : Nat} (hu : u ≤ roomN ls.length) (hs : ∀ j, j < u → secB ls' (begN ls.length half + j / 64) (j % 64) = secB ls (begN ls.length half + j / 64) (j % 64)) :
    (bytesOf ls' half).take u = (bytesOf ls half).take u := by
  apply List.ext_getElem?
  intro j
  rw [List.getElem?_take, List.getElem?_take]
  by_cases hj : j < u
  · rw [if_pos hj, if_pos hj, bytesOf_at h (by omega), bytesOf_at h' (by rw [hl]; omega), hl]
    exact hs j hj
  · rw [if_neg hj, if_neg hj]

/-- What the head of more seals tells, if there is one. -/
def Newest (ls : List ByteArray) (t : Told) : Prop := IsHead ls.length (t.seals % 2) (ls.getD (t.seals % 2) ⟨#[]⟩) t ∧ ∀ p, p < 2 → ∀ t', IsHead ls.length p (ls.getD p ⟨#[]⟩) t' → t'.seals ≤ t.seals
def NoHead (ls : List ByteArray) : Prop := ∀ p, p < 2 → ∀ t, ¬ IsHead ls.length p (ls.getD p ⟨#[]⟩) t
theorem newest_det {ls : List ByteArray} {t t' : Told} (hn : ls.length ≤ 1000) (h : Newest ls t) (h' : Newest ls t') : t = t' := by
  have e1 := h.2 _ (Nat.mod_lt _ (by omega)) _ h'.1
  have e2 := h'.2 _ (Nat.mod_lt _ (by omega)) _ h.1
  have e : t'.seals = t.seals := by omega
  have h2 := h'.1
  rw [e] at h2
  exact isHead_det hn h.1 h2
theorem newest_no {ls : List ByteArray} {t : Told} (h : NoHead ls) : ¬ Newest ls t := fun h' => h _ (Nat.mod_lt _ (by omega)) _ h'.1
theorem newest_or (ls : List ByteArray) (hn : ls.length ≤ 1000) : NoHead ls ∨ ∃ t, Newest ls t := by
  have two : ∀ t, (∃ p, p < 2 ∧ IsHead ls.length p (ls.getD p ⟨#[]⟩) t) → (∀ p, p < 2 → ∀ t', IsHead ls.length p (ls.getD p ⟨#[]⟩) t' → t'.seals ≤ t.seals) → ∃ t, Newest ls t := by
    rintro t ⟨p, hp, h⟩ hall
    have e := h.2.1
    subst e
    exact ⟨t, h, hall⟩
  have both : ∀ {p t t'}, ls.length ≤ 1000 → IsHead ls.length p (ls.getD p ⟨#[]⟩) t → IsHead ls.length p (ls.getD p ⟨#[]⟩) t' → t'.seals ≤ t.seals := by
    intro p t t' hn h h'
    have := isHead_det hn h h'
    subst this
    exact Nat.le_refl _
  by_cases h0 : ∃ t, IsHead ls.length 0 (ls.getD 0 ⟨#[]⟩) t
  · obtain ⟨t0, h0⟩ := h0
    by_cases h1 : ∃ t, IsHead ls.length 1 (ls.getD 1 ⟨#[]⟩) t ∧ t0.seals ≤ t.seals
    · obtain ⟨t1, h1, hle⟩ := h1
      refine .inr (two t1 ⟨1, by omega, h1⟩ fun p hp t' h' => ?_)
      match p, hp with
      | 0, _ => have := both hn h0 h'; omega
      | 1, _ => exact both hn h1 h'
    · refine .inr (two t0 ⟨0, by omega, h0⟩ fun p hp t' h' => ?_)
      match p, hp with
      | 0, _ => exact both hn h0 h'
      | 1, _ =>
        apply Classical.byContradiction
        intro hc
        exact h1 ⟨t', h', by omega⟩
  · by_cases h1 : ∃ t, IsHead ls.length 1 (ls.getD 1 ⟨#[]⟩) t
    · obtain ⟨t1, h1⟩ := h1
      refine .inr (two t1 ⟨1, by omega, h1⟩ fun p hp t' h' => ?_)
      match p, hp with
      | 0, _ => exact absurd ⟨t', h'⟩ h0
      | 1, _ => exact both hn h1 h'
    · refine .inl fun p hp t h => ?_
      match p, hp with
      | 0, _ => exact h0 ⟨t, h⟩
      | 1, _ => exact h1 ⟨t, h⟩

/-- A disk's journal: what its head tells, and its records. -/
def Opens (ls : List ByteArray) (t : Told) (l : List ByteArray) : Prop :=
  rightB ls [] = true ∧ 8 ≤ ls.length ∧ Newest ls t ∧ (bytesOf ls t.half).take t.used = frms l ∧ ∀ d ∈ l, d.size ≤ 4096
theorem scn_frms (l : List ByteArray) (h : ∀ d ∈ l, d.size ≤ 4096) : Scn ⟨(frms l).toArray⟩ l ⟨#[]⟩ := by
  have := scn_pre (.done ⟨#[]⟩ (no_short (by simp [ByteArray.size]))) l ⟨(frms l).toArray⟩ h (by rw [mk_list]; simp)
  rwa [List.append_nil] at this
theorem frms_inj {l l' : List ByteArray} (h : ∀ d ∈ l, d.size ≤ 4096) (h' : ∀ d ∈ l', d.size ≤ 4096) (e : frms l = frms l') : l = l' :=
  (scn_det (scn_frms l h) (e ▸ scn_frms l' h')).1
theorem opens_len {ls : List ByteArray} {t : Told} {l : List ByteArray} (h : Opens ls t l) : ls.length ≤ 512 := (rightB_t.1 h.1).2.1
theorem opens_det {ls : List ByteArray} {t t' : Told} {l l' : List ByteArray} (h : Opens ls t l) (h' : Opens ls t' l') : t = t' ∧ l = l' := by
  have hl := opens_len h
  obtain rfl := newest_det (by omega) h.2.2.1 h'.2.2.1
  exact ⟨rfl, frms_inj h.2.2.2.2 h'.2.2.2.2 (h.2.2.2.1.symm.trans h'.2.2.2.1)⟩
theorem opens_may {ls : List ByteArray} {t : Told} {l : List ByteArray} (h : Opens ls t l) : mayP ls.length t := h.2.2.1.1.1
/-- A disk whose head, and whose records' bytes, are the same, opens the same. -/
theorem opens_keep {ls ls' : List ByteArray} {t : Told} {l : List ByteArray} (h : Opens ls t l) (hr : rightB ls' [] = true) (hl : ls'.length = ls.length) (hp : ls'.getD (t.seals % 2) ⟨#[]⟩ = ls.getD (t.seals % 2) ⟨#[]⟩)
    (hq : ∀ q, q < 2 → q ≠ t.seals % 2 → ls'.getD q ⟨#[]⟩ = ls.getD q ⟨#[]⟩ ∨ ∀ t', ¬ IsHead ls.length q (ls'.getD q ⟨#[]⟩) t')
    (hs : ∀ j, j < t.used → secB ls' (begN ls.length t.half + j / 64) (j % 64) = secB ls (begN ls.length t.half + j / 64) (j % 64)) : Opens ls' t l := by
  obtain ⟨h1, h2, ⟨h3, h4⟩, h5, h6⟩ := h
  refine ⟨hr, by omega, ⟨by rw [hl, hp]; exact h3, fun p hp2 t' ht' => ?_⟩, ?_, h6⟩
  · rw [hl] at ht'
    by_cases c : p = t.seals % 2
    · subst c; rw [hp] at ht'; exact h4 _ hp2 _ ht'
    · rcases hq p hp2 c with e | e
      · rw [e] at ht'; exact h4 _ hp2 _ ht'
      · exact absurd ht' (e t')
  · rw [← h5]
    exact take_same (secs_of h1) (secs_of hr) hl h3.1.2.2.2 hs
/-- A disk with a new head. -/
theorem opens_new {ls ls' : List ByteArray} {t t' : Told} {l l' : List ByteArray} (h : Opens ls t l) (hr : rightB ls' [] = true) (hl : ls'.length = ls.length) (hp : ls'.getD (t.seals % 2) ⟨#[]⟩ = ls.getD (t.seals % 2) ⟨#[]⟩)
    (hm : mayP ls.length t') (hn : t'.seals = t.seals + 1) (hq : ls'.getD (t'.seals % 2) ⟨#[]⟩ = headB t') (hs : (bytesOf ls' t'.half).take t'.used = frms l') (h4096 : ∀ d ∈ l', d.size ≤ 4096) : Opens ls' t' l' := by
  obtain ⟨h1, h2, ⟨h3, h4⟩, h5, h6⟩ := h
  have hlen := (rightB_t.1 h1).2.1
  refine ⟨hr, by omega, ⟨⟨by rw [hl]; exact hm, rfl, hq⟩, fun p hp2 t'' ht => ?_⟩, hs, h4096⟩
  rw [hl] at ht
  by_cases c : p = t'.seals % 2
  · subst c
    rw [hq] at ht
    have := isHead_det (by omega) ht ⟨hm, rfl, rfl⟩
    subst this; exact Nat.le_refl _
  · have : p = t.seals % 2 := by omega
    subst this
    rw [hp] at ht
    have := h4 _ hp2 _ ht
    omega
end Go.Proofs.YtlpkalfbcphkmaaGreat.Disk.Jn

/-
  Contracts of the library's functions, laid at this program.
-/
namespace Go.Proofs.YtlpkalfbcphkmaaGreat.Disk
open Go.Shelf
def Tryz.lays105_ren : Go.Shelf.Ren := ⟨fun | 105 => 74 | 212 => 93 | 99 => 94 | 165 => 89 | 166 => 90 | 170 => 95 | 169 => 91 | 263 => 107 | 264 => 108 | 206 => 109 | 240 => 105 | 241 => 106 | 276 => 115 | 277 => 116 | n => n, fun | 9 => 9 | 3 => 3 | 4 => 4 | 20 => 20 | 0 => 0 | 46 => 132 | 109 => 133 | 5 => 5 | 72 => 126 | 76 => 130 | 51 => 89 | 146 => 147 | 53 => 51 | 148 => 149 | 70 => 124 | 37 => 41 | 75 => 129 | 127 => 146 | 164 => 155 | 80 => 78 | n => n, fun | n => n⟩
theorem Tryz.lays105 : Go.Proofs.Lays.n105 Tryz.prog Tryz.lays105_ren := {
  mixed := by kernel_rfl
  f99 := Tryz.func94.trans (congrArg some (by kernel_rfl))
  f105 := Tryz.func74.trans (congrArg some (by kernel_rfl))
  f165 := Tryz.func89.trans (congrArg some (by kernel_rfl))
  f166 := Tryz.func90.trans (congrArg some (by kernel_rfl))
  f169 := Tryz.func91.trans (congrArg some (by kernel_rfl))
  f170 := Tryz.func95.trans (congrArg some (by kernel_rfl))
  f206 := Tryz.func109.trans (congrArg some (by kernel_rfl))
  f212 := Tryz.func93.trans (congrArg some (by kernel_rfl))
  f240 := Tryz.func105.trans (congrArg some (by kernel_rfl))
  f241 := Tryz.func106.trans (congrArg some (by kernel_rfl))
  f263 := Tryz.func107.trans (congrArg some (by kernel_rfl))
  f264 := Tryz.func108.trans (congrArg some (by kernel_rfl))
  f276 := Tryz.func115.trans (congrArg some (by kernel_rfl))
  f277 := Tryz.func116.trans (congrArg some (by kernel_rfl))
  t0 := Tryz.underlying0
  a0 := Tryz.isAgg0
  z0 := Tryz.sizeOf0
  v0 := Tryz.zeroValue0
  t3 := Tryz.underlying3
  a3 := Tryz.isAgg3
  z3 := Tryz.sizeOf3
  v3 := Tryz.zeroValue3
  t4 := Tryz.underlying4
  a4 := Tryz.isAgg4
  z4 := Tryz.sizeOf4
  v4 := Tryz.zeroValue4
  t5 := Tryz.underlying5
  a5 := Tryz.isAgg5
  z5 := Tryz.sizeOf5
  v5 := Tryz.zeroValue5
  t9 := Tryz.underlying9
  a9 := Tryz.isAgg9
  z9 := Tryz.sizeOf9
  v9 := Tryz.zeroValue9
  t20 := Tryz.underlying20
  a20 := Tryz.isAgg20
  z20 := Tryz.sizeOf20
  v20 := Tryz.zeroValue20
  t37 := Tryz.underlying41
  a37 := Tryz.isAgg41
  z37 := Tryz.sizeOf41
  v37 := Tryz.zeroValue41
  t46 := Tryz.underlying132
  a46 := Tryz.isAgg132
  z46 := Tryz.sizeOf132
  v46 := Tryz.zeroValue132
  t51 := Tryz.underlying89
  a51 := Tryz.isAgg89
  z51 := Tryz.sizeOf89
  v51 := Tryz.zeroValue89
  t53 := Tryz.underlying51
  a53 := Tryz.isAgg51
  z53 := Tryz.sizeOf51
  v53 := Tryz.zeroValue51
  t70 := Tryz.underlying124
  a70 := Tryz.isAgg124
  z70 := Tryz.sizeOf124
  v70 := Tryz.zeroValue124
  t72 := Tryz.underlying126
  a72 := Tryz.isAgg126
  z72 := Tryz.sizeOf126
  v72 := Tryz.zeroValue126
  t75 := Tryz.underlying129
  a75 := Tryz.isAgg129
  z75 := Tryz.sizeOf129
  v75 := Tryz.zeroValue129
  t76 := Tryz.underlying130
  a76 := Tryz.isAgg130
  z76 := Tryz.sizeOf130
  v76 := Tryz.zeroValue130
  t109 := Tryz.underlying133
  a109 := Tryz.isAgg133
  z109 := Tryz.sizeOf133
  v109 := Tryz.zeroValue133
  t127 := Tryz.underlying146
  a127 := Tryz.isAgg146
  z127 := Tryz.sizeOf146
  v127 := Tryz.zeroValue146
  t146 := Tryz.underlying147
  a146 := Tryz.isAgg147
  z146 := Tryz.sizeOf147
  v146 := Tryz.zeroValue147
  t148 := Tryz.underlying149
  a148 := Tryz.isAgg149
  z148 := Tryz.sizeOf149
  v148 := Tryz.zeroValue149
  t164 := Tryz.underlying155
  a164 := Tryz.isAgg155
  z164 := Tryz.sizeOf155
  v164 := Tryz.zeroValue155 }
theorem Tryz.Builder_Extra_105 : Builder.Extra Tryz.prog Tryz.lays105_ren := {
  sizeBuilder := by kernel_rfl
  liesBuilder := by kernel_rfl
  t5 := Tryz.underlying5
  a5 := Tryz.isAgg5
  z5 := Tryz.sizeOf5
  v5 := Tryz.zeroValue5
  infoByte := by kernel_rfl
  cellsByte := by kernel_rfl
  sizeByte := by kernel_rfl
  neB5 := by decide }
open Go.RowKit Go.Lib in
theorem Tryz.strings_Repeat (s : ByteArray) (c : Nat) (w : World) (hc : c ≤ 9223372036854775807) (hlen : s.size * c ≤ 140737488355328) :
    Calls Tryz.prog 74 #[.string s, .int .i64 c] w fun e w' => e = .returned (.string ⟨(Lib.repeatL s.data.toList c).toArray⟩) ∧ Below w.heap.size w w' := Any.strings_Repeat Tryz.lays105 Tryz.Builder_Extra_105 s c w hc hlen
end Go.Proofs.YtlpkalfbcphkmaaGreat.Disk
