/-
  What a text is read as, as a row of texts (a relation over bytes), and the contracts of readText and ReadRow of package pack and of the reference's ReadRow, over it.
-/
import Derived.Test.YtbipkbcmcidalaaCount
import Derived.Test.YtbipkbcmcidalaaKeep
namespace Go.Proofs.Ytbipkbcmcidalaa
open Go.ChangeShapes Go.WideShapes Go.ChangeAt Go.RowKit Go.Lib Go.Conc

/-- The text s is read as the text x with t behind it, or refused with b. -/
def RdText (s x t : ByteArray) (b : Int) : Prop :=
  ∃ n0 t0 b0, RdCount 4096 s n0 t0 b0 ∧ ((b0 ≠ 0 ∧ x = ⟨#[]⟩ ∧ t = ⟨#[]⟩ ∧ b = b0) ∨ (b0 = 0 ∧ (t0.size : Int) < n0 ∧ x = ⟨#[]⟩ ∧ t = ⟨#[]⟩ ∧ b = 4) ∨
    (b0 = 0 ∧ n0 ≤ (t0.size : Int) ∧ x = t0.extract 0 n0.toNat ∧ t = t0.extract n0.toNat t0.size ∧ b = 0))

theorem rdCount_good {most : Int} {s : ByteArray} {n : Int} {t : ByteArray} (h : RdCount most s n t 0) : Rd s n t 0 ∧ 0 ≤ n ∧ n ≤ most := by
  obtain ⟨n0, t0, b0, hr, ⟨h1, rfl, rfl, h2⟩ | ⟨rfl, h1, rfl, rfl, h2⟩ | ⟨rfl, h1, h2, rfl, rfl, h3⟩ | ⟨rfl, h1, h2, rfl, rfl, _⟩⟩ := h
  · exact absurd h2.symm h1
  · omega
  · omega
  · exact ⟨hr, h2, h1⟩
theorem rdCount_bad {most : Int} {s : ByteArray} {n : Int} {t : ByteArray} {b : Int} (h : RdCount most s n t b) (hb : b ≠ 0) : n = 0 ∧ t = ⟨#[]⟩ ∧ 1 ≤ b ∧ b ≤ 5 := by
  obtain ⟨n0, t0, b0, hr, ⟨h1, rfl, rfl, rfl⟩ | ⟨rfl, h1, rfl, rfl, rfl⟩ | ⟨rfl, h1, h2, rfl, rfl, rfl⟩ | ⟨rfl, h1, h2, rfl, rfl, rfl⟩⟩ := h
  · have := rd_bad hr h1; exact ⟨rfl, rfl, this.2.2.1, this.2.2.2⟩
  · exact ⟨rfl, rfl, by omega, by omega⟩
  · exact ⟨rfl, rfl, by omega, by omega⟩
  · exact absurd rfl hb
theorem rdCount_size {most : Int} {s : ByteArray} {n : Int} {t : ByteArray} {b : Int} (h : RdCount most s n t b) : t.size ≤ s.size := by
  by_cases hb : b = 0
  · subst hb; exact (rd_size (rdCount_good h).1).1
  · rw [(rdCount_bad h hb).2.1]; exact Nat.zero_le _

theorem rdText_some (s : ByteArray) : ∃ x t b, RdText s x t b := by
  obtain ⟨n, t, b, h⟩ := rdCount_some 4096 s
  by_cases hb : b = 0
  · by_cases h1 : (t.size : Int) < n
    · exact ⟨_, _, _, n, t, b, h, .inr (.inl ⟨hb, h1, rfl, rfl, rfl⟩)⟩
    · exact ⟨_, _, _, n, t, b, h, .inr (.inr ⟨hb, by omega, rfl, rfl, rfl⟩)⟩
  · exact ⟨_, _, _, n, t, b, h, .inl ⟨hb, rfl, rfl, rfl⟩⟩
theorem rdText_good {s x t : ByteArray} (h : RdText s x t 0) : ∃ (n : Nat) (t0 : ByteArray), RdCount 4096 s n t0 0 ∧ n ≤ t0.size ∧ n ≤ 4096 ∧ x = t0.extract 0 n ∧ t = t0.extract n t0.size := by
  obtain ⟨n0, t0, b0, hr, ⟨h1, _, _, h2⟩ | ⟨_, h1, _, _, h2⟩ | ⟨rfl, h1, rfl, rfl, _⟩⟩ := h
  · exact absurd h2.symm h1
  · omega
  · obtain ⟨_, h2, h3⟩ := rdCount_good hr
    refine ⟨n0.toNat, t0, ?_, by omega, by omega, rfl, rfl⟩
    rw [Int.toNat_of_nonneg h2]; exact hr
theorem rdText_bad {s x t : ByteArray} {b : Int} (h : RdText s x t b) (hb : b ≠ 0) : 1 ≤ b ∧ b ≤ 5 := by
  obtain ⟨n0, t0, b0, hr, ⟨h1, _, _, rfl⟩ | ⟨_, h1, _, _, rfl⟩ | ⟨_, h1, _, _, rfl⟩⟩ := h
  · have := rdCount_bad hr h1; exact this.2.2
  · omega
  · exact absurd rfl hb
theorem rdText_size {s x t : ByteArray} {b : Int} (h : RdText s x t b) : x.size ≤ 4096 ∧ t.size ≤ s.size := by
  obtain ⟨n0, t0, b0, hr, ⟨h1, rfl, rfl, _⟩ | ⟨_, h1, rfl, rfl, _⟩ | ⟨rfl, h1, rfl, rfl, _⟩⟩ := h
  · exact ⟨Nat.zero_le _, Nat.zero_le _⟩
  · exact ⟨Nat.zero_le _, Nat.zero_le _⟩
  · obtain ⟨_, h2, h3⟩ := rdCount_good hr
    have := rdCount_size hr
    rw [ByteArray.size_extract, ByteArray.size_extract]
    omega

/-- Two texts and an error are returned. -/
def SSI (x t : ByteArray) (b : Int) (w : World) (e : Ending) (w' : World) : Prop := e = .returned (.tuple #[.string x, .string t, .int .i64 b]) ∧ Below w.heap.size w w'

/-- From the text s, k texts are read: us, with fin behind them; or the reading ends with e behind us. -/
inductive Reads : Nat → ByteArray → List ByteArray → ByteArray → Int → Prop
  | done (s : ByteArray) : Reads 0 s [] s 0
  | bad (k : Nat) (s x t : ByteArray) (b : Int) (h : RdText s x t b) (hb : b ≠ 0) : Reads (k + 1) s [] t b
  | more (k : Nat) (s x t : ByteArray) (us : List ByteArray) (fin : ByteArray) (e : Int) (h : RdText s x t 0) (hr : Reads k t us fin e) : Reads (k + 1) s (x :: us) fin e

theorem reads_some (k : Nat) : ∀ s, ∃ us fin e, Reads k s us fin e := by
  induction k with
  | zero => exact fun s => ⟨_, _, _, .done s⟩
  | succ k ih =>
    intro s
    obtain ⟨x, t, b, h⟩ := rdText_some s
    by_cases hb : b = 0
    · subst hb
      obtain ⟨us, fin, e, hr⟩ := ih t
      exact ⟨_, _, _, .more k s x t us fin e h hr⟩
    · exact ⟨_, _, _, .bad k s x t b h hb⟩

/-- The text s is read as the row ts, or refused with b. -/
def RdRow (s : ByteArray) (ts : List ByteArray) (b : Int) : Prop :=
  ∃ n t b1, RdCount 256 s n t b1 ∧ ((b1 ≠ 0 ∧ ts = [] ∧ b = b1) ∨ (b1 = 0 ∧ ∃ us fin e, Reads n.toNat t us fin e ∧
    ((e ≠ 0 ∧ ts = [] ∧ b = e) ∨ (e = 0 ∧ 0 < fin.size ∧ ts = [] ∧ b = 5) ∨ (e = 0 ∧ fin.size = 0 ∧ ts = us ∧ b = 0))))

theorem rdRow_some (s : ByteArray) : ∃ ts b, RdRow s ts b := by
  obtain ⟨n, t, b, h⟩ := rdCount_some 256 s
  by_cases hb : b = 0
  · obtain ⟨us, fin, e, hr⟩ := reads_some n.toNat t
    by_cases he : e = 0
    · by_cases hf : 0 < fin.size
      · exact ⟨_, _, n, t, b, h, .inr ⟨hb, us, fin, e, hr, .inr (.inl ⟨he, hf, rfl, rfl⟩)⟩⟩
      · exact ⟨_, _, n, t, b, h, .inr ⟨hb, us, fin, e, hr, .inr (.inr ⟨he, by omega, rfl, rfl⟩)⟩⟩
    · exact ⟨_, _, n, t, b, h, .inr ⟨hb, us, fin, e, hr, .inl ⟨he, rfl, rfl⟩⟩⟩
  · exact ⟨_, _, n, t, b, h, .inl ⟨hb, rfl, rfl⟩⟩

/-- A row of texts and an error are returned. -/
def RowI (ts : List ByteArray) (b : Int) (w : World) (e : Ending) (w' : World) : Prop :=
  ∃ v, e = .returned (.tuple #[v, .int .i64 b]) ∧ w'.ownsRow w.heap.size 9 1 v ts.length (scells ts) ∧ Below w.heap.size w w'

theorem reads_len {k : Nat} {s : ByteArray} {us : List ByteArray} {fin : ByteArray} {e : Int} (h : Reads k s us fin e) : us.length ≤ k := by
  induction h with
  | done => simp
  | bad => simp
  | more _ _ _ _ _ _ _ _ _ ih => simp only [List.length_cons]; omega

theorem rdRow_len {s : ByteArray} {ts : List ByteArray} {b : Int} (h : RdRow s ts b) : ts.length ≤ 256 := by
  obtain ⟨n, t, b1, hc, ⟨h1, rfl, rfl⟩ | ⟨rfl, us, fin, e, hr, hb⟩⟩ := h
  · simp
  · obtain ⟨_, h2, h3⟩ := rdCount_good hc
    have := reads_len hr
    rcases hb with ⟨_, rfl, _⟩ | ⟨_, _, rfl, _⟩ | ⟨_, _, rfl, _⟩
    · simp
    · simp
    · omega

theorem own_base {B B' : Nat} {e : TypeId} {z : Nat} {v : Value} {n : Nat} {xs : List Value} {w : World} (h : w.ownsRow B e z v n xs) (hB : B' ≤ B) : w.ownsRow B' e z v n xs := by
  obtain ⟨h1, h2 | ⟨g, cp, cur, hv, hg, h3⟩⟩ := h
  · exact ⟨h1, .inl h2⟩
  · exact ⟨h1, .inr ⟨g, cp, cur, hv, by omega, h3⟩⟩
theorem scells_push (l : List ByteArray) (x : ByteArray) : (scells l).toArray.push (.string x) = (scells (l ++ [x])).toArray := by simp [scells]

/-- What holds at the head of the loop that reads texts into a channel. -/
def Filling (c m : Nat) (us : List ByteArray) (fin : ByteArray) (e : Int) (z : Nat) (w : World) (rest i : Value) (wr : World) : Prop :=
  ∃ (k : Nat) (l : List ByteArray) (t' : ByteArray) (us' : List ByteArray) (sd : Nat), k ≤ m ∧ i = .int .i64 k ∧ rest = .string t' ∧ t'.size ≤ z ∧ l.length = k ∧ l ++ us' = us ∧ Reads (m - k) t' us' fin e ∧
    wr.heap[c]? = some (.chan 256 (scells l).toArray false sd 0 false) ∧ Below w.heap.size w wr

theorem full_of {s : ByteArray} (h : 0 < s.size) : s.toList.isEmpty = false := by
  rw [ByteArray.toList_eq]
  cases hc : s.data.toList with
  | nil => have : s.data.size = 0 := by rw [← Array.length_toList, hc]; rfl
           rw [ByteArray.size_data] at this; omega
  | cons => rfl
theorem empty_of {s : ByteArray} (h : s.size = 0) : s.toList.isEmpty = true := by
  rw [ByteArray.toList_eq]
  cases hc : s.data.toList with
  | nil => rfl
  | cons => have : s.data.size ≠ 0 := by rw [← Array.length_toList, hc]; simp
            rw [ByteArray.size_data] at this; omega
theorem lt_of_heap {w : World} {c : Nat} {o : Obj} (h : w.heap[c]? = some o) : c < w.heap.size := by
  apply Classical.byContradiction
  intro hn
  rw [Array.getElem?_eq_none (by omega)] at h
  cases h

end Go.Proofs.Ytbipkbcmcidalaa
