/-
  Joined: JHead, JMath, Shelf.
-/
import Derived.Test.YtndakbjmahkjdaaMe
import Derived.Test.YtndakbjmahkjdaaMk
import Derived.Shelf.Strings.Builder1
import Derived.Shelf.Strings.Builder2
import Derived.Shelf.Strings.OnBuilder
import Derived.Shelf.Strings.BuilderF
import Derived.Shelf.Strings.Prefix
import Derived.Shelf.Bits.Mul64
import Derived.Shelf.Strings.Repeat
import Derived.Shelf.Slices.Equal
import Derived.Shelf.Slices.Empties2
import Derived.Test.YtndakbjmahkjdaaProg

/-
  Plain mathematics of a journal's heads: their bytes, which sector is one, which of the two tells of more. No program in it.
-/
namespace Go.Proofs.Ytndakbjmahkjdaa.Disk.Jn
open Go.Lib

/-- How many sectors a half has, of so many; its room; where it begins. -/
def hsN (n : Nat) : Nat := (n - 2) / 2
def roomN (n : Nat) : Nat := 64 * hsN n
def begN (n half : Nat) : Nat := 2 + half * hsN n

/-- A number in k bytes, the lowest first; the number of bytes. -/
def low : Nat → Nat → List UInt8
  | _, 0 => []
  | n, k + 1 => UInt8.ofNat n :: low (n / 256) k
def num : List UInt8 → Nat
  | [] => 0
  | b :: r => b.toNat + 256 * num r
theorem low_len : ∀ (k n : Nat), (low n k).length = k
  | 0, _ => rfl
  | k + 1, n => by simp [low, low_len k]
theorem num_low : ∀ (k n : Nat), num (low n k) = n % 256 ^ k
  | 0, n => by simp [low, num, Nat.mod_one]
  | k + 1, n => by
    have e : (256 : Nat) ^ (k + 1) = 256 * 256 ^ k := by rw [Nat.pow_succ, Nat.mul_comm]
    rw [low, num, num_low k, e, Nat.mod_mul]
    simp
theorem num_lt : ∀ l : List UInt8, num l < 256 ^ l.length
  | [] => by simp [num]
  | b :: r => by
    have := num_lt r
    have hb : b.toNat < 256 := b.toNat_lt
    rw [num, List.length_cons, Nat.pow_succ]
    omega
theorem num_snoc : ∀ (l : List UInt8) (b : UInt8), num (l ++ [b]) = num l + 256 ^ l.length * b.toNat
  | [], b => by simp [num]
  | a :: r, b => by
    rw [List.cons_append, num, num, num_snoc r b, List.length_cons, Nat.pow_succ, Nat.mul_add, ← Nat.mul_assoc, Nat.mul_comm 256 (256 ^ _)]
    omega
theorem low_at : ∀ (k n i : Nat), i < k → (low n k)[i]? = some (UInt8.ofNat (n / 256 ^ i))
  | k + 1, n, 0, _ => by simp [low]
  | k + 1, n, i + 1, h => by
    rw [low, List.getElem?_cons_succ, low_at k (n / 256) i (by omega), Nat.div_div_eq_div_mul, Nat.pow_succ, Nat.mul_comm]

/-- What a head tells. -/
structure Told where
  half : Nat
  seals : Nat
  used : Nat
/-- A disk's head may tell it. -/
def mayP (n : Nat) (t : Told) : Prop := t.half ≤ 1 ∧ 1 ≤ t.seals ∧ t.seals ≤ 1099511627776 ∧ t.used ≤ roomN n
/-- A half of a head's bytes, and a head's bytes. -/
def halfL (t : Told) : List UInt8 := [116, 97, 114, 114, 121] ++ (UInt8.ofNat t.half :: (low t.seals 8 ++ (low t.used 4 ++ List.replicate 14 0)))
def headL (t : Told) : List UInt8 := halfL t ++ halfL t
def headB (t : Told) : ByteArray := ⟨(headL t).toArray⟩
theorem halfL_len (t : Told) : (halfL t).length = 32 := by simp [halfL, low_len]
theorem headL_len (t : Told) : (headL t).length = 64 := by simp [headL, halfL_len]
theorem headB_list (t : Told) : (headB t).data.toList = headL t := by simp [headB]
theorem headB_size (t : Told) : (headB t).size = 64 := by rw [← bytes_size, headB_list, headL_len]
/-- A sector at place p is the head that tells t. -/
def IsHead (n p : Nat) (s : ByteArray) (t : Told) : Prop := mayP n t ∧ t.seals % 2 = p ∧ s = headB t
theorem halfL_inj {n n' : Nat} {t t' : Told} (hn : n ≤ 1000) (hn' : n' ≤ 1000) (h : mayP n t) (h' : mayP n' t') (e : halfL t = halfL t') : t = t' := by
  unfold halfL at e
  have e1 := List.append_cancel_left e
  rw [List.cons.injEq] at e1
  obtain ⟨e2, e3⟩ := e1
  obtain ⟨e4, e5⟩ := List.append_inj e3 (by rw [low_len, low_len])
  obtain ⟨e6, _⟩ := List.append_inj e5 (by rw [low_len, low_len])
  obtain ⟨a1, a2, a3, a4⟩ := h
  obtain ⟨b1, b2, b3, b4⟩ := h'
  have g2 := congrArg UInt8.toNat e2
  have g4 := congrArg num e4
  have g6 := congrArg num e6
  rw [num_low, num_low] at g4 g6
  simp at g2 g4 g6
  unfold roomN hsN at a4 b4
  cases t; cases t'
  simp only [Told.mk.injEq]
  dsimp only at a1 a2 a3 a4 b1 b2 b3 b4 g2 g4 g6
  omega
theorem isHead_det {n p p' : Nat} {s : ByteArray} {t t' : Told} (hn : n ≤ 1000) (h : IsHead n p s t) (h' : IsHead n p' s t') : t = t' := by
  have e : headL t = headL t' := by rw [← headB_list, ← headB_list, ← h.2.2, ← h'.2.2]
  exact halfL_inj hn hn h.1 h'.1 (List.append_inj e (by rw [halfL_len, halfL_len])).1
theorem headL_first (t : Told) : (headL t)[0]? = some 116 := rfl
/-- What begins with a zero is no head. -/
theorem head_not {n p : Nat} {s : ByteArray} (h : s.data.toList[0]? = some 0) (t : Told) : ¬ IsHead n p s t := by
  rintro ⟨_, _, rfl⟩
  rw [headB_list, headL_first] at h
  cases h
/-- A head over zeros, torn: it is none, or whole. -/
theorem head_torn {n p : Nat} {t t' : Told} {k : Nat} (hk : k ≤ 64) (h : IsHead n p ⟨((headL t).take k ++ List.replicate (64 - k) 0).toArray⟩ t') : (headL t).take k ++ List.replicate (64 - k) 0 = headL t := by
  have e : (headL t).take k ++ List.replicate (64 - k) 0 = halfL t' ++ halfL t' := by
    have := congrArg (fun x : ByteArray => x.data.toList) h.2.2
    simpa [headB, headL] using this
  by_cases h32 : k ≤ 32
  · exfalso
    have e2 := congrArg (fun l => l[32]?) e
    rw [List.getElem?_append_right (by rw [List.length_take, headL_len]; omega), List.getElem?_append_right (by rw [halfL_len]; omega), halfL_len, List.length_take, headL_len, List.getElem?_replicate, if_pos (by omega)] at e2
    exact absurd e2 (by simp [halfL])
  · have e2 := congrArg (List.take 32) e
    rw [List.take_append, List.take_take, List.length_take, headL_len, Nat.min_eq_left (by omega), show 32 - min k 64 = 0 by omega, List.take_zero, List.append_nil, List.take_left' (halfL_len t')] at e2
    have e3 : (headL t).take 32 = halfL t := List.take_left' (halfL_len t)
    rw [e, ← e2, e3]
    rfl
end Go.Proofs.Ytndakbjmahkjdaa.Disk.Jn

/-
  Plain mathematics of journals: the bytes of a half, which head is the newest, the records that a disk's journal has. No program in it.
-/
namespace Go.Proofs.Ytndakbjmahkjdaa.Disk.Jn
open Go.Lib
open Go.Proofs.Ytndakbjmahkjdaa.Frame (frm frms frms_append frms_snoc frm_pos frm_len size_list mk_list Scn scn_pre scn_det scn_bytes no_short)

theorem hs_le {n half : Nat} (hn : 8 ≤ n) (hh : half ≤ 1) : begN n half + hsN n ≤ n := by
  unfold begN hsN
  have : half * ((n - 2) / 2) ≤ 1 * ((n - 2) / 2) := Nat.mul_le_mul_right _ hh
  omega
/-- Each sector has 64 bytes. -/
def Secs64 (ls : List ByteArray) : Prop := ∀ x ∈ ls, x.size = 64
theorem secs_of {ls : List ByteArray} {ws : List (Int × ByteArray)} (h : rightB ls ws = true) : Secs64 ls := fun x hx => by
  obtain ⟨j, hj, rfl⟩ := List.getElem_of_mem hx
  exact (rightB_t.1 h).2.2.2.1 j hj
/-- Byte i of sector a. -/
def secB (ls : List ByteArray) (a i : Nat) : Option UInt8 := (ls.getD a ⟨#[]⟩).data.toList[i]?
theorem flat_len : ∀ L : List ByteArray, Secs64 L → (L.flatMap (·.data.toList)).length = 64 * L.length
  | [], _ => rfl
  | x :: r, h => by
    rw [List.flatMap_cons, List.length_append, flat_len r (fun y hy => h y (by simp [hy])), size_list, h x (by simp), List.length_cons]
    omega
theorem flat_at : ∀ (L : List ByteArray), Secs64 L → ∀ j : Nat, (L.flatMap (·.data.toList))[j]? = secB L (j / 64) (j % 64)
  | [], _, j => by simp [secB]
  | x :: r, h, j => by
    have hx : x.data.toList.length = 64 := by rw [size_list]; exact h x (by simp)
    rw [List.flatMap_cons]
    by_cases hj : j < 64
    · rw [List.getElem?_append_left (by omega), show j / 64 = 0 by omega, show j % 64 = j by omega]
      rfl
    · rw [List.getElem?_append_right (by omega), hx, flat_at r (fun y hy => h y (by simp [hy])), show j / 64 = (j - 64) / 64 + 1 by omega, show j % 64 = (j - 64) % 64 by omega]
      rfl
/-- The bytes of a half. -/
def bytesOf (ls : List ByteArray) (half : Nat) : List UInt8 := ((ls.drop (begN ls.length half)).take (hsN ls.length)).flatMap (·.data.toList)
theorem half_secs {ls : List ByteArray} (h : Secs64 ls) (a b : Nat) : Secs64 ((ls.drop a).take b) := fun x hx => h x (List.mem_of_mem_drop (List.mem_of_mem_take hx))
theorem bytesOf_len {ls : List ByteArray} (h : Secs64 ls) (hn : 8 ≤ ls.length) {half : Nat} (hh : half ≤ 1) : (bytesOf ls half).length = roomN ls.length := by
  have := hs_le hn hh
  unfold bytesOf
  rw [flat_len _ (half_secs h _ _), List.length_take, List.length_drop]
  unfold roomN
  congr 1
  omega
theorem bytesOf_at {ls : List ByteArray} (h : Secs64 ls) {half j : Nat} (hj : j < roomN ls.length) : (bytesOf ls half)[j]? = secB ls (begN ls.length half + j / 64) (j % 64) := by
  unfold bytesOf
  rw [flat_at _ (half_secs h _ _)]
  unfold secB
  have : j / 64 < hsN ls.length := by unfold roomN at hj; omega
  rw [List.getD, List.getD, List.getElem?_take, if_pos this, List.getElem?_drop]
theorem take_same {ls ls' : List ByteArray} (h : Secs64 ls) (h' : Secs64 ls') (hl : ls'.length = ls.length) {half u : Nat} (hu : u ≤ roomN ls.length) (hs : ∀ j, j < u → secB ls' (begN ls.length half + j / 64) (j % 64) = secB ls (begN ls.length half + j / 64) (j % 64)) :
    (bytesOf ls' half).take u = (bytesOf ls half).take u := by
  apply List.ext_getElem?
  intro j
  rw [List.getElem?_take, List.getElem?_take]
  by_cases hj : j < u
  · rw [if_pos hj, if_pos hj, bytesOf_at h (by omega), bytesOf_at h' (by rw [hl]; omega), hl]
    exact hs j hj
  · rw [if_neg hj, if_neg hj]

/-- What the head of more seals tells, if there is one. -/
def Newest (ls : List ByteArray) (t : Told) : Prop := IsHead ls.length (t.seals % 2) (ls.getD (t.seals % 2) ⟨#[]⟩) t ∧ ∀ p, p < 2 → ∀ t', IsHead ls.length p (ls.getD p ⟨#[]⟩) t' → t'.seals ≤ t.seals
def NoHead (ls : List ByteArray) : Prop := ∀ p, p < 2 → ∀ t, ¬ IsHead ls.length p (ls.getD p ⟨#[]⟩) t
theorem newest_det {ls : List ByteArray} {t t' : Told} (hn : ls.length ≤ 1000) (h : Newest ls t) (h' : Newest ls t') : t = t' := by
  have e1 := h.2 _ (Nat.mod_lt _ (by omega)) _ h'.1
  have e2 := h'.2 _ (Nat.mod_lt _ (by omega)) _ h.1
  have e : t'.seals = t.seals := by omega
  have h2 := h'.1
  rw [e] at h2
  exact isHead_det hn h.1 h2
theorem newest_no {ls : List ByteArray} {t : Told} (h : NoHead ls) : ¬ Newest ls t := fun h' => h _ (Nat.mod_lt _ (by omega)) _ h'.1
theorem newest_or (ls : List ByteArray) (hn : ls.length ≤ 1000) : NoHead ls ∨ ∃ t, Newest ls t := by
  have two : ∀ t, (∃ p, p < 2 ∧ IsHead ls.length p (ls.getD p ⟨#[]⟩) t) → (∀ p, p < 2 → ∀ t', IsHead ls.length p (ls.getD p ⟨#[]⟩) t' → t'.seals ≤ t.seals) → ∃ t, Newest ls t := by
    rintro t ⟨p, hp, h⟩ hall
    have e := h.2.1
    subst e
    exact ⟨t, h, hall⟩
  have both : ∀ {p t t'}, ls.length ≤ 1000 → IsHead ls.length p (ls.getD p ⟨#[]⟩) t → IsHead ls.length p (ls.getD p ⟨#[]⟩) t' → t'.seals ≤ t.seals := by
    intro p t t' hn h h'
    have := isHead_det hn h h'
    subst this
    exact Nat.le_refl _
  by_cases h0 : ∃ t, IsHead ls.length 0 (ls.getD 0 ⟨#[]⟩) t
  · obtain ⟨t0, h0⟩ := h0
    by_cases h1 : ∃ t, IsHead ls.length 1 (ls.getD 1 ⟨#[]⟩) t ∧ t0.seals ≤ t.seals
    · obtain ⟨t1, h1, hle⟩ := h1
      refine .inr (two t1 ⟨1, by omega, h1⟩ fun p hp t' h' => ?_)
      match p, hp with
      | 0, _ => have := both hn h0 h'; omega
      | 1, _ => exact both hn h1 h'
    · refine .inr (two t0 ⟨0, by omega, h0⟩ fun p hp t' h' => ?_)
      match p, hp with
      | 0, _ => exact both hn h0 h'
      | 1, _ =>
        apply Classical.byContradiction
        intro hc
        exact h1 ⟨t', h', by omega⟩
  · by_cases h1 : ∃ t, IsHead ls.length 1 (ls.getD 1 ⟨#[]⟩) t
    · obtain ⟨t1, h1⟩ := h1
      refine .inr (two t1 ⟨1, by omega, h1⟩ fun p hp t' h' => ?_)
      match p, hp with
      | 0, _ => exact absurd ⟨t', h'⟩ h0
      | 1, _ => exact both hn h1 h'
    · refine .inl fun p hp t h => ?_
      match p, hp with
      | 0, _ => exact h0 ⟨t, h⟩
      | 1, _ => exact h1 ⟨t, h⟩

/-- A disk's journal: what its head tells, and its records. -/
def Opens (ls : List ByteArray) (t : Told) (l : List ByteArray) : Prop :=
  rightB ls [] = true ∧ 8 ≤ ls.length ∧ Newest ls t ∧ (bytesOf ls t.half).take t.used = frms l ∧ ∀ d ∈ l, d.size ≤ 4096
theorem scn_frms (l : List ByteArray) (h : ∀ d ∈ l, d.size ≤ 4096) : Scn ⟨(frms l).toArray⟩ l ⟨#[]⟩ := by
  have := scn_pre (.done ⟨#[]⟩ (no_short (by simp [ByteArray.size]))) l ⟨(frms l).toArray⟩ h (by rw [mk_list]; simp)
  rwa [List.append_nil] at this
theorem frms_inj {l l' : List ByteArray} (h : ∀ d ∈ l, d.size ≤ 4096) (h' : ∀ d ∈ l', d.size ≤ 4096) (e : frms l = frms l') : l = l' :=
  (scn_det (scn_frms l h) (e ▸ scn_frms l' h')).1
theorem opens_len {ls : List ByteArray} {t : Told} {l : List ByteArray} (h : Opens ls t l) : ls.length ≤ 512 := (rightB_t.1 h.1).2.1
theorem opens_det {ls : List ByteArray} {t t' : Told} {l l' : List ByteArray} (h : Opens ls t l) (h' : Opens ls t' l') : t = t' ∧ l = l' := by
  have hl := opens_len h
  obtain rfl := newest_det (by omega) h.2.2.1 h'.2.2.1
  exact ⟨rfl, frms_inj h.2.2.2.2 h'.2.2.2.2 (h.2.2.2.1.symm.trans h'.2.2.2.1)⟩
theorem opens_may {ls : List ByteArray} {t : Told} {l : List ByteArray} (h : Opens ls t l) : mayP ls.length t := h.2.2.1.1.1
/-- A disk whose head, and whose records' bytes, are the same, opens the same. -/
theorem opens_keep {ls ls' : List ByteArray} {t : Told} {l : List ByteArray} (h : Opens ls t l) (hr : rightB ls' [] = true) (hl : ls'.length = ls.length) (hp : ls'.getD (t.seals % 2) ⟨#[]⟩ = ls.getD (t.seals % 2) ⟨#[]⟩)
    (hq : ∀ q, q < 2 → q ≠ t.seals % 2 → ls'.getD q ⟨#[]⟩ = ls.getD q ⟨#[]⟩ ∨ ∀ t', ¬ IsHead ls.length q (ls'.getD q ⟨#[]⟩) t')
    (hs : ∀ j, j < t.used → secB ls' (begN ls.length t.half + j / 64) (j % 64) = secB ls (begN ls.length t.half + j / 64) (j % 64)) : Opens ls' t l := by
  obtain ⟨h1, h2, ⟨h3, h4⟩, h5, h6⟩ := h
  refine ⟨hr, by omega, ⟨by rw [hl, hp]; exact h3, fun p hp2 t' ht' => ?_⟩, ?_, h6⟩
  · rw [hl] at ht'
    by_cases c : p = t.seals % 2
    · subst c; rw [hp] at ht'; exact h4 _ hp2 _ ht'
    · rcases hq p hp2 c with e | e
      · rw [e] at ht'; exact h4 _ hp2 _ ht'
      · exact absurd ht' (e t')
  · rw [← h5]
    exact take_same (secs_of h1) (secs_of hr) hl h3.1.2.2.2 hs
/-- A disk with a new head. -/
theorem opens_new {ls ls' : List ByteArray} {t t' : Told} {l l' : List ByteArray} (h : Opens ls t l) (hr : rightB ls' [] = true) (hl : ls'.length = ls.length) (hp : ls'.getD (t.seals % 2) ⟨#[]⟩ = ls.getD (t.seals % 2) ⟨#[]⟩)
    (hm : mayP ls.length t') (hn : t'.seals = t.seals + 1) (hq : ls'.getD (t'.seals % 2) ⟨#[]⟩ = headB t') (hs : (bytesOf ls' t'.half).take t'.used = frms l') (h4096 : ∀ d ∈ l', d.size ≤ 4096) : Opens ls' t' l' := by
  obtain ⟨h1, h2, ⟨h3, h4⟩, h5, h6⟩ := h
  have hlen := (rightB_t.1 h1).2.1
  refine ⟨hr, by omega, ⟨⟨by rw [hl]; exact hm, rfl, hq⟩, fun p hp2 t'' ht => ?_⟩, hs, h4096⟩
  rw [hl] at ht
  by_cases c : p = t'.seals % 2
  · subst c
    rw [hq] at ht
    have := isHead_det (by omega) ht ⟨hm, rfl, rfl⟩
    subst this; exact Nat.le_refl _
  · have : p = t.seals % 2 := by omega
    subst this
    rw [hp] at ht
    have := h4 _ hp2 _ ht
    omega
end Go.Proofs.Ytndakbjmahkjdaa.Disk.Jn

/-
  Contracts of the library's functions, laid at this program.
-/
namespace Go.Proofs.Ytndakbjmahkjdaa.Disk
open Go.Shelf
def Try.lays105_ren : Go.Shelf.Ren := ⟨fun | 105 => 40 | 212 => 58 | 99 => 59 | 165 => 60 | 166 => 61 | 170 => 62 | 169 => 63 | 263 => 71 | 264 => 72 | 206 => 73 | 240 => 74 | 241 => 75 | 276 => 82 | 277 => 83 | n => n, fun | 9 => 9 | 3 => 3 | 4 => 4 | 20 => 20 | 0 => 0 | 46 => 101 | 109 => 102 | 5 => 5 | 72 => 107 | 76 => 111 | 51 => 119 | 146 => 122 | 53 => 28 | 148 => 124 | 70 => 105 | 37 => 46 | 75 => 110 | 127 => 126 | 164 => 133 | 80 => 72 | n => n, fun | n => n⟩
theorem Try.lays105 : Go.Proofs.Lays.n105 Try.prog Try.lays105_ren := {
  mixed := by kernel_rfl
  f99 := Try.func59.trans (congrArg some (by kernel_rfl))
  f105 := Try.func40.trans (congrArg some (by kernel_rfl))
  f165 := Try.func60.trans (congrArg some (by kernel_rfl))
  f166 := Try.func61.trans (congrArg some (by kernel_rfl))
  f169 := Try.func63.trans (congrArg some (by kernel_rfl))
  f170 := Try.func62.trans (congrArg some (by kernel_rfl))
  f206 := Try.func73.trans (congrArg some (by kernel_rfl))
  f212 := Try.func58.trans (congrArg some (by kernel_rfl))
  f240 := Try.func74.trans (congrArg some (by kernel_rfl))
  f241 := Try.func75.trans (congrArg some (by kernel_rfl))
  f263 := Try.func71.trans (congrArg some (by kernel_rfl))
  f264 := Try.func72.trans (congrArg some (by kernel_rfl))
  f276 := Try.func82.trans (congrArg some (by kernel_rfl))
  f277 := Try.func83.trans (congrArg some (by kernel_rfl))
  t0 := Try.underlying0
  a0 := Try.isAgg0
  z0 := Try.sizeOf0
  v0 := Try.zeroValue0
  t3 := Try.underlying3
  a3 := Try.isAgg3
  z3 := Try.sizeOf3
  v3 := Try.zeroValue3
  t4 := Try.underlying4
  a4 := Try.isAgg4
  z4 := Try.sizeOf4
  v4 := Try.zeroValue4
  t5 := Try.underlying5
  a5 := Try.isAgg5
  z5 := Try.sizeOf5
  v5 := Try.zeroValue5
  t9 := Try.underlying9
  a9 := Try.isAgg9
  z9 := Try.sizeOf9
  v9 := Try.zeroValue9
  t20 := Try.underlying20
  a20 := Try.isAgg20
  z20 := Try.sizeOf20
  v20 := Try.zeroValue20
  t37 := Try.underlying46
  a37 := Try.isAgg46
  z37 := Try.sizeOf46
  v37 := Try.zeroValue46
  t46 := Try.underlying101
  a46 := Try.isAgg101
  z46 := Try.sizeOf101
  v46 := Try.zeroValue101
  t51 := Try.underlying119
  a51 := Try.isAgg119
  z51 := Try.sizeOf119
  v51 := Try.zeroValue119
  t53 := Try.underlying28
  a53 := Try.isAgg28
  z53 := Try.sizeOf28
  v53 := Try.zeroValue28
  t70 := Try.underlying105
  a70 := Try.isAgg105
  z70 := Try.sizeOf105
  v70 := Try.zeroValue105
  t72 := Try.underlying107
  a72 := Try.isAgg107
  z72 := Try.sizeOf107
  v72 := Try.zeroValue107
  t75 := Try.underlying110
  a75 := Try.isAgg110
  z75 := Try.sizeOf110
  v75 := Try.zeroValue110
  t76 := Try.underlying111
  a76 := Try.isAgg111
  z76 := Try.sizeOf111
  v76 := Try.zeroValue111
  t109 := Try.underlying102
  a109 := Try.isAgg102
  z109 := Try.sizeOf102
  v109 := Try.zeroValue102
  t127 := Try.underlying126
  a127 := Try.isAgg126
  z127 := Try.sizeOf126
  v127 := Try.zeroValue126
  t146 := Try.underlying122
  a146 := Try.isAgg122
  z146 := Try.sizeOf122
  v146 := Try.zeroValue122
  t148 := Try.underlying124
  a148 := Try.isAgg124
  z148 := Try.sizeOf124
  v148 := Try.zeroValue124
  t164 := Try.underlying133
  a164 := Try.isAgg133
  z164 := Try.sizeOf133
  v164 := Try.zeroValue133 }
theorem Try.Builder_Extra_105 : Builder.Extra Try.prog Try.lays105_ren := {
  sizeBuilder := by kernel_rfl
  liesBuilder := by kernel_rfl
  t5 := Try.underlying5
  a5 := Try.isAgg5
  z5 := Try.sizeOf5
  v5 := Try.zeroValue5
  infoByte := by kernel_rfl
  cellsByte := by kernel_rfl
  sizeByte := by kernel_rfl
  neB5 := by decide }
open Go.RowKit Go.Lib in
theorem Try.strings_Repeat (s : ByteArray) (c : Nat) (w : World) (hc : c ≤ 9223372036854775807) (hlen : s.size * c ≤ 140737488355328) :
    Calls Try.prog 40 #[.string s, .int .i64 c] w fun e w' => e = .returned (.string ⟨(Lib.repeatL s.data.toList c).toArray⟩) ∧ Below w.heap.size w w' := Any.strings_Repeat Try.lays105 Try.Builder_Extra_105 s c w hc hlen
end Go.Proofs.Ytndakbjmahkjdaa.Disk
