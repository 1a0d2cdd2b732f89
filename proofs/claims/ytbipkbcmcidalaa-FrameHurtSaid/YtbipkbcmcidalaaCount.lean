/-
  What a text is read as (a relation over bytes), and the contracts of readCount and readText of package pack, and of the reference's count, over it.
-/
import Derived.Test.YtbipkbcmcidalaaRefNum
namespace Go.Proofs.Ytbipkbcmcidalaa
open Go.ChangeShapes Go.WideShapes Go.ChangeAt Go.RowKit Go.Lib

/-- The text s is read as the number n with t behind it, or refused with b. -/
def Rd (s : ByteArray) (n : Int) (t : ByteArray) (b : Int) : Prop :=
  (NoLast s ∧ n = 0 ∧ t = ⟨#[]⟩ ∧ b = shortE s) ∨ ∃ i, IsLast s i ∧ ReadAs s i n t b

theorem rd_some (s : ByteArray) : ∃ n t b, Rd s n t b := by
  rcases last_or s with ⟨i, hi⟩ | h
  · obtain ⟨n, t, b, hr⟩ := readAs_some s i hi.1
    exact ⟨n, t, b, .inr ⟨i, hi, hr⟩⟩
  · exact ⟨_, _, _, .inl ⟨h, rfl, rfl, rfl⟩⟩
theorem shortE_cases (s : ByteArray) : shortE s = 3 ∨ shortE s = 4 := by unfold shortE; split <;> simp
theorem rd_bad {s : ByteArray} {n : Int} {t : ByteArray} {b : Int} (h : Rd s n t b) (hb : b ≠ 0) : n = 0 ∧ t = ⟨#[]⟩ ∧ 1 ≤ b ∧ b ≤ 5 := by
  rcases h with ⟨_, h1, h2, h3⟩ | ⟨i, _, hr⟩
  · rcases shortE_cases s with h | h <;> exact ⟨h1, h2, by omega, by omega⟩
  · rcases hr with ⟨_, _, h1, h2, h3⟩ | ⟨_, _, h1, h2, h3⟩ | ⟨_, _, h1, h2, h3⟩
    · exact ⟨h1, h2, by omega, by omega⟩
    · exact ⟨h1, h2, by omega, by omega⟩
    · exact absurd h3 hb
theorem rd_good {s : ByteArray} {n : Int} {t : ByteArray} (h : Rd s n t 0) : ∃ i, IsLast s i ∧ (i = 0 ∨ (0 < i ∧ ∀ hi : i < s.size, s[i].toNat ≠ 0)) ∧ mayB (rdN s i) = true ∧ n = rdN s i ∧ t = s.extract (i + 1) s.size := by
  rcases h with ⟨_, _, _, h3⟩ | ⟨i, hi, hr⟩
  · rcases shortE_cases s with h | h <;> omega
  · rcases hr with ⟨_, _, _, _, h3⟩ | ⟨_, _, _, _, h3⟩ | ⟨h1, h2, h3, h4, _⟩
    · omega
    · omega
    · exact ⟨i, hi, h1, h2, h3, h4⟩
theorem rd_size {s : ByteArray} {n : Int} {t : ByteArray} {b : Int} (h : Rd s n t b) : t.size ≤ s.size ∧ -1152921504606846976 ≤ n ∧ n ≤ 1152921504606846976 := by
  by_cases hb : b = 0
  · subst hb
    obtain ⟨i, hi, _, hm, rfl, rfl⟩ := rd_good h
    have := mayB_t.1 hm
    exact ⟨by rw [ByteArray.size_extract]; omega, this.1, this.2⟩
  · obtain ⟨rfl, rfl, _, _⟩ := rd_bad h hb
    exact ⟨Nat.zero_le _, by omega, by omega⟩

theorem ReadNumber_rd {s : ByteArray} {n : Int} {t : ByteArray} {b : Int} (h : Rd s n t b) (hs : s.size ≤ maxLen) (w : World) : Calls Try.prog 34 #[.string s] w (ThreeS n t b w) := by
  rcases h with ⟨h, rfl, rfl, rfl⟩ | ⟨i, hi, hr⟩
  · exact ReadNumber_short s w h hs
  · exact ReadNumber_as w hi hr hs
theorem RefRead_rd {s : ByteArray} {n : Int} {t : ByteArray} {b : Int} (h : Rd s n t b) (hs : s.size ≤ maxLen) (w : World) : Calls Try.prog 20 #[.string s] w (StructT n t b w) := by
  rcases h with ⟨h, rfl, rfl, rfl⟩ | ⟨i, hi, hr⟩
  · exact RefRead_short s w h hs
  · exact RefRead_as w hi hr hs

/-- The text s is read as a count n, at most most, with t behind it, or refused with b. -/
def RdCount (most : Int) (s : ByteArray) (n : Int) (t : ByteArray) (b : Int) : Prop :=
  ∃ n0 t0 b0, Rd s n0 t0 b0 ∧ ((b0 ≠ 0 ∧ n = 0 ∧ t = ⟨#[]⟩ ∧ b = b0) ∨ (b0 = 0 ∧ most < n0 ∧ n = 0 ∧ t = ⟨#[]⟩ ∧ b = 3) ∨ (b0 = 0 ∧ n0 ≤ most ∧ n0 < 0 ∧ n = 0 ∧ t = ⟨#[]⟩ ∧ b = 5) ∨ (b0 = 0 ∧ n0 ≤ most ∧ 0 ≤ n0 ∧ n = n0 ∧ t = t0 ∧ b = 0))

theorem rdCount_some (most : Int) (s : ByteArray) : ∃ n t b, RdCount most s n t b := by
  obtain ⟨n, t, b, h⟩ := rd_some s
  by_cases hb : b = 0
  · by_cases h1 : most < n
    · exact ⟨_, _, _, n, t, b, h, .inr (.inl ⟨hb, h1, rfl, rfl, rfl⟩)⟩
    · by_cases h2 : n < 0
      · exact ⟨_, _, _, n, t, b, h, .inr (.inr (.inl ⟨hb, by omega, h2, rfl, rfl, rfl⟩))⟩
      · exact ⟨_, _, _, n, t, b, h, .inr (.inr (.inr ⟨hb, by omega, by omega, rfl, rfl, rfl⟩))⟩
  · exact ⟨_, _, _, n, t, b, h, .inl ⟨hb, rfl, rfl, rfl⟩⟩

/-- The cells of a block of three that lay there before a call are as they were. -/
theorem three_cells {W x1 : World} {c0 c1 c2 : Value} {T : TypeId} (hb : Below (W.alloc (.cells #[c0, c1, c2] T)).heap.size (W.alloc (.cells #[c0, c1, c2] T)) x1) :
    x1.cell? ⟨W.heap.size, 0, none⟩ = some c0 ∧ x1.cell? ⟨W.heap.size, 1, none⟩ = some c1 ∧ x1.cell? ⟨W.heap.size, 2, none⟩ = some c2 ∧
    x1.frozen? ⟨W.heap.size, 0, none⟩ = false ∧ x1.frozen? ⟨W.heap.size, 1, none⟩ = false ∧ x1.frozen? ⟨W.heap.size, 2, none⟩ = false ∧ W.heap.size < x1.heap.size := by
  have hs := hb.size
  have hs' : (W.alloc (.cells #[c0, c1, c2] T)).heap.size = W.heap.size + 1 := by simp
  refine ⟨?_, ?_, ?_, ?_, ?_, ?_, by omega⟩
  · rw [hb.cell (by show W.heap.size < _; omega)]; simp
  · rw [hb.cell (by show W.heap.size < _; omega)]; simp
  · rw [hb.cell (by show W.heap.size < _; omega)]; simp
  · rw [hb.frozen (by show W.heap.size < _; omega)]; simp
  · rw [hb.frozen (by show W.heap.size < _; omega)]; simp
  · rw [hb.frozen (by show W.heap.size < _; omega)]; simp

theorem count_below {w x1 : World} {o : Obj} (h : Below (w.alloc o).heap.size (w.alloc o) x1) (u0 u1 u2 : Value) (o' : Obj) :
    Below w.heap.size w ((((x1.setCell ⟨w.heap.size, 0, none⟩ u0).setCell ⟨w.heap.size, 1, none⟩ u1).setCell ⟨w.heap.size, 2, none⟩ u2).alloc o') := by
  have hs := h.size
  have hs' : (w.alloc o).heap.size = w.heap.size + 1 := by simp
  exact ((((((Below.refl _ _).alloc (Nat.le_refl _) o).trans (h.mono (by omega))).setCell (Nat.le_refl _) u0).setCell (Nat.le_refl _) u1).setCell (Nat.le_refl _) u2).alloc (by simp; omega) o'

end Go.Proofs.Ytbipkbcmcidalaa
