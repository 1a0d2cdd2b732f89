/-
  Plain mathematics of reading numbers: the place of a number's last digit, what digits are worth, what a folded number stands for. Nothing of the program.
-/
import Derived.Test.YtbipkbcmcidalaaDigs
namespace Go.Proofs.Ytbipkbcmcidalaa

/-- i is the place of the last digit of the number that the text begins with. -/
def IsLast (s : ByteArray) (i : Nat) : Prop := ∃ h : i < s.size, i < 9 ∧ s[i].toNat < 128 ∧ ∀ j (hj : j < i), 128 ≤ (s[j]'(by omega)).toNat
/-- Among its first nine bytes the text has no last digit. -/
def NoLast (s : ByteArray) : Prop := ∀ j (h : j < s.size), j < 9 → 128 ≤ s[j].toNat

theorem last_or (s : ByteArray) : (∃ i, IsLast s i) ∨ NoLast s := by
  by_cases h : ∃ i, IsLast s i
  · exact .inl h
  · right
    have key : ∀ n j (hj : j < s.size), j ≤ n → j < 9 → 128 ≤ s[j].toNat := by
      intro n
      induction n with
      | zero =>
        intro j hj hn h9
        obtain rfl : j = 0 := by omega
        apply Classical.byContradiction
        intro hc
        exact h ⟨0, hj, by omega, by omega, fun k hk => by omega⟩
      | succ n ih =>
        intro j hj hn h9
        apply Classical.byContradiction
        intro hc
        exact h ⟨j, hj, h9, by omega, fun k hk => ih k (by omega) (by omega) (by omega)⟩
    exact fun j hj h9 => key j j hj (Nat.le_refl _) h9
theorem last_not {s : ByteArray} {i : Nat} (h : IsLast s i) (k : NoLast s) : False := by
  obtain ⟨hi, h9, h1, _⟩ := h
  have := k i hi h9
  omega
theorem last_unique {s : ByteArray} {i j : Nat} (h : IsLast s i) (k : IsLast s j) : i = j := by
  obtain ⟨hi, h9, h1, h2⟩ := h
  obtain ⟨ki, k9, k1, k2⟩ := k
  apply Classical.byContradiction
  intro hne
  by_cases hl : i < j
  · have := k2 i hl; omega
  · have := h2 j (by omega); omega

/-- What digits are worth, the lowest first. -/
def val : List UInt8 → Nat
  | [] => 0
  | b :: t => b.toNat % 128 + 128 * val t
theorem val_lt : ∀ l : List UInt8, val l < 128 ^ l.length
  | [] => by simp [val]
  | b :: t => by
    have := val_lt t
    have hb : b.toNat % 128 < 128 := Nat.mod_lt _ (by omega)
    simp only [val, List.length_cons, Nat.pow_succ]
    omega
theorem val_lt9 (l : List UInt8) (h : l.length ≤ 9) : val l < 9223372036854775808 := by
  have h1 := val_lt l
  have h2 : 128 ^ l.length ≤ 128 ^ 9 := Nat.pow_le_pow_right (by omega) h
  have h3 : (128 : Nat) ^ 9 = 9223372036854775808 := by decide
  omega
theorem val_drop (l : List UInt8) (k : Nat) (h : k < l.length) : val (l.drop k) = l[k].toNat % 128 + 128 * val (l.drop (k + 1)) := by
  rw [List.drop_eq_getElem_cons h]; rfl
/-- Below seven bits a place that is left to read. -/
theorem val_drop_lt (l : List UInt8) (k : Nat) (h : k < l.length) (h9 : l.length ≤ 9) : val (l.drop (k + 1)) < 72057594037927936 := by
  have h1 := val_lt (l.drop (k + 1))
  have h2 : 128 ^ (l.drop (k + 1)).length ≤ 128 ^ 8 := Nat.pow_le_pow_right (by omega) (by rw [List.length_drop]; omega)
  have h3 : (128 : Nat) ^ 8 = 72057594037927936 := by decide
  omega

theorem val_step (s : ByteArray) (k : Nat) (h : k < s.size) : val (s.data.toList.drop k) = s[k].toNat % 128 + 128 * val (s.data.toList.drop (k + 1)) := by
  rw [val_drop _ _ (by simpa using h)]; rfl
theorem val_step_lt (s : ByteArray) (k : Nat) (h : k < s.size) (h9 : s.size ≤ 9) : val (s.data.toList.drop (k + 1)) < 72057594037927936 := val_drop_lt _ _ (by simpa using h) (by simpa using h9)

theorem ext_step (s : ByteArray) (i k : Nat) (hi : i < s.size) (hk : k ≤ i) : val ((s.extract 0 (i + 1)).data.toList.drop k) = (s[k]'(by omega)).toNat % 128 + 128 * val ((s.extract 0 (i + 1)).data.toList.drop (k + 1)) := by
  have hz : k < (s.extract 0 (i + 1)).size := by rw [ByteArray.size_extract]; omega
  rw [val_step _ k hz]
  congr 3
  rw [ByteArray.getElem_extract]
  simp
theorem ext_size (s : ByteArray) (i : Nat) (h : i < s.size) : (s.extract 0 (i + 1)).size = i + 1 := by
  rw [ByteArray.size_extract]; omega
theorem ext_step_lt (s : ByteArray) (i k : Nat) (hi : i < s.size) (h9 : i < 9) (hk : k ≤ i) : val ((s.extract 0 (i + 1)).data.toList.drop (k + 1)) < 72057594037927936 :=
  val_step_lt _ k (by rw [ext_size s i hi]; omega) (by rw [ext_size s i hi]; omega)

/-- What a folded number stands for. -/
def unf (u : Nat) : Int := if u % 2 = 1 then - ((u / 2 : Nat) : Int) - 1 else ((u / 2 : Nat) : Int)
end Go.Proofs.Ytbipkbcmcidalaa
