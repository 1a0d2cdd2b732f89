/-
  Bits that are turned within a row of bytes that stands in a longer one; where they begin.
-/
import Derived.Test.YtbipkbcmcidalaaBRow
import Derived.Test.YtbipkbcmcidalaaFrmAlive
import Derived.WalkLawsBesides
import Derived.WalkSpells
namespace Go.Proofs.Ytbipkbcmcidalaa.Frame
open Go.ChangeShapes Go.WideShapes Go.ChangeAt Go.RowKit Go.Lib Go.Proofs.Ytbipkbcmcidalaa.Crc

theorem bitPlace (a : Int) (m : Nat) (h0 : 0 < m) (h1 : m ≤ 1000000) : ∃ p : Nat, (wrap64 (a.tmod (m : Int) + (m : Int))).tmod (m : Int) = (p : Int) ∧ p < m := by
  have hm : (0 : Int) < (m : Int) := by omega
  have l1 := Int.tmod_lt_of_pos a hm
  have l2 := Int.lt_tmod_of_pos a hm
  rw [IntWalk.wrap64_in _ ⟨by omega, by omega⟩]
  have e := Int.tmod_eq_emod_of_nonneg (a := a.tmod (m : Int) + (m : Int)) (b := (m : Int)) (by omega)
  have g1 := Int.emod_nonneg (a.tmod (m : Int) + (m : Int)) (b := (m : Int)) (by omega)
  have g2 := Int.emod_lt_of_pos (a.tmod (m : Int) + (m : Int)) hm
  exact ⟨((a.tmod (m : Int) + (m : Int)) % (m : Int)).toNat, by rw [e]; omega, by omega⟩

/-- How far bits are turned: a change of k bits, from the bit p on. -/
def Turned (S : List UInt8) (p k : Nat) (l : List UInt8) : Prop := l.length = S.length ∧ ∃ W < 2 ^ k, Crc.val l = Crc.val S ^^^ 2 ^ p * W
theorem Turned.zero (S : List UInt8) (p : Nat) : Turned S p 0 S := ⟨rfl, 0, by simp, by simp⟩
theorem Turned.stay {S l : List UInt8} {p k : Nat} (h : Turned S p k l) : Turned S p (k + 1) l := by
  obtain ⟨h1, W, h2, h3⟩ := h
  exact ⟨h1, W, Nat.lt_trans h2 (Nat.pow_lt_pow_right (by omega) (by omega)), h3⟩
theorem Turned.step {S l : List UInt8} {p k q : Nat} (h : Turned S p k l) (hq : q = p + k) (hl : q / 8 < l.length) (x : UInt8) (hx : x.toNat = l[q / 8].toNat ^^^ 2 ^ (q % 8)) : Turned S p (k + 1) (l.set (q / 8) x) := by
  obtain ⟨h1, W, h2, h3⟩ := h
  exact ⟨by rw [List.length_set]; exact h1, burst_step h2 h3 hq hl hx⟩
theorem Turned.seen {S l : List UInt8} {p : Nat} (h : Turned S p 32 l) (hp : p < 8 * S.length) : l = S ∨ crcOn 0 l ≠ crcOn 0 S := by
  obtain ⟨h1, W, h2, h3⟩ := h
  exact crc_burst S l h1.symm p W (by omega) h2 h3

theorem turn_byte (y : UInt8) (r : Nat) (h : r < 8) : ∃ z : UInt8, Hid (z.toNat = y.toNat ^^^ 2 ^ r) ∧ bits .xor .u8 (y.toNat : Int) (IntKind.u8.wrap ((2 : Int) ^ r)) = (z.toNat : Int) := by
  have hy := y.toNat_lt
  have hr : 2 ^ r < 256 := Nat.lt_of_lt_of_le (Nat.pow_lt_pow_right (by omega) h) (by decide)
  have e0 : ((2 : Int) ^ r) = ((2 ^ r : Nat) : Int) := by simp
  rw [e0, IntKind.wrap_u8']
  generalize 2 ^ r = m at hr
  have hx : y.toNat ^^^ m < 256 := Nat.xor_lt_two_pow (n := 8) (by omega) (by omega)
  have hz : (UInt8.ofNat (y.toNat ^^^ m)).toNat = y.toNat ^^^ m := by rw [UInt8.toNat_ofNat', Nat.mod_eq_of_lt hx]
  exact ⟨UInt8.ofNat (y.toNat ^^^ m), hz, by rw [hz, show (m : Int) % 256 = (m : Int) by omega, u8_xor_nat _ _ (by omega) hr]⟩


/-- A row of bytes, in whose middle bits are turned. -/
def Hurt (D pre post : List UInt8) (p k : Nat) (l : List UInt8) : Prop := ∃ m, l = pre ++ (m ++ post) ∧ Turned D p k m
theorem Hurt.zero (D pre post : List UInt8) (p : Nat) : Hurt D pre post p 0 (pre ++ (D ++ post)) := ⟨D, rfl, Turned.zero _ _⟩
theorem Hurt.stay {D pre post l : List UInt8} {p k : Nat} (h : Hurt D pre post p k l) : Hurt D pre post p (k + 1) l := by
  obtain ⟨m, h1, h2⟩ := h
  exact ⟨m, h1, h2.stay⟩
theorem Hurt.len {D pre post l : List UInt8} {p k : Nat} (h : Hurt D pre post p k l) : l.length = pre.length + (D.length + post.length) := by
  obtain ⟨m, rfl, h2⟩ := h
  rw [List.length_append, List.length_append, h2.1]
theorem Hurt.step {D pre post l : List UInt8} {p k q : Nat} (h : Hurt D pre post p k l) (hq : q = p + k) (hl : q / 8 < D.length) (hl' : pre.length + q / 8 < l.length) (x : UInt8) (hx : x.toNat = l[pre.length + q / 8].toNat ^^^ 2 ^ (q % 8)) :
    Hurt D pre post p (k + 1) (l.set (pre.length + q / 8) x) := by
  obtain ⟨m, rfl, h2⟩ := h
  have hm : q / 8 < m.length := by rw [h2.1]; exact hl
  refine ⟨m.set (q / 8) x, ?_, h2.step hq hm x ?_⟩
  · rw [List.set_append, if_neg (by omega), List.set_append, if_pos (by omega)]
    congr 3; omega
  · rw [hx, List.getElem_append_right (by omega), List.getElem_append_left (by omega)]
    congr 3; omega
theorem Hurt.seen {D pre post l : List UInt8} {p : Nat} (h : Hurt D pre post p 32 l) (hp : p < 8 * D.length) : l = pre ++ (D ++ post) ∨ ∃ m, l = pre ++ (m ++ post) ∧ m.length = D.length ∧ crcOn 0 m ≠ crcOn 0 D := by
  obtain ⟨m, rfl, h2⟩ := h
  rcases h2.seen hp with rfl | h3
  · exact .inl rfl
  · exact .inr ⟨m, rfl, h2.1, h3⟩
end Go.Proofs.Ytbipkbcmcidalaa.Frame
