/-
  Joined: Crc, Off, Tab.
-/
import Derived.Below
import Derived.Test.YtndakbjmahkjdaaChecked
import Derived.WalkKit
import Derived.ProofKit
import Derived.OpenShut
import Derived.Lib.Hide
import Derived.IntWalk
import Derived.Laws.BitsAllLaws
import Derived.Deep.MidRow
import Derived.Deep.WholeRow
import Derived.Laws.ResultCell
import Derived.Laws.CopyOwn

/-
  Plain mathematics of the check (CRC-32C): one bit off, eight bits off, a row of bytes; it is linear; a change within 32 bits is never lost. Nothing of the program.
-/
namespace Go.Proofs.Ytndakbjmahkjdaa.Crc

/-- One bit off, of any natural number. -/
def bit1 (c : Nat) : Nat := c / 2 ^^^ (if c % 2 = 1 then 2197175160 else 0)
theorem bit1_odd {c : Nat} (h : c % 2 = 1) : bit1 c = c / 2 ^^^ 2197175160 := by unfold bit1; rw [if_pos h]
theorem bit1_even {c : Nat} (h : ¬ c % 2 = 1) : bit1 c = c / 2 := by unfold bit1; rw [if_neg h]; simp
theorem bit1_two (m : Nat) : bit1 (2 * m) = m := by rw [bit1_even (by omega)]; omega
theorem xor_mod2 (x y : Nat) : (x ^^^ y) % 2 = (x % 2) ^^^ (y % 2) := by simpa using Nat.xor_mod_two_pow (a := x) (b := y) (n := 1)
theorem bit1_xor (x y : Nat) : bit1 (x ^^^ y) = bit1 x ^^^ bit1 y := by
  have hx := xor_mod2 x y
  have e : (x ^^^ y) / 2 = x / 2 ^^^ y / 2 := Nat.xor_div_two
  rcases Nat.mod_two_eq_zero_or_one x with h | h <;> rcases Nat.mod_two_eq_zero_or_one y with h' | h' <;> rw [h, h'] at hx
  · rw [bit1_even (by rw [hx]; decide), bit1_even (by omega), bit1_even (by omega), e]
  · rw [bit1_odd (hx.trans rfl), bit1_even (by omega), bit1_odd h', e, Nat.xor_assoc]
  · rw [bit1_odd (hx.trans rfl), bit1_odd h, bit1_even (by omega), e, Nat.xor_assoc, Nat.xor_assoc, Nat.xor_comm (y / 2)]
  · rw [bit1_even (by rw [hx]; decide), bit1_odd h, bit1_odd h', e]
    rw [show x / 2 ^^^ 2197175160 ^^^ (y / 2 ^^^ 2197175160) = x / 2 ^^^ y / 2 ^^^ (2197175160 ^^^ 2197175160) by ac_rfl, Nat.xor_self, Nat.xor_zero]
theorem bit1_lt {c : Nat} (h : c < 4294967296) : bit1 c < 4294967296 := by
  by_cases h' : c % 2 = 1
  · rw [bit1_odd h']; exact Nat.xor_lt_two_pow (n := 32) (by omega) (by omega)
  · rw [bit1_even h']; omega
theorem bit1_pos {c : Nat} (h : c < 4294967296) (hp : 0 < c) : 0 < bit1 c := by
  by_cases h' : c % 2 = 1
  · rw [bit1_odd h']
    refine Nat.pos_of_ne_zero fun e => ?_
    have e2 : c / 2 = 2197175160 := by
      have := congrArg (· ^^^ 2197175160) e
      simpa [Nat.xor_assoc] using this
    omega
  · rw [bit1_even h']; omega

/-- So many bits off. -/
def off : Nat → Nat → Nat
  | 0, c => c
  | k + 1, c => off k (bit1 c)
theorem off_zero (c : Nat) : off 0 c = c := rfl
theorem off_succ (k c : Nat) : off (k + 1) c = off k (bit1 c) := rfl
theorem off_succ' (k : Nat) : ∀ c, off (k + 1) c = bit1 (off k c) := by
  induction k with
  | zero => intro c; rfl
  | succ k ih => intro c; rw [off_succ, ih, ← off_succ]
theorem off_add (j k c : Nat) : off (j + k) c = off k (off j c) := by
  induction k with
  | zero => rfl
  | succ k ih => rw [← Nat.add_assoc, off_succ', ih, off_succ']
theorem off_xor (k : Nat) : ∀ x y, off k (x ^^^ y) = off k x ^^^ off k y := by
  induction k with
  | zero => intro x y; rfl
  | succ k ih => intro x y; rw [off_succ, bit1_xor, ih, ← off_succ, ← off_succ]
theorem off_lt (k : Nat) : ∀ {c}, c < 4294967296 → off k c < 4294967296 := by
  induction k with
  | zero => intro c h; exact h
  | succ k ih => intro c h; exact ih (bit1_lt h)
theorem off_pos (k : Nat) : ∀ {c}, c < 4294967296 → 0 < c → 0 < off k c := by
  induction k with
  | zero => intro c h hp; exact hp
  | succ k ih => intro c h hp; exact ih (bit1_lt h) (bit1_pos h hp)
theorem off_pow (k : Nat) : ∀ m, off k (2 ^ k * m) = m := by
  induction k with
  | zero => intro m; simp [off]
  | succ k ih =>
    intro m
    rw [off_succ, show 2 ^ (k + 1) * m = 2 * (2 ^ k * m) by rw [Nat.pow_succ]; ac_rfl, bit1_two, ih]

theorem add_xor (d m : Nat) (h : d < 256) : d + 256 * m = d ^^^ 256 * m := by
  have h1 := Nat.two_pow_add_eq_or_of_lt (i := 8) (b := d) (by omega) m
  apply Nat.eq_of_testBit_eq
  intro i
  have h2 : d + 256 * m = 2 ^ 8 * m + d := by omega
  rw [h2, h1, Nat.testBit_xor, Nat.testBit_or, show 256 * m = 2 ^ 8 * m from rfl]
  by_cases hi : i < 8
  · rw [Nat.testBit_two_pow_mul]; simp [show ¬ 8 ≤ i by omega]
  · rw [Nat.testBit_lt_two_pow (Nat.lt_of_lt_of_le (show d < 2 ^ 8 by omega) (Nat.pow_le_pow_right (by omega) (by omega)))]; simp

/-- The table's way is the same: the low byte through the table, the rest moved right. -/
theorem off8_table (c b : Nat) : c / 256 ^^^ off 8 (c % 256 ^^^ b) = off 8 (c ^^^ b) := by
  have e : c = c % 256 ^^^ 256 * (c / 256) := by rw [← add_xor _ _ (by omega)]; omega
  conv => rhs; rw [e, show c % 256 ^^^ 256 * (c / 256) ^^^ b = (c % 256 ^^^ b) ^^^ 2 ^ 8 * (c / 256) by simp; ac_rfl, off_xor, off_pow]
  rw [Nat.xor_comm]

/-- The check's number behind a row of bytes. -/
def onL : Nat → List UInt8 → Nat
  | c, [] => c
  | c, b :: l => onL (off 8 (c ^^^ b.toNat)) l
theorem onL_append (l m : List UInt8) : ∀ c, onL c (l ++ m) = onL (onL c l) m := by
  induction l with
  | nil => intro c; rfl
  | cons b l ih => intro c; exact ih _
theorem onL_snoc (l : List UInt8) (b : UInt8) (c : Nat) : onL c (l ++ [b]) = off 8 (onL c l ^^^ b.toNat) := by rw [onL_append]; rfl
theorem onL_lt (l : List UInt8) : ∀ {c}, c < 4294967296 → onL c l < 4294967296 := by
  induction l with
  | nil => intro c h; exact h
  | cons b l ih => intro c h; exact ih (off_lt 8 (Nat.xor_lt_two_pow (n := 32) (by omega) (by have := b.toNat_lt; omega)))

/-- A row of bytes as one number, the lowest first. -/
def val : List UInt8 → Nat
  | [] => 0
  | b :: l => b.toNat + 256 * val l
theorem val_cons (b : UInt8) (l : List UInt8) : val (b :: l) = b.toNat ^^^ 256 * val l := add_xor _ _ (by have := b.toNat_lt; omega)
theorem onL_val (l : List UInt8) : ∀ c, onL c l = off (8 * l.length) (c ^^^ val l) := by
  induction l with
  | nil => intro c; simp [onL, val, off]
  | cons b l ih =>
    intro c
    rw [show 8 * (b :: l).length = 8 + 8 * l.length by simp; omega, off_add, val_cons, ← Nat.xor_assoc, off_xor 8, show 256 * val l = 2 ^ 8 * val l from rfl, off_pow]
    exact ih _
theorem val_inj : ∀ (l m : List UInt8), l.length = m.length → val l = val m → l = m := by
  intro l
  induction l with
  | nil => intro m h _; exact (List.length_eq_zero_iff.1 h.symm).symm
  | cons b l ih =>
    intro m h e
    cases m with
    | nil => simp at h
    | cons d m =>
      have h1 := b.toNat_lt
      have h2 := d.toNat_lt
      unfold val at e
      have e1 : b.toNat = d.toNat := by omega
      rw [UInt8.toNat_inj.1 e1, ih m (by simpa using h) (by omega)]
theorem val_lt (l : List UInt8) : val l < 2 ^ (8 * l.length) := by
  induction l with
  | nil => simp [val]
  | cons b l ih =>
    have h1 := b.toNat_lt
    rw [show 8 * (b :: l).length = 8 * l.length + 8 by simp; omega, Nat.pow_add]
    unfold val
    omega

/-- The check. -/
def crcOn (c : Nat) (l : List UInt8) : Nat := onL (c ^^^ 4294967295) l ^^^ 4294967295
theorem crcOn_lt {c : Nat} (h : c < 4294967296) (l : List UInt8) : crcOn c l < 4294967296 :=
  Nat.xor_lt_two_pow (n := 32) (onL_lt l (Nat.xor_lt_two_pow (n := 32) (by omega) (by omega))) (by omega)
theorem xor_twice (c d : Nat) : c ^^^ d ^^^ d = c := by rw [Nat.xor_assoc, Nat.xor_self, Nat.xor_zero]
theorem crcOn_append (c : Nat) (l m : List UInt8) : crcOn (crcOn c l) m = crcOn c (l ++ m) := by
  unfold crcOn; rw [xor_twice, onL_append]
theorem crcOn_nil (c : Nat) : crcOn c [] = c := xor_twice _ _
theorem crc_known : crcOn 0 [49, 50, 51, 52, 53, 54, 55, 56, 57] = 3808858755 := by decide +kernel

/-- A change within 32 bits is seen. -/
theorem crc_burst (l m : List UInt8) (h : l.length = m.length) (at' W : Nat) (hat : at' ≤ 8 * l.length) (hW : W < 4294967296) (hd : val m = val l ^^^ 2 ^ at' * W) : m = l ∨ crcOn 0 m ≠ crcOn 0 l := by
  by_cases h0 : W = 0
  · left
    subst h0
    exact val_inj _ _ h.symm (by rw [hd]; simp)
  · right
    intro e
    unfold crcOn at e
    have e1 : onL (0 ^^^ 4294967295) m = onL (0 ^^^ 4294967295) l := by
      have := congrArg (· ^^^ 4294967295) e
      simpa only [xor_twice] using this
    rw [onL_val, onL_val, ← h, hd, ← Nat.xor_assoc, off_xor _ (_ ^^^ val l)] at e1
    have e2 : off (8 * l.length) (2 ^ at' * W) = 0 := by
      generalize off (8 * l.length) ((0 ^^^ 4294967295) ^^^ val l) = x at e1
      generalize off (8 * l.length) (2 ^ at' * W) = y at e1
      have := congrArg (x ^^^ ·) e1
      simpa [← Nat.xor_assoc] using this
    obtain ⟨r, hr⟩ : ∃ r, 8 * l.length = at' + r := ⟨8 * l.length - at', by omega⟩
    rw [hr, off_add, off_pow] at e2
    have := off_pos r hW (by omega)
    omega

theorem xor_mul (k a b : Nat) : 2 ^ k * a ^^^ 2 ^ k * b = 2 ^ k * (a ^^^ b) := by
  apply Nat.eq_of_testBit_eq
  intro i
  simp only [Nat.testBit_xor, Nat.testBit_two_pow_mul]
  by_cases h : k ≤ i <;> simp [h]

/-- One bit of one byte turned. -/
theorem val_set (l : List UInt8) : ∀ (p : Nat) (h : p / 8 < l.length) (x : UInt8), x.toNat = l[p / 8].toNat ^^^ 2 ^ (p % 8) → val (l.set (p / 8) x) = val l ^^^ 2 ^ p := by
  induction l with
  | nil => intro p h; simp at h
  | cons b l ih =>
    intro p h x hx
    by_cases h8 : p < 8
    · have e : p / 8 = 0 := by omega
      have e' : p % 8 = p := by omega
      simp only [e, e', List.getElem_cons_zero, List.set_cons_zero] at hx ⊢
      rw [val_cons, val_cons, hx]
      ac_rfl
    · obtain ⟨q, rfl⟩ : ∃ q, p = q + 8 := ⟨p - 8, by omega⟩
      have e : (q + 8) / 8 = q / 8 + 1 := by omega
      have e' : (q + 8) % 8 = q % 8 := by omega
      simp only [e, e', List.getElem_cons_succ, List.set_cons_succ, List.length_cons] at hx h ⊢
      rw [val_cons, val_cons, ih q (by omega) x hx, Nat.xor_assoc]
      congr 1
      rw [show (256 : Nat) = 2 ^ 8 from rfl, ← xor_mul, Nat.pow_add, Nat.mul_comm (2 ^ q)]

/-- A bit more of the change. -/
theorem burst_step {l : List UInt8} {v at' k W p : Nat} (hW : W < 2 ^ k) (hd : val l = v ^^^ 2 ^ at' * W) (hp : p = at' + k) (h : p / 8 < l.length) {x : UInt8} (hx : x.toNat = l[p / 8].toNat ^^^ 2 ^ (p % 8)) :
    ∃ W' < 2 ^ (k + 1), val (l.set (p / 8) x) = v ^^^ 2 ^ at' * W' := by
  refine ⟨W ^^^ 2 ^ k, Nat.xor_lt_two_pow (Nat.lt_trans hW (Nat.pow_lt_pow_right (by omega) (by omega))) (Nat.pow_lt_pow_right (by omega) (by omega)), ?_⟩
  rw [val_set l p h x hx, hd, ← xor_mul, hp, Nat.pow_add, Nat.xor_assoc]

/-- Three rows of one length, xored. -/
theorem onL_xor3 : ∀ (a b c x : List UInt8), a.length = x.length → b.length = x.length → c.length = x.length →
    (∀ i (h : i < x.length) (ha : i < a.length) (hb : i < b.length) (hc : i < c.length), x[i].toNat = a[i].toNat ^^^ b[i].toNat ^^^ c[i].toNat) →
    ∀ p q r, onL (p ^^^ q ^^^ r) x = onL p a ^^^ onL q b ^^^ onL r c := by
  intro a
  induction a with
  | nil =>
    intro b c x ha hb hc _ p q r
    obtain rfl := List.length_eq_zero_iff.1 ha.symm
    obtain rfl := List.length_eq_zero_iff.1 hb
    obtain rfl := List.length_eq_zero_iff.1 hc
    rfl
  | cons a0 a ih =>
    intro b c x ha hb hc he p q r
    cases x with
    | nil => simp at ha
    | cons x0 x =>
    cases b with
    | nil => simp at hb
    | cons b0 b =>
    cases c with
    | nil => simp at hc
    | cons c0 c =>
    have e0 := he 0 (by simp) (by simp) (by simp) (by simp)
    simp only [List.getElem_cons_zero] at e0
    show onL (off 8 ((p ^^^ q ^^^ r) ^^^ x0.toNat)) x = onL (off 8 (p ^^^ a0.toNat)) a ^^^ onL (off 8 (q ^^^ b0.toNat)) b ^^^ onL (off 8 (r ^^^ c0.toNat)) c
    rw [← ih b c x (by simpa using ha) (by simpa using hb) (by simpa using hc) (fun i h h1 h2 h3 => by
      have := he (i + 1) (by simpa using h) (by simpa using h1) (by simpa using h2) (by simpa using h3)
      simpa using this), ← off_xor, ← off_xor, e0]
    congr 2
    ac_rfl
theorem crc_xor3 (a b c x : List UInt8) (ha : a.length = x.length) (hb : b.length = x.length) (hc : c.length = x.length)
    (he : ∀ i (h : i < x.length) (ha : i < a.length) (hb : i < b.length) (hc : i < c.length), x[i].toNat = a[i].toNat ^^^ b[i].toNat ^^^ c[i].toNat) :
    crcOn 0 x = crcOn 0 a ^^^ crcOn 0 b ^^^ crcOn 0 c := by
  unfold crcOn
  have := onL_xor3 a b c x ha hb hc he (0 ^^^ 4294967295) (0 ^^^ 4294967295) (0 ^^^ 4294967295)
  rw [show (0 ^^^ 4294967295) ^^^ (0 ^^^ 4294967295) ^^^ (0 ^^^ 4294967295) = (0 ^^^ 4294967295 : Nat) by decide] at this
  rw [this]
  generalize onL _ a = A
  generalize onL _ b = B
  generalize onL _ c = C
  have e : A ^^^ 4294967295 ^^^ (B ^^^ 4294967295) ^^^ (C ^^^ 4294967295) = A ^^^ B ^^^ C ^^^ 4294967295 ^^^ (4294967295 ^^^ 4294967295) := by ac_rfl
  rw [e, Nat.xor_self, Nat.xor_zero]

/-- The other bits. -/
theorem ones_sub {c : Nat} (h : c < 4294967296) : 4294967295 - c = c ^^^ 4294967295 := by
  have h1 : (~~~ (BitVec.ofNat 32 c)).toNat = 2 ^ 32 - 1 - c := by rw [BitVec.toNat_not, BitVec.toNat_ofNat, Nat.mod_eq_of_lt (by omega)]
  have h2 : (BitVec.ofNat 32 c ^^^ BitVec.allOnes 32).toNat = c ^^^ 4294967295 := by rw [BitVec.toNat_xor, BitVec.toNat_ofNat, Nat.mod_eq_of_lt (by omega)]; rfl
  rw [BitVec.xor_allOnes, h1] at h2
  exact h2
end Go.Proofs.Ytndakbjmahkjdaa.Crc

/-
  Contracts of oneOff and eightOff of package check, and of the reference's Off: so many bits off, for every number of 32 bits.
-/
namespace Go.Proofs.Ytndakbjmahkjdaa.Crc
open Go.ChangeShapes Go.WideShapes Go.ChangeAt Go.RowKit

theorem ret_int {k : IntKind} {a b : Int} (h : a = b) : Ending.returned (.int k a) = .returned (.int k b) := by rw [h]
theorem v_int {k : IntKind} {a b : Int} (h : a = b) : Value.int k a = .int k b := by rw [h]
theorem ret_bool {a b : Bool} (h : a = b) : Ending.returned (.bool a) = .returned (.bool b) := by rw [h]

theorem and1 (c : Nat) (h : c < 4294967296) : bits .and .u32 (c : Int) 1 = ((c % 2 : Nat) : Int) := by
  have := u32_and_nat c 1 h (by omega)
  rw [nat_mask1] at this
  exact this
theorem xorP (c : Nat) (h : c < 4294967296) : bits .xor .u32 (c : Int) 2197175160 = ((c ^^^ 2197175160 : Nat) : Int) := u32_xor_nat c 2197175160 h (by omega)

def U32 (n : Nat) (w : World) (e : Ending) (w' : World) : Prop := e = .returned (.int .u32 n) ∧ w = w'

theorem u32_i {a : Int} {n : Nat} {w : World} (h : a = n) : U32 n w (.returned (.int .u32 a)) w := by subst h; exact ⟨rfl, rfl⟩
theorem half_xor (c : Nat) (h : c < 4294967296) : bits .xor .u32 ((c : Int) / 2) 2197175160 = ((c / 2 ^^^ 2197175160 : Nat) : Int) := by
  have := xorP (c / 2) (by omega)
  rwa [Int.natCast_ediv] at this

theorem oneOff_any (c : Nat) (h : c < 4294967296) (w : World) : Calls Try.prog 92 #[.int .u32 c] w (U32 (bit1 c) w) := by
  have hb : bits .and .u32 (c : Int) 1 = ((c % 2 : Nat) : Int) := and1 c h
  by_cases h' : c % 2 = 1
  · go_enter Try.func92, Try.ntmps92
    go_wp2
    go_ret
    exact u32_i (by rw [bit1_odd h']; exact half_xor c h)
  · go_enter Try.func92, Try.ntmps92
    go_wp2
    go_ret
    exact u32_i (by rw [bit1_even h']; simp)

set_option maxHeartbeats 400000 in
theorem eightOff_any (c : Nat) (h : c < 4294967296) (w : World) : Calls Try.prog 91 #[.int .u32 c] w (U32 (off 8 c) w) := by
  go_enter Try.func91, Try.ntmps91
  go_wp2
  go_loop [0, 3] (fun v i => ∃ k : Nat, k ≤ 8 ∧ i = .int .i64 k ∧ v = .int .u32 (off k c : Nat)) (fun _ i => 8 - (Go.RowKit.intOf i).toNat)
  case atStart => exact ⟨0, Nat.zero_le _, rfl, rfl⟩
  case round =>
    obtain ⟨k, hk, rfl, rfl⟩ := hrel
    by_cases hlt : k < 8
    · have hl := off_lt k h
      go_wp2_with (go_at_call 92; refine (oneOff_any _ hl _).mono ?_; rintro e w' ⟨rfl, rfl⟩)
      go_round
      case rel => exact ⟨k + 1, by omega, by go_num, by rw [off_succ']⟩
      case measure => simp [Go.RowKit.intOf]; omega
    · go_wp2
      go_ret
      obtain rfl : k = 8 := by omega
      exact ⟨rfl, rfl⟩

end Go.Proofs.Ytndakbjmahkjdaa.Crc

/-
  Contract of Table of package check: an array of 256 numbers, each with eight bits off.
-/
namespace Go.Proofs.Ytndakbjmahkjdaa.Crc
open Go.ChangeShapes Go.WideShapes Go.ChangeAt Go.RowKit

/-- The table's cells, as far as k of them are filled. -/
def tabN (k : Nat) : Array Value := Array.ofFn (n := 256) fun i => if i.val < k then .int .u32 (off 8 i.val : Nat) else .int .u32 0
theorem tabN_size (k : Nat) : (tabN k).size = 256 := by simp [tabN]
theorem tabN_at (k j : Nat) (h : j < 256) (hk : j < k) : (tabN k)[j]? = some (.int .u32 (off 8 j : Nat)) := by simp [tabN, h, hk]
theorem tabN_zero : tabN 0 = Array.replicate 256 (.int .u32 0) := by
  apply Array.ext
  · simp [tabN]
  · intro i h1 h2; simp [tabN]
theorem tabN_step (k : Nat) : (tabN k).setIfInBounds k (.int .u32 (off 8 k : Nat)) = tabN (k + 1) := by
  apply Array.ext
  · simp [tabN]
  · intro i h1 h2
    rw [Array.getElem_setIfInBounds (by simpa using h1)]
    by_cases h : k = i
    · subst h; simp [tabN]
    · have e : (i < k + 1) = (i < k) := by apply propext; omega
      simp [tabN, h, e]

theorem info23 : (Try.prog.info? 139).map (fun i => (i.zero, i.size)) = some (some (.agg (Array.replicate 256 (.int .u32 0))), 256) := by kernel_rfl

theorem tabN_one (k : Nat) : (tabN k).all (·.oneCell') = true := by
  rw [Array.all_eq_true]
  intro i h
  simp only [tabN, Array.getElem_ofFn]
  split <;> rfl

def TabB (w : World) (e : Ending) (w' : World) : Prop := e = .returned (.agg (tabN 256)) ∧ Below w.heap.size w w'

set_option maxHeartbeats 1000000 in
set_option maxRecDepth 100000 in
theorem Table_any (w : World) : Calls Try.prog 86 #[] w (TabB w) := by
  obtain ⟨hz, hi⟩ := zero_of_info info23
  have HI := Lib.hid hi
  clear hi
  go_enter Try.func86, Try.ntmps86
  go_wp2
  rw [← tabN_zero]
  clear hz
  go_loopw [3] (fun i wr => ∃ k : Nat, k ≤ 256 ∧ i = .int .i64 k ∧ wr = (w.alloc (.cells (tabN 0) 139)).alloc (.cells (tabN k) 139)) (fun i _ => 256 - (Go.RowKit.intOf i).toNat)
  case atStart => exact ⟨0, Nat.zero_le _, rfl, rfl⟩
  case round =>
    obtain ⟨k, hk, rfl, rfl⟩ := hrel
    have hsz := tabN_size k
    by_cases hlt : k < 256
    · have HT := Lib.hid (tabN_step k)
      have hcell : ∃ v, (tabN k)[k]? = some v := ⟨_, Array.getElem?_eq_getElem (by omega)⟩
      obtain ⟨v, hv⟩ := hcell
      generalize tabN k = T at HT hv hsz
      generalize tabN 0 = Z
      go_wp2_with (go_at_call 91; (with_reducible refine (eightOff_any k (by omega) _).mono ?_); rintro e w' ⟨rfl, rfl⟩)
      go_roundw
      case rel => exact ⟨k + 1, by omega, by go_num, by rw [← HT.out]⟩
      case measure => simp [Go.RowKit.intOf]; omega
    · obtain rfl : k = 256 := by omega
      have HL := Lib.hid (heap_alloc_new (w.alloc (.cells (tabN 0) 139)) (.cells (tabN 256) 139))
      have HO := Lib.hid (heap_alloc2_old w (.cells (tabN 0) 139) (.cells (tabN 256) 139))
      clear hsz
      go_wp2_with (first
        | (refine wpList_load_row rfl 139 _ rfl (w.heap.size + 1) rfl 139 (tabN 256) (0, 0) _ (by simpa using HL.out) Try.underlying139 rfl (by rw [tabN_size]; exact HI.out) ?_)
        | (refine wpList_store_row rfl 139 _ _ rfl w.heap.size (tabN 256) rfl rfl 139 (tabN 0) HO.out (by rw [tabN_size]; exact HI.out) (by rw [tabN_size, tabN_size]) (tabN_one _) ?_))
      refine bodyPost_ret (v := .agg (tabN 256)) (results_cell_row rfl _ _ w.heap.size 139 (tabN 256) (0, 0) _ rfl (setRow_heap _ _ _ _ _ _ HO.out) Try.underlying139 rfl (by rw [tabN_size]; exact HI.out)) rfl ⟨rfl, ?_⟩
      exact below_setRow (((Below.refl _ _).alloc (Nat.le_refl _) _).alloc (by simp) _) (Nat.le_refl _) _
end Go.Proofs.Ytndakbjmahkjdaa.Crc
