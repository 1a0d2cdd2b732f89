/-
  Joined: Sums, Val, Read, RefNum.
-/
import Derived.Test.YtlpkalfbcphkmaaGreatMd
import Derived.Lib.Mul64
import Derived.Laws.Bits64b
import Derived.Shelf.Bits.Mul64
import Derived.WalkSpells
import Derived.Deep.QuietTactic
import Derived.BigQuiet

/-
  Contracts of Add, Mul64 and Times of package pack, for all integers that an int holds.
-/
namespace Go.Proofs.YtlpkalfbcphkmaaGreat
open Go.ChangeShapes Go.WideShapes Go.ChangeAt Go.RowKit Go.Lib

def TwoI (a : Int) (b : Int) (w : World) (e : Ending) (w' : World) : Prop := e = .returned (.tuple #[.int .i64 a, .int .i64 b]) ∧ w = w'
theorem two_i {a b c d : Int} {w : World} (h : a = c) (h' : b = d) : TwoI c d w (.returned (.tuple #[.int .i64 a, .int .i64 b])) w := by subst h; subst h'; exact ⟨rfl, rfl⟩

/-- What Add answers. -/
def addV (a b : Int) : Int := if mayB a = true ∧ mayB b = true ∧ mayB (a + b) = true then a + b else 0
def addE (a b : Int) : Int := if mayB a = true ∧ mayB b = true then (if mayB (a + b) = true then 0 else 2) else 1

def TwoU (a : Nat) (b : Nat) (w : World) (e : Ending) (w' : World) : Prop := e = .returned (.tuple #[.int .u64 a, .int .u64 b]) ∧ w = w'

set_option maxHeartbeats 1000000 in
theorem Mul64_any (x y : Nat) (hx : x < 18446744073709551616) (hy : y < 18446744073709551616) (w : World) :
    Calls Tryz.prog 108 #[.int .u64 x, .int .u64 y] w (TwoU (x * y / 18446744073709551616) (x * y % 18446744073709551616) w) := by
  obtain ⟨k1, k2, k3, hi⟩ := Lib.mul64_hi x y hx hy
  have p1 := Lib.half_mul_le (a := x / 4294967296) (b := y / 4294967296) (by omega) (by omega)
  have p2 := Lib.half_mul_le (a := x / 4294967296) (b := y % 4294967296) (by omega) (by omega)
  have p3 := Lib.half_mul_le (a := x % 4294967296) (b := y / 4294967296) (by omega) (by omega)
  have q1 : x / 4294967296 * (y / 4294967296) < 18446744073709551616 := by omega
  have q2 : x / 4294967296 * (y % 4294967296) < 18446744073709551616 := by omega
  have q3 : x % 4294967296 * (y / 4294967296) < 18446744073709551616 := by omega
  have q4 : x / 4294967296 * (y / 4294967296) + (x / 4294967296 * (y % 4294967296) + x % 4294967296 * (y % 4294967296) / 4294967296) / 4294967296 < 18446744073709551616 := by omega
  have q5 : x / 4294967296 * (y / 4294967296) + (x / 4294967296 * (y % 4294967296) + x % 4294967296 * (y % 4294967296) / 4294967296) / 4294967296 + ((x / 4294967296 * (y % 4294967296) + x % 4294967296 * (y % 4294967296) / 4294967296) % 4294967296 + x % 4294967296 * (y / 4294967296)) / 4294967296 < 18446744073709551616 := by omega
  have HI := Lib.hid hi
  clear hi
  go_enter Tryz.func108, Tryz.ntmps108
  go_wp2
  simp only [Mul64.maskN x hx, Mul64.maskN y hy, Mul64.divN, Mul64.mulN, Mul64.addN, Mul64.wrapN _ k1, Mul64.wrapN _ q2, Mul64.wrapN _ k2, Mul64.maskN _ k2, Mul64.wrapN _ q3, Mul64.wrapN _ k3, Mul64.wrapN _ q1, Mul64.wrapN _ q4, Mul64.wrapN _ q5, Mul64.wrapM (x * y)]
  rw [HI.out]
  go_ret2
  exact ⟨rfl, rfl⟩

/-- What Times answers. -/
def timesV (a b : Int) : Int := if mayB a = true ∧ mayB b = true ∧ mayB (a * b) = true then a * b else 0
def timesE (a b : Int) : Int := if mayB a = true ∧ mayB b = true then (if mayB (a * b) = true then 0 else 2) else 1

theorem nat_may {a b : Int} : mayB (a * b) = true ↔ a.natAbs * b.natAbs ≤ 1152921504606846976 := by
  rw [mayB_t, ← Int.natAbs_mul]; omega

theorem Mul64_small (x y : Nat) (hx : x < 18446744073709551616) (hy : y < 18446744073709551616) (h : x * y ≤ 1152921504606846976) :
    ∃ lo : Nat, lo ≤ 1152921504606846976 ∧ ∀ w : World, Calls Tryz.prog 108 #[.int .u64 x, .int .u64 y] w (TwoU 0 lo w) := by
  refine ⟨x * y, h, fun w => ?_⟩
  have := Mul64_any x y hx hy w
  rwa [Nat.div_eq_of_lt (by omega), Nat.mod_eq_of_lt (by omega)] at this
theorem Mul64_big (x y : Nat) (hx : x < 18446744073709551616) (hy : y < 18446744073709551616) (h : ¬ x * y ≤ 1152921504606846976) :
    ∃ hi lo : Nat, (0 < hi ∨ (hi = 0 ∧ 1152921504606846976 < lo)) ∧ ∀ w : World, Calls Tryz.prog 108 #[.int .u64 x, .int .u64 y] w (TwoU hi lo w) := by
  refine ⟨x * y / 18446744073709551616, x * y % 18446744073709551616, ?_, Mul64_any x y hx hy⟩
  generalize x * y = p at h
  omega

end Go.Proofs.YtlpkalfbcphkmaaGreat

/-
  Plain mathematics of reading numbers: the place of a number's last digit, what digits are worth, what a folded number stands for. Nothing of the program.
-/
namespace Go.Proofs.YtlpkalfbcphkmaaGreat

/-- i is the place of the last digit of the number that the text begins with. -/
def IsLast (s : ByteArray) (i : Nat) : Prop := ∃ h : i < s.size, i < 9 ∧ s[i].toNat < 128 ∧ ∀ j (hj : j < i), 128 ≤ (s[j]'(by omega)).toNat
/-- Among its first nine bytes the text has no last digit. -/
def NoLast (s : ByteArray) : Prop := ∀ j (h : j < s.size), j < 9 → 128 ≤ s[j].toNat

theorem last_or (s : ByteArray) : (∃ i, IsLast s i) ∨ NoLast s := by
  by_cases h : ∃ i, IsLast s i
  · exact .inl h
  · right
    have key : ∀ n j (hj : j < s.size), j ≤ n → j < 9 → 128 ≤ s[j].toNat := by
      intro n
      induction n with
      | zero =>
        intro j hj hn h9
        obtain rfl : j = 0 := by omega
        apply Classical.byContradiction
        intro hc
        exact h ⟨0, hj, by omega, by omega, fun k hk => by omega⟩
      | succ n ih =>
        intro j hj hn h9
        apply Classical.byContradiction
        intro hc
        exact h ⟨j, hj, h9, by omega, fun k hk => ih k (by omega) (by omega) (by omega)⟩
    exact fun j hj h9 => key j j hj (Nat.le_refl _) h9
theorem last_not {s : ByteArray} {i : Nat} (h : IsLast s i) (k : NoLast s) : False := by
  obtain ⟨hi, h9, h1, _⟩ := h
  have := k i hi h9
  omega
theorem last_unique {s : ByteArray} {i j : Nat} (h : IsLast s i) (k : IsLast s j) : i = j := by
  obtain ⟨hi, h9, h1, h2⟩ := h
  obtain ⟨ki, k9, k1, k2⟩ := k
  apply Classical.byContradiction
  intro hne
  by_cases hl : i < j
  · have := k2 i hl; omega
  · have := h2 j (by omega); omega

/-- What digits are worth, the lowest first. -/
def val : List UInt8 → Nat
  | [] => 0
  | b :: t => b.toNat % 128 + 128 * val t
theorem val_lt : ∀ l : List UInt8, val l < 128 ^ l.length
  | [] => by simp [val]
  | b :: t => by
    have := val_lt t
    have hb : b.toNat % 128 < 128 := Nat.mod_lt _ (by omega)
    simp only [val, List.length_cons, Nat.pow_succ]
    omega
theorem val_lt9 (l : List UInt8) (h : l.length ≤ 9) : val l < 9223372036854775808 := by
  have h1 := val_lt l
  have h2 : 128 ^ l.length ≤ 128 ^ 9 := Nat.pow_le_pow_right (by omega) h
  have h3 : (128 : Nat) ^ 9 = 9223372036854775808 := by decide
  omega
theorem val_drop (l : List UInt8) (k : Nat) (h : k < l.length) : val (l.drop k) = l[k].toNat % 128 + 128 * val (l.drop (k + 1)) := by
  rw [List.drop_eq_getElem_cons h]; rfl
/-- Below seven bits a place that is left to read. -/
theorem val_drop_lt (l : List UInt8) (k : Nat) (h : k < l.length) (h9 : l.length ≤ 9) : val (l.drop (k + 1)) < 72057594037927936 := by
  have h1 := val_lt (l.drop (k + 1))
  have h2 : 128 ^ (l.drop (k + 1)).length ≤ 128 ^ 8 := Nat.pow_le_pow_right (by omega) (by rw [List.length_drop]; omega)
  have h3 : (128 : Nat) ^ 8 = 72057594037927936 := by decide
  omega

theorem val_step (s : ByteArray) (k : Nat) (h : k < s.size) : val (s.data.toList.drop k) = s[k].toNat % 128 + 128 * val (s.data.toList.drop (k + 1)) := by
  rw [val_drop _ _ (by simpa using h)]; rfl
theorem val_step_lt (s : ByteArray) (k : Nat) (h : k < s.size) (h9 : s.size ≤ 9) : val (s.data.toList.drop (k + 1)) < 72057594037927936 := val_drop_lt _ _ (by simpa using h) (by simpa using h9)

theorem ext_step (s : ByteArray) (i k : Nat) (hi : i < s.size) (hk : k ≤ i) : val ((s.extract 0 (i + 1)).data.toList.drop k) = (s[k]'(by omega)).toNat % 128 + 128 * val ((s.extract 0 (i + 1)).data.toList.drop (k + 1)) := by
  have hz : k < (s.extract 0 (i + 1)).size := by rw [ByteArray.size_extract]; omega
  rw [val_step _ k hz]
  congr 3
  rw [ByteArray.getElem_extract]
  simp
theorem ext_size (s : ByteArray) (i : Nat) (h : i < s.size) : (s.extract 0 (i + 1)).size = i + 1 := by
  rw [ByteArray.size_extract]; omega
theorem ext_step_lt (s : ByteArray) (i k : Nat) (hi : i < s.size) (h9 : i < 9) (hk : k ≤ i) : val ((s.extract 0 (i + 1)).data.toList.drop (k + 1)) < 72057594037927936 :=
  val_step_lt _ k (by rw [ext_size s i hi]; omega) (by rw [ext_size s i hi]; omega)

/-- What a folded number stands for. -/
def unf (u : Nat) : Int := if u % 2 = 1 then - ((u / 2 : Nat) : Int) - 1 else ((u / 2 : Nat) : Int)
end Go.Proofs.YtlpkalfbcphkmaaGreat

/-
  Contracts of lastDigit, value, unfold and ReadNumber of package pack.
-/
namespace Go.Proofs.YtlpkalfbcphkmaaGreat
open Go.ChangeShapes Go.WideShapes Go.ChangeAt Go.RowKit Go.Lib

theorem unfold_any (u : Nat) (w : World) (h : u < 9223372036854775808) :
    Calls Tryz.prog 120 #[.int .u64 u] w fun e w' => e = .returned (.int .i64 (unf u)) ∧ w = w' := by
  by_cases ho : u % 2 = 1
  · have h1 : (((u : Int) % 2) == 1) = true := by simp; omega
    go_enter Tryz.func120, Tryz.ntmps120
    go_wp2
    go_ret
    exact ⟨ret_int (by unfold unf; rw [if_pos ho]; omega), rfl⟩
  · have h1 : (((u : Int) % 2) == 1) = false := by simp; omega
    go_enter Tryz.func120, Tryz.ntmps120
    go_wp2
    go_ret
    exact ⟨ret_int (by unfold unf; rw [if_neg ho]; omega), rfl⟩

set_option maxHeartbeats 400000 in
theorem value_any (s : ByteArray) (w : World) (h9 : s.size ≤ 9) :
    Calls Tryz.prog 121 #[.string s] w fun e w' => e = .returned (.int .u64 (val s.data.toList)) ∧ w = w' := by
  go_enter Tryz.func121, Tryz.ntmps121
  go_wp2
  go_loop [3, 4] (fun x i => ∃ z : Int, -1 ≤ z ∧ z < s.size ∧ i = .int .i64 z ∧ x = .int .u64 (val (s.data.toList.drop (z + 1).toNat))) (fun _ i => (Go.RowKit.intOf i + 1).toNat)
  case atStart => exact ⟨(s.size : Int) - 1, by omega, by omega, rfl, by rw [List.drop_of_length_le (by simp)]; rfl⟩
  case round =>
    obtain ⟨z, hz1, hz2, rfl, rfl⟩ := hrel
    by_cases h0 : z = -1
    · subst h0
      go_wp2
      go_ret
      exact ⟨rfl, rfl⟩
    · obtain ⟨m, rfl⟩ : ∃ m : Nat, z = m := ⟨z.toNat, by omega⟩
      have hm : m < s.size := by omega
      have hv := Lib.hid (val_step s m hm)
      have hb := val_step_lt s m hm h9
      have hbyte : s[m].toNat < 256 := s[m].toNat_lt
      have e1 : ((m : Int) + 1).toNat = m + 1 := by omega
      rw [e1]
      clear e1
      generalize hg : val (s.data.toList.drop (m + 1)) = V at hb
      have HG := Lib.hid hg
      clear hg
      go_wp2
      go_round
      case rel => exact ⟨(m : Int) - 1, by omega, by omega, rfl, v_int (by rw [show ((m : Int) - 1 + 1).toNat = m by omega, hv.out, HG.out]; omega)⟩
      case measure => simp [Go.RowKit.intOf]

set_option maxHeartbeats 400000 in
set_option maxRecDepth 100000 in
theorem lastDigit_yes (s : ByteArray) (i : Nat) (w : World) (h : IsLast s i) (hs : s.size ≤ maxLen) :
    Calls Tryz.prog 119 #[.string s] w (TwoI i 0 w) := by
  unfold maxLen at hs
  obtain ⟨hi, h9, h1, h2⟩ := h
  have H2 := Lib.hid h2
  have H1 := Lib.hid h1
  clear h2 h1
  by_cases hmin : s.size ≤ 9
  all_goals
    go_enter Tryz.func119, Tryz.ntmps119
    go_wp2
    go_loop [8] (fun x => ∃ k : Nat, k ≤ i ∧ x = .int .i64 k) (fun x => i + 1 - (Go.RowKit.intOf x).toNat)
    case atStart => exact ⟨0, Nat.zero_le _, rfl⟩
    case round =>
      obtain ⟨k, hk, rfl⟩ := hrel
      by_cases hlt : k < i
      · have HB := Lib.hid (H2.out k hlt)
        go_wp2
        · exfalso
          have := HB.out
          omega
        · go_round
          case rel => exact ⟨k + 1, by omega, by go_num⟩
          case measure => simp [Go.RowKit.intOf]; omega
      · obtain rfl : i = k := by omega
        go_wp2
        · go_ret2
          exact ⟨rfl, rfl⟩
        · exfalso
          have := H1.out
          omega

def shortE (s : ByteArray) : Int := if s.size < 9 then 4 else 3
set_option maxHeartbeats 400000 in
set_option maxRecDepth 100000 in
theorem lastDigit_no (s : ByteArray) (w : World) (h : NoLast s) (hs : s.size ≤ maxLen) :
    Calls Tryz.prog 119 #[.string s] w (TwoI 0 (shortE s) w) := by
  unfold maxLen at hs
  have H2 := Lib.hid h
  clear h
  have hm : s.size < 9 ∨ s.size = 9 ∨ 9 < s.size := by omega
  obtain ⟨m, hmin, hm9, hmd⟩ : ∃ m : Nat, m ≤ s.size ∧ m ≤ 9 ∧ ((m = s.size ∧ s.size ≤ 9) ∨ (m = 9 ∧ 9 < s.size)) := by
    by_cases h : s.size ≤ 9
    · exact ⟨s.size, by omega, h, .inl ⟨rfl, h⟩⟩
    · exact ⟨9, by omega, by omega, .inr ⟨rfl, by omega⟩⟩
  rcases hmd with ⟨rfl, hc⟩ | ⟨rfl, hc⟩
  all_goals
    go_enter Tryz.func119, Tryz.ntmps119
    go_wp2
  · go_loop [8] (fun x => ∃ k : Nat, k ≤ s.size ∧ x = .int .i64 k) (fun x => s.size - (Go.RowKit.intOf x).toNat)
    case atStart => exact ⟨0, Nat.zero_le _, rfl⟩
    case round =>
      obtain ⟨k, hk, rfl⟩ := hrel
      by_cases hlt : k < s.size
      · have HB := Lib.hid (H2.out k hlt (by omega))
        go_wp2
        · exfalso
          have := HB.out
          omega
        · go_round
          case rel => exact ⟨k + 1, by omega, by go_num⟩
          case measure => simp [Go.RowKit.intOf]; omega
      · by_cases h9 : s.size < 9
        · go_wp2
          go_ret2
          exact two_i rfl (by unfold shortE; rw [if_pos h9])
        · go_wp2
          go_ret2
          exact two_i rfl (by unfold shortE; rw [if_neg h9])
  · go_loop [8] (fun x => ∃ k : Nat, k ≤ 9 ∧ x = .int .i64 k) (fun x => 9 - (Go.RowKit.intOf x).toNat)
    case atStart => exact ⟨0, Nat.zero_le _, rfl⟩
    case round =>
      obtain ⟨k, hk, rfl⟩ := hrel
      by_cases hlt : k < 9
      · have hks : k < s.size := by omega
        have HB := Lib.hid (H2.out k hks hlt)
        go_wp2
        · exfalso
          have := HB.out
          omega
        · go_round
          case rel => exact ⟨k + 1, by omega, by go_num⟩
          case measure => simp [Go.RowKit.intOf]; omega
      · go_wp2
        go_ret2
        exact two_i rfl (by unfold shortE; rw [if_neg (by omega)])

/-- A number, a text and an error are returned; the world is as it was, but for draws. -/
def ThreeS (n : Int) (t : ByteArray) (b : Int) (w : World) (e : Ending) (w' : World) : Prop := e = .returned (.tuple #[.int .i64 n, .string t, .int .i64 b]) ∧ Below w.heap.size w w'

/-- The number whose last digit is at place i. -/
def rdN (s : ByteArray) (i : Nat) : Int := unf (val (s.extract 0 (i + 1)).data.toList)

set_option maxHeartbeats 400000 in
set_option maxRecDepth 100000 in
theorem ReadNumber_short (s : ByteArray) (w : World) (h : NoLast s) (hs : s.size ≤ maxLen) : Calls Tryz.prog 114 #[.string s] w (ThreeS 0 ⟨#[]⟩ (shortE s) w) := by
  obtain ⟨e1, he, hx⟩ : ∃ e1 : Int, shortE s = e1 ∧ (e1 != 0) = true := ⟨_, rfl, by unfold shortE; split <;> rfl⟩
  have HL := Lib.hid (fun W => lastDigit_no s W h hs)
  rw [he] at HL ⊢
  clear he h hs
  go_enter Tryz.func114, Tryz.ntmps114
  go_wp2_with (go_at_call 119; refine (HL.out _).mono ?_; rintro e w' ⟨rfl, rfl⟩)
  go_ret3
  exact ⟨rfl, Below.refl _ _⟩

set_option maxHeartbeats 400000 in
set_option maxRecDepth 100000 in
theorem ReadNumber_zero (s : ByteArray) (i : Nat) (w : World) (h : IsLast s i) (h0 : 0 < i) (hz : ∀ hi : i < s.size, s[i].toNat = 0) (hs : s.size ≤ maxLen) : Calls Tryz.prog 114 #[.string s] w (ThreeS 0 ⟨#[]⟩ 5 w) := by
  have HL := Lib.hid (fun W => lastDigit_yes s i W h hs)
  obtain ⟨hi, h9, h3, h4⟩ := h
  have hz0 : (((s[i].toNat : Nat) : Int) == 0) = true := by have := hz hi; simp [this]
  clear hz h3 h4
  go_enter Tryz.func114, Tryz.ntmps114
  go_wp2_with (go_at_call 119; refine (HL.out _).mono ?_; rintro e w' ⟨rfl, rfl⟩)
  go_ret3
  exact ⟨rfl, Below.refl _ _⟩

theorem extract_size0 (s : ByteArray) (i : Nat) (h : i < s.size) : (s.extract 0 (i + 1)).size = i + 1 := by
  rw [ByteArray.size_extract]; omega
theorem rd_bd {s : ByteArray} {i : Nat} (h : i < s.size) (h9 : i < 9) : val (s.extract 0 (i + 1)).data.toList < 9223372036854775808 :=
  val_lt9 _ (by have := extract_size0 s i h; rw [← ByteArray.size_data] at this; simp; omega)

theorem read_parts (s : ByteArray) (i : Nat) (hi : i < s.size) (h9 : i < 9) : ∃ (u : Nat) (n : Int), n = rdN s i ∧ u < 9223372036854775808 ∧
    Hid (∀ W, Calls Tryz.prog 121 #[.string (s.extract 0 (i + 1))] W fun e w' => e = .returned (.int .u64 u) ∧ W = w') ∧
    Hid (∀ W, Calls Tryz.prog 120 #[.int .u64 u] W fun e w' => e = .returned (.int .i64 n) ∧ W = w') ∧
    Hid (∀ W, Calls Tryz.prog 110 #[.int .i64 n] W fun e w' => e = .returned (.bool (mayB n)) ∧ W = w') :=
  ⟨val (s.extract 0 (i + 1)).data.toList, rdN s i, rfl, rd_bd hi h9, fun W => value_any (s.extract 0 (i + 1)) W (by rw [extract_size0 s i hi]; omega), fun W => unfold_any _ W (rd_bd hi h9), fun W => mayBe_any (rdN s i) W⟩

set_option maxHeartbeats 1000000 in
set_option maxRecDepth 100000 in
theorem ReadNumber_far (s : ByteArray) (i : Nat) (w : World) (h : IsLast s i) (hz : i = 0 ∨ (0 < i ∧ ∀ hi : i < s.size, s[i].toNat ≠ 0)) (hm : mayB (rdN s i) = false) (hs : s.size ≤ maxLen) :
    Calls Tryz.prog 114 #[.string s] w (ThreeS 0 ⟨#[]⟩ 5 w) := by
  have HL := Lib.hid (fun W => lastDigit_yes s i W h hs)
  obtain ⟨hi, h9, h3, h4⟩ := h
  unfold maxLen at hs
  clear h3 h4
  obtain ⟨u, n, hn, hub, HV, HU, HM⟩ := read_parts s i hi h9
  rw [← hn] at hm
  rw [hm] at HM
  clear hm
  clear hn
  rcases hz with hz | ⟨h0, hz⟩
  · have hz0 : i ≤ 0 := by omega
    clear hz
    go_enter Tryz.func114, Tryz.ntmps114
    go_wp2_with (first
      | (go_at_call 119; (with_reducible refine (HL.out _).mono ?_); rintro e w' ⟨rfl, rfl⟩)
      | (go_at_call 121; (with_reducible refine (HV.out _).mono ?_); rintro e w' ⟨rfl, rfl⟩)
      | (go_at_call 120; (with_reducible refine (HU.out _).mono ?_); rintro e w' ⟨rfl, rfl⟩)
      | (go_at_call 110; (with_reducible refine (HM.out _).mono ?_); rintro e w' ⟨rfl, rfl⟩))
    go_ret3
    exact ⟨rfl, Below.refl _ _⟩
  · have hz0 : (((s[i].toNat : Nat) : Int) == 0) = false := by have := hz hi; simp [this]
    clear hz
    go_enter Tryz.func114, Tryz.ntmps114
    go_wp2_with (first
      | (go_at_call 119; (with_reducible refine (HL.out _).mono ?_); rintro e w' ⟨rfl, rfl⟩)
      | (go_at_call 121; (with_reducible refine (HV.out _).mono ?_); rintro e w' ⟨rfl, rfl⟩)
      | (go_at_call 120; (with_reducible refine (HU.out _).mono ?_); rintro e w' ⟨rfl, rfl⟩)
      | (go_at_call 110; (with_reducible refine (HM.out _).mono ?_); rintro e w' ⟨rfl, rfl⟩))
    go_ret3
    exact ⟨rfl, Below.refl _ _⟩

set_option maxHeartbeats 1000000 in
set_option maxRecDepth 100000 in
theorem ReadNumber_yes (s : ByteArray) (i : Nat) (w : World) (h : IsLast s i) (hz : i = 0 ∨ (0 < i ∧ ∀ hi : i < s.size, s[i].toNat ≠ 0)) (hm : mayB (rdN s i) = true) (hs : s.size ≤ maxLen) :
    Calls Tryz.prog 114 #[.string s] w (ThreeS (rdN s i) (s.extract (i + 1) s.size) 0 w) := by
  have HL := Lib.hid (fun W => lastDigit_yes s i W h hs)
  obtain ⟨hi, h9, h3, h4⟩ := h
  unfold maxLen at hs
  clear h3 h4
  obtain ⟨u, n, hn, hub, HV, HU, HM⟩ := read_parts s i hi h9
  rw [← hn] at hm
  rw [hm] at HM
  clear hm
  rw [← hn]
  clear hn
  rcases hz with hz | ⟨h0, hz⟩
  · have hz0 : i ≤ 0 := by omega
    clear hz
    go_enter Tryz.func114, Tryz.ntmps114
    go_wp2_with (first
      | (go_at_call 119; (with_reducible refine (HL.out _).mono ?_); rintro e w' ⟨rfl, rfl⟩)
      | (go_at_call 121; (with_reducible refine (HV.out _).mono ?_); rintro e w' ⟨rfl, rfl⟩)
      | (go_at_call 120; (with_reducible refine (HU.out _).mono ?_); rintro e w' ⟨rfl, rfl⟩)
      | (go_at_call 110; (with_reducible refine (HM.out _).mono ?_); rintro e w' ⟨rfl, rfl⟩))
    go_quiet (fail)
    go_wp2
    go_ret3
    exact ⟨rfl, bel_drewN _ _⟩
  · have hz0 : (((s[i].toNat : Nat) : Int) == 0) = false := by have := hz hi; simp [this]
    clear hz
    go_enter Tryz.func114, Tryz.ntmps114
    go_wp2_with (first
      | (go_at_call 119; (with_reducible refine (HL.out _).mono ?_); rintro e w' ⟨rfl, rfl⟩)
      | (go_at_call 121; (with_reducible refine (HV.out _).mono ?_); rintro e w' ⟨rfl, rfl⟩)
      | (go_at_call 120; (with_reducible refine (HU.out _).mono ?_); rintro e w' ⟨rfl, rfl⟩)
      | (go_at_call 110; (with_reducible refine (HM.out _).mono ?_); rintro e w' ⟨rfl, rfl⟩))
    go_quiet (fail)
    go_wp2
    go_ret3
    exact ⟨rfl, bel_drewN _ _⟩
end Go.Proofs.YtlpkalfbcphkmaaGreat

/-
  Contracts of the reference's Number and ReadNumber.
-/
namespace Go.Proofs.YtlpkalfbcphkmaaGreat
open Go.ChangeShapes Go.WideShapes Go.ChangeAt Go.RowKit Go.Lib

set_option maxHeartbeats 1600000 in
set_option maxRecDepth 1000000 in
theorem RefNumber_any (n : Int) (w : World) (h1 : -1152921504606846976 ≤ n) (h2 : n ≤ 1152921504606846976) :
    Calls Tryz.prog 51 #[.int .i64 n] w (Text ⟨(digs (fold n)).toArray⟩ w) := by
  obtain ⟨i0, hi, hz0, hz1, hz2⟩ := info_parts Tryz.info5
  have hf := fold_le h1 h2
  have h9 := digs_len9 _ hf
  have HN := Lib.hid (fun h : n < 0 => fold_neg h)
  have HP := Lib.hid (fun h : ¬ n < 0 => fold_pos h)
  obtain ⟨u, hu⟩ : ∃ u, fold n = u := ⟨_, rfl⟩
  rw [hu] at HN HP hf h9 ⊢
  clear hu
  by_cases hn : n < 0
  all_goals
    first | (have d : decide (0 ≤ n) = false := by (simp; omega)) | skip
    go_enter Tryz.func51, Tryz.ntmps51
    go_wp2
    go_loopw [3, 4] (fun x v' wr => ∃ (k : Nat) (p : List UInt8), k ≤ 2305843009213693952 ∧ x = .int .i64 k ∧ p ++ digs k = digs u ∧ wr.ownsRow w.heap.size 5 1 v' p.length (bcells p) ∧ Below w.heap.size w wr)
      (fun x _ _ => (Go.RowKit.intOf x).toNat)
    case atStart => exact ⟨u, [], hf, v_int (by first | (have := HN.out (by omega); omega) | (have := HP.out (by omega); omega)), rfl, World.ownsRow_made _ _ _ (Nat.le_refl _) (by decide) rfl, (Below.refl _ _).alloc (Nat.le_refl _) _⟩
    case round =>
      obtain ⟨k, p, hk, rfl, hp, hown, hnx⟩ := hrel
      have hpl : p.length ≤ 9 := by
        have := congrArg List.length hp
        simp only [List.length_append] at this
        omega
      have HQ := Lib.hid hp
      clear hp
      have hsz := hnx.size
      by_cases hlt : k < 128
      · have HD := Lib.hid (digs_lt hlt)
        go_wp2_with (at_builtin; refine wpList_append_own _ rfl _ _ 41 rfl w.heap.size 5 i0 (.int .u8 0) 1 1 Tryz.underlying41 hi hz0 hz1 hz2 rfl (by decide) _ _ _ rfl (hown.alloc _) ⟨wr.heap.size, 0, none⟩ 1 1 [.int .u8 (k : Int)] rfl rfl ?c1 ?c2 ?c3 ?c4 ?c5 ?_)
        case c1 =>
          intro j y hj
          match j, hj with
          | 0, hj => simp at hj; subst hj; simp [Addr.add]
        case c2 => intro y hy; simp at hy; subst hy; rfl
        case c3 => unfold maxLen; omega
        case c4 => omega
        case c5 => simp; omega
        intro v' w1 hown' hgrow _
        have R := own_snoc (UInt8.ofNat k) (by simp; omega) (by omega) hown hnx hown' hgrow
        have hs := own_string (dst := 9) Tryz.underlying41 Tryz.underlying5 Tryz.underlying9 R.1 (by simp)
        have HR := Lib.hid R.2
        have e : p ++ [UInt8.ofNat k] = digs u := by rw [← HQ.out, HD.out]
        rw [e] at hs
        clear hown' hgrow hown R e hnx
        go_wp2
        go_ret
        exact ⟨rfl, HR.out⟩
      · have HD := Lib.hid (digs_ge hlt)
        go_wp2_with (at_builtin; refine wpList_append_own _ rfl _ _ 41 rfl w.heap.size 5 i0 (.int .u8 0) 1 1 Tryz.underlying41 hi hz0 hz1 hz2 rfl (by decide) _ _ _ rfl (hown.alloc _) ⟨wr.heap.size, 0, none⟩ 1 1 [.int .u8 (128 + (k : Int) % 128)] rfl rfl ?d1 ?d2 ?d3 ?d4 ?d5 ?_)
        case d1 =>
          intro j y hj
          match j, hj with
          | 0, hj => simp at hj; subst hj; simp [Addr.add]
        case d2 => intro y hy; simp at hy; subst hy; rfl
        case d3 => unfold maxLen; omega
        case d4 => omega
        case d5 => simp; omega
        intro v' w1 hown' hgrow _
        have R := own_snoc (UInt8.ofNat (k % 128 + 128)) (by simp; omega) (by omega) hown hnx hown' hgrow
        clear hown' hgrow hown
        go_wp2
        go_roundw
        case rel => exact ⟨k / 128, p ++ [UInt8.ofNat (k % 128 + 128)], by omega, by go_num, by rw [List.append_assoc, ← HQ.out, HD.out]; rfl, R.1, R.2⟩
        case measure => simp [Go.RowKit.intOf]; omega

def StructT (n : Int) (t : ByteArray) (b : Int) (w : World) (e : Ending) (w' : World) : Prop := e = .returned (.agg #[.int .i64 n, .string t, .int .i64 b]) ∧ Below w.heap.size w w'

set_option maxHeartbeats 1000000 in
set_option maxRecDepth 100000 in
theorem RefRead_short (s : ByteArray) (w : World) (h : NoLast s) (hs : s.size ≤ maxLen) :
    Calls Tryz.prog 71 #[.string s] w (StructT 0 ⟨#[]⟩ (shortE s) w) := by
  unfold maxLen at hs
  have H2 := Lib.hid h
  clear h
  obtain ⟨m, hmin, hm9, hmd⟩ : ∃ m : Nat, m ≤ s.size ∧ m ≤ 9 ∧ (s.size ≤ m ∨ 9 ≤ m) := by
    by_cases h : s.size ≤ 9
    · exact ⟨s.size, by omega, h, .inl (by omega)⟩
    · exact ⟨9, by omega, by omega, .inr (by omega)⟩
  have HM := Lib.hid hmd
  clear hmd
  go_enter Tryz.func71, Tryz.ntmps71
  go_wp2
  go_loop [3, 4] (fun l x => l = .int .i64 (-1) ∧ ∃ k : Nat, k ≤ m ∧ x = .int .i64 k) (fun _ x => m - (Go.RowKit.intOf x).toNat)
  case atStart => exact ⟨rfl, 0, Nat.zero_le _, rfl⟩
  case round =>
    obtain ⟨rfl, k, hk, rfl⟩ := hrel
    by_cases hlt : k < m
    · have HB := Lib.hid (H2.out k (by omega) (by omega))
      go_wp2
      · exfalso
        have := HB.out
        omega
      · go_round
        case rel => exact ⟨rfl, k + 1, by omega, by go_num⟩
        case measure => simp [Go.RowKit.intOf]; omega
    · by_cases h9 : s.size < 9
      · have hk2 : s.size ≤ k := by rcases HM.out with h | h <;> omega
        have HE := Lib.hid (show shortE s = 4 by unfold shortE; rw [if_pos h9])
        go_wp2
        exact bodyPost_ret (v := .agg #[.int .i64 0, .string ⟨#[]⟩, .int .i64 4]) (by simp [results, Tryz.results71, go_sem]) rfl ⟨by rw [HE.out], (Below.refl _ _).alloc (Nat.le_refl _) _⟩
      · have HE := Lib.hid (show shortE s = 3 by unfold shortE; rw [if_neg h9])
        have hk2 : 9 ≤ k := by rcases HM.out with h | h <;> omega
        by_cases hk3 : k < s.size
        all_goals
          go_wp2
          exact bodyPost_ret (v := .agg #[.int .i64 0, .string ⟨#[]⟩, .int .i64 3]) (by simp [results, Tryz.results71, go_sem]) rfl ⟨by rw [HE.out], (Below.refl _ _).alloc (Nat.le_refl _) _⟩

/-- What the text s, whose last digit is at place i, is read as. -/
def ReadAs (s : ByteArray) (i : Nat) (n : Int) (t : ByteArray) (b : Int) : Prop :=
  (0 < i ∧ (∀ hi : i < s.size, s[i].toNat = 0) ∧ n = 0 ∧ t = ⟨#[]⟩ ∧ b = 5) ∨
  ((i = 0 ∨ (0 < i ∧ ∀ hi : i < s.size, s[i].toNat ≠ 0)) ∧ mayB (rdN s i) = false ∧ n = 0 ∧ t = ⟨#[]⟩ ∧ b = 5) ∨
  ((i = 0 ∨ (0 < i ∧ ∀ hi : i < s.size, s[i].toNat ≠ 0)) ∧ mayB (rdN s i) = true ∧ n = rdN s i ∧ t = s.extract (i + 1) s.size ∧ b = 0)

theorem unf_odd {u : Nat} (h : u % 2 = 1) : unf u = -((u : Int) / 2) - 1 := by unfold unf; rw [if_pos h]; omega
theorem unf_even {u : Nat} (h : ¬ u % 2 = 1) : unf u = (u : Int) / 2 := by unfold unf; rw [if_neg h]; omega

theorem readAs_some (s : ByteArray) (i : Nat) (hi : i < s.size) : ∃ n t b, ReadAs s i n t b := by
  unfold ReadAs
  by_cases h : 0 < i ∧ s[i].toNat = 0
  · exact ⟨_, _, _, .inl ⟨h.1, fun _ => h.2, rfl, rfl, rfl⟩⟩
  · have hz : i = 0 ∨ (0 < i ∧ ∀ hi : i < s.size, s[i].toNat ≠ 0) := by
      by_cases h0 : i = 0
      · exact .inl h0
      · exact .inr ⟨by omega, fun _ hc => h ⟨by omega, hc⟩⟩
    cases hm : mayB (rdN s i) with
    | false => exact ⟨_, _, _, .inr (.inl ⟨hz, rfl, rfl, rfl, rfl⟩)⟩
    | true => exact ⟨_, _, _, .inr (.inr ⟨hz, rfl, rfl, rfl, rfl⟩)⟩

theorem ReadNumber_as {s : ByteArray} {i : Nat} (w : World) (h : IsLast s i) {n : Int} {t : ByteArray} {b : Int} (hr : ReadAs s i n t b) (hs : s.size ≤ maxLen) :
    Calls Tryz.prog 114 #[.string s] w (ThreeS n t b w) := by
  rcases hr with ⟨h0, hz, rfl, rfl, rfl⟩ | ⟨hz, hm, rfl, rfl, rfl⟩ | ⟨hz, hm, rfl, rfl, rfl⟩
  · exact ReadNumber_zero s i w h h0 hz hs
  · exact ReadNumber_far s i w h hz hm hs
  · exact ReadNumber_yes s i w h hz hm hs

set_option maxHeartbeats 4000000 in
set_option maxRecDepth 100000 in
theorem RefRead_as {s : ByteArray} {i : Nat} (w : World) (h : IsLast s i) {n : Int} {t : ByteArray} {b : Int} (hr : ReadAs s i n t b) (hs : s.size ≤ maxLen) :
    Calls Tryz.prog 71 #[.string s] w (StructT n t b w) := by
  unfold maxLen at hs
  have HR := Lib.hid hr
  clear hr
  obtain ⟨hi, h9, h1, h2⟩ := h
  have H2 := Lib.hid h2
  have H1 := Lib.hid h1
  clear h2 h1
  obtain ⟨m, hmin, hm9, hmi, hmd⟩ : ∃ m : Nat, m ≤ s.size ∧ m ≤ 9 ∧ i < m ∧ (s.size ≤ m ∨ 9 ≤ m) := by
    by_cases h : s.size ≤ 9
    · exact ⟨s.size, by omega, h, by omega, .inl (by omega)⟩
    · exact ⟨9, by omega, by omega, by omega, .inr (by omega)⟩
  have HM := Lib.hid hmd
  clear hmd
  go_enter Tryz.func71, Tryz.ntmps71
  go_wp2
  go_loop [3, 4] (fun l x => ∃ k : Nat, k ≤ m ∧ x = .int .i64 k ∧ ((k ≤ i ∧ l = .int .i64 (-1)) ∨ (i < k ∧ l = .int .i64 i))) (fun _ x => m - (Go.RowKit.intOf x).toNat)
  case atStart => exact ⟨0, Nat.zero_le _, rfl, .inl ⟨Nat.zero_le _, rfl⟩⟩
  case round =>
    obtain ⟨k, hk, rfl, hl⟩ := hrel
    by_cases hlt : k < m
    · rcases hl with ⟨hki, rfl⟩ | ⟨hki, rfl⟩
      · by_cases hke : k = i
        · obtain rfl : i = k := hke.symm
          go_wp2
          · go_round
            case rel => exact ⟨i + 1, by omega, by go_num, .inr ⟨by omega, rfl⟩⟩
            case measure => simp [Go.RowKit.intOf]; omega
          · exfalso
            have := H1.out
            omega
        · have HB := Lib.hid (H2.out k (by omega))
          go_wp2
          · exfalso
            have := HB.out
            omega
          · go_round
            case rel => exact ⟨k + 1, by omega, by go_num, .inl ⟨by omega, rfl⟩⟩
            case measure => simp [Go.RowKit.intOf]; omega
      · go_wp2
        go_round
        case rel => exact ⟨k + 1, by omega, by go_num, .inr ⟨by omega, rfl⟩⟩
        case measure => simp [Go.RowKit.intOf]; omega
    · rcases hl with ⟨hki, rfl⟩ | ⟨hki, rfl⟩
      · exfalso; omega
      · have hkk : k < s.size ∨ s.size ≤ k := by omega
        have hk9 : s.size ≤ k ∨ 9 ≤ k := by rcases HM.out with h | h <;> omega
        have hcs : (k < s.size ∧ 9 ≤ k) ∨ s.size ≤ k := by omega
        clear hkk hk9
        have hd : s.size ≤ k ∨ (k < s.size ∧ decide ((k : Int) < 9) = false) := by
          rcases hcs with h | h
          · right; exact ⟨h.1, by simp; omega⟩
          · left; exact h
        clear hcs
        rcases hd with hc1 | ⟨hc1, hd⟩
        all_goals
          go_wp2
          go_loop [5, 6] (fun x c => ∃ z : Int, -1 ≤ z ∧ z ≤ i ∧ c = .int .i64 z ∧ x = .int .i64 (val ((s.extract 0 (i + 1)).data.toList.drop (z + 1).toNat))) (fun _ c => (Go.RowKit.intOf c + 1).toNat)
          case atStart => exact ⟨i, by omega, by omega, rfl, by rw [List.drop_of_length_le (by have := ext_size s i hi; rw [← ByteArray.size_data] at this; simp; omega)]; rfl⟩
          case round =>
            obtain ⟨z, hz1, hz2, rfl, rfl⟩ := hrel
            by_cases h0 : z = -1
            · subst h0
              have hu : val (s.extract 0 (i + 1)).data.toList < 9223372036854775808 := rd_bd hi h9
              rw [show ((-1 : Int) + 1).toNat = 0 from rfl, List.drop_zero]
              have HR' := Lib.hid (show rdN s i = unf (val (s.extract 0 (i + 1)).data.toList) from rfl)
              generalize hg : val (s.extract 0 (i + 1)).data.toList = u at hu HR'
              clear hg
              rcases HR.out with ⟨hp, hz, rfl, rfl, rfl⟩ | ⟨hz, hm, rfl, rfl, rfl⟩ | ⟨hz, hm, rfl, rfl, rfl⟩
              · have hz0 : (((s[i].toNat : Nat) : Int) == 0) = true := by have := hz hi; simp [this]
                clear hz
                by_cases ho : u % 2 = 1
                · have h1 : (((u : Int) % 2) == 1) = true := by simp; omega
                  go_wp2
                  exact bodyPost_ret (v := .agg #[.int .i64 0, .string ⟨#[]⟩, .int .i64 5]) (by simp [results, Tryz.results71, go_sem]) rfl ⟨rfl, (Below.refl _ _).alloc (Nat.le_refl _) _⟩
                · have h1 : (((u : Int) % 2) == 1) = false := by simp; omega
                  go_wp2
                  exact bodyPost_ret (v := .agg #[.int .i64 0, .string ⟨#[]⟩, .int .i64 5]) (by simp [results, Tryz.results71, go_sem]) rfl ⟨rfl, (Below.refl _ _).alloc (Nat.le_refl _) _⟩
              · have hzz : (((s[i].toNat : Nat) : Int) == 0) = false ∨ ((((s[i].toNat : Nat) : Int) == 0) = true ∧ i ≤ 0) := by
                  rcases hz with hz | ⟨hp, hz⟩
                  · cases hc : (((s[i].toNat : Nat) : Int) == 0) with
                    | false => exact .inl rfl
                    | true => exact .inr ⟨rfl, by omega⟩
                  · left; have := hz hi; simp [this]
                clear hz
                by_cases ho : u % 2 = 1
                · have h1 : (((u : Int) % 2) == 1) = true := by simp; omega
                  have HF := Lib.hid (unf_odd ho)
                  have HMay := Lib.hid (show mayB (-((u : Int) / 2) - 1) = false by rw [← HF.out, ← HR'.out]; exact hm)
                  clear hm
                  rcases hzz with hzz | ⟨hzz, hi0⟩
                  all_goals
                    go_wp2_with (go_at_call 92; refine (May_any _ _).mono ?_; rintro e w' ⟨rfl, rfl⟩; rw [HMay.out])
                    exact bodyPost_ret (v := .agg #[.int .i64 0, .string ⟨#[]⟩, .int .i64 5]) (by simp [results, Tryz.results71, go_sem]) rfl ⟨rfl, (Below.refl _ _).alloc (Nat.le_refl _) _⟩
                · have h1 : (((u : Int) % 2) == 1) = false := by simp; omega
                  have HF := Lib.hid (unf_even ho)
                  have HMay := Lib.hid (show mayB ((u : Int) / 2) = false by rw [← HF.out, ← HR'.out]; exact hm)
                  clear hm
                  rcases hzz with hzz | ⟨hzz, hi0⟩
                  all_goals
                    go_wp2_with (go_at_call 92; refine (May_any _ _).mono ?_; rintro e w' ⟨rfl, rfl⟩; rw [HMay.out])
                    exact bodyPost_ret (v := .agg #[.int .i64 0, .string ⟨#[]⟩, .int .i64 5]) (by simp [results, Tryz.results71, go_sem]) rfl ⟨rfl, (Below.refl _ _).alloc (Nat.le_refl _) _⟩
              · have hzz : (((s[i].toNat : Nat) : Int) == 0) = false ∨ ((((s[i].toNat : Nat) : Int) == 0) = true ∧ i ≤ 0) := by
                  rcases hz with hz | ⟨hp, hz⟩
                  · cases hc : (((s[i].toNat : Nat) : Int) == 0) with
                    | false => exact .inl rfl
                    | true => exact .inr ⟨rfl, by omega⟩
                  · left; have := hz hi; simp [this]
                clear hz
                by_cases ho : u % 2 = 1
                · have h1 : (((u : Int) % 2) == 1) = true := by simp; omega
                  have HF := Lib.hid (unf_odd ho)
                  have HMay := Lib.hid (show mayB (-((u : Int) / 2) - 1) = true by rw [← HF.out, ← HR'.out]; exact hm)
                  clear hm
                  rcases hzz with hzz | ⟨hzz, hi0⟩
                  all_goals
                    go_wp2_with (go_at_call 92; refine (May_any _ _).mono ?_; rintro e w' ⟨rfl, rfl⟩; rw [HMay.out])
                    exact bodyPost_ret (v := .agg #[.int .i64 (-((u : Int) / 2) - 1), .string (s.extract (i + 1) s.size), .int .i64 0]) (by simp [results, Tryz.results71, go_sem]) rfl ⟨by rw [HR'.out, HF.out], (Below.refl _ _).alloc (Nat.le_refl _) _⟩
                · have h1 : (((u : Int) % 2) == 1) = false := by simp; omega
                  have HF := Lib.hid (unf_even ho)
                  have HMay := Lib.hid (show mayB ((u : Int) / 2) = true by rw [← HF.out, ← HR'.out]; exact hm)
                  clear hm
                  rcases hzz with hzz | ⟨hzz, hi0⟩
                  all_goals
                    go_wp2_with (go_at_call 92; refine (May_any _ _).mono ?_; rintro e w' ⟨rfl, rfl⟩; rw [HMay.out])
                    exact bodyPost_ret (v := .agg #[.int .i64 ((u : Int) / 2), .string (s.extract (i + 1) s.size), .int .i64 0]) (by simp [results, Tryz.results71, go_sem]) rfl ⟨by rw [HR'.out, HF.out], (Below.refl _ _).alloc (Nat.le_refl _) _⟩
            · obtain ⟨q, rfl⟩ : ∃ q : Nat, z = q := ⟨z.toNat, by omega⟩
              have hq : q < s.size := by omega
              have hv := Lib.hid (ext_step s i q hi (by omega))
              have hb := ext_step_lt s i q hi h9 (by omega)
              have hbyte : s[q].toNat < 256 := s[q].toNat_lt
              have e1 : ((q : Int) + 1).toNat = q + 1 := by omega
              rw [e1]
              clear e1
              generalize hg : val ((s.extract 0 (i + 1)).data.toList.drop (q + 1)) = V at hb
              have HG := Lib.hid hg
              clear hg
              go_wp2
              go_round
              case rel => exact ⟨(q : Int) - 1, by omega, by omega, rfl, v_int (by rw [show ((q : Int) - 1 + 1).toNat = q by omega, hv.out, HG.out]; omega)⟩
              case measure => simp [Go.RowKit.intOf]
end Go.Proofs.YtlpkalfbcphkmaaGreat
