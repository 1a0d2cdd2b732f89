/-
  Joined: Read, RefNum, Count.
-/
import Derived.Test.YtndakbjmahkjdaaMe
import Derived.Test.YtndakbjmahkjdaaMf
import Derived.WalkSpells
import Derived.Deep.QuietTactic
import Derived.BigQuiet

/-
  Contracts of lastDigit, value, unfold and ReadNumber of package pack.
-/
namespace Go.Proofs.Ytndakbjmahkjdaa
open Go.ChangeShapes Go.WideShapes Go.ChangeAt Go.RowKit Go.Lib

theorem unfold_any (u : Nat) (w : World) (h : u < 9223372036854775808) :
    Calls Try.prog 88 #[.int .u64 u] w fun e w' => e = .returned (.int .i64 (unf u)) ∧ w = w' := by
  by_cases ho : u % 2 = 1
  · have h1 : (((u : Int) % 2) == 1) = true := by simp; omega
    go_enter Try.func88, Try.ntmps88
    go_wp2
    go_ret
    exact ⟨ret_int (by unfold unf; rw [if_pos ho]; omega), rfl⟩
  · have h1 : (((u : Int) % 2) == 1) = false := by simp; omega
    go_enter Try.func88, Try.ntmps88
    go_wp2
    go_ret
    exact ⟨ret_int (by unfold unf; rw [if_neg ho]; omega), rfl⟩

set_option maxHeartbeats 400000 in
theorem value_any (s : ByteArray) (w : World) (h9 : s.size ≤ 9) :
    Calls Try.prog 89 #[.string s] w fun e w' => e = .returned (.int .u64 (val s.data.toList)) ∧ w = w' := by
  go_enter Try.func89, Try.ntmps89
  go_wp2
  go_loop [3, 4] (fun x i => ∃ z : Int, -1 ≤ z ∧ z < s.size ∧ i = .int .i64 z ∧ x = .int .u64 (val (s.data.toList.drop (z + 1).toNat))) (fun _ i => (Go.RowKit.intOf i + 1).toNat)
  case atStart => exact ⟨(s.size : Int) - 1, by omega, by omega, rfl, by rw [List.drop_of_length_le (by simp)]; rfl⟩
  case round =>
    obtain ⟨z, hz1, hz2, rfl, rfl⟩ := hrel
    by_cases h0 : z = -1
    · subst h0
      go_wp2
      go_ret
      exact ⟨rfl, rfl⟩
    · obtain ⟨m, rfl⟩ : ∃ m : Nat, z = m := ⟨z.toNat, by omega⟩
      have hm : m < s.size := by omega
      have hv := Lib.hid (val_step s m hm)
      have hb := val_step_lt s m hm h9
      have hbyte : s[m].toNat < 256 := s[m].toNat_lt
      have e1 : ((m : Int) + 1).toNat = m + 1 := by omega
      rw [e1]
      clear e1
      generalize hg : val (s.data.toList.drop (m + 1)) = V at hb
      have HG := Lib.hid hg
      clear hg
      go_wp2
      go_round
      case rel => exact ⟨(m : Int) - 1, by omega, by omega, rfl, v_int (by rw [show ((m : Int) - 1 + 1).toNat = m by omega, hv.out, HG.out]; omega)⟩
      case measure => simp [Go.RowKit.intOf]

set_option maxHeartbeats 400000 in
set_option maxRecDepth 100000 in
theorem lastDigit_yes (s : ByteArray) (i : Nat) (w : World) (h : IsLast s i) (hs : s.size ≤ maxLen) :
    Calls Try.prog 87 #[.string s] w (TwoI i 0 w) := by
  unfold maxLen at hs
  obtain ⟨hi, h9, h1, h2⟩ := h
  have H2 := Lib.hid h2
  have H1 := Lib.hid h1
  clear h2 h1
  by_cases hmin : s.size ≤ 9
  all_goals
    go_enter Try.func87, Try.ntmps87
    go_wp2
    go_loop [8] (fun x => ∃ k : Nat, k ≤ i ∧ x = .int .i64 k) (fun x => i + 1 - (Go.RowKit.intOf x).toNat)
    case atStart => exact ⟨0, Nat.zero_le _, rfl⟩
    case round =>
      obtain ⟨k, hk, rfl⟩ := hrel
      by_cases hlt : k < i
      · have HB := Lib.hid (H2.out k hlt)
        go_wp2
        · exfalso
          have := HB.out
          omega
        · go_round
          case rel => exact ⟨k + 1, by omega, by go_num⟩
          case measure => simp [Go.RowKit.intOf]; omega
      · obtain rfl : i = k := by omega
        go_wp2
        · go_ret2
          exact ⟨rfl, rfl⟩
        · exfalso
          have := H1.out
          omega

def shortE (s : ByteArray) : Int := if s.size < 9 then 4 else 3
set_option maxHeartbeats 400000 in
set_option maxRecDepth 100000 in
theorem lastDigit_no (s : ByteArray) (w : World) (h : NoLast s) (hs : s.size ≤ maxLen) :
    Calls Try.prog 87 #[.string s] w (TwoI 0 (shortE s) w) := by
  unfold maxLen at hs
  have H2 := Lib.hid h
  clear h
  have hm : s.size < 9 ∨ s.size = 9 ∨ 9 < s.size := by omega
  obtain ⟨m, hmin, hm9, hmd⟩ : ∃ m : Nat, m ≤ s.size ∧ m ≤ 9 ∧ ((m = s.size ∧ s.size ≤ 9) ∨ (m = 9 ∧ 9 < s.size)) := by
    by_cases h : s.size ≤ 9
    · exact ⟨s.size, by omega, h, .inl ⟨rfl, h⟩⟩
    · exact ⟨9, by omega, by omega, .inr ⟨rfl, by omega⟩⟩
  rcases hmd with ⟨rfl, hc⟩ | ⟨rfl, hc⟩
  all_goals
    go_enter Try.func87, Try.ntmps87
    go_wp2
  · go_loop [8] (fun x => ∃ k : Nat, k ≤ s.size ∧ x = .int .i64 k) (fun x => s.size - (Go.RowKit.intOf x).toNat)
    case atStart => exact ⟨0, Nat.zero_le _, rfl⟩
    case round =>
      obtain ⟨k, hk, rfl⟩ := hrel
      by_cases hlt : k < s.size
      · have HB := Lib.hid (H2.out k hlt (by omega))
        go_wp2
        · exfalso
          have := HB.out
          omega
        · go_round
          case rel => exact ⟨k + 1, by omega, by go_num⟩
          case measure => simp [Go.RowKit.intOf]; omega
      · by_cases h9 : s.size < 9
        · go_wp2
          go_ret2
          exact two_i rfl (by unfold shortE; rw [if_pos h9])
        · go_wp2
          go_ret2
          exact two_i rfl (by unfold shortE; rw [if_neg h9])
  · go_loop [8] (fun x => ∃ k : Nat, k ≤ 9 ∧ x = .int .i64 k) (fun x => 9 - (Go.RowKit.intOf x).toNat)
    case atStart => exact ⟨0, Nat.zero_le _, rfl⟩
    case round =>
      obtain ⟨k, hk, rfl⟩ := hrel
      by_cases hlt : k < 9
      · have hks : k < s.size := by omega
        have HB := Lib.hid (H2.out k hks hlt)
        go_wp2
        · exfalso
          have := HB.out
          omega
        · go_round
          case rel => exact ⟨k + 1, by omega, by go_num⟩
          case measure => simp [Go.RowKit.intOf]; omega
      · go_wp2
        go_ret2
        exact two_i rfl (by unfold shortE; rw [if_neg (by omega)])

/-- A number, a text and an error are returned; the world is as it was, but for draws. -/
def ThreeS (n : Int) (t : ByteArray) (b : Int) (w : World) (e : Ending) (w' : World) : Prop := e = .returned (.tuple #[.int .i64 n, .string t, .int .i64 b]) ∧ Below w.heap.size w w'

/-- The number whose last digit is at place i. -/
def rdN (s : ByteArray) (i : Nat) : Int := unf (val (s.extract 0 (i + 1)).data.toList)

set_option maxHeartbeats 400000 in
set_option maxRecDepth 100000 in
theorem ReadNumber_short (s : ByteArray) (w : World) (h : NoLast s) (hs : s.size ≤ maxLen) : Calls Try.prog 84 #[.string s] w (ThreeS 0 ⟨#[]⟩ (shortE s) w) := by
  obtain ⟨e1, he, hx⟩ : ∃ e1 : Int, shortE s = e1 ∧ (e1 != 0) = true := ⟨_, rfl, by unfold shortE; split <;> rfl⟩
  have HL := Lib.hid (fun W => lastDigit_no s W h hs)
  rw [he] at HL ⊢
  clear he h hs
  go_enter Try.func84, Try.ntmps84
  go_wp2_with (go_at_call 87; refine (HL.out _).mono ?_; rintro e w' ⟨rfl, rfl⟩)
  go_ret3
  exact ⟨rfl, Below.refl _ _⟩

set_option maxHeartbeats 400000 in
set_option maxRecDepth 100000 in
theorem ReadNumber_zero (s : ByteArray) (i : Nat) (w : World) (h : IsLast s i) (h0 : 0 < i) (hz : ∀ hi : i < s.size, s[i].toNat = 0) (hs : s.size ≤ maxLen) : Calls Try.prog 84 #[.string s] w (ThreeS 0 ⟨#[]⟩ 5 w) := by
  have HL := Lib.hid (fun W => lastDigit_yes s i W h hs)
  obtain ⟨hi, h9, h3, h4⟩ := h
  have hz0 : (((s[i].toNat : Nat) : Int) == 0) = true := by have := hz hi; simp [this]
  clear hz h3 h4
  go_enter Try.func84, Try.ntmps84
  go_wp2_with (go_at_call 87; refine (HL.out _).mono ?_; rintro e w' ⟨rfl, rfl⟩)
  go_ret3
  exact ⟨rfl, Below.refl _ _⟩

theorem extract_size0 (s : ByteArray) (i : Nat) (h : i < s.size) : (s.extract 0 (i + 1)).size = i + 1 := by
  rw [ByteArray.size_extract]; omega
theorem rd_bd {s : ByteArray} {i : Nat} (h : i < s.size) (h9 : i < 9) : val (s.extract 0 (i + 1)).data.toList < 9223372036854775808 :=
  val_lt9 _ (by have := extract_size0 s i h; rw [← ByteArray.size_data] at this; simp; omega)

theorem read_parts (s : ByteArray) (i : Nat) (hi : i < s.size) (h9 : i < 9) : ∃ (u : Nat) (n : Int), n = rdN s i ∧ u < 9223372036854775808 ∧
    Hid (∀ W, Calls Try.prog 89 #[.string (s.extract 0 (i + 1))] W fun e w' => e = .returned (.int .u64 u) ∧ W = w') ∧
    Hid (∀ W, Calls Try.prog 88 #[.int .u64 u] W fun e w' => e = .returned (.int .i64 n) ∧ W = w') ∧
    Hid (∀ W, Calls Try.prog 79 #[.int .i64 n] W fun e w' => e = .returned (.bool (mayB n)) ∧ W = w') :=
  ⟨val (s.extract 0 (i + 1)).data.toList, rdN s i, rfl, rd_bd hi h9, fun W => value_any (s.extract 0 (i + 1)) W (by rw [extract_size0 s i hi]; omega), fun W => unfold_any _ W (rd_bd hi h9), fun W => mayBe_any (rdN s i) W⟩

set_option maxHeartbeats 1000000 in
set_option maxRecDepth 100000 in
theorem ReadNumber_far (s : ByteArray) (i : Nat) (w : World) (h : IsLast s i) (hz : i = 0 ∨ (0 < i ∧ ∀ hi : i < s.size, s[i].toNat ≠ 0)) (hm : mayB (rdN s i) = false) (hs : s.size ≤ maxLen) :
    Calls Try.prog 84 #[.string s] w (ThreeS 0 ⟨#[]⟩ 5 w) := by
  have HL := Lib.hid (fun W => lastDigit_yes s i W h hs)
  obtain ⟨hi, h9, h3, h4⟩ := h
  unfold maxLen at hs
  clear h3 h4
  obtain ⟨u, n, hn, hub, HV, HU, HM⟩ := read_parts s i hi h9
  rw [← hn] at hm
  rw [hm] at HM
  clear hm
  clear hn
  rcases hz with hz | ⟨h0, hz⟩
  · have hz0 : i ≤ 0 := by omega
    clear hz
    go_enter Try.func84, Try.ntmps84
    go_wp2_with (first
      | (go_at_call 87; (with_reducible refine (HL.out _).mono ?_); rintro e w' ⟨rfl, rfl⟩)
      | (go_at_call 89; (with_reducible refine (HV.out _).mono ?_); rintro e w' ⟨rfl, rfl⟩)
      | (go_at_call 88; (with_reducible refine (HU.out _).mono ?_); rintro e w' ⟨rfl, rfl⟩)
      | (go_at_call 79; (with_reducible refine (HM.out _).mono ?_); rintro e w' ⟨rfl, rfl⟩))
    go_ret3
    exact ⟨rfl, Below.refl _ _⟩
  · have hz0 : (((s[i].toNat : Nat) : Int) == 0) = false := by have := hz hi; simp [this]
    clear hz
    go_enter Try.func84, Try.ntmps84
    go_wp2_with (first
      | (go_at_call 87; (with_reducible refine (HL.out _).mono ?_); rintro e w' ⟨rfl, rfl⟩)
      | (go_at_call 89; (with_reducible refine (HV.out _).mono ?_); rintro e w' ⟨rfl, rfl⟩)
      | (go_at_call 88; (with_reducible refine (HU.out _).mono ?_); rintro e w' ⟨rfl, rfl⟩)
      | (go_at_call 79; (with_reducible refine (HM.out _).mono ?_); rintro e w' ⟨rfl, rfl⟩))
    go_ret3
    exact ⟨rfl, Below.refl _ _⟩

set_option maxHeartbeats 1000000 in
set_option maxRecDepth 100000 in
theorem ReadNumber_yes (s : ByteArray) (i : Nat) (w : World) (h : IsLast s i) (hz : i = 0 ∨ (0 < i ∧ ∀ hi : i < s.size, s[i].toNat ≠ 0)) (hm : mayB (rdN s i) = true) (hs : s.size ≤ maxLen) :
    Calls Try.prog 84 #[.string s] w (ThreeS (rdN s i) (s.extract (i + 1) s.size) 0 w) := by
  have HL := Lib.hid (fun W => lastDigit_yes s i W h hs)
  obtain ⟨hi, h9, h3, h4⟩ := h
  unfold maxLen at hs
  clear h3 h4
  obtain ⟨u, n, hn, hub, HV, HU, HM⟩ := read_parts s i hi h9
  rw [← hn] at hm
  rw [hm] at HM
  clear hm
  rw [← hn]
  clear hn
  rcases hz with hz | ⟨h0, hz⟩
  · have hz0 : i ≤ 0 := by omega
    clear hz
    go_enter Try.func84, Try.ntmps84
    go_wp2_with (first
      | (go_at_call 87; (with_reducible refine (HL.out _).mono ?_); rintro e w' ⟨rfl, rfl⟩)
      | (go_at_call 89; (with_reducible refine (HV.out _).mono ?_); rintro e w' ⟨rfl, rfl⟩)
      | (go_at_call 88; (with_reducible refine (HU.out _).mono ?_); rintro e w' ⟨rfl, rfl⟩)
      | (go_at_call 79; (with_reducible refine (HM.out _).mono ?_); rintro e w' ⟨rfl, rfl⟩))
    go_quiet (fail)
    go_wp2
    go_ret3
    exact ⟨rfl, bel_drewN _ _⟩
  · have hz0 : (((s[i].toNat : Nat) : Int) == 0) = false := by have := hz hi; simp [this]
    clear hz
    go_enter Try.func84, Try.ntmps84
    go_wp2_with (first
      | (go_at_call 87; (with_reducible refine (HL.out _).mono ?_); rintro e w' ⟨rfl, rfl⟩)
      | (go_at_call 89; (with_reducible refine (HV.out _).mono ?_); rintro e w' ⟨rfl, rfl⟩)
      | (go_at_call 88; (with_reducible refine (HU.out _).mono ?_); rintro e w' ⟨rfl, rfl⟩)
      | (go_at_call 79; (with_reducible refine (HM.out _).mono ?_); rintro e w' ⟨rfl, rfl⟩))
    go_quiet (fail)
    go_wp2
    go_ret3
    exact ⟨rfl, bel_drewN _ _⟩
end Go.Proofs.Ytndakbjmahkjdaa

/-
  Contracts of the reference's Number and ReadNumber.
-/
namespace Go.Proofs.Ytndakbjmahkjdaa
open Go.ChangeShapes Go.WideShapes Go.ChangeAt Go.RowKit Go.Lib

def StructT (n : Int) (t : ByteArray) (b : Int) (w : World) (e : Ending) (w' : World) : Prop := e = .returned (.agg #[.int .i64 n, .string t, .int .i64 b]) ∧ Below w.heap.size w w'

/-- What the text s, whose last digit is at place i, is read as. -/
def ReadAs (s : ByteArray) (i : Nat) (n : Int) (t : ByteArray) (b : Int) : Prop :=
  (0 < i ∧ (∀ hi : i < s.size, s[i].toNat = 0) ∧ n = 0 ∧ t = ⟨#[]⟩ ∧ b = 5) ∨
  ((i = 0 ∨ (0 < i ∧ ∀ hi : i < s.size, s[i].toNat ≠ 0)) ∧ mayB (rdN s i) = false ∧ n = 0 ∧ t = ⟨#[]⟩ ∧ b = 5) ∨
  ((i = 0 ∨ (0 < i ∧ ∀ hi : i < s.size, s[i].toNat ≠ 0)) ∧ mayB (rdN s i) = true ∧ n = rdN s i ∧ t = s.extract (i + 1) s.size ∧ b = 0)

theorem unf_odd {u : Nat} (h : u % 2 = 1) : unf u = -((u : Int) / 2) - 1 := by unfold unf; rw [if_pos h]; omega
theorem unf_even {u : Nat} (h : ¬ u % 2 = 1) : unf u = (u : Int) / 2 := by unfold unf; rw [if_neg h]; omega

theorem readAs_some (s : ByteArray) (i : Nat) (hi : i < s.size) : ∃ n t b, ReadAs s i n t b := by
  unfold ReadAs
  by_cases h : 0 < i ∧ s[i].toNat = 0
  · exact ⟨_, _, _, .inl ⟨h.1, fun _ => h.2, rfl, rfl, rfl⟩⟩
  · have hz : i = 0 ∨ (0 < i ∧ ∀ hi : i < s.size, s[i].toNat ≠ 0) := by
      by_cases h0 : i = 0
      · exact .inl h0
      · exact .inr ⟨by omega, fun _ hc => h ⟨by omega, hc⟩⟩
    cases hm : mayB (rdN s i) with
    | false => exact ⟨_, _, _, .inr (.inl ⟨hz, rfl, rfl, rfl, rfl⟩)⟩
    | true => exact ⟨_, _, _, .inr (.inr ⟨hz, rfl, rfl, rfl, rfl⟩)⟩

theorem ReadNumber_as {s : ByteArray} {i : Nat} (w : World) (h : IsLast s i) {n : Int} {t : ByteArray} {b : Int} (hr : ReadAs s i n t b) (hs : s.size ≤ maxLen) :
    Calls Try.prog 84 #[.string s] w (ThreeS n t b w) := by
  rcases hr with ⟨h0, hz, rfl, rfl, rfl⟩ | ⟨hz, hm, rfl, rfl, rfl⟩ | ⟨hz, hm, rfl, rfl, rfl⟩
  · exact ReadNumber_zero s i w h h0 hz hs
  · exact ReadNumber_far s i w h hz hm hs
  · exact ReadNumber_yes s i w h hz hm hs

end Go.Proofs.Ytndakbjmahkjdaa

/-
  What a text is read as (a relation over bytes), and the contracts of readCount and readText of package pack, and of the reference's count, over it.
-/
namespace Go.Proofs.Ytndakbjmahkjdaa
open Go.ChangeShapes Go.WideShapes Go.ChangeAt Go.RowKit Go.Lib

/-- The text s is read as the number n with t behind it, or refused with b. -/
def Rd (s : ByteArray) (n : Int) (t : ByteArray) (b : Int) : Prop :=
  (NoLast s ∧ n = 0 ∧ t = ⟨#[]⟩ ∧ b = shortE s) ∨ ∃ i, IsLast s i ∧ ReadAs s i n t b

theorem rd_some (s : ByteArray) : ∃ n t b, Rd s n t b := by
  rcases last_or s with ⟨i, hi⟩ | h
  · obtain ⟨n, t, b, hr⟩ := readAs_some s i hi.1
    exact ⟨n, t, b, .inr ⟨i, hi, hr⟩⟩
  · exact ⟨_, _, _, .inl ⟨h, rfl, rfl, rfl⟩⟩
theorem shortE_cases (s : ByteArray) : shortE s = 3 ∨ shortE s = 4 := by unfold shortE; split <;> simp
theorem rd_bad {s : ByteArray} {n : Int} {t : ByteArray} {b : Int} (h : Rd s n t b) (hb : b ≠ 0) : n = 0 ∧ t = ⟨#[]⟩ ∧ 1 ≤ b ∧ b ≤ 5 := by
  rcases h with ⟨_, h1, h2, h3⟩ | ⟨i, _, hr⟩
  · rcases shortE_cases s with h | h <;> exact ⟨h1, h2, by omega, by omega⟩
  · rcases hr with ⟨_, _, h1, h2, h3⟩ | ⟨_, _, h1, h2, h3⟩ | ⟨_, _, h1, h2, h3⟩
    · exact ⟨h1, h2, by omega, by omega⟩
    · exact ⟨h1, h2, by omega, by omega⟩
    · exact absurd h3 hb
theorem rd_good {s : ByteArray} {n : Int} {t : ByteArray} (h : Rd s n t 0) : ∃ i, IsLast s i ∧ (i = 0 ∨ (0 < i ∧ ∀ hi : i < s.size, s[i].toNat ≠ 0)) ∧ mayB (rdN s i) = true ∧ n = rdN s i ∧ t = s.extract (i + 1) s.size := by
  rcases h with ⟨_, _, _, h3⟩ | ⟨i, hi, hr⟩
  · rcases shortE_cases s with h | h <;> omega
  · rcases hr with ⟨_, _, _, _, h3⟩ | ⟨_, _, _, _, h3⟩ | ⟨h1, h2, h3, h4, _⟩
    · omega
    · omega
    · exact ⟨i, hi, h1, h2, h3, h4⟩
theorem rd_size {s : ByteArray} {n : Int} {t : ByteArray} {b : Int} (h : Rd s n t b) : t.size ≤ s.size ∧ -1152921504606846976 ≤ n ∧ n ≤ 1152921504606846976 := by
  by_cases hb : b = 0
  · subst hb
    obtain ⟨i, hi, _, hm, rfl, rfl⟩ := rd_good h
    have := mayB_t.1 hm
    exact ⟨by rw [ByteArray.size_extract]; omega, this.1, this.2⟩
  · obtain ⟨rfl, rfl, _, _⟩ := rd_bad h hb
    exact ⟨Nat.zero_le _, by omega, by omega⟩

theorem ReadNumber_rd {s : ByteArray} {n : Int} {t : ByteArray} {b : Int} (h : Rd s n t b) (hs : s.size ≤ maxLen) (w : World) : Calls Try.prog 84 #[.string s] w (ThreeS n t b w) := by
  rcases h with ⟨h, rfl, rfl, rfl⟩ | ⟨i, hi, hr⟩
  · exact ReadNumber_short s w h hs
  · exact ReadNumber_as w hi hr hs
/-- The text s is read as a count n, at most most, with t behind it, or refused with b. -/
def RdCount (most : Int) (s : ByteArray) (n : Int) (t : ByteArray) (b : Int) : Prop :=
  ∃ n0 t0 b0, Rd s n0 t0 b0 ∧ ((b0 ≠ 0 ∧ n = 0 ∧ t = ⟨#[]⟩ ∧ b = b0) ∨ (b0 = 0 ∧ most < n0 ∧ n = 0 ∧ t = ⟨#[]⟩ ∧ b = 3) ∨ (b0 = 0 ∧ n0 ≤ most ∧ n0 < 0 ∧ n = 0 ∧ t = ⟨#[]⟩ ∧ b = 5) ∨ (b0 = 0 ∧ n0 ≤ most ∧ 0 ≤ n0 ∧ n = n0 ∧ t = t0 ∧ b = 0))

theorem rdCount_some (most : Int) (s : ByteArray) : ∃ n t b, RdCount most s n t b := by
  obtain ⟨n, t, b, h⟩ := rd_some s
  by_cases hb : b = 0
  · by_cases h1 : most < n
    · exact ⟨_, _, _, n, t, b, h, .inr (.inl ⟨hb, h1, rfl, rfl, rfl⟩)⟩
    · by_cases h2 : n < 0
      · exact ⟨_, _, _, n, t, b, h, .inr (.inr (.inl ⟨hb, by omega, h2, rfl, rfl, rfl⟩))⟩
      · exact ⟨_, _, _, n, t, b, h, .inr (.inr (.inr ⟨hb, by omega, by omega, rfl, rfl, rfl⟩))⟩
  · exact ⟨_, _, _, n, t, b, h, .inl ⟨hb, rfl, rfl, rfl⟩⟩

/-- The cells of a block of three that lay there before a call are as they were. -/
theorem three_cells {W x1 : World} {c0 c1 c2 : Value} {T : TypeId} (hb : Below (W.alloc (.cells #[c0, c1, c2] T)).heap.size (W.alloc (.cells #[c0, c1, c2] T)) x1) :
    x1.cell? ⟨W.heap.size, 0, none⟩ = some c0 ∧ x1.cell? ⟨W.heap.size, 1, none⟩ = some c1 ∧ x1.cell? ⟨W.heap.size, 2, none⟩ = some c2 ∧
    x1.frozen? ⟨W.heap.size, 0, none⟩ = false ∧ x1.frozen? ⟨W.heap.size, 1, none⟩ = false ∧ x1.frozen? ⟨W.heap.size, 2, none⟩ = false ∧ W.heap.size < x1.heap.size := by
  have hs := hb.size
  have hs' : (W.alloc (.cells #[c0, c1, c2] T)).heap.size = W.heap.size + 1 := by simp
  refine ⟨?_, ?_, ?_, ?_, ?_, ?_, by omega⟩
  · rw [hb.cell (by show W.heap.size < _; omega)]; simp
  · rw [hb.cell (by show W.heap.size < _; omega)]; simp
  · rw [hb.cell (by show W.heap.size < _; omega)]; simp
  · rw [hb.frozen (by show W.heap.size < _; omega)]; simp
  · rw [hb.frozen (by show W.heap.size < _; omega)]; simp
  · rw [hb.frozen (by show W.heap.size < _; omega)]; simp

theorem count_below {w x1 : World} {o : Obj} (h : Below (w.alloc o).heap.size (w.alloc o) x1) (u0 u1 u2 : Value) (o' : Obj) :
    Below w.heap.size w ((((x1.setCell ⟨w.heap.size, 0, none⟩ u0).setCell ⟨w.heap.size, 1, none⟩ u1).setCell ⟨w.heap.size, 2, none⟩ u2).alloc o') := by
  have hs := h.size
  have hs' : (w.alloc o).heap.size = w.heap.size + 1 := by simp
  exact ((((((Below.refl _ _).alloc (Nat.le_refl _) o).trans (h.mono (by omega))).setCell (Nat.le_refl _) u0).setCell (Nat.le_refl _) u1).setCell (Nat.le_refl _) u2).alloc (by simp; omega) o'

end Go.Proofs.Ytndakbjmahkjdaa
