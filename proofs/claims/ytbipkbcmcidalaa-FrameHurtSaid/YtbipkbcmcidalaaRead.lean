/-
  Contracts of lastDigit, value, unfold and ReadNumber of package pack.
-/
import Derived.Test.YtbipkbcmcidalaaSmall
import Derived.Test.YtbipkbcmcidalaaSums
import Derived.Test.YtbipkbcmcidalaaVal
import Derived.WalkSpells
import Derived.Deep.QuietTactic
import Derived.BigQuiet
namespace Go.Proofs.Ytbipkbcmcidalaa
open Go.ChangeShapes Go.WideShapes Go.ChangeAt Go.RowKit Go.Lib

theorem unfold_any (u : Nat) (w : World) (h : u < 9223372036854775808) :
    Calls Try.prog 39 #[.int .u64 u] w fun e w' => e = .returned (.int .i64 (unf u)) ∧ w = w' := by
  by_cases ho : u % 2 = 1
  · have h1 : (((u : Int) % 2) == 1) = true := by simp; omega
    go_enter Try.func39, Try.ntmps39
    go_wp2
    go_ret
    exact ⟨ret_int (by unfold unf; rw [if_pos ho]; omega), rfl⟩
  · have h1 : (((u : Int) % 2) == 1) = false := by simp; omega
    go_enter Try.func39, Try.ntmps39
    go_wp2
    go_ret
    exact ⟨ret_int (by unfold unf; rw [if_neg ho]; omega), rfl⟩

set_option maxHeartbeats 400000 in
theorem value_any (s : ByteArray) (w : World) (h9 : s.size ≤ 9) :
    Calls Try.prog 40 #[.string s] w fun e w' => e = .returned (.int .u64 (val s.data.toList)) ∧ w = w' := by
  go_enter Try.func40, Try.ntmps40
  go_wp2
  go_loop [3, 4] (fun x i => ∃ z : Int, -1 ≤ z ∧ z < s.size ∧ i = .int .i64 z ∧ x = .int .u64 (val (s.data.toList.drop (z + 1).toNat))) (fun _ i => (intOf i + 1).toNat)
  case atStart => exact ⟨(s.size : Int) - 1, by omega, by omega, rfl, by rw [List.drop_of_length_le (by simp)]; rfl⟩
  case round =>
    obtain ⟨z, hz1, hz2, rfl, rfl⟩ := hrel
    by_cases h0 : z = -1
    · subst h0
      go_wp2
      go_ret
      exact ⟨rfl, rfl⟩
    · obtain ⟨m, rfl⟩ : ∃ m : Nat, z = m := ⟨z.toNat, by omega⟩
      have hm : m < s.size := by omega
      have hv := Lib.hid (val_step s m hm)
      have hb := val_step_lt s m hm h9
      have hbyte : s[m].toNat < 256 := s[m].toNat_lt
      have e1 : ((m : Int) + 1).toNat = m + 1 := by omega
      rw [e1]
      clear e1
      generalize hg : val (s.data.toList.drop (m + 1)) = V at hb
      have HG := Lib.hid hg
      clear hg
      go_wp2
      go_round
      case rel => exact ⟨(m : Int) - 1, by omega, by omega, rfl, v_int (by rw [show ((m : Int) - 1 + 1).toNat = m by omega, hv.out, HG.out]; omega)⟩
      case measure => simp [intOf]

set_option maxHeartbeats 400000 in
set_option maxRecDepth 100000 in
theorem lastDigit_yes (s : ByteArray) (i : Nat) (w : World) (h : IsLast s i) (hs : s.size ≤ maxLen) :
    Calls Try.prog 38 #[.string s] w (TwoI i 0 w) := by
  unfold maxLen at hs
  obtain ⟨hi, h9, h1, h2⟩ := h
  have H2 := Lib.hid h2
  have H1 := Lib.hid h1
  clear h2 h1
  by_cases hmin : s.size ≤ 9
  all_goals
    go_enter Try.func38, Try.ntmps38
    go_wp2
    go_loop [8] (fun x => ∃ k : Nat, k ≤ i ∧ x = .int .i64 k) (fun x => i + 1 - (intOf x).toNat)
    case atStart => exact ⟨0, Nat.zero_le _, rfl⟩
    case round =>
      obtain ⟨k, hk, rfl⟩ := hrel
      by_cases hlt : k < i
      · have HB := Lib.hid (H2.out k hlt)
        go_wp2
        · exfalso
          have := HB.out
          omega
        · go_round
          case rel => exact ⟨k + 1, by omega, by go_num⟩
          case measure => simp [intOf]; omega
      · obtain rfl : i = k := by omega
        go_wp2
        · go_ret2
          exact ⟨rfl, rfl⟩
        · exfalso
          have := H1.out
          omega

def shortE (s : ByteArray) : Int := if s.size < 9 then 4 else 3
set_option maxHeartbeats 400000 in
set_option maxRecDepth 100000 in
theorem lastDigit_no (s : ByteArray) (w : World) (h : NoLast s) (hs : s.size ≤ maxLen) :
    Calls Try.prog 38 #[.string s] w (TwoI 0 (shortE s) w) := by
  unfold maxLen at hs
  have H2 := Lib.hid h
  clear h
  have hm : s.size < 9 ∨ s.size = 9 ∨ 9 < s.size := by omega
  obtain ⟨m, hmin, hm9, hmd⟩ : ∃ m : Nat, m ≤ s.size ∧ m ≤ 9 ∧ ((m = s.size ∧ s.size ≤ 9) ∨ (m = 9 ∧ 9 < s.size)) := by
    by_cases h : s.size ≤ 9
    · exact ⟨s.size, by omega, h, .inl ⟨rfl, h⟩⟩
    · exact ⟨9, by omega, by omega, .inr ⟨rfl, by omega⟩⟩
  rcases hmd with ⟨rfl, hc⟩ | ⟨rfl, hc⟩
  all_goals
    go_enter Try.func38, Try.ntmps38
    go_wp2
  · go_loop [8] (fun x => ∃ k : Nat, k ≤ s.size ∧ x = .int .i64 k) (fun x => s.size - (intOf x).toNat)
    case atStart => exact ⟨0, Nat.zero_le _, rfl⟩
    case round =>
      obtain ⟨k, hk, rfl⟩ := hrel
      by_cases hlt : k < s.size
      · have HB := Lib.hid (H2.out k hlt (by omega))
        go_wp2
        · exfalso
          have := HB.out
          omega
        · go_round
          case rel => exact ⟨k + 1, by omega, by go_num⟩
          case measure => simp [intOf]; omega
      · by_cases h9 : s.size < 9
        · go_wp2
          go_ret2
          exact two_i rfl (by unfold shortE; rw [if_pos h9])
        · go_wp2
          go_ret2
          exact two_i rfl (by unfold shortE; rw [if_neg h9])
  · go_loop [8] (fun x => ∃ k : Nat, k ≤ 9 ∧ x = .int .i64 k) (fun x => 9 - (intOf x).toNat)
    case atStart => exact ⟨0, Nat.zero_le _, rfl⟩
    case round =>
      obtain ⟨k, hk, rfl⟩ := hrel
      by_cases hlt : k < 9
      · have hks : k < s.size := by omega
        have HB := Lib.hid (H2.out k hks hlt)
        go_wp2
        · exfalso
          have := HB.out
          omega
        · go_round
          case rel => exact ⟨k + 1, by omega, by go_num⟩
          case measure => simp [intOf]; omega
      · go_wp2
        go_ret2
        exact two_i rfl (by unfold shortE; rw [if_neg (by omega)])

/-- A number, a text and an error are returned; the world is as it was, but for draws. -/
def ThreeS (n : Int) (t : ByteArray) (b : Int) (w : World) (e : Ending) (w' : World) : Prop := e = .returned (.tuple #[.int .i64 n, .string t, .int .i64 b]) ∧ Below w.heap.size w w'

/-- The number whose last digit is at place i. -/
def rdN (s : ByteArray) (i : Nat) : Int := unf (val (s.extract 0 (i + 1)).data.toList)

set_option maxHeartbeats 400000 in
set_option maxRecDepth 100000 in
theorem ReadNumber_short (s : ByteArray) (w : World) (h : NoLast s) (hs : s.size ≤ maxLen) : Calls Try.prog 34 #[.string s] w (ThreeS 0 ⟨#[]⟩ (shortE s) w) := by
  obtain ⟨e1, he, hx⟩ : ∃ e1 : Int, shortE s = e1 ∧ (e1 != 0) = true := ⟨_, rfl, by unfold shortE; split <;> rfl⟩
  have HL := Lib.hid (fun W => lastDigit_no s W h hs)
  rw [he] at HL ⊢
  clear he h hs
  go_enter Try.func34, Try.ntmps34
  go_wp2_with (go_at_call 38; refine (HL.out _).mono ?_; rintro e w' ⟨rfl, rfl⟩)
  go_ret3
  exact ⟨rfl, Below.refl _ _⟩

set_option maxHeartbeats 400000 in
set_option maxRecDepth 100000 in
theorem ReadNumber_zero (s : ByteArray) (i : Nat) (w : World) (h : IsLast s i) (h0 : 0 < i) (hz : ∀ hi : i < s.size, s[i].toNat = 0) (hs : s.size ≤ maxLen) : Calls Try.prog 34 #[.string s] w (ThreeS 0 ⟨#[]⟩ 5 w) := by
  have HL := Lib.hid (fun W => lastDigit_yes s i W h hs)
  obtain ⟨hi, h9, h3, h4⟩ := h
  have hz0 : (((s[i].toNat : Nat) : Int) == 0) = true := by have := hz hi; simp [this]
  clear hz h3 h4
  go_enter Try.func34, Try.ntmps34
  go_wp2_with (go_at_call 38; refine (HL.out _).mono ?_; rintro e w' ⟨rfl, rfl⟩)
  go_ret3
  exact ⟨rfl, Below.refl _ _⟩

theorem extract_size0 (s : ByteArray) (i : Nat) (h : i < s.size) : (s.extract 0 (i + 1)).size = i + 1 := by
  rw [ByteArray.size_extract]; omega
theorem rd_bd {s : ByteArray} {i : Nat} (h : i < s.size) (h9 : i < 9) : val (s.extract 0 (i + 1)).data.toList < 9223372036854775808 :=
  val_lt9 _ (by have := extract_size0 s i h; rw [← ByteArray.size_data] at this; simp; omega)

theorem read_parts (s : ByteArray) (i : Nat) (hi : i < s.size) (h9 : i < 9) : ∃ (u : Nat) (n : Int), n = rdN s i ∧ u < 9223372036854775808 ∧
    Hid (∀ W, Calls Try.prog 40 #[.string (s.extract 0 (i + 1))] W fun e w' => e = .returned (.int .u64 u) ∧ W = w') ∧
    Hid (∀ W, Calls Try.prog 39 #[.int .u64 u] W fun e w' => e = .returned (.int .i64 n) ∧ W = w') ∧
    Hid (∀ W, Calls Try.prog 25 #[.int .i64 n] W fun e w' => e = .returned (.bool (mayB n)) ∧ W = w') :=
  ⟨val (s.extract 0 (i + 1)).data.toList, rdN s i, rfl, rd_bd hi h9, fun W => value_any (s.extract 0 (i + 1)) W (by rw [extract_size0 s i hi]; omega), fun W => unfold_any _ W (rd_bd hi h9), fun W => mayBe_any (rdN s i) W⟩

set_option maxHeartbeats 1000000 in
set_option maxRecDepth 100000 in
theorem ReadNumber_far (s : ByteArray) (i : Nat) (w : World) (h : IsLast s i) (hz : i = 0 ∨ (0 < i ∧ ∀ hi : i < s.size, s[i].toNat ≠ 0)) (hm : mayB (rdN s i) = false) (hs : s.size ≤ maxLen) :
    Calls Try.prog 34 #[.string s] w (ThreeS 0 ⟨#[]⟩ 5 w) := by
  have HL := Lib.hid (fun W => lastDigit_yes s i W h hs)
  obtain ⟨hi, h9, h3, h4⟩ := h
  unfold maxLen at hs
  clear h3 h4
  obtain ⟨u, n, hn, hub, HV, HU, HM⟩ := read_parts s i hi h9
  rw [← hn] at hm
  rw [hm] at HM
  clear hm
  clear hn
  rcases hz with hz | ⟨h0, hz⟩
  · have hz0 : i ≤ 0 := by omega
    clear hz
    go_enter Try.func34, Try.ntmps34
    go_wp2_with (first
      | (go_at_call 38; (with_reducible refine (HL.out _).mono ?_); rintro e w' ⟨rfl, rfl⟩)
      | (go_at_call 40; (with_reducible refine (HV.out _).mono ?_); rintro e w' ⟨rfl, rfl⟩)
      | (go_at_call 39; (with_reducible refine (HU.out _).mono ?_); rintro e w' ⟨rfl, rfl⟩)
      | (go_at_call 25; (with_reducible refine (HM.out _).mono ?_); rintro e w' ⟨rfl, rfl⟩))
    go_ret3
    exact ⟨rfl, Below.refl _ _⟩
  · have hz0 : (((s[i].toNat : Nat) : Int) == 0) = false := by have := hz hi; simp [this]
    clear hz
    go_enter Try.func34, Try.ntmps34
    go_wp2_with (first
      | (go_at_call 38; (with_reducible refine (HL.out _).mono ?_); rintro e w' ⟨rfl, rfl⟩)
      | (go_at_call 40; (with_reducible refine (HV.out _).mono ?_); rintro e w' ⟨rfl, rfl⟩)
      | (go_at_call 39; (with_reducible refine (HU.out _).mono ?_); rintro e w' ⟨rfl, rfl⟩)
      | (go_at_call 25; (with_reducible refine (HM.out _).mono ?_); rintro e w' ⟨rfl, rfl⟩))
    go_ret3
    exact ⟨rfl, Below.refl _ _⟩

set_option maxHeartbeats 1000000 in
set_option maxRecDepth 100000 in
theorem ReadNumber_yes (s : ByteArray) (i : Nat) (w : World) (h : IsLast s i) (hz : i = 0 ∨ (0 < i ∧ ∀ hi : i < s.size, s[i].toNat ≠ 0)) (hm : mayB (rdN s i) = true) (hs : s.size ≤ maxLen) :
    Calls Try.prog 34 #[.string s] w (ThreeS (rdN s i) (s.extract (i + 1) s.size) 0 w) := by
  have HL := Lib.hid (fun W => lastDigit_yes s i W h hs)
  obtain ⟨hi, h9, h3, h4⟩ := h
  unfold maxLen at hs
  clear h3 h4
  obtain ⟨u, n, hn, hub, HV, HU, HM⟩ := read_parts s i hi h9
  rw [← hn] at hm
  rw [hm] at HM
  clear hm
  rw [← hn]
  clear hn
  rcases hz with hz | ⟨h0, hz⟩
  · have hz0 : i ≤ 0 := by omega
    clear hz
    go_enter Try.func34, Try.ntmps34
    go_wp2_with (first
      | (go_at_call 38; (with_reducible refine (HL.out _).mono ?_); rintro e w' ⟨rfl, rfl⟩)
      | (go_at_call 40; (with_reducible refine (HV.out _).mono ?_); rintro e w' ⟨rfl, rfl⟩)
      | (go_at_call 39; (with_reducible refine (HU.out _).mono ?_); rintro e w' ⟨rfl, rfl⟩)
      | (go_at_call 25; (with_reducible refine (HM.out _).mono ?_); rintro e w' ⟨rfl, rfl⟩))
    go_quiet (fail)
    go_wp2
    go_ret3
    exact ⟨rfl, bel_drewN _ _⟩
  · have hz0 : (((s[i].toNat : Nat) : Int) == 0) = false := by have := hz hi; simp [this]
    clear hz
    go_enter Try.func34, Try.ntmps34
    go_wp2_with (first
      | (go_at_call 38; (with_reducible refine (HL.out _).mono ?_); rintro e w' ⟨rfl, rfl⟩)
      | (go_at_call 40; (with_reducible refine (HV.out _).mono ?_); rintro e w' ⟨rfl, rfl⟩)
      | (go_at_call 39; (with_reducible refine (HU.out _).mono ?_); rintro e w' ⟨rfl, rfl⟩)
      | (go_at_call 25; (with_reducible refine (HM.out _).mono ?_); rintro e w' ⟨rfl, rfl⟩))
    go_quiet (fail)
    go_wp2
    go_ret3
    exact ⟨rfl, bel_drewN _ _⟩
end Go.Proofs.Ytbipkbcmcidalaa
