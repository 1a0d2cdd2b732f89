/-
  Contracts of On and Of of package check, and of the reference's On and Of: the check of any bytes, on from any other one.
-/
import Derived.Test.YtbipkbcmcidalaaTab
namespace Go.Proofs.Ytbipkbcmcidalaa.Crc
open Go.ChangeShapes Go.WideShapes Go.ChangeAt Go.RowKit

theorem take_snoc (s : ByteArray) (k : Nat) (h : k < s.size) : s.data.toList.take (k + 1) = s.data.toList.take k ++ [s[k]] := by
  rw [List.take_succ_eq_append_getElem (by simpa using h)]; rfl
theorem take_all (s : ByteArray) : s.data.toList.take s.size = s.data.toList := List.take_of_length_le (by simp)

theorem div_xor (x y : Nat) (hx : x < 4294967296) (hy : y < 4294967296) : bits .xor .u32 ((x : Int) / 256) (y : Int) = ((x / 256 ^^^ y : Nat) : Int) := by
  have := u32_xor_nat (x / 256) y (by omega) hy
  rwa [Int.natCast_ediv] at this

def U32B (n : Nat) (w : World) (e : Ending) (w' : World) : Prop := e = .returned (.int .u32 n) ∧ Below w.heap.size w w'

set_option maxHeartbeats 1000000 in
set_option maxRecDepth 100000 in
theorem On_any (c : Nat) (h : c < 4294967296) (s : ByteArray) (hs : s.size ≤ maxLen) (w : World) : Calls Try.prog 27 #[.int .u32 c, .string s] w (U32B (crcOn c s.data.toList) w) := by
  unfold maxLen at hs
  obtain ⟨hz, hi⟩ := zero_of_info info23
  have HI := Lib.hid hi
  rw [← tabN_zero] at hz
  have HZ := Lib.hid hz
  have HX : Hid (bits .xor .u32 (c : Int) 4294967295 = ((c ^^^ 4294967295 : Nat) : Int)) := u32_xor_nat c 4294967295 h (by omega)
  have h' : c ^^^ 4294967295 < 4294967296 := Nat.xor_lt_two_pow (n := 32) (by omega) (by omega)
  have HD : Hid (crcOn c s.data.toList = onL (c ^^^ 4294967295) s.data.toList ^^^ 4294967295) := rfl
  generalize crcOn c s.data.toList = R at HD
  generalize c ^^^ 4294967295 = d at HX h' HD
  obtain ⟨T, HT, HS, HS0, H1, HC⟩ : ∃ T : Array Value, Hid (tabN 256 = T) ∧ Hid (T.size = 256) ∧ Hid ((tabN 0).size = T.size) ∧ Hid (T.all (·.oneCell') = true) ∧ Hid (∀ j, j < 256 → T[j]? = some (.int .u32 (off 8 j : Nat))) :=
    ⟨tabN 256, rfl, tabN_size _, by unfold Hid; rw [tabN_size, tabN_size], tabN_one _, fun j hj => tabN_at 256 j hj hj⟩
  generalize tabN 0 = Z at HZ HS0
  clear hi hz
  have hz := HZ.out
  go_enter Try.func27, Try.ntmps27
  go_wp2_with (first
    | (go_at_call 33; refine (Table_any _).mono ?_; rintro e w1 ⟨rfl, hb⟩; rw [HT.out])
    | (refine wpList_store_row rfl 60 _ _ rfl w1.heap.size T rfl rfl 60 Z (heap_alloc_new _ _) (by rw [HS.out]; exact HI.out) HS0.out H1.out ?_))
  rw [World.setRow_alloc_new, HX.out]
  go_loop [0, 12] (fun v i => ∃ k : Nat, k ≤ s.size ∧ i = .int .i64 k ∧ v = .int .u32 (onL d (s.data.toList.take k) : Nat)) (fun _ i => s.size - (intOf i).toNat)
  case atStart => exact ⟨0, Nat.zero_le _, rfl, rfl⟩
  case round =>
    obtain ⟨k, hk, rfl, rfl⟩ := hrel
    have hl := onL_lt (s.data.toList.take k) h'
    by_cases hlt : k < s.size
    · have HN : Hid (onL d (s.data.toList.take (k + 1)) = off 8 (onL d (s.data.toList.take k) ^^^ s[k].toNat)) := by unfold Hid; rw [take_snoc s k hlt, onL_snoc]
      generalize onL d (s.data.toList.take k) = x at hl HN
      have hbyte := s[k].toNat_lt
      have HJ : Hid (bits .xor .u8 ((x : Int) % 256) (s[k].toNat : Int) = ((x % 256 ^^^ s[k].toNat : Nat) : Int)) := u8_xor_nat (x % 256) s[k].toNat (by omega) (by omega)
      have hj : x % 256 ^^^ s[k].toNat < 256 := Nat.xor_lt_two_pow (n := 8) (by omega) (by omega)
      have HE : Hid (onL d (s.data.toList.take (k + 1)) = x / 256 ^^^ off 8 (x % 256 ^^^ s[k].toNat)) := by unfold Hid; rw [HN.out, off8_table]
      clear HN
      generalize x % 256 ^^^ s[k].toNat = j at HJ hj HE
      have hc : (w1.alloc (.cells T 60)).cell? ⟨w1.heap.size, j, none⟩ = some (.int .u32 (off 8 j : Nat)) := by
        rw [cell_of_row _ _ j T _ _ (heap_alloc_new _ _)]; exact HC.out j hj
      have ho := off_lt 8 (c := j) (by omega)
      generalize off 8 j = y at hc ho HE
      have hjj := HJ.out
      go_wp2
      go_round
      case rel => exact ⟨k + 1, by omega, by go_num, v_int (by rw [HE.out]; exact div_xor x y hl ho)⟩
      case measure => simp [intOf]; omega
    · obtain rfl : k = s.size := by omega
      rw [take_all]
      have hl' := onL_lt s.data.toList h'
      clear hl
      generalize onL d s.data.toList = x at hl' HD
      go_wp2
      go_ret
      exact ⟨ret_int (by rw [HD.out]; exact u32_xor_nat x 4294967295 hl' (by omega)), hb.alloc hb.size _⟩

theorem Of_any (s : ByteArray) (hs : s.size ≤ maxLen) (w : World) : Calls Try.prog 18 #[.string s] w (U32B (crcOn 0 s.data.toList) w) := by
  go_enter Try.func18, Try.ntmps18
  go_wp2_with (go_at_call 27; refine (On_any 0 (by omega) s hs _).mono ?_; rintro e w' ⟨rfl, hb⟩)
  go_ret
  exact ⟨rfl, hb⟩

set_option maxHeartbeats 1000000 in
theorem refOn_any (c : Nat) (h : c < 4294967296) (s : ByteArray) (hs : s.size ≤ maxLen) (w : World) : Calls Try.prog 31 #[.int .u32 c, .string s] w (U32 (crcOn c s.data.toList) w) := by
  unfold maxLen at hs
  have h' : c ^^^ 4294967295 < 4294967296 := Nat.xor_lt_two_pow (n := 32) (by omega) (by omega)
  have HD : Hid (crcOn c s.data.toList = onL (c ^^^ 4294967295) s.data.toList ^^^ 4294967295) := rfl
  have HO := Lib.hid (ones_sub h)
  generalize crcOn c s.data.toList = R at HD
  generalize c ^^^ 4294967295 = d at h' HD HO
  go_enter Try.func31, Try.ntmps31
  go_wp2
  obtain ⟨t, ht⟩ : ∃ t : Int, t = 4294967295 - (c : Int) := ⟨_, rfl⟩
  rw [← ht]
  obtain rfl : t = (d : Int) := by have := HO.out; omega
  clear ht
  go_loop [0, 5] (fun v i => ∃ k : Nat, k ≤ s.size ∧ i = .int .i64 k ∧ v = .int .u32 (onL d (s.data.toList.take k) : Nat)) (fun _ i => s.size - (intOf i).toNat)
  case atStart => exact ⟨0, Nat.zero_le _, rfl, rfl⟩
  case round =>
    obtain ⟨k, hk, rfl, rfl⟩ := hrel
    have hl := onL_lt (s.data.toList.take k) h'
    by_cases hlt : k < s.size
    · have HN : Hid (onL d (s.data.toList.take (k + 1)) = off 8 (onL d (s.data.toList.take k) ^^^ s[k].toNat)) := by unfold Hid; rw [take_snoc s k hlt, onL_snoc]
      generalize onL d (s.data.toList.take k) = x at hl HN
      have hbyte := s[k].toNat_lt
      have hx : bits .xor .u32 (x : Int) (s[k].toNat : Int) = ((x ^^^ s[k].toNat : Nat) : Int) := u32_xor_nat x s[k].toNat hl (by omega)
      have hj : x ^^^ s[k].toNat < 4294967296 := Nat.xor_lt_two_pow (n := 32) (by omega) (by omega)
      generalize x ^^^ s[k].toNat = j at hx hj HN
      go_wp2_with (go_at_call 35; refine (refOff_any j hj _).mono ?_; rintro e w' ⟨rfl, rfl⟩)
      go_round
      case rel => exact ⟨k + 1, by omega, by go_num, by rw [HN.out]⟩
      case measure => simp [intOf]; omega
    · obtain rfl : k = s.size := by omega
      rw [take_all]
      have hl' := onL_lt s.data.toList h'
      clear hl
      generalize onL d s.data.toList = x at hl' HD
      go_wp2
      go_ret
      exact u32_i (by rw [HD.out, ← ones_sub hl']; omega)

theorem refOf_any (s : ByteArray) (hs : s.size ≤ maxLen) (w : World) : Calls Try.prog 22 #[.string s] w (U32 (crcOn 0 s.data.toList) w) := by
  go_enter Try.func22, Try.ntmps22
  go_wp2_with (go_at_call 31; refine (refOn_any 0 (by omega) s hs _).mono ?_; rintro e w' ⟨rfl, rfl⟩)
  go_ret
  exact ⟨rfl, rfl⟩

end Go.Proofs.Ytbipkbcmcidalaa.Crc
