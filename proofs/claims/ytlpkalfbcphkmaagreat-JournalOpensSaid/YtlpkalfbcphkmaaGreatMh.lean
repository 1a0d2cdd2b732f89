/-
  Joined: Off, Tab, On, Bytes.
-/
import Derived.Test.YtlpkalfbcphkmaaGreatChecked
import Derived.Test.YtlpkalfbcphkmaaGreatMg
import Derived.WalkKit
import Derived.ProofKit
import Derived.OpenShut
import Derived.Lib.Hide
import Derived.IntWalk
import Derived.Laws.BitsAllLaws
import Derived.Deep.MidRow
import Derived.Deep.WholeRow
import Derived.Laws.ResultCell
import Derived.Laws.CopyOwn
import Derived.Below
import Derived.OwnWalk
import Derived.WalkSpells
import Derived.Laws.AppendOwn
import Derived.Laws.IdiomStrings

/-
  Contracts of oneOff and eightOff of package check, and of the reference's Off: so many bits off, for every number of 32 bits.
-/
namespace Go.Proofs.YtlpkalfbcphkmaaGreat.Crc
open Go.ChangeShapes Go.WideShapes Go.ChangeAt Go.RowKit

theorem ret_int {k : IntKind} {a b : Int} (h : a = b) : Ending.returned (.int k a) = .returned (.int k b) := by rw [h]
theorem v_int {k : IntKind} {a b : Int} (h : a = b) : Value.int k a = .int k b := by rw [h]
theorem ret_bool {a b : Bool} (h : a = b) : Ending.returned (.bool a) = .returned (.bool b) := by rw [h]

theorem and1 (c : Nat) (h : c < 4294967296) : bits .and .u32 (c : Int) 1 = ((c % 2 : Nat) : Int) := by
  have := u32_and_nat c 1 h (by omega)
  rw [nat_mask1] at this
  exact this
theorem xorP (c : Nat) (h : c < 4294967296) : bits .xor .u32 (c : Int) 2197175160 = ((c ^^^ 2197175160 : Nat) : Int) := u32_xor_nat c 2197175160 h (by omega)

def U32 (n : Nat) (w : World) (e : Ending) (w' : World) : Prop := e = .returned (.int .u32 n) ∧ w = w'

theorem u32_i {a : Int} {n : Nat} {w : World} (h : a = n) : U32 n w (.returned (.int .u32 a)) w := by subst h; exact ⟨rfl, rfl⟩
theorem half_xor (c : Nat) (h : c < 4294967296) : bits .xor .u32 ((c : Int) / 2) 2197175160 = ((c / 2 ^^^ 2197175160 : Nat) : Int) := by
  have := xorP (c / 2) (by omega)
  rwa [Int.natCast_ediv] at this

theorem oneOff_any (c : Nat) (h : c < 4294967296) (w : World) : Calls Tryz.prog 124 #[.int .u32 c] w (U32 (bit1 c) w) := by
  have hb : bits .and .u32 (c : Int) 1 = ((c % 2 : Nat) : Int) := and1 c h
  by_cases h' : c % 2 = 1
  · go_enter Tryz.func124, Tryz.ntmps124
    go_wp2
    go_ret
    exact u32_i (by rw [bit1_odd h']; exact half_xor c h)
  · go_enter Tryz.func124, Tryz.ntmps124
    go_wp2
    go_ret
    exact u32_i (by rw [bit1_even h']; simp)

set_option maxHeartbeats 400000 in
theorem eightOff_any (c : Nat) (h : c < 4294967296) (w : World) : Calls Tryz.prog 123 #[.int .u32 c] w (U32 (off 8 c) w) := by
  go_enter Tryz.func123, Tryz.ntmps123
  go_wp2
  go_loop [0, 3] (fun v i => ∃ k : Nat, k ≤ 8 ∧ i = .int .i64 k ∧ v = .int .u32 (off k c : Nat)) (fun _ i => 8 - (Go.RowKit.intOf i).toNat)
  case atStart => exact ⟨0, Nat.zero_le _, rfl, rfl⟩
  case round =>
    obtain ⟨k, hk, rfl, rfl⟩ := hrel
    by_cases hlt : k < 8
    · have hl := off_lt k h
      go_wp2_with (go_at_call 124; refine (oneOff_any _ hl _).mono ?_; rintro e w' ⟨rfl, rfl⟩)
      go_round
      case rel => exact ⟨k + 1, by omega, by go_num, by rw [off_succ']⟩
      case measure => simp [Go.RowKit.intOf]; omega
    · go_wp2
      go_ret
      obtain rfl : k = 8 := by omega
      exact ⟨rfl, rfl⟩

set_option maxHeartbeats 400000 in
theorem refOff_any (c : Nat) (h : c < 4294967296) (w : World) : Calls Tryz.prog 99 #[.int .u32 c] w (U32 (off 8 c) w) := by
  go_enter Tryz.func99, Tryz.ntmps99
  go_wp2
  go_loop [0, 3] (fun v i => ∃ k : Nat, k ≤ 8 ∧ i = .int .i64 k ∧ v = .int .u32 (off k c : Nat)) (fun _ i => 8 - (Go.RowKit.intOf i).toNat)
  case atStart => exact ⟨0, Nat.zero_le _, rfl, rfl⟩
  case round =>
    obtain ⟨k, hk, rfl, rfl⟩ := hrel
    have hl := off_lt k h
    by_cases hlt : k < 8
    · have HS := Lib.hid (off_succ' k c)
      generalize off k c = x at hl HS
      by_cases h' : x % 2 = 1
      · go_wp2
        go_round
        case rel => exact ⟨k + 1, by omega, by go_num, v_int (by rw [HS.out, bit1_odd h']; exact half_xor x hl)⟩
        case measure => simp [Go.RowKit.intOf]; omega
      · go_wp2
        go_round
        case rel => exact ⟨k + 1, by omega, by go_num, v_int (by rw [HS.out, bit1_even h']; simp)⟩
        case measure => simp [Go.RowKit.intOf]; omega
    · go_wp2
      go_ret
      obtain rfl : k = 8 := by omega
      exact ⟨rfl, rfl⟩
end Go.Proofs.YtlpkalfbcphkmaaGreat.Crc

/-
  Contract of Table of package check: an array of 256 numbers, each with eight bits off.
-/
namespace Go.Proofs.YtlpkalfbcphkmaaGreat.Crc
open Go.ChangeShapes Go.WideShapes Go.ChangeAt Go.RowKit

/-- The table's cells, as far as k of them are filled. -/
def tabN (k : Nat) : Array Value := Array.ofFn (n := 256) fun i => if i.val < k then .int .u32 (off 8 i.val : Nat) else .int .u32 0
theorem tabN_size (k : Nat) : (tabN k).size = 256 := by simp [tabN]
theorem tabN_at (k j : Nat) (h : j < 256) (hk : j < k) : (tabN k)[j]? = some (.int .u32 (off 8 j : Nat)) := by simp [tabN, h, hk]
theorem tabN_zero : tabN 0 = Array.replicate 256 (.int .u32 0) := by
  apply Array.ext
  · simp [tabN]
  · intro i h1 h2; simp [tabN]
theorem tabN_step (k : Nat) : (tabN k).setIfInBounds k (.int .u32 (off 8 k : Nat)) = tabN (k + 1) := by
  apply Array.ext
  · simp [tabN]
  · intro i h1 h2
    rw [Array.getElem_setIfInBounds (by simpa using h1)]
    by_cases h : k = i
    · subst h; simp [tabN]
    · have e : (i < k + 1) = (i < k) := by apply propext; omega
      simp [tabN, h, e]

theorem info23 : (Tryz.prog.info? 159).map (fun i => (i.zero, i.size)) = some (some (.agg (Array.replicate 256 (.int .u32 0))), 256) := by kernel_rfl

theorem tabN_one (k : Nat) : (tabN k).all (·.oneCell') = true := by
  rw [Array.all_eq_true]
  intro i h
  simp only [tabN, Array.getElem_ofFn]
  split <;> rfl

def TabB (w : World) (e : Ending) (w' : World) : Prop := e = .returned (.agg (tabN 256)) ∧ Below w.heap.size w w'

set_option maxHeartbeats 1000000 in
set_option maxRecDepth 100000 in
theorem Table_any (w : World) : Calls Tryz.prog 118 #[] w (TabB w) := by
  obtain ⟨hz, hi⟩ := zero_of_info info23
  have HI := Lib.hid hi
  clear hi
  go_enter Tryz.func118, Tryz.ntmps118
  go_wp2
  rw [← tabN_zero]
  clear hz
  go_loopw [3] (fun i wr => ∃ k : Nat, k ≤ 256 ∧ i = .int .i64 k ∧ wr = (w.alloc (.cells (tabN 0) 159)).alloc (.cells (tabN k) 159)) (fun i _ => 256 - (Go.RowKit.intOf i).toNat)
  case atStart => exact ⟨0, Nat.zero_le _, rfl, rfl⟩
  case round =>
    obtain ⟨k, hk, rfl, rfl⟩ := hrel
    have hsz := tabN_size k
    by_cases hlt : k < 256
    · have HT := Lib.hid (tabN_step k)
      have hcell : ∃ v, (tabN k)[k]? = some v := ⟨_, Array.getElem?_eq_getElem (by omega)⟩
      obtain ⟨v, hv⟩ := hcell
      generalize tabN k = T at HT hv hsz
      generalize tabN 0 = Z
      go_wp2_with (go_at_call 123; (with_reducible refine (eightOff_any k (by omega) _).mono ?_); rintro e w' ⟨rfl, rfl⟩)
      go_roundw
      case rel => exact ⟨k + 1, by omega, by go_num, by rw [← HT.out]⟩
      case measure => simp [Go.RowKit.intOf]; omega
    · obtain rfl : k = 256 := by omega
      have HL := Lib.hid (heap_alloc_new (w.alloc (.cells (tabN 0) 159)) (.cells (tabN 256) 159))
      have HO := Lib.hid (heap_alloc2_old w (.cells (tabN 0) 159) (.cells (tabN 256) 159))
      clear hsz
      go_wp2_with (first
        | (refine wpList_load_row rfl 159 _ rfl (w.heap.size + 1) rfl 159 (tabN 256) (0, 0) _ (by simpa using HL.out) Tryz.underlying159 rfl (by rw [tabN_size]; exact HI.out) ?_)
        | (refine wpList_store_row rfl 159 _ _ rfl w.heap.size (tabN 256) rfl rfl 159 (tabN 0) HO.out (by rw [tabN_size]; exact HI.out) (by rw [tabN_size, tabN_size]) (tabN_one _) ?_))
      refine bodyPost_ret (v := .agg (tabN 256)) (results_cell_row rfl _ _ w.heap.size 159 (tabN 256) (0, 0) _ rfl (setRow_heap _ _ _ _ _ _ HO.out) Tryz.underlying159 rfl (by rw [tabN_size]; exact HI.out)) rfl ⟨rfl, ?_⟩
      exact below_setRow (((Below.refl _ _).alloc (Nat.le_refl _) _).alloc (by simp) _) (Nat.le_refl _) _
end Go.Proofs.YtlpkalfbcphkmaaGreat.Crc

/-
  Contracts of On and Of of package check, and of the reference's On and Of: the check of any bytes, on from any other one.
-/
namespace Go.Proofs.YtlpkalfbcphkmaaGreat.Crc
open Go.ChangeShapes Go.WideShapes Go.ChangeAt Go.RowKit

theorem take_snoc (s : ByteArray) (k : Nat) (h : k < s.size) : s.data.toList.take (k + 1) = s.data.toList.take k ++ [s[k]] := by
  rw [List.take_succ_eq_append_getElem (by simpa using h)]; rfl
theorem take_all (s : ByteArray) : s.data.toList.take s.size = s.data.toList := List.take_of_length_le (by simp)

theorem div_xor (x y : Nat) (hx : x < 4294967296) (hy : y < 4294967296) : bits .xor .u32 ((x : Int) / 256) (y : Int) = ((x / 256 ^^^ y : Nat) : Int) := by
  have := u32_xor_nat (x / 256) y (by omega) hy
  rwa [Int.natCast_ediv] at this

def U32B (n : Nat) (w : World) (e : Ending) (w' : World) : Prop := e = .returned (.int .u32 n) ∧ Below w.heap.size w w'

set_option maxHeartbeats 1000000 in
set_option maxRecDepth 100000 in
theorem On_any (c : Nat) (h : c < 4294967296) (s : ByteArray) (hs : s.size ≤ maxLen) (w : World) : Calls Tryz.prog 112 #[.int .u32 c, .string s] w (U32B (crcOn c s.data.toList) w) := by
  unfold maxLen at hs
  obtain ⟨hz, hi⟩ := zero_of_info info23
  have HI := Lib.hid hi
  rw [← tabN_zero] at hz
  have HZ := Lib.hid hz
  have HX : Hid (bits .xor .u32 (c : Int) 4294967295 = ((c ^^^ 4294967295 : Nat) : Int)) := u32_xor_nat c 4294967295 h (by omega)
  have h' : c ^^^ 4294967295 < 4294967296 := Nat.xor_lt_two_pow (n := 32) (by omega) (by omega)
  have HD : Hid (crcOn c s.data.toList = onL (c ^^^ 4294967295) s.data.toList ^^^ 4294967295) := rfl
  generalize crcOn c s.data.toList = R at HD
  generalize c ^^^ 4294967295 = d at HX h' HD
  obtain ⟨T, HT, HS, HS0, H1, HC⟩ : ∃ T : Array Value, Hid (tabN 256 = T) ∧ Hid (T.size = 256) ∧ Hid ((tabN 0).size = T.size) ∧ Hid (T.all (·.oneCell') = true) ∧ Hid (∀ j, j < 256 → T[j]? = some (.int .u32 (off 8 j : Nat))) :=
    ⟨tabN 256, rfl, tabN_size _, by unfold Hid; rw [tabN_size, tabN_size], tabN_one _, fun j hj => tabN_at 256 j hj hj⟩
  generalize tabN 0 = Z at HZ HS0
  clear hi hz
  have hz := HZ.out
  go_enter Tryz.func112, Tryz.ntmps112
  go_wp2_with (first
    | (go_at_call 118; refine (Table_any _).mono ?_; rintro e w1 ⟨rfl, hb⟩; rw [HT.out])
    | (refine wpList_store_row rfl 159 _ _ rfl w1.heap.size T rfl rfl 159 Z (heap_alloc_new _ _) (by rw [HS.out]; exact HI.out) HS0.out H1.out ?_))
  rw [World.setRow_alloc_new, HX.out]
  go_loop [0, 12] (fun v i => ∃ k : Nat, k ≤ s.size ∧ i = .int .i64 k ∧ v = .int .u32 (onL d (s.data.toList.take k) : Nat)) (fun _ i => s.size - (Go.RowKit.intOf i).toNat)
  case atStart => exact ⟨0, Nat.zero_le _, rfl, rfl⟩
  case round =>
    obtain ⟨k, hk, rfl, rfl⟩ := hrel
    have hl := onL_lt (s.data.toList.take k) h'
    by_cases hlt : k < s.size
    · have HN : Hid (onL d (s.data.toList.take (k + 1)) = off 8 (onL d (s.data.toList.take k) ^^^ s[k].toNat)) := by unfold Hid; rw [take_snoc s k hlt, onL_snoc]
      generalize onL d (s.data.toList.take k) = x at hl HN
      have hbyte := s[k].toNat_lt
      have HJ : Hid (bits .xor .u8 ((x : Int) % 256) (s[k].toNat : Int) = ((x % 256 ^^^ s[k].toNat : Nat) : Int)) := u8_xor_nat (x % 256) s[k].toNat (by omega) (by omega)
      have hj : x % 256 ^^^ s[k].toNat < 256 := Nat.xor_lt_two_pow (n := 8) (by omega) (by omega)
      have HE : Hid (onL d (s.data.toList.take (k + 1)) = x / 256 ^^^ off 8 (x % 256 ^^^ s[k].toNat)) := by unfold Hid; rw [HN.out, off8_table]
      clear HN
      generalize x % 256 ^^^ s[k].toNat = j at HJ hj HE
      have hc : (w1.alloc (.cells T 159)).cell? ⟨w1.heap.size, j, none⟩ = some (.int .u32 (off 8 j : Nat)) := by
        rw [cell_of_row _ _ j T _ _ (heap_alloc_new _ _)]; exact HC.out j hj
      have ho := off_lt 8 (c := j) (by omega)
      generalize off 8 j = y at hc ho HE
      have hjj := HJ.out
      go_wp2
      go_round
      case rel => exact ⟨k + 1, by omega, by go_num, v_int (by rw [HE.out]; exact div_xor x y hl ho)⟩
      case measure => simp [Go.RowKit.intOf]; omega
    · obtain rfl : k = s.size := by omega
      rw [take_all]
      have hl' := onL_lt s.data.toList h'
      clear hl
      generalize onL d s.data.toList = x at hl' HD
      go_wp2
      go_ret
      exact ⟨ret_int (by rw [HD.out]; exact u32_xor_nat x 4294967295 hl' (by omega)), hb.alloc hb.size _⟩

theorem Of_any (s : ByteArray) (hs : s.size ≤ maxLen) (w : World) : Calls Tryz.prog 98 #[.string s] w (U32B (crcOn 0 s.data.toList) w) := by
  go_enter Tryz.func98, Tryz.ntmps98
  go_wp2_with (go_at_call 112; refine (On_any 0 (by omega) s hs _).mono ?_; rintro e w' ⟨rfl, hb⟩)
  go_ret
  exact ⟨rfl, hb⟩

set_option maxHeartbeats 1000000 in
theorem refOn_any (c : Nat) (h : c < 4294967296) (s : ByteArray) (hs : s.size ≤ maxLen) (w : World) : Calls Tryz.prog 79 #[.int .u32 c, .string s] w (U32 (crcOn c s.data.toList) w) := by
  unfold maxLen at hs
  have h' : c ^^^ 4294967295 < 4294967296 := Nat.xor_lt_two_pow (n := 32) (by omega) (by omega)
  have HD : Hid (crcOn c s.data.toList = onL (c ^^^ 4294967295) s.data.toList ^^^ 4294967295) := rfl
  have HO := Lib.hid (ones_sub h)
  generalize crcOn c s.data.toList = R at HD
  generalize c ^^^ 4294967295 = d at h' HD HO
  go_enter Tryz.func79, Tryz.ntmps79
  go_wp2
  obtain ⟨t, ht⟩ : ∃ t : Int, t = 4294967295 - (c : Int) := ⟨_, rfl⟩
  rw [← ht]
  obtain rfl : t = (d : Int) := by have := HO.out; omega
  clear ht
  go_loop [0, 5] (fun v i => ∃ k : Nat, k ≤ s.size ∧ i = .int .i64 k ∧ v = .int .u32 (onL d (s.data.toList.take k) : Nat)) (fun _ i => s.size - (Go.RowKit.intOf i).toNat)
  case atStart => exact ⟨0, Nat.zero_le _, rfl, rfl⟩
  case round =>
    obtain ⟨k, hk, rfl, rfl⟩ := hrel
    have hl := onL_lt (s.data.toList.take k) h'
    by_cases hlt : k < s.size
    · have HN : Hid (onL d (s.data.toList.take (k + 1)) = off 8 (onL d (s.data.toList.take k) ^^^ s[k].toNat)) := by unfold Hid; rw [take_snoc s k hlt, onL_snoc]
      generalize onL d (s.data.toList.take k) = x at hl HN
      have hbyte := s[k].toNat_lt
      have hx : bits .xor .u32 (x : Int) (s[k].toNat : Int) = ((x ^^^ s[k].toNat : Nat) : Int) := u32_xor_nat x s[k].toNat hl (by omega)
      have hj : x ^^^ s[k].toNat < 4294967296 := Nat.xor_lt_two_pow (n := 32) (by omega) (by omega)
      generalize x ^^^ s[k].toNat = j at hx hj HN
      go_wp2_with (go_at_call 99; refine (refOff_any j hj _).mono ?_; rintro e w' ⟨rfl, rfl⟩)
      go_round
      case rel => exact ⟨k + 1, by omega, by go_num, by rw [HN.out]⟩
      case measure => simp [Go.RowKit.intOf]; omega
    · obtain rfl : k = s.size := by omega
      rw [take_all]
      have hl' := onL_lt s.data.toList h'
      clear hl
      generalize onL d s.data.toList = x at hl' HD
      go_wp2
      go_ret
      exact u32_i (by rw [HD.out, ← ones_sub hl']; omega)

theorem refOf_any (s : ByteArray) (hs : s.size ≤ maxLen) (w : World) : Calls Tryz.prog 53 #[.string s] w (U32 (crcOn 0 s.data.toList) w) := by
  go_enter Tryz.func53, Tryz.ntmps53
  go_wp2_with (go_at_call 79; refine (refOn_any 0 (by omega) s hs _).mono ?_; rintro e w' ⟨rfl, rfl⟩)
  go_ret
  exact ⟨rfl, rfl⟩

end Go.Proofs.YtlpkalfbcphkmaaGreat.Crc

/-
  Contracts of Bytes of package check and of the reference's Bytes: a number's four bytes, the lowest first.
-/
namespace Go.Proofs.YtlpkalfbcphkmaaGreat.Crc
open Go.ChangeShapes Go.WideShapes Go.ChangeAt Go.RowKit Go.Lib

def four (c : Nat) : List UInt8 := [UInt8.ofNat (c % 256), UInt8.ofNat (c / 256 % 256), UInt8.ofNat (c / 65536 % 256), UInt8.ofNat (c / 16777216 % 256)]
def TextB (l : List UInt8) (w : World) (e : Ending) (w' : World) : Prop := e = .returned (.string ⟨l.toArray⟩) ∧ Below w.heap.size w w'

theorem four_back (c : Nat) (h : c < 4294967296) (w : World) :
    (convert 41 9 (.slice (some ⟨w.heap.size, 0, none⟩) 4 4)).run Tryz.prog (w.alloc (.cells #[.int .u8 ((c : Int) % 256), .int .u8 ((c : Int) / 256 % 256), .int .u8 ((c : Int) / 65536 % 256), .int .u8 ((c : Int) / 16777216)] 5)) =
      .ok (.string ⟨(four c).toArray⟩) (w.alloc (.cells #[.int .u8 ((c : Int) % 256), .int .u8 ((c : Int) / 256 % 256), .int .u8 ((c : Int) / 65536 % 256), .int .u8 ((c : Int) / 16777216)] 5)) := by
  refine run_convert_bytes_back _ 41 9 5 ⟨w.heap.size, 0, none⟩ 4 (four c) Tryz.underlying41 Tryz.underlying5 Tryz.underlying9 ?_
  intro j hj
  rw [Addr.add_mid, cell_of_row _ _ _ _ _ _ (heap_alloc_new _ _)]
  match j, hj with
  | 0, _ => simp [four]
  | 1, _ => simp [four]
  | 2, _ => simp [four]
  | 3, _ => simp [four]; omega

set_option maxHeartbeats 1000000 in
theorem Bytes_any (c : Nat) (h : c < 4294967296) (w : World) : Calls Tryz.prog 97 #[.int .u32 c] w (TextB (four c) w) := by
  have hc := four_back c h w
  go_enter Tryz.func97, Tryz.ntmps97
  go_wp2
  go_ret
  exact ⟨rfl, (Below.refl _ _).alloc (Nat.le_refl _) _⟩

theorem Tryz.info5 : (Tryz.prog.info? 5).map (fun i => (i.zero, i.size, i.bytes)) = some (some (.int .u8 0), 1, 1) := by kernel_rfl

def bcells (l : List UInt8) : List Value := l.map fun b => Value.int .u8 (b.toNat : Int)
theorem bcells_snoc (l : List UInt8) (b : UInt8) : bcells (l ++ [b]) = bcells l ++ [Value.int .u8 (b.toNat : Int)] := by simp [bcells]

/-- Cells that are owned, one more behind them: the relation of a loop that appends one byte. -/
theorem own_snoc {B : Nat} {e : TypeId} {v v' : Value} {p : List UInt8} (b : UInt8) {x : Int} (hx : x = (b.toNat : Int)) {w wr w1 : World} {o : Obj} (hB : B ≤ wr.heap.size)
    (hown : wr.ownsRow B e 1 v p.length (bcells p)) (hnx : Below B w wr)
    (hown' : w1.ownsRow B e 1 v' (p.length + 1) (bcells p ++ [.int .u8 x])) (hgrow : (wr.alloc o).grownBy w1 v.ownBlock) :
    w1.ownsRow B e 1 v' (p ++ [b]).length (bcells (p ++ [b])) ∧ Below B w w1 := by
  subst hx
  refine ⟨by rw [bcells_snoc]; simpa using hown', (hnx.alloc hB o).grown hgrow (by simp; omega) (fun j hj => (hown.lt j hj).1)⟩

/-- 'string(b)' of a row of bytes that is owned. -/
theorem own_string {P : Program} {B : Nat} {src dst e : TypeId} {v : Value} {l : List UInt8} {w : World} (hs : P.underlying src = some (.slice e)) (he : P.underlying e = some (.int .u8)) (hd : P.underlying dst = some .string)
    (hown : w.ownsRow B e 1 v l.length (bcells l)) : l ≠ [] → (convert src dst v).run P w = .ok (.string ⟨l.toArray⟩) w := by
  intro hne
  have hw := hown
  obtain ⟨_, h | ⟨g, cap, cur, rfl, _, _, _, _, _, _⟩⟩ := hown
  · exact absurd (List.length_eq_zero_iff.1 h.2) hne
  · refine run_convert_bytes_back w src dst e ⟨g, 0, none⟩ cap l hs he hd ?_
    intro j hj
    exact hw.cells rfl j _ (by simp [bcells, List.getElem?_map, List.getElem?_eq_getElem hj])

/-- So many of the number's bytes, the lowest first. -/
def low : Nat → Nat → List UInt8
  | 0, _ => []
  | k + 1, c => low k c ++ [UInt8.ofNat (c / 256 ^ k % 256)]
theorem low_len (k c : Nat) : (low k c).length = k := by
  induction k with
  | zero => rfl
  | succ k ih => simp [low, ih]
theorem low4 (c : Nat) : low 4 c = four c := by simp [low, four]

theorem made_one (x : World) (e : TypeId) : (x.alloc (.cells #[] e)).ownsRow x.heap.size e 1 (.slice (some ⟨x.heap.size, 0, none⟩) 0 0) 0 [] := by
  have h := World.ownsRow_made (base := x.heap.size) (e := e) (size := 1) x #[] 0 (Nat.le_refl _) (by decide) rfl
  simpa using h

set_option maxHeartbeats 1600000 in
set_option maxRecDepth 1000000 in
theorem refBytes_any (c : Nat) (h : c < 4294967296) (w : World) : Calls Tryz.prog 52 #[.int .u32 c] w (TextB (four c) w) := by
  obtain ⟨i0, hi, hz0, hz1, hz2⟩ := info_parts Tryz.info5
  have HM := Lib.hid (made_one w 5)
  go_enter Tryz.func52, Tryz.ntmps52
  go_wp2
  go_loopw [0, 3, 4] (fun x v i wr => ∃ k : Nat, k ≤ 4 ∧ i = .int .i64 k ∧ x = .int .u32 (c / 256 ^ k : Nat) ∧ wr.ownsRow w.heap.size 5 1 v (low k c).length (bcells (low k c)) ∧ Below w.heap.size w wr)
    (fun _ _ i _ => 4 - (Go.RowKit.intOf i).toNat)
  case atStart => exact ⟨0, by omega, rfl, by simp, HM.out, (Below.refl _ _).alloc (Nat.le_refl _) _⟩
  case round =>
    obtain ⟨k, hk, rfl, rfl, hown, hnx⟩ := hrel
    have hll := low_len k c
    have hle : (low k c).length ≤ 4 := by omega
    have hsz := hnx.size
    by_cases hlt : k < 4
    · have HN : Hid (low (k + 1) c = low k c ++ [UInt8.ofNat (c / 256 ^ k % 256)]) := rfl
      have HP : Hid (c / 256 ^ (k + 1) = c / 256 ^ k / 256) := by unfold Hid; rw [Nat.pow_succ, Nat.div_div_eq_div_mul]
      have hm : c / 256 ^ k < 4294967296 := Nat.lt_of_le_of_lt (Nat.div_le_self _ _) h
      generalize c / 256 ^ k = x at HN HP hm
      generalize low k c = p at HN hown hle
      clear hll
      go_wp2_with (at_builtin; refine wpList_append_own _ rfl _ _ 41 rfl w.heap.size 5 i0 (.int .u8 0) 1 1 Tryz.underlying41 hi hz0 hz1 hz2 rfl (by decide) _ _ _ rfl (hown.alloc _) ⟨wr.heap.size, 0, none⟩ 1 1 [.int .u8 ((x : Int) % 256)] rfl rfl ?c1 ?c2 ?c3 ?c4 ?c5 ?_)
      case c1 =>
        intro j y hj
        match j, hj with
        | 0, hj => simp at hj; subst hj; simp [Addr.add]
      case c2 => intro y hy; simp at hy; subst hy; rfl
      case c3 => unfold maxLen; omega
      case c4 => omega
      case c5 => simp; omega
      intro v' w1 hown' hgrow _
      have R := own_snoc (UInt8.ofNat (x % 256)) (by simp) (by omega) hown hnx hown' hgrow
      clear hown' hgrow hown
      go_wp2
      go_roundw
      case rel => exact ⟨k + 1, by omega, by go_num, by rw [HP.out]; go_num, by rw [HN.out]; exact R.1, R.2⟩
      case measure => simp [Go.RowKit.intOf]; omega
    · obtain rfl : k = 4 := by omega
      rw [low4] at hown
      have hs := own_string (dst := 9) Tryz.underlying41 Tryz.underlying5 Tryz.underlying9 hown (by simp [four])
      clear hll hle
      go_wp2
      go_ret
      exact ⟨rfl, hnx⟩
end Go.Proofs.YtlpkalfbcphkmaaGreat.Crc
