/-
  Joined: JRefA, JRef1, JRef2, JRef3.
-/
import Derived.Test.YtlpkalfbcphkmaaGreatMs
import Derived.Test.YtlpkalfbcphkmaaGreatMt
import Derived.Test.YtlpkalfbcphkmaaGreatMq
import Derived.Test.YtlpkalfbcphkmaaGreatMo
import Derived.Test.YtlpkalfbcphkmaaGreatMd

/-
  All that the references' contracts of stage 5 stand on.
-/
namespace Go.Proofs.YtlpkalfbcphkmaaGreat.Disk.Jn
end Go.Proofs.YtlpkalfbcphkmaaGreat.Disk.Jn

/-
  Contracts of the reference of journal: low, Head, number, Room, zeros.
-/
namespace Go.Proofs.YtlpkalfbcphkmaaGreat.Disk.Jn
open Go.ChangeShapes Go.WideShapes Go.ChangeAt Go.RowKit Go.Lib

theorem low_next {m q : Nat} (h : 0 < q) : low m q = UInt8.ofNat m :: low (m / 256) (q - 1) := by
  obtain ⟨j, rfl⟩ : ∃ j, q = j + 1 := ⟨q - 1, by omega⟩
  rfl
set_option maxHeartbeats 2000000 in
set_option maxRecDepth 100000 in
theorem refLow_any (n k : Nat) (hn : n ≤ 4611686018427387904) (hk0 : 0 < k) (hk : k ≤ 8) (w : World) : Calls Tryz.prog 46 #[.int .i64 n, .int .i64 k] w (TextB ⟨(low n k).toArray⟩ w) := by
  obtain ⟨i0, hi, hz0, hz1, hz2⟩ := info_parts Tryz.info5
  go_enter Tryz.func46, Tryz.ntmps46
  go_wp2
  go_loopw [0, 5, 6] (fun x v' y wr => ∃ (m i : Nat) (p : List UInt8), m ≤ 4611686018427387904 ∧ i ≤ k ∧ x = .int .i64 m ∧ y = .int .i64 i ∧ p.length = i ∧ p ++ low m (k - i) = low n k ∧ wr.ownsRow w.heap.size 5 1 v' p.length (bcells p) ∧ Below w.heap.size w wr) (fun _ _ y _ => k - (Go.RowKit.intOf y).toNat)
  case atStart => exact ⟨n, 0, [], hn, Nat.zero_le _, rfl, rfl, rfl, rfl, World.ownsRow_made _ _ _ (Nat.le_refl _) (by decide) rfl, (Below.refl _ _).alloc (Nat.le_refl _) _⟩
  case round =>
    obtain ⟨m, i, p, hm, hik, rfl, rfl, hpi, hp, hown, hnx⟩ := hrel
    have HQ := Lib.hid hp
    have HPI := Lib.hid hpi
    clear hp hpi
    have hsz := hnx.size
    by_cases hlt : i < k
    · have HD := Lib.hid (low_next (m := m) (q := k - i) (by omega))
      go_wp2_with (at_builtin; refine wpList_append_own _ rfl _ _ 41 rfl w.heap.size 5 i0 (.int .u8 0) 1 1 Tryz.underlying41 hi hz0 hz1 hz2 rfl (by decide) _ _ _ rfl (hown.alloc _) ⟨wr.heap.size, 0, none⟩ 1 1 [.int .u8 ((m : Int) % 256)] rfl rfl ?c1 ?c2 ?c3 ?c4 ?c5 ?_)
      case c1 =>
        intro j y hj
        match j, hj with
        | 0, hj => simp at hj; subst hj; simp [Addr.add]
      case c2 => intro y hy; simp at hy; subst hy; rfl
      case c3 => have := HPI.out; unfold maxLen; omega
      case c4 => have := HPI.out; omega
      case c5 => simp; omega
      intro v' w1 hown' hgrow _
      have R := own_snoc (UInt8.ofNat m) (x := (m : Int) % 256) (by simp) (by omega) hown hnx hown' hgrow
      clear hown' hgrow hown
      go_wp2
      go_roundw
      case rel => exact ⟨m / 256, i + 1, p ++ [UInt8.ofNat m], by omega, by omega, by go_num, by go_num, by rw [List.length_append, HPI.out]; rfl, by rw [List.append_assoc, ← HQ.out, HD.out, show k - (i + 1) = k - i - 1 by omega]; rfl, R.1, R.2⟩
      case measure => simp [Go.RowKit.intOf]; omega
    · obtain rfl : i = k := by omega
      have e : p = low n i := by have := HQ.out; rwa [Nat.sub_self, show low m 0 = [] from by cases m <;> rfl, List.append_nil] at this
      have hs := own_string (dst := 9) Tryz.underlying41 Tryz.underlying5 Tryz.underlying9 hown (by intro c; have := HPI.out; rw [c] at this; simp at this; omega)
      rw [e] at hs
      have HR := Lib.hid hnx
      clear hown hnx
      go_wp2
      go_ret
      exact ⟨rfl, HR.out⟩

/-- What the reference's number is of bytes. -/
def numZ (l : List UInt8) : Int := if 2199023255552 < num l then -1 else num l
theorem num_drop (l : List UInt8) {i : Nat} (h : i < l.length) : num (l.drop i) = l[i].toNat + 256 * num (l.drop (i + 1)) := by
  rw [List.drop_eq_getElem_cons h]
  rfl
theorem num_drop_le : ∀ (i : Nat) (l : List UInt8), num (l.drop i) ≤ num l
  | 0, l => Nat.le_refl _
  | i + 1, [] => Nat.le_refl _
  | i + 1, b :: r => by
    have := num_drop_le i r
    rw [List.drop_succ_cons, num]
    omega
set_option maxHeartbeats 2000000 in
set_option maxRecDepth 100000 in
theorem refNumber_any (s : ByteArray) (hs : s.size ≤ 64) (w : World) : Calls Tryz.prog 69 #[.string s] w fun e w' => e = .returned (.int .i64 (numZ s.data.toList)) ∧ w = w' := by
  have hsl := bytes_size s
  go_enter Tryz.func69, Tryz.ntmps69
  go_wp2
  go_loopw [3, 4] (fun x y wr => ∃ (m i : Nat), x = .int .i64 m ∧ y = .int .i64 ((i : Int) - 1) ∧ i ≤ s.size ∧ m = num (s.data.toList.drop i) ∧ m ≤ 2199023255552 ∧ w = wr) (fun _ y _ => (Go.RowKit.intOf y + 1).toNat)
  case atStart => exact ⟨0, s.size, rfl, by go_num, Nat.le_refl _, by rw [List.drop_of_length_le (by omega)]; rfl, by omega, rfl⟩
  case round =>
    obtain ⟨m, i, rfl, rfl, his, hm, hm2, rfl⟩ := hrel
    by_cases h0 : 0 < i
    · have h0' : (0 : Int) ≤ (i : Int) - 1 := by omega
      have hil : i - 1 < s.data.toList.length := by omega
      have his' : i - 1 < s.size := by omega
      have hnd := num_drop s.data.toList hil
      rw [show i - 1 + 1 = i by omega, ← hm] at hnd
      obtain ⟨b, hb⟩ : ∃ b, s[i - 1] = b := ⟨_, rfl⟩
      have hlb : s.data.toList[i - 1] = b := by rw [← hb, Array.getElem_toList]; rfl
      rw [hlb] at hnd
      have hbl : b.toNat < 256 := b.toNat_lt
      have ew : RowKit.wrap64 (b.toNat : Int) = (b.toNat : Int) := by unfold RowKit.wrap64; omega
      have ew2 : RowKit.wrap64 (256 * (m : Int) + (b.toNat : Int)) = 256 * (m : Int) + (b.toNat : Int) := by unfold RowKit.wrap64; omega
      have HND := Lib.hid hnd
      have HLE := Lib.hid (num_drop_le (i - 1) s.data.toList)
      clear hm hnd hlb hil
      by_cases hbig : (2199023255552 : Int) < 256 * (m : Int) + (b.toNat : Int)
      · have HE : Hid (numZ s.data.toList = -1) := Lib.hid (by unfold numZ; rw [if_pos]; have := HND.out; have := HLE.out; omega)
        go_wp2
        go_ret
        exact ⟨by rw [HE.out]; rfl, rfl⟩
      · go_wp2
        go_roundw
        case rel => exact ⟨256 * m + b.toNat, i - 1, by go_num, by go_num, by omega, by rw [HND.out]; omega, by omega, by first | rfl | trivial⟩
        case measure => simp [Go.RowKit.intOf]; omega
    · obtain rfl : i = 0 := by omega
      have HE : Hid (numZ s.data.toList = (m : Int)) := Lib.hid (by rw [hm, List.drop_zero]; unfold numZ; rw [if_neg]; rw [hm, List.drop_zero] at hm2; omega)
      go_wp2
      go_ret
      exact ⟨by rw [HE.out]; rfl, rfl⟩
theorem refRoom_any (n : Nat) (h : 8 ≤ n) (h2 : n ≤ 1000) (w : World) : Calls Tryz.prog 23 #[.int .i64 n] w fun e w' => e = .returned (.int .i64 (roomN n)) ∧ w = w' := by
  obtain ⟨q, hq⟩ : ∃ q, (n - 2) / 2 = q := ⟨_, rfl⟩
  have hq1 : ((n : Int) - 2) / 2 = (q : Int) := by omega
  have hq2 : q ≤ 1000 := by omega
  have hr : (q : Int) * 64 = (roomN n : Int) := by unfold roomN hsN; rw [hq]; omega
  go_enter Tryz.func23, Tryz.ntmps23
  go_wp2
  go_ret
  exact ⟨by first | rfl | rw [← hr], rfl⟩

/-- How long a text is. -/
def longOf : Value → Nat
  | .string s => s.size
  | _ => 0
def preL (t : Told) : List UInt8 := [116, 97, 114, 114, 121] ++ (low t.half 1 ++ (low t.seals 8 ++ low t.used 4))
theorem preL_len (t : Told) : (preL t).length = 18 := by unfold preL; simp [low_len]
theorem head_pre (t : Told) : headL t = (preL t ++ List.replicate 14 0) ++ (preL t ++ List.replicate 14 0) := by
  have e : halfL t = preL t ++ List.replicate 14 0 := by
    unfold halfL preL
    simp [low]
  unfold headL
  rw [e]
theorem bytes_of {s : ByteArray} {l : List UInt8} (h : s.data.toList = l) : s = ⟨l.toArray⟩ := by
  rw [← h]
def HeadI (t : Told) (w : World) (v : Value) (wr : World) : Prop := ∃ (X : ByteArray) (q : Nat), v = .string X ∧ q ≤ 14 ∧ X.data.toList = preL t ++ List.replicate q 0 ∧ Below w.heap.size w wr
set_option maxHeartbeats 2000000 in
set_option maxRecDepth 100000 in
theorem refHead_any (t : Told) (h1 : t.half ≤ 1) (h2 : t.seals ≤ 4611686018427387904) (h3 : t.used ≤ 4611686018427387904) (w : World) : Calls Tryz.prog 15 #[.int .i64 t.seals, .int .i64 t.half, .int .i64 t.used] w (TextB (headB t) w) := by
  have HL := Lib.hid (fun (n k : Nat) (hn : n ≤ 4611686018427387904) (hk0 : 0 < k) (hk : k ≤ 8) (W : World) => refLow_any n k hn hk0 hk W)
  obtain ⟨b1, hb1⟩ : ∃ b : ByteArray, (⟨(low t.half 1).toArray⟩ : ByteArray) = b := ⟨_, rfl⟩
  obtain ⟨b2, hb2⟩ : ∃ b : ByteArray, (⟨(low t.seals 8).toArray⟩ : ByteArray) = b := ⟨_, rfl⟩
  obtain ⟨b3, hb3⟩ : ∃ b : ByteArray, (⟨(low t.used 4).toArray⟩ : ByteArray) = b := ⟨_, rfl⟩
  have L1 : Hid (∀ W, Calls Tryz.prog 46 #[.int .i64 t.half, .int .i64 1] W (TextB b1 W)) := Lib.hid (fun W => hb1 ▸ HL.out t.half 1 (by omega) (by omega) (by omega) W)
  have L2 : Hid (∀ W, Calls Tryz.prog 46 #[.int .i64 t.seals, .int .i64 8] W (TextB b2 W)) := Lib.hid (fun W => hb2 ▸ HL.out t.seals 8 h2 (by omega) (by omega) W)
  have L3 : Hid (∀ W, Calls Tryz.prog 46 #[.int .i64 t.used, .int .i64 4] W (TextB b3 W)) := Lib.hid (fun W => hb3 ▸ HL.out t.used 4 h3 (by omega) (by omega) W)
  have hl1 : b1.size = 1 := by rw [← hb1]; simp [ByteArray.size, low_len]
  have hl2 : b2.size = 8 := by rw [← hb2]; simp [ByteArray.size, low_len]
  have hl3 : b3.size = 4 := by rw [← hb3]; simp [ByteArray.size, low_len]
  have HP : Hid ((((⟨#[116, 97, 114, 114, 121]⟩ : ByteArray) ++ b1) ++ b2 ++ b3).data.toList = preL t ++ List.replicate 0 0) := Lib.hid (by
    rw [append_list, append_list, append_list, ← hb1, ← hb2, ← hb3]
    unfold preL
    simp)
  have HPL := Lib.hid (preL_len t)
  have HH : Hid (∀ X : ByteArray, X.data.toList = preL t ++ List.replicate 14 0 → X ++ X = headB t) := Lib.hid (fun X hX => by
    have := bytes_of (s := X ++ X) (l := headL t) (by rw [append_list, hX, head_pre])
    exact this)
  generalize headB t = Y at HH ⊢
  clear hb1 hb2 hb3 HL
  go_enter Tryz.func15, Tryz.ntmps15
  go_wp2_with (first
    | (go_at_call 46; (with_reducible refine (L1.out _).mono ?_); rintro e w1 ⟨rfl, hz⟩; have HZ1 := Lib.hid hz; clear hz)
    | (go_at_call 46; (with_reducible refine (L2.out _).mono ?_); rintro e w2 ⟨rfl, hz⟩; have HZ2 := Lib.hid (below_trans HZ1.out hz); clear hz)
    | (go_at_call 46; (with_reducible refine (L3.out _).mono ?_); rintro e w3 ⟨rfl, hz⟩; have HZ3 := Lib.hid (below_trans HZ2.out hz); clear hz))
  go_loopw [7] (fun x wr => HeadI t w x wr) (fun x _ => 32 - longOf x)
  case atStart => exact ⟨_, 0, rfl, by omega, HP.out, HZ3.out⟩
  case round =>
    obtain ⟨X, q, rfl, hq, hX, hbe⟩ := hrel
    have HX := Lib.hid hX
    have HB := Lib.hid hbe
    have hxs : X.size = 18 + q := by rw [← bytes_size, hX, List.length_append, HPL.out, List.length_replicate]
    clear hX hbe
    by_cases hlt : q < 14
    · have hx' : (X.size : Int) < 32 := by omega
      go_wp2
      go_roundw
      case rel => exact ⟨_, q + 1, rfl, by omega, by rw [append_list, HX.out, List.append_assoc, ← List.replicate_succ'], HB.out⟩
      case measure =>
        show 32 - (X ++ ⟨#[0]⟩ : ByteArray).size < 32 - X.size
        rw [ByteArray.size_append]
        have : (⟨#[0]⟩ : ByteArray).size = 1 := rfl
        omega
    · have hx' : ¬ (X.size : Int) < 32 := by omega
      obtain rfl : q = 14 := by omega
      have HE := Lib.hid (HH.out X HX.out)
      go_wp2
      go_ret
      exact ⟨by rw [← HE.out]; rfl, HB.out⟩
end Go.Proofs.YtlpkalfbcphkmaaGreat.Disk.Jn

/-
  Contracts of the reference of journal: Bytes, zeros.
-/
namespace Go.Proofs.YtlpkalfbcphkmaaGreat.Disk.Jn
open Go.ChangeShapes Go.WideShapes Go.ChangeAt Go.RowKit Go.Lib

/-- So many sectors' bytes. -/
def BytI (ls : List ByteArray) (b0 : Nat) (w : World) (v : Value) (i : Nat) (wr : World) : Prop := ∃ X : ByteArray, v = .string X ∧ X.size = 64 * i ∧ X.data.toList = ((ls.drop b0).take i).flatMap (·.data.toList) ∧ Below w.heap.size w wr
set_option maxHeartbeats 4000000 in
set_option maxRecDepth 100000 in
theorem refBytes_any {vS vW : Value} {ls : List ByteArray} {w : World} (hS : SRow w vS ls) (hW : WRow w vW []) (h8 : 8 ≤ ls.length) (hn : ls.length ≤ 1000) (h64 : Secs64 ls) {half many : Nat} (hh : half ≤ 1) (hm : many ≤ roomN ls.length) :
    Calls Tryz.prog 37 #[.agg #[vS, vW], .int .i64 half, .int .i64 many] w (TextB ⟨((bytesOf ls half).take many).toArray⟩ w) := by
  have hle := hs_le h8 hh
  obtain ⟨q, hq⟩ : ∃ q, hsN ls.length = q := ⟨_, rfl⟩
  obtain ⟨b0, hb0⟩ : ∃ b, begN ls.length half = b := ⟨_, rfl⟩
  have hb1 : b0 = 2 + half * q := by rw [← hb0, ← hq]; rfl
  have hroom : roomN ls.length = 64 * q := by rw [← hq]; rfl
  have hbq : b0 + q ≤ ls.length := by rw [← hb0, ← hq]; exact hle
  have HFIN : Hid (∀ X : ByteArray, X.data.toList = ((ls.drop b0).take q).flatMap (·.data.toList) → X.extract 0 many = ⟨((bytesOf ls half).take many).toArray⟩) := Lib.hid (fun X hX => by
    refine bytes_of ?_
    unfold bytesOf
    rw [hb0, hq, ← hX, extract_list])
  have HG := Lib.hid (fun W (hb : Below w.heap.size w W) (I : Int) (i : Nat) (hI : I = i) (hi : i < ls.length) => (show Calls Tryz.prog 70 #[.agg #[vS, vW], .int .i64 I] W (TextB ls[i] W) from by
    subst hI
    exact refGet_any (hS.below hb) (hW.below hb) (by simp) i hi))
  have H6 := Lib.hid (fun (i : Nat) (hi : i < ls.length) => h64 ls[i] (List.getElem_mem hi))
  have HNX : Hid (∀ (i : Nat) (hi : b0 + i < ls.length), ((ls.drop b0).take (i + 1)).flatMap (·.data.toList) = ((ls.drop b0).take i).flatMap (·.data.toList) ++ ls[b0 + i].data.toList) := Lib.hid (fun i hi => by
    rw [List.take_succ_eq_append_getElem (by rw [List.length_drop]; omega), List.flatMap_append]
    simp)
  obtain ⟨aS, cap, rfl⟩ := hS.slice
  obtain ⟨aW, capW, rfl⟩ : ∃ a c, vW = .slice a 0 c := hW.slice
  have hq1 : ((ls.length : Int) - 2) / 2 = (q : Int) := by have : hsN ls.length = (ls.length - 2) / 2 := rfl; omega
  rw [hroom] at hm
  clear hS hW h64 hle hb0 hq hroom
  generalize bytesOf ls half = Y at HFIN ⊢
  have HW1 := Lib.hid (al w (.cells #[.slice aS ls.length cap, .slice aW 0 capW] 25))
  have HBX := Lib.hid (Box.made w [.slice aS ls.length cap, .slice aW 0 capW] 25)
  rcases (by omega : half = 0 ∨ half = 1) with rfl | rfl
  all_goals (
    go_enter Tryz.func37, Tryz.ntmps37
    go_wp2)
  all_goals (
    generalize w.alloc (.cells #[.slice aS ls.length cap, .slice aW 0 capW] 25) = W1 at *)
  · go_loopw [8, 9] (fun x y wr => ∃ i : Nat, y = .int .i64 i ∧ i ≤ q ∧ BytI ls b0 w x i wr ∧ Below W1.heap.size W1 wr) (fun _ y _ => q - (Go.RowKit.intOf y).toNat)
    case atStart => exact ⟨0, rfl, Nat.zero_le _, ⟨_, rfl, rfl, rfl, HW1.out⟩, Below.refl _ _⟩
    case round =>
      obtain ⟨i, rfl, hiq, ⟨X, rfl, hxs, hX, hbe⟩, hb1⟩ := hrel
      have HX := Lib.hid hX
      have HB := Lib.hid hbe
      have HB1 := Lib.hid hb1
      clear hX hbe hb1
      by_cases hlt : i < q
      · have hil : b0 + i < ls.length := by omega
        have HN1 := Lib.hid (HNX.out i hil)
        have hs6 := H6.out _ hil
        have HG1 := Lib.hid (fun W hb (I : Int) hI => HG.out W hb I (b0 + i) hI hil)
        generalize ls[b0 + i] = s at *
        obtain ⟨d0, d1⟩ := (HBX.out.below HB1.out).c2
        go_wp2_with (first
          | (go_at_call 70; (with_reducible refine (HG1.out _ HB.out _ (by omega)).mono ?_); rintro e w5 ⟨rfl, hz⟩; have HZ := Lib.hid hz; clear hz))
        go_roundw
        case rel => exact ⟨i + 1, by go_num, by omega, ⟨_, rfl, by rw [ByteArray.size_append]; omega, by rw [append_list, HX.out, HN1.out], below_trans HB.out HZ.out⟩, below_trans HB1.out HZ.out⟩
        case measure => simp [Go.RowKit.intOf]; omega
      · obtain rfl : i = q := by omega
        have HE := Lib.hid (HFIN.out X HX.out)
        have hmx : (many : Int) ≤ (X.size : Int) := by omega
        go_wp2
        go_ret
        exact ⟨by rw [← HE.out]; rfl, HB.out⟩
  · go_loopw [8, 9] (fun x y wr => ∃ i : Nat, y = .int .i64 i ∧ i ≤ q ∧ BytI ls b0 w x i wr ∧ Below W1.heap.size W1 wr) (fun _ y _ => q - (Go.RowKit.intOf y).toNat)
    case atStart => exact ⟨0, rfl, Nat.zero_le _, ⟨_, rfl, rfl, rfl, HW1.out⟩, Below.refl _ _⟩
    case round =>
      obtain ⟨i, rfl, hiq, ⟨X, rfl, hxs, hX, hbe⟩, hb1⟩ := hrel
      have HX := Lib.hid hX
      have HB := Lib.hid hbe
      have HB1 := Lib.hid hb1
      clear hX hbe hb1
      by_cases hlt : i < q
      · have hil : b0 + i < ls.length := by omega
        have HN1 := Lib.hid (HNX.out i hil)
        have hs6 := H6.out _ hil
        have HG1 := Lib.hid (fun W hb (I : Int) hI => HG.out W hb I (b0 + i) hI hil)
        generalize ls[b0 + i] = s at *
        obtain ⟨d0, d1⟩ := (HBX.out.below HB1.out).c2
        go_wp2_with (first
          | (go_at_call 70; (with_reducible refine (HG1.out _ HB.out _ (by omega)).mono ?_); rintro e w5 ⟨rfl, hz⟩; have HZ := Lib.hid hz; clear hz))
        go_roundw
        case rel => exact ⟨i + 1, by go_num, by omega, ⟨_, rfl, by rw [ByteArray.size_append]; omega, by rw [append_list, HX.out, HN1.out], below_trans HB.out HZ.out⟩, below_trans HB1.out HZ.out⟩
        case measure => simp [Go.RowKit.intOf]; omega
      · obtain rfl : i = q := by omega
        have HE := Lib.hid (HFIN.out X HX.out)
        have hmx : (many : Int) ≤ (X.size : Int) := by omega
        go_wp2
        go_ret
        exact ⟨by rw [← HE.out]; rfl, HB.out⟩
end Go.Proofs.YtlpkalfbcphkmaaGreat.Disk.Jn

/-
  Contract of the reference of journal: Like, of two that are alike.
-/
namespace Go.Proofs.YtlpkalfbcphkmaaGreat.Disk.Jn
open Go.ChangeShapes Go.WideShapes Go.ChangeAt Go.RowKit Go.Lib

theorem Box.made2 (w : World) (us vs : List Value) (T U : TypeId) : Box w.heap.size us ((w.alloc (.cells us.toArray T)).alloc (.cells vs.toArray U)) ∧ Box (w.heap.size + 1) vs ((w.alloc (.cells us.toArray T)).alloc (.cells vs.toArray U)) := by
  refine ⟨(Box.made w us T).below (al _ _), ?_⟩
  have := Box.made (w.alloc (.cells us.toArray T)) vs U
  rwa [show (w.alloc (.cells us.toArray T)).heap.size = w.heap.size + 1 by simp] at this
set_option maxHeartbeats 4000000 in
set_option maxRecDepth 100000 in
theorem refLike_yes {aS aW aG aR bS bW bG bR : Value} {J : JN} {w : World} (ha : JRow w aS aW aG aR J) (hb : JRow w bS bW bG bR J) (hl : J.ls.length ≤ 1000) (hw : J.ws.length ≤ 1000) (hg : J.g.length ≤ 1000000) (hr : J.l.length ≤ 1000000) :
    Calls Tryz.prog 10 #[.agg #[aS, aW, .int .i64 J.s, .int .i64 J.h, .int .i64 J.u, aG, aR], .agg #[bS, bW, .int .i64 J.s, .int .i64 J.h, .int .i64 J.u, bG, bR]] w (BoolB true w) := by
  obtain ⟨hx, hy⟩ := Box.made2 w [aS, aW, .int .i64 J.s, .int .i64 J.h, .int .i64 J.u, aG, aR] [bS, bW, .int .i64 J.s, .int .i64 J.h, .int .i64 J.u, bG, bR] 27 27
  have HX := Lib.hid hx
  have HY := Lib.hid hy
  have HA := Lib.hid (below_trans (al w (.cells #[aS, aW, .int .i64 J.s, .int .i64 J.h, .int .i64 J.u, aG, aR] 27)) (al (w.alloc (.cells #[aS, aW, .int .i64 J.s, .int .i64 J.h, .int .i64 J.u, aG, aR] 27)) (.cells #[bS, bW, .int .i64 J.s, .int .i64 J.h, .int .i64 J.u, bG, bR] 27)))
  have HSG := Lib.hid (fun W (h : Below w.heap.size w W) => (show Calls Tryz.prog 39 #[aG, bG] W (BoolB true W) from by
    have := SameB_any (ha.below h).rG (hb.below h).rG hg hg
    rwa [decide_eq_true rfl] at this))
  have HSR := Lib.hid (fun W (h : Below w.heap.size w W) => (show Calls Tryz.prog 39 #[aR, bR] W (BoolB true W) from by
    have := SameB_any (ha.below h).rR (hb.below h).rR hr hr
    rwa [decide_eq_true rfl] at this))
  have HSD := Lib.hid (fun W (h : Below w.heap.size w W) => Like_yes (ha.below h).rS (ha.below h).rW (hb.below h).rS (hb.below h).rW hl hw)
  obtain ⟨s, hs⟩ : ∃ s, J.s = s := ⟨_, rfl⟩
  obtain ⟨h, hh⟩ : ∃ s, J.h = s := ⟨_, rfl⟩
  obtain ⟨u, hu⟩ : ∃ s, J.u = s := ⟨_, rfl⟩
  rw [hs, hh, hu] at HX HY HA ⊢
  clear hx hy ha hb hs hh hu
  go_enter Tryz.func10, Tryz.ntmps10
  go_upto_region 1 with fail
  generalize (w.alloc (.cells #[aS, aW, .int .i64 s, .int .i64 h, .int .i64 u, aG, aR] 27)).alloc (.cells #[bS, bW, .int .i64 s, .int .i64 h, .int .i64 u, bG, bR] 27) = W0 at *
  obtain ⟨x0, x1, x2, x3, x4, x5, x6⟩ := HX.out.c7
  obtain ⟨y0, y1, y2, y3, y4, y5, y6⟩ := HY.out.c7
  go_wp2_with (first
    | (go_at_call 39; (with_reducible refine (HSG.out _ HA.out).mono ?_); rintro e w1 ⟨rfl, hz⟩; have HZ1 := Lib.hid hz; have HB1 := Lib.hid (below_trans HA.out hz); clear x0 x1 x2 x3 x4 x5 x6 y0 y1 y2 y3 y4 y5 y6; obtain ⟨x0, x1, x2, x3, x4, x5, x6⟩ := (HX.out.below hz).c7; obtain ⟨y0, y1, y2, y3, y4, y5, y6⟩ := (HY.out.below hz).c7; clear hz)
    | (go_at_call 39; (with_reducible refine (HSR.out _ HB1.out).mono ?_); rintro e w2 ⟨rfl, hz⟩; have HZ2 := Lib.hid (below_trans HZ1.out hz); have HB2 := Lib.hid (below_trans HB1.out hz); clear x0 x1 x2 x3 x4 x5 x6 y0 y1 y2 y3 y4 y5 y6; obtain ⟨x0, x1, x2, x3, x4, x5, x6⟩ := (HX.out.below HZ2.out).c7; obtain ⟨y0, y1, y2, y3, y4, y5, y6⟩ := (HY.out.below HZ2.out).c7; clear hz)
    | (go_at_call 27; (with_reducible refine (HSD.out _ HB2.out).mono ?_); rintro e w3 ⟨rfl, hz⟩; have HB3 := Lib.hid (below_trans HB2.out hz); clear hz))
  go_ret
  exact ⟨rfl, HB3.out⟩
end Go.Proofs.YtlpkalfbcphkmaaGreat.Disk.Jn
