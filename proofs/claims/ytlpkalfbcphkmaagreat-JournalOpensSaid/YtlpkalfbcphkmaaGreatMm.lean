/-
  Joined: Eqs, Frame, JEqual, Shelf2.
-/
import Derived.Test.YtlpkalfbcphkmaaGreatMl
import Derived.Deep.Draws
import Derived.Test.YtlpkalfbcphkmaaGreatMi
import Derived.Test.YtlpkalfbcphkmaaGreatMg
import Derived.Deep.QuietTactic
import Derived.BigQuiet
import Derived.Deep.RegionWith
import Derived.Lib.Strings
import Derived.Shelf.Strings.Builder1
import Derived.Shelf.Strings.Builder2
import Derived.Shelf.Strings.OnBuilder
import Derived.Shelf.Strings.BuilderF
import Derived.Shelf.Strings.Prefix
import Derived.Shelf.Bits.Mul64
import Derived.Shelf.Strings.Repeat
import Derived.Shelf.Slices.Equal
import Derived.Shelf.Slices.Empties2
import Derived.Test.YtlpkalfbcphkmaaGreatProg

/-
  The contracts of On and Of with their answer under a name; small facts.
-/
namespace Go.Proofs.YtlpkalfbcphkmaaGreat.Crc
open Go.ChangeShapes Go.WideShapes Go.ChangeAt Go.RowKit

theorem app_data (a b : ByteArray) : (a ++ b).data.toList = a.data.toList ++ b.data.toList := by simp
theorem drawnB (w : World) (n : Nat) : Below w.heap.size w (w.drewN n) := ⟨rfl, rfl, rfl, Nat.le_refl _, fun _ _ => rfl⟩
theorem On_eq {c n : Nat} {s : ByteArray} (h : c < 4294967296) (hs : s.size ≤ maxLen) (e : crcOn c s.data.toList = n) (w : World) : Calls Tryz.prog 112 #[.int .u32 c, .string s] w (U32B n w) := e ▸ On_any c h s hs w
theorem Of_eq {n : Nat} {s : ByteArray} (hs : s.size ≤ maxLen) (e : crcOn 0 s.data.toList = n) (w : World) : Calls Tryz.prog 98 #[.string s] w (U32B n w) := e ▸ Of_any s hs w
end Go.Proofs.YtlpkalfbcphkmaaGreat.Crc

/-
  Contracts of Frame and first of package frame.
-/
namespace Go.Proofs.YtlpkalfbcphkmaaGreat.Frame
open Go.ChangeShapes Go.WideShapes Go.ChangeAt Go.RowKit Go.Lib
open Go.Proofs.YtlpkalfbcphkmaaGreat.Crc (four crcOn crcOn_lt U32B TextB Of_eq Bytes_any)

set_option maxHeartbeats 1000000 in
set_option maxRecDepth 100000 in
theorem Frame_yes (d : ByteArray) (w : World) (h : d.size ≤ 4096) : Calls Tryz.prog 78 #[.string d] w (TextI ⟨(frm d).toArray⟩ 0 w) := by
  obtain ⟨c, HC⟩ : ∃ c, Hid (crcOn 0 d.data.toList = c) := ⟨_, rfl⟩
  have hc : c < 4294967296 := HC.out ▸ crcOn_lt (by omega) _
  obtain ⟨a, HA⟩ : ∃ a : ByteArray, Hid ((⟨(digs (fold d.size)).toArray⟩ : ByteArray) = a) := ⟨_, rfl⟩
  obtain ⟨z, HZ⟩ : ∃ z : ByteArray, Hid ((⟨(four c).toArray⟩ : ByteArray) = z) := ⟨_, rfl⟩
  obtain ⟨f, HFm⟩ : ∃ f : ByteArray, Hid ((⟨(frm d).toArray⟩ : ByteArray) = f) := ⟨_, rfl⟩
  have HF : Hid (a ++ d ++ z = f) := by
    unfold Hid
    rw [← HA.out, ← HZ.out, ← HFm.out]
    exact same_bytes (by simp [frm, HC.out])
  have h9 : a.size ≤ 9 := by
    have := digs_len9 (fold d.size) (by rw [fold_nat]; omega)
    rw [← HA.out, mk_size]; exact this
  have h4 : z.size ≤ 4 := by rw [← HZ.out, mk_size]; exact Nat.le_of_eq (four_len c)
  have HN : Hid (∀ W, Calls Tryz.prog 96 #[.int .i64 (d.size : Int)] W (TextI a 0 W)) := fun W => HA.out ▸ Number_yes (d.size : Int) W (mayB_t.2 ⟨by omega, by omega⟩)
  have HO : Hid (∀ W, Calls Tryz.prog 98 #[.string d] W (U32B c W)) := fun W => Of_eq (by unfold maxLen; omega) HC.out W
  have HB : Hid (∀ W, Calls Tryz.prog 97 #[.int .u32 c] W (Text z W)) := fun W => HZ.out ▸ Bytes_any c hc W
  rw [HFm.out]
  clear HC HA HZ HFm
  go_enter Tryz.func78, Tryz.ntmps78
  go_wp2_with fail
  refine (HN.out _).mono ?_
  rintro e w1 ⟨rfl, hb1⟩
  have HB1 := Lib.hid hb1
  clear hb1
  go_wp2_with fail
  refine (HO.out _).mono ?_
  rintro e w2 ⟨rfl, hb2⟩
  have HB2 := Lib.hid hb2
  clear hb2
  go_wp2_with fail
  refine (HB.out _).mono ?_
  rintro e w3 ⟨rfl, hb3⟩
  have HB3 := Lib.hid hb3
  clear hb3
  go_wp2_with fail
  go_ret2
  rw [HF.out]
  exact ⟨rfl, below_trans (below_trans HB1.out HB2.out) HB3.out⟩

theorem Frame_no (d : ByteArray) (w : World) (h : 4096 < d.size) (hs : d.size ≤ maxLen) : Calls Tryz.prog 78 #[.string d] w (TextI ⟨#[]⟩ 3 w) := by
  unfold maxLen at hs
  go_enter Tryz.func78, Tryz.ntmps78
  go_wp2
  go_ret2
  exact ⟨rfl, Below.refl _ _⟩

theorem bytes_yes {x y : ByteArray} (h : x = y) : (x.toList == y.toList) = true := by rw [h]; simp
theorem bytes_no {x y : ByteArray} (h : x ≠ y) : (x.toList == y.toList) = false := by
  cases hb : x.toList == y.toList with
  | false => rfl
  | true =>
    rw [beq_iff_eq, toList_data, toList_data] at hb
    exact absurd (same_bytes hb) h
theorem below_drew (w : World) (n : Nat) : Below w.heap.size w (w.drewN n) := ⟨rfl, rfl, rfl, Nat.le_refl _, fun _ _ => rfl⟩
/-- Two texts and whether there is a record. -/
def ThreeB (d r : ByteArray) (b : Bool) (w : World) (e : Ending) (w' : World) : Prop := e = .returned (.tuple #[.string d, .string r, .bool b]) ∧ Below w.heap.size w w'

theorem four_cut (t : ByteArray) (k : Nat) (h : k + 4 ≤ t.size) : (t.extract k t.size).extract 0 4 = t.extract k (k + 4) := by
  apply same_bytes
  rw [cut_list, cut_list, cut_list, List.drop_zero, List.take_take]
  congr 1; omega
theorem four_rest (t : ByteArray) (k : Nat) (_h : k + 4 ≤ t.size) : (t.extract k t.size).extract 4 (t.extract k t.size).size = t.extract (k + 4) t.size := by
  apply same_bytes
  rw [drop_list, drop_list, drop_list, List.drop_drop]

set_option maxHeartbeats 2000000 in
set_option maxRecDepth 100000 in
/-- first, where a number of bytes was read that are there. -/
theorem first_there (s t : ByteArray) (k : Nat) (hr : Rd s k t 0) (hs : s.size ≤ maxLen) (hk : k ≤ 4096) (hkt : k + 4 ≤ t.size) (w : World) :
    (t.extract k (k + 4) ≠ ⟨(four (crcOn 0 (t.extract 0 k).data.toList)).toArray⟩ → Calls Tryz.prog 104 #[.string s] w (ThreeB ⟨#[]⟩ ⟨#[]⟩ false w)) ∧
    (t.extract k (k + 4) = ⟨(four (crcOn 0 (t.extract 0 k).data.toList)).toArray⟩ → Calls Tryz.prog 104 #[.string s] w (ThreeB (t.extract 0 k) (t.extract (k + 4) t.size) true w)) := by
  have HR := Lib.hid (fun W => ReadNumber_rd hr hs W)
  have hts := (rd_size hr).1
  unfold maxLen at hs
  have HY4 := Lib.hid (four_cut t k hkt)
  have HYR := Lib.hid (four_rest t k hkt)
  obtain ⟨x, HX⟩ : ∃ x, Hid (t.extract 0 k = x) := ⟨_, rfl⟩
  have hxs : x.size ≤ 4096 := by rw [← HX.out, ByteArray.size_extract]; omega
  obtain ⟨y, HY⟩ : ∃ y, Hid (t.extract k t.size = y) := ⟨_, rfl⟩
  have hy4 : 4 ≤ y.size := by rw [← HY.out, ByteArray.size_extract]; omega
  have hym : y.size ≤ 9223372036854775807 := by rw [← HY.out, ByteArray.size_extract]; omega
  obtain ⟨c, HC⟩ : ∃ c, Hid (crcOn 0 x.data.toList = c) := ⟨_, rfl⟩
  have hc : c < 4294967296 := HC.out ▸ crcOn_lt (by omega) _
  obtain ⟨z, HZ⟩ : ∃ z : ByteArray, Hid ((⟨(four c).toArray⟩ : ByteArray) = z) := ⟨_, rfl⟩
  have HO : Hid (∀ W, Calls Tryz.prog 98 #[.string x] W (U32B c W)) := fun W => Of_eq (by unfold maxLen; omega) HC.out W
  have HB : Hid (∀ W, Calls Tryz.prog 97 #[.int .u32 c] W (Text z W)) := fun W => HZ.out ▸ Bytes_any c hc W
  rw [HX.out, HC.out, HZ.out, ← HYR.out, ← HY4.out, HY.out]
  obtain ⟨f4, HF4⟩ : ∃ f4, Hid (y.extract 0 4 = f4) := ⟨_, rfl⟩
  obtain ⟨r, HRR⟩ : ∃ r, Hid (y.extract 4 y.size = r) := ⟨_, rfl⟩
  rw [HF4.out, HRR.out]
  clear HY4 HYR hr HC HZ
  have i1 : (0 : Int) ≤ (k : Int) := by omega
  have i2 : (k : Int) ≤ (t.size : Int) := by omega
  refine ⟨fun hne => ?_, fun he => ?_⟩
  · have HNE := Lib.hid (bytes_no hne)
    clear hne
    go_enter Tryz.func104, Tryz.ntmps104
    go_wp2_with (go_at_call 114; (with_reducible refine (HR.out _).mono ?_); rintro e w1 ⟨rfl, hb1⟩)
    have HB1 := Lib.hid hb1
    clear hb1
    go_quiet (fail)
    rw [HX.out, HY.out]
    have hf4 := HF4.out
    have hne := HNE.out
    go_wp2_with fail
    go_region_with ((first
      | (go_at_call 98; (with_reducible refine (HO.out _).mono ?_); rintro e x1 ⟨rfl, hx1⟩)
      | (go_at_call 97; (with_reducible refine (HB.out _).mono ?_); rintro e x2 ⟨rfl, hx2⟩)))
    all_goals (try go_wp2_with fail)
    all_goals go_ret3
    all_goals exact ⟨rfl, below_trans HB1.out (below_trans (below_drew w1 _) (below_trans hx1 hx2))⟩
  · subst he
    have HEE := Lib.hid (bytes_yes (rfl : f4 = f4))
    go_enter Tryz.func104, Tryz.ntmps104
    go_wp2_with (go_at_call 114; (with_reducible refine (HR.out _).mono ?_); rintro e w1 ⟨rfl, hb1⟩)
    have HB1 := Lib.hid hb1
    clear hb1
    go_quiet (fail)
    rw [HX.out, HY.out]
    have hf4 := HF4.out
    have hee := HEE.out
    go_wp2_with fail
    go_region_with ((first
      | (go_at_call 98; (with_reducible refine (HO.out _).mono ?_); rintro e x1 ⟨rfl, hx1⟩)
      | (go_at_call 97; (with_reducible refine (HB.out _).mono ?_); rintro e x2 ⟨rfl, hx2⟩)))
    all_goals (try go_wp2_with fail)
    all_goals go_quiet (fail)
    all_goals rw [HRR.out]
    all_goals go_wp2_with fail
    all_goals go_ret3
    all_goals exact ⟨rfl, below_trans HB1.out (below_trans (below_drew w1 _) (below_trans hx1 (below_trans hx2 (below_drew x2 _))))⟩

set_option maxHeartbeats 2000000 in
set_option maxRecDepth 100000 in
/-- first, where no number of bytes was read that are there. -/
theorem first_not (s t : ByteArray) (n b : Int) (hr : Rd s n t b) (hs : s.size ≤ maxLen) (h : b ≠ 0 ∨ (b = 0 ∧ n < 0) ∨ (b = 0 ∧ 4096 < n) ∨ (b = 0 ∧ 0 ≤ n ∧ n ≤ 4096 ∧ (t.size : Int) < n + 4)) (w : World) :
    Calls Tryz.prog 104 #[.string s] w (ThreeB ⟨#[]⟩ ⟨#[]⟩ false w) := by
  have HR := Lib.hid (fun W => ReadNumber_rd hr hs W)
  have hts := rd_size hr
  unfold maxLen at hs
  rcases h with h1 | ⟨rfl, h1⟩ | ⟨rfl, h1⟩ | ⟨rfl, h1, h2, h3⟩
  · have hx : (b != 0) = true := by simpa using h1
    clear h1 hr
    go_enter Tryz.func104, Tryz.ntmps104
    go_wp2_with (go_at_call 114; (with_reducible refine (HR.out _).mono ?_); rintro e x1 ⟨rfl, hx1⟩)
    go_ret3
    exact ⟨rfl, hx1⟩
  all_goals
    clear hr
    go_enter Tryz.func104, Tryz.ntmps104
    go_wp2_with (go_at_call 114; (with_reducible refine (HR.out _).mono ?_); rintro e x1 ⟨rfl, hx1⟩)
    go_ret3
    exact ⟨rfl, hx1⟩

/-- first, where the text begins with a record. -/
theorem first_is {s d r : ByteArray} (h : Is s d r) (hs : s.size ≤ maxLen) (w : World) : Calls Tryz.prog 104 #[.string s] w (ThreeB d r true w) := by
  obtain ⟨n, t, b, hr, h1⟩ := looks s
  rcases h1 with ⟨_, h⟩ | ⟨_, _, h⟩ | ⟨_, _, h⟩ | ⟨_, _, _, _, _, h⟩ | ⟨_, _, _, _, _, _, h⟩ | ⟨k, rfl, rfl, hk, hkt, he, hi⟩
  iterate 5 exact absurd ‹Is s d r› (h _ _)
  obtain ⟨rfl, rfl⟩ := is_det h hi
  exact (first_there s t k hr hs hk hkt w).2 he
/-- first, where the text begins with none. -/
theorem first_no {s : ByteArray} (h : No s) (hs : s.size ≤ maxLen) (w : World) : Calls Tryz.prog 104 #[.string s] w (ThreeB ⟨#[]⟩ ⟨#[]⟩ false w) := by
  obtain ⟨n, t, b, hr, h1⟩ := looks s
  rcases h1 with ⟨hb, _⟩ | ⟨hb, hn, _⟩ | ⟨hb, hn, _⟩ | ⟨k, hb, hn, hk, ht, _⟩ | ⟨k, rfl, rfl, hk, hkt, he, _⟩ | ⟨k, rfl, rfl, hk, hkt, he, hi⟩
  · exact first_not s t n b hr hs (.inl hb) w
  · exact first_not s t n b hr hs (.inr (.inl ⟨hb, hn⟩)) w
  · exact first_not s t n b hr hs (.inr (.inr (.inl ⟨hb, hn⟩))) w
  · exact first_not s t n b hr hs (.inr (.inr (.inr ⟨hb, by omega, by omega, by omega⟩))) w
  · exact (first_there s t k hr hs hk hkt w).1 he
  · exact absurd hi (h _ _)
end Go.Proofs.YtlpkalfbcphkmaaGreat.Frame

/-
  Contracts of slices.Equal at rows of texts, and of the reference's Same.
-/
namespace Go.Proofs.YtlpkalfbcphkmaaGreat.Disk.Jn
open Go.ChangeShapes Go.WideShapes Go.ChangeAt Go.RowKit Go.Lib

set_option maxHeartbeats 2000000 in
set_option maxRecDepth 100000 in
theorem Equal_any {va vb : Value} {la lb : List ByteArray} {w : World} (ha : SRow w va la) (hb : SRow w vb lb) (h1 : la.length ≤ 1000000) (h2 : lb.length ≤ 1000000) : Calls Tryz.prog 40 #[va, vb] w (BoolB (decide (la = lb)) w) := by
  obtain ⟨aA, capA, rfl⟩ := ha.slice
  obtain ⟨aB, capB, rfl⟩ := hb.slice
  have HA := Lib.hid ha
  have HB := Lib.hid hb
  clear ha hb
  by_cases hl : la.length = lb.length
  case neg =>
    have HN : Hid (decide (la = lb) = false) := decide_eq_false fun e => hl (by rw [e])
    have hn : ((la.length : Int) != (lb.length : Int)) = true := by simp; omega
    clear HA HB
    go_enter Tryz.func40, Tryz.ntmps40
    go_wp2
    go_ret
    exact ⟨ret_bool HN.out.symm, Below.refl _ _⟩
  have HL := Lib.hid hl
  have HEND : Hid (la.take la.length = lb.take la.length → decide (la = lb) = true) := fun h => decide_eq_true (by rwa [List.take_length, HL.out, List.take_length] at h)
  rw [← hl] at HB
  go_enter Tryz.func40, Tryz.ntmps40
  rw [← hl]
  clear hl
  go_wp2
  go_loopw [13] (fun i wr => ∃ k q : Nat, k ≤ la.length ∧ i = .int .i64 k ∧ wr = w.drewN q ∧ Hid (la.take k = lb.take k)) (fun i _ => la.length - (RowKit.intOf i).toNat)
  case atStart => exact ⟨0, 0, Nat.zero_le _, rfl, rfl, rfl⟩
  case round =>
    obtain ⟨k, q, hk, rfl, rfl, HT⟩ := hrel
    by_cases hlt : k < la.length
    · have hlt2 : k < lb.length := by have := HL.out; omega
      obtain ⟨g, rfl, hc, hg, hce⟩ := HA.out.at hlt
      rw [HL.out] at HB
      obtain ⟨g', rfl, hc', hg', hce'⟩ := HB.out.at hlt2
      rw [← HL.out] at HB hc'
      have b1 : (0 : Int) ≤ k := by omega
      have b2 : (k : Int) < la.length := by omega
      have HX : Hid (la[k] = lb[k] → la.take (k + 1) = lb.take (k + 1)) := fun e => by rw [List.take_succ_eq_append_getElem hlt, List.take_succ_eq_append_getElem hlt2, HT.out, e]
      have HY : Hid (la[k] ≠ lb[k] → decide (la = lb) = false) := fun e => decide_eq_false fun h => e (by subst h; rfl)
      generalize la[k] = x at hce HX HY
      generalize lb[k] = y at hce' HX HY
      by_cases hxy : x = y
      · have he := Go.Proofs.YtlpkalfbcphkmaaGreat.Frame.bytes_yes hxy
        have HZ := Lib.hid (HX.out hxy)
        clear hxy HX HY hlt2
        go_wp2
        go_quiet (fail)
        go_wp2
        go_roundw
        case rel => exact ⟨k + 1, _, by omega, by go_num, rfl, HZ⟩
        case measure => simp [RowKit.intOf]; omega
      · have he := Go.Proofs.YtlpkalfbcphkmaaGreat.Frame.bytes_no hxy
        have HZ := Lib.hid (HY.out hxy)
        clear hxy HX HY hlt2
        go_wp2
        go_quiet (fail)
        go_wp2
        go_ret
        exact ⟨ret_bool HZ.out.symm, below_trans (below_dn w q) (below_dn _ _)⟩
    · obtain rfl : k = la.length := by omega
      have HZ := Lib.hid (HEND.out HT.out)
      clear HEND HT
      go_wp2
      go_ret
      exact ⟨ret_bool HZ.out.symm, below_dn _ _⟩

set_option maxHeartbeats 2000000 in
set_option maxRecDepth 100000 in
theorem SameB_any {va vb : Value} {la lb : List ByteArray} {w : World} (ha : SRow w va la) (hb : SRow w vb lb) (h1 : la.length ≤ 1000000) (h2 : lb.length ≤ 1000000) : Calls Tryz.prog 39 #[va, vb] w (BoolB (decide (la = lb)) w) := by
  obtain ⟨aA, capA, rfl⟩ := ha.slice
  obtain ⟨aB, capB, rfl⟩ := hb.slice
  have HA := Lib.hid ha
  have HB := Lib.hid hb
  clear ha hb
  by_cases hl : la.length = lb.length
  case neg =>
    have HN : Hid (decide (la = lb) = false) := decide_eq_false fun e => hl (by rw [e])
    have hn : ((la.length : Int) != (lb.length : Int)) = true := by simp; omega
    clear HA HB
    go_enter Tryz.func39, Tryz.ntmps39
    go_wp2
    go_ret
    exact ⟨ret_bool HN.out.symm, Below.refl _ _⟩
  have HL := Lib.hid hl
  have HEND : Hid (la.take la.length = lb.take la.length → decide (la = lb) = true) := fun h => decide_eq_true (by rwa [List.take_length, HL.out, List.take_length] at h)
  rw [← hl] at HB
  go_enter Tryz.func39, Tryz.ntmps39
  rw [← hl]
  clear hl
  go_wp2
  go_loopw [13] (fun i wr => ∃ k q : Nat, k ≤ la.length ∧ i = .int .i64 k ∧ wr = w.drewN q ∧ Hid (la.take k = lb.take k)) (fun i _ => la.length - (RowKit.intOf i).toNat)
  case atStart => exact ⟨0, 0, Nat.zero_le _, rfl, rfl, rfl⟩
  case round =>
    obtain ⟨k, q, hk, rfl, rfl, HT⟩ := hrel
    by_cases hlt : k < la.length
    · have hlt2 : k < lb.length := by have := HL.out; omega
      obtain ⟨g, rfl, hc, hg, hce⟩ := HA.out.at hlt
      rw [HL.out] at HB
      obtain ⟨g', rfl, hc', hg', hce'⟩ := HB.out.at hlt2
      rw [← HL.out] at HB hc'
      have b1 : (0 : Int) ≤ k := by omega
      have b2 : (k : Int) < la.length := by omega
      have HX : Hid (la[k] = lb[k] → la.take (k + 1) = lb.take (k + 1)) := fun e => by rw [List.take_succ_eq_append_getElem hlt, List.take_succ_eq_append_getElem hlt2, HT.out, e]
      have HY : Hid (la[k] ≠ lb[k] → decide (la = lb) = false) := fun e => decide_eq_false fun h => e (by subst h; rfl)
      generalize la[k] = x at hce HX HY
      generalize lb[k] = y at hce' HX HY
      by_cases hxy : x = y
      · have he := Go.Proofs.YtlpkalfbcphkmaaGreat.Frame.bytes_yes hxy
        have HZ := Lib.hid (HX.out hxy)
        clear hxy HX HY hlt2
        go_wp2
        go_quiet (fail)
        go_wp2
        go_roundw
        case rel => exact ⟨k + 1, _, by omega, by go_num, rfl, HZ⟩
        case measure => simp [RowKit.intOf]; omega
      · have he := Go.Proofs.YtlpkalfbcphkmaaGreat.Frame.bytes_no hxy
        have HZ := Lib.hid (HY.out hxy)
        clear hxy HX HY hlt2
        go_wp2
        go_quiet (fail)
        go_wp2
        go_ret
        exact ⟨ret_bool HZ.out.symm, below_trans (below_dn w q) (below_dn _ _)⟩
    · obtain rfl : k = la.length := by omega
      have HZ := Lib.hid (HEND.out HT.out)
      clear HEND HT
      go_wp2
      go_ret
      exact ⟨ret_bool HZ.out.symm, below_dn _ _⟩
end Go.Proofs.YtlpkalfbcphkmaaGreat.Disk.Jn

/-
  Contracts of the library's functions, laid at this program.
-/
namespace Go.Proofs.YtlpkalfbcphkmaaGreat.Disk.Jn
open Go.Shelf
def Tryz.lays156_ren : Go.Shelf.Ren := ⟨fun | 156 => 67 | 165 => 89 | 166 => 90 | 169 => 91 | 240 => 105 | 241 => 106 | 276 => 115 | 277 => 116 | n => n, fun | 31 => 22 | 9 => 9 | 3 => 3 | 4 => 4 | 0 => 0 | 20 => 20 | 72 => 126 | 76 => 130 | 70 => 124 | 37 => 41 | 75 => 129 | 127 => 146 | 164 => 155 | 5 => 5 | 80 => 78 | n => n, fun | n => n⟩
theorem Tryz.lays156 : Go.Proofs.Lays.n156 Tryz.prog Tryz.lays156_ren := {
  mixed := by kernel_rfl
  f156 := Tryz.func67.trans (congrArg some (by kernel_rfl))
  f165 := Tryz.func89.trans (congrArg some (by kernel_rfl))
  f166 := Tryz.func90.trans (congrArg some (by kernel_rfl))
  f169 := Tryz.func91.trans (congrArg some (by kernel_rfl))
  f240 := Tryz.func105.trans (congrArg some (by kernel_rfl))
  f241 := Tryz.func106.trans (congrArg some (by kernel_rfl))
  f276 := Tryz.func115.trans (congrArg some (by kernel_rfl))
  f277 := Tryz.func116.trans (congrArg some (by kernel_rfl))
  t0 := Tryz.underlying0
  a0 := Tryz.isAgg0
  z0 := Tryz.sizeOf0
  v0 := Tryz.zeroValue0
  t3 := Tryz.underlying3
  a3 := Tryz.isAgg3
  z3 := Tryz.sizeOf3
  v3 := Tryz.zeroValue3
  t4 := Tryz.underlying4
  a4 := Tryz.isAgg4
  z4 := Tryz.sizeOf4
  v4 := Tryz.zeroValue4
  t9 := Tryz.underlying9
  a9 := Tryz.isAgg9
  z9 := Tryz.sizeOf9
  v9 := Tryz.zeroValue9
  t20 := Tryz.underlying20
  a20 := Tryz.isAgg20
  z20 := Tryz.sizeOf20
  v20 := Tryz.zeroValue20
  t31 := Tryz.underlying22
  a31 := Tryz.isAgg22
  z31 := Tryz.sizeOf22
  v31 := Tryz.zeroValue22
  t37 := Tryz.underlying41
  a37 := Tryz.isAgg41
  z37 := Tryz.sizeOf41
  v37 := Tryz.zeroValue41
  t70 := Tryz.underlying124
  a70 := Tryz.isAgg124
  z70 := Tryz.sizeOf124
  v70 := Tryz.zeroValue124
  t72 := Tryz.underlying126
  a72 := Tryz.isAgg126
  z72 := Tryz.sizeOf126
  v72 := Tryz.zeroValue126
  t75 := Tryz.underlying129
  a75 := Tryz.isAgg129
  z75 := Tryz.sizeOf129
  v75 := Tryz.zeroValue129
  t76 := Tryz.underlying130
  a76 := Tryz.isAgg130
  z76 := Tryz.sizeOf130
  v76 := Tryz.zeroValue130
  t127 := Tryz.underlying146
  a127 := Tryz.isAgg146
  z127 := Tryz.sizeOf146
  v127 := Tryz.zeroValue146
  t164 := Tryz.underlying155
  a164 := Tryz.isAgg155
  z164 := Tryz.sizeOf155
  v164 := Tryz.zeroValue155 }
theorem Tryz.Builder_Extra_156 : Builder.Extra Tryz.prog Tryz.lays156_ren := {
  sizeBuilder := by kernel_rfl
  liesBuilder := by kernel_rfl
  t5 := Tryz.underlying5
  a5 := Tryz.isAgg5
  z5 := Tryz.sizeOf5
  v5 := Tryz.zeroValue5
  infoByte := by kernel_rfl
  cellsByte := by kernel_rfl
  sizeByte := by kernel_rfl
  neB5 := by decide }
open Go.RowKit in
theorem Tryz.strings_Join (bk o c : Nat) (xs : List ByteArray) (sep : ByteArray) (w : World) (hcells : ∀ (j : Nat) x, xs[j]? = some x → w.cell? ⟨bk, o + j, none⟩ = some (.string x)) (hbk : bk < w.heap.size) (hN : xs.length ≤ 140737488355328) (hcap : xs.length ≤ c) (hlen : (Lib.join (xs.map (·.data.toList)) sep.data.toList).length ≤ 140737488355328) :
    Calls Tryz.prog 67 #[.slice (some ⟨bk, o, none⟩) xs.length c, .string sep] w fun e w' => e = .returned (.string ⟨(Lib.join (xs.map (·.data.toList)) sep.data.toList).toArray⟩) ∧ Below w.heap.size w w' := Any.strings_Join Tryz.lays156 Tryz.Builder_Extra_156 bk o c xs sep w hcells hbk hN hcap hlen
end Go.Proofs.YtlpkalfbcphkmaaGreat.Disk.Jn
