/-
  Joined: Eqs, Frame, JEqual.
-/
import Derived.Test.YtndakbjmahkjdaaMp
import Derived.Deep.Draws
import Derived.Test.YtndakbjmahkjdaaMk
import Derived.Test.YtndakbjmahkjdaaMi
import Derived.Deep.QuietTactic
import Derived.BigQuiet
import Derived.Deep.RegionWith
import Derived.Lib.Strings

/-
  The contracts of On and Of with their answer under a name; small facts.
-/
namespace Go.Proofs.Ytndakbjmahkjdaa.Crc
open Go.ChangeShapes Go.WideShapes Go.ChangeAt Go.RowKit

theorem app_data (a b : ByteArray) : (a ++ b).data.toList = a.data.toList ++ b.data.toList := by simp
theorem drawnB (w : World) (n : Nat) : Below w.heap.size w (w.drewN n) := ⟨rfl, rfl, rfl, Nat.le_refl _, fun _ _ => rfl⟩
theorem On_eq {c n : Nat} {s : ByteArray} (h : c < 4294967296) (hs : s.size ≤ maxLen) (e : crcOn c s.data.toList = n) (w : World) : Calls Try.prog 81 #[.int .u32 c, .string s] w (U32B n w) := e ▸ On_any c h s hs w
theorem Of_eq {n : Nat} {s : ByteArray} (hs : s.size ≤ maxLen) (e : crcOn 0 s.data.toList = n) (w : World) : Calls Try.prog 69 #[.string s] w (U32B n w) := e ▸ Of_any s hs w
end Go.Proofs.Ytndakbjmahkjdaa.Crc

/-
  Contracts of Frame and first of package frame.
-/
namespace Go.Proofs.Ytndakbjmahkjdaa.Frame
open Go.ChangeShapes Go.WideShapes Go.ChangeAt Go.RowKit Go.Lib
open Go.Proofs.Ytndakbjmahkjdaa.Crc (four crcOn crcOn_lt U32B TextB Of_eq Bytes_any)

set_option maxHeartbeats 1000000 in
set_option maxRecDepth 100000 in
theorem Frame_yes (d : ByteArray) (w : World) (h : d.size ≤ 4096) : Calls Try.prog 55 #[.string d] w (TextI ⟨(frm d).toArray⟩ 0 w) := by
  obtain ⟨c, HC⟩ : ∃ c, Hid (crcOn 0 d.data.toList = c) := ⟨_, rfl⟩
  have hc : c < 4294967296 := HC.out ▸ crcOn_lt (by omega) _
  obtain ⟨a, HA⟩ : ∃ a : ByteArray, Hid ((⟨(digs (fold d.size)).toArray⟩ : ByteArray) = a) := ⟨_, rfl⟩
  obtain ⟨z, HZ⟩ : ∃ z : ByteArray, Hid ((⟨(four c).toArray⟩ : ByteArray) = z) := ⟨_, rfl⟩
  obtain ⟨f, HFm⟩ : ∃ f : ByteArray, Hid ((⟨(frm d).toArray⟩ : ByteArray) = f) := ⟨_, rfl⟩
  have HF : Hid (a ++ d ++ z = f) := by
    unfold Hid
    rw [← HA.out, ← HZ.out, ← HFm.out]
    exact same_bytes (by simp [frm, HC.out])
  have h9 : a.size ≤ 9 := by
    have := digs_len9 (fold d.size) (by rw [fold_nat]; omega)
    rw [← HA.out, mk_size]; exact this
  have h4 : z.size ≤ 4 := by rw [← HZ.out, mk_size]; exact Nat.le_of_eq (four_len c)
  have HN : Hid (∀ W, Calls Try.prog 67 #[.int .i64 (d.size : Int)] W (TextI a 0 W)) := fun W => HA.out ▸ Number_yes (d.size : Int) W (mayB_t.2 ⟨by omega, by omega⟩)
  have HO : Hid (∀ W, Calls Try.prog 69 #[.string d] W (U32B c W)) := fun W => Of_eq (by unfold maxLen; omega) HC.out W
  have HB : Hid (∀ W, Calls Try.prog 68 #[.int .u32 c] W (Text z W)) := fun W => HZ.out ▸ Bytes_any c hc W
  rw [HFm.out]
  clear HC HA HZ HFm
  go_enter Try.func55, Try.ntmps55
  go_wp2_with fail
  refine (HN.out _).mono ?_
  rintro e w1 ⟨rfl, hb1⟩
  have HB1 := Lib.hid hb1
  clear hb1
  go_wp2_with fail
  refine (HO.out _).mono ?_
  rintro e w2 ⟨rfl, hb2⟩
  have HB2 := Lib.hid hb2
  clear hb2
  go_wp2_with fail
  refine (HB.out _).mono ?_
  rintro e w3 ⟨rfl, hb3⟩
  have HB3 := Lib.hid hb3
  clear hb3
  go_wp2_with fail
  go_ret2
  rw [HF.out]
  exact ⟨rfl, below_trans (below_trans HB1.out HB2.out) HB3.out⟩

theorem Frame_no (d : ByteArray) (w : World) (h : 4096 < d.size) (hs : d.size ≤ maxLen) : Calls Try.prog 55 #[.string d] w (TextI ⟨#[]⟩ 3 w) := by
  unfold maxLen at hs
  go_enter Try.func55, Try.ntmps55
  go_wp2
  go_ret2
  exact ⟨rfl, Below.refl _ _⟩

theorem bytes_yes {x y : ByteArray} (h : x = y) : (x.toList == y.toList) = true := by rw [h]; simp
theorem bytes_no {x y : ByteArray} (h : x ≠ y) : (x.toList == y.toList) = false := by
  cases hb : x.toList == y.toList with
  | false => rfl
  | true =>
    rw [beq_iff_eq, toList_data, toList_data] at hb
    exact absurd (same_bytes hb) h
theorem below_drew (w : World) (n : Nat) : Below w.heap.size w (w.drewN n) := ⟨rfl, rfl, rfl, Nat.le_refl _, fun _ _ => rfl⟩
/-- Two texts and whether there is a record. -/
def ThreeB (d r : ByteArray) (b : Bool) (w : World) (e : Ending) (w' : World) : Prop := e = .returned (.tuple #[.string d, .string r, .bool b]) ∧ Below w.heap.size w w'

theorem four_cut (t : ByteArray) (k : Nat) (h : k + 4 ≤ t.size) : (t.extract k t.size).extract 0 4 = t.extract k (k + 4) := by
  apply same_bytes
  rw [cut_list, cut_list, cut_list, List.drop_zero, List.take_take]
  congr 1; omega
theorem four_rest (t : ByteArray) (k : Nat) (_h : k + 4 ≤ t.size) : (t.extract k t.size).extract 4 (t.extract k t.size).size = t.extract (k + 4) t.size := by
  apply same_bytes
  rw [drop_list, drop_list, drop_list, List.drop_drop]

set_option maxHeartbeats 2000000 in
set_option maxRecDepth 100000 in
/-- first, where a number of bytes was read that are there. -/
theorem first_there (s t : ByteArray) (k : Nat) (hr : Rd s k t 0) (hs : s.size ≤ maxLen) (hk : k ≤ 4096) (hkt : k + 4 ≤ t.size) (w : World) :
    (t.extract k (k + 4) ≠ ⟨(four (crcOn 0 (t.extract 0 k).data.toList)).toArray⟩ → Calls Try.prog 78 #[.string s] w (ThreeB ⟨#[]⟩ ⟨#[]⟩ false w)) ∧
    (t.extract k (k + 4) = ⟨(four (crcOn 0 (t.extract 0 k).data.toList)).toArray⟩ → Calls Try.prog 78 #[.string s] w (ThreeB (t.extract 0 k) (t.extract (k + 4) t.size) true w)) := by
  have HR := Lib.hid (fun W => ReadNumber_rd hr hs W)
  have hts := (rd_size hr).1
  unfold maxLen at hs
  have HY4 := Lib.hid (four_cut t k hkt)
  have HYR := Lib.hid (four_rest t k hkt)
  obtain ⟨x, HX⟩ : ∃ x, Hid (t.extract 0 k = x) := ⟨_, rfl⟩
  have hxs : x.size ≤ 4096 := by rw [← HX.out, ByteArray.size_extract]; omega
  obtain ⟨y, HY⟩ : ∃ y, Hid (t.extract k t.size = y) := ⟨_, rfl⟩
  have hy4 : 4 ≤ y.size := by rw [← HY.out, ByteArray.size_extract]; omega
  have hym : y.size ≤ 9223372036854775807 := by rw [← HY.out, ByteArray.size_extract]; omega
  obtain ⟨c, HC⟩ : ∃ c, Hid (crcOn 0 x.data.toList = c) := ⟨_, rfl⟩
  have hc : c < 4294967296 := HC.out ▸ crcOn_lt (by omega) _
  obtain ⟨z, HZ⟩ : ∃ z : ByteArray, Hid ((⟨(four c).toArray⟩ : ByteArray) = z) := ⟨_, rfl⟩
  have HO : Hid (∀ W, Calls Try.prog 69 #[.string x] W (U32B c W)) := fun W => Of_eq (by unfold maxLen; omega) HC.out W
  have HB : Hid (∀ W, Calls Try.prog 68 #[.int .u32 c] W (Text z W)) := fun W => HZ.out ▸ Bytes_any c hc W
  rw [HX.out, HC.out, HZ.out, ← HYR.out, ← HY4.out, HY.out]
  obtain ⟨f4, HF4⟩ : ∃ f4, Hid (y.extract 0 4 = f4) := ⟨_, rfl⟩
  obtain ⟨r, HRR⟩ : ∃ r, Hid (y.extract 4 y.size = r) := ⟨_, rfl⟩
  rw [HF4.out, HRR.out]
  clear HY4 HYR hr HC HZ
  have i1 : (0 : Int) ≤ (k : Int) := by omega
  have i2 : (k : Int) ≤ (t.size : Int) := by omega
  refine ⟨fun hne => ?_, fun he => ?_⟩
  · have HNE := Lib.hid (bytes_no hne)
    clear hne
    go_enter Try.func78, Try.ntmps78
    go_wp2_with (go_at_call 84; (with_reducible refine (HR.out _).mono ?_); rintro e w1 ⟨rfl, hb1⟩)
    have HB1 := Lib.hid hb1
    clear hb1
    go_quiet (fail)
    rw [HX.out, HY.out]
    have hf4 := HF4.out
    have hne := HNE.out
    go_wp2_with fail
    go_region_with ((first
      | (go_at_call 69; (with_reducible refine (HO.out _).mono ?_); rintro e x1 ⟨rfl, hx1⟩)
      | (go_at_call 68; (with_reducible refine (HB.out _).mono ?_); rintro e x2 ⟨rfl, hx2⟩)))
    all_goals (try go_wp2_with fail)
    all_goals go_ret3
    all_goals exact ⟨rfl, below_trans HB1.out (below_trans (below_drew w1 _) (below_trans hx1 hx2))⟩
  · subst he
    have HEE := Lib.hid (bytes_yes (rfl : f4 = f4))
    go_enter Try.func78, Try.ntmps78
    go_wp2_with (go_at_call 84; (with_reducible refine (HR.out _).mono ?_); rintro e w1 ⟨rfl, hb1⟩)
    have HB1 := Lib.hid hb1
    clear hb1
    go_quiet (fail)
    rw [HX.out, HY.out]
    have hf4 := HF4.out
    have hee := HEE.out
    go_wp2_with fail
    go_region_with ((first
      | (go_at_call 69; (with_reducible refine (HO.out _).mono ?_); rintro e x1 ⟨rfl, hx1⟩)
      | (go_at_call 68; (with_reducible refine (HB.out _).mono ?_); rintro e x2 ⟨rfl, hx2⟩)))
    all_goals (try go_wp2_with fail)
    all_goals go_quiet (fail)
    all_goals rw [HRR.out]
    all_goals go_wp2_with fail
    all_goals go_ret3
    all_goals exact ⟨rfl, below_trans HB1.out (below_trans (below_drew w1 _) (below_trans hx1 (below_trans hx2 (below_drew x2 _))))⟩

set_option maxHeartbeats 2000000 in
set_option maxRecDepth 100000 in
/-- first, where no number of bytes was read that are there. -/
theorem first_not (s t : ByteArray) (n b : Int) (hr : Rd s n t b) (hs : s.size ≤ maxLen) (h : b ≠ 0 ∨ (b = 0 ∧ n < 0) ∨ (b = 0 ∧ 4096 < n) ∨ (b = 0 ∧ 0 ≤ n ∧ n ≤ 4096 ∧ (t.size : Int) < n + 4)) (w : World) :
    Calls Try.prog 78 #[.string s] w (ThreeB ⟨#[]⟩ ⟨#[]⟩ false w) := by
  have HR := Lib.hid (fun W => ReadNumber_rd hr hs W)
  have hts := rd_size hr
  unfold maxLen at hs
  rcases h with h1 | ⟨rfl, h1⟩ | ⟨rfl, h1⟩ | ⟨rfl, h1, h2, h3⟩
  · have hx : (b != 0) = true := by simpa using h1
    clear h1 hr
    go_enter Try.func78, Try.ntmps78
    go_wp2_with (go_at_call 84; (with_reducible refine (HR.out _).mono ?_); rintro e x1 ⟨rfl, hx1⟩)
    go_ret3
    exact ⟨rfl, hx1⟩
  all_goals
    clear hr
    go_enter Try.func78, Try.ntmps78
    go_wp2_with (go_at_call 84; (with_reducible refine (HR.out _).mono ?_); rintro e x1 ⟨rfl, hx1⟩)
    go_ret3
    exact ⟨rfl, hx1⟩

/-- first, where the text begins with a record. -/
theorem first_is {s d r : ByteArray} (h : Is s d r) (hs : s.size ≤ maxLen) (w : World) : Calls Try.prog 78 #[.string s] w (ThreeB d r true w) := by
  obtain ⟨n, t, b, hr, h1⟩ := looks s
  rcases h1 with ⟨_, h⟩ | ⟨_, _, h⟩ | ⟨_, _, h⟩ | ⟨_, _, _, _, _, h⟩ | ⟨_, _, _, _, _, _, h⟩ | ⟨k, rfl, rfl, hk, hkt, he, hi⟩
  iterate 5 exact absurd ‹Is s d r› (h _ _)
  obtain ⟨rfl, rfl⟩ := is_det h hi
  exact (first_there s t k hr hs hk hkt w).2 he
/-- first, where the text begins with none. -/
theorem first_no {s : ByteArray} (h : No s) (hs : s.size ≤ maxLen) (w : World) : Calls Try.prog 78 #[.string s] w (ThreeB ⟨#[]⟩ ⟨#[]⟩ false w) := by
  obtain ⟨n, t, b, hr, h1⟩ := looks s
  rcases h1 with ⟨hb, _⟩ | ⟨hb, hn, _⟩ | ⟨hb, hn, _⟩ | ⟨k, hb, hn, hk, ht, _⟩ | ⟨k, rfl, rfl, hk, hkt, he, _⟩ | ⟨k, rfl, rfl, hk, hkt, he, hi⟩
  · exact first_not s t n b hr hs (.inl hb) w
  · exact first_not s t n b hr hs (.inr (.inl ⟨hb, hn⟩)) w
  · exact first_not s t n b hr hs (.inr (.inr (.inl ⟨hb, hn⟩))) w
  · exact first_not s t n b hr hs (.inr (.inr (.inr ⟨hb, by omega, by omega, by omega⟩))) w
  · exact (first_there s t k hr hs hk hkt w).1 he
  · exact absurd hi (h _ _)
end Go.Proofs.Ytndakbjmahkjdaa.Frame

/-
  Contracts of slices.Equal at rows of texts, and of the reference's Same.
-/
namespace Go.Proofs.Ytndakbjmahkjdaa.Disk.Jn
open Go.ChangeShapes Go.WideShapes Go.ChangeAt Go.RowKit Go.Lib

set_option maxHeartbeats 2000000 in
set_option maxRecDepth 100000 in
theorem Equal_any {va vb : Value} {la lb : List ByteArray} {w : World} (ha : SRow w va la) (hb : SRow w vb lb) (h1 : la.length ≤ 1000000) (h2 : lb.length ≤ 1000000) : Calls Try.prog 27 #[va, vb] w (BoolB (decide (la = lb)) w) := by
  obtain ⟨aA, capA, rfl⟩ := ha.slice
  obtain ⟨aB, capB, rfl⟩ := hb.slice
  have HA := Lib.hid ha
  have HB := Lib.hid hb
  clear ha hb
  by_cases hl : la.length = lb.length
  case neg =>
    have HN : Hid (decide (la = lb) = false) := decide_eq_false fun e => hl (by rw [e])
    have hn : ((la.length : Int) != (lb.length : Int)) = true := by simp; omega
    clear HA HB
    go_enter Try.func27, Try.ntmps27
    go_wp2
    go_ret
    exact ⟨ret_bool HN.out.symm, Below.refl _ _⟩
  have HL := Lib.hid hl
  have HEND : Hid (la.take la.length = lb.take la.length → decide (la = lb) = true) := fun h => decide_eq_true (by rwa [List.take_length, HL.out, List.take_length] at h)
  rw [← hl] at HB
  go_enter Try.func27, Try.ntmps27
  rw [← hl]
  clear hl
  go_wp2
  go_loopw [13] (fun i wr => ∃ k q : Nat, k ≤ la.length ∧ i = .int .i64 k ∧ wr = w.drewN q ∧ Hid (la.take k = lb.take k)) (fun i _ => la.length - (RowKit.intOf i).toNat)
  case atStart => exact ⟨0, 0, Nat.zero_le _, rfl, rfl, rfl⟩
  case round =>
    obtain ⟨k, q, hk, rfl, rfl, HT⟩ := hrel
    by_cases hlt : k < la.length
    · have hlt2 : k < lb.length := by have := HL.out; omega
      obtain ⟨g, rfl, hc, hg, hce⟩ := HA.out.at hlt
      rw [HL.out] at HB
      obtain ⟨g', rfl, hc', hg', hce'⟩ := HB.out.at hlt2
      rw [← HL.out] at HB hc'
      have b1 : (0 : Int) ≤ k := by omega
      have b2 : (k : Int) < la.length := by omega
      have HX : Hid (la[k] = lb[k] → la.take (k + 1) = lb.take (k + 1)) := fun e => by rw [List.take_succ_eq_append_getElem hlt, List.take_succ_eq_append_getElem hlt2, HT.out, e]
      have HY : Hid (la[k] ≠ lb[k] → decide (la = lb) = false) := fun e => decide_eq_false fun h => e (by subst h; rfl)
      generalize la[k] = x at hce HX HY
      generalize lb[k] = y at hce' HX HY
      by_cases hxy : x = y
      · have he := Go.Proofs.Ytndakbjmahkjdaa.Frame.bytes_yes hxy
        have HZ := Lib.hid (HX.out hxy)
        clear hxy HX HY hlt2
        go_wp2
        go_quiet (fail)
        go_wp2
        go_roundw
        case rel => exact ⟨k + 1, _, by omega, by go_num, rfl, HZ⟩
        case measure => simp [RowKit.intOf]; omega
      · have he := Go.Proofs.Ytndakbjmahkjdaa.Frame.bytes_no hxy
        have HZ := Lib.hid (HY.out hxy)
        clear hxy HX HY hlt2
        go_wp2
        go_quiet (fail)
        go_wp2
        go_ret
        exact ⟨ret_bool HZ.out.symm, below_trans (below_dn w q) (below_dn _ _)⟩
    · obtain rfl : k = la.length := by omega
      have HZ := Lib.hid (HEND.out HT.out)
      clear HEND HT
      go_wp2
      go_ret
      exact ⟨ret_bool HZ.out.symm, below_dn _ _⟩

set_option maxHeartbeats 2000000 in
set_option maxRecDepth 100000 in
theorem SameB_any {va vb : Value} {la lb : List ByteArray} {w : World} (ha : SRow w va la) (hb : SRow w vb lb) (h1 : la.length ≤ 1000000) (h2 : lb.length ≤ 1000000) : Calls Try.prog 11 #[va, vb] w (BoolB (decide (la = lb)) w) := by
  obtain ⟨aA, capA, rfl⟩ := ha.slice
  obtain ⟨aB, capB, rfl⟩ := hb.slice
  have HA := Lib.hid ha
  have HB := Lib.hid hb
  clear ha hb
  by_cases hl : la.length = lb.length
  case neg =>
    have HN : Hid (decide (la = lb) = false) := decide_eq_false fun e => hl (by rw [e])
    have hn : ((la.length : Int) != (lb.length : Int)) = true := by simp; omega
    clear HA HB
    go_enter Try.func11, Try.ntmps11
    go_wp2
    go_ret
    exact ⟨ret_bool HN.out.symm, Below.refl _ _⟩
  have HL := Lib.hid hl
  have HEND : Hid (la.take la.length = lb.take la.length → decide (la = lb) = true) := fun h => decide_eq_true (by rwa [List.take_length, HL.out, List.take_length] at h)
  rw [← hl] at HB
  go_enter Try.func11, Try.ntmps11
  rw [← hl]
  clear hl
  go_wp2
  go_loopw [13] (fun i wr => ∃ k q : Nat, k ≤ la.length ∧ i = .int .i64 k ∧ wr = w.drewN q ∧ Hid (la.take k = lb.take k)) (fun i _ => la.length - (RowKit.intOf i).toNat)
  case atStart => exact ⟨0, 0, Nat.zero_le _, rfl, rfl, rfl⟩
  case round =>
    obtain ⟨k, q, hk, rfl, rfl, HT⟩ := hrel
    by_cases hlt : k < la.length
    · have hlt2 : k < lb.length := by have := HL.out; omega
      obtain ⟨g, rfl, hc, hg, hce⟩ := HA.out.at hlt
      rw [HL.out] at HB
      obtain ⟨g', rfl, hc', hg', hce'⟩ := HB.out.at hlt2
      rw [← HL.out] at HB hc'
      have b1 : (0 : Int) ≤ k := by omega
      have b2 : (k : Int) < la.length := by omega
      have HX : Hid (la[k] = lb[k] → la.take (k + 1) = lb.take (k + 1)) := fun e => by rw [List.take_succ_eq_append_getElem hlt, List.take_succ_eq_append_getElem hlt2, HT.out, e]
      have HY : Hid (la[k] ≠ lb[k] → decide (la = lb) = false) := fun e => decide_eq_false fun h => e (by subst h; rfl)
      generalize la[k] = x at hce HX HY
      generalize lb[k] = y at hce' HX HY
      by_cases hxy : x = y
      · have he := Go.Proofs.Ytndakbjmahkjdaa.Frame.bytes_yes hxy
        have HZ := Lib.hid (HX.out hxy)
        clear hxy HX HY hlt2
        go_wp2
        go_quiet (fail)
        go_wp2
        go_roundw
        case rel => exact ⟨k + 1, _, by omega, by go_num, rfl, HZ⟩
        case measure => simp [RowKit.intOf]; omega
      · have he := Go.Proofs.Ytndakbjmahkjdaa.Frame.bytes_no hxy
        have HZ := Lib.hid (HY.out hxy)
        clear hxy HX HY hlt2
        go_wp2
        go_quiet (fail)
        go_wp2
        go_ret
        exact ⟨ret_bool HZ.out.symm, below_trans (below_dn w q) (below_dn _ _)⟩
    · obtain rfl : k = la.length := by omega
      have HZ := Lib.hid (HEND.out HT.out)
      clear HEND HT
      go_wp2
      go_ret
      exact ⟨ret_bool HZ.out.symm, below_dn _ _⟩
end Go.Proofs.Ytndakbjmahkjdaa.Disk.Jn
