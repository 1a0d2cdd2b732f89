/-
  The library's sort over a row of waits: siftDown, heapSort.
-/
import Derived.Test.YtdgenemgegpkdaaQSrtA
namespace Go.Proofs.Ytdgenemgegpkdaa.Queue
open Go.ChangeShapes Go.WideShapes Go.ChangeAt Go.RowKit Go.Shelf Go.Sort

theorem sd_stop {hi f r : Nat} {d : Array Wt} (h : hi ≤ 2 * r + 1) : siftDown ltB hi f r d = d := by rw [siftDown, dif_pos h]
theorem sd_right_stop {hi f r : Nat} {d : Array Wt} (h : 2 * r + 2 < hi) (h1 : ltB d[f + (2 * r + 1)]! d[f + (2 * r + 2)]! = true) (h2 : ltB d[f + r]! d[f + (2 * r + 2)]! = false) : siftDown ltB hi f r d = d := by
  rw [siftDown, dif_neg (by omega), if_pos, if_pos]
  · rw [h2]; rfl
  · rw [show f + (2 * r + 1) + 1 = f + (2 * r + 2) by omega, h1]; simp; omega
theorem sd_right_go {hi f r : Nat} {d : Array Wt} (h : 2 * r + 2 < hi) (h1 : ltB d[f + (2 * r + 1)]! d[f + (2 * r + 2)]! = true) (h2 : ltB d[f + r]! d[f + (2 * r + 2)]! = true) : siftDown ltB hi f r d = siftDown ltB hi f (2 * r + 2) (swp d (f + r) (f + (2 * r + 2))) := by
  conv => lhs; rw [siftDown]
  rw [dif_neg (by omega), if_pos, if_neg, dif_pos h]
  · rw [h2]; decide
  · rw [show f + (2 * r + 1) + 1 = f + (2 * r + 2) by omega, h1]; simp; omega
theorem sd_left_stop {hi f r : Nat} {d : Array Wt} (h : 2 * r + 1 < hi) (h1 : 2 * r + 2 < hi → ltB d[f + (2 * r + 1)]! d[f + (2 * r + 2)]! = false) (h2 : ltB d[f + r]! d[f + (2 * r + 1)]! = false) : siftDown ltB hi f r d = d := by
  rw [siftDown, dif_neg (by omega), if_neg, if_pos]
  · rw [h2]; rfl
  · rw [show f + (2 * r + 1) + 1 = f + (2 * r + 2) by omega]
    simp only [Bool.and_eq_true, decide_eq_true_eq, not_and]
    intro hc
    rw [h1 hc]; decide
theorem sd_left_go {hi f r : Nat} {d : Array Wt} (h : 2 * r + 1 < hi) (h1 : 2 * r + 2 < hi → ltB d[f + (2 * r + 1)]! d[f + (2 * r + 2)]! = false) (h2 : ltB d[f + r]! d[f + (2 * r + 1)]! = true) : siftDown ltB hi f r d = siftDown ltB hi f (2 * r + 1) (swp d (f + r) (f + (2 * r + 1))) := by
  conv => lhs; rw [siftDown]
  rw [dif_neg (by omega), if_neg, if_neg]
  · rw [h2]; decide
  · rw [show f + (2 * r + 1) + 1 = f + (2 * r + 2) by omega]
    simp only [Bool.and_eq_true, decide_eq_true_eq, not_and]
    intro hc
    rw [h1 hc]; decide

def SdR (B : Nat) (v : Value) (n : Nat) (w0 : World) (R : Array Wt) (hi f r : Nat) (W : World) : Prop := ∃ d, LR B v n w0 d W ∧ siftDown ltB hi f r d = R
set_option maxHeartbeats 4000000 in
set_option maxRecDepth 100000 in
theorem siftDown_any {B n : Nat} {v : Value} {w0 w : World} {d : Array Wt} (h : LR B v n w0 d w) {r0 hi f : Nat} (hr0 : r0 ≤ hi) (hb : f + hi ≤ n) (hn : n ≤ 1000) :
    Calls Try.prog 49 #[.iface 40 v, .int .i64 r0, .int .i64 hi, .int .i64 f] w (Ends B v n w0 (siftDown ltB hi f r0 d)) := by
  have eL := ent_Less
  have eS := ent_Swap
  have gL := get_Less v
  have gS := get_Swap v
  have HST : Hid (SdR B v n w0 (siftDown ltB hi f r0 d) hi f r0 w) := ⟨d, h, rfl⟩
  generalize siftDown ltB hi f r0 d = R at HST ⊢
  clear h
  go_enter Try.func49, Try.ntmps49
  go_wp2
  go_loopw [8] (fun x W => ∃ r : Nat, x = .int .i64 r ∧ r ≤ hi ∧ SdR B v n w0 R hi f r W) (fun x _ => hi - (Go.RowKit.intOf x).toNat)
  case atStart => exact ⟨r0, rfl, hr0, HST.out⟩
  case round =>
    clear HST hr0
    obtain ⟨r, rfl, hrh, d1, hlr, hR⟩ := hrel
    have H := Lib.hid hlr
    have HQ := Lib.hid hR
    clear hlr hR
    by_cases h1 : hi ≤ 2 * r + 1
    · have h1' : (hi : Int) ≤ 2 * (r : Int) + 1 := by omega
      have HE := Lib.hid (sd_stop (f := f) (d := d1) h1)
      go_wp2
      go_end0
      exact ⟨rfl, by rw [← HQ.out, HE.out]; exact H.out⟩
    have h1' : ¬ (hi : Int) ≤ 2 * (r : Int) + 1 := by omega
    have HL3 := Lib.hid (fun W (q : LR B v n w0 d1 W) => LessN q ((f : Int) + (r : Int)) ((f : Int) + (2 * (r : Int) + 1)) (f + r) (f + (2 * r + 1)) (by omega) (by omega) (by omega) (by omega))
    have HS3 := Lib.hid (fun W (q : LR B v n w0 d1 W) => SwapN q ((f : Int) + (r : Int)) ((f : Int) + (2 * (r : Int) + 1)) (f + r) (f + (2 * r + 1)) (by omega) (by omega) (by omega) (by omega))
    by_cases h2 : 2 * r + 2 < hi
    · have h2' : decide (2 * (r : Int) + 1 + 1 < (hi : Int)) = true := decide_eq_true (by omega)
      have HL1 := Lib.hid (fun W (q : LR B v n w0 d1 W) => LessN q ((f : Int) + (2 * (r : Int) + 1)) ((f : Int) + (2 * (r : Int) + 1) + 1) (f + (2 * r + 1)) (f + (2 * r + 2)) (by omega) (by omega) (by omega) (by omega))
      have HL2 := Lib.hid (fun W (q : LR B v n w0 d1 W) => LessN q ((f : Int) + (r : Int)) ((f : Int) + (2 * (r : Int) + 1 + 1)) (f + r) (f + (2 * r + 2)) (by omega) (by omega) (by omega) (by omega))
      have HS2 := Lib.hid (fun W (q : LR B v n w0 d1 W) => SwapN q ((f : Int) + (r : Int)) ((f : Int) + (2 * (r : Int) + 1 + 1)) (f + r) (f + (2 * r + 2)) (by omega) (by omega) (by omega) (by omega))
      cases hm : ltB d1[f + (2 * r + 1)]! d1[f + (2 * r + 2)]! with
      | true =>
        rw [hm] at HL1
        cases hm2 : ltB d1[f + r]! d1[f + (2 * r + 2)]! with
        | true =>
          rw [hm2] at HL2
          have HE := Lib.hid (sd_right_go h2 hm hm2)
          clear hm hm2 HL3 HS3
          go_wp2_with (first
            | (go_at_fn 72; (with_reducible refine (HL1.out _ H.out).mono ?_); rintro e w1 ⟨rfl, h1⟩; have H1 := Lib.hid h1; clear h1)
            | (go_at_fn 72; (with_reducible refine (HL2.out _ H1.out).mono ?_); rintro e w2 ⟨rfl, h1⟩; have H2 := Lib.hid h1; clear h1)
            | (go_at_fn 73; (with_reducible refine (HS2.out _ H2.out).mono ?_); rintro e w3 ⟨rfl, h1⟩; have H3 := Lib.hid h1; clear h1))
          go_roundw
          case rel => exact ⟨2 * r + 2, by go_num, by omega, _, H3.out, by rw [← HQ.out, HE.out]⟩
          case measure => simp [Go.RowKit.intOf]; omega
        | false =>
          rw [hm2] at HL2
          have HE := Lib.hid (sd_right_stop h2 hm hm2)
          clear hm hm2 HL3 HS3
          go_wp2_with (first
            | (go_at_fn 72; (with_reducible refine (HL1.out _ H.out).mono ?_); rintro e w1 ⟨rfl, h1⟩; have H1 := Lib.hid h1; clear h1)
            | (go_at_fn 72; (with_reducible refine (HL2.out _ H1.out).mono ?_); rintro e w2 ⟨rfl, h1⟩; have H2 := Lib.hid h1; clear h1))
          go_end0
          exact ⟨rfl, by rw [← HQ.out, HE.out]; exact H2.out⟩
      | false =>
        rw [hm] at HL1
        cases hm2 : ltB d1[f + r]! d1[f + (2 * r + 1)]! with
        | true =>
          rw [hm2] at HL3
          have HE := Lib.hid (sd_left_go (hi := hi) (by omega) (fun _ => hm) hm2)
          clear hm hm2 HL2 HS2
          go_wp2_with (first
            | (go_at_fn 72; (with_reducible refine (HL1.out _ H.out).mono ?_); rintro e w1 ⟨rfl, h1⟩; have H1 := Lib.hid h1; clear h1)
            | (go_at_fn 72; (with_reducible refine (HL3.out _ H1.out).mono ?_); rintro e w2 ⟨rfl, h1⟩; have H2 := Lib.hid h1; clear h1)
            | (go_at_fn 73; (with_reducible refine (HS3.out _ H2.out).mono ?_); rintro e w3 ⟨rfl, h1⟩; have H3 := Lib.hid h1; clear h1))
          go_roundw
          case rel => exact ⟨2 * r + 1, by go_num, by omega, _, H3.out, by rw [← HQ.out, HE.out]⟩
          case measure => simp [Go.RowKit.intOf]; omega
        | false =>
          rw [hm2] at HL3
          have HE := Lib.hid (sd_left_stop (hi := hi) (by omega) (fun _ => hm) hm2)
          clear hm hm2 HL2 HS2
          go_wp2_with (first
            | (go_at_fn 72; (with_reducible refine (HL1.out _ H.out).mono ?_); rintro e w1 ⟨rfl, h1⟩; have H1 := Lib.hid h1; clear h1)
            | (go_at_fn 72; (with_reducible refine (HL3.out _ H1.out).mono ?_); rintro e w2 ⟨rfl, h1⟩; have H2 := Lib.hid h1; clear h1))
          go_end0
          exact ⟨rfl, by rw [← HQ.out, HE.out]; exact H2.out⟩
    · have h2' : decide (2 * (r : Int) + 1 + 1 < (hi : Int)) = false := decide_eq_false (by omega)
      cases hm2 : ltB d1[f + r]! d1[f + (2 * r + 1)]! with
      | true =>
        rw [hm2] at HL3
        have HE := Lib.hid (sd_left_go (hi := hi) (by omega) (fun h => absurd h h2) hm2)
        clear hm2
        go_wp2_with (first
          | (go_at_fn 72; (with_reducible refine (HL3.out _ H.out).mono ?_); rintro e w2 ⟨rfl, h1⟩; have H2 := Lib.hid h1; clear h1)
          | (go_at_fn 73; (with_reducible refine (HS3.out _ H2.out).mono ?_); rintro e w3 ⟨rfl, h1⟩; have H3 := Lib.hid h1; clear h1))
        go_roundw
        case rel => exact ⟨2 * r + 1, by go_num, by omega, _, H3.out, by rw [← HQ.out, HE.out]⟩
        case measure => simp [Go.RowKit.intOf]; omega
      | false =>
        rw [hm2] at HL3
        have HE := Lib.hid (sd_left_stop (hi := hi) (by omega) (fun h => absurd h h2) hm2)
        clear hm2
        go_wp2_with (first
          | (go_at_fn 72; (with_reducible refine (HL3.out _ H.out).mono ?_); rintro e w2 ⟨rfl, h1⟩; have H2 := Lib.hid h1; clear h1))
        go_end0
        exact ⟨rfl, by rw [← HQ.out, HE.out]; exact H2.out⟩

def HbR (B : Nat) (v : Value) (n : Nat) (w0 : World) (R : Array Wt) (hi f k : Nat) (W : World) : Prop := ∃ d, LR B v n w0 d W ∧ heapPop ltB f hi (heapBuild ltB hi f k d) = R
def HpoR (B : Nat) (v : Value) (n : Nat) (w0 : World) (R : Array Wt) (f k : Nat) (W : World) : Prop := ∃ d, LR B v n w0 d W ∧ heapPop ltB f k d = R
set_option maxHeartbeats 4000000 in
set_option maxRecDepth 100000 in
theorem heapSort_any {B n : Nat} {v : Value} {w0 w : World} {d : Array Wt} (h : LR B v n w0 d w) {a b : Nat} (hab : a < b) (hb : b ≤ n) (hn : n ≤ 1000) :
    Calls Try.prog 42 #[.iface 40 v, .int .i64 a, .int .i64 b] w (Ends B v n w0 (heapSort ltB d a b)) := by
  have eS := ent_Swap
  have gS := get_Swap v
  have HST : Hid (HbR B v n w0 (heapSort ltB d a b) (b - a) a ((b - a - 1) / 2 + 1) w) := ⟨d, h, rfl⟩
  generalize heapSort ltB d a b = R at HST ⊢
  clear h
  obtain ⟨m, hm⟩ : ∃ m, b - a = m := ⟨_, rfl⟩
  have hm1 : (b : Int) - (a : Int) = (m : Int) := by omega
  have hm2 : a + m ≤ n := by omega
  have hm3 : 1 ≤ m := by omega
  rw [hm] at HST
  clear hm
  obtain ⟨k0, hk0⟩ : ∃ k, (m - 1) / 2 = k := ⟨_, rfl⟩
  have hk1 : ((m : Int) - 1) / 2 = (k0 : Int) := by omega
  have hk2 : k0 + 1 ≤ m := by omega
  rw [hk0] at HST
  clear hk0
  go_enter Try.func42, Try.ntmps42
  go_wp2
  go_loopw [9] (fun x W => ∃ k : Nat, x = .int .i64 ((k : Int) - 1) ∧ k ≤ m ∧ HbR B v n w0 R m a k W) (fun x _ => ((Go.RowKit.intOf x) + 1).toNat)
  case atStart => exact ⟨k0 + 1, by go_num, hk2, HST.out⟩
  case round =>
    clear HST hk1 hk2
    obtain ⟨k, rfl, hkm, d1, hlr, hR⟩ := hrel
    have H := Lib.hid hlr
    have HQ := Lib.hid hR
    clear hlr hR
    by_cases h0 : 0 < k
    · have h0' : (0 : Int) ≤ (k : Int) - 1 := by omega
      have HSD := Lib.hid (fun W (q : LR B v n w0 d1 W) => (show Calls Try.prog 49 #[.iface 40 v, .int .i64 ((k : Int) - 1), .int .i64 m, .int .i64 a] W (Ends B v n w0 (siftDown ltB m a (k - 1) d1)) from by
        have := siftDown_any q (r0 := k - 1) (hi := m) (f := a) (by omega) (by omega) hn
        rwa [show ((k - 1 : Nat) : Int) = (k : Int) - 1 by omega] at this))
      have HE : Hid (heapBuild ltB m a k d1 = heapBuild ltB m a (k - 1) (siftDown ltB m a (k - 1) d1)) := Lib.hid (by
        obtain ⟨k', rfl⟩ : ∃ k', k = k' + 1 := ⟨k - 1, by omega⟩
        rfl)
      go_wp2_with (first
        | (go_at_call 49; (with_reducible refine (HSD.out _ H.out).mono ?_); rintro e w2 ⟨rfl, h2⟩; have H2 := Lib.hid h2; clear h2))
      go_roundw
      case rel => exact ⟨k - 1, by go_num, by omega, _, H2.out, by rw [← HQ.out, HE.out]⟩
      case measure => simp [Go.RowKit.intOf]; omega
    · have hk00 : k = 0 := by omega
      have HP : Hid (HpoR B v n w0 R a m wr) := ⟨d1, H.out, by have := HQ.out; rw [hk00] at this; exact this⟩
      obtain ⟨z, hz⟩ : ∃ z : Int, (k : Int) - 1 = z := ⟨_, rfl⟩
      have hz0 : ¬ (0 : Int) ≤ z := by omega
      rw [hz]
      clear HQ H hz hk00 h0 hkm
      generalize wr = wx at *
      go_wp2
      go_loopw [10] (fun x W => ∃ k : Nat, x = .int .i64 ((k : Int) - 1) ∧ k ≤ m ∧ HpoR B v n w0 R a k W) (fun x _ => ((Go.RowKit.intOf x) + 1).toNat)
      case atStart => exact ⟨m, rfl, Nat.le_refl _, HP.out⟩
      case round =>
        clear HP
        obtain ⟨k, rfl, hkm, d1, hlr, hR⟩ := hrel
        have H := Lib.hid hlr
        have HQ := Lib.hid hR
        clear hlr hR
        by_cases h0 : 0 < k
        · have h0' : (0 : Int) ≤ (k : Int) - 1 := by omega
          have HS := Lib.hid (fun W (q : LR B v n w0 d1 W) => SwapN q (a : Int) ((a : Int) + ((k : Int) - 1)) a (a + (k - 1)) rfl (by omega) (by omega) (by omega))
          have HSD := Lib.hid (fun W (q : LR B v n w0 (swp d1 a (a + (k - 1))) W) => (show Calls Try.prog 49 #[.iface 40 v, .int .i64 0, .int .i64 ((k : Int) - 1), .int .i64 a] W (Ends B v n w0 (siftDown ltB (k - 1) a 0 (swp d1 a (a + (k - 1))))) from by
            have := siftDown_any q (r0 := 0) (hi := k - 1) (f := a) (by omega) (by omega) hn
            rwa [show ((k - 1 : Nat) : Int) = (k : Int) - 1 by omega] at this))
          have HE : Hid (heapPop ltB a k d1 = heapPop ltB a (k - 1) (siftDown ltB (k - 1) a 0 (swp d1 a (a + (k - 1))))) := Lib.hid (by
            obtain ⟨k', rfl⟩ : ∃ k', k = k' + 1 := ⟨k - 1, by omega⟩
            rfl)
          go_wp2_with (first
            | (go_at_fn 73; (with_reducible refine (HS.out _ H.out).mono ?_); rintro e w1 ⟨rfl, h1⟩; have H1 := Lib.hid h1; clear h1)
            | (go_at_call 49; (with_reducible refine (HSD.out _ H1.out).mono ?_); rintro e w2 ⟨rfl, h2⟩; have H2 := Lib.hid h2; clear h2))
          go_roundw
          case rel => exact ⟨k - 1, by go_num, by omega, _, H2.out, by rw [← HQ.out, HE.out]⟩
          case measure => simp [Go.RowKit.intOf]; omega
        · obtain rfl : k = 0 := by omega
          have HE : Hid (d1 = R) := Lib.hid HQ.out
          go_wp2
          go_end0
          exact ⟨rfl, by rw [← HE.out]; exact H.out⟩
end Go.Proofs.Ytdgenemgegpkdaa.Queue
