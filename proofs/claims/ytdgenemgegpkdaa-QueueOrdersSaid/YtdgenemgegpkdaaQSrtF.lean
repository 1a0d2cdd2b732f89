/-
  The library's sort over a row of waits: partialInsertionSort.
-/
import Derived.Test.YtdgenemgegpkdaaQSrtD
namespace Go.Proofs.Ytdgenemgegpkdaa.Queue
open Go.ChangeShapes Go.WideShapes Go.ChangeAt Go.RowKit Go.Shelf Go.Sort

theorem scanSorted_go {d : Array Wt} {b i : Nat} (h : i < b) (hl : ltB d[i]! d[i - 1]! = false) : scanSorted ltB d b i = scanSorted ltB d b (i + 1) := by
  conv => lhs; unfold scanSorted
  rw [if_pos]; simp [h, hl]
theorem scanSorted_halt {d : Array Wt} {i : Nat} (b : Nat) (hl : ltB d[i]! d[i - 1]! = true) : scanSorted ltB d b i = i := by unfold scanSorted; rw [if_neg]; simp [hl]
theorem scanSorted_stop {d : Array Wt} {b i : Nat} (h : ¬ i < b) : scanSorted ltB d b i = i := by unfold scanSorted; rw [if_neg]; simp; omega
theorem shiftDown_go {d : Array Wt} {k : Nat} (h : 0 < k) (hl : ltB d[k]! d[k - 1]! = true) : shiftDown ltB k d = shiftDown ltB (k - 1) (swp d k (k - 1)) := by
  obtain ⟨j, rfl⟩ : ∃ j, k = j + 1 := ⟨k - 1, by omega⟩
  conv => lhs; unfold shiftDown
  simp at hl
  rw [if_neg]; simp; simp [hl]
theorem shiftDown_halt {d : Array Wt} {k : Nat} (hl : ltB d[k]! d[k - 1]! = false) : shiftDown ltB k d = d := by
  cases k with
  | zero => rfl
  | succ j => unfold shiftDown; simp at hl; rw [if_pos]; simp [hl]
theorem shiftUp_go {d : Array Wt} {b k : Nat} (h : k < b) (hl : ltB d[k]! d[k - 1]! = true) : shiftUp ltB b k d = shiftUp ltB b (k + 1) (swp d k (k - 1)) := by
  conv => lhs; unfold shiftUp
  rw [if_pos h, if_neg]; simp [hl]
theorem shiftUp_halt {d : Array Wt} {b k : Nat} (h : k < b) (hl : ltB d[k]! d[k - 1]! = false) : shiftUp ltB b k d = d := by
  unfold shiftUp; rw [if_pos h, if_pos]; simp [hl]
theorem shiftUp_stop {d : Array Wt} {b k : Nat} (h : ¬ k < b) : shiftUp ltB b k d = d := by unfold shiftUp; rw [if_neg h]
theorem partialIns_go {a b s i i2 : Nat} {d : Array Wt} (h0 : 0 < s) (hi : scanSorted ltB d b i = i2) (h1 : i2 ≠ b) (h2 : ¬ b - a < 50) : partialIns ltB a b s i d =
    partialIns ltB a b (s - 1) i2 (if b - i2 ≥ 2 then shiftUp ltB b (i2 + 1) (if i2 - a ≥ 2 then shiftDown ltB (i2 - 1) (swp d i2 (i2 - 1)) else swp d i2 (i2 - 1)) else (if i2 - a ≥ 2 then shiftDown ltB (i2 - 1) (swp d i2 (i2 - 1)) else swp d i2 (i2 - 1))) := by
  obtain ⟨k, rfl⟩ : ∃ k, s = k + 1 := ⟨s - 1, by omega⟩
  subst hi
  conv => lhs; unfold partialIns
  simp only [h1, h2, if_false, Nat.add_sub_cancel]
theorem partialIns_end {a b s i : Nat} {d : Array Wt} (h0 : 0 < s) (hi : scanSorted ltB d b i = b) : partialIns ltB a b s i d = (d, true) := by
  obtain ⟨k, rfl⟩ : ∃ k, s = k + 1 := ⟨s - 1, by omega⟩
  unfold partialIns
  simp only [hi, if_true]
theorem partialIns_few {a b s i i2 : Nat} {d : Array Wt} (h0 : 0 < s) (hi : scanSorted ltB d b i = i2) (h1 : i2 ≠ b) (h2 : b - a < 50) : partialIns ltB a b s i d = (d, false) := by
  obtain ⟨k, rfl⟩ : ∃ k, s = k + 1 := ⟨s - 1, by omega⟩
  subst hi
  unfold partialIns
  simp only [h1, h2, if_false, if_true]

def PiR (B : Nat) (v : Value) (n : Nat) (w0 : World) (R : Array Wt × Bool) (a b s i : Nat) (W : World) : Prop := ∃ d, LR B v n w0 d W ∧ partialIns ltB a b s i d = R
def PiE (B : Nat) (v : Value) (n : Nat) (w0 : World) (R : Array Wt × Bool) (e : Ending) (W : World) : Prop := e = .returned (.bool R.2) ∧ LR B v n w0 R.1 W
set_option maxHeartbeats 8000000 in
set_option maxRecDepth 100000 in
theorem partialInsertionSort_any {B n : Nat} {v : Value} {w0 w : World} {d : Array Wt} (h : LR B v n w0 d w) {a b : Nat} (hab : a < b) (hb : b ≤ n) (hn : n ≤ 1000) :
    Calls Try.prog 46 #[.iface 40 v, .int .i64 a, .int .i64 b] w (PiE B v n w0 (partialInsertionSort ltB d a b)) := by
  have eL := ent_Less
  have eS := ent_Swap
  have gL := get_Less v
  have gS := get_Swap v
  have HST : Hid (PiR B v n w0 (partialInsertionSort ltB d a b) a b 5 (a + 1) w) := ⟨d, h, rfl⟩
  generalize partialInsertionSort ltB d a b = R at HST ⊢
  clear h
  go_enter Try.func46, Try.ntmps46
  go_wp2
  go_loopw [7, 8] (fun x y W => ∃ i j : Nat, x = .int .i64 i ∧ y = .int .i64 j ∧ a < i ∧ i ≤ b ∧ j ≤ 5 ∧ PiR B v n w0 R a b (5 - j) i W) (fun _ y _ => 5 - (Go.RowKit.intOf y).toNat)
  case atStart => exact ⟨a + 1, 0, by go_num, by go_num, by omega, by omega, by omega, HST.out⟩
  case round =>
    clear HST
    obtain ⟨i, j, rfl, rfl, hai, hib, hj5, d1, hlr, hR⟩ := hrel
    have H := Lib.hid hlr
    have HQ := Lib.hid hR
    clear hlr hR
    generalize wr = wx at *
    by_cases hj : j < 5
    · have hj' : (j : Int) < 5 := by omega
      have hs0 : 0 < 5 - j := by omega
      go_upto_block 2 with fail
      go_cut [7] from 17 to 29 (fun x W => ∃ k : Nat, x = .int .i64 k ∧ i ≤ k ∧ k ≤ b ∧ scanSorted ltB d1 b i = k ∧ LR B v n w0 d1 W)
      case first =>
        go_wp2_with fail
        go_loopw [7] (fun x W => ∃ k : Nat, x = .int .i64 k ∧ i ≤ k ∧ k ≤ b ∧ scanSorted ltB d1 b k = scanSorted ltB d1 b i ∧ LR B v n w0 d1 W) (fun x _ => b - (Go.RowKit.intOf x).toNat)
        case atStart => exact ⟨i, rfl, Nat.le_refl _, by omega, rfl, H.out⟩
        case round =>
          obtain ⟨k, rfl, hk1, hk2, hks, hlr⟩ := hrel
          have HK := Lib.hid hlr
          have HKS := Lib.hid hks
          clear hlr hks
          by_cases hkb : k < b
          · have hd : decide ((k : Int) < (b : Int)) = true := decide_eq_true (by omega)
            have HL := Lib.hid (fun W (q : LR B v n w0 d1 W) => LessN q (k : Int) ((k : Int) - 1) k (k - 1) rfl (by omega) (by omega) (by omega))
            cases hm : ltB d1[k]! d1[k - 1]! with
            | false =>
              rw [hm] at HL
              have HE := Lib.hid (scanSorted_go hkb hm)
              clear hm
              go_wp2_with (first
                | (go_at_fn 72; (with_reducible refine (HL.out _ HK.out).mono ?_); rintro e w1 ⟨rfl, h1⟩; have H1 := Lib.hid h1; clear h1))
              go_roundw
              case rel => exact ⟨k + 1, by go_num, by omega, by omega, by rw [← HKS.out, HE.out], H1.out⟩
              case measure => simp [Go.RowKit.intOf]; omega
            | true =>
              rw [hm] at HL
              have HE := Lib.hid (scanSorted_halt b hm)
              clear hm
              go_wp2_with (first
                | (go_at_fn 72; (with_reducible refine (HL.out _ HK.out).mono ?_); rintro e w1 ⟨rfl, h1⟩; have H1 := Lib.hid h1; clear h1))
              go_meet
              exact ⟨k, rfl, hk1, hk2, by rw [← HKS.out, HE.out], H1.out⟩
          · have hd : decide ((k : Int) < (b : Int)) = false := decide_eq_false (by omega)
            have HE := Lib.hid (scanSorted_stop (d := d1) hkb)
            go_wp2_with fail
            go_meet
            exact ⟨k, rfl, hk1, hk2, by rw [← HKS.out, HE.out], HK.out⟩
      case rest =>
        obtain ⟨i2, rfl, hi21, hi22, hi2s, hlr⟩ := hcut
        have HI2 := Lib.hid hi2s
        have H := Lib.hid hlr
        clear hi2s hlr
        by_cases hend : i2 = b
        · have HE : Hid (R = (d1, true)) := Lib.hid (by rw [← HQ.out]; exact partialIns_end hs0 (HI2.out.trans hend))
          subst hend
          go_wp2_with fail
          go_ret
          exact ⟨by rw [HE.out]; rfl, by rw [HE.out]; exact H.out⟩
        have hend' : ((i2 : Int) == (b : Int)) = false := beq_eq_false_iff_ne.2 (by omega)
        by_cases h50 : b - a < 50
        · have HE : Hid (R = (d1, false)) := Lib.hid (by rw [← HQ.out]; exact partialIns_few hs0 HI2.out hend h50)
          have h50' : (b : Int) - (a : Int) < 50 := by omega
          go_wp2_with fail
          go_ret
          exact ⟨by rw [HE.out]; rfl, by rw [HE.out]; exact H.out⟩
        have h50' : ¬ (b : Int) - (a : Int) < 50 := by omega
        have HE := Lib.hid (partialIns_go hs0 HI2.out hend h50)
        rw [HQ.out] at HE
        have HS := Lib.hid (fun W (q : LR B v n w0 d1 W) => SwapN q (i2 : Int) ((i2 : Int) - 1) i2 (i2 - 1) rfl (by omega) (by omega) (by omega))
        clear HQ HI2
        generalize swp d1 i2 (i2 - 1) = d2 at HS HE
        go_upto_region 12 with (first
          | (go_at_fn 73; (with_reducible refine (HS.out _ H.out).mono ?_); rintro e w1 ⟨rfl, h1⟩; have H2 := Lib.hid h1; clear h1))
        clear H HS
        go_upto_if 45 with fail
        obtain ⟨d3, hd3⟩ : ∃ x, (if i2 - a ≥ 2 then shiftDown ltB (i2 - 1) d2 else d2) = x := ⟨_, rfl⟩
        rw [hd3] at HE
        have HD3 := Lib.hid hd3
        clear hd3
        go_cut [] from 44 to 62 (fun W => LR B v n w0 d3 W)
        case first =>
          by_cases h2 : i2 - a ≥ 2
          · have h2' : (2 : Int) ≤ (i2 : Int) - (a : Int) := by omega
            rw [if_pos h2] at HD3
            have h2d : decide ((2 : Int) ≤ (i2 : Int) - (a : Int)) = true := decide_eq_true h2'
            try simp only [h2d]
            go_wp2_with fail
            go_loopw [9] (fun x W => ∃ k : Nat, x = .int .i64 k ∧ k < i2 ∧ ∃ d', LR B v n w0 d' W ∧ shiftDown ltB k d' = d3) (fun x _ => (Go.RowKit.intOf x).toNat)
            case atStart => exact ⟨i2 - 1, by go_num, by omega, _, H2.out, HD3.out⟩
            case round =>
              obtain ⟨k, rfl, hk1, d', hlr, hks⟩ := hrel
              have HK := Lib.hid hlr
              have HKS := Lib.hid hks
              clear hlr hks H2 HD3
              by_cases h0 : 0 < k
              · have h0' : (1 : Int) ≤ (k : Int) := by omega
                have HL := Lib.hid (fun W (q : LR B v n w0 d' W) => LessN q (k : Int) ((k : Int) - 1) k (k - 1) rfl (by omega) (by omega) (by omega))
                have HS := Lib.hid (fun W (q : LR B v n w0 d' W) => SwapN q (k : Int) ((k : Int) - 1) k (k - 1) rfl (by omega) (by omega) (by omega))
                cases hm : ltB d'[k]! d'[k - 1]! with
                | true =>
                  rw [hm] at HL
                  have HE2 := Lib.hid (shiftDown_go h0 hm)
                  clear hm
                  go_wp2_with (first
                    | (go_at_fn 72; (with_reducible refine (HL.out _ HK.out).mono ?_); rintro e w1 ⟨rfl, h1⟩; have H1 := Lib.hid h1; clear h1)
                    | (go_at_fn 73; (with_reducible refine (HS.out _ H1.out).mono ?_); rintro e w3 ⟨rfl, h1⟩; have H3 := Lib.hid h1; clear h1))
                  go_roundw
                  case rel => exact ⟨k - 1, by go_num, by omega, _, H3.out, by rw [← HKS.out, HE2.out]⟩
                  case measure => simp [Go.RowKit.intOf]; omega
                | false =>
                  rw [hm] at HL
                  have HE2 := Lib.hid (shiftDown_halt hm)
                  clear hm
                  go_wp2_with (first
                    | (go_at_fn 72; (with_reducible refine (HL.out _ HK.out).mono ?_); rintro e w1 ⟨rfl, h1⟩; have H1 := Lib.hid h1; clear h1))
                  go_meet
                  rw [← HKS.out, HE2.out]
                  exact H1.out
              · obtain rfl : k = 0 := by omega
                go_wp2_with fail
                go_meet
                have : d' = d3 := HKS.out
                rw [← this]
                exact HK.out
          · have h2' : ¬ (2 : Int) ≤ (i2 : Int) - (a : Int) := by omega
            rw [if_neg h2] at HD3
            go_wp2_with fail
            go_meet
            rw [← HD3.out]
            exact H2.out
        case rest =>
          have H3 := Lib.hid hcut
          clear hcut H2 HD3
          go_upto_if 66 with fail
          obtain ⟨d4, hd4⟩ : ∃ x, (if b - i2 ≥ 2 then shiftUp ltB b (i2 + 1) d3 else d3) = x := ⟨_, rfl⟩
          rw [hd4] at HE
          have HD4 := Lib.hid hd4
          clear hd4
          by_cases h2 : b - i2 ≥ 2
          · have h2' : (2 : Int) ≤ (b : Int) - (i2 : Int) := by omega
            rw [if_pos h2] at HD4
            have h2d : decide ((2 : Int) ≤ (b : Int) - (i2 : Int)) = true := decide_eq_true h2'
            try simp only [h2d]
            go_wp2_with fail
            go_loopw [10] (fun x W => ∃ k : Nat, x = .int .i64 k ∧ i2 < k ∧ k ≤ b ∧ ∃ d', LR B v n w0 d' W ∧ shiftUp ltB b k d' = d4) (fun x _ => b - (Go.RowKit.intOf x).toNat)
            case atStart => exact ⟨i2 + 1, by go_num, by omega, by omega, _, H3.out, HD4.out⟩
            case round =>
              obtain ⟨k, rfl, hk1, hk2, d', hlr, hks⟩ := hrel
              have HK := Lib.hid hlr
              have HKS := Lib.hid hks
              clear hlr hks H3 HD4
              by_cases h0 : k < b
              · have h0' : (k : Int) < (b : Int) := by omega
                have HL := Lib.hid (fun W (q : LR B v n w0 d' W) => LessN q (k : Int) ((k : Int) - 1) k (k - 1) rfl (by omega) (by omega) (by omega))
                have HS := Lib.hid (fun W (q : LR B v n w0 d' W) => SwapN q (k : Int) ((k : Int) - 1) k (k - 1) rfl (by omega) (by omega) (by omega))
                cases hm : ltB d'[k]! d'[k - 1]! with
                | true =>
                  rw [hm] at HL
                  have HE2 := Lib.hid (shiftUp_go h0 hm)
                  clear hm
                  go_wp2_with (first
                    | (go_at_fn 72; (with_reducible refine (HL.out _ HK.out).mono ?_); rintro e w1 ⟨rfl, h1⟩; have H1 := Lib.hid h1; clear h1)
                    | (go_at_fn 73; (with_reducible refine (HS.out _ H1.out).mono ?_); rintro e w3 ⟨rfl, h1⟩; have H3 := Lib.hid h1; clear h1))
                  go_roundw
                  case rel => exact ⟨k + 1, by go_num, by omega, by omega, _, H3.out, by rw [← HKS.out, HE2.out]⟩
                  case measure => simp [Go.RowKit.intOf]; omega
                | false =>
                  rw [hm] at HL
                  have HE2 : Hid (d' = d4) := Lib.hid (by rw [← HKS.out]; exact (shiftUp_halt h0 hm).symm)
                  clear hm
                  go_wp2_with (first
                    | (go_at_fn 72; (with_reducible refine (HL.out _ HK.out).mono ?_); rintro e w1 ⟨rfl, h1⟩; have H1 := Lib.hid h1; clear h1))
                  have HX : Hid (LR B v n w0 d4 w1) := Lib.hid (by rw [← HE2.out]; exact H1.out)
                  go_roundw
                  case rel => exact ⟨i2, j + 1, by go_num, by go_num, by omega, by omega, by omega, _, HX.out, by rw [HE.out, show 5 - (j + 1) = 5 - j - 1 by omega]⟩
                  case measure => simp [Go.RowKit.intOf]; omega
              · have h0' : ¬ (k : Int) < (b : Int) := by omega
                have HE2 : Hid (d' = d4) := Lib.hid (by rw [← HKS.out]; exact (shiftUp_stop h0).symm)
                have HX := Lib.hid HK.out
                rw [HE2.out] at HX
                go_wp2_with fail
                go_roundw
                case rel => exact ⟨i2, j + 1, by go_num, by go_num, by omega, by omega, by omega, _, HX.out, by rw [HE.out, show 5 - (j + 1) = 5 - j - 1 by omega]⟩
                case measure => simp [Go.RowKit.intOf]; omega
          · have h2' : ¬ (2 : Int) ≤ (b : Int) - (i2 : Int) := by omega
            rw [if_neg h2] at HD4
            have HX := Lib.hid H3.out
            rw [HD4.out] at HX
            go_wp2_with fail
            go_roundw
            case rel => exact ⟨i2, j + 1, by go_num, by go_num, by omega, by omega, by omega, _, HX.out, by rw [HE.out, show 5 - (j + 1) = 5 - j - 1 by omega]⟩
            case measure => simp [Go.RowKit.intOf]; omega
    · obtain rfl : j = 5 := by omega
      have HE : Hid (R = (d1, false)) := Lib.hid HQ.out.symm
      go_wp2
      go_ret
      exact ⟨by rw [HE.out]; rfl, by rw [HE.out]; exact H.out⟩
end Go.Proofs.Ytdgenemgegpkdaa.Queue
