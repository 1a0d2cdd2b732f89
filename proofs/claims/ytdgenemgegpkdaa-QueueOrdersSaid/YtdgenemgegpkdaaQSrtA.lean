/-
  The library's sort over a row of waits: insertionSort, reverseRange.
-/
import Derived.Test.YtdgenemgegpkdaaQSrt
namespace Go.Proofs.Ytdgenemgegpkdaa.Queue
open Go.ChangeShapes Go.WideShapes Go.ChangeAt Go.RowKit Go.Shelf Go.Sort

theorem insInner_stop {a j : Nat} (d : Array Wt) (h : j ≤ a) : insInner ltB a j d = d := by
  cases j with
  | zero => rfl
  | succ j => unfold insInner; rw [if_neg]; simp; omega
theorem insInner_halt {a j : Nat} {d : Array Wt} (h : a < j) (hl : ltB d[j]! d[j - 1]! = false) : insInner ltB a j d = d := by
  cases j with
  | zero => rfl
  | succ j => unfold insInner; rw [if_neg]; simp at hl ⊢; intro _; exact hl
theorem insInner_go {a j : Nat} {d : Array Wt} (h : a < j) (hl : ltB d[j]! d[j - 1]! = true) : insInner ltB a j d = insInner ltB a (j - 1) (swp d j (j - 1)) := by
  cases j with
  | zero => omega
  | succ j => conv => lhs; unfold insInner
              rw [if_pos]; simp; simp at hl; simp; exact ⟨by omega, hl⟩

theorem insOuter_go {a b i : Nat} {d : Array Wt} (h : i < b) : insOuter ltB a b i d = insOuter ltB a b (i + 1) (insInner ltB a i d) := by
  conv => lhs; unfold insOuter
  rw [if_pos h]
theorem insOuter_stop {a b i : Nat} {d : Array Wt} (h : ¬ i < b) : insOuter ltB a b i d = d := by unfold insOuter; rw [if_neg h]
theorem reverseLoop_go {i j : Nat} {d : Array Wt} (h : i < j) : reverseLoop i j d = reverseLoop (i + 1) (j - 1) (swp d i j) := by
  conv => lhs; unfold reverseLoop
  rw [if_pos h]
theorem reverseLoop_stop {i j : Nat} {d : Array Wt} (h : ¬ i < j) : reverseLoop i j d = d := by unfold reverseLoop; rw [if_neg h]
/-- So far: what is left to do comes to what was to be done. -/
def InsR (B : Nat) (v : Value) (n : Nat) (w0 : World) (R : Array Wt) (a b : Nat) (i : Nat) (W : World) : Prop := ∃ d, LR B v n w0 d W ∧ insOuter ltB a b i d = R
def InsI (B : Nat) (v : Value) (n : Nat) (w0 : World) (R : Array Wt) (a : Nat) (j : Nat) (W : World) : Prop := ∃ d, LR B v n w0 d W ∧ insInner ltB a j d = R
set_option maxHeartbeats 4000000 in
set_option maxRecDepth 100000 in
theorem insertionSort_any {B n : Nat} {v : Value} {w0 w : World} {d : Array Wt} (h : LR B v n w0 d w) {a b : Nat} (hab : a ≤ b) (hb : b ≤ n) (hn : n ≤ 1000) :
    Calls Try.prog 41 #[.iface 40 v, .int .i64 a, .int .i64 b] w (Ends B v n w0 (insertionSort ltB d a b)) := by
  have eL := ent_Less
  have eS := ent_Swap
  have gL := get_Less v
  have gS := get_Swap v
  have HST : Hid (InsR B v n w0 (insertionSort ltB d a b) a b (a + 1) w) := ⟨d, h, rfl⟩
  generalize insertionSort ltB d a b = R at HST ⊢
  clear h
  go_enter Try.func41, Try.ntmps41
  go_wp2
  go_loopw [6] (fun x W => ∃ i : Nat, x = .int .i64 i ∧ a < i ∧ i ≤ b + 1 ∧ InsR B v n w0 R a b i W) (fun x _ => b + 1 - (Go.RowKit.intOf x).toNat)
  case atStart => exact ⟨a + 1, by go_num, by omega, by omega, HST.out⟩
  case round =>
    clear HST
    obtain ⟨i, rfl, hai, hib, d1, hlr, hR⟩ := hrel
    by_cases hlt : i < b
    · have HI : Hid (InsI B v n w0 (insInner ltB a i d1) a i wr) := ⟨d1, hlr, rfl⟩
      have HRR : Hid (insOuter ltB a b (i + 1) (insInner ltB a i d1) = R) := Lib.hid (by rw [← hR, insOuter_go hlt])
      generalize insInner ltB a i d1 = R1 at HI HRR
      clear hlr hR
      generalize wr = wx at *
      go_wp2
      go_loopw [7] (fun x W => ∃ j : Nat, x = .int .i64 j ∧ j ≤ i ∧ InsI B v n w0 R1 a j W) (fun x _ => (Go.RowKit.intOf x).toNat)
      case atStart => exact ⟨i, rfl, Nat.le_refl _, HI.out⟩
      case round =>
        clear HI
        obtain ⟨j, rfl, hji, d2, hlr, hR⟩ := hrel
        have H := Lib.hid hlr
        have HQ := Lib.hid hR
        clear hlr hR
        by_cases hja : a < j
        · have hd : decide ((a : Int) < (j : Int)) = true := decide_eq_true (by omega)
          have HL := Lib.hid (fun W (q : LR B v n w0 d2 W) => LessN q (j : Int) ((j : Int) - 1) j (j - 1) rfl (by omega) (by omega) (by omega))
          have HS := Lib.hid (fun W (q : LR B v n w0 d2 W) => SwapN q (j : Int) ((j : Int) - 1) j (j - 1) rfl (by omega) (by omega) (by omega))
          cases hm : ltB d2[j]! d2[j - 1]! with
          | true =>
            rw [hm] at HL
            have HE := Lib.hid (insInner_go hja hm)
            clear hm
            go_wp2_with (first
              | (go_at_fn 72; (with_reducible refine (HL.out _ H.out).mono ?_); rintro e w1 ⟨rfl, h1⟩; have H1 := Lib.hid h1; clear h1)
              | (go_at_fn 73; (with_reducible refine (HS.out _ H1.out).mono ?_); rintro e w2 ⟨rfl, h2⟩; have H2 := Lib.hid h2; clear h2))
            go_roundw
            case rel => exact ⟨j - 1, by go_num, by omega, _, H2.out, by rw [← HQ.out, HE.out]⟩
            case measure => simp [Go.RowKit.intOf]; omega
          | false =>
            rw [hm] at HL
            have HE := Lib.hid (insInner_halt hja hm)
            clear hm
            go_wp2_with (first
              | (go_at_fn 72; (with_reducible refine (HL.out _ H.out).mono ?_); rintro e w1 ⟨rfl, h1⟩; have H1 := Lib.hid h1; clear h1))
            go_roundw
            case rel => exact ⟨i + 1, by go_num, by omega, by omega, _, H1.out, by rw [← HRR.out, ← HQ.out, HE.out]⟩
            case measure => simp [Go.RowKit.intOf]; omega
        · have hd : decide ((a : Int) < (j : Int)) = false := decide_eq_false (by omega)
          have HE := Lib.hid (insInner_stop d2 (Nat.le_of_not_lt hja))
          go_wp2
          go_roundw
          case rel => exact ⟨i + 1, by go_num, by omega, by omega, _, H.out, by rw [← HRR.out, ← HQ.out, HE.out]⟩
          case measure => simp [Go.RowKit.intOf]; omega
    · have HE : Hid (d1 = R) := Lib.hid (by rw [← hR, insOuter_stop hlt])
      have H := Lib.hid hlr
      clear hlr hR
      go_wp2
      go_end0
      exact ⟨rfl, by rw [← HE.out]; exact H.out⟩

def RevR (B : Nat) (v : Value) (n : Nat) (w0 : World) (R : Array Wt) (i j : Nat) (W : World) : Prop := ∃ d, LR B v n w0 d W ∧ reverseLoop i j d = R
set_option maxHeartbeats 4000000 in
set_option maxRecDepth 100000 in
theorem reverseRange_any {B n : Nat} {v : Value} {w0 w : World} {d : Array Wt} (h : LR B v n w0 d w) {a b : Nat} (hab : a < b) (hb : b ≤ n) (hn : n ≤ 1000) :
    Calls Try.prog 45 #[.iface 40 v, .int .i64 a, .int .i64 b] w (Ends B v n w0 (reverseRange d a b)) := by
  have eS := ent_Swap
  have gS := get_Swap v
  have HST : Hid (RevR B v n w0 (reverseRange d a b) a (b - 1) w) := ⟨d, h, rfl⟩
  generalize reverseRange d a b = R at HST ⊢
  clear h
  go_enter Try.func45, Try.ntmps45
  go_wp2
  go_loopw [6, 7] (fun x y W => ∃ i j : Nat, x = .int .i64 i ∧ y = .int .i64 j ∧ i ≤ j + 1 ∧ j < b ∧ RevR B v n w0 R i j W) (fun x _ _ => 2000 - (Go.RowKit.intOf x).toNat)
  case atStart => exact ⟨a, b - 1, rfl, by go_num, by omega, by omega, HST.out⟩
  case round =>
    clear HST
    obtain ⟨i, j, rfl, rfl, hij, hjb, d1, hlr, hR⟩ := hrel
    have H := Lib.hid hlr
    have HQ := Lib.hid hR
    clear hlr hR
    by_cases hlt : i < j
    · have HS := Lib.hid (fun W (q : LR B v n w0 d1 W) => SwapN q (i : Int) (j : Int) i j rfl rfl (by omega) (by omega))
      have HE : Hid (reverseLoop i j d1 = reverseLoop (i + 1) (j - 1) (swp d1 i j)) := Lib.hid (reverseLoop_go hlt)
      go_wp2_with (first
        | (go_at_fn 73; (with_reducible refine (HS.out _ H.out).mono ?_); rintro e w2 ⟨rfl, h2⟩; have H2 := Lib.hid h2; clear h2))
      go_roundw
      case rel => exact ⟨i + 1, j - 1, by go_num, by go_num, by omega, by omega, _, H2.out, by rw [← HQ.out, HE.out]⟩
      case measure => simp [Go.RowKit.intOf]; omega
    · have HE : Hid (d1 = R) := Lib.hid (by rw [← HQ.out, reverseLoop_stop hlt])
      go_wp2
      go_end0
      exact ⟨rfl, by rw [← HE.out]; exact H.out⟩
end Go.Proofs.Ytdgenemgegpkdaa.Queue
