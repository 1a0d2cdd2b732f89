/-
  The library's sort over a row of waits: partitionEqual.
-/
import Derived.Test.YtdgenemgegpkdaaQSrtA
import Derived.Deep.CutBlock
namespace Go.Proofs.Ytdgenemgegpkdaa.Queue
open Go.ChangeShapes Go.WideShapes Go.ChangeAt Go.RowKit Go.Shelf Go.Sort

section
variable {p : Wt → Bool} {d : Array Wt} {i j : Nat}
theorem scanUp_go (h : i ≤ j) (hp : p d[i]! = true) : scanUp p d j i = scanUp p d j (i + 1) := by
  conv => lhs; unfold scanUp
  rw [if_pos]; simp [h, hp]
theorem scanUp_halt (j : Nat) (hp : p d[i]! = false) : scanUp p d j i = i := by unfold scanUp; rw [if_neg]; simp [hp]
theorem scanUp_stop (h : ¬ i ≤ j) : scanUp p d j i = i := by unfold scanUp; rw [if_neg]; simp; omega
theorem scanDown_go (h : i ≤ j) (h0 : 0 < j) (hp : p d[j]! = true) : scanDown p d i j = scanDown p d i (j - 1) := by
  obtain ⟨k, rfl⟩ : ∃ k, j = k + 1 := ⟨j - 1, by omega⟩
  conv => lhs; unfold scanDown
  rw [if_pos]; simp; simp [hp]; exact h
theorem scanDown_halt (i : Nat) (hp : p d[j]! = false) : scanDown p d i j = j := by
  cases j with
  | zero => rfl
  | succ k => unfold scanDown; rw [if_neg]; simp [hp]
theorem scanDown_stop (h : ¬ i ≤ j) : scanDown p d i j = j := by
  cases j with
  | zero => rfl
  | succ k => unfold scanDown; rw [if_neg]; simp; omega
end

def PeR (B : Nat) (v : Value) (n : Nat) (w0 : World) (R : Nat × Array Wt) (a i j : Nat) (W : World) : Prop := ∃ d, LR B v n w0 d W ∧ partEqLoop ltB a i j d = R
def PeE (B : Nat) (v : Value) (n : Nat) (w0 : World) (R : Nat × Array Wt) (e : Ending) (W : World) : Prop := e = .returned (.int .i64 R.1) ∧ LR B v n w0 R.2 W
set_option maxHeartbeats 8000000 in
set_option maxRecDepth 100000 in
theorem partitionEqual_any {B n : Nat} {v : Value} {w0 w : World} {d : Array Wt} (h : LR B v n w0 d w) {a b pivot : Nat} (hp : a ≤ pivot) (hpb : pivot < b) (hb : b ≤ n) (hn : n ≤ 1000) :
    Calls Try.prog 47 #[.iface 40 v, .int .i64 a, .int .i64 b, .int .i64 pivot] w (PeE B v n w0 (partitionEqual ltB d a b pivot)) := by
  have eL := ent_Less
  have eS := ent_Swap
  have gL := get_Less v
  have gS := get_Swap v
  have HS0 := Lib.hid (SwapN h (a : Int) (pivot : Int) a pivot rfl rfl (by omega) (by omega))
  have HST : Hid (∀ W, LR B v n w0 (swp d a pivot) W → PeR B v n w0 (partitionEqual ltB d a b pivot) a (a + 1) (b - 1) W) := Lib.hid (fun W q => ⟨_, q, rfl⟩)
  generalize partitionEqual ltB d a b pivot = R at HST ⊢
  clear h
  go_enter Try.func47, Try.ntmps47
  go_wp2_with (first
    | (go_at_fn 73; (with_reducible refine HS0.out.mono ?_); rintro e w1 ⟨rfl, h1⟩; have H1 := Lib.hid (HST.out _ h1); clear h1))
  clear HST
  go_loopw [9, 10] (fun x y W => ∃ i j : Nat, x = .int .i64 i ∧ y = .int .i64 j ∧ a < i ∧ i ≤ j + 2 ∧ j < b ∧ PeR B v n w0 R a i j W) (fun x y _ => ((Go.RowKit.intOf y).toNat + 2) - (Go.RowKit.intOf x).toNat)
  case atStart => exact ⟨a + 1, b - 1, by go_num, by go_num, by omega, by omega, by omega, H1.out⟩
  case round =>
    clear H1
    obtain ⟨i, j, rfl, rfl, hai, hij, hjb, d1, hlr, hR⟩ := hrel
    have H := Lib.hid hlr
    have HQ := Lib.hid hR
    clear hlr hR
    generalize wr = wx at *
    go_upto_block 2 with fail
    go_cut [9] from 19 to 30 (fun x W => ∃ k : Nat, x = .int .i64 k ∧ i ≤ k ∧ k ≤ j + 2 ∧ scanUp (fun x => !ltB d1[a]! x) d1 j i = k ∧ LR B v n w0 d1 W)
    case first =>
      go_wp2_with fail
      go_loopw [9] (fun x W => ∃ k : Nat, x = .int .i64 k ∧ i ≤ k ∧ k ≤ j + 2 ∧ scanUp (fun x => !ltB d1[a]! x) d1 j k = scanUp (fun x => !ltB d1[a]! x) d1 j i ∧ LR B v n w0 d1 W) (fun x _ => j + 2 - (Go.RowKit.intOf x).toNat)
      case atStart => exact ⟨i, rfl, Nat.le_refl _, by omega, rfl, H.out⟩
      case round =>
        obtain ⟨k, rfl, hk1, hk2, hks, hlr⟩ := hrel
        have HK := Lib.hid hlr
        have HKS := Lib.hid hks
        clear hlr hks
        by_cases hkj : k ≤ j
        · have hd : decide ((k : Int) ≤ (j : Int)) = true := decide_eq_true (by omega)
          have HL := Lib.hid (fun W (q : LR B v n w0 d1 W) => LessN q (a : Int) (k : Int) a k rfl rfl (by omega) (by omega))
          cases hm : ltB d1[a]! d1[k]! with
          | false =>
            rw [hm] at HL
            have HE := Lib.hid (scanUp_go (p := fun x => !ltB d1[a]! x) (d := d1) hkj (by simp [hm]))
            clear hm
            go_wp2_with (first
              | (go_at_fn 72; (with_reducible refine (HL.out _ HK.out).mono ?_); rintro e w1 ⟨rfl, h1⟩; have H1 := Lib.hid h1; clear h1))
            go_roundw
            case rel => exact ⟨k + 1, by go_num, by omega, by omega, by rw [← HKS.out, HE.out], H1.out⟩
            case measure => simp [Go.RowKit.intOf]; omega
          | true =>
            rw [hm] at HL
            have HE := Lib.hid (scanUp_halt (p := fun x => !ltB d1[a]! x) (d := d1) (i := k) j (by simp [hm]))
            clear hm
            go_wp2_with (first
              | (go_at_fn 72; (with_reducible refine (HL.out _ HK.out).mono ?_); rintro e w1 ⟨rfl, h1⟩; have H1 := Lib.hid h1; clear h1))
            go_meet
            exact ⟨k, rfl, hk1, hk2, by rw [← HKS.out, HE.out], H1.out⟩
        · have hd : decide ((k : Int) ≤ (j : Int)) = false := decide_eq_false (by omega)
          have HE := Lib.hid (scanUp_stop (p := fun x => !ltB d1[a]! x) (d := d1) hkj)
          go_wp2_with fail
          go_meet
          exact ⟨k, rfl, hk1, hk2, by rw [← HKS.out, HE.out], HK.out⟩
    case rest =>
      obtain ⟨i2, rfl, i21, i22, i2s, hlr⟩ := hcut
      have HUi2 := Lib.hid i2s
      have H := Lib.hid hlr
      clear i2s hlr
      go_upto_block 4 with fail
      go_cut [10] from 31 to 41 (fun x W => ∃ k : Nat, x = .int .i64 k ∧ k ≤ j ∧ i2 ≤ k + 2 ∧ scanDown (fun x => ltB d1[a]! x) d1 i2 j = k ∧ LR B v n w0 d1 W)
      case first =>
        go_wp2_with fail
        go_loopw [10] (fun x W => ∃ k : Nat, x = .int .i64 k ∧ k ≤ j ∧ i2 ≤ k + 2 ∧ scanDown (fun x => ltB d1[a]! x) d1 i2 k = scanDown (fun x => ltB d1[a]! x) d1 i2 j ∧ LR B v n w0 d1 W) (fun x _ => (Go.RowKit.intOf x).toNat)
        case atStart => exact ⟨j, rfl, Nat.le_refl _, by omega, rfl, H.out⟩
        case round =>
          obtain ⟨k, rfl, hk1, hk2, hks, hlr⟩ := hrel
          have HK := Lib.hid hlr
          have HKS := Lib.hid hks
          clear hlr hks
          by_cases hkj : i2 ≤ k
          · have hd : decide ((i2 : Int) ≤ (k : Int)) = true := decide_eq_true (by omega)
            have HL := Lib.hid (fun W (q : LR B v n w0 d1 W) => LessN q (a : Int) (k : Int) a k rfl rfl (by omega) (by omega))
            cases hm : ltB d1[a]! d1[k]! with
            | true =>
              rw [hm] at HL
              have HE := Lib.hid (scanDown_go (p := fun x => ltB d1[a]! x) (d := d1) hkj (by omega) (by simp [hm]))
              clear hm
              go_wp2_with (first
                | (go_at_fn 72; (with_reducible refine (HL.out _ HK.out).mono ?_); rintro e w1 ⟨rfl, h1⟩; have H1 := Lib.hid h1; clear h1))
              go_roundw
              case rel => exact ⟨k - 1, by go_num, by omega, by omega, by rw [← HKS.out, HE.out], H1.out⟩
              case measure => simp [Go.RowKit.intOf]; omega
            | false =>
              rw [hm] at HL
              have HE := Lib.hid (scanDown_halt (p := fun x => ltB d1[a]! x) (d := d1) (j := k) i2 (by simp [hm]))
              clear hm
              go_wp2_with (first
                | (go_at_fn 72; (with_reducible refine (HL.out _ HK.out).mono ?_); rintro e w1 ⟨rfl, h1⟩; have H1 := Lib.hid h1; clear h1))
              go_meet
              exact ⟨k, rfl, hk1, hk2, by rw [← HKS.out, HE.out], H1.out⟩
          · have hd : decide ((i2 : Int) ≤ (k : Int)) = false := decide_eq_false (by omega)
            have HE := Lib.hid (scanDown_stop (p := fun x => ltB d1[a]! x) (d := d1) hkj)
            go_wp2_with fail
            go_meet
            exact ⟨k, rfl, hk1, hk2, by rw [← HKS.out, HE.out], HK.out⟩
      case rest =>
        obtain ⟨j2, rfl, j21, j22, j2s, hlr⟩ := hcut
        have HUj2 := Lib.hid j2s
        have H := Lib.hid hlr
        clear j2s hlr

        have HE := Lib.hid (partEqLoop_eq ltB a i j d1)
        rw [HUi2.out, HUj2.out, HQ.out] at HE
        by_cases hgt : j2 < i2
        · have HE2 : Hid (R = (i2, d1)) := Lib.hid (by rw [HE.out, if_pos hgt])
          have hgt' : decide ((j2 : Int) < (i2 : Int)) = true := decide_eq_true (by omega)
          go_wp2_with fail
          go_ret
          exact ⟨by rw [HE2.out]; rfl, by rw [HE2.out]; exact H.out⟩
        · have HE2 : Hid (R = partEqLoop ltB a (i2 + 1) (j2 - 1) (swp d1 i2 j2)) := Lib.hid (by rw [HE.out, if_neg hgt])
          have hgt' : decide ((j2 : Int) < (i2 : Int)) = false := decide_eq_false (by omega)
          have HS := Lib.hid (fun W (q : LR B v n w0 d1 W) => SwapN q (i2 : Int) (j2 : Int) i2 j2 rfl rfl (by omega) (by omega))
          go_wp2_with (first
            | (go_at_fn 73; (with_reducible refine (HS.out _ H.out).mono ?_); rintro e w2 ⟨rfl, h2⟩; have H2 := Lib.hid h2; clear h2))
          go_roundw
          case rel => exact ⟨i2 + 1, j2 - 1, by go_num, by go_num, by omega, by omega, by omega, _, H2.out, HE2.out.symm⟩
          case measure => simp [Go.RowKit.intOf]; omega
end Go.Proofs.Ytdgenemgegpkdaa.Queue
