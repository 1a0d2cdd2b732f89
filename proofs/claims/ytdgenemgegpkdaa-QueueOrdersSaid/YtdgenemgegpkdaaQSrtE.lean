/-
  The library's sort over a row of waits: partition.
-/
import Derived.Test.YtdgenemgegpkdaaQSrtD
namespace Go.Proofs.Ytdgenemgegpkdaa.Queue
open Go.ChangeShapes Go.WideShapes Go.ChangeAt Go.RowKit Go.Shelf Go.Sort

def PtR (B : Nat) (v : Value) (n : Nat) (w0 : World) (R : Nat × Array Wt) (a i j : Nat) (W : World) : Prop := ∃ d, LR B v n w0 d W ∧ partLoop ltB a i j d = R
def PtE (B : Nat) (v : Value) (n : Nat) (w0 : World) (R : Nat × Bool × Array Wt) (e : Ending) (W : World) : Prop := e = .returned (.tuple #[.int .i64 R.1, .bool R.2.1]) ∧ LR B v n w0 R.2.2 W
theorem partition_eq (d : Array Wt) (a b pivot : Nat) {d0 : Array Wt} (e : swp d a pivot = d0) {i j : Nat} (hi : scanUp (fun x => ltB x d0[a]!) d0 (b - 1) (a + 1) = i) (hj : scanDown (fun x => !ltB x d0[a]!) d0 i (b - 1) = j) :
    partition ltB d a b pivot = if i > j then (j, true, swp d0 j a) else ((partLoop ltB a (i + 1) (j - 1) (swp d0 i j)).1, false, swp (partLoop ltB a (i + 1) (j - 1) (swp d0 i j)).2 (partLoop ltB a (i + 1) (j - 1) (swp d0 i j)).1 a) := by
  subst e
  subst hi
  subst hj
  rfl
set_option maxHeartbeats 8000000 in
set_option maxRecDepth 100000 in
theorem partition_any {B n : Nat} {v : Value} {w0 w : World} {d : Array Wt} (h : LR B v n w0 d w) {a b pivot : Nat} (hp : a ≤ pivot) (hpb : pivot < b) (hb : b ≤ n) (hn : n ≤ 1000) :
    Calls Try.prog 48 #[.iface 40 v, .int .i64 a, .int .i64 b, .int .i64 pivot] w (PtE B v n w0 (partition ltB d a b pivot)) := by
  have eL := ent_Less
  have eS := ent_Swap
  have gL := get_Less v
  have gS := get_Swap v
  have HS0 := Lib.hid (SwapN h (a : Int) (pivot : Int) a pivot rfl rfl (by omega) (by omega))
  have HPE := Lib.hid (fun d0 i j e hi hj => partition_eq d a b pivot (d0 := d0) (i := i) (j := j) e hi hj)
  generalize partition ltB d a b pivot = R at HPE ⊢
  obtain ⟨d0, hd0⟩ : ∃ x, swp d a pivot = x := ⟨_, rfl⟩
  have HD0 := Lib.hid hd0
  rw [hd0] at HS0
  obtain ⟨i0, hi0⟩ : ∃ x : Nat, a + 1 = x := ⟨_, rfl⟩
  obtain ⟨j0, hj0⟩ : ∃ x : Nat, b - 1 = x := ⟨_, rfl⟩
  rw [hi0, hj0] at HPE
  have ei0 : (a : Int) + 1 = (i0 : Int) := by omega
  have ej0 : (b : Int) - 1 = (j0 : Int) := by omega
  clear h hd0
  go_enter Try.func48, Try.ntmps48
  go_upto_block 0 with (first
    | (go_at_fn 73; (with_reducible refine HS0.out.mono ?_); rintro e w1 ⟨rfl, h1⟩; have H := Lib.hid h1; clear h1))
  try simp only [ei0, ej0]
  clear ei0 ej0
  go_cut [10] from 20 to 30 (fun x W => ∃ k : Nat, x = .int .i64 k ∧ i0 ≤ k ∧ k ≤ j0 + 2 ∧ scanUp (fun x => ltB x d0[a]!) d0 j0 i0 = k ∧ LR B v n w0 d0 W)
  case first =>
    go_wp2_with fail
    go_loopw [10] (fun x W => ∃ k : Nat, x = .int .i64 k ∧ i0 ≤ k ∧ k ≤ j0 + 2 ∧ scanUp (fun x => ltB x d0[a]!) d0 j0 k = scanUp (fun x => ltB x d0[a]!) d0 j0 i0 ∧ LR B v n w0 d0 W) (fun x _ => j0 + 2 - (Go.RowKit.intOf x).toNat)
    case atStart => exact ⟨i0, rfl, Nat.le_refl _, by omega, rfl, H.out⟩
    case round =>
      obtain ⟨k, rfl, hk1, hk2, hks, hlr⟩ := hrel
      have HK := Lib.hid hlr
      have HKS := Lib.hid hks
      clear hlr hks
      by_cases hkj : k ≤ j0
      · have hd : decide ((k : Int) ≤ (j0 : Int)) = true := decide_eq_true (by omega)
        have HL := Lib.hid (fun W (q : LR B v n w0 d0 W) => LessN q (k : Int) (a : Int) k a rfl rfl (by omega) (by omega))
        cases hm : ltB d0[k]! d0[a]! with
        | true =>
          rw [hm] at HL
          have HE := Lib.hid (scanUp_go (p := fun x => ltB x d0[a]!) (d := d0) hkj (by simp [hm]))
          clear hm
          go_wp2_with (first
            | (go_at_fn 72; (with_reducible refine (HL.out _ HK.out).mono ?_); rintro e w1 ⟨rfl, h1⟩; have H1 := Lib.hid h1; clear h1))
          go_roundw
          case rel => exact ⟨k + 1, by go_num, by omega, by omega, by rw [← HKS.out, HE.out], H1.out⟩
          case measure => simp [Go.RowKit.intOf]; omega
        | false =>
          rw [hm] at HL
          have HE := Lib.hid (scanUp_halt (p := fun x => ltB x d0[a]!) (d := d0) (i := k) j0 (by simp [hm]))
          clear hm
          go_wp2_with (first
            | (go_at_fn 72; (with_reducible refine (HL.out _ HK.out).mono ?_); rintro e w1 ⟨rfl, h1⟩; have H1 := Lib.hid h1; clear h1))
          go_meet
          exact ⟨k, rfl, hk1, hk2, by rw [← HKS.out, HE.out], H1.out⟩
      · have hd : decide ((k : Int) ≤ (j0 : Int)) = false := decide_eq_false (by omega)
        have HE := Lib.hid (scanUp_stop (p := fun x => ltB x d0[a]!) (d := d0) hkj)
        go_wp2_with fail
        go_meet
        exact ⟨k, rfl, hk1, hk2, by rw [← HKS.out, HE.out], HK.out⟩
  case rest =>
    obtain ⟨i1, rfl, i11, i12, i1s, hlr⟩ := hcut
    have HUi1 := Lib.hid i1s
    have H := Lib.hid hlr
    clear i1s hlr
    go_upto_block 2 with fail
    go_cut [11] from 31 to 42 (fun x W => ∃ k : Nat, x = .int .i64 k ∧ k ≤ j0 ∧ i1 ≤ k + 2 ∧ scanDown (fun x => !ltB x d0[a]!) d0 i1 j0 = k ∧ LR B v n w0 d0 W)
    case first =>
      go_wp2_with fail
      go_loopw [11] (fun x W => ∃ k : Nat, x = .int .i64 k ∧ k ≤ j0 ∧ i1 ≤ k + 2 ∧ scanDown (fun x => !ltB x d0[a]!) d0 i1 k = scanDown (fun x => !ltB x d0[a]!) d0 i1 j0 ∧ LR B v n w0 d0 W) (fun x _ => (Go.RowKit.intOf x).toNat)
      case atStart => exact ⟨j0, rfl, Nat.le_refl _, by omega, rfl, H.out⟩
      case round =>
        obtain ⟨k, rfl, hk1, hk2, hks, hlr⟩ := hrel
        have HK := Lib.hid hlr
        have HKS := Lib.hid hks
        clear hlr hks
        by_cases hkj : i1 ≤ k
        · have hd : decide ((i1 : Int) ≤ (k : Int)) = true := decide_eq_true (by omega)
          have HL := Lib.hid (fun W (q : LR B v n w0 d0 W) => LessN q (k : Int) (a : Int) k a rfl rfl (by omega) (by omega))
          cases hm : ltB d0[k]! d0[a]! with
          | false =>
            rw [hm] at HL
            have HE := Lib.hid (scanDown_go (p := fun x => !ltB x d0[a]!) (d := d0) hkj (by omega) (by simp [hm]))
            clear hm
            go_wp2_with (first
              | (go_at_fn 72; (with_reducible refine (HL.out _ HK.out).mono ?_); rintro e w1 ⟨rfl, h1⟩; have H1 := Lib.hid h1; clear h1))
            go_roundw
            case rel => exact ⟨k - 1, by go_num, by omega, by omega, by rw [← HKS.out, HE.out], H1.out⟩
            case measure => simp [Go.RowKit.intOf]; omega
          | true =>
            rw [hm] at HL
            have HE := Lib.hid (scanDown_halt (p := fun x => !ltB x d0[a]!) (d := d0) (j := k) i1 (by simp [hm]))
            clear hm
            go_wp2_with (first
              | (go_at_fn 72; (with_reducible refine (HL.out _ HK.out).mono ?_); rintro e w1 ⟨rfl, h1⟩; have H1 := Lib.hid h1; clear h1))
            go_meet
            exact ⟨k, rfl, hk1, hk2, by rw [← HKS.out, HE.out], H1.out⟩
        · have hd : decide ((i1 : Int) ≤ (k : Int)) = false := decide_eq_false (by omega)
          have HE := Lib.hid (scanDown_stop (p := fun x => !ltB x d0[a]!) (d := d0) hkj)
          go_wp2_with fail
          go_meet
          exact ⟨k, rfl, hk1, hk2, by rw [← HKS.out, HE.out], HK.out⟩
    case rest =>
      obtain ⟨j1, rfl, j11, j12, j1s, hlr⟩ := hcut
      have HUj1 := Lib.hid j1s
      have H := Lib.hid hlr
      clear j1s hlr

      go_upto_region 7 with fail
      by_cases hgt : j1 < i1
      · have HRE : Hid (R = (j1, true, swp d0 j1 a)) := Lib.hid (by rw [HPE.out d0 i1 j1 HD0.out HUi1.out HUj1.out, if_pos hgt])
        have hgt' : decide ((j1 : Int) < (i1 : Int)) = true := decide_eq_true (by omega)
        have HS := Lib.hid (fun W (q : LR B v n w0 d0 W) => SwapN q (j1 : Int) (a : Int) j1 a rfl rfl (by omega) (by omega))
        go_wp2_with (first
          | (go_at_fn 73; (with_reducible refine (HS.out _ H.out).mono ?_); rintro e w2 ⟨rfl, h2⟩; have H2 := Lib.hid h2; clear h2))
        go_ret2
        exact ⟨by rw [HRE.out]; rfl, by rw [HRE.out]; exact H2.out⟩
      · have HRE := Lib.hid (HPE.out d0 i1 j1 HD0.out HUi1.out HUj1.out)
        rw [if_neg hgt] at HRE
        have HPR : Hid (∀ W, LR B v n w0 (swp d0 i1 j1) W → PtR B v n w0 (partLoop ltB a (i1 + 1) (j1 - 1) (swp d0 i1 j1)) a (i1 + 1) (j1 - 1) W) := Lib.hid (fun W q => ⟨_, q, rfl⟩)
        generalize partLoop ltB a (i1 + 1) (j1 - 1) (swp d0 i1 j1) = R2 at HRE HPR
        have hgt' : decide ((j1 : Int) < (i1 : Int)) = false := decide_eq_false (by omega)
        have HS := Lib.hid (fun W (q : LR B v n w0 d0 W) => SwapN q (i1 : Int) (j1 : Int) i1 j1 rfl rfl (by omega) (by omega))
        go_wp2_with (first
          | (go_at_fn 73; (with_reducible refine (HS.out _ H.out).mono ?_); rintro e w2 ⟨rfl, h2⟩; have H2 := Lib.hid (HPR.out _ h2); clear h2))
        clear HPR H HUi1 HUj1 HPE HD0
        go_loopw [10, 11] (fun x y W => ∃ i j : Nat, x = .int .i64 i ∧ y = .int .i64 j ∧ a < i ∧ i ≤ j + 2 ∧ j < b ∧ PtR B v n w0 R2 a i j W) (fun x y _ => ((Go.RowKit.intOf y).toNat + 2) - (Go.RowKit.intOf x).toNat)
        case atStart => exact ⟨i1 + 1, j1 - 1, by go_num, by go_num, by omega, by omega, by omega, H2.out⟩
        case round =>
          clear H2
          obtain ⟨i, j, rfl, rfl, hai, hij, hjb, d1, hlr, hR⟩ := hrel
          have H := Lib.hid hlr
          have HQ := Lib.hid hR
          clear hlr hR
          generalize wr = wx at *
          go_upto_block 6 with fail
          go_cut [10] from 59 to 69 (fun x W => ∃ k : Nat, x = .int .i64 k ∧ i ≤ k ∧ k ≤ j + 2 ∧ scanUp (fun x => ltB x d1[a]!) d1 j i = k ∧ LR B v n w0 d1 W)
          case first =>
            go_wp2_with fail
            go_loopw [10] (fun x W => ∃ k : Nat, x = .int .i64 k ∧ i ≤ k ∧ k ≤ j + 2 ∧ scanUp (fun x => ltB x d1[a]!) d1 j k = scanUp (fun x => ltB x d1[a]!) d1 j i ∧ LR B v n w0 d1 W) (fun x _ => j + 2 - (Go.RowKit.intOf x).toNat)
            case atStart => exact ⟨i, rfl, Nat.le_refl _, by omega, rfl, H.out⟩
            case round =>
              obtain ⟨k, rfl, hk1, hk2, hks, hlr⟩ := hrel
              have HK := Lib.hid hlr
              have HKS := Lib.hid hks
              clear hlr hks
              by_cases hkj : k ≤ j
              · have hd : decide ((k : Int) ≤ (j : Int)) = true := decide_eq_true (by omega)
                have HL := Lib.hid (fun W (q : LR B v n w0 d1 W) => LessN q (k : Int) (a : Int) k a rfl rfl (by omega) (by omega))
                cases hm : ltB d1[k]! d1[a]! with
                | true =>
                  rw [hm] at HL
                  have HE := Lib.hid (scanUp_go (p := fun x => ltB x d1[a]!) (d := d1) hkj (by simp [hm]))
                  clear hm
                  go_wp2_with (first
                    | (go_at_fn 72; (with_reducible refine (HL.out _ HK.out).mono ?_); rintro e w1 ⟨rfl, h1⟩; have H1 := Lib.hid h1; clear h1))
                  go_roundw
                  case rel => exact ⟨k + 1, by go_num, by omega, by omega, by rw [← HKS.out, HE.out], H1.out⟩
                  case measure => simp [Go.RowKit.intOf]; omega
                | false =>
                  rw [hm] at HL
                  have HE := Lib.hid (scanUp_halt (p := fun x => ltB x d1[a]!) (d := d1) (i := k) j (by simp [hm]))
                  clear hm
                  go_wp2_with (first
                    | (go_at_fn 72; (with_reducible refine (HL.out _ HK.out).mono ?_); rintro e w1 ⟨rfl, h1⟩; have H1 := Lib.hid h1; clear h1))
                  go_meet
                  exact ⟨k, rfl, hk1, hk2, by rw [← HKS.out, HE.out], H1.out⟩
              · have hd : decide ((k : Int) ≤ (j : Int)) = false := decide_eq_false (by omega)
                have HE := Lib.hid (scanUp_stop (p := fun x => ltB x d1[a]!) (d := d1) hkj)
                go_wp2_with fail
                go_meet
                exact ⟨k, rfl, hk1, hk2, by rw [← HKS.out, HE.out], HK.out⟩
          case rest =>
            obtain ⟨i2, rfl, i21, i22, i2s, hlr⟩ := hcut
            have HUi2 := Lib.hid i2s
            have H := Lib.hid hlr
            clear i2s hlr
            go_upto_block 8 with fail
            go_cut [11] from 70 to 81 (fun x W => ∃ k : Nat, x = .int .i64 k ∧ k ≤ j ∧ i2 ≤ k + 2 ∧ scanDown (fun x => !ltB x d1[a]!) d1 i2 j = k ∧ LR B v n w0 d1 W)
            case first =>
              go_wp2_with fail
              go_loopw [11] (fun x W => ∃ k : Nat, x = .int .i64 k ∧ k ≤ j ∧ i2 ≤ k + 2 ∧ scanDown (fun x => !ltB x d1[a]!) d1 i2 k = scanDown (fun x => !ltB x d1[a]!) d1 i2 j ∧ LR B v n w0 d1 W) (fun x _ => (Go.RowKit.intOf x).toNat)
              case atStart => exact ⟨j, rfl, Nat.le_refl _, by omega, rfl, H.out⟩
              case round =>
                obtain ⟨k, rfl, hk1, hk2, hks, hlr⟩ := hrel
                have HK := Lib.hid hlr
                have HKS := Lib.hid hks
                clear hlr hks
                by_cases hkj : i2 ≤ k
                · have hd : decide ((i2 : Int) ≤ (k : Int)) = true := decide_eq_true (by omega)
                  have HL := Lib.hid (fun W (q : LR B v n w0 d1 W) => LessN q (k : Int) (a : Int) k a rfl rfl (by omega) (by omega))
                  cases hm : ltB d1[k]! d1[a]! with
                  | false =>
                    rw [hm] at HL
                    have HE := Lib.hid (scanDown_go (p := fun x => !ltB x d1[a]!) (d := d1) hkj (by omega) (by simp [hm]))
                    clear hm
                    go_wp2_with (first
                      | (go_at_fn 72; (with_reducible refine (HL.out _ HK.out).mono ?_); rintro e w1 ⟨rfl, h1⟩; have H1 := Lib.hid h1; clear h1))
                    go_roundw
                    case rel => exact ⟨k - 1, by go_num, by omega, by omega, by rw [← HKS.out, HE.out], H1.out⟩
                    case measure => simp [Go.RowKit.intOf]; omega
                  | true =>
                    rw [hm] at HL
                    have HE := Lib.hid (scanDown_halt (p := fun x => !ltB x d1[a]!) (d := d1) (j := k) i2 (by simp [hm]))
                    clear hm
                    go_wp2_with (first
                      | (go_at_fn 72; (with_reducible refine (HL.out _ HK.out).mono ?_); rintro e w1 ⟨rfl, h1⟩; have H1 := Lib.hid h1; clear h1))
                    go_meet
                    exact ⟨k, rfl, hk1, hk2, by rw [← HKS.out, HE.out], H1.out⟩
                · have hd : decide ((i2 : Int) ≤ (k : Int)) = false := decide_eq_false (by omega)
                  have HE := Lib.hid (scanDown_stop (p := fun x => !ltB x d1[a]!) (d := d1) hkj)
                  go_wp2_with fail
                  go_meet
                  exact ⟨k, rfl, hk1, hk2, by rw [← HKS.out, HE.out], HK.out⟩
            case rest =>
              obtain ⟨j2, rfl, j21, j22, j2s, hlr⟩ := hcut
              have HUj2 := Lib.hid j2s
              have H := Lib.hid hlr
              clear j2s hlr

              have HE := Lib.hid (partLoop_eq ltB a i j d1)
              rw [HUi2.out, HUj2.out, HQ.out] at HE
              by_cases hgt : j2 < i2
              · have HE2 : Hid (R2 = (j2, d1)) := Lib.hid (by rw [HE.out, if_pos hgt])
                have hgt' : decide ((j2 : Int) < (i2 : Int)) = true := decide_eq_true (by omega)
                have HS := Lib.hid (fun W (q : LR B v n w0 d1 W) => SwapN q (j2 : Int) (a : Int) j2 a rfl rfl (by omega) (by omega))
                go_wp2_with (first
                  | (go_at_fn 73; (with_reducible refine (HS.out _ H.out).mono ?_); rintro e w2 ⟨rfl, h2⟩; have H2 := Lib.hid h2; clear h2))
                go_ret2
                exact ⟨by rw [HRE.out, HE2.out]; rfl, by rw [HRE.out, HE2.out]; exact H2.out⟩
              · have HE2 : Hid (R2 = partLoop ltB a (i2 + 1) (j2 - 1) (swp d1 i2 j2)) := Lib.hid (by rw [HE.out, if_neg hgt])
                have hgt' : decide ((j2 : Int) < (i2 : Int)) = false := decide_eq_false (by omega)
                have HS := Lib.hid (fun W (q : LR B v n w0 d1 W) => SwapN q (i2 : Int) (j2 : Int) i2 j2 rfl rfl (by omega) (by omega))
                go_wp2_with (first
                  | (go_at_fn 73; (with_reducible refine (HS.out _ H.out).mono ?_); rintro e w2 ⟨rfl, h2⟩; have H2 := Lib.hid h2; clear h2))
                go_roundw
                case rel => exact ⟨i2 + 1, j2 - 1, by go_num, by go_num, by omega, by omega, by omega, _, H2.out, HE2.out.symm⟩
                case measure => simp [Go.RowKit.intOf]; omega
end Go.Proofs.Ytdgenemgegpkdaa.Queue
