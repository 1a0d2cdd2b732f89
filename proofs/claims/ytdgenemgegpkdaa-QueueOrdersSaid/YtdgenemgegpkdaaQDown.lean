/-
  The library's heap over a row of waits behind its address: down.
-/
import Derived.Test.YtdgenemgegpkdaaQUp
namespace Go.Proofs.Ytdgenemgegpkdaa.Queue
open Go.ChangeShapes Go.WideShapes Go.ChangeAt Go.RowKit Go.Shelf Go.Sort

def DnR (B hb : Nat) (v : Value) (n i0 : Nat) (l : List Wt) (w : World) (i : Nat) (W : World) : Prop := ∃ l', HS B hb v l' W ∧ l'.length = l.length ∧ i < l.length ∧ i ≤ n ∧ Below B w W ∧ down n i l'.toArray = down n i0 l.toArray
/-- Behind the call. -/
def DnE (B hb : Nat) (v : Value) (d : Array Wt) (w : World) (e : Ending) (w' : World) : Prop := (∃ b, e = .returned (.bool b)) ∧ HS B hb v d.toList w' ∧ Below B w w'

set_option maxHeartbeats 4000000 in
set_option maxRecDepth 100000 in
theorem down_any {B hb : Nat} {v : Value} {l : List Wt} {w : World} (h : HS B hb v l w) {n i0 : Nat} (hi0 : i0 < l.length) (hin : i0 ≤ n) (hn : n ≤ l.length) (hl : l.length ≤ 1000) :
    Calls Try.prog 33 #[.iface 42 (.pointer (some ⟨hb, 0, none⟩)), .int .i64 i0, .int .i64 n] w (DnE B hb v (down n i0 l.toArray) w) := by
  have eL := ent_Less
  have eS := ent_Swap
  have HST : Hid (DnR B hb v n i0 l w i0 w) := ⟨l, h, rfl, hi0, hin, Below.refl _ _, rfl⟩
  clear h
  go_enter Try.func33, Try.ntmps33
  go_wp2
  go_loopw [7, 8, 9, 10] (fun x _ _ _ wr => ∃ i : Nat, x = .int .i64 i ∧ DnR B hb v n i0 l w i wr) (fun x _ _ _ _ => n - (Go.RowKit.intOf x).toNat)
  case atStart => exact ⟨i0, rfl, HST.out⟩
  case round =>
    clear HST
    obtain ⟨i, rfl, l', h', hl', hi, hin', hbel, hdn⟩ := hrel
    have H := Lib.hid h'
    have HB := Lib.hid hbel
    have HU := Lib.hid hdn
    have HLL := Lib.hid hl'
    have hi1000 : i < 1000 := by omega
    have hn1000 : n ≤ 1000 := by omega
    have HSZ : Hid (∀ k, k < n → k < l'.length) := Lib.hid (fun k hk => by omega)
    have HIL : Hid (i < l'.length) := Lib.hid (by omega)
    have HHB := Lib.hid (fun (W : World) (b : Below wr.heap.size wr W) => HB.out.trans (b.mono (by have := H.out.2.2; have := H.out.lt; omega)))
    clear h' hbel hdn hl' hi0 hin
    by_cases hend : n ≤ 2 * i + 1
    · have he1 : (n : Int) ≤ 2 * (i : Int) + 1 := by omega
      go_wp2
      go_ret
      exact ⟨⟨_, rfl⟩, by rw [← HU.out, dn_end _ hend]; exact H.out, HB.out⟩
    have he1 : ¬ (n : Int) ≤ 2 * (i : Int) + 1 := by omega
    have he2 : ¬ 2 * (i : Int) + 1 < 0 := by omega
    have c1 : ((2 * i + 1 : Nat) : Int) = 2 * (i : Int) + 1 := by omega
    have c2 : ((2 * i + 2 : Nat) : Int) = 2 * (i : Int) + 1 + 1 := by omega
    have mL0 := find_Less hb v wr H.out.cell.1
    have HL1 := Lib.hid (fun W (hs : HS B hb v l' W) => c1 ▸ LessH hs (i := 2 * i + 1) (j := i) (HSZ.out _ (by omega)) HIL.out)
    have HSW1 := Lib.hid (fun W (hs : HS B hb v l' W) => c1 ▸ SwapH hs (i := i) (j := 2 * i + 1) HIL.out (HSZ.out _ (by omega)))
    by_cases hr : 2 * i + 2 < n
    · have hr1 : 2 * (i : Int) + 1 + 1 < (n : Int) := by omega
      have HL2 := Lib.hid (fun W (hs : HS B hb v l' W) => c1 ▸ c2 ▸ LessH hs (i := 2 * i + 2) (j := 2 * i + 1) (HSZ.out _ (by omega)) (HSZ.out _ (by omega)))
      have HL3 := Lib.hid (fun W (hs : HS B hb v l' W) => c2 ▸ LessH hs (i := 2 * i + 2) (j := i) (HSZ.out _ (by omega)) HIL.out)
      have HSW2 := Lib.hid (fun W (hs : HS B hb v l' W) => c2 ▸ SwapH hs (i := i) (j := 2 * i + 2) HIL.out (HSZ.out _ (by omega)))
      have C1 := Lib.hid c1
      have C2 := Lib.hid c2
      clear c1 c2
      cases hm2 : ltB l'.toArray[2 * i + 2]! l'.toArray[2 * i + 1]! with
      | true =>
        rw [hm2] at HL2
        have HM2 := Lib.hid hm2
        clear hm2 HL1 HSW1
        cases hm3 : ltB l'.toArray[2 * i + 2]! l'.toArray[i]! with
        | true =>
          rw [hm3] at HL3
          have HM3 := Lib.hid hm3
          clear hm3
          go_wp2_with (first
            | (go_at_fn 72; (with_reducible refine (HL2.out _ H.out).mono ?_); rintro e w1 ⟨rfl, h1, b1⟩; have H1 := Lib.hid h1; have HW1 := Lib.hid b1; have mL1 := find_Less hb v w1 h1.cell.1; clear h1 b1)
            | (go_at_fn 72; (with_reducible refine (HL3.out _ H1.out).mono ?_); rintro e w2 ⟨rfl, h2, b2⟩; have H2 := Lib.hid h2; have HB2 := Lib.hid (HHB.out w2 (below_trans HW1.out b2)); have mS := find_Swap hb v w2 h2.cell.1; clear h2 b2)
            | (go_at_fn 73; (with_reducible refine (HSW2.out _ H2.out).mono ?_); rintro e w3 ⟨rfl, h3, b3⟩; have H3 := Lib.hid h3; have HB3 := Lib.hid (HB2.out.trans b3); clear h3 b3))
          go_roundw
          case rel =>
            have e := dn_right_go (d := l'.toArray) hr HM2.out HM3.out
            exact ⟨2 * i + 2, by rw [C2.out], _, H3.out, by rw [lsw_len]; exact HLL.out, by have := HSZ.out (2 * i + 2) (by omega); have := HLL.out; omega, by omega, HB3.out, by rw [lsw_swp, ← HU.out, e]⟩
          case measure => simp [Go.RowKit.intOf]; omega
        | false =>
          rw [hm3] at HL3
          have HM3 := Lib.hid hm3
          clear hm3
          go_wp2_with (first
            | (go_at_fn 72; (with_reducible refine (HL2.out _ H.out).mono ?_); rintro e w1 ⟨rfl, h1, b1⟩; have H1 := Lib.hid h1; have HW1 := Lib.hid b1; have mL1 := find_Less hb v w1 h1.cell.1; clear h1 b1)
            | (go_at_fn 72; (with_reducible refine (HL3.out _ H1.out).mono ?_); rintro e w2 ⟨rfl, h2, b2⟩; have H2 := Lib.hid h2; have HB2 := Lib.hid (HHB.out w2 (below_trans HW1.out b2)); have mS := find_Swap hb v w2 h2.cell.1; clear h2 b2))
          go_ret
          exact ⟨⟨_, rfl⟩, by rw [← HU.out, dn_right_stop _ hr HM2.out HM3.out]; exact H2.out, HB2.out⟩
      | false =>
        rw [hm2] at HL2
        have HM2 := Lib.hid hm2
        clear hm2 HL3 HSW2
        cases hm3 : ltB l'.toArray[2 * i + 1]! l'.toArray[i]! with
        | true =>
          rw [hm3] at HL1
          have HM3 := Lib.hid hm3
          clear hm3
          go_wp2_with (first
            | (go_at_fn 72; (with_reducible refine (HL2.out _ H.out).mono ?_); rintro e w1 ⟨rfl, h1, b1⟩; have H1 := Lib.hid h1; have HW1 := Lib.hid b1; have mL1 := find_Less hb v w1 h1.cell.1; clear h1 b1)
            | (go_at_fn 72; (with_reducible refine (HL1.out _ H1.out).mono ?_); rintro e w2 ⟨rfl, h2, b2⟩; have H2 := Lib.hid h2; have HB2 := Lib.hid (HHB.out w2 (below_trans HW1.out b2)); have mS := find_Swap hb v w2 h2.cell.1; clear h2 b2)
            | (go_at_fn 73; (with_reducible refine (HSW1.out _ H2.out).mono ?_); rintro e w3 ⟨rfl, h3, b3⟩; have H3 := Lib.hid h3; have HB3 := Lib.hid (HB2.out.trans b3); clear h3 b3))
          go_roundw
          case rel =>
            have e := dn_left_go (n := n) (i := i) (d := l'.toArray) (by omega) (fun _ => HM2.out) HM3.out
            exact ⟨2 * i + 1, by rw [C1.out], _, H3.out, by rw [lsw_len]; exact HLL.out, by have := HSZ.out (2 * i + 1) (by omega); have := HLL.out; omega, by omega, HB3.out, by rw [lsw_swp, ← HU.out, e]⟩
          case measure => simp [Go.RowKit.intOf]; omega
        | false =>
          rw [hm3] at HL1
          have HM3 := Lib.hid hm3
          clear hm3
          go_wp2_with (first
            | (go_at_fn 72; (with_reducible refine (HL2.out _ H.out).mono ?_); rintro e w1 ⟨rfl, h1, b1⟩; have H1 := Lib.hid h1; have HW1 := Lib.hid b1; have mL1 := find_Less hb v w1 h1.cell.1; clear h1 b1)
            | (go_at_fn 72; (with_reducible refine (HL1.out _ H1.out).mono ?_); rintro e w2 ⟨rfl, h2, b2⟩; have H2 := Lib.hid h2; have HB2 := Lib.hid (HHB.out w2 (below_trans HW1.out b2)); have mS := find_Swap hb v w2 h2.cell.1; clear h2 b2))
          go_ret
          exact ⟨⟨_, rfl⟩, by rw [← HU.out, dn_left_stop (n := n) (i := i) _ (by omega) (fun _ => HM2.out) HM3.out]; exact H2.out, HB2.out⟩
    · have hr1 : ¬ 2 * (i : Int) + 1 + 1 < (n : Int) := by omega
      have hr2 : decide (2 * (i : Int) + 1 + 1 < (n : Int)) = false := decide_eq_false hr1
      have C1 := Lib.hid c1
      clear c1 c2
      cases hm3 : ltB l'.toArray[2 * i + 1]! l'.toArray[i]! with
      | true =>
        rw [hm3] at HL1
        have HM3 := Lib.hid hm3
        clear hm3
        go_wp2_with (first
          | (go_at_fn 72; (with_reducible refine (HL1.out _ H.out).mono ?_); rintro e w2 ⟨rfl, h2, b2⟩; have H2 := Lib.hid h2; have HB2 := Lib.hid (HHB.out w2 b2); have mS := find_Swap hb v w2 h2.cell.1; clear h2 b2)
          | (go_at_fn 73; (with_reducible refine (HSW1.out _ H2.out).mono ?_); rintro e w3 ⟨rfl, h3, b3⟩; have H3 := Lib.hid h3; have HB3 := Lib.hid (HB2.out.trans b3); clear h3 b3))
        go_roundw
        case rel =>
          have e := dn_left_go (n := n) (i := i) (d := l'.toArray) (by omega) (fun h => absurd h hr) HM3.out
          exact ⟨2 * i + 1, by rw [C1.out], _, H3.out, by rw [lsw_len]; exact HLL.out, by have := HSZ.out (2 * i + 1) (by omega); have := HLL.out; omega, by omega, HB3.out, by rw [lsw_swp, ← HU.out, e]⟩
        case measure => simp [Go.RowKit.intOf]; omega
      | false =>
        rw [hm3] at HL1
        have HM3 := Lib.hid hm3
        clear hm3
        go_wp2_with (go_at_fn 72; (with_reducible refine (HL1.out _ H.out).mono ?_); rintro e w2 ⟨rfl, h2, b2⟩; have H2 := Lib.hid h2; have HB2 := Lib.hid (HHB.out w2 b2); have mS := find_Swap hb v w2 h2.cell.1; clear h2 b2)
        go_ret
        exact ⟨⟨_, rfl⟩, by rw [← HU.out, dn_left_stop (n := n) (i := i) _ (by omega) (fun h => absurd h hr) HM3.out]; exact H2.out, HB2.out⟩
end Go.Proofs.Ytdgenemgegpkdaa.Queue
