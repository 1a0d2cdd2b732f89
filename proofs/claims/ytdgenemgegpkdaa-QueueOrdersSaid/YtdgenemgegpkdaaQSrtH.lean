/-
  The library's sort over a row of waits: pdqsort, Sort.
-/
import Derived.Test.YtdgenemgegpkdaaQSrtB
import Derived.Test.YtdgenemgegpkdaaQSrtC
import Derived.Test.YtdgenemgegpkdaaQSrtE
import Derived.Test.YtdgenemgegpkdaaQSrtF
import Derived.Test.YtdgenemgegpkdaaQSrtG
namespace Go.Proofs.Ytdgenemgegpkdaa.Queue
open Go.ChangeShapes Go.WideShapes Go.ChangeAt Go.RowKit Go.Shelf Go.Sort

/-- Whatever sorted order of the part comes about, the whole is sorted. -/
def Cont (a0 b0 : Nat) (d0 : Array Wt) (a b : Nat) (d : Array Wt) : Prop := ∀ R, PermIn a b d R → SortedIn ltB a b R → PermIn a0 b0 d0 R ∧ SortedIn ltB a0 b0 R
theorem Cont.perm {a0 b0 a b : Nat} {d0 d d' : Array Wt} (h : Cont a0 b0 d0 a b d) (hp : PermIn a b d d') : Cont a0 b0 d0 a b d' := fun R h1 h2 => h R (permIn_trans d d' R a b hp h1) h2
def PdR (B : Nat) (v : Value) (n : Nat) (w0 : World) (d0 : Array Wt) (a0 b0 a b : Nat) (W : World) : Prop := ∃ d, LR B v n w0 d W ∧ Go.Sort.Below ltB a b d ∧ Cont a0 b0 d0 a b d
def PdE (B : Nat) (v : Value) (n : Nat) (w0 : World) (d0 : Array Wt) (a0 b0 : Nat) (e : Ending) (W : World) : Prop := e = .returned (.tuple #[]) ∧ ∃ R, LR B v n w0 R W ∧ PermIn a0 b0 d0 R ∧ SortedIn ltB a0 b0 R
set_option maxHeartbeats 16000000 in
set_option maxRecDepth 100000 in
theorem pdqsort_all : ∀ (K : Nat) {B n : Nat} {v : Value} {w0 w : World} {d0 : Array Wt} {a0 b0 l0 : Nat}, b0 - a0 < K → LR B v n w0 d0 w → a0 ≤ b0 → b0 ≤ n → n ≤ 1000 → l0 ≤ 64 → Go.Sort.Below ltB a0 b0 d0 →
    Calls Try.prog 35 #[.iface 40 v, .int .i64 a0, .int .i64 b0, .int .i64 l0] w (PdE B v n w0 d0 a0 b0) := by
  intro K
  induction K with
  | zero => intro B n v w0 w d0 a0 b0 l0 h; omega
  | succ K ih =>
    intro B n v w0 w d0 a0 b0 l0 hK h hab hb hn hl0 hB
    have eL := ent_Less
    have gL := get_Less v
    have IH := Lib.hid (fun W (d : Array Wt) (a b l : Nat) (hk : b - a < K) (q : LR B v n w0 d W) (h1 : a ≤ b) (h2 : b ≤ n) (h3 : l ≤ 64) (h4 : Go.Sort.Below ltB a b d) => ih (l0 := l) hk q h1 h2 hn h3 h4)
    have HST : Hid (PdR B v n w0 d0 a0 b0 a0 b0 w) := ⟨d0, h, hB, fun R h1 h2 => ⟨h1, h2⟩⟩
    have HN := Lib.hid hn
    clear h hB ih
    go_enter Try.func35, Try.ntmps35
    go_wp2
    go_loopw [1, 2, 3, 8, 9] (fun x1 x2 x3 x8 x9 W => ∃ (a b l : Nat) (wb wp : Bool), x1 = .int .i64 a ∧ x2 = .int .i64 b ∧ x3 = .int .i64 l ∧ x8 = .bool wb ∧ x9 = .bool wp ∧ a0 ≤ a ∧ a ≤ b ∧ b ≤ b0 ∧ l ≤ 64 ∧ PdR B v n w0 d0 a0 b0 a b W) (fun x1 x2 _ _ _ _ => (Go.RowKit.intOf x2).toNat - (Go.RowKit.intOf x1).toNat)
    case atStart => exact ⟨a0, b0, l0, true, true, rfl, rfl, rfl, rfl, rfl, Nat.le_refl _, hab, Nat.le_refl _, hl0, HST.out⟩
    case round =>
      clear HST hl0 hab
      obtain ⟨a, b, l, wb, wp, rfl, rfl, rfl, rfl, rfl, ha, hab, hb', hl, d, hlr, hBw, hC⟩ := hrel
      have H := Lib.hid hlr
      have HB := Lib.hid hBw
      have HC := Lib.hid hC
      have hsz := hlr.size
      have hbn : b ≤ n := by omega
      clear hlr hBw hC
      generalize wr = wx at *
      obtain ⟨m, hm⟩ : ∃ m, b - a = m := ⟨_, rfl⟩
      have hm1 : (b : Int) - (a : Int) = (m : Int) := by omega
      by_cases h12 : m ≤ 12
      · have h12' : (m : Int) ≤ 12 := by omega
        have HI := Lib.hid (insertionSort_any H.out hab hbn HN.out)
        have HE := Lib.hid (insertionSort_holds ltB_swo d a b hab (by omega))
        go_wp2_with (first
          | (go_at_call 41; (with_reducible refine HI.out.mono ?_); rintro e w1 ⟨rfl, h1⟩; have H1 := Lib.hid h1; clear h1))
        go_end0
        exact ⟨rfl, _, H1.out, HC.out _ HE.out.1 HE.out.2⟩
      have h12' : ¬ (m : Int) ≤ 12 := by omega
      by_cases hl00 : l = 0
      · subst hl00
        have HI := Lib.hid (heapSort_any H.out (a := a) (b := b) (by omega) hbn HN.out)
        have HE := Lib.hid (heapSort_holds ltB_swo d a b hab (by omega))
        go_wp2_with (first
          | (go_at_call 42; (with_reducible refine HI.out.mono ?_); rintro e w1 ⟨rfl, h1⟩; have H1 := Lib.hid h1; clear h1))
        go_end0
        exact ⟨rfl, _, H1.out, HC.out _ HE.out.1 HE.out.2⟩
      have hl00' : ((l : Int) == 0) = false := beq_eq_false_iff_ne.2 (by omega)
      have hl1 : 1 ≤ l := by omega
      have hab12 : a + 12 < b := by omega
      go_upto_if 35 with fail
      go_cut [3] from 35 to 41 (fun x W => ∃ l' : Nat, x = .int .i64 l' ∧ l' ≤ 64 ∧ ∃ d1, LR B v n w0 d1 W ∧ PermIn a b d d1)
      case first =>
        have HBP := Lib.hid (breakPatterns_any H.out hab12 hbn HN.out)
        cases wb with
        | true =>
          go_wp2_with fail
          go_meet
          exact ⟨l, rfl, hl, d, H.out, permIn_refl _ _ _⟩
        | false =>
          go_wp2_with (first
            | (go_at_call 43; (with_reducible refine HBP.out.mono ?_); rintro e w1 ⟨rfl, d1, h1, p1⟩; have H1 := Lib.hid h1; have HP1 := Lib.hid p1; clear h1 p1))
          go_meet
          exact ⟨l - 1, by go_num, by omega, d1, H1.out, HP1.out⟩
      case rest =>
        obtain ⟨l', rfl, hl', d1, h1, p1⟩ := hcut
        have H1 := Lib.hid h1
        have HP1 := Lib.hid p1
        clear h1 p1 H hl00' hl00 hl1 hl
        have HCP := Lib.hid (choosePivot_any H1.out hab12 hbn HN.out)
        go_upto_if 50 with (first
          | (go_at_call 44; (with_reducible refine HCP.out.mono ?_); rintro e w1 ⟨p, k, rfl, hp1, hp2, hk, h2⟩; have H2 := Lib.hid h2; clear h2))
        go_cut [11, 12] from 50 to 60 (fun x y W => ∃ (p' : Nat) (k' : Int), x = .int .i64 p' ∧ y = .int .i64 k' ∧ a ≤ p' ∧ p' < b ∧ (k' = 0 ∨ k' = 1) ∧ ∃ d2, LR B v n w0 d2 W ∧ PermIn a b d1 d2)
        case first =>
          have HRV := Lib.hid (reverseRange_any H2.out (a := a) (b := b) (by omega) hbn HN.out)
          by_cases hk2 : k = 2
          · subst hk2
            have e1 : (b : Int) - 1 - ((p : Int) - (a : Int)) = ((b - 1 - (p - a) : Nat) : Int) := by omega
            go_wp2_with (first
              | (go_at_call 45; (with_reducible refine HRV.out.mono ?_); rintro e w2 ⟨rfl, h2⟩; have H3 := Lib.hid h2; clear h2))
            go_meet
            exact ⟨b - 1 - (p - a), 1, by first | rw [e1] | go_num, rfl, by omega, by omega, .inr rfl, _, H3.out, reverseRange_holds d1 a b hab (by have := H2.out.size; omega)⟩
          · have hk2' : (k == 2) = false := beq_eq_false_iff_ne.2 hk2
            go_wp2_with fail
            go_meet
            exact ⟨p, k, rfl, rfl, hp1, hp2, by omega, d1, H2.out, permIn_refl _ _ _⟩
        case rest =>
          clear hp1 hp2 hk
          obtain ⟨p', k', rfl, rfl, hp1, hp2, hk, d2, h2, q2⟩ := hcut
          have H3 := Lib.hid h2
          have HP2 := Lib.hid (permIn_trans d d1 d2 a b HP1.out q2)
          clear h2 q2 H2 HP1 H1 HCP
          go_upto_region 15 with fail
          go_cut [68] from 61 to 68 (fun x W => ∃ t : Bool, x = .bool t ∧ LR B v n w0 d2 W)
          case first =>
            by_cases hk1 : k' = 1
            · subst hk1
              cases wb with
              | true =>
                cases wp with
                | true => go_wp2_with fail; go_meet; exact ⟨_, rfl, H3.out⟩
                | false => go_wp2_with fail; go_meet; exact ⟨_, rfl, H3.out⟩
              | false => go_wp2_with fail; go_meet; exact ⟨_, rfl, H3.out⟩
            · obtain rfl : k' = 0 := by omega
              cases wb with
              | true =>
                cases wp with
                | true => go_wp2_with fail; go_meet; exact ⟨_, rfl, H3.out⟩
                | false => go_wp2_with fail; go_meet; exact ⟨_, rfl, H3.out⟩
              | false => go_wp2_with fail; go_meet; exact ⟨_, rfl, H3.out⟩
          case rest =>
            obtain ⟨t, rfl, h4⟩ := hcut
            have H4 := Lib.hid h4
            clear h4 H3
            have HPI := Lib.hid (partialInsertionSort_any H4.out (a := a) (b := b) (by omega) hbn HN.out)
            have hds2 := H4.out.size
            have HPH := Lib.hid (partialInsertionSort_holds ltB_swo d2 a b (by omega) (by omega) (HB.out.perm (by omega) HP2.out))
            generalize partialInsertionSort ltB d2 a b = R at HPI HPH
            go_upto_if 68 with fail
            go_cut [] from 68 to 72 (fun W => ∃ d3, LR B v n w0 d3 W ∧ PermIn a b d d3)
            case first =>
              cases t with
              | false =>
                go_wp2_with fail
                go_meet
                exact ⟨d2, H4.out, HP2.out⟩
              | true =>
                obtain ⟨d3, ok⟩ := R
                have HPI2 : Hid (Calls Try.prog 46 #[.iface 40 v, .int .i64 a, .int .i64 b] _ (fun e W => e = .returned (.bool ok) ∧ LR B v n w0 d3 W)) := Lib.hid HPI.out
                have HPJ : Hid (PermIn a b d d3 ∧ (ok = true → SortedIn ltB a b d3)) := Lib.hid ⟨permIn_trans _ _ _ a b HP2.out HPH.out.1, HPH.out.2⟩
                clear HPI HPH
                cases ok with
                | true =>
                  go_wp2_with (first
                    | (go_at_call 46; (with_reducible refine HPI2.out.mono ?_); rintro e w2 ⟨rfl, h2⟩; have H5 := Lib.hid h2; clear h2))
                  go_end0
                  exact ⟨rfl, d3, H5.out, HC.out _ HPJ.out.1 (HPJ.out.2 (by simp))⟩
                | false =>
                  go_wp2_with (first
                    | (go_at_call 46; (with_reducible refine HPI2.out.mono ?_); rintro e w2 ⟨rfl, h2⟩; have H5 := Lib.hid h2; clear h2))
                  go_meet
                  exact ⟨d3, H5.out, HPJ.out.1⟩
            case rest =>
              obtain ⟨d3, h5, p3⟩ := hcut
              have H5 := Lib.hid h5
              have HC3 := Lib.hid (HC.out.perm p3)
              have HB3 := Lib.hid (HB.out.perm (b := b) (by omega) p3)
              clear h5 p3 H4 HPI HPH HP2 hds2
              have hds3 := H5.out.size
              go_upto_region 17 with fail
              go_cut [82] from 73 to 82 (fun x W => ∃ t : Bool, x = .bool t ∧ (t = true → 0 < a ∧ ltB d3[a - 1]! d3[p']! = false) ∧ LR B v n w0 d3 W)
              case first =>
                by_cases h0 : 0 < a
                · have h0' : decide ((0 : Int) < (a : Int)) = true := decide_eq_true (by omega)
                  have HL := Lib.hid (LessN H5.out ((a : Int) - 1) (p' : Int) (a - 1) p' (by omega) rfl (by omega) (by omega))
                  cases hm : ltB d3[a - 1]! d3[p']! with
                  | true =>
                    rw [hm] at HL
                    go_wp2_with (first
                      | (go_at_fn 72; (with_reducible refine HL.out.mono ?_); rintro e w2 ⟨rfl, h2⟩; have H6 := Lib.hid h2; clear h2))
                    go_meet
                    exact ⟨false, rfl, (fun h => by cases h), H6.out⟩
                  | false =>
                    rw [hm] at HL
                    have HM := Lib.hid hm
                    clear hm
                    go_wp2_with (first
                      | (go_at_fn 72; (with_reducible refine HL.out.mono ?_); rintro e w2 ⟨rfl, h2⟩; have H6 := Lib.hid h2; clear h2))
                    go_meet
                    exact ⟨true, rfl, fun _ => ⟨h0, HM.out⟩, H6.out⟩
                · have h0' : decide ((0 : Int) < (a : Int)) = false := decide_eq_false (by omega)
                  go_wp2_with fail
                  go_meet
                  exact ⟨false, rfl, (fun h => by cases h), H5.out⟩
              case rest =>
                obtain ⟨t, rfl, ht, h6⟩ := hcut
                have H6 := Lib.hid h6
                have HTT := Lib.hid ht
                clear h6 ht H5
                cases t with
                | true =>
                  have HPE := Lib.hid (partitionEqual_any H6.out hp1 hp2 hbn HN.out)
                  obtain ⟨⟨mid, d4⟩, hR⟩ : ∃ R, partitionEqual ltB d3 a b p' = R := ⟨_, rfl⟩
                  have HRE := Lib.hid (round_eq ltB_swo (partitionEqual_holds _) (HTT.out rfl).1 hp1 hp2 (by omega) HB3.out (HTT.out rfl).2 hR)
                  rw [hR] at HPE
                  have HPE2 : Hid (Calls Try.prog 47 #[.iface 40 v, .int .i64 a, .int .i64 b, .int .i64 p'] _ (fun e W => e = .returned (.int .i64 mid) ∧ LR B v n w0 d4 W)) := Lib.hid HPE.out
                  have hm1' := HRE.out.1
                  have hm2' := HRE.out.2.1
                  clear hR HPE
                  go_wp2_with (first
                    | (go_at_call 47; (with_reducible refine HPE2.out.mono ?_); rintro e w2 ⟨rfl, h2⟩; have H7 := Lib.hid h2; clear h2))
                  go_roundw
                  case rel => exact ⟨mid, b, l', wb, wp, rfl, rfl, rfl, rfl, rfl, by omega, by omega, by omega, hl', d4, H7.out, HRE.out.2.2.2.1, fun R r1 r2 => (fun q => HC3.out R q.1 q.2) (HRE.out.2.2.2.2 R r1 r2)⟩
                  case measure => simp [Go.RowKit.intOf]; omega
                | false =>
                  have HPT := Lib.hid (partition_any H6.out hp1 hp2 hbn HN.out)
                  obtain ⟨⟨mid, ap, d4⟩, hR⟩ : ∃ R, partition ltB d3 a b p' = R := ⟨_, rfl⟩
                  have HRP := Lib.hid (round_part ltB_swo (partition_holds _) hp1 hp2 (by omega) HB3.out hR)
                  rw [hR] at HPT
                  have HPT2 : Hid (Calls Try.prog 48 #[.iface 40 v, .int .i64 a, .int .i64 b, .int .i64 p'] _ (fun e W => e = .returned (.tuple #[.int .i64 mid, .bool ap]) ∧ LR B v n w0 d4 W)) := Lib.hid HPT.out
                  have hm1' := HRP.out.1
                  have hm2' := HRP.out.2.1
                  have hds4 : d4.size = n := by rw [HRP.out.2.2.1]; exact hds3
                  clear hR HPT
                  obtain ⟨q, hq⟩ : ∃ q, m / 8 = q := ⟨_, rfl⟩
                  have hq1 : (m : Int) / 8 = (q : Int) := by omega
                  obtain ⟨ll, hll⟩ : ∃ x, mid - a = x := ⟨_, rfl⟩
                  obtain ⟨rl, hrl⟩ : ∃ x, b - mid = x := ⟨_, rfl⟩
                  have ell : (mid : Int) - (a : Int) = (ll : Int) := by omega
                  have erl : (b : Int) - (mid : Int) = (rl : Int) := by omega
                  go_upto_if 108 with (first
                    | (go_at_call 48; (with_reducible refine HPT2.out.mono ?_); rintro e w2 ⟨rfl, h2⟩; have H7 := Lib.hid h2; clear h2))
                  by_cases hlr : ll < rl
                  · have hlr' : (ll : Int) < (rl : Int) := by omega
                    have HI := Lib.hid (IH.out _ d4 a mid l' (by omega) H7.out (by omega) (by omega) hl' HRP.out.2.2.2.1)
                    go_wp2_with (first
                      | (go_at_call 35; (with_reducible refine HI.out.mono ?_); rintro e w3 ⟨rfl, L, h3, p3, s3⟩; have H8 := Lib.hid h3; have HL3 := Lib.hid (HRP.out.2.2.2.2.2.1 L p3 s3); clear h3 p3 s3))
                    go_roundw
                    case rel => exact ⟨mid + 1, b, l', _, ap, by go_num, rfl, rfl, rfl, rfl, by omega, by omega, by omega, hl', L, H8.out, HL3.out.1, fun R r1 r2 => (fun q => HC3.out R q.1 q.2) (HL3.out.2 R r1 r2)⟩
                    case measure => simp [Go.RowKit.intOf]; omega
                  · have hlr' : ¬ (ll : Int) < (rl : Int) := by omega
                    have HI : Hid (Calls Try.prog 35 #[.iface 40 v, .int .i64 ((mid : Int) + 1), .int .i64 b, .int .i64 l'] w2 (PdE B v n w0 d4 (mid + 1) b)) := Lib.hid (by
                      have := IH.out _ d4 (mid + 1) b l' (by omega) H7.out (by omega) (by omega) hl' HRP.out.2.2.2.2.1
                      rwa [show ((mid + 1 : Nat) : Int) = (mid : Int) + 1 by omega] at this)
                    go_wp2_with (first
                      | (go_at_call 35; (with_reducible refine HI.out.mono ?_); rintro e w3 ⟨rfl, L, h3, p3, s3⟩; have H8 := Lib.hid h3; have HL3 := Lib.hid (HRP.out.2.2.2.2.2.2 L p3 s3); clear h3 p3 s3))
                    go_roundw
                    case rel => exact ⟨a, mid, l', _, ap, rfl, rfl, rfl, rfl, rfl, by omega, by omega, by omega, hl', L, H8.out, HL3.out.1, fun R r1 r2 => (fun q => HC3.out R q.1 q.2) (HL3.out.2 R r1 r2)⟩
                    case measure => simp [Go.RowKit.intOf]; omega
end Go.Proofs.Ytdgenemgegpkdaa.Queue
