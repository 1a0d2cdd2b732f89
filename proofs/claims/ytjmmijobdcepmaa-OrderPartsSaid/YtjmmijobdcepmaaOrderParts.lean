/-
  Proved: for any need, price and frees the law OrderParts returns true: an order that may be sent in parts takes at each time what is free, up to what it lacks, and comes to the same end by whatever parts it is sent: all that it needs, at its price. No condition.
-/
import Derived.Test.YtjmmijobdcepmaaRows
import Derived.Test.YtjmmijobdcepmaaOArg
import Derived.Deep.CutRange
import Derived.Deep.CutBlock
namespace Go.Proofs.Ytjmmijobdcepmaa.orderParts
open Go.ChangeShapes Go.WideShapes Go.ChangeAt Go.RowKit Go.Lib Go.Proofs.Ytjmmijobdcepmaa.Order
set_option linter.unusedVariables false

theorem own : ownKnob Try.prog.godebug = none := by kernel_rfl
theorem laidOut : laidOutB Try.prog = true := by kernel_rfl

/-- The loop's relation: so many came, at their price; the one-by-one tail runs behind the first twenty. -/
def Head (w : World) (g : Nat) (n q : Int) (len k : Nat) (s : Value) (wr : World) : Prop := ∃ d : Int, 0 ≤ d ∧ d < n ∧ s = .int .i64 (d * q) ∧ (len ≤ 20 → (k : Int) ≤ d + 20) ∧ Box g (ocs (partO cup n q d true)) wr ∧ Below w.heap.size w wr
/-- Behind the loop. -/
def Fin (w : World) (g : Nat) (n q : Int) (len : Nat) (s : Value) (wx : World) : Prop := ∃ (o : Od) (z : Int), s = .int .i64 z ∧ Box g (ocs o) wx ∧ Below w.heap.size w wx ∧ (20 < len ∨ (z = n * q ∧ o = doneO cup n q true))

set_option maxRecDepth 100000 in
set_option maxHeartbeats 8000000 in
theorem walk0 (a : Int) (_a1 : -9223372036854775808 ≤ a) (_a2 : a ≤ 9223372036854775807) (b : Int) (_b1 : -9223372036854775808 ≤ b) (_b2 : b ≤ 9223372036854775807) (v : Value) (w : World) (hA : ArgI w v) :
    Calls Try.prog 6 #[.int .i64 a, .int .i64 b, v] w (BoolB true w) := by
  obtain ⟨aa, len, cap, rfl, hlc, hcap, hints⟩ := hA
  have HINT := Lib.hid hints
  have HAL := Lib.hid alive_any
  obtain ⟨a0, a9⟩ := tmod_bd (m := 40) a (by omega) (by omega)
  obtain ⟨b0, b9⟩ := tmod_bd (m := 40) b (by omega) (by omega)
  obtain ⟨A, hA⟩ : ∃ A, (wrap64 (a.tmod 40 + 40)).tmod 40 = A := ⟨_, rfl⟩
  obtain ⟨B, hB⟩ : ∃ B, (wrap64 (b.tmod 40 + 40)).tmod 40 = B := ⟨_, rfl⟩
  rw [hA] at a0 a9
  rw [hB] at b0 b9
  obtain ⟨n, hn⟩ : ∃ n, 1 + A = n := ⟨_, rfl⟩
  obtain ⟨q, hq⟩ : ∃ q, 1 + B = q := ⟨_, rfl⟩
  have hn1 : 1 ≤ n ∧ n ≤ 40 := by omega
  have hq1 : 1 ≤ q ∧ q ≤ 40 := by omega
  have HNQ : Hid ((1 ≤ n ∧ n ≤ 50) ∧ (1 ≤ q ∧ q ≤ 50) ∧ n ≤ 40) := Lib.hid (by omega)
  have HN : Hid (∀ w, Calls Try.prog 8 #[.agg #[.int .i64 1, .string ⟨#[99, 117, 112]⟩, .int .i64 0, .int .i64 1, .int .i64 n, .int .i64 0, .int .i64 q, .int .i64 9, .bool true, .int .i64 0, .string ⟨#[]⟩, .int .i64 0, .int .i64 0, .int .i64 0, .int .i64 0, .int .i64 0, .int .i64 0, .int .i64 0, .int .i64 0, .int .i64 0, .bool false], .int .i64 100] w (OrdE (partO cup n q 0 true) 0 w)) := Lib.hid (fun w => by
    have e := ord_new (k := cup) (sp := true) cup_name HNQ.out.1 HNQ.out.2.1
    have := New_any (ordX cup n q true) 100 ⟨by simp [ordX]; decide, by simp [ordX, noL]⟩ w
    rw [e.1, e.2] at this
    exact this)
  have HB : Hid (Below w.heap.size w w) := Lib.hid (Below.refl _ _)
  clear hints
  go_enter Try.func6, Try.ntmps6
  go_upto_region 2 with (fail)
  clear hA hB hn hq a0 a9 b0 b9 _a1 _a2 _b1 _b2
  go_upto_region 3 with (first | (go_at_call 8; (with_reducible refine (HN.out _).mono ?_); rintro e w' ⟨rfl, hz⟩; replace HB := Lib.hid (below_trans HB.out hz); clear hz; have HGE := Lib.hid HB.out.size; obtain ⟨g, hg⟩ : ∃ g, w'.heap.size = g := ⟨_, rfl⟩; rw [hg] at HGE; have HGG := Lib.hid hg; clear hg) | (refine store_part rfl 29 _ _ rfl _ 0 rfl (ocs (partO cup n q 0 true)) rfl (Box.made _ (ocs noO) _) (show 0 + 21 ≤ 21 from by decide) infoO (ocs_one _) (ocs (partO cup n q 0 true)) (over_all rfl) (fun w' hy ht => ?_); have HO := Lib.hid hy; replace HB := Lib.hid (ht.2 _ _ HB.out.size (below_trans HB.out (al _ _))); clear hy ht; rw [HGG.out] at HO))
  rename World => w1
  rw [HGG.out]
  clear HGG HN
  have HST : Hid (Head w g n q len 0 (.int .i64 0) w1) := Lib.hid ⟨0, by omega, by omega, by rw [Int.zero_mul], fun _ => by omega, HO.out, HB.out⟩
  clear HO HB
  go_upto_block 0 with (fail)
  go_cut [9] from 37 to 98 (fun s wx => Fin w g n q len s wx)
  case first =>
    go_wp2_with fail
    go_loopw [9, 10, 11, 12, 13, 14, 15, 16, 17, 37] (fun s _ _ _ _ _ _ _ _ i wr => ∃ k : Nat, k ≤ 60 ∧ i = .int .i64 k ∧ Head w g n q len k s wr) (fun _ _ _ _ _ _ _ _ _ i _ => 60 - (intOf i).toNat)
    case atStart => exact ⟨0, Nat.zero_le _, rfl, HST.out⟩
    case round =>
      clear HST
      obtain ⟨k, hk, rfl, hst⟩ := hrel
      have HST := Lib.hid hst
      clear hst
      by_cases hlt : k < 60
      case neg =>
        obtain rfl : k = 60 := by omega
        obtain ⟨d, hd0, hdn, rfl, hkl, hbx, hbe⟩ := HST.out
        have HF : Hid (Fin w g n q len (.int .i64 (d * q)) wr) := Lib.hid ⟨_, _, rfl, hbx, hbe, .inl (by have := HNQ.out; by_cases h : len ≤ 20; (have := hkl h; omega); omega)⟩
        clear hbx hbe hkl
        go_wp2_with fail
        go_meet
        exact HF.out
      obtain ⟨d, hd0, hdn, rfl, hkl, hbx, hbe⟩ := HST.out
      have HO := Lib.hid hbx
      have HB := Lib.hid hbe
      have HKL := Lib.hid hkl
      have HD : Hid (0 ≤ d ∧ d < n ∧ k < 60) := Lib.hid ⟨hd0, hdn, hlt⟩
      clear hbx hbe hkl hdn hd0 HST
      have hk1 : (k : Int) < 60 := by omega
      go_upto_if 43 with (fail)
      go_cut [11] from 44 to 50 (fun f wx => ∃ c : Int, f = .int .i64 c ∧ 0 ≤ c ∧ c ≤ 8 ∧ (len ≤ k → c = 1) ∧ wx = wr)
      case first =>
        by_cases hkl : k < len
        · obtain ⟨gb, off, rfl, hgb, hint⟩ := HINT.out (by omega)
          obtain ⟨z, hz⟩ := hint k hkl
          have e0 := (HB.out.cell (p := ⟨gb, off + k, none⟩) hgb).trans hz
          have hgr := Nat.lt_of_lt_of_le hgb HB.out.size
          obtain ⟨c0, c8⟩ := tmod_bd (m := 9) z (by omega) (by omega)
          have HC : Hid (0 ≤ (wrap64 (z.tmod 9 + 9)).tmod 9 ∧ (wrap64 (z.tmod 9 + 9)).tmod 9 ≤ 8) := Lib.hid ⟨c0, by omega⟩
          clear hz hint c0 c8
          go_wp2_with fail
          go_meet
          exact ⟨_, rfl, HC.out.1, HC.out.2, fun h => absurd h (by omega), rfl⟩
        · go_wp2_with fail
          go_meet
          exact ⟨1, rfl, by omega, by omega, fun _ => rfl, rfl⟩
      case rest =>
      obtain ⟨c, rfl, hc0, hc8, hck, hwx⟩ := hcut
      rw [hwx]
      clear hwx
      have HC : Hid (0 ≤ c ∧ c ≤ 8 ∧ (len ≤ k → c = 1)) := Lib.hid ⟨hc0, hc8, hck⟩
      clear hc0 hc8 hck
      obtain ⟨hw1, hw2⟩ := part_wants (k := cup) (d := d) (f := c) cup_name HNQ.out.1 HNQ.out.2.1 HD.out.1 HD.out.2.1 HC.out.1
      have fO : Fits (partO cup n q d true) := ⟨by simp [partO]; decide, by simp [partO, noL]⟩
      have HWA := Lib.hid (fun w => Wants_any (partO cup n q d true) c 5 fO w)
      have HLA := Lib.hid (fun w => Lack_any (partO cup n q d true) fO w)
      rw [hw1] at HWA
      rw [hw2] at HLA
      obtain ⟨l, hl⟩ : ∃ l, n - d = l := ⟨_, rfl⟩
      rw [hl] at HWA HLA
      have HL : Hid (n - d = l ∧ 1 ≤ l ∧ l ≤ 50) := Lib.hid ⟨hl, by have := HD.out; omega, by have := HD.out; have := HNQ.out; omega⟩
      clear hw1 hw2 hl fO
      have hway : (c ≤ l ∧ min c l = c) ∨ (l < c ∧ min c l = l) := by omega
      rcases hway with ⟨hcl, hm⟩ | ⟨hcl, hm⟩
      · rw [hm] at HWA
        clear hm
        by_cases h0 : c = 0
        · subst h0
          unfold ov at HWA HLA
          go_wp2_with (first | (refine load_part rfl 29 _ rfl _ 0 21 rfl HO.out [.int .i64 (partO cup n q d true).id, .string (partO cup n q d true).k, .int .i64 (partO cup n q d true).cl, .int .i64 (partO cup n q d true).sq, .int .i64 (partO cup n q d true).n, .int .i64 (partO cup n q d true).d, .int .i64 (partO cup n q d true).p, .int .i64 (partO cup n q d true).c, .bool (partO cup n q d true).sp, .int .i64 (partO cup n q d true).ph, .string (partO cup n q d true).l.k, .int .i64 (partO cup n q d true).l.u, .int .i64 (partO cup n q d true).l.c, .int .i64 (partO cup n q d true).l.y, .int .i64 (partO cup n q d true).py.a, .int .i64 (partO cup n q d true).py.c, .int .i64 (partO cup n q d true).py.u, .int .i64 (partO cup n q d true).py.s, .int .i64 (partO cup n q d true).ak.s, .int .i64 (partO cup n q d true).ak.u, .bool (partO cup n q d true).en] rfl _ Try.underlying29 rfl infoO ?_) | (go_at_call 15; (with_reducible refine (HWA.out _).mono ?_); rintro e w' ⟨rfl, hz⟩; replace HB := Lib.hid (below_trans HB.out hz); replace HO := Lib.hid (HO.out.below hz); clear hz) | (go_at_call 13; (with_reducible refine (HLA.out _).mono ?_); rintro e w' ⟨rfl, hz⟩; replace HB := Lib.hid (below_trans HB.out hz); replace HO := Lib.hid (HO.out.below hz); clear hz))
          go_roundw
          case rel => exact ⟨k + 1, by omega, by go_num, d, HD.out.1, HD.out.2.1, rfl, fun h => by have := HC.out; have := HD.out; have := HKL.out h; omega, HO.out, HB.out⟩
          case measure => simp [intOf]; omega
        · by_cases hd : d + c = n
          · have HM : Hid (1 ≤ c ∧ c ≤ n - d ∧ d + c = n) := Lib.hid ⟨by have := HC.out; omega, by have := HL.out; omega, hd⟩
            clear hd h0
            obtain ⟨e1, e2, e3, e4⟩ := part_step (k := cup) (d := d) (m := c) (y := (k : Int) + 1) cup_name HNQ.out.1 HNQ.out.2.1 HD.out.1 HM.out.1 HM.out.2.1 (by have := HD.out; omega)
            rw [if_pos HM.out.2.2] at e4
            have e5 := (send_right e1).2.2.2
            have fX : Fits (sendX (partO cup n q d true) ⟨cup, c, c, (k : Int) + 1⟩) := ⟨by simp [sendX, partO]; decide, by simp [sendX]; decide⟩
            have HSE : Hid (∀ w, Calls Try.prog 17 #[.agg #[.int .i64 (partO cup n q d true).id, .string (partO cup n q d true).k, .int .i64 (partO cup n q d true).cl, .int .i64 (partO cup n q d true).sq, .int .i64 (partO cup n q d true).n, .int .i64 (partO cup n q d true).d, .int .i64 (partO cup n q d true).p, .int .i64 (partO cup n q d true).c, .bool (partO cup n q d true).sp, .int .i64 (partO cup n q d true).ph, .string (partO cup n q d true).l.k, .int .i64 (partO cup n q d true).l.u, .int .i64 (partO cup n q d true).l.c, .int .i64 (partO cup n q d true).l.y, .int .i64 (partO cup n q d true).py.a, .int .i64 (partO cup n q d true).py.c, .int .i64 (partO cup n q d true).py.u, .int .i64 (partO cup n q d true).py.s, .int .i64 (partO cup n q d true).ak.s, .int .i64 (partO cup n q d true).ak.u, .bool (partO cup n q d true).en], .agg #[.string ⟨#[99, 117, 112]⟩, .int .i64 c, .int .i64 c, .int .i64 ((k : Int) + 1)]] w (OrdE (sendX (partO cup n q d true) ⟨cup, c, c, (k : Int) + 1⟩) 0 w)) := Lib.hid (fun w => by have := Send_any (partO cup n q d true) ⟨cup, c, c, (k : Int) + 1⟩ ⟨by simp [partO]; decide, by simp [partO, noL]⟩ (show cup.size ≤ 1000000 by decide) w; rw [e1, e5] at this; exact this)
            rw [e5] at e2 e3 e4
            have HCA := Lib.hid (fun w => Came_any (sendX (partO cup n q d true) ⟨cup, c, c, (k : Int) + 1⟩) fX w)
            rw [e2, e3, e4] at HCA
            have HOP := Lib.hid (fun w => Open_any (doneO cup n q true) ⟨by simp [partO, doneO]; decide, by simp [partO, doneO, noL]⟩ w)
            rw [done_tells] at HOP
            clear e1 e2 e3 e4 e5 fX
            unfold ov at HWA HLA HCA HOP
            have hs1 := small_mul HNQ.out.1 HNQ.out.2.1
            have hp0 : 0 ≤ d * q := Int.mul_nonneg HD.out.1 (by have := HNQ.out; omega)
            have hp1 : 0 ≤ c * q := Int.mul_nonneg (by have := HM.out; omega) (by have := HNQ.out; omega)
            have hp2 : (d + c) * q ≤ n * q := Int.mul_le_mul_of_nonneg_right (by have := HM.out; have := HL.out; omega) (by have := HNQ.out; omega)
            have hp3 : (d + c) * q = d * q + c * q := Int.add_mul _ _ _
            have hw1 : IntKind.i64.wrap (c * q) = c * q := IntWalk.i64_in _ (by omega)
            have hm1 : (c == 0) = false := by have := HM.out; simp; omega
            have hk9 : (k : Int) + 1 ≤ 9223372036854775807 := by omega
            have HP : Hid (d * q + c * q = (d + c) * q) := Lib.hid hp3.symm
            have HP9 : Hid (0 ≤ d * q ∧ 0 ≤ c * q ∧ d * q + c * q ≤ 2500) := Lib.hid ⟨hp0, hp1, by omega⟩
            have hs5 : IntKind.i64.wrap (d * q + c * q) = d * q + c * q := IntWalk.i64_in _ (by omega)
            clear hs1 hp0 hp1 hp2 hp3
            go_wp2_with (first | (refine load_part rfl 29 _ rfl _ 0 21 rfl HO.out [.int .i64 (partO cup n q d true).id, .string (partO cup n q d true).k, .int .i64 (partO cup n q d true).cl, .int .i64 (partO cup n q d true).sq, .int .i64 (partO cup n q d true).n, .int .i64 (partO cup n q d true).d, .int .i64 (partO cup n q d true).p, .int .i64 (partO cup n q d true).c, .bool (partO cup n q d true).sp, .int .i64 (partO cup n q d true).ph, .string (partO cup n q d true).l.k, .int .i64 (partO cup n q d true).l.u, .int .i64 (partO cup n q d true).l.c, .int .i64 (partO cup n q d true).l.y, .int .i64 (partO cup n q d true).py.a, .int .i64 (partO cup n q d true).py.c, .int .i64 (partO cup n q d true).py.u, .int .i64 (partO cup n q d true).py.s, .int .i64 (partO cup n q d true).ak.s, .int .i64 (partO cup n q d true).ak.u, .bool (partO cup n q d true).en] rfl _ Try.underlying29 rfl infoO ?_) | (go_at_call 15; (with_reducible refine (HWA.out _).mono ?_); rintro e w' ⟨rfl, hz⟩; replace HB := Lib.hid (below_trans HB.out hz); replace HO := Lib.hid (HO.out.below hz); clear hz) | (go_at_call 13; (with_reducible refine (HLA.out _).mono ?_); rintro e w' ⟨rfl, hz⟩; replace HB := Lib.hid (below_trans HB.out hz); replace HO := Lib.hid (HO.out.below hz); clear hz) | (go_at_call 17; (with_reducible refine (HSE.out _).mono ?_); rintro e w' ⟨rfl, hz⟩; replace HB := Lib.hid (below_trans HB.out hz); replace HO := Lib.hid (HO.out.below hz); clear hz) | (refine store_part rfl 29 _ _ rfl _ 0 rfl (ocs (sendX (partO cup n q d true) ⟨cup, c, c, (k : Int) + 1⟩)) rfl (Box.made _ (ocs noO) _) (show 0 + 21 ≤ 21 from by decide) infoO (ocs_one _) (ocs (sendX (partO cup n q d true) ⟨cup, c, c, (k : Int) + 1⟩)) (over_all rfl) (fun w' hy ht => ?_); have HX := Lib.hid hy; replace HO := Lib.hid (ht.1 _ _ (Nat.ne_of_lt HO.out.1) (HO.out.below (al _ _))); replace HB := Lib.hid (ht.2 _ _ HB.out.size (below_trans HB.out (al _ _))); clear hy ht) | (refine load_part rfl 29 _ rfl _ 0 21 rfl HX.out [.int .i64 (sendX (partO cup n q d true) ⟨cup, c, c, (k : Int) + 1⟩).id, .string (sendX (partO cup n q d true) ⟨cup, c, c, (k : Int) + 1⟩).k, .int .i64 (sendX (partO cup n q d true) ⟨cup, c, c, (k : Int) + 1⟩).cl, .int .i64 (sendX (partO cup n q d true) ⟨cup, c, c, (k : Int) + 1⟩).sq, .int .i64 (sendX (partO cup n q d true) ⟨cup, c, c, (k : Int) + 1⟩).n, .int .i64 (sendX (partO cup n q d true) ⟨cup, c, c, (k : Int) + 1⟩).d, .int .i64 (sendX (partO cup n q d true) ⟨cup, c, c, (k : Int) + 1⟩).p, .int .i64 (sendX (partO cup n q d true) ⟨cup, c, c, (k : Int) + 1⟩).c, .bool (sendX (partO cup n q d true) ⟨cup, c, c, (k : Int) + 1⟩).sp, .int .i64 (sendX (partO cup n q d true) ⟨cup, c, c, (k : Int) + 1⟩).ph, .string (sendX (partO cup n q d true) ⟨cup, c, c, (k : Int) + 1⟩).l.k, .int .i64 (sendX (partO cup n q d true) ⟨cup, c, c, (k : Int) + 1⟩).l.u, .int .i64 (sendX (partO cup n q d true) ⟨cup, c, c, (k : Int) + 1⟩).l.c, .int .i64 (sendX (partO cup n q d true) ⟨cup, c, c, (k : Int) + 1⟩).l.y, .int .i64 (sendX (partO cup n q d true) ⟨cup, c, c, (k : Int) + 1⟩).py.a, .int .i64 (sendX (partO cup n q d true) ⟨cup, c, c, (k : Int) + 1⟩).py.c, .int .i64 (sendX (partO cup n q d true) ⟨cup, c, c, (k : Int) + 1⟩).py.u, .int .i64 (sendX (partO cup n q d true) ⟨cup, c, c, (k : Int) + 1⟩).py.s, .int .i64 (sendX (partO cup n q d true) ⟨cup, c, c, (k : Int) + 1⟩).ak.s, .int .i64 (sendX (partO cup n q d true) ⟨cup, c, c, (k : Int) + 1⟩).ak.u, .bool (sendX (partO cup n q d true) ⟨cup, c, c, (k : Int) + 1⟩).en] rfl _ Try.underlying29 rfl infoO ?_) | (go_at_call 18; (with_reducible refine (HCA.out _).mono ?_); rintro e w' ⟨rfl, hz⟩; replace HB := Lib.hid (below_trans HB.out hz); replace HO := Lib.hid (HO.out.below hz); replace HX := Lib.hid (HX.out.below hz); clear hz) | (refine store_part rfl 29 _ _ rfl _ 0 rfl (ocs (doneO cup n q true)) rfl (Box.made _ (ocs noO) _) (show 0 + 21 ≤ 21 from by decide) infoO (ocs_one _) (ocs (doneO cup n q true)) (over_all rfl) (fun w' hy ht => ?_); have HY := Lib.hid hy; replace HO := Lib.hid (ht.1 _ _ (Nat.ne_of_lt HO.out.1) (HO.out.below (al _ _))); replace HX := Lib.hid (ht.1 _ _ (Nat.ne_of_lt HX.out.1) (HX.out.below (al _ _))); replace HB := Lib.hid (ht.2 _ _ HB.out.size (below_trans HB.out (al _ _))); clear hy ht) | (refine load_part rfl 29 _ rfl _ 0 21 rfl HY.out [.int .i64 (doneO cup n q true).id, .string (doneO cup n q true).k, .int .i64 (doneO cup n q true).cl, .int .i64 (doneO cup n q true).sq, .int .i64 (doneO cup n q true).n, .int .i64 (doneO cup n q true).d, .int .i64 (doneO cup n q true).p, .int .i64 (doneO cup n q true).c, .bool (doneO cup n q true).sp, .int .i64 (doneO cup n q true).ph, .string (doneO cup n q true).l.k, .int .i64 (doneO cup n q true).l.u, .int .i64 (doneO cup n q true).l.c, .int .i64 (doneO cup n q true).l.y, .int .i64 (doneO cup n q true).py.a, .int .i64 (doneO cup n q true).py.c, .int .i64 (doneO cup n q true).py.u, .int .i64 (doneO cup n q true).py.s, .int .i64 (doneO cup n q true).ak.s, .int .i64 (doneO cup n q true).ak.u, .bool (doneO cup n q true).en] rfl _ Try.underlying29 rfl infoO ?_) | (refine store_part rfl 29 _ _ rfl _ 0 rfl (ocs (doneO cup n q true)) rfl HO.out (show 0 + 21 ≤ 21 from by decide) infoO (ocs_one _) (ocs (doneO cup n q true)) (over_all rfl) (fun w' hy ht => ?_); replace HB := Lib.hid (ht.2 _ _ (HGE.out) HB.out); replace HO := Lib.hid hy; clear hy ht) | (refine load_part rfl 29 _ rfl _ 0 21 rfl HO.out [.int .i64 (doneO cup n q true).id, .string (doneO cup n q true).k, .int .i64 (doneO cup n q true).cl, .int .i64 (doneO cup n q true).sq, .int .i64 (doneO cup n q true).n, .int .i64 (doneO cup n q true).d, .int .i64 (doneO cup n q true).p, .int .i64 (doneO cup n q true).c, .bool (doneO cup n q true).sp, .int .i64 (doneO cup n q true).ph, .string (doneO cup n q true).l.k, .int .i64 (doneO cup n q true).l.u, .int .i64 (doneO cup n q true).l.c, .int .i64 (doneO cup n q true).l.y, .int .i64 (doneO cup n q true).py.a, .int .i64 (doneO cup n q true).py.c, .int .i64 (doneO cup n q true).py.u, .int .i64 (doneO cup n q true).py.s, .int .i64 (doneO cup n q true).ak.s, .int .i64 (doneO cup n q true).ak.u, .bool (doneO cup n q true).en] rfl _ Try.underlying29 rfl infoO ?_) | (go_at_call 14; (with_reducible refine (HOP.out _).mono ?_); rintro e w' ⟨rfl, hz⟩; replace HB := Lib.hid (below_trans HB.out hz); replace HO := Lib.hid (HO.out.below hz); clear hz; have HF : Hid (Fin w g n q len (.int .i64 (d * q + c * q)) w') := Lib.hid ⟨_, _, rfl, HO.out, HB.out, .inr ⟨by rw [HP.out, HM.out.2.2], rfl⟩⟩))
            go_meet
            exact HF.out
          · have HM : Hid (1 ≤ c ∧ c ≤ n - d ∧ ¬ d + c = n) := Lib.hid ⟨by have := HC.out; omega, by have := HL.out; omega, hd⟩
            clear hd h0
            obtain ⟨e1, e2, e3, e4⟩ := part_step (k := cup) (d := d) (m := c) (y := (k : Int) + 1) cup_name HNQ.out.1 HNQ.out.2.1 HD.out.1 HM.out.1 HM.out.2.1 (by have := HD.out; omega)
            rw [if_neg HM.out.2.2] at e4
            have e5 := (send_right e1).2.2.2
            have fX : Fits (sendX (partO cup n q d true) ⟨cup, c, c, (k : Int) + 1⟩) := ⟨by simp [sendX, partO]; decide, by simp [sendX]; decide⟩
            have HSE : Hid (∀ w, Calls Try.prog 17 #[.agg #[.int .i64 (partO cup n q d true).id, .string (partO cup n q d true).k, .int .i64 (partO cup n q d true).cl, .int .i64 (partO cup n q d true).sq, .int .i64 (partO cup n q d true).n, .int .i64 (partO cup n q d true).d, .int .i64 (partO cup n q d true).p, .int .i64 (partO cup n q d true).c, .bool (partO cup n q d true).sp, .int .i64 (partO cup n q d true).ph, .string (partO cup n q d true).l.k, .int .i64 (partO cup n q d true).l.u, .int .i64 (partO cup n q d true).l.c, .int .i64 (partO cup n q d true).l.y, .int .i64 (partO cup n q d true).py.a, .int .i64 (partO cup n q d true).py.c, .int .i64 (partO cup n q d true).py.u, .int .i64 (partO cup n q d true).py.s, .int .i64 (partO cup n q d true).ak.s, .int .i64 (partO cup n q d true).ak.u, .bool (partO cup n q d true).en], .agg #[.string ⟨#[99, 117, 112]⟩, .int .i64 c, .int .i64 c, .int .i64 ((k : Int) + 1)]] w (OrdE (sendX (partO cup n q d true) ⟨cup, c, c, (k : Int) + 1⟩) 0 w)) := Lib.hid (fun w => by have := Send_any (partO cup n q d true) ⟨cup, c, c, (k : Int) + 1⟩ ⟨by simp [partO]; decide, by simp [partO, noL]⟩ (show cup.size ≤ 1000000 by decide) w; rw [e1, e5] at this; exact this)
            rw [e5] at e2 e3 e4
            have HCA := Lib.hid (fun w => Came_any (sendX (partO cup n q d true) ⟨cup, c, c, (k : Int) + 1⟩) fX w)
            rw [e2, e3, e4] at HCA
            have HOP := Lib.hid (fun w => Open_any (partO cup n q (d + c) true) ⟨by simp [partO, doneO]; decide, by simp [partO, doneO, noL]⟩ w)
            rw [part_open cup_name HNQ.out.1 HNQ.out.2.1 (by have := HD.out; have := HM.out; omega) (by have := HD.out; have := HM.out; have := HL.out; omega)] at HOP
            clear e1 e2 e3 e4 e5 fX
            unfold ov at HWA HLA HCA HOP
            have hs1 := small_mul HNQ.out.1 HNQ.out.2.1
            have hp0 : 0 ≤ d * q := Int.mul_nonneg HD.out.1 (by have := HNQ.out; omega)
            have hp1 : 0 ≤ c * q := Int.mul_nonneg (by have := HM.out; omega) (by have := HNQ.out; omega)
            have hp2 : (d + c) * q ≤ n * q := Int.mul_le_mul_of_nonneg_right (by have := HM.out; have := HL.out; omega) (by have := HNQ.out; omega)
            have hp3 : (d + c) * q = d * q + c * q := Int.add_mul _ _ _
            have hw1 : IntKind.i64.wrap (c * q) = c * q := IntWalk.i64_in _ (by omega)
            have hm1 : (c == 0) = false := by have := HM.out; simp; omega
            have hk9 : (k : Int) + 1 ≤ 9223372036854775807 := by omega
            have HP : Hid (d * q + c * q = (d + c) * q) := Lib.hid hp3.symm
            have HP9 : Hid (0 ≤ d * q ∧ 0 ≤ c * q ∧ d * q + c * q ≤ 2500) := Lib.hid ⟨hp0, hp1, by omega⟩
            have hs5 : IntKind.i64.wrap (d * q + c * q) = d * q + c * q := IntWalk.i64_in _ (by omega)
            clear hs1 hp0 hp1 hp2 hp3
            go_wp2_with (first | (refine load_part rfl 29 _ rfl _ 0 21 rfl HO.out [.int .i64 (partO cup n q d true).id, .string (partO cup n q d true).k, .int .i64 (partO cup n q d true).cl, .int .i64 (partO cup n q d true).sq, .int .i64 (partO cup n q d true).n, .int .i64 (partO cup n q d true).d, .int .i64 (partO cup n q d true).p, .int .i64 (partO cup n q d true).c, .bool (partO cup n q d true).sp, .int .i64 (partO cup n q d true).ph, .string (partO cup n q d true).l.k, .int .i64 (partO cup n q d true).l.u, .int .i64 (partO cup n q d true).l.c, .int .i64 (partO cup n q d true).l.y, .int .i64 (partO cup n q d true).py.a, .int .i64 (partO cup n q d true).py.c, .int .i64 (partO cup n q d true).py.u, .int .i64 (partO cup n q d true).py.s, .int .i64 (partO cup n q d true).ak.s, .int .i64 (partO cup n q d true).ak.u, .bool (partO cup n q d true).en] rfl _ Try.underlying29 rfl infoO ?_) | (go_at_call 15; (with_reducible refine (HWA.out _).mono ?_); rintro e w' ⟨rfl, hz⟩; replace HB := Lib.hid (below_trans HB.out hz); replace HO := Lib.hid (HO.out.below hz); clear hz) | (go_at_call 13; (with_reducible refine (HLA.out _).mono ?_); rintro e w' ⟨rfl, hz⟩; replace HB := Lib.hid (below_trans HB.out hz); replace HO := Lib.hid (HO.out.below hz); clear hz) | (go_at_call 17; (with_reducible refine (HSE.out _).mono ?_); rintro e w' ⟨rfl, hz⟩; replace HB := Lib.hid (below_trans HB.out hz); replace HO := Lib.hid (HO.out.below hz); clear hz) | (refine store_part rfl 29 _ _ rfl _ 0 rfl (ocs (sendX (partO cup n q d true) ⟨cup, c, c, (k : Int) + 1⟩)) rfl (Box.made _ (ocs noO) _) (show 0 + 21 ≤ 21 from by decide) infoO (ocs_one _) (ocs (sendX (partO cup n q d true) ⟨cup, c, c, (k : Int) + 1⟩)) (over_all rfl) (fun w' hy ht => ?_); have HX := Lib.hid hy; replace HO := Lib.hid (ht.1 _ _ (Nat.ne_of_lt HO.out.1) (HO.out.below (al _ _))); replace HB := Lib.hid (ht.2 _ _ HB.out.size (below_trans HB.out (al _ _))); clear hy ht) | (refine load_part rfl 29 _ rfl _ 0 21 rfl HX.out [.int .i64 (sendX (partO cup n q d true) ⟨cup, c, c, (k : Int) + 1⟩).id, .string (sendX (partO cup n q d true) ⟨cup, c, c, (k : Int) + 1⟩).k, .int .i64 (sendX (partO cup n q d true) ⟨cup, c, c, (k : Int) + 1⟩).cl, .int .i64 (sendX (partO cup n q d true) ⟨cup, c, c, (k : Int) + 1⟩).sq, .int .i64 (sendX (partO cup n q d true) ⟨cup, c, c, (k : Int) + 1⟩).n, .int .i64 (sendX (partO cup n q d true) ⟨cup, c, c, (k : Int) + 1⟩).d, .int .i64 (sendX (partO cup n q d true) ⟨cup, c, c, (k : Int) + 1⟩).p, .int .i64 (sendX (partO cup n q d true) ⟨cup, c, c, (k : Int) + 1⟩).c, .bool (sendX (partO cup n q d true) ⟨cup, c, c, (k : Int) + 1⟩).sp, .int .i64 (sendX (partO cup n q d true) ⟨cup, c, c, (k : Int) + 1⟩).ph, .string (sendX (partO cup n q d true) ⟨cup, c, c, (k : Int) + 1⟩).l.k, .int .i64 (sendX (partO cup n q d true) ⟨cup, c, c, (k : Int) + 1⟩).l.u, .int .i64 (sendX (partO cup n q d true) ⟨cup, c, c, (k : Int) + 1⟩).l.c, .int .i64 (sendX (partO cup n q d true) ⟨cup, c, c, (k : Int) + 1⟩).l.y, .int .i64 (sendX (partO cup n q d true) ⟨cup, c, c, (k : Int) + 1⟩).py.a, .int .i64 (sendX (partO cup n q d true) ⟨cup, c, c, (k : Int) + 1⟩).py.c, .int .i64 (sendX (partO cup n q d true) ⟨cup, c, c, (k : Int) + 1⟩).py.u, .int .i64 (sendX (partO cup n q d true) ⟨cup, c, c, (k : Int) + 1⟩).py.s, .int .i64 (sendX (partO cup n q d true) ⟨cup, c, c, (k : Int) + 1⟩).ak.s, .int .i64 (sendX (partO cup n q d true) ⟨cup, c, c, (k : Int) + 1⟩).ak.u, .bool (sendX (partO cup n q d true) ⟨cup, c, c, (k : Int) + 1⟩).en] rfl _ Try.underlying29 rfl infoO ?_) | (go_at_call 18; (with_reducible refine (HCA.out _).mono ?_); rintro e w' ⟨rfl, hz⟩; replace HB := Lib.hid (below_trans HB.out hz); replace HO := Lib.hid (HO.out.below hz); replace HX := Lib.hid (HX.out.below hz); clear hz) | (refine store_part rfl 29 _ _ rfl _ 0 rfl (ocs (partO cup n q (d + c) true)) rfl (Box.made _ (ocs noO) _) (show 0 + 21 ≤ 21 from by decide) infoO (ocs_one _) (ocs (partO cup n q (d + c) true)) (over_all rfl) (fun w' hy ht => ?_); have HY := Lib.hid hy; replace HO := Lib.hid (ht.1 _ _ (Nat.ne_of_lt HO.out.1) (HO.out.below (al _ _))); replace HX := Lib.hid (ht.1 _ _ (Nat.ne_of_lt HX.out.1) (HX.out.below (al _ _))); replace HB := Lib.hid (ht.2 _ _ HB.out.size (below_trans HB.out (al _ _))); clear hy ht) | (refine load_part rfl 29 _ rfl _ 0 21 rfl HY.out [.int .i64 (partO cup n q (d + c) true).id, .string (partO cup n q (d + c) true).k, .int .i64 (partO cup n q (d + c) true).cl, .int .i64 (partO cup n q (d + c) true).sq, .int .i64 (partO cup n q (d + c) true).n, .int .i64 (partO cup n q (d + c) true).d, .int .i64 (partO cup n q (d + c) true).p, .int .i64 (partO cup n q (d + c) true).c, .bool (partO cup n q (d + c) true).sp, .int .i64 (partO cup n q (d + c) true).ph, .string (partO cup n q (d + c) true).l.k, .int .i64 (partO cup n q (d + c) true).l.u, .int .i64 (partO cup n q (d + c) true).l.c, .int .i64 (partO cup n q (d + c) true).l.y, .int .i64 (partO cup n q (d + c) true).py.a, .int .i64 (partO cup n q (d + c) true).py.c, .int .i64 (partO cup n q (d + c) true).py.u, .int .i64 (partO cup n q (d + c) true).py.s, .int .i64 (partO cup n q (d + c) true).ak.s, .int .i64 (partO cup n q (d + c) true).ak.u, .bool (partO cup n q (d + c) true).en] rfl _ Try.underlying29 rfl infoO ?_) | (refine store_part rfl 29 _ _ rfl _ 0 rfl (ocs (partO cup n q (d + c) true)) rfl HO.out (show 0 + 21 ≤ 21 from by decide) infoO (ocs_one _) (ocs (partO cup n q (d + c) true)) (over_all rfl) (fun w' hy ht => ?_); replace HB := Lib.hid (ht.2 _ _ (HGE.out) HB.out); replace HO := Lib.hid hy; clear hy ht) | (refine load_part rfl 29 _ rfl _ 0 21 rfl HO.out [.int .i64 (partO cup n q (d + c) true).id, .string (partO cup n q (d + c) true).k, .int .i64 (partO cup n q (d + c) true).cl, .int .i64 (partO cup n q (d + c) true).sq, .int .i64 (partO cup n q (d + c) true).n, .int .i64 (partO cup n q (d + c) true).d, .int .i64 (partO cup n q (d + c) true).p, .int .i64 (partO cup n q (d + c) true).c, .bool (partO cup n q (d + c) true).sp, .int .i64 (partO cup n q (d + c) true).ph, .string (partO cup n q (d + c) true).l.k, .int .i64 (partO cup n q (d + c) true).l.u, .int .i64 (partO cup n q (d + c) true).l.c, .int .i64 (partO cup n q (d + c) true).l.y, .int .i64 (partO cup n q (d + c) true).py.a, .int .i64 (partO cup n q (d + c) true).py.c, .int .i64 (partO cup n q (d + c) true).py.u, .int .i64 (partO cup n q (d + c) true).py.s, .int .i64 (partO cup n q (d + c) true).ak.s, .int .i64 (partO cup n q (d + c) true).ak.u, .bool (partO cup n q (d + c) true).en] rfl _ Try.underlying29 rfl infoO ?_) | (go_at_call 14; (with_reducible refine (HOP.out _).mono ?_); rintro e w' ⟨rfl, hz⟩; replace HB := Lib.hid (below_trans HB.out hz); replace HO := Lib.hid (HO.out.below hz); clear hz))
            go_roundw
            case rel => exact ⟨k + 1, by omega, by go_num, d + c, by have := HD.out; have := HM.out; omega, by have := HD.out; have := HM.out; have := HL.out; omega, by rw [HP.out], fun h => by have := HM.out; have := HKL.out h; omega, HO.out, HB.out⟩
            case measure => simp [intOf]; omega
      · rw [hm] at HWA
        clear hm
        have HM : Hid (1 ≤ l ∧ l ≤ n - d ∧ d + l = n) := Lib.hid ⟨by have := HL.out; omega, by have := HL.out; omega, by have := HL.out; omega⟩
        obtain ⟨e1, e2, e3, e4⟩ := part_step (k := cup) (d := d) (m := l) (y := (k : Int) + 1) cup_name HNQ.out.1 HNQ.out.2.1 HD.out.1 HM.out.1 HM.out.2.1 (by have := HD.out; omega)
        rw [if_pos HM.out.2.2] at e4
        have e5 := (send_right e1).2.2.2
        have fX : Fits (sendX (partO cup n q d true) ⟨cup, l, l, (k : Int) + 1⟩) := ⟨by simp [sendX, partO]; decide, by simp [sendX]; decide⟩
        have HSE : Hid (∀ w, Calls Try.prog 17 #[.agg #[.int .i64 (partO cup n q d true).id, .string (partO cup n q d true).k, .int .i64 (partO cup n q d true).cl, .int .i64 (partO cup n q d true).sq, .int .i64 (partO cup n q d true).n, .int .i64 (partO cup n q d true).d, .int .i64 (partO cup n q d true).p, .int .i64 (partO cup n q d true).c, .bool (partO cup n q d true).sp, .int .i64 (partO cup n q d true).ph, .string (partO cup n q d true).l.k, .int .i64 (partO cup n q d true).l.u, .int .i64 (partO cup n q d true).l.c, .int .i64 (partO cup n q d true).l.y, .int .i64 (partO cup n q d true).py.a, .int .i64 (partO cup n q d true).py.c, .int .i64 (partO cup n q d true).py.u, .int .i64 (partO cup n q d true).py.s, .int .i64 (partO cup n q d true).ak.s, .int .i64 (partO cup n q d true).ak.u, .bool (partO cup n q d true).en], .agg #[.string ⟨#[99, 117, 112]⟩, .int .i64 l, .int .i64 l, .int .i64 ((k : Int) + 1)]] w (OrdE (sendX (partO cup n q d true) ⟨cup, l, l, (k : Int) + 1⟩) 0 w)) := Lib.hid (fun w => by have := Send_any (partO cup n q d true) ⟨cup, l, l, (k : Int) + 1⟩ ⟨by simp [partO]; decide, by simp [partO, noL]⟩ (show cup.size ≤ 1000000 by decide) w; rw [e1, e5] at this; exact this)
        rw [e5] at e2 e3 e4
        have HCA := Lib.hid (fun w => Came_any (sendX (partO cup n q d true) ⟨cup, l, l, (k : Int) + 1⟩) fX w)
        rw [e2, e3, e4] at HCA
        have HOP := Lib.hid (fun w => Open_any (doneO cup n q true) ⟨by simp [partO, doneO]; decide, by simp [partO, doneO, noL]⟩ w)
        rw [done_tells] at HOP
        clear e1 e2 e3 e4 e5 fX
        unfold ov at HWA HLA HCA HOP
        have hs1 := small_mul HNQ.out.1 HNQ.out.2.1
        have hp0 : 0 ≤ d * q := Int.mul_nonneg HD.out.1 (by have := HNQ.out; omega)
        have hp1 : 0 ≤ l * q := Int.mul_nonneg (by have := HM.out; omega) (by have := HNQ.out; omega)
        have hp2 : (d + l) * q ≤ n * q := Int.mul_le_mul_of_nonneg_right (by have := HM.out; have := HL.out; omega) (by have := HNQ.out; omega)
        have hp3 : (d + l) * q = d * q + l * q := Int.add_mul _ _ _
        have hw1 : IntKind.i64.wrap (l * q) = l * q := IntWalk.i64_in _ (by omega)
        have hm1 : (l == 0) = false := by have := HM.out; simp; omega
        have hk9 : (k : Int) + 1 ≤ 9223372036854775807 := by omega
        have HP : Hid (d * q + l * q = (d + l) * q) := Lib.hid hp3.symm
        have HP9 : Hid (0 ≤ d * q ∧ 0 ≤ l * q ∧ d * q + l * q ≤ 2500) := Lib.hid ⟨hp0, hp1, by omega⟩
        have hs5 : IntKind.i64.wrap (d * q + l * q) = d * q + l * q := IntWalk.i64_in _ (by omega)
        clear hs1 hp0 hp1 hp2 hp3
        go_wp2_with (first | (refine load_part rfl 29 _ rfl _ 0 21 rfl HO.out [.int .i64 (partO cup n q d true).id, .string (partO cup n q d true).k, .int .i64 (partO cup n q d true).cl, .int .i64 (partO cup n q d true).sq, .int .i64 (partO cup n q d true).n, .int .i64 (partO cup n q d true).d, .int .i64 (partO cup n q d true).p, .int .i64 (partO cup n q d true).c, .bool (partO cup n q d true).sp, .int .i64 (partO cup n q d true).ph, .string (partO cup n q d true).l.k, .int .i64 (partO cup n q d true).l.u, .int .i64 (partO cup n q d true).l.c, .int .i64 (partO cup n q d true).l.y, .int .i64 (partO cup n q d true).py.a, .int .i64 (partO cup n q d true).py.c, .int .i64 (partO cup n q d true).py.u, .int .i64 (partO cup n q d true).py.s, .int .i64 (partO cup n q d true).ak.s, .int .i64 (partO cup n q d true).ak.u, .bool (partO cup n q d true).en] rfl _ Try.underlying29 rfl infoO ?_) | (go_at_call 15; (with_reducible refine (HWA.out _).mono ?_); rintro e w' ⟨rfl, hz⟩; replace HB := Lib.hid (below_trans HB.out hz); replace HO := Lib.hid (HO.out.below hz); clear hz) | (go_at_call 13; (with_reducible refine (HLA.out _).mono ?_); rintro e w' ⟨rfl, hz⟩; replace HB := Lib.hid (below_trans HB.out hz); replace HO := Lib.hid (HO.out.below hz); clear hz) | (go_at_call 17; (with_reducible refine (HSE.out _).mono ?_); rintro e w' ⟨rfl, hz⟩; replace HB := Lib.hid (below_trans HB.out hz); replace HO := Lib.hid (HO.out.below hz); clear hz) | (refine store_part rfl 29 _ _ rfl _ 0 rfl (ocs (sendX (partO cup n q d true) ⟨cup, l, l, (k : Int) + 1⟩)) rfl (Box.made _ (ocs noO) _) (show 0 + 21 ≤ 21 from by decide) infoO (ocs_one _) (ocs (sendX (partO cup n q d true) ⟨cup, l, l, (k : Int) + 1⟩)) (over_all rfl) (fun w' hy ht => ?_); have HX := Lib.hid hy; replace HO := Lib.hid (ht.1 _ _ (Nat.ne_of_lt HO.out.1) (HO.out.below (al _ _))); replace HB := Lib.hid (ht.2 _ _ HB.out.size (below_trans HB.out (al _ _))); clear hy ht) | (refine load_part rfl 29 _ rfl _ 0 21 rfl HX.out [.int .i64 (sendX (partO cup n q d true) ⟨cup, l, l, (k : Int) + 1⟩).id, .string (sendX (partO cup n q d true) ⟨cup, l, l, (k : Int) + 1⟩).k, .int .i64 (sendX (partO cup n q d true) ⟨cup, l, l, (k : Int) + 1⟩).cl, .int .i64 (sendX (partO cup n q d true) ⟨cup, l, l, (k : Int) + 1⟩).sq, .int .i64 (sendX (partO cup n q d true) ⟨cup, l, l, (k : Int) + 1⟩).n, .int .i64 (sendX (partO cup n q d true) ⟨cup, l, l, (k : Int) + 1⟩).d, .int .i64 (sendX (partO cup n q d true) ⟨cup, l, l, (k : Int) + 1⟩).p, .int .i64 (sendX (partO cup n q d true) ⟨cup, l, l, (k : Int) + 1⟩).c, .bool (sendX (partO cup n q d true) ⟨cup, l, l, (k : Int) + 1⟩).sp, .int .i64 (sendX (partO cup n q d true) ⟨cup, l, l, (k : Int) + 1⟩).ph, .string (sendX (partO cup n q d true) ⟨cup, l, l, (k : Int) + 1⟩).l.k, .int .i64 (sendX (partO cup n q d true) ⟨cup, l, l, (k : Int) + 1⟩).l.u, .int .i64 (sendX (partO cup n q d true) ⟨cup, l, l, (k : Int) + 1⟩).l.c, .int .i64 (sendX (partO cup n q d true) ⟨cup, l, l, (k : Int) + 1⟩).l.y, .int .i64 (sendX (partO cup n q d true) ⟨cup, l, l, (k : Int) + 1⟩).py.a, .int .i64 (sendX (partO cup n q d true) ⟨cup, l, l, (k : Int) + 1⟩).py.c, .int .i64 (sendX (partO cup n q d true) ⟨cup, l, l, (k : Int) + 1⟩).py.u, .int .i64 (sendX (partO cup n q d true) ⟨cup, l, l, (k : Int) + 1⟩).py.s, .int .i64 (sendX (partO cup n q d true) ⟨cup, l, l, (k : Int) + 1⟩).ak.s, .int .i64 (sendX (partO cup n q d true) ⟨cup, l, l, (k : Int) + 1⟩).ak.u, .bool (sendX (partO cup n q d true) ⟨cup, l, l, (k : Int) + 1⟩).en] rfl _ Try.underlying29 rfl infoO ?_) | (go_at_call 18; (with_reducible refine (HCA.out _).mono ?_); rintro e w' ⟨rfl, hz⟩; replace HB := Lib.hid (below_trans HB.out hz); replace HO := Lib.hid (HO.out.below hz); replace HX := Lib.hid (HX.out.below hz); clear hz) | (refine store_part rfl 29 _ _ rfl _ 0 rfl (ocs (doneO cup n q true)) rfl (Box.made _ (ocs noO) _) (show 0 + 21 ≤ 21 from by decide) infoO (ocs_one _) (ocs (doneO cup n q true)) (over_all rfl) (fun w' hy ht => ?_); have HY := Lib.hid hy; replace HO := Lib.hid (ht.1 _ _ (Nat.ne_of_lt HO.out.1) (HO.out.below (al _ _))); replace HX := Lib.hid (ht.1 _ _ (Nat.ne_of_lt HX.out.1) (HX.out.below (al _ _))); replace HB := Lib.hid (ht.2 _ _ HB.out.size (below_trans HB.out (al _ _))); clear hy ht) | (refine load_part rfl 29 _ rfl _ 0 21 rfl HY.out [.int .i64 (doneO cup n q true).id, .string (doneO cup n q true).k, .int .i64 (doneO cup n q true).cl, .int .i64 (doneO cup n q true).sq, .int .i64 (doneO cup n q true).n, .int .i64 (doneO cup n q true).d, .int .i64 (doneO cup n q true).p, .int .i64 (doneO cup n q true).c, .bool (doneO cup n q true).sp, .int .i64 (doneO cup n q true).ph, .string (doneO cup n q true).l.k, .int .i64 (doneO cup n q true).l.u, .int .i64 (doneO cup n q true).l.c, .int .i64 (doneO cup n q true).l.y, .int .i64 (doneO cup n q true).py.a, .int .i64 (doneO cup n q true).py.c, .int .i64 (doneO cup n q true).py.u, .int .i64 (doneO cup n q true).py.s, .int .i64 (doneO cup n q true).ak.s, .int .i64 (doneO cup n q true).ak.u, .bool (doneO cup n q true).en] rfl _ Try.underlying29 rfl infoO ?_) | (refine store_part rfl 29 _ _ rfl _ 0 rfl (ocs (doneO cup n q true)) rfl HO.out (show 0 + 21 ≤ 21 from by decide) infoO (ocs_one _) (ocs (doneO cup n q true)) (over_all rfl) (fun w' hy ht => ?_); replace HB := Lib.hid (ht.2 _ _ (HGE.out) HB.out); replace HO := Lib.hid hy; clear hy ht) | (refine load_part rfl 29 _ rfl _ 0 21 rfl HO.out [.int .i64 (doneO cup n q true).id, .string (doneO cup n q true).k, .int .i64 (doneO cup n q true).cl, .int .i64 (doneO cup n q true).sq, .int .i64 (doneO cup n q true).n, .int .i64 (doneO cup n q true).d, .int .i64 (doneO cup n q true).p, .int .i64 (doneO cup n q true).c, .bool (doneO cup n q true).sp, .int .i64 (doneO cup n q true).ph, .string (doneO cup n q true).l.k, .int .i64 (doneO cup n q true).l.u, .int .i64 (doneO cup n q true).l.c, .int .i64 (doneO cup n q true).l.y, .int .i64 (doneO cup n q true).py.a, .int .i64 (doneO cup n q true).py.c, .int .i64 (doneO cup n q true).py.u, .int .i64 (doneO cup n q true).py.s, .int .i64 (doneO cup n q true).ak.s, .int .i64 (doneO cup n q true).ak.u, .bool (doneO cup n q true).en] rfl _ Try.underlying29 rfl infoO ?_) | (go_at_call 14; (with_reducible refine (HOP.out _).mono ?_); rintro e w' ⟨rfl, hz⟩; replace HB := Lib.hid (below_trans HB.out hz); replace HO := Lib.hid (HO.out.below hz); clear hz; have HF : Hid (Fin w g n q len (.int .i64 (d * q + l * q)) w') := Lib.hid ⟨_, _, rfl, HO.out, HB.out, .inr ⟨by rw [HP.out, HM.out.2.2], rfl⟩⟩))
        go_meet
        exact HF.out
  case rest =>
  obtain ⟨o, z, rfl, hbx, hbe, hfin⟩ := hcut
  rename World => w2
  have HO := Lib.hid hbx
  have HB := Lib.hid hbe
  clear hbx hbe
  by_cases h20 : 20 < len
  · have h20' : ((len : Int) > 20) := by omega
    clear hfin h20
    go_wp2_with (first | (go_at_call 11; (with_reducible refine (HAL.out _).mono ?_); rintro e w' ⟨rfl, hz⟩; replace HB := Lib.hid (below_trans HB.out hz); clear hz))
    go_ret
    exact ⟨rfl, HB.out⟩
  · obtain ⟨rfl, rfl⟩ := hfin.resolve_left h20
    have h20' : ¬ ((len : Int) > 20) := by omega
    have hs1 := small_mul HNQ.out.1 HNQ.out.2.1
    have hw1 : IntKind.i64.wrap (n * q) = n * q := IntWalk.i64_in _ (by omega)
    clear hfin h20 hs1
    go_wp2_with (first | (go_at_call 11; (with_reducible refine (HAL.out _).mono ?_); rintro e w' ⟨rfl, hz⟩; replace HB := Lib.hid (below_trans HB.out hz); replace HO := Lib.hid (HO.out.below hz); clear hz; have y9 := (show _ = some (Value.int .i64 3) from HO.out.at 9 rfl); have y5 := (show _ = some (Value.int .i64 n) from HO.out.at 5 rfl)))
    go_ret
    exact ⟨rfl, HB.out⟩
set_option maxRecDepth 100000 in
set_option maxHeartbeats 4000000 in
theorem lifted (os : Os) (started : os.Started) (H : Type) (enc : TypeId × Value → H) :
    ReturnsInHanded {} Try.checked os 6 .any (Rows.orderPartsSpec.pre6 enc Try.prog Try.f6 Rows.orderPartsRow.domain false) (Rows.orderPartsSpec.post enc Try.prog Try.f6 false true false false) := by
  refine returnsInHanded_of_change (C := Try.checked) own started (by kernel_rfl) Try.func6
    (ChangeSpec.witness6 (enc := enc) (C := Try.checked) false ⟨#[], #[.int .i64 0, .int .i64 0, .slice none 0 0], []⟩ 8 (by kernel_rfl) (by kernel_rfl) (by kernel_rfl) (by kernel_rfl)) ?_
  intro W base args ds gs before hval0 hW hcnd _
  have hval : ∀ (j : Nat) t v, Try.f6.params[j]? = some t → args[j]? = some v → Value.okWide Try.prog W .any base t v := hval0
  have hW' := hW
  obtain ⟨p, q, hA0, hV, rfl, hfz, hnd⟩ := hW
  have hA : DataW.TrodAll enc Try.prog W 0 (fun _ => true) true Try.f6.params.toList args.toList ds p := hA0
  rw [Try.params6] at hA hval
  obtain ⟨v0, vs0, d0, ds0, p0, q0, hargs, rfl, rfl, h0, r0⟩ := trodAll_cons hA
  obtain ⟨v1, vs1, d1, ds1, p1, q1, rfl, rfl, rfl, h1, r1⟩ := trodAll_cons r0
  obtain ⟨v2, vs2, d2, ds2, p2, q2, rfl, rfl, rfl, h2, r2⟩ := trodAll_cons r1
  obtain ⟨rfl, rfl, rfl⟩ := trodAll_nil r2
  obtain rfl : args = #[v0, v1, v2] := by cases args; simp_all
  obtain ⟨rfl, rfl⟩ := trodVars_none hV
  obtain ⟨a0, rfl, rfl, rfl, w0⟩ := open_int Try.underlying3 (hval 0 3 v0 rfl rfl) h0
  have hb0 : -9223372036854775808 ≤ a0 ∧ a0 ≤ 9223372036854775807 := by
    have := w0
    simp [Lit.wf, IntKind.min, IntKind.max, IntKind.bits, IntKind.signed] at this
    omega
  obtain ⟨a1, rfl, rfl, rfl, w1⟩ := open_int Try.underlying3 (hval 1 3 v1 rfl rfl) h1
  have hb1 : -9223372036854775808 ≤ a1 ∧ a1 ≤ 9223372036854775807 := by
    have := w1
    simp [Lit.wf, IntKind.min, IntKind.max, IntKind.bits, IntKind.signed] at this
    omega
  have k2 := h2
  have lt2 : ∀ x ∈ p2, x.block < W.heap.size := by obtain ⟨m, hm⟩ := k2; exact DataW.trod_lt m _ _ _ hm
  obtain ⟨fuel2, hf2⟩ := h2
  obtain ⟨aa2, ll2, cc2, rfl⟩ := okWide_slice Try.underlying53 (hval 2 53 v2 rfl rfl)
  have w2 := argI_of (v := .slice aa2 ll2 cc2) hf2
  clear hA0 hval0
  refine (walk0 a0 hb0.1 hb0.2 a1 hb1.1 hb1.2 (.slice aa2 ll2 cc2) W w2).mono fun e W' ⟨he, bel⟩ => ?_
  subst he
  exact ⟨_, rfl, _, _, _, [], _, [], hW', trodAll_mk1 (shut_bool Try.underlying4 _), (trodAll_cons_mk (shut_int Try.underlying3 w0) (trodAll_cons_mk (shut_int Try.underlying3 w1) (trodAll_cons_mk (Below.trod laidOut (by kernel_rfl) (of_decide_eq_true (by kernel_rfl)) k2 bel lt2) trodAll_mk0))), rfl, bel.frame _, fun h => by cases h⟩

theorem over : Rows.orderPartsRow.holds Try.pinned (OpenSpec.ofChange Rows.orderPartsSpec) :=
  OpenClaim.holds_of_wide 6 Try.f6 rfl rfl rfl rfl rfl rfl rfl ⟨rfl, rfl, rfl, rfl, rfl⟩ rfl rfl rfl rfl rfl (by kernel_rfl) Try.func6 (by kernel_rfl)
    (of_decide_eq_true (by kernel_rfl)) (by unfold Func.isWrapper; first | (rw [if_pos (by decide +kernel)]; kernel_rfl) | (rw [if_neg (by decide +kernel)]; exact ⟨rfl, rfl⟩))
    (fun os started H enc _ => lifted os started H enc)

theorem proved : Rows.OrderPartsSaid := over
#print axioms proved
end Go.Proofs.Ytjmmijobdcepmaa.orderParts
