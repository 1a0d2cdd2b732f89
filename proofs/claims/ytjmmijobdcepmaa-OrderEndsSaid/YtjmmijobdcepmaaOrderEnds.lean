/-
  Proved: for any need, price, way of being sent and acts the law OrderEnds returns true: whatever is free, comes, and is cut off, an order stays such as may be; what was caught is what came, at its price, never more than it needs; once at its end it stays; cut off, and with what was sent come, it is at its end. No condition.
-/
import Derived.Test.YtjmmijobdcepmaaRows
import Derived.Test.YtjmmijobdcepmaaOEq
import Derived.Deep.CutRange
import Derived.Deep.CutBlock
namespace Go.Proofs.Ytjmmijobdcepmaa.orderEnds
open Go.ChangeShapes Go.WideShapes Go.ChangeAt Go.RowKit Go.Lib Go.Proofs.Ytjmmijobdcepmaa.Order
set_option linter.unusedVariables false

theorem own : ownKnob Try.prog.godebug = none := by kernel_rfl
theorem laidOut : laidOutB Try.prog = true := by kernel_rfl

/-- The loop's relation: how the order stands, what came, whether it was cut off. -/
def Head (w : World) (g : Nat) (n q : Int) (sp : Bool) (s c : Value) (wr : World) : Prop := ∃ (O : Od) (m : Int) (ct : Bool), Order.Ends O cup n q sp m ct ∧ s = .int .i64 m ∧ c = .bool ct ∧ Box g (ocs O) wr ∧ Below w.heap.size w wr
/-- Behind an act. -/
def Done (w : World) (g gw : Nat) (n q : Int) (sp : Bool) (O : Od) (s c : Value) (wx : World) : Prop := ∃ (X : Od) (m : Int) (ct : Bool), Order.Ends X cup n q sp m ct ∧ (openB O = false → X = O) ∧ s = .int .i64 m ∧ c = .bool ct ∧ Box g (ocs X) wx ∧ Box gw (ocs O) wx ∧ Below w.heap.size w wx
theorem open_of {o : Od} (h : RightO o) (h3 : o.ph < 3) : openB o = true := by
  unfold openB
  rw [rightB_t.2 h, decide_eq_true h3]
  rfl
theorem mod3 (kd : Int) : ∃ d : Int, (wrap64 (kd.tmod 3 + 3)).tmod 3 = d ∧ (d = 0 ∨ d = 1 ∨ d = 2) := by
  obtain ⟨h0, h2⟩ := tmod_bd (m := 3) kd (by omega) (by omega)
  exact ⟨_, rfl, by omega⟩

set_option maxRecDepth 100000 in
set_option maxHeartbeats 16000000 in
theorem walk0 (a : Int) (_a1 : -9223372036854775808 ≤ a) (_a2 : a ≤ 9223372036854775807) (b : Int) (_b1 : -9223372036854775808 ≤ b) (_b2 : b ≤ 9223372036854775807) (sp : Bool) (v : Value) (w : World) (hA : ArgK w v) :
    Calls Try.prog 5 #[.int .i64 a, .int .i64 b, .bool sp, v] w (BoolB true w) := by
  obtain ⟨aa, len, cap, rfl, hlc, hcap, hacts⟩ := hA
  have HACT := Lib.hid hacts
  have HAL := Lib.hid alive_any
  obtain ⟨a0, a9⟩ := tmod_bd (m := 50) a (by omega) (by omega)
  obtain ⟨b0, b9⟩ := tmod_bd (m := 50) b (by omega) (by omega)
  obtain ⟨A, hA⟩ : ∃ A, (wrap64 (a.tmod 50 + 50)).tmod 50 = A := ⟨_, rfl⟩
  obtain ⟨B, hB⟩ : ∃ B, (wrap64 (b.tmod 50 + 50)).tmod 50 = B := ⟨_, rfl⟩
  rw [hA] at a0 a9
  rw [hB] at b0 b9
  obtain ⟨n, hn⟩ : ∃ n, 1 + A = n := ⟨_, rfl⟩
  obtain ⟨q, hq⟩ : ∃ q, 1 + B = q := ⟨_, rfl⟩
  have HNQ : Hid ((1 ≤ n ∧ n ≤ 50) ∧ (1 ≤ q ∧ q ≤ 50)) := Lib.hid (by omega)
  have hcl : (cap : Int) ≤ 9223372036854775807 := by omega
  have HN : Hid (∀ w, Calls Try.prog 8 #[.agg #[.int .i64 1, .string ⟨#[99, 117, 112]⟩, .int .i64 0, .int .i64 1, .int .i64 n, .int .i64 0, .int .i64 q, .int .i64 9, .bool sp, .int .i64 0, .string ⟨#[]⟩, .int .i64 0, .int .i64 0, .int .i64 0, .int .i64 0, .int .i64 0, .int .i64 0, .int .i64 0, .int .i64 0, .int .i64 0, .bool false], .int .i64 100] w (OrdE (partO cup n q 0 sp) 0 w)) := Lib.hid (fun w => by
    have e := ord_new (k := cup) (sp := sp) cup_name HNQ.out.1 HNQ.out.2
    have := New_any (ordX cup n q sp) 100 ⟨show cup.size ≤ 1000000 by decide, show (0 : Nat) ≤ 1000000 by decide⟩ w
    rw [e.1, e.2] at this
    exact this)
  have HB : Hid (Below w.heap.size w w) := Lib.hid (Below.refl _ _)
  clear hacts
  go_enter Try.func5, Try.ntmps5
  go_upto_region 2 with (fail)
  clear hA hB hn hq a0 a9 b0 b9 _a1 _a2 _b1 _b2
  go_upto_region 3 with (first | (go_at_call 8; (with_reducible refine (HN.out _).mono ?_); rintro e w' ⟨rfl, hz⟩; replace HB := Lib.hid (below_trans HB.out hz); clear hz; have HGE := Lib.hid HB.out.size; obtain ⟨g, hg⟩ : ∃ g, w'.heap.size = g := ⟨_, rfl⟩; rw [hg] at HGE; have HGG := Lib.hid hg; clear hg) | (refine store_part rfl 29 _ _ rfl _ 0 rfl (ocs (partO cup n q 0 sp)) rfl (Box.made _ (ocs noO) _) (show 0 + 21 ≤ 21 from by decide) infoO (ocs_one _) (ocs (partO cup n q 0 sp)) (over_all rfl) (fun w' hy ht => ?_); have HO := Lib.hid hy; replace HB := Lib.hid (ht.2 _ _ HB.out.size (below_trans HB.out (al _ _))); clear hy ht; rw [HGG.out] at HO))
  rename World => w1
  rw [HGG.out]
  clear HGG HN
  have HST : Hid (Head w g n q sp (.int .i64 0) (.bool false) w1) := Lib.hid ⟨_, 0, false, ends_new cup_name HNQ.out.1 HNQ.out.2, rfl, rfl, HO.out, HB.out⟩
  clear HO HB
  go_upto_block 0 with (fail)
  go_cut [11, 12] from 51 to 165 (fun s c wx => Head w g n q sp s c wx)
  case first =>
    go_wp2_with fail
    go_loopw [11, 12, 13, 14, 15, 16, 17, 18, 19, 20, 21, 22, 23, 51] (fun s c _ _ _ _ _ _ _ _ _ _ _ i wr => ∃ k : Nat, k ≤ len ∧ k ≤ 30 ∧ i = .int .i64 k ∧ Head w g n q sp s c wr) (fun _ _ _ _ _ _ _ _ _ _ _ _ _ i _ => len - (intOf i).toNat)
    case atStart => exact ⟨0, Nat.zero_le _, Nat.zero_le _, rfl, HST.out⟩
    case round =>
      clear HST
      obtain ⟨k, hk, hk30, rfl, hst⟩ := hrel
      have HST := Lib.hid hst
      clear hst
      by_cases hlt : k < len
      case neg =>
        obtain rfl : k = len := by omega
        go_wp2_with fail
        go_meet
        exact HST.out
      obtain ⟨gb, off, rfl, hgb, hact⟩ := HACT.out (by omega)
      obtain ⟨kd, f, k0, k1⟩ := hact k hlt
      obtain ⟨O, m, ct, hE, rfl, rfl, hbx, hbe⟩ := HST.out
      have e0 := (hbe.cell (p := ⟨gb, off + k * 2, none⟩) hgb).trans k0
      have e1 := (hbe.cell (p := ⟨gb, off + k * 2 + 1, none⟩) hgb).trans k1
      have hgr := Nat.lt_of_lt_of_le hgb hbe.size
      have hkl : (k : Int) ≤ 9223372036854775807 := by omega
      have HE := Lib.hid hE
      have hal := al wr (.cells #[.int .i64 kd, .int .i64 f] 51)
      have hA := Box.made wr [.int .i64 kd, .int .i64 f] 51
      have hO := hbx.below hal
      have hB := below_trans hbe hal
      have hgn := hbx.1
      have HGA : Hid (wr.heap.size ≠ g) := Lib.hid (by omega)
      clear k0 k1 hact HACT hE hbx hbe HST hgn hal
      by_cases h30 : k = 30
      · subst h30
        have HF : Hid (Head w g n q sp (.int .i64 m) (.bool ct) (wr.alloc (.cells #[.int .i64 kd, .int .i64 f] 51))) := Lib.hid ⟨O, m, ct, HE.out, rfl, rfl, hO, hB⟩
        clear hO hB hA
        go_wp2_with fail
        go_meet
        exact HF.out
      have hk31 : k < 30 := by omega
      have hk32 : (k : Int) < 30 := by omega
      clear h30
      go_upto_region 10 with (fail)
      generalize wr.alloc (.cells #[.int .i64 kd, .int .i64 f] 51) = w4 at hA hO hB ⊢
      generalize wr.heap.size = ga at *
      have HA := Lib.hid hA
      have HO := Lib.hid hO
      have HB := Lib.hid hB
      clear hA hO hB e0 e1 hgr
      have HG4 : Hid (g < w4.heap.size ∧ ga < w4.heap.size) := Lib.hid ⟨HO.out.1, HA.out.1⟩
      go_upto_region 11 with (first | (refine load_part rfl 29 _ rfl _ 0 21 rfl HO.out [.int .i64 O.id, .string O.k, .int .i64 O.cl, .int .i64 O.sq, .int .i64 O.n, .int .i64 O.d, .int .i64 O.p, .int .i64 O.c, .bool O.sp, .int .i64 O.ph, .string O.l.k, .int .i64 O.l.u, .int .i64 O.l.c, .int .i64 O.l.y, .int .i64 O.py.a, .int .i64 O.py.c, .int .i64 O.py.u, .int .i64 O.py.s, .int .i64 O.ak.s, .int .i64 O.ak.u, .bool O.en] rfl _ Try.underlying29 rfl infoO ?_) | (refine store_part rfl 29 _ _ rfl _ 0 rfl (ocs O) rfl (Box.made _ (ocs noO) _) (show 0 + 21 ≤ 21 from by decide) infoO (ocs_one _) (ocs O) (over_all rfl) (fun w' hy ht => ?_); have HW := Lib.hid hy; replace HO := Lib.hid (ht.1 _ _ (Nat.ne_of_lt HO.out.1) (HO.out.below (al _ _))); replace HA := Lib.hid (ht.1 _ _ (Nat.ne_of_lt HA.out.1) (HA.out.below (al _ _))); replace HB := Lib.hid (ht.2 _ _ HB.out.size (below_trans HB.out (al _ _))); clear hy ht))
      rename World => w5
      generalize w4.heap.size = gw at *
      have HGW : Hid (gw ≠ g) := Lib.hid (by have := HG4.out; omega)
      have a0 := HA.out.at 0 rfl
      have has := HA.out.1
      obtain ⟨d3, hd3, hd⟩ := mod3 kd
      go_upto_block 2 with (fail)
      clear a0 has
      go_cut [11, 12] from 64 to 130 (fun s c wx => Done w g gw n q sp O s c wx)
      case first =>
        clear hd3 hlc hcap hk hk30 hlt
        have hR := HE.out.1
        have fO := hR.fits
        have hr := rightB_t.2 hR
        rcases hd with rfl | rfl | rfl
        · have hwd := HE.out.wants f 5 ((k : Int) + 1) ⟨by omega, by omega⟩
          have HWA := Lib.hid (fun w => Wants_any O f 5 fO w)
          have HLA := Lib.hid (fun w => Lack_any O fO w)
          have hx0 : wants O f 5 ≤ 0 ∨ 0 < wants O f 5 := by omega
          have HX9 : Hid (wants O f 5 ≤ 1073741824 ∧ 0 ≤ wants O f 5) := Lib.hid (by rcases wants_ways O f 5 with ⟨_, e⟩ | ⟨h1, _, _, _, _, e⟩ | ⟨h1, _, _, h4, h5, _, e⟩ | ⟨_, _, _, _, _, _, e⟩ <;> rw [e] <;> first | omega | (have := lack_bd h1; omega))
          obtain ⟨z, hz⟩ : ∃ z, sendE O ⟨cup, wants O f 5, wants O f 5, (k : Int) + 1⟩ = z := ⟨_, rfl⟩
          rw [hz] at hwd
          obtain ⟨X, hX⟩ : ∃ X, sendO O ⟨cup, wants O f 5, wants O f 5, (k : Int) + 1⟩ = X := ⟨_, rfl⟩
          have HSN : Hid (z = 0 → Order.Ends X cup n q sp m ct ∧ (openB O = false → X = O)) := Lib.hid (fun h0 => ⟨hX ▸ HE.out.sent (hz.trans h0), fun h => by rw [open_of hR (by have := (send_right (hz.trans h0)).2.1; omega)] at h; cases h⟩)
          have HSE : Hid (∀ w, Calls Try.prog 17 #[.agg #[.int .i64 O.id, .string O.k, .int .i64 O.cl, .int .i64 O.sq, .int .i64 O.n, .int .i64 O.d, .int .i64 O.p, .int .i64 O.c, .bool O.sp, .int .i64 O.ph, .string O.l.k, .int .i64 O.l.u, .int .i64 O.l.c, .int .i64 O.l.y, .int .i64 O.py.a, .int .i64 O.py.c, .int .i64 O.py.u, .int .i64 O.py.s, .int .i64 O.ak.s, .int .i64 O.ak.u, .bool O.en], .agg #[.string ⟨#[99, 117, 112]⟩, .int .i64 (wants O f 5), .int .i64 (wants O f 5), .int .i64 ((k : Int) + 1)]] w (OrdE X z w)) := Lib.hid (fun w => by have := Send_any O ⟨cup, wants O f 5, wants O f 5, (k : Int) + 1⟩ fO (show cup.size ≤ 1000000 by decide) w; rw [hz, hX] at this; exact this)
          generalize wants O f 5 = x at *
          generalize lack O = l at *
          clear hz hX hR fO hr
          unfold ov at HWA HLA
          have a1 := HA.out.at 1 rfl
          have has := HA.out.1
          go_upto_region 17 with (first | (refine load_part rfl 29 _ rfl _ 0 21 rfl HO.out [.int .i64 O.id, .string O.k, .int .i64 O.cl, .int .i64 O.sq, .int .i64 O.n, .int .i64 O.d, .int .i64 O.p, .int .i64 O.c, .bool O.sp, .int .i64 O.ph, .string O.l.k, .int .i64 O.l.u, .int .i64 O.l.c, .int .i64 O.l.y, .int .i64 O.py.a, .int .i64 O.py.c, .int .i64 O.py.u, .int .i64 O.py.s, .int .i64 O.ak.s, .int .i64 O.ak.u, .bool O.en] rfl _ Try.underlying29 rfl infoO ?_) | (go_at_call 15; (with_reducible refine (HWA.out _).mono ?_); rintro e w' ⟨rfl, hz⟩; replace HB := Lib.hid (below_trans HB.out hz); replace HO := Lib.hid (HO.out.below hz); replace HW := Lib.hid (HW.out.below hz); replace HA := Lib.hid (HA.out.below hz); clear hz; have a1 := HA.out.at 1 rfl; have has := HA.out.1))
          rename World => w6
          go_cut [101] from 78 to 101 (fun z wx => z = .bool false ∧ Box g (ocs O) wx ∧ Box gw (ocs O) wx ∧ Below w.heap.size w wx)
          case first =>
            clear HSE HSN HX9
            rcases hx0 with hx0 | hx0
            · have hx1 : ¬ x > 0 := by omega
              clear hwd hx0
              go_wp2_with fail
              go_meet
              exact ⟨rfl, HO.out, HW.out, HB.out⟩
            · obtain ⟨q1, q2, q3, q4, q5⟩ := hwd hx0
              have hx1 : x > 0 := hx0
              have hx2 : decide (f < x) = false := decide_eq_false (by omega)
              have hx3 : decide (l < x) = false := decide_eq_false (by omega)
              have Q3 := Lib.hid q3
              clear hwd q5 q3
              cases sp with
              | true =>
                go_wp2_with (first | (refine load_part rfl 29 _ rfl _ 0 21 rfl HO.out [.int .i64 O.id, .string O.k, .int .i64 O.cl, .int .i64 O.sq, .int .i64 O.n, .int .i64 O.d, .int .i64 O.p, .int .i64 O.c, .bool O.sp, .int .i64 O.ph, .string O.l.k, .int .i64 O.l.u, .int .i64 O.l.c, .int .i64 O.l.y, .int .i64 O.py.a, .int .i64 O.py.c, .int .i64 O.py.u, .int .i64 O.py.s, .int .i64 O.ak.s, .int .i64 O.ak.u, .bool O.en] rfl _ Try.underlying29 rfl infoO ?_) | (go_at_call 13; (with_reducible refine (HLA.out _).mono ?_); rintro e w' ⟨rfl, hz⟩; replace HB := Lib.hid (below_trans HB.out hz); replace HO := Lib.hid (HO.out.below hz); replace HW := Lib.hid (HW.out.below hz); replace HA := Lib.hid (HA.out.below hz); clear hz))
                go_meet
                exact ⟨rfl, HO.out, HW.out, HB.out⟩
              | false =>
                obtain rfl := Q3.out rfl
                go_wp2_with (first | (refine load_part rfl 29 _ rfl _ 0 21 rfl HO.out [.int .i64 O.id, .string O.k, .int .i64 O.cl, .int .i64 O.sq, .int .i64 O.n, .int .i64 O.d, .int .i64 O.p, .int .i64 O.c, .bool O.sp, .int .i64 O.ph, .string O.l.k, .int .i64 O.l.u, .int .i64 O.l.c, .int .i64 O.l.y, .int .i64 O.py.a, .int .i64 O.py.c, .int .i64 O.py.u, .int .i64 O.py.s, .int .i64 O.ak.s, .int .i64 O.ak.u, .bool O.en] rfl _ Try.underlying29 rfl infoO ?_) | (go_at_call 13; (with_reducible refine (HLA.out _).mono ?_); rintro e w' ⟨rfl, hz⟩; replace HB := Lib.hid (below_trans HB.out hz); replace HO := Lib.hid (HO.out.below hz); replace HW := Lib.hid (HW.out.below hz); replace HA := Lib.hid (HA.out.below hz); clear hz))
                go_meet
                exact ⟨rfl, HO.out, HW.out, HB.out⟩
          case rest =>
          obtain ⟨hz1, hbo, hbw, hbe⟩ := hcut
          subst hz1
          rename World => w7
          replace HO := Lib.hid hbo
          replace HW := Lib.hid hbw
          replace HB := Lib.hid hbe
          clear hbo hbw hbe HA a1 has HWA HLA
          have hkk : (k : Int) + 1 ≤ 9223372036854775807 := by omega
          by_cases hz0 : z = 0
          · subst hz0
            obtain ⟨hs1, hs2⟩ := HSN.out rfl
            have HS1 := Lib.hid hs1
            have HS2 := Lib.hid hs2
            clear hs1 hs2 hwd hx0 HSN
            go_wp2_with (first | (refine load_part rfl 29 _ rfl _ 0 21 rfl HO.out [.int .i64 O.id, .string O.k, .int .i64 O.cl, .int .i64 O.sq, .int .i64 O.n, .int .i64 O.d, .int .i64 O.p, .int .i64 O.c, .bool O.sp, .int .i64 O.ph, .string O.l.k, .int .i64 O.l.u, .int .i64 O.l.c, .int .i64 O.l.y, .int .i64 O.py.a, .int .i64 O.py.c, .int .i64 O.py.u, .int .i64 O.py.s, .int .i64 O.ak.s, .int .i64 O.ak.u, .bool O.en] rfl _ Try.underlying29 rfl infoO ?_) | (go_at_call 17; (with_reducible refine (HSE.out _).mono ?_); rintro e w' ⟨rfl, hz⟩; replace HB := Lib.hid (below_trans HB.out hz); replace HO := Lib.hid (HO.out.below hz); replace HW := Lib.hid (HW.out.below hz); clear hz) | (refine store_part rfl 29 _ _ rfl _ 0 rfl (ocs X) rfl (Box.made _ (ocs noO) _) (show 0 + 21 ≤ 21 from by decide) infoO (ocs_one _) (ocs X) (over_all rfl) (fun w' hy ht => ?_); have HX := Lib.hid hy; replace HO := Lib.hid (ht.1 _ _ (Nat.ne_of_lt HO.out.1) (HO.out.below (al _ _))); replace HW := Lib.hid (ht.1 _ _ (Nat.ne_of_lt HW.out.1) (HW.out.below (al _ _))); replace HB := Lib.hid (ht.2 _ _ HB.out.size (below_trans HB.out (al _ _))); clear hy ht) | (refine load_part rfl 29 _ rfl _ 0 21 rfl HX.out [.int .i64 X.id, .string X.k, .int .i64 X.cl, .int .i64 X.sq, .int .i64 X.n, .int .i64 X.d, .int .i64 X.p, .int .i64 X.c, .bool X.sp, .int .i64 X.ph, .string X.l.k, .int .i64 X.l.u, .int .i64 X.l.c, .int .i64 X.l.y, .int .i64 X.py.a, .int .i64 X.py.c, .int .i64 X.py.u, .int .i64 X.py.s, .int .i64 X.ak.s, .int .i64 X.ak.u, .bool X.en] rfl _ Try.underlying29 rfl infoO ?_) | (refine store_part rfl 29 _ _ rfl _ 0 rfl (ocs X) rfl HO.out (show 0 + 21 ≤ 21 from by decide) infoO (ocs_one _) (ocs X) (over_all rfl) (fun w' hy ht => ?_); replace HB := Lib.hid (ht.2 _ _ (HGE.out) HB.out); replace HO := Lib.hid hy; replace HW := Lib.hid (ht.1 _ _ (HGW.out) HW.out); clear hy ht))
            go_meet
            exact ⟨X, m, ct, HS1.out, HS2.out, rfl, rfl, HO.out, HW.out, HB.out⟩
          · have hz1 : (z == 0) = false := by simpa using hz0
            have hx1 : decide (0 < x) = false := decide_eq_false (fun h => hz0 (hwd h).2.2.2.2)
            clear hwd hx0 HSN hz0 HX9
            go_upto_region 20 with (first | (refine load_part rfl 29 _ rfl _ 0 21 rfl HO.out [.int .i64 O.id, .string O.k, .int .i64 O.cl, .int .i64 O.sq, .int .i64 O.n, .int .i64 O.d, .int .i64 O.p, .int .i64 O.c, .bool O.sp, .int .i64 O.ph, .string O.l.k, .int .i64 O.l.u, .int .i64 O.l.c, .int .i64 O.l.y, .int .i64 O.py.a, .int .i64 O.py.c, .int .i64 O.py.u, .int .i64 O.py.s, .int .i64 O.ak.s, .int .i64 O.ak.u, .bool O.en] rfl _ Try.underlying29 rfl infoO ?_) | (go_at_call 17; (with_reducible refine (HSE.out _).mono ?_); rintro e w' ⟨rfl, hz⟩; replace HB := Lib.hid (below_trans HB.out hz); replace HO := Lib.hid (HO.out.below hz); replace HW := Lib.hid (HW.out.below hz); clear hz) | (refine store_part rfl 29 _ _ rfl _ 0 rfl (ocs X) rfl (Box.made _ (ocs noO) _) (show 0 + 21 ≤ 21 from by decide) infoO (ocs_one _) (ocs X) (over_all rfl) (fun w' hy ht => ?_); have HX := Lib.hid hy; replace HO := Lib.hid (ht.1 _ _ (Nat.ne_of_lt HO.out.1) (HO.out.below (al _ _))); replace HW := Lib.hid (ht.1 _ _ (Nat.ne_of_lt HW.out.1) (HW.out.below (al _ _))); replace HB := Lib.hid (ht.2 _ _ HB.out.size (below_trans HB.out (al _ _))); clear hy ht))
            go_wp2_with fail
            go_meet
            exact ⟨O, m, ct, HE.out, fun _ => rfl, rfl, rfl, HO.out, HW.out, HB.out⟩
        · have HC := Lib.hid (fun w => Came_any O fO w)
          have HCN : Hid (cameE O = 0 → Order.Ends (cameO O) cup n q sp (m + cameN O) ct ∧ (openB O = false → cameO O = O)) := Lib.hid (fun h0 => ⟨(HE.out.came h0).1, fun h => by rw [open_of hR (by have := (came_right h0).2.1; omega)] at h; cases h⟩)
          have HMB := Lib.hid (HE.out.came_bd HNQ.out.1.2 HNQ.out.2.2)
          generalize cameE O = z at HC HCN
          generalize cameO O = X at HC HCN
          generalize cameN O = x at HC HCN
          clear hR fO hr HA
          unfold ov at HC
          by_cases hz0 : z = 0
          · subst hz0
            obtain ⟨hs1, hs2⟩ := HCN.out rfl
            have hbd := hs1.came_bd HNQ.out.1.2 HNQ.out.2.2
            have hsum : IntKind.i64.wrap (m + x) = m + x := IntWalk.i64_in _ (by omega)
            have HS1 := Lib.hid hs1
            have HS2 := Lib.hid hs2
            clear hs1 hs2 hbd HCN
            have hmb := HMB.out
            go_wp2_with (first | (refine load_part rfl 29 _ rfl _ 0 21 rfl HO.out [.int .i64 O.id, .string O.k, .int .i64 O.cl, .int .i64 O.sq, .int .i64 O.n, .int .i64 O.d, .int .i64 O.p, .int .i64 O.c, .bool O.sp, .int .i64 O.ph, .string O.l.k, .int .i64 O.l.u, .int .i64 O.l.c, .int .i64 O.l.y, .int .i64 O.py.a, .int .i64 O.py.c, .int .i64 O.py.u, .int .i64 O.py.s, .int .i64 O.ak.s, .int .i64 O.ak.u, .bool O.en] rfl _ Try.underlying29 rfl infoO ?_) | (go_at_call 18; (with_reducible refine (HC.out _).mono ?_); rintro e w' ⟨rfl, hz⟩; replace HB := Lib.hid (below_trans HB.out hz); replace HO := Lib.hid (HO.out.below hz); replace HW := Lib.hid (HW.out.below hz); clear hz) | (refine store_part rfl 29 _ _ rfl _ 0 rfl (ocs X) rfl (Box.made _ (ocs noO) _) (show 0 + 21 ≤ 21 from by decide) infoO (ocs_one _) (ocs X) (over_all rfl) (fun w' hy ht => ?_); have HX := Lib.hid hy; replace HO := Lib.hid (ht.1 _ _ (Nat.ne_of_lt HO.out.1) (HO.out.below (al _ _))); replace HW := Lib.hid (ht.1 _ _ (Nat.ne_of_lt HW.out.1) (HW.out.below (al _ _))); replace HB := Lib.hid (ht.2 _ _ HB.out.size (below_trans HB.out (al _ _))); clear hy ht) | (refine load_part rfl 29 _ rfl _ 0 21 rfl HX.out [.int .i64 X.id, .string X.k, .int .i64 X.cl, .int .i64 X.sq, .int .i64 X.n, .int .i64 X.d, .int .i64 X.p, .int .i64 X.c, .bool X.sp, .int .i64 X.ph, .string X.l.k, .int .i64 X.l.u, .int .i64 X.l.c, .int .i64 X.l.y, .int .i64 X.py.a, .int .i64 X.py.c, .int .i64 X.py.u, .int .i64 X.py.s, .int .i64 X.ak.s, .int .i64 X.ak.u, .bool X.en] rfl _ Try.underlying29 rfl infoO ?_) | (refine store_part rfl 29 _ _ rfl _ 0 rfl (ocs X) rfl HO.out (show 0 + 21 ≤ 21 from by decide) infoO (ocs_one _) (ocs X) (over_all rfl) (fun w' hy ht => ?_); replace HB := Lib.hid (ht.2 _ _ (HGE.out) HB.out); replace HO := Lib.hid hy; replace HW := Lib.hid (ht.1 _ _ (HGW.out) HW.out); clear hy ht))
            go_meet
            exact ⟨X, m + x, ct, HS1.out, HS2.out, rfl, rfl, HO.out, HW.out, HB.out⟩
          · have hz1 : (z == 0) = false := by simpa using hz0
            clear HCN hz0
            go_wp2_with (first | (refine load_part rfl 29 _ rfl _ 0 21 rfl HO.out [.int .i64 O.id, .string O.k, .int .i64 O.cl, .int .i64 O.sq, .int .i64 O.n, .int .i64 O.d, .int .i64 O.p, .int .i64 O.c, .bool O.sp, .int .i64 O.ph, .string O.l.k, .int .i64 O.l.u, .int .i64 O.l.c, .int .i64 O.l.y, .int .i64 O.py.a, .int .i64 O.py.c, .int .i64 O.py.u, .int .i64 O.py.s, .int .i64 O.ak.s, .int .i64 O.ak.u, .bool O.en] rfl _ Try.underlying29 rfl infoO ?_) | (go_at_call 18; (with_reducible refine (HC.out _).mono ?_); rintro e w' ⟨rfl, hz⟩; replace HB := Lib.hid (below_trans HB.out hz); replace HO := Lib.hid (HO.out.below hz); replace HW := Lib.hid (HW.out.below hz); clear hz) | (refine store_part rfl 29 _ _ rfl _ 0 rfl (ocs X) rfl (Box.made _ (ocs noO) _) (show 0 + 21 ≤ 21 from by decide) infoO (ocs_one _) (ocs X) (over_all rfl) (fun w' hy ht => ?_); have HX := Lib.hid hy; replace HO := Lib.hid (ht.1 _ _ (Nat.ne_of_lt HO.out.1) (HO.out.below (al _ _))); replace HW := Lib.hid (ht.1 _ _ (Nat.ne_of_lt HW.out.1) (HW.out.below (al _ _))); replace HB := Lib.hid (ht.2 _ _ HB.out.size (below_trans HB.out (al _ _))); clear hy ht))
            go_meet
            exact ⟨O, m, ct, HE.out, fun _ => rfl, rfl, rfl, HO.out, HW.out, HB.out⟩
        · have HC := Lib.hid (fun w => End_any O fO w)
          have HCN : Hid (endE O = 0 → Order.Ends (endO O) cup n q sp m true ∧ (openB O = false → endO O = O)) := Lib.hid (fun h0 => ⟨HE.out.ended h0, fun h => by rw [open_of hR (end_right h0).2.2.1] at h; cases h⟩)
          generalize endE O = z at HC HCN
          generalize endO O = X at HC HCN
          clear hR fO hr HA
          unfold ov at HC
          by_cases hz0 : z = 0
          · subst hz0
            obtain ⟨hs1, hs2⟩ := HCN.out rfl
            have HS1 := Lib.hid hs1
            have HS2 := Lib.hid hs2
            clear hs1 hs2 HCN
            go_wp2_with (first | (refine load_part rfl 29 _ rfl _ 0 21 rfl HO.out [.int .i64 O.id, .string O.k, .int .i64 O.cl, .int .i64 O.sq, .int .i64 O.n, .int .i64 O.d, .int .i64 O.p, .int .i64 O.c, .bool O.sp, .int .i64 O.ph, .string O.l.k, .int .i64 O.l.u, .int .i64 O.l.c, .int .i64 O.l.y, .int .i64 O.py.a, .int .i64 O.py.c, .int .i64 O.py.u, .int .i64 O.py.s, .int .i64 O.ak.s, .int .i64 O.ak.u, .bool O.en] rfl _ Try.underlying29 rfl infoO ?_) | (go_at_call 19; (with_reducible refine (HC.out _).mono ?_); rintro e w' ⟨rfl, hz⟩; replace HB := Lib.hid (below_trans HB.out hz); replace HO := Lib.hid (HO.out.below hz); replace HW := Lib.hid (HW.out.below hz); clear hz) | (refine store_part rfl 29 _ _ rfl _ 0 rfl (ocs X) rfl (Box.made _ (ocs noO) _) (show 0 + 21 ≤ 21 from by decide) infoO (ocs_one _) (ocs X) (over_all rfl) (fun w' hy ht => ?_); have HX := Lib.hid hy; replace HO := Lib.hid (ht.1 _ _ (Nat.ne_of_lt HO.out.1) (HO.out.below (al _ _))); replace HW := Lib.hid (ht.1 _ _ (Nat.ne_of_lt HW.out.1) (HW.out.below (al _ _))); replace HB := Lib.hid (ht.2 _ _ HB.out.size (below_trans HB.out (al _ _))); clear hy ht) | (refine load_part rfl 29 _ rfl _ 0 21 rfl HX.out [.int .i64 X.id, .string X.k, .int .i64 X.cl, .int .i64 X.sq, .int .i64 X.n, .int .i64 X.d, .int .i64 X.p, .int .i64 X.c, .bool X.sp, .int .i64 X.ph, .string X.l.k, .int .i64 X.l.u, .int .i64 X.l.c, .int .i64 X.l.y, .int .i64 X.py.a, .int .i64 X.py.c, .int .i64 X.py.u, .int .i64 X.py.s, .int .i64 X.ak.s, .int .i64 X.ak.u, .bool X.en] rfl _ Try.underlying29 rfl infoO ?_) | (refine store_part rfl 29 _ _ rfl _ 0 rfl (ocs X) rfl HO.out (show 0 + 21 ≤ 21 from by decide) infoO (ocs_one _) (ocs X) (over_all rfl) (fun w' hy ht => ?_); replace HB := Lib.hid (ht.2 _ _ (HGE.out) HB.out); replace HO := Lib.hid hy; replace HW := Lib.hid (ht.1 _ _ (HGW.out) HW.out); clear hy ht))
            go_meet
            exact ⟨X, m, true, HS1.out, HS2.out, rfl, rfl, HO.out, HW.out, HB.out⟩
          · have hz1 : (z == 0) = false := by simpa using hz0
            clear HCN hz0
            go_wp2_with (first | (refine load_part rfl 29 _ rfl _ 0 21 rfl HO.out [.int .i64 O.id, .string O.k, .int .i64 O.cl, .int .i64 O.sq, .int .i64 O.n, .int .i64 O.d, .int .i64 O.p, .int .i64 O.c, .bool O.sp, .int .i64 O.ph, .string O.l.k, .int .i64 O.l.u, .int .i64 O.l.c, .int .i64 O.l.y, .int .i64 O.py.a, .int .i64 O.py.c, .int .i64 O.py.u, .int .i64 O.py.s, .int .i64 O.ak.s, .int .i64 O.ak.u, .bool O.en] rfl _ Try.underlying29 rfl infoO ?_) | (go_at_call 19; (with_reducible refine (HC.out _).mono ?_); rintro e w' ⟨rfl, hz⟩; replace HB := Lib.hid (below_trans HB.out hz); replace HO := Lib.hid (HO.out.below hz); replace HW := Lib.hid (HW.out.below hz); clear hz) | (refine store_part rfl 29 _ _ rfl _ 0 rfl (ocs X) rfl (Box.made _ (ocs noO) _) (show 0 + 21 ≤ 21 from by decide) infoO (ocs_one _) (ocs X) (over_all rfl) (fun w' hy ht => ?_); have HX := Lib.hid hy; replace HO := Lib.hid (ht.1 _ _ (Nat.ne_of_lt HO.out.1) (HO.out.below (al _ _))); replace HW := Lib.hid (ht.1 _ _ (Nat.ne_of_lt HW.out.1) (HW.out.below (al _ _))); replace HB := Lib.hid (ht.2 _ _ HB.out.size (below_trans HB.out (al _ _))); clear hy ht))
            go_meet
            exact ⟨O, m, ct, HE.out, fun _ => rfl, rfl, rfl, HO.out, HW.out, HB.out⟩
      case rest =>
      obtain ⟨X, m', ct', hE2, hst, rfl, rfl, hbo, hbw, hbe⟩ := hcut
      rename World => w8
      have HE2 := Lib.hid hE2
      replace HO := Lib.hid hbo
      replace HW := Lib.hid hbw
      replace HB := Lib.hid hbe
      clear hbo hbw hbe HA hd hd3
      have HRX := Lib.hid (Right_any X hE2.1.fits)
      have HOO := Lib.hid (Open_any O HE.out.1.fits)
      rw [rightB_t.2 hE2.1] at HRX
      obtain ⟨x1, x2, x3, x4⟩ := hE2.asks
      have hdn : decide (n < X.d) = false := decide_eq_false (by omega)
      have hbd := hE2.came_bd HNQ.out.1.2 HNQ.out.2.2
      have hw1 : IntKind.i64.wrap (X.d * q) = m' := by rw [x3]; exact IntWalk.i64_in _ (by omega)
      have HPC : Hid (X.py.c = m') := Lib.hid x2
      have HF : Hid (∀ wx, Box g (ocs X) wx → Below w.heap.size w wx → Head w g n q sp (.int .i64 m') (.bool ct') wx) := Lib.hid (fun wx h1 h2 => ⟨X, m', ct', HE2.out, rfl, rfl, h1, h2⟩)
      clear hE2 x1 x2 x3 x4 hbd HE HE2
      cases hop : openB O with
      | true =>
        rw [hop] at HOO
        clear hst hop
        unfold ov at HRX HOO
        go_wp2_with (first | (refine load_part rfl 29 _ rfl _ 0 21 rfl HO.out [.int .i64 X.id, .string X.k, .int .i64 X.cl, .int .i64 X.sq, .int .i64 X.n, .int .i64 X.d, .int .i64 X.p, .int .i64 X.c, .bool X.sp, .int .i64 X.ph, .string X.l.k, .int .i64 X.l.u, .int .i64 X.l.c, .int .i64 X.l.y, .int .i64 X.py.a, .int .i64 X.py.c, .int .i64 X.py.u, .int .i64 X.py.s, .int .i64 X.ak.s, .int .i64 X.ak.u, .bool X.en] rfl _ Try.underlying29 rfl infoO ?_) | (refine load_part rfl 29 _ rfl _ 0 21 rfl HW.out [.int .i64 O.id, .string O.k, .int .i64 O.cl, .int .i64 O.sq, .int .i64 O.n, .int .i64 O.d, .int .i64 O.p, .int .i64 O.c, .bool O.sp, .int .i64 O.ph, .string O.l.k, .int .i64 O.l.u, .int .i64 O.l.c, .int .i64 O.l.y, .int .i64 O.py.a, .int .i64 O.py.c, .int .i64 O.py.u, .int .i64 O.py.s, .int .i64 O.ak.s, .int .i64 O.ak.u, .bool O.en] rfl _ Try.underlying29 rfl infoO ?_) | (go_at_call 12; (with_reducible refine (HRX.out _).mono ?_); rintro e w' ⟨rfl, hz⟩; replace HB := Lib.hid (below_trans HB.out hz); replace HO := Lib.hid (HO.out.below hz); replace HW := Lib.hid (HW.out.below hz); clear hz; have y15 : w'.cell? ⟨g, 15, none⟩ = some (.int .i64 m') := (congrArg (fun z => some (Value.int .i64 z)) HPC.out) ▸ HO.out.at 15 rfl; have y5 := HO.out.at 5 rfl) | (go_at_call 14; (with_reducible refine (HOO.out _).mono ?_); rintro e w' ⟨rfl, hz⟩; replace HB := Lib.hid (below_trans HB.out hz); replace HO := Lib.hid (HO.out.below hz); replace HW := Lib.hid (HW.out.below hz); clear hz))
        go_roundw
        case rel => exact ⟨k + 1, by omega, by omega, by go_num, HF.out _ HO.out HB.out⟩
        case measure => simp [intOf]; omega
      | false =>
        obtain rfl := hst hop
        rw [hop] at HOO
        clear hst hop
        have hq := fun W => neq_order X X W
        unfold ov at HRX HOO hq
        simp only [decide_true, Bool.not_true] at hq
        go_wp2_with (first | (refine load_part rfl 29 _ rfl _ 0 21 rfl HO.out [.int .i64 X.id, .string X.k, .int .i64 X.cl, .int .i64 X.sq, .int .i64 X.n, .int .i64 X.d, .int .i64 X.p, .int .i64 X.c, .bool X.sp, .int .i64 X.ph, .string X.l.k, .int .i64 X.l.u, .int .i64 X.l.c, .int .i64 X.l.y, .int .i64 X.py.a, .int .i64 X.py.c, .int .i64 X.py.u, .int .i64 X.py.s, .int .i64 X.ak.s, .int .i64 X.ak.u, .bool X.en] rfl _ Try.underlying29 rfl infoO ?_) | (refine load_part rfl 29 _ rfl _ 0 21 rfl HW.out [.int .i64 X.id, .string X.k, .int .i64 X.cl, .int .i64 X.sq, .int .i64 X.n, .int .i64 X.d, .int .i64 X.p, .int .i64 X.c, .bool X.sp, .int .i64 X.ph, .string X.l.k, .int .i64 X.l.u, .int .i64 X.l.c, .int .i64 X.l.y, .int .i64 X.py.a, .int .i64 X.py.c, .int .i64 X.py.u, .int .i64 X.py.s, .int .i64 X.ak.s, .int .i64 X.ak.u, .bool X.en] rfl _ Try.underlying29 rfl infoO ?_) | (go_at_call 12; (with_reducible refine (HRX.out _).mono ?_); rintro e w' ⟨rfl, hz⟩; replace HB := Lib.hid (below_trans HB.out hz); replace HO := Lib.hid (HO.out.below hz); replace HW := Lib.hid (HW.out.below hz); clear hz; have y15 : w'.cell? ⟨g, 15, none⟩ = some (.int .i64 m') := (congrArg (fun z => some (Value.int .i64 z)) HPC.out) ▸ HO.out.at 15 rfl; have y5 := HO.out.at 5 rfl) | (go_at_call 14; (with_reducible refine (HOO.out _).mono ?_); rintro e w' ⟨rfl, hz⟩; replace HB := Lib.hid (below_trans HB.out hz); replace HO := Lib.hid (HO.out.below hz); replace HW := Lib.hid (HW.out.below hz); clear hz))
        go_roundw
        case rel => exact ⟨k + 1, by omega, by omega, by go_num, HF.out _ HO.out HB.out⟩
        case measure => simp [intOf]; omega
  case rest =>
  obtain ⟨O, m, ct, hE, rfl, rfl, hbx, hbe⟩ := hcut
  rename World => w2
  have HO := Lib.hid hbx
  have HB := Lib.hid hbe
  have HE := Lib.hid hE
  clear hbx hbe hE HST HACT
  go_upto_if 167 with (fail)
  go_cut [] from 168 to 175 (fun wx => ∃ X, Order.Ends X cup n q sp m true ∧ Box g (ocs X) wx ∧ Below w.heap.size w wx)
  case first =>
    cases ct with
    | true =>
      go_wp2_with fail
      go_meet
      exact ⟨O, HE.out, HO.out, HB.out⟩
    | false =>
      have HC := Lib.hid (fun w => End_any O HE.out.1.fits w)
      have H1 : Hid (endE O = 0 → Order.Ends (endO O) cup n q sp m true) := Lib.hid (fun h0 => HE.out.ended h0)
      have H2 : Hid (endE O ≠ 0 → Order.Ends O cup n q sp m true) := Lib.hid (fun h0 => HE.out.was h0)
      generalize endE O = z at HC H1 H2
      generalize endO O = X at HC H1
      unfold ov at HC
      by_cases hz0 : z = 0
      · subst hz0
        have HS1 := Lib.hid (H1.out rfl)
        clear H1 H2
        go_wp2_with (first | (refine load_part rfl 29 _ rfl _ 0 21 rfl HO.out [.int .i64 O.id, .string O.k, .int .i64 O.cl, .int .i64 O.sq, .int .i64 O.n, .int .i64 O.d, .int .i64 O.p, .int .i64 O.c, .bool O.sp, .int .i64 O.ph, .string O.l.k, .int .i64 O.l.u, .int .i64 O.l.c, .int .i64 O.l.y, .int .i64 O.py.a, .int .i64 O.py.c, .int .i64 O.py.u, .int .i64 O.py.s, .int .i64 O.ak.s, .int .i64 O.ak.u, .bool O.en] rfl _ Try.underlying29 rfl infoO ?_) | (go_at_call 19; (with_reducible refine (HC.out _).mono ?_); rintro e w' ⟨rfl, hz⟩; replace HB := Lib.hid (below_trans HB.out hz); replace HO := Lib.hid (HO.out.below hz); clear hz) | (refine store_part rfl 29 _ _ rfl _ 0 rfl (ocs X) rfl (Box.made _ (ocs noO) _) (show 0 + 21 ≤ 21 from by decide) infoO (ocs_one _) (ocs X) (over_all rfl) (fun w' hy ht => ?_); have HX := Lib.hid hy; replace HO := Lib.hid (ht.1 _ _ (Nat.ne_of_lt HO.out.1) (HO.out.below (al _ _))); replace HB := Lib.hid (ht.2 _ _ HB.out.size (below_trans HB.out (al _ _))); clear hy ht) | (refine load_part rfl 29 _ rfl _ 0 21 rfl HX.out [.int .i64 X.id, .string X.k, .int .i64 X.cl, .int .i64 X.sq, .int .i64 X.n, .int .i64 X.d, .int .i64 X.p, .int .i64 X.c, .bool X.sp, .int .i64 X.ph, .string X.l.k, .int .i64 X.l.u, .int .i64 X.l.c, .int .i64 X.l.y, .int .i64 X.py.a, .int .i64 X.py.c, .int .i64 X.py.u, .int .i64 X.py.s, .int .i64 X.ak.s, .int .i64 X.ak.u, .bool X.en] rfl _ Try.underlying29 rfl infoO ?_) | (refine store_part rfl 29 _ _ rfl _ 0 rfl (ocs X) rfl HO.out (show 0 + 21 ≤ 21 from by decide) infoO (ocs_one _) (ocs X) (over_all rfl) (fun w' hy ht => ?_); replace HB := Lib.hid (ht.2 _ _ (HGE.out) HB.out); replace HO := Lib.hid hy; clear hy ht))
        go_meet
        exact ⟨X, HS1.out, HO.out, HB.out⟩
      · have hz1 : (z == 0) = false := by simpa using hz0
        have HS1 := Lib.hid (H2.out hz0)
        clear H1 H2 hz0
        go_wp2_with (first | (refine load_part rfl 29 _ rfl _ 0 21 rfl HO.out [.int .i64 O.id, .string O.k, .int .i64 O.cl, .int .i64 O.sq, .int .i64 O.n, .int .i64 O.d, .int .i64 O.p, .int .i64 O.c, .bool O.sp, .int .i64 O.ph, .string O.l.k, .int .i64 O.l.u, .int .i64 O.l.c, .int .i64 O.l.y, .int .i64 O.py.a, .int .i64 O.py.c, .int .i64 O.py.u, .int .i64 O.py.s, .int .i64 O.ak.s, .int .i64 O.ak.u, .bool O.en] rfl _ Try.underlying29 rfl infoO ?_) | (go_at_call 19; (with_reducible refine (HC.out _).mono ?_); rintro e w' ⟨rfl, hz⟩; replace HB := Lib.hid (below_trans HB.out hz); replace HO := Lib.hid (HO.out.below hz); clear hz) | (refine store_part rfl 29 _ _ rfl _ 0 rfl (ocs X) rfl (Box.made _ (ocs noO) _) (show 0 + 21 ≤ 21 from by decide) infoO (ocs_one _) (ocs X) (over_all rfl) (fun w' hy ht => ?_); have HX := Lib.hid hy; replace HO := Lib.hid (ht.1 _ _ (Nat.ne_of_lt HO.out.1) (HO.out.below (al _ _))); replace HB := Lib.hid (ht.2 _ _ HB.out.size (below_trans HB.out (al _ _))); clear hy ht))
        go_meet
        exact ⟨O, HS1.out, HO.out, HB.out⟩
  case rest =>
  obtain ⟨Y, hE, hbx, hbe⟩ := hcut
  rename World => w3
  replace HO := Lib.hid hbx
  replace HB := Lib.hid hbe
  clear hbx hbe HE
  have HE := Lib.hid hE
  clear hE
  have HC := Lib.hid (fun w => Came_any Y HE.out.1.fits w)
  have H1 : Hid (cameE Y = 0 → 3 ≤ (cameO Y).ph ∧ RightO (cameO Y) ∧ (cameO Y).n = n) := Lib.hid (fun h0 => ⟨(HE.out.last.1 h0).1, (HE.out.last.1 h0).2, (HE.out.came h0).1.2.1⟩)
  have H2 : Hid (cameE Y ≠ 0 → 3 ≤ Y.ph ∧ RightO Y ∧ Y.n = n) := Lib.hid (fun h0 => ⟨(HE.out.last.2 h0).1, (HE.out.last.2 h0).2, HE.out.2.1⟩)
  clear HE
  generalize cameE Y = z at HC H1 H2
  generalize cameO Y = X at HC H1
  generalize cameN Y = x at HC
  unfold ov at HC
  go_upto_region 35 with (fail)
  by_cases hz0 : z = 0
  · subst hz0
    obtain ⟨h1, h2, h3⟩ := H1.out rfl
    obtain ⟨t1, t2, t3, t4⟩ := shut_tells h2 h1
    have HOP := Lib.hid (Open_any X h2.fits)
    rw [t1] at HOP
    unfold ov at HOP
    have HSS : Hid (X.py.s = 3) := Lib.hid t2
    have hb1 : (X.ph == 3) = (X.d == n) := by rw [← h3]; exact t3
    have hb2 : (X.ph == 5) = (X.d == 0) := t4
    clear t1 t2 t3 t4 h1 h2 h3
    clear H1 H2
    go_wp2_with (first | (refine load_part rfl 29 _ rfl _ 0 21 rfl HO.out [.int .i64 Y.id, .string Y.k, .int .i64 Y.cl, .int .i64 Y.sq, .int .i64 Y.n, .int .i64 Y.d, .int .i64 Y.p, .int .i64 Y.c, .bool Y.sp, .int .i64 Y.ph, .string Y.l.k, .int .i64 Y.l.u, .int .i64 Y.l.c, .int .i64 Y.l.y, .int .i64 Y.py.a, .int .i64 Y.py.c, .int .i64 Y.py.u, .int .i64 Y.py.s, .int .i64 Y.ak.s, .int .i64 Y.ak.u, .bool Y.en] rfl _ Try.underlying29 rfl infoO ?_) | (go_at_call 18; (with_reducible refine (HC.out _).mono ?_); rintro e w' ⟨rfl, hz⟩; replace HB := Lib.hid (below_trans HB.out hz); replace HO := Lib.hid (HO.out.below hz); clear hz) | (refine store_part rfl 29 _ _ rfl _ 0 rfl (ocs X) rfl (Box.made _ (ocs noO) _) (show 0 + 21 ≤ 21 from by decide) infoO (ocs_one _) (ocs X) (over_all rfl) (fun w' hy ht => ?_); have HX := Lib.hid hy; replace HO := Lib.hid (ht.1 _ _ (Nat.ne_of_lt HO.out.1) (HO.out.below (al _ _))); replace HB := Lib.hid (ht.2 _ _ HB.out.size (below_trans HB.out (al _ _))); clear hy ht) | (refine load_part rfl 29 _ rfl _ 0 21 rfl HX.out [.int .i64 X.id, .string X.k, .int .i64 X.cl, .int .i64 X.sq, .int .i64 X.n, .int .i64 X.d, .int .i64 X.p, .int .i64 X.c, .bool X.sp, .int .i64 X.ph, .string X.l.k, .int .i64 X.l.u, .int .i64 X.l.c, .int .i64 X.l.y, .int .i64 X.py.a, .int .i64 X.py.c, .int .i64 X.py.u, .int .i64 X.py.s, .int .i64 X.ak.s, .int .i64 X.ak.u, .bool X.en] rfl _ Try.underlying29 rfl infoO ?_) | (refine store_part rfl 29 _ _ rfl _ 0 rfl (ocs X) rfl HO.out (show 0 + 21 ≤ 21 from by decide) infoO (ocs_one _) (ocs X) (over_all rfl) (fun w' hy ht => ?_); replace HB := Lib.hid (ht.2 _ _ (HGE.out) HB.out); replace HO := Lib.hid hy; clear hy ht) | (go_at_call 11; (with_reducible refine (HAL.out _).mono ?_); rintro e w' ⟨rfl, hz⟩; replace HB := Lib.hid (below_trans HB.out hz); replace HO := Lib.hid (HO.out.below hz); clear hz) | (refine load_part rfl 29 _ rfl _ 0 21 rfl HO.out [.int .i64 X.id, .string X.k, .int .i64 X.cl, .int .i64 X.sq, .int .i64 X.n, .int .i64 X.d, .int .i64 X.p, .int .i64 X.c, .bool X.sp, .int .i64 X.ph, .string X.l.k, .int .i64 X.l.u, .int .i64 X.l.c, .int .i64 X.l.y, .int .i64 X.py.a, .int .i64 X.py.c, .int .i64 X.py.u, .int .i64 X.py.s, .int .i64 X.ak.s, .int .i64 X.ak.u, .bool X.en] rfl _ Try.underlying29 rfl infoO ?_) | (go_at_call 14; (with_reducible refine (HOP.out _).mono ?_); rintro e w' ⟨rfl, hz⟩; replace HB := Lib.hid (below_trans HB.out hz); replace HO := Lib.hid (HO.out.below hz); clear hz; have y17 : w'.cell? ⟨g, 17, none⟩ = some (.int .i64 3) := (congrArg (fun z => some (Value.int .i64 z)) HSS.out) ▸ HO.out.at 17 rfl; have y9 := HO.out.at 9 rfl; have y5 := HO.out.at 5 rfl))
    go_ret
    exact ⟨ret_bool (by simp), HB.out⟩
  · have hz1 : (z == 0) = false := by simpa using hz0
    obtain ⟨h1, h2, h3⟩ := H2.out hz0
    clear hz0
    obtain ⟨t1, t2, t3, t4⟩ := shut_tells h2 h1
    have HOP := Lib.hid (Open_any Y h2.fits)
    rw [t1] at HOP
    unfold ov at HOP
    have HSS : Hid (Y.py.s = 3) := Lib.hid t2
    have hb1 : (Y.ph == 3) = (Y.d == n) := by rw [← h3]; exact t3
    have hb2 : (Y.ph == 5) = (Y.d == 0) := t4
    clear t1 t2 t3 t4 h1 h2 h3
    clear H1 H2
    go_wp2_with (first | (refine load_part rfl 29 _ rfl _ 0 21 rfl HO.out [.int .i64 Y.id, .string Y.k, .int .i64 Y.cl, .int .i64 Y.sq, .int .i64 Y.n, .int .i64 Y.d, .int .i64 Y.p, .int .i64 Y.c, .bool Y.sp, .int .i64 Y.ph, .string Y.l.k, .int .i64 Y.l.u, .int .i64 Y.l.c, .int .i64 Y.l.y, .int .i64 Y.py.a, .int .i64 Y.py.c, .int .i64 Y.py.u, .int .i64 Y.py.s, .int .i64 Y.ak.s, .int .i64 Y.ak.u, .bool Y.en] rfl _ Try.underlying29 rfl infoO ?_) | (go_at_call 18; (with_reducible refine (HC.out _).mono ?_); rintro e w' ⟨rfl, hz⟩; replace HB := Lib.hid (below_trans HB.out hz); replace HO := Lib.hid (HO.out.below hz); clear hz) | (refine store_part rfl 29 _ _ rfl _ 0 rfl (ocs X) rfl (Box.made _ (ocs noO) _) (show 0 + 21 ≤ 21 from by decide) infoO (ocs_one _) (ocs X) (over_all rfl) (fun w' hy ht => ?_); have HX := Lib.hid hy; replace HO := Lib.hid (ht.1 _ _ (Nat.ne_of_lt HO.out.1) (HO.out.below (al _ _))); replace HB := Lib.hid (ht.2 _ _ HB.out.size (below_trans HB.out (al _ _))); clear hy ht) | (go_at_call 11; (with_reducible refine (HAL.out _).mono ?_); rintro e w' ⟨rfl, hz⟩; replace HB := Lib.hid (below_trans HB.out hz); replace HO := Lib.hid (HO.out.below hz); clear hz) | (refine load_part rfl 29 _ rfl _ 0 21 rfl HO.out [.int .i64 Y.id, .string Y.k, .int .i64 Y.cl, .int .i64 Y.sq, .int .i64 Y.n, .int .i64 Y.d, .int .i64 Y.p, .int .i64 Y.c, .bool Y.sp, .int .i64 Y.ph, .string Y.l.k, .int .i64 Y.l.u, .int .i64 Y.l.c, .int .i64 Y.l.y, .int .i64 Y.py.a, .int .i64 Y.py.c, .int .i64 Y.py.u, .int .i64 Y.py.s, .int .i64 Y.ak.s, .int .i64 Y.ak.u, .bool Y.en] rfl _ Try.underlying29 rfl infoO ?_) | (go_at_call 14; (with_reducible refine (HOP.out _).mono ?_); rintro e w' ⟨rfl, hz⟩; replace HB := Lib.hid (below_trans HB.out hz); replace HO := Lib.hid (HO.out.below hz); clear hz; have y17 : w'.cell? ⟨g, 17, none⟩ = some (.int .i64 3) := (congrArg (fun z => some (Value.int .i64 z)) HSS.out) ▸ HO.out.at 17 rfl; have y9 := HO.out.at 9 rfl; have y5 := HO.out.at 5 rfl))
    go_ret
    exact ⟨ret_bool (by simp), HB.out⟩
set_option maxRecDepth 100000 in
set_option maxHeartbeats 4000000 in
theorem lifted (os : Os) (started : os.Started) (H : Type) (enc : TypeId × Value → H) :
    ReturnsInHanded {} Try.checked os 5 .any (Rows.orderEndsSpec.pre6 enc Try.prog Try.f5 Rows.orderEndsRow.domain false) (Rows.orderEndsSpec.post enc Try.prog Try.f5 false true false false) := by
  refine returnsInHanded_of_change (C := Try.checked) own started (by kernel_rfl) Try.func5
    (ChangeSpec.witness6 (enc := enc) (C := Try.checked) false ⟨#[], #[.int .i64 0, .int .i64 0, .bool false, .slice none 0 0], []⟩ 8 (by kernel_rfl) (by kernel_rfl) (by kernel_rfl) (by kernel_rfl)) ?_
  intro W base args ds gs before hval0 hW hcnd _
  have hval : ∀ (j : Nat) t v, Try.f5.params[j]? = some t → args[j]? = some v → Value.okWide Try.prog W .any base t v := hval0
  have hW' := hW
  obtain ⟨p, q, hA0, hV, rfl, hfz, hnd⟩ := hW
  have hA : DataW.TrodAll enc Try.prog W 0 (fun _ => true) true Try.f5.params.toList args.toList ds p := hA0
  rw [Try.params5] at hA hval
  obtain ⟨v0, vs0, d0, ds0, p0, q0, hargs, rfl, rfl, h0, r0⟩ := trodAll_cons hA
  obtain ⟨v1, vs1, d1, ds1, p1, q1, rfl, rfl, rfl, h1, r1⟩ := trodAll_cons r0
  obtain ⟨v2, vs2, d2, ds2, p2, q2, rfl, rfl, rfl, h2, r2⟩ := trodAll_cons r1
  obtain ⟨v3, vs3, d3, ds3, p3, q3, rfl, rfl, rfl, h3, r3⟩ := trodAll_cons r2
  obtain ⟨rfl, rfl, rfl⟩ := trodAll_nil r3
  obtain rfl : args = #[v0, v1, v2, v3] := by cases args; simp_all
  obtain ⟨rfl, rfl⟩ := trodVars_none hV
  obtain ⟨a0, rfl, rfl, rfl, w0⟩ := open_int Try.underlying3 (hval 0 3 v0 rfl rfl) h0
  have hb0 : -9223372036854775808 ≤ a0 ∧ a0 ≤ 9223372036854775807 := by
    have := w0
    simp [Lit.wf, IntKind.min, IntKind.max, IntKind.bits, IntKind.signed] at this
    omega
  obtain ⟨a1, rfl, rfl, rfl, w1⟩ := open_int Try.underlying3 (hval 1 3 v1 rfl rfl) h1
  have hb1 : -9223372036854775808 ≤ a1 ∧ a1 ≤ 9223372036854775807 := by
    have := w1
    simp [Lit.wf, IntKind.min, IntKind.max, IntKind.bits, IntKind.signed] at this
    omega
  obtain ⟨a2, rfl, rfl, rfl⟩ := open_bool Try.underlying4 (hval 2 4 v2 rfl rfl) h2
  have k3 := h3
  have lt3 : ∀ x ∈ p3, x.block < W.heap.size := by obtain ⟨m, hm⟩ := k3; exact DataW.trod_lt m _ _ _ hm
  obtain ⟨fuel3, hf3⟩ := h3
  obtain ⟨aa3, ll3, cc3, rfl⟩ := okWide_slice Try.underlying49 (hval 3 49 v3 rfl rfl)
  have w3 := argK_of (v := .slice aa3 ll3 cc3) hf3
  clear hA0 hval0
  refine (walk0 a0 hb0.1 hb0.2 a1 hb1.1 hb1.2 a2 (.slice aa3 ll3 cc3) W w3).mono fun e W' ⟨he, bel⟩ => ?_
  subst he
  exact ⟨_, rfl, _, _, _, [], _, [], hW', trodAll_mk1 (shut_bool Try.underlying4 _), (trodAll_cons_mk (shut_int Try.underlying3 w0) (trodAll_cons_mk (shut_int Try.underlying3 w1) (trodAll_cons_mk (shut_bool Try.underlying4 _) (trodAll_cons_mk (Below.trod laidOut (by kernel_rfl) (of_decide_eq_true (by kernel_rfl)) k3 bel lt3) trodAll_mk0)))), rfl, bel.frame _, fun h => by cases h⟩

theorem over : Rows.orderEndsRow.holds Try.pinned (OpenSpec.ofChange Rows.orderEndsSpec) :=
  OpenClaim.holds_of_wide 5 Try.f5 rfl rfl rfl rfl rfl rfl rfl ⟨rfl, rfl, rfl, rfl, rfl⟩ rfl rfl rfl rfl rfl (by kernel_rfl) Try.func5 (by kernel_rfl)
    (of_decide_eq_true (by kernel_rfl)) (by unfold Func.isWrapper; first | (rw [if_pos (by decide +kernel)]; kernel_rfl) | (rw [if_neg (by decide +kernel)]; exact ⟨rfl, rfl⟩))
    (fun os started H enc _ => lifted os started H enc)

theorem proved : Rows.OrderEndsSaid := over
#print axioms proved
end Go.Proofs.Ytjmmijobdcepmaa.orderEnds
