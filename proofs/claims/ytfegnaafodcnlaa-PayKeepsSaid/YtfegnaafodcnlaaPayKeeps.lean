/-
  Proved: for any units, price and acts the law PayKeeps returns true: never is more caught than was promised, what is caught is just what was taken, and no amount ever changes; what is closed stays as it is; what does not hold is renewed ahead of holding again. No condition.
-/
import Derived.Test.YtfegnaafodcnlaaRows
import Derived.Test.YtfegnaafodcnlaaPAct
import Derived.Deep.CutRange
import Derived.Deep.CutBlock
namespace Go.Proofs.Ytfegnaafodcnlaa.payKeeps
open Go.ChangeShapes Go.WideShapes Go.ChangeAt Go.RowKit Go.Lib Go.Proofs.Ytfegnaafodcnlaa.Pay
set_option linter.unusedVariables false

theorem own : ownKnob Try.prog.godebug = none := by kernel_rfl
theorem laidOut : laidOutB Try.prog = true := by kernel_rfl

/-- The loop's relation: money P in its block, its amount is m, what is caught is the sum. -/
def Head (w : World) (g : Nat) (m : Int) (s : Value) (wr : World) : Prop := ∃ P : Py, s = .int .i64 P.c ∧ RightP P ∧ P.a = m ∧ Box g [.int .i64 P.a, .int .i64 P.c, .int .i64 P.u, .int .i64 P.s] wr ∧ Below w.heap.size w wr
/-- What is done, and its error: X in the block gx; behind no error the sum s. -/
def Done (P : Py) (d : Int) (gx ga : Nat) (kd n : Int) (W : World) (s f : Value) (wx : World) : Prop := ∃ (X : Py) (z : Int), f = .int .i64 z ∧ Box gx [.int .i64 X.a, .int .i64 X.c, .int .i64 X.u, .int .i64 X.s] wx ∧ Box ga [.int .i64 kd, .int .i64 n] wx ∧ Below W.heap.size W wx ∧
  ((z ≠ 0 ∧ s = .int .i64 P.c) ∨ (z = 0 ∧ s = .int .i64 X.c ∧ RightP X ∧ X.a = P.a ∧ (P.s = 3 → X = P) ∧ (d ≠ 1 → GoodP X (-1) → GoodP P (-1))))
theorem done_no {P : Py} {d kd n z : Int} {gx ga : Nat} {W wx : World} {X : Py} (hx : Box gx [.int .i64 X.a, .int .i64 X.c, .int .i64 X.u, .int .i64 X.s] wx) (ha : Box ga [.int .i64 kd, .int .i64 n] wx) (hb : Below W.heap.size W wx) (hz : z ≠ 0) : Done P d gx ga kd n W (.int .i64 P.c) (.int .i64 z) wx :=
  ⟨X, z, rfl, hx, ha, hb, .inl ⟨hz, rfl⟩⟩
theorem done_yes {P : Py} {d kd n c : Int} {gx ga : Nat} {W wx : World} {X : Py} {r : Bool} (hx : Box gx [.int .i64 X.a, .int .i64 X.c, .int .i64 X.u, .int .i64 X.s] wx) (ha : Box ga [.int .i64 kd, .int .i64 n] wx) (hb : Below W.heap.size W wx) (hk : Kept P X c r) (hr : d ≠ 1 → r = false) : Done P d gx ga kd n W (.int .i64 (P.c + c)) (.int .i64 0) wx :=
  ⟨X, 0, rfl, hx, ha, hb, .inr ⟨rfl, by rw [hk.2.2.1], hk.1, hk.2.1, hk.2.2.2.1, fun h1 => hk.2.2.2.2 (hr h1)⟩⟩
theorem new_of {n q : Int} (h1 : 1 ≤ n ∧ n ≤ 100) (h2 : 1 ≤ q ∧ q ≤ 100) : newE n q 10 = 0 ∧ newO n q 10 = ⟨n * q, 0, 10, 1⟩ ∧ 1 ≤ n * q ∧ n * q ≤ 10000 := by
  have a1 := Int.mul_le_mul h1.1 h2.1 (by omega) (by omega)
  have a2 := Int.mul_le_mul h1.2 h2.2 (by omega) (by omega)
  rcases new_ways n q 10 with ⟨h, _⟩ | ⟨_, _, _, h, _⟩ | ⟨_, _, _, _, _, e1, e2⟩
  · exact absurd ⟨⟨h1.1, by omega⟩, ⟨h2.1, by omega⟩, ⟨by omega, by omega⟩⟩ h
  · omega
  · exact ⟨e1, e2, by omega, by omega⟩

set_option maxRecDepth 100000 in
set_option maxHeartbeats 8000000 in
theorem walk0 (a : Int) (_a1 : -9223372036854775808 ≤ a) (_a2 : a ≤ 9223372036854775807) (b : Int) (_b1 : -9223372036854775808 ≤ b) (_b2 : b ≤ 9223372036854775807) (v : Value) (w : World) (hA : ArgP w v) :
    Calls Try.prog 5 #[.int .i64 a, .int .i64 b, v] w (BoolB true w) := by
  obtain ⟨aa, len, cap, rfl, hlc, hcap, hacts⟩ := hA
  have HACT := Lib.hid hacts
  have HAL := Lib.hid alive_any
  obtain ⟨a0, a9⟩ := tmod_bd (m := 100) a (by omega) (by omega)
  obtain ⟨b0, b9⟩ := tmod_bd (m := 100) b (by omega) (by omega)
  obtain ⟨A, hA⟩ : ∃ A, (wrap64 (a.tmod 100 + 100)).tmod 100 = A := ⟨_, rfl⟩
  obtain ⟨B, hB⟩ : ∃ B, (wrap64 (b.tmod 100 + 100)).tmod 100 = B := ⟨_, rfl⟩
  rw [hA] at a0 a9
  rw [hB] at b0 b9
  obtain ⟨n, hn⟩ : ∃ n, 1 + A = n := ⟨_, rfl⟩
  obtain ⟨q, hq⟩ : ∃ q, 1 + B = q := ⟨_, rfl⟩
  obtain ⟨e1, e2, m1, m9⟩ := new_of (n := n) (q := q) (by omega) (by omega)
  have hN := New_any n q 10
  rw [e1, e2] at hN
  clear hacts e1 e2
  go_enter Try.func5, Try.ntmps5
  go_upto_region 2 with (fail)
  clear hA hB hn hq a0 a9 b0 b9 _a1 _a2 _b1 _b2
  obtain ⟨m, hm⟩ : ∃ m, n * q = m := ⟨_, rfl⟩
  rw [hm] at hN m1 m9
  have HN := Lib.hid hN
  have HM : Hid (n * q = m) := Lib.hid hm
  clear hN hm
  go_wp2_with fail
  (with_reducible refine (HN.out _).mono ?_)
  rintro e v1 ⟨rfl, hz⟩
  have hx := Box.made v1 [.int .i64 m, .int .i64 0, .int .i64 10, .int .i64 1] 23
  have hz2 := below_trans hz (al v1 (.cells #[.int .i64 m, .int .i64 0, .int .i64 10, .int .i64 1] 23))
  obtain ⟨w1, hw⟩ : ∃ W, v1.alloc (.cells #[.int .i64 m, .int .i64 0, .int .i64 10, .int .i64 1] 23) = W := ⟨_, rfl⟩
  have HST : Hid (Head w v1.heap.size m (.int .i64 0) w1) := Lib.hid ⟨⟨m, 0, 10, 1⟩, rfl, ⟨by simp only; omega, by simp only; omega, by simp, by simp only; omega, by simp, by simp, by simp, by simp⟩, rfl, hw ▸ hx, hw ▸ hz2⟩
  have HG : Hid (w.heap.size ≤ v1.heap.size) := Lib.hid hz.size
  clear hx hz hz2
  unfold pv
  go_upto_region 3 with (fail)
  clear hw
  generalize v1.heap.size = g at *
  go_upto_block 0 with (fail)
  go_cut [9] from 30 to 132 (fun s wx => Head w g m s wx)
  case first =>
    go_wp2_with fail
    go_loopw [9, 10, 11, 12, 13, 34] (fun s _ _ _ _ i wr => ∃ k : Nat, k ≤ len ∧ k ≤ 30 ∧ i = .int .i64 k ∧ Head w g m s wr) (fun _ _ _ _ _ i _ => len - (intOf i).toNat)
    case atStart => exact ⟨0, Nat.zero_le _, Nat.zero_le _, rfl, HST.out⟩
    case round =>
      clear HST
      obtain ⟨k, hk, hk30, rfl, hst⟩ := hrel
      have HST := Lib.hid hst
      clear hst
      by_cases hlt : k < len
      case neg =>
        obtain rfl : k = len := by omega
        go_wp2_with fail
        go_meet
        exact HST.out
      obtain ⟨gb, off, rfl, hgb, hact⟩ := HACT.out (by omega)
      obtain ⟨kd, c, hcb, k0, k1⟩ := hact k hlt
      obtain ⟨P, rfl, hPr, hPa, hPb, hb⟩ := HST.out
      have e0 := (hb.cell (p := ⟨gb, off + k * 2, none⟩) hgb).trans k0
      have e1 := (hb.cell (p := ⟨gb, off + k * 2 + 1, none⟩) hgb).trans k1
      have hgr := Nat.lt_of_lt_of_le hgb hb.size
      have hkl : (k : Int) ≤ 9223372036854775807 := by omega
      have HCB := Lib.hid hcb
      have HP := Lib.hid hPr
      have HPA := Lib.hid hPa
      have HPB := Lib.hid hPb
      have HB := Lib.hid hb
      clear hb k0 k1 hact HACT hcb hPr hPa hPb
      by_cases h30 : k = 30
      · subst h30
        have hal := al wr (.cells #[.int .i64 kd, .int .i64 c] 39)
        have HE : Hid (Head w g m (.int .i64 P.c) (wr.alloc (.cells #[.int .i64 kd, .int .i64 c] 39))) := Lib.hid ⟨P, rfl, HP.out, HPA.out, HPB.out.below hal, below_trans HB.out hal⟩
        clear hal
        go_wp2_with fail
        go_meet
        exact HE.out
      have hk31 : k < 30 := by omega
      have hk32 : (k : Int) < 30 := by omega
      clear HST h30
      obtain ⟨d, hd4, hd, hm1, hm2⟩ := kind_mod kd
      obtain ⟨t, ht⟩ : ∃ t, Int.tmod kd 4 = t := ⟨_, rfl⟩
      rw [ht] at hd hm1 hm2
      have hx1 := (Box.made wr [.int .i64 kd, .int .i64 c] 39).below (al _ (.cells #[.int .i64 0, .int .i64 0, .int .i64 0, .int .i64 0] 23))
      have hx2 := Box.made (wr.alloc (.cells #[.int .i64 kd, .int .i64 c] 39)) [.int .i64 0, .int .i64 0, .int .i64 0, .int .i64 0] 23
      have hbb := two_al wr (.cells #[.int .i64 kd, .int .i64 c] 39) (.cells #[.int .i64 0, .int .i64 0, .int .i64 0, .int .i64 0] 23)
      rw [World.size_alloc] at hx2
      go_upto_region 12 with (fail)
      generalize hW4 : (wr.alloc (.cells #[.int .i64 kd, .int .i64 c] 39)).alloc (.cells #[.int .i64 0, .int .i64 0, .int .i64 0, .int .i64 0] 23) = W4 at hx1 hx2 hbb ⊢
      have HXA := Lib.hid hx1
      have HXX := Lib.hid hx2
      have HBE := Lib.hid hbb
      have HXP := Lib.hid (HPB.out.below hbb)
      have hgw := HPB.out.1
      have HGX : Hid (wr.heap.size + 1 ≠ wr.heap.size ∧ wr.heap.size ≤ wr.heap.size + 1 ∧ wr.heap.size ≠ g ∧ wr.heap.size + 1 ≠ g) := Lib.hid ⟨by omega, by omega, by omega, by omega⟩
      clear hW4 hx1 hx2 hbb e0 e1 hgw
      have c0 := HXA.out.c2.1
      have cs := HXA.out.1
      go_upto_block 2 with (fail)
      clear c0 cs
      go_cut [9, 13] from 41 to 84 (fun s f wx => Done P d (wr.heap.size + 1) wr.heap.size kd c wr s f wx)
      case first =>
        obtain ⟨p0, p1, p2, p3⟩ := HXP.out.c4
        have pz := HXP.out.1
        obtain ⟨c0, c1⟩ := HXA.out.c2
        have cz := HXA.out.1
        have hdi : (d : Int) = 0 ∨ (d : Int) = 1 ∨ (d : Int) = 2 ∨ (d : Int) = 3 := by omega
        have HD1 : Hid ((d : Int) = 1 ↔ (d : Int) = 1) := Lib.hid Iff.rfl
        generalize (d : Int) = dI at *
        clear hd4 hd hm1 hm2 ht hlc hcap
        rcases hdi with rfl | rfl | rfl | rfl
        · have hC := Lapse_any P c
          obtain ⟨z, hze⟩ : ∃ z, lapE P = z := ⟨_, rfl⟩
          have HK : Hid (z = 0 → Kept P (lapO P c) 0 false) := Lib.hid (fun h => (lap_keeps (hze.trans h)).2)
          rw [hze] at hC
          generalize lapO P c = X at hC HK
          generalize lapB P c = lb at hC
          have HC := Lib.hid hC
          unfold pv at HC
          clear hC hze
          go_wp2_with fail
          (with_reducible refine (HC.out _).mono ?_)
          rintro e w5 ⟨rfl, hz⟩
          obtain ⟨y0, y1, y2, y3⟩ := (HXX.out.below hz).c4
          obtain ⟨f0, f1, f2, f3⟩ := (HXX.out.below hz).z4
          have yz := (HXX.out.below hz).1
          have HX5 := Lib.hid (box_put4 (HXX.out.below hz) X)
          have HA5 := Lib.hid (box_put_other (HXA.out.below hz) HGX.out.1 X)
          have HB5 := Lib.hid (put4_below X (below_trans HBE.out hz) HGX.out.2.1)
          unfold put4 at HX5 HA5 HB5
          clear p0 p1 p2 p3 pz c0 c1 cz hz
          unfold pv
          go_wp2_with fail
          go_meet
          by_cases hz0 : z = 0
          · subst hz0
            have := done_yes (d := 0) HX5.out HA5.out HB5.out (HK.out rfl) (fun _ => rfl)
            rwa [Int.add_zero] at this
          · exact done_no HX5.out HA5.out HB5.out hz0
        · have hC := Renew_any P c
          obtain ⟨z, hze⟩ : ∃ z, renE P c = z := ⟨_, rfl⟩
          have HK : Hid (z = 0 → Kept P (renO P c) 0 true) := Lib.hid (fun h => (ren_keeps (hze.trans h)).2)
          rw [hze] at hC
          generalize renO P c = X at hC HK
          have HC := Lib.hid hC
          unfold pv at HC
          clear hC hze
          go_wp2_with fail
          (with_reducible refine (HC.out _).mono ?_)
          rintro e w5 ⟨rfl, hz⟩
          obtain ⟨y0, y1, y2, y3⟩ := (HXX.out.below hz).c4
          obtain ⟨f0, f1, f2, f3⟩ := (HXX.out.below hz).z4
          have yz := (HXX.out.below hz).1
          have HX5 := Lib.hid (box_put4 (HXX.out.below hz) X)
          have HA5 := Lib.hid (box_put_other (HXA.out.below hz) HGX.out.1 X)
          have HB5 := Lib.hid (put4_below X (below_trans HBE.out hz) HGX.out.2.1)
          unfold put4 at HX5 HA5 HB5
          clear p0 p1 p2 p3 pz c0 c1 cz hz
          unfold pv
          go_wp2_with fail
          go_meet
          by_cases hz0 : z = 0
          · subst hz0
            have := done_yes (d := 1) HX5.out HA5.out HB5.out (HK.out rfl) (fun h => absurd rfl h)
            rwa [Int.add_zero] at this
          · exact done_no HX5.out HA5.out HB5.out hz0
        · have hC := Catch_any P c HCB.out
          obtain ⟨z, hze⟩ : ∃ z, catE P c = z := ⟨_, rfl⟩
          have HK : Hid (z = 0 → Kept P (catO P c) c false ∧ 0 ≤ c ∧ c ≤ P.a - P.c) := Lib.hid (fun h => by obtain ⟨_, h1, h2, _, _, h3⟩ := cat_keeps (hze.trans h); exact ⟨h3, h1, h2⟩)
          rw [hze] at hC
          generalize catO P c = X at hC HK
          have HC := Lib.hid hC
          unfold pv at HC
          clear hC hze
          go_wp2_with fail
          (with_reducible refine (HC.out _).mono ?_)
          rintro e w5 ⟨rfl, hz⟩
          obtain ⟨y0, y1, y2, y3⟩ := (HXX.out.below hz).c4
          obtain ⟨f0, f1, f2, f3⟩ := (HXX.out.below hz).z4
          have yz := (HXX.out.below hz).1
          have HX5 := Lib.hid (box_put4 (HXX.out.below hz) X)
          have HA5 := Lib.hid (box_put_other (HXA.out.below hz) HGX.out.1 X)
          have HB5 := Lib.hid (put4_below X (below_trans HBE.out hz) HGX.out.2.1)
          unfold put4 at HX5 HA5 HB5
          clear p0 p1 p2 p3 pz c0 c1 cz hz
          unfold pv
          by_cases hz0 : z = 0
          · subst hz0
            obtain ⟨hkp, hc0, hc9⟩ := HK.out rfl
            have HKP := Lib.hid hkp
            obtain ⟨r1, r2, r3, r4, _⟩ := HP.out
            have hca := HPA.out
            have s1 : 0 ≤ P.c + c := by omega
            have s2 : P.c + c ≤ 10000 := by omega
            have a1 := HA5.out.c2.2
            have as' := HA5.out.1
            have HY := Lib.hid (done_yes (d := 2) HX5.out HA5.out HB5.out HKP.out (fun _ => rfl))
            clear hkp hca
            go_wp2_with fail
            go_meet
            exact HY.out
          · have hz1 : (z == 0) = false := by simpa using hz0
            have HY := Lib.hid (done_no (P := P) (d := 2) HX5.out HA5.out HB5.out hz0)
            clear hz0
            go_wp2_with fail
            go_meet
            exact HY.out
        · have hC := Close_any P
          obtain ⟨z, hze⟩ : ∃ z, cloE P = z := ⟨_, rfl⟩
          have HK : Hid (z = 0 → Kept P (cloO P) 0 false) := Lib.hid (fun h => (clo_keeps (hze.trans h)).2.2.2)
          rw [hze] at hC
          generalize cloO P = X at hC HK
          have HC := Lib.hid hC
          unfold pv at HC
          clear hC hze
          go_wp2_with fail
          (with_reducible refine (HC.out _).mono ?_)
          rintro e w5 ⟨rfl, hz⟩
          obtain ⟨y0, y1, y2, y3⟩ := (HXX.out.below hz).c4
          obtain ⟨f0, f1, f2, f3⟩ := (HXX.out.below hz).z4
          have yz := (HXX.out.below hz).1
          have HX5 := Lib.hid (box_put4 (HXX.out.below hz) X)
          have HA5 := Lib.hid (box_put_other (HXA.out.below hz) HGX.out.1 X)
          have HB5 := Lib.hid (put4_below X (below_trans HBE.out hz) HGX.out.2.1)
          unfold put4 at HX5 HA5 HB5
          clear p0 p1 p2 p3 pz c0 c1 cz hz
          unfold pv
          go_wp2_with fail
          go_meet
          by_cases hz0 : z = 0
          · subst hz0
            have := done_yes (d := 3) HX5.out HA5.out HB5.out (HK.out rfl) (fun _ => rfl)
            rwa [Int.add_zero] at this
          · exact done_no HX5.out HA5.out HB5.out hz0
      case rest =>
      obtain ⟨X, z, rfl, hXb, hAb, hbw, hdo⟩ := hcut
      rename World => W6
      have HXX6 := Lib.hid hXb
      have HXA6 := Lib.hid hAb
      have HXP6 := Lib.hid (HPB.out.below hbw)
      have HB6 := Lib.hid (below_trans HB.out hbw)
      clear hXb hAb hbw HXA HXX HBE HXP HPB HB HCB
      rcases hdo with ⟨hz0, rfl⟩ | ⟨rfl, rfl, hXr, hXa, hcl, hgd⟩
      · have hz1 : (z != 0) = true := by simpa using hz0
        have HE : Hid (Head w g m (.int .i64 P.c) W6) := Lib.hid ⟨P, rfl, HP.out, HPA.out, HXP6.out, HB6.out⟩
        clear hz0
        go_wp2_with fail
        go_roundw
        case rel => exact ⟨k + 1, by omega, by omega, by go_num, HE.out⟩
        case measure => simp [intOf]; omega
      · have hRX := Right_any X
        rw [rightB_t.2 hXr] at hRX
        have hGX := Good_any X (-1)
        have hGP := Good_any P (-1)
        have hxm : (X.a != m) = false := by have := hXa.trans HPA.out; simp [this]
        have HXR := Lib.hid hXr
        have HXM := Lib.hid (hXa.trans HPA.out)
        have HRX := Lib.hid hRX
        have HCL := Lib.hid hcl
        have HGD := Lib.hid hgd
        have hmm := HM.out
        unfold pv at HRX hGX hGP
        clear hRX hXr hXa hcl hgd
        obtain ⟨x0, x1, x2, x3⟩ := HXX6.out.c4
        have xs := HXX6.out.1
        go_wp2_with fail
        (with_reducible refine (HRX.out _).mono ?_)
        rintro e w7 ⟨rfl, hz⟩
        have HXX7 := Lib.hid (HXX6.out.below hz)
        have HXA7 := Lib.hid (HXA6.out.below hz)
        have HXP7 := Lib.hid (HXP6.out.below hz)
        have HB7 := Lib.hid (below_trans HB6.out hz)
        clear hz x0 x1 x2 x3 xs HXX6 HXA6 HXP6 HB6
        obtain ⟨x0, x1, x2, x3⟩ := HXX7.out.c4
        have xs := HXX7.out.1
        obtain ⟨p0, p1, p2, p3⟩ := HXP7.out.c4
        have ps := HXP7.out.1
        by_cases h3 : P.s = 3
        · have hX := HCL.out h3
          have a1 : (P.s == 3) = true := by simpa using h3
          have hgx : goodB X (-1) = false := goodB_f.2 (fun h => by have := h.2.1; rw [hX] at this; omega)
          rw [hgx] at hGX
          have HGX' := Lib.hid hGX
          have hq := fun W => neq_yes hX W
          clear hGX hGP hgx hX h3
          go_wp2_with fail
          (with_reducible refine (HGX'.out _).mono ?_)
          rintro e w8 ⟨rfl, hz⟩
          have HXXw8 := Lib.hid (HXX7.out.below hz)
          have HXAw8 := Lib.hid (HXA7.out.below hz)
          have HXPw8 := Lib.hid (HXP7.out.below hz)
          have HBw8 := Lib.hid (below_trans HB7.out hz)
          clear hz x0 x1 x2 x3 xs p0 p1 p2 p3 ps HXX7 HXA7 HXP7 HB7
          obtain ⟨x0, x1, x2, x3⟩ := HXXw8.out.c4
          have xs := HXXw8.out.1
          obtain ⟨p0, p1, p2, p3⟩ := HXPw8.out.c4
          have ps := HXPw8.out.1
          obtain ⟨z0, z1, z2, z3⟩ := HXPw8.out.z4
          have HE : Hid (Head w g m (.int .i64 X.c) (put4 g X w8)) := Lib.hid ⟨X, rfl, HXR.out, HXM.out, box_put4 HXPw8.out X, put4_below X HBw8.out HG.out⟩
          unfold put4 at HE
          go_wp2_with fail
          go_roundw
          case rel => exact ⟨k + 1, by omega, by omega, by go_num, HE.out⟩
          case measure => simp [intOf]; omega
        have a1 : (P.s == 3) = false := by simpa using h3
        cases hgx : goodB X (-1) with
        | false =>
          rw [hgx] at hGX
          have HGX' := Lib.hid hGX
          clear hGX hGP hgx h3
          go_wp2_with fail
          (with_reducible refine (HGX'.out _).mono ?_)
          rintro e w8 ⟨rfl, hz⟩
          have HXXw8 := Lib.hid (HXX7.out.below hz)
          have HXAw8 := Lib.hid (HXA7.out.below hz)
          have HXPw8 := Lib.hid (HXP7.out.below hz)
          have HBw8 := Lib.hid (below_trans HB7.out hz)
          clear hz x0 x1 x2 x3 xs p0 p1 p2 p3 ps HXX7 HXA7 HXP7 HB7
          obtain ⟨x0, x1, x2, x3⟩ := HXXw8.out.c4
          have xs := HXXw8.out.1
          obtain ⟨p0, p1, p2, p3⟩ := HXPw8.out.c4
          have ps := HXPw8.out.1
          obtain ⟨z0, z1, z2, z3⟩ := HXPw8.out.z4
          have HE : Hid (Head w g m (.int .i64 X.c) (put4 g X w8)) := Lib.hid ⟨X, rfl, HXR.out, HXM.out, box_put4 HXPw8.out X, put4_below X HBw8.out HG.out⟩
          unfold put4 at HE
          go_wp2_with fail
          go_roundw
          case rel => exact ⟨k + 1, by omega, by omega, by go_num, HE.out⟩
          case measure => simp [intOf]; omega
        | true =>
          cases hgp : goodB P (-1) with
          | true =>
            rw [hgx] at hGX
            rw [hgp] at hGP
            have HGX' := Lib.hid hGX
            have HGP' := Lib.hid hGP
            clear hGX hGP hgx hgp h3
            go_wp2_with fail
            (with_reducible refine (HGX'.out _).mono ?_)
            rintro e w8 ⟨rfl, hz⟩
            have HXXw8 := Lib.hid (HXX7.out.below hz)
            have HXAw8 := Lib.hid (HXA7.out.below hz)
            have HXPw8 := Lib.hid (HXP7.out.below hz)
            have HBw8 := Lib.hid (below_trans HB7.out hz)
            clear hz x0 x1 x2 x3 xs p0 p1 p2 p3 ps HXX7 HXA7 HXP7 HB7
            obtain ⟨x0, x1, x2, x3⟩ := HXXw8.out.c4
            have xs := HXXw8.out.1
            obtain ⟨p0, p1, p2, p3⟩ := HXPw8.out.c4
            have ps := HXPw8.out.1
            go_wp2_with fail
            (with_reducible refine (HGP'.out _).mono ?_)
            rintro e w9 ⟨rfl, hz⟩
            have HXXw9 := Lib.hid (HXXw8.out.below hz)
            have HXAw9 := Lib.hid (HXAw8.out.below hz)
            have HXPw9 := Lib.hid (HXPw8.out.below hz)
            have HBw9 := Lib.hid (below_trans HBw8.out hz)
            clear hz x0 x1 x2 x3 xs p0 p1 p2 p3 ps HXXw8 HXAw8 HXPw8 HBw8
            obtain ⟨x0, x1, x2, x3⟩ := HXXw9.out.c4
            have xs := HXXw9.out.1
            obtain ⟨p0, p1, p2, p3⟩ := HXPw9.out.c4
            have ps := HXPw9.out.1
            obtain ⟨z0, z1, z2, z3⟩ := HXPw9.out.z4
            have HE : Hid (Head w g m (.int .i64 X.c) (put4 g X w9)) := Lib.hid ⟨X, rfl, HXR.out, HXM.out, box_put4 HXPw9.out X, put4_below X HBw9.out HG.out⟩
            unfold put4 at HE
            go_wp2_with fail
            go_roundw
            case rel => exact ⟨k + 1, by omega, by omega, by go_num, HE.out⟩
            case measure => simp [intOf]; omega
          | false =>
            have hd1 : (d : Int) = 1 := by
              rcases Decidable.em ((d : Int) = 1) with h | h
              · exact h
              · exact absurd (goodB_t.2 (HGD.out h (goodB_t.1 hgx))) (by rw [hgp]; simp)
            rw [hd1] at hd
            rw [hgx] at hGX
            rw [hgp] at hGP
            have HGX' := Lib.hid hGX
            have HGP' := Lib.hid hGP
            clear hGX hGP hgx hgp h3 hd1
            go_wp2_with fail
            (with_reducible refine (HGX'.out _).mono ?_)
            rintro e w8 ⟨rfl, hz⟩
            have HXXw8 := Lib.hid (HXX7.out.below hz)
            have HXAw8 := Lib.hid (HXA7.out.below hz)
            have HXPw8 := Lib.hid (HXP7.out.below hz)
            have HBw8 := Lib.hid (below_trans HB7.out hz)
            clear hz x0 x1 x2 x3 xs p0 p1 p2 p3 ps HXX7 HXA7 HXP7 HB7
            obtain ⟨x0, x1, x2, x3⟩ := HXXw8.out.c4
            have xs := HXXw8.out.1
            obtain ⟨p0, p1, p2, p3⟩ := HXPw8.out.c4
            have ps := HXPw8.out.1
            go_wp2_with fail
            (with_reducible refine (HGP'.out _).mono ?_)
            rintro e w9 ⟨rfl, hz⟩
            have HXXw9 := Lib.hid (HXXw8.out.below hz)
            have HXAw9 := Lib.hid (HXAw8.out.below hz)
            have HXPw9 := Lib.hid (HXPw8.out.below hz)
            have HBw9 := Lib.hid (below_trans HBw8.out hz)
            clear hz x0 x1 x2 x3 xs p0 p1 p2 p3 ps HXXw8 HXAw8 HXPw8 HBw8
            obtain ⟨x0, x1, x2, x3⟩ := HXXw9.out.c4
            have xs := HXXw9.out.1
            obtain ⟨p0, p1, p2, p3⟩ := HXPw9.out.c4
            have ps := HXPw9.out.1
            have k0 := HXAw9.out.c2.1
            have ks := HXAw9.out.1
            obtain ⟨z0, z1, z2, z3⟩ := HXPw9.out.z4
            have HE : Hid (Head w g m (.int .i64 X.c) (put4 g X w9)) := Lib.hid ⟨X, rfl, HXR.out, HXM.out, box_put4 HXPw9.out X, put4_below X HBw9.out HG.out⟩
            unfold put4 at HE
            go_wp2_with fail
            go_roundw
            case rel => exact ⟨k + 1, by omega, by omega, by go_num, HE.out⟩
            case measure => simp [intOf]; omega
  case rest =>
  rename World => W8
  obtain ⟨P, rfl, hPr, hPa, hPb, hb⟩ := hcut
  obtain ⟨r1, r2, r3, r4, _⟩ := hPr
  have HXP := Lib.hid hPb
  have HB := Lib.hid hb
  have hmm := HM.out
  have hle : P.c ≤ m := by omega
  clear hPb hb HST HACT hPa
  go_wp2_with fail
  (with_reducible refine (HAL.out _).mono ?_)
  rintro e w9 ⟨rfl, hz⟩
  obtain ⟨p0, p1, p2, p3⟩ := (HXP.out.below hz).c4
  have ps := (HXP.out.below hz).1
  have HE := Lib.hid (below_trans HB.out hz)
  clear hz
  go_wp2_with fail
  go_ret
  exact ⟨rfl, HE.out⟩

set_option maxRecDepth 100000 in
set_option maxHeartbeats 4000000 in
theorem lifted (os : Os) (started : os.Started) (H : Type) (enc : TypeId × Value → H) :
    ReturnsInHanded {} Try.checked os 5 .any (Rows.payKeepsSpec.pre6 enc Try.prog Try.f5 Rows.payKeepsRow.domain false) (Rows.payKeepsSpec.post enc Try.prog Try.f5 false true false false) := by
  refine returnsInHanded_of_change (C := Try.checked) own started (by kernel_rfl) Try.func5
    (ChangeSpec.witness6 (enc := enc) (C := Try.checked) false ⟨#[], #[.int .i64 0, .int .i64 0, .slice none 0 0], []⟩ 8 (by kernel_rfl) (by kernel_rfl) (by kernel_rfl) (by kernel_rfl)) ?_
  intro W base args ds gs before hval0 hW hcnd _
  have hval : ∀ (j : Nat) t v, Try.f5.params[j]? = some t → args[j]? = some v → Value.okWide Try.prog W .any base t v := hval0
  have hW' := hW
  obtain ⟨p, q, hA0, hV, rfl, hfz, hnd⟩ := hW
  have hA : DataW.TrodAll enc Try.prog W 0 (fun _ => true) true Try.f5.params.toList args.toList ds p := hA0
  rw [Try.params5] at hA hval
  obtain ⟨v0, vs0, d0, ds0, p0, q0, hargs, rfl, rfl, h0, r0⟩ := trodAll_cons hA
  obtain ⟨v1, vs1, d1, ds1, p1, q1, rfl, rfl, rfl, h1, r1⟩ := trodAll_cons r0
  obtain ⟨v2, vs2, d2, ds2, p2, q2, rfl, rfl, rfl, h2, r2⟩ := trodAll_cons r1
  obtain ⟨rfl, rfl, rfl⟩ := trodAll_nil r2
  obtain rfl : args = #[v0, v1, v2] := by cases args; simp_all
  obtain ⟨rfl, rfl⟩ := trodVars_none hV
  obtain ⟨a0, rfl, rfl, rfl, w0⟩ := open_int Try.underlying3 (hval 0 3 v0 rfl rfl) h0
  have hb0 : -9223372036854775808 ≤ a0 ∧ a0 ≤ 9223372036854775807 := by
    have := w0
    simp [Lit.wf, IntKind.min, IntKind.max, IntKind.bits, IntKind.signed] at this
    omega
  obtain ⟨a1, rfl, rfl, rfl, w1⟩ := open_int Try.underlying3 (hval 1 3 v1 rfl rfl) h1
  have hb1 : -9223372036854775808 ≤ a1 ∧ a1 ≤ 9223372036854775807 := by
    have := w1
    simp [Lit.wf, IntKind.min, IntKind.max, IntKind.bits, IntKind.signed] at this
    omega
  have k2 := h2
  have lt2 : ∀ x ∈ p2, x.block < W.heap.size := by obtain ⟨m, hm⟩ := k2; exact DataW.trod_lt m _ _ _ hm
  obtain ⟨fuel2, hf2⟩ := h2
  obtain ⟨aa2, ll2, cc2, rfl⟩ := okWide_slice Try.underlying37 (hval 2 37 v2 rfl rfl)
  have w2 := argP_of (v := .slice aa2 ll2 cc2) hf2
  clear hA0 hval0
  refine (walk0 a0 hb0.1 hb0.2 a1 hb1.1 hb1.2 (.slice aa2 ll2 cc2) W w2).mono fun e W' ⟨he, bel⟩ => ?_
  subst he
  exact ⟨_, rfl, _, _, _, [], _, [], hW', trodAll_mk1 (shut_bool Try.underlying4 _), (trodAll_cons_mk (shut_int Try.underlying3 w0) (trodAll_cons_mk (shut_int Try.underlying3 w1) (trodAll_cons_mk (Below.trod laidOut (by kernel_rfl) (of_decide_eq_true (by kernel_rfl)) k2 bel lt2) trodAll_mk0))), rfl, bel.frame _, fun h => by cases h⟩

theorem over : Rows.payKeepsRow.holds Try.pinned (OpenSpec.ofChange Rows.payKeepsSpec) :=
  OpenClaim.holds_of_wide 5 Try.f5 rfl rfl rfl rfl rfl rfl rfl ⟨rfl, rfl, rfl, rfl, rfl⟩ rfl rfl rfl rfl rfl (by kernel_rfl) Try.func5 (by kernel_rfl)
    (of_decide_eq_true (by kernel_rfl)) (by unfold Func.isWrapper; first | (rw [if_pos (by decide +kernel)]; kernel_rfl) | (rw [if_neg (by decide +kernel)]; exact ⟨rfl, rfl⟩))
    (fun os started H enc _ => lifted os started H enc)

theorem proved : Rows.PayKeepsSaid := over
#print axioms proved
end Go.Proofs.Ytfegnaafodcnlaa.payKeeps
