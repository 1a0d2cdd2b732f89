/-
  Proved: for any acts the law AskOnce returns true: it is asked once, and answered once; another thing may stand only behind a yes that came in time, until the time that was told, and never behind it. No condition.
-/
import Derived.Test.YtbdgcfcipjehmaaRows
import Derived.Test.YtbdgcfcipjehmaaAAct
import Derived.Deep.CutRange
import Derived.Deep.CutBlock
namespace Go.Proofs.Ytbdgcfcipjehmaa.askOnce
open Go.ChangeShapes Go.WideShapes Go.ChangeAt Go.RowKit Go.Lib Go.Proofs.Ytbdgcfcipjehmaa.Ask
set_option linter.unusedVariables false

theorem own : ownKnob Try.prog.godebug = none := by kernel_rfl
theorem laidOut : laidOutB Try.prog = true := by kernel_rfl

/-- How it stands: asking in its block, and the counters beside it. -/
def Head (w : World) (g : Nat) (b : Int) (n c d l : Value) (wr : World) : Prop := ∃ (a : As) (N C D L : Int), n = .int .i64 N ∧ c = .int .i64 C ∧ d = .int .i64 D ∧ l = .int .i64 L ∧ Once a N C D L ∧ N ≤ b ∧ Box g [.int .i64 a.s, .int .i64 a.u] wr ∧ Below w.heap.size w wr
/-- Behind an act, at that time. -/
def Done (w : World) (g : Nat) (N : Int) (c d l : Value) (wr : World) : Prop := ∃ (a : As) (C D L : Int), c = .int .i64 C ∧ d = .int .i64 D ∧ l = .int .i64 L ∧ Once a N C D L ∧ Box g [.int .i64 a.s, .int .i64 a.u] wr ∧ Below w.heap.size w wr

set_option maxRecDepth 100000 in
set_option maxHeartbeats 8000000 in
theorem walk0 (v : Value) (w : World) (hA : ArgA w v) :
    Calls Try.prog 4 #[v] w (BoolB true w) := by
  obtain ⟨aa, len, cap, rfl, hlc, hcap, hacts⟩ := hA
  have HACT := Lib.hid hacts
  have HAL := Lib.hid alive_any
  clear hacts
  have hx := Box.made w [.int .i64 0, .int .i64 0] 23
  have hz := al w (.cells #[.int .i64 0, .int .i64 0] 23)
  go_enter Try.func4, Try.ntmps4
  go_upto_region 2 with (fail)
  generalize hw : w.alloc (.cells #[.int .i64 0, .int .i64 0] 23) = w1 at hx hz ⊢
  have HST : Hid (Head w w.heap.size 0 (.int .i64 0) (.int .i64 0) (.int .i64 0) (.int .i64 0) w1) := Lib.hid ⟨noA, 0, 0, 0, 0, rfl, rfl, rfl, rfl, once_begin, by omega, hx, hz⟩
  clear hw hx hz
  have HG : Hid (w.heap.size ≤ w.heap.size) := Lib.hid (Nat.le_refl _)
  obtain ⟨g, hg⟩ : ∃ g, w.heap.size = g := ⟨_, rfl⟩
  have HST : Hid (Head w g 0 (.int .i64 0) (.int .i64 0) (.int .i64 0) (.int .i64 0) w1) := Lib.hid (by rw [← hg]; exact HST.out)
  replace HG : Hid (w.heap.size ≤ g) := Lib.hid (by omega)
  rw [hg]
  clear hg
  rename Hid (Head w w.heap.size 0 (.int .i64 0) (.int .i64 0) (.int .i64 0) (.int .i64 0) w1) => HOLD
  clear HOLD
  go_upto_block 0 with (fail)
  go_cut [] from 20 to 126 (fun wx => Below w.heap.size w wx)
  case first =>
    go_wp2_with fail
    go_loopw [4, 5, 6, 7, 8, 9, 10, 11, 12, 13, 14, 15, 16, 19] (fun n c d l _ _ _ _ _ _ _ _ _ i wr => ∃ k : Nat, k ≤ len ∧ k ≤ 20 ∧ i = .int .i64 k ∧ Head w g (19 * k) n c d l wr) (fun _ _ _ _ _ _ _ _ _ _ _ _ _ i _ => len - (intOf i).toNat)
    case atStart => exact ⟨0, Nat.zero_le _, Nat.zero_le _, rfl, HST.out⟩
    case round =>
      clear HST
      obtain ⟨k, hk, hk20, rfl, a, N, C, D, L, rfl, rfl, rfl, rfl, ho, hN, hbx, hb⟩ := hrel
      have HO := Lib.hid ho
      have HX := Lib.hid hbx
      have HB := Lib.hid hb
      have hN0 := ho.1
      clear ho hbx hb
      by_cases hlt : k < len
      case neg =>
        obtain rfl : k = len := by omega
        go_wp2_with fail
        go_meet
        exact HB.out
      obtain ⟨gb, off, rfl, hgb, hact⟩ := HACT.out (by omega)
      obtain ⟨kd, by', ys, k0, k1, k2⟩ := hact k hlt
      have hb := HB.out
      have e0 := (hb.cell (p := ⟨gb, off + k * 3, none⟩) hgb).trans k0
      have e1 := (hb.cell (p := ⟨gb, off + k * 3 + 1, none⟩) hgb).trans k1
      have e2 := (hb.cell (p := ⟨gb, off + k * 3 + 2, none⟩) hgb).trans k2
      have hgr := Nat.lt_of_lt_of_le hgb hb.size
      have hkl : (k : Int) ≤ 9223372036854775807 := by omega
      clear hb k0 k1 k2 hact HACT
      by_cases h20 : k = 20
      · subst h20
        have HE := Lib.hid (below_trans HB.out (al wr (.cells #[.int .i64 kd, .int .i64 by', .bool ys] 36)))
        go_wp2_with fail
        go_meet
        exact HE.out
      have hk21 : k < 20 := by omega
      have hk22 : (k : Int) < 20 := by omega
      clear h20
      obtain ⟨d, hd3, hd, hm1, hm2⟩ := mod_any 3 (by omega) (by omega) kd
      obtain ⟨m, hm20, hm, hn1, hn2⟩ := mod_any 20 (by omega) (by omega) by'
      rw [show ((3 : Nat) : Int) = 3 from rfl] at hd hm1 hm2
      rw [show ((20 : Nat) : Int) = 20 from rfl] at hm hn1 hn2
      obtain ⟨t, ht⟩ : ∃ t, Int.tmod kd 3 = t := ⟨_, rfl⟩
      obtain ⟨u, hu⟩ : ∃ u, Int.tmod by' 20 = u := ⟨_, rfl⟩
      rw [ht] at hd hm1 hm2
      rw [hu] at hm hn1 hn2
      have hx1 := Box.made wr [.int .i64 kd, .int .i64 by', .bool ys] 36
      have hbb := al wr (.cells #[.int .i64 kd, .int .i64 by', .bool ys] 36)
      go_upto_region 7 with (fail)
      generalize hW4 : wr.alloc (.cells #[.int .i64 kd, .int .i64 by', .bool ys] 36) = W4 at hx1 hbb ⊢
      have HXA := Lib.hid hx1
      have HXX := Lib.hid (HX.out.below hbb)
      have HBB := Lib.hid (below_trans HB.out hbb)
      have HGA : Hid (g < wr.heap.size) := Lib.hid HX.out.1
      clear hW4 hx1 hbb e0 e1 e2 HX HB
      obtain ⟨c0, c1, c2⟩ := HXA.out.c3
      have cs := HXA.out.1
      have hmi : (m : Int) ≤ 19 := by omega
      have hmj : 0 ≤ (m : Int) := by omega
      generalize (m : Int) = M at *
      have s1 : 0 ≤ N + M := by omega
      have s2 : N + M ≤ 380 := by omega
      have s3 : N + M ≤ 19 * ((k : Int) + 1) := by omega
      have HS3 := Lib.hid s3
      have HO2 := Lib.hid (HO.out.later hmj (by omega))
      clear s3 HO
      go_upto_block 2 with (fail)
      clear c0 c1 cs hm hn1 hn2 hu hN hN0 hmi hmj
      generalize N + M = T at *
      clear c2
      go_cut [5, 6, 7] from 38 to 87 (fun c d l wx => Done w g T c d l wx)
      case first =>
        have hdi : (d : Int) = 0 ∨ (d : Int) = 1 ∨ (d : Int) = 2 := by omega
        generalize (d : Int) = dI at *
        clear hd3 hd hm1 hm2 ht hlc hcap
        obtain ⟨p0, p1⟩ := HXX.out.c2
        have ps := HXX.out.1
        rcases hdi with rfl | rfl | rfl
        · have hC := Begin_any a (T + 10)
          have s4 : T + 10 ≤ 390 := by omega
          have s5 : 0 ≤ T + 10 := by omega
          have HK : Hid (begE a (T + 10) = 0 → C = 0 ∧ D = 0 ∧ Once (begO a (T + 10)) T (C + 1) D (T + 10)) := Lib.hid (fun h => HO2.out.begun h)
          generalize begO a (T + 10) = X at hC HK
          generalize begE a (T + 10) = z at hC HK
          unfold av at hC
          have HC := Lib.hid hC
          clear hC
          go_wp2_with fail
          (with_reducible refine (HC.out _).mono ?_)
          rintro e v1 ⟨rfl, hz⟩
          have hx := Box.made v1 [.int .i64 X.s, .int .i64 X.u] 23
          have hz2 := below_trans hz (al v1 (.cells #[.int .i64 X.s, .int .i64 X.u] 23))
          obtain ⟨W5, hw⟩ : ∃ W, v1.alloc (.cells #[.int .i64 X.s, .int .i64 X.u] 23) = W := ⟨_, rfl⟩
          have HXX5 := Lib.hid (hw ▸ HXX.out.below hz2)
          have HBB5 := Lib.hid (hw ▸ below_trans HBB.out hz2)
          have HXN : Hid (Box v1.heap.size [.int .i64 X.s, .int .i64 X.u] W5) := Lib.hid (hw ▸ hx)
          have HGV : Hid (v1.heap.size ≠ g) := Lib.hid (by have := HXX.out.below hz; have := this.1; omega)
          clear hz hx hz2 p0 p1 ps HXX HBB
          unfold av
          go_upto_region 15 with (fail)
          clear hw
          by_cases hz0 : z = 0
          · subst hz0
            obtain ⟨rfl, rfl, hon⟩ := HK.out rfl
            have HY : Hid (Done w g T (.int .i64 1) (.int .i64 0) (.int .i64 (T + 10)) (put2 g X W5)) := Lib.hid ⟨X, 1, 0, T + 10, rfl, rfl, rfl, hon, box_put2 HXX5.out X, put2_below X HBB5.out HG.out⟩
            unfold put2 at HY
            obtain ⟨n0, n1⟩ := HXN.out.c2
            have ns := HXN.out.1
            obtain ⟨p0, p1⟩ := HXX5.out.c2
            obtain ⟨q0, q1⟩ := HXX5.out.z2
            have ps := HXX5.out.1
            clear hon
            go_wp2_with fail
            go_meet
            exact HY.out
          · have hz1 : (z == 0) = false := by simpa using hz0
            have HY : Hid (Done w g T (.int .i64 C) (.int .i64 D) (.int .i64 L) W5) := Lib.hid ⟨a, C, D, L, rfl, rfl, rfl, HO2.out, HXX5.out, HBB5.out⟩
            clear hz0
            go_wp2_with fail
            go_meet
            exact HY.out
        · have hC := Answer_any a ys T
          have HK : Hid (ansE a T = 0 → C = 1 ∧ D = 0 ∧ T < L ∧ Once (ansO a ys T) T C (if ys then D + 1 else D) L) := Lib.hid (fun h => HO2.out.answered ys h)
          generalize ansO a ys T = X at hC HK
          generalize ansE a T = z at hC HK
          unfold av at hC
          have HC := Lib.hid hC
          clear hC
          obtain ⟨c0, c1, c2⟩ := HXA.out.c3
          have cs := HXA.out.1
          go_wp2_with fail
          (with_reducible refine (HC.out _).mono ?_)
          rintro e v1 ⟨rfl, hz⟩
          have hx := Box.made v1 [.int .i64 X.s, .int .i64 X.u] 23
          have hz2 := below_trans hz (al v1 (.cells #[.int .i64 X.s, .int .i64 X.u] 23))
          obtain ⟨W5, hw⟩ : ∃ W, v1.alloc (.cells #[.int .i64 X.s, .int .i64 X.u] 23) = W := ⟨_, rfl⟩
          have HXX5 := Lib.hid (hw ▸ HXX.out.below hz2)
          have HXA5 := Lib.hid (hw ▸ HXA.out.below hz2)
          have HBB5 := Lib.hid (hw ▸ below_trans HBB.out hz2)
          have HXN : Hid (Box v1.heap.size [.int .i64 X.s, .int .i64 X.u] W5) := Lib.hid (hw ▸ hx)
          have HGV : Hid (v1.heap.size ≠ g) := Lib.hid (by have := HXX.out.below hz; have := this.1; omega)
          clear hz hx hz2 p0 p1 ps HXX HBB c0 c1 c2 cs HXA
          unfold av
          go_upto_region 20 with (fail)
          clear hw
          by_cases hz0 : z = 0
          · subst hz0
            obtain ⟨rfl, rfl, htl, hon⟩ := HK.out rfl
            have HY : Hid (Done w g T (.int .i64 1) (.int .i64 (if ys then 1 else 0)) (.int .i64 L) (put2 g X W5)) := Lib.hid ⟨X, 1, if ys then 1 else 0, L, rfl, rfl, rfl, by cases ys <;> exact hon, box_put2 HXX5.out X, put2_below X HBB5.out HG.out⟩
            unfold put2 at HY
            have hge : ¬ T ≥ L := by omega
            obtain ⟨n0, n1⟩ := HXN.out.c2
            have ns := HXN.out.1
            obtain ⟨p0, p1⟩ := HXX5.out.c2
            obtain ⟨q0, q1⟩ := HXX5.out.z2
            have ps := HXX5.out.1
            have hga := HGA.out
            have hne1 : wr.heap.size ≠ g := by omega
            have hne2 : g ≠ wr.heap.size := by omega
            obtain ⟨c0, c1, c2⟩ := HXA5.out.c3
            have cs := HXA5.out.1
            clear hon htl
            cases ys with
            | true =>
              go_wp2_with fail
              go_meet
              exact HY.out
            | false =>
              go_wp2_with fail
              go_meet
              exact HY.out
          · have hz1 : (z == 0) = false := by simpa using hz0
            have HY : Hid (Done w g T (.int .i64 C) (.int .i64 D) (.int .i64 L) W5) := Lib.hid ⟨a, C, D, L, rfl, rfl, rfl, HO2.out, HXX5.out, HBB5.out⟩
            clear hz0
            go_wp2_with fail
            go_meet
            exact HY.out
        · have hC := Lapse_any a T
          obtain ⟨hl0, hon⟩ := HO2.out.lapsed
          rw [hl0] at hC
          have HK := Lib.hid hon
          clear hon hl0
          generalize lapO a T = X at hC HK
          generalize lapB a T = lb at hC
          unfold av at hC
          have HC := Lib.hid hC
          clear hC
          go_wp2_with fail
          (with_reducible refine (HC.out _).mono ?_)
          rintro e v1 ⟨rfl, hz⟩
          have hx := Box.made v1 [.int .i64 X.s, .int .i64 X.u] 23
          have hz2 := below_trans hz (al v1 (.cells #[.int .i64 X.s, .int .i64 X.u] 23))
          obtain ⟨W5, hw⟩ : ∃ W, v1.alloc (.cells #[.int .i64 X.s, .int .i64 X.u] 23) = W := ⟨_, rfl⟩
          have HXX5 := Lib.hid (hw ▸ HXX.out.below hz2)
          have HBB5 := Lib.hid (hw ▸ below_trans HBB.out hz2)
          have HXN : Hid (Box v1.heap.size [.int .i64 X.s, .int .i64 X.u] W5) := Lib.hid (hw ▸ hx)
          have HGV : Hid (v1.heap.size ≠ g) := Lib.hid (by have := HXX.out.below hz; have := this.1; omega)
          clear hz hx hz2 p0 p1 ps HXX HBB
          unfold av
          go_upto_region 10 with (fail)
          clear hw
          have HY : Hid (Done w g T (.int .i64 C) (.int .i64 D) (.int .i64 L) (put2 g X W5)) := Lib.hid ⟨X, C, D, L, rfl, rfl, rfl, HK.out, box_put2 HXX5.out X, put2_below X HBB5.out HG.out⟩
          unfold put2 at HY
          obtain ⟨n0, n1⟩ := HXN.out.c2
          have ns := HXN.out.1
          obtain ⟨p0, p1⟩ := HXX5.out.c2
          obtain ⟨q0, q1⟩ := HXX5.out.z2
          have ps := HXX5.out.1
          go_wp2_with fail
          go_meet
          exact HY.out
      case rest =>
      obtain ⟨b, C2, D2, L2, rfl, rfl, rfl, hon, hbx, hbw⟩ := hcut
      rename World => W6
      obtain ⟨q1, q2, q3, q4⟩ := hon.asks
      have hR := Right_any b
      rw [rightB_t.2 hon.right] at hR
      have hM := May_any b T
      generalize mayB b T = mb at q3 q4 hM
      unfold av at hR hM
      have HR := Lib.hid hR
      have HM := Lib.hid hM
      have HON := Lib.hid hon
      have HXX6 := Lib.hid hbx
      have HBB6 := Lib.hid hbw
      have HQ3 := Lib.hid q3
      have HQ4 := Lib.hid q4
      have hc1 : ¬ C2 > 1 := by omega
      have hd1 : ¬ D2 > 1 := by omega
      clear hR hM hon hbx hbw q1 q2 q3 q4 HXX HBB HXA HO2
      obtain ⟨p0, p1⟩ := HXX6.out.c2
      have ps := HXX6.out.1
      go_wp2_with fail
      (with_reducible refine (HR.out _).mono ?_)
      rintro e W7 ⟨rfl, hz⟩
      have HXX7 := Lib.hid (HXX6.out.below hz)
      have HBB7 := Lib.hid (below_trans HBB6.out hz)
      clear hz p0 p1 ps HXX6 HBB6
      obtain ⟨p0, p1⟩ := HXX7.out.c2
      have ps := HXX7.out.1
      go_wp2_with fail
      (with_reducible refine (HM.out _).mono ?_)
      rintro e W8 ⟨rfl, hz⟩
      have HXX8 := Lib.hid (HXX7.out.below hz)
      have HBB8 := Lib.hid (below_trans HBB7.out hz)
      clear hz p0 p1 ps HXX7 HBB7
      obtain ⟨p0, p1⟩ := HXX8.out.c2
      have ps := HXX8.out.1
      cases mb with
      | true =>
        obtain ⟨rfl, hlt2⟩ := HQ3.out rfl
        have hge : ¬ T ≥ L2 := by omega
        clear HQ3 HQ4
        go_wp2_with fail
        (with_reducible refine (HM.out _).mono ?_)
        rintro e W9 ⟨rfl, hz⟩
        have HE : Hid (Head w g (19 * ((k : Int) + 1)) (.int .i64 T) (.int .i64 C2) (.int .i64 1) (.int .i64 L2) W9) := Lib.hid ⟨b, T, C2, 1, L2, rfl, rfl, rfl, rfl, HON.out, HS3.out, HXX8.out.below hz, below_trans HBB8.out hz⟩
        clear hz
        go_wp2_with fail
        go_roundw
        case rel => exact ⟨k + 1, by omega, by omega, by go_num, HE.out⟩
        case measure => simp [intOf]; omega
      | false =>
        have HE : Hid (Head w g (19 * ((k : Int) + 1)) (.int .i64 T) (.int .i64 C2) (.int .i64 D2) (.int .i64 L2) W8) := Lib.hid ⟨b, T, C2, D2, L2, rfl, rfl, rfl, rfl, HON.out, HS3.out, HXX8.out, HBB8.out⟩
        by_cases hd : D2 = 1
        · subst hd
          have hlt2 : ¬ T < L2 := fun h => by have := HQ4.out rfl h; cases this
          clear HQ3 HQ4
          go_wp2_with fail
          go_roundw
          case rel => exact ⟨k + 1, by omega, by omega, by go_num, HE.out⟩
          case measure => simp [intOf]; omega
        · have hd2 : (D2 == 1) = false := by simpa using hd
          clear HQ3 HQ4 hd
          go_wp2_with fail
          go_roundw
          case rel => exact ⟨k + 1, by omega, by omega, by go_num, HE.out⟩
          case measure => simp [intOf]; omega
  case rest =>
  rename World => W8
  have HB := Lib.hid hcut
  clear hcut HST HACT
  go_wp2_with fail
  (with_reducible refine (HAL.out _).mono ?_)
  rintro e w9 ⟨rfl, hz⟩
  have HE := Lib.hid (below_trans HB.out hz)
  clear hz
  go_wp2_with fail
  go_ret
  exact ⟨rfl, HE.out⟩

set_option maxRecDepth 100000 in
set_option maxHeartbeats 4000000 in
theorem lifted (os : Os) (started : os.Started) (H : Type) (enc : TypeId × Value → H) :
    ReturnsInHanded {} Try.checked os 4 .any (Rows.askOnceSpec.pre6 enc Try.prog Try.f4 Rows.askOnceRow.domain false) (Rows.askOnceSpec.post enc Try.prog Try.f4 false true false false) := by
  refine returnsInHanded_of_change (C := Try.checked) own started (by kernel_rfl) Try.func4
    (ChangeSpec.witness6 (enc := enc) (C := Try.checked) false ⟨#[], #[.slice none 0 0], []⟩ 8 (by kernel_rfl) (by kernel_rfl) (by kernel_rfl) (by kernel_rfl)) ?_
  intro W base args ds gs before hval0 hW hcnd _
  have hval : ∀ (j : Nat) t v, Try.f4.params[j]? = some t → args[j]? = some v → Value.okWide Try.prog W .any base t v := hval0
  have hW' := hW
  obtain ⟨p, q, hA0, hV, rfl, hfz, hnd⟩ := hW
  have hA : DataW.TrodAll enc Try.prog W 0 (fun _ => true) true Try.f4.params.toList args.toList ds p := hA0
  rw [Try.params4] at hA hval
  obtain ⟨v0, vs0, d0, ds0, p0, q0, hargs, rfl, rfl, h0, r0⟩ := trodAll_cons hA
  obtain ⟨rfl, rfl, rfl⟩ := trodAll_nil r0
  obtain rfl : args = #[v0] := by cases args; simp_all
  obtain ⟨rfl, rfl⟩ := trodVars_none hV
  have k0 := h0
  have lt0 : ∀ x ∈ p0, x.block < W.heap.size := by obtain ⟨m, hm⟩ := k0; exact DataW.trod_lt m _ _ _ hm
  obtain ⟨fuel0, hf0⟩ := h0
  obtain ⟨aa0, ll0, cc0, rfl⟩ := okWide_slice Try.underlying34 (hval 0 34 v0 rfl rfl)
  have w0 := argA_of (v := .slice aa0 ll0 cc0) hf0
  clear hA0 hval0
  refine (walk0 (.slice aa0 ll0 cc0) W w0).mono fun e W' ⟨he, bel⟩ => ?_
  subst he
  exact ⟨_, rfl, _, _, _, [], _, [], hW', trodAll_mk1 (shut_bool Try.underlying4 _), (trodAll_cons_mk (Below.trod laidOut (by kernel_rfl) (of_decide_eq_true (by kernel_rfl)) k0 bel lt0) trodAll_mk0), rfl, bel.frame _, fun h => by cases h⟩

theorem over : Rows.askOnceRow.holds Try.pinned (OpenSpec.ofChange Rows.askOnceSpec) :=
  OpenClaim.holds_of_wide 4 Try.f4 rfl rfl rfl rfl rfl rfl rfl ⟨rfl, rfl, rfl, rfl, rfl⟩ rfl rfl rfl rfl rfl (by kernel_rfl) Try.func4 (by kernel_rfl)
    (of_decide_eq_true (by kernel_rfl)) (by unfold Func.isWrapper; first | (rw [if_pos (by decide +kernel)]; kernel_rfl) | (rw [if_neg (by decide +kernel)]; exact ⟨rfl, rfl⟩))
    (fun os started H enc _ => lifted os started H enc)

theorem proved : Rows.AskOnceSaid := over
#print axioms proved
end Go.Proofs.Ytbdgcfcipjehmaa.askOnce
