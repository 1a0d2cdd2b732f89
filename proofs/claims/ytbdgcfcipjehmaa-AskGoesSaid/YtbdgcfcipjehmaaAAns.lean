/-
  Contracts of package ask: Answer, Lapse.
-/
import Derived.Test.YtbdgcfcipjehmaaACalls
namespace Go.Proofs.Ytbdgcfcipjehmaa.Ask
open Go.ChangeShapes Go.WideShapes Go.ChangeAt Go.RowKit

set_option maxRecDepth 100000 in
set_option maxHeartbeats 1000000 in
theorem Answer_any (p : As) (y : Bool) (t : Int) (w : World) : Calls Try.prog 6 #[av p, .bool y, .int .i64 t] w (AskE (ansO p y t) (ansE p t) w) := by
  obtain ⟨hx1, hx2⟩ := two_boxes w [.int .i64 p.s, .int .i64 p.u] [.int .i64 0, .int .i64 0] 23 23
  have hbb := two_al w (.cells #[.int .i64 p.s, .int .i64 p.u] 23) (.cells #[.int .i64 0, .int .i64 0] 23)
  obtain ⟨W0, hW0⟩ : ∃ W, (w.alloc (.cells #[.int .i64 p.s, .int .i64 p.u] 23)).alloc (.cells #[.int .i64 0, .int .i64 0] 23) = W := ⟨_, rfl⟩
  have HX1 : Hid (Box w.heap.size [.int .i64 p.s, .int .i64 p.u] W0) := Lib.hid (hW0 ▸ hx1)
  have HX2 : Hid (Box (w.heap.size + 1) [.int .i64 0, .int .i64 0] W0) := Lib.hid (hW0 ▸ hx2)
  have HB0 : Hid (Below w.heap.size w W0) := Lib.hid (hW0 ▸ hbb)
  clear hx1 hx2 hbb
  have hR := Right_any p
  have hO := over_any p.s p.u t
  have hways := ans_ways p y t
  obtain ⟨r, hr⟩ : ∃ r, rightB p = r := ⟨_, rfl⟩
  rw [hr] at hR hways
  generalize ansO p y t = x at *
  generalize ansE p t = z at *
  unfold av at *
  generalize p.s = s at *
  generalize p.u = u at *
  have HR := Lib.hid hR
  have HO := Lib.hid hO
  have HA := Lib.hid answers_any
  clear hR hO hr
  rcases hways with ⟨rfl, rfl, rfl⟩ | ⟨rfl, hs, rfl, rfl⟩ | ⟨rfl, rfl, hu, rfl, rfl⟩ | ⟨rfl, rfl, hu, rfl, rfl⟩
  · go_enter Try.func6, Try.ntmps6
    go_upto_region 1 with (fail)
    clear hW0
    obtain ⟨k0, k1⟩ := HX1.out.c2
    have hs1 := HX1.out.1
    go_wp2_with fail
    (with_reducible refine (HR.out _).mono ?_)
    rintro e w1 ⟨rfl, hz⟩
    clear k0 k1 hs1
    replace HX1 := Lib.hid (HX1.out.below hz)
    replace HX2 := Lib.hid (HX2.out.below hz)
    replace HB0 := Lib.hid (below_trans HB0.out hz)
    clear hz
    obtain ⟨y0, y1⟩ := HX2.out.c2
    obtain ⟨z0, z1⟩ := HX2.out.z2
    have hsz := HX2.out.1
    have HE := Lib.hid (below_two (b := w.heap.size + 1) (.int .i64 0) (.int .i64 0) HB0.out (by omega))
    go_wp2_with fail
    exact bodyPost_ret (by simp [results, Try.results6, go_sem, av, noA, y0, y1]) rfl ⟨rfl, HE.out⟩
  · have hs' : (s != 1) = true := by simpa using hs
    clear hs
    go_enter Try.func6, Try.ntmps6
    go_upto_region 1 with (fail)
    clear hW0
    obtain ⟨k0, k1⟩ := HX1.out.c2
    have hs1 := HX1.out.1
    go_wp2_with fail
    (with_reducible refine (HR.out _).mono ?_)
    rintro e w1 ⟨rfl, hz⟩
    clear k0 k1 hs1
    replace HX1 := Lib.hid (HX1.out.below hz)
    replace HX2 := Lib.hid (HX2.out.below hz)
    replace HB0 := Lib.hid (below_trans HB0.out hz)
    clear hz
    obtain ⟨k0, k1⟩ := HX1.out.c2
    have hs1 := HX1.out.1
    obtain ⟨y0, y1⟩ := HX2.out.c2
    obtain ⟨z0, z1⟩ := HX2.out.z2
    have hsz := HX2.out.1
    have HE := Lib.hid (below_two (b := w.heap.size + 1) (.int .i64 0) (.int .i64 0) HB0.out (by omega))
    go_wp2_with fail
    exact bodyPost_ret (by simp [results, Try.results6, go_sem, av, noA, y0, y1]) rfl ⟨rfl, HE.out⟩
  · rw [decide_eq_true hu] at HO
    clear hu
    go_enter Try.func6, Try.ntmps6
    go_upto_region 1 with (fail)
    clear hW0
    obtain ⟨k0, k1⟩ := HX1.out.c2
    have hs1 := HX1.out.1
    go_wp2_with fail
    (with_reducible refine (HR.out _).mono ?_)
    rintro e w1 ⟨rfl, hz⟩
    clear k0 k1 hs1
    replace HX1 := Lib.hid (HX1.out.below hz)
    replace HX2 := Lib.hid (HX2.out.below hz)
    replace HB0 := Lib.hid (below_trans HB0.out hz)
    clear hz
    obtain ⟨k0, k1⟩ := HX1.out.c2
    have hs1 := HX1.out.1
    go_wp2_with fail
    (with_reducible refine (HO.out _).mono ?_)
    rintro e w2 ⟨rfl, hz⟩
    clear k0 k1 hs1
    replace HX1 := Lib.hid (HX1.out.below hz)
    replace HX2 := Lib.hid (HX2.out.below hz)
    replace HB0 := Lib.hid (below_trans HB0.out hz)
    clear hz
    obtain ⟨k0, k1⟩ := HX1.out.c2
    have hs1 := HX1.out.1
    obtain ⟨y0, y1⟩ := HX2.out.c2
    obtain ⟨z0, z1⟩ := HX2.out.z2
    have hsz := HX2.out.1
    have HE := Lib.hid (below_two (b := w.heap.size + 1) (.int .i64 0) (.int .i64 0) HB0.out (by omega))
    go_wp2_with fail
    exact bodyPost_ret (by simp [results, Try.results6, go_sem, av, noA, y0, y1]) rfl ⟨rfl, HE.out⟩
  · rw [decide_eq_false (show ¬ u ≤ t by omega)] at HO
    clear hu
    generalize hc : (if y = true then (2 : Int) else 3) = c
    have HC := Lib.hid hc
    clear hc
    go_enter Try.func6, Try.ntmps6
    go_upto_region 1 with (fail)
    clear hW0
    obtain ⟨k0, k1⟩ := HX1.out.c2
    have hs1 := HX1.out.1
    go_wp2_with fail
    (with_reducible refine (HR.out _).mono ?_)
    rintro e w1 ⟨rfl, hz⟩
    clear k0 k1 hs1
    replace HX1 := Lib.hid (HX1.out.below hz)
    replace HX2 := Lib.hid (HX2.out.below hz)
    replace HB0 := Lib.hid (below_trans HB0.out hz)
    clear hz
    obtain ⟨k0, k1⟩ := HX1.out.c2
    have hs1 := HX1.out.1
    go_wp2_with fail
    (with_reducible refine (HO.out _).mono ?_)
    rintro e w2 ⟨rfl, hz⟩
    clear k0 k1 hs1
    replace HX1 := Lib.hid (HX1.out.below hz)
    replace HX2 := Lib.hid (HX2.out.below hz)
    replace HB0 := Lib.hid (below_trans HB0.out hz)
    clear hz
    obtain ⟨k0, k1⟩ := HX1.out.c2
    have hs1 := HX1.out.1
    go_wp2_with fail
    (with_reducible refine (HA.out _).mono ?_)
    rintro e w3 ⟨B, rfl, hz, hl⟩
    replace hl := hl y
    rw [HC.out] at hl
    clear k0 k1 hs1
    replace HX1 := Lib.hid (HX1.out.below hz)
    replace HX2 := Lib.hid (HX2.out.below hz)
    replace HB0 := Lib.hid (below_trans HB0.out hz)
    clear hz
    obtain ⟨k0, k1⟩ := HX1.out.c2
    have hs1 := HX1.out.1
    obtain ⟨l0, l1⟩ := HX1.out.z2
    obtain ⟨y0, y1⟩ := HX2.out.c2
    obtain ⟨z0, z1⟩ := HX2.out.z2
    have hsz := HX2.out.1
    have HE := Lib.hid (below_two (b := w.heap.size + 1) (.int .i64 c) (.int .i64 u) (HB0.out.setCell (p := ⟨w.heap.size, 0, none⟩) (Nat.le_refl _) (.int .i64 c)) (by omega))
    go_wp2_with fail
    exact bodyPost_ret (by simp [results, Try.results6, go_sem, av, y0, y1]) rfl ⟨rfl, HE.out⟩

set_option maxRecDepth 100000 in
set_option maxHeartbeats 1000000 in
theorem Lapse_any (p : As) (t : Int) (w : World) : Calls Try.prog 7 #[av p, .int .i64 t] w (LapE (lapO p t) (lapB p t) (lapE p) w) := by
  obtain ⟨hx1, hx2⟩ := two_boxes w [.int .i64 p.s, .int .i64 p.u] [.int .i64 0, .int .i64 0] 23 23
  have hbb := two_al w (.cells #[.int .i64 p.s, .int .i64 p.u] 23) (.cells #[.int .i64 0, .int .i64 0] 23)
  obtain ⟨W0, hW0⟩ : ∃ W, (w.alloc (.cells #[.int .i64 p.s, .int .i64 p.u] 23)).alloc (.cells #[.int .i64 0, .int .i64 0] 23) = W := ⟨_, rfl⟩
  have HX1 : Hid (Box w.heap.size [.int .i64 p.s, .int .i64 p.u] W0) := Lib.hid (hW0 ▸ hx1)
  have HX2 : Hid (Box (w.heap.size + 1) [.int .i64 0, .int .i64 0] W0) := Lib.hid (hW0 ▸ hx2)
  have HB0 : Hid (Below w.heap.size w W0) := Lib.hid (hW0 ▸ hbb)
  clear hx1 hx2 hbb
  have hR := Right_any p
  have hO := over_any p.s p.u t
  have hways := lap_ways p t
  obtain ⟨r, hr⟩ : ∃ r, rightB p = r := ⟨_, rfl⟩
  rw [hr] at hR hways
  generalize lapO p t = x at *
  generalize lapE p = z at *
  generalize lapB p t = b at *
  have hpe : p = ⟨p.s, p.u⟩ := rfl
  rw [hpe] at hways
  clear hpe
  unfold av at *
  simp only at hways
  generalize p.s = s at *
  generalize p.u = u at *
  have HR := Lib.hid hR
  have HO := Lib.hid hO
  clear hR hO hr
  rcases hways with ⟨rfl, rfl, rfl, rfl⟩ | ⟨rfl, hs, hu, rfl, rfl, rfl⟩ | ⟨rfl, hs, rfl, rfl, rfl⟩
  · go_enter Try.func7, Try.ntmps7
    go_upto_region 1 with (fail)
    clear hW0
    obtain ⟨k0, k1⟩ := HX1.out.c2
    have hs1 := HX1.out.1
    go_wp2_with fail
    (with_reducible refine (HR.out _).mono ?_)
    rintro e w1 ⟨rfl, hz⟩
    clear k0 k1 hs1
    replace HX1 := Lib.hid (HX1.out.below hz)
    replace HX2 := Lib.hid (HX2.out.below hz)
    replace HB0 := Lib.hid (below_trans HB0.out hz)
    clear hz
    obtain ⟨y0, y1⟩ := HX2.out.c2
    obtain ⟨z0, z1⟩ := HX2.out.z2
    have hsz := HX2.out.1
    have HE := Lib.hid (below_two (b := w.heap.size + 1) (.int .i64 0) (.int .i64 0) HB0.out (by omega))
    go_wp2_with fail
    exact bodyPost_ret (by simp [results, Try.results7, go_sem, av, noA, y0, y1]) rfl ⟨rfl, HE.out⟩
  · rw [decide_eq_true hu] at HO
    clear hu
    rcases hs with rfl | rfl
    · go_enter Try.func7, Try.ntmps7
      go_upto_region 1 with (fail)
      clear hW0
      obtain ⟨k0, k1⟩ := HX1.out.c2
      have hs1 := HX1.out.1
      go_wp2_with fail
      (with_reducible refine (HR.out _).mono ?_)
      rintro e w1 ⟨rfl, hz⟩
      clear k0 k1 hs1
      replace HX1 := Lib.hid (HX1.out.below hz)
      replace HX2 := Lib.hid (HX2.out.below hz)
      replace HB0 := Lib.hid (below_trans HB0.out hz)
      clear hz
      obtain ⟨k0, k1⟩ := HX1.out.c2
      have hs1 := HX1.out.1
      go_wp2_with fail
      (with_reducible refine (HO.out _).mono ?_)
      rintro e w2 ⟨rfl, hz⟩
      clear k0 k1 hs1
      replace HX1 := Lib.hid (HX1.out.below hz)
      replace HX2 := Lib.hid (HX2.out.below hz)
      replace HB0 := Lib.hid (below_trans HB0.out hz)
      clear hz
      obtain ⟨k0, k1⟩ := HX1.out.c2
      have hs1 := HX1.out.1
      obtain ⟨l0, l1⟩ := HX1.out.z2
      obtain ⟨y0, y1⟩ := HX2.out.c2
      obtain ⟨z0, z1⟩ := HX2.out.z2
      have hsz := HX2.out.1
      have HE := Lib.hid (below_two (b := w.heap.size + 1) (.int .i64 3) (.int .i64 u) (HB0.out.setCell (p := ⟨w.heap.size, 0, none⟩) (Nat.le_refl _) (.int .i64 3)) (by omega))
      go_wp2_with fail
      exact bodyPost_ret (by simp [results, Try.results7, go_sem, av, y0, y1]) rfl ⟨rfl, HE.out⟩
    · go_enter Try.func7, Try.ntmps7
      go_upto_region 1 with (fail)
      clear hW0
      obtain ⟨k0, k1⟩ := HX1.out.c2
      have hs1 := HX1.out.1
      go_wp2_with fail
      (with_reducible refine (HR.out _).mono ?_)
      rintro e w1 ⟨rfl, hz⟩
      clear k0 k1 hs1
      replace HX1 := Lib.hid (HX1.out.below hz)
      replace HX2 := Lib.hid (HX2.out.below hz)
      replace HB0 := Lib.hid (below_trans HB0.out hz)
      clear hz
      obtain ⟨k0, k1⟩ := HX1.out.c2
      have hs1 := HX1.out.1
      go_wp2_with fail
      (with_reducible refine (HO.out _).mono ?_)
      rintro e w2 ⟨rfl, hz⟩
      clear k0 k1 hs1
      replace HX1 := Lib.hid (HX1.out.below hz)
      replace HX2 := Lib.hid (HX2.out.below hz)
      replace HB0 := Lib.hid (below_trans HB0.out hz)
      clear hz
      obtain ⟨k0, k1⟩ := HX1.out.c2
      have hs1 := HX1.out.1
      obtain ⟨l0, l1⟩ := HX1.out.z2
      obtain ⟨y0, y1⟩ := HX2.out.c2
      obtain ⟨z0, z1⟩ := HX2.out.z2
      have hsz := HX2.out.1
      have HE := Lib.hid (below_two (b := w.heap.size + 1) (.int .i64 3) (.int .i64 u) (HB0.out.setCell (p := ⟨w.heap.size, 0, none⟩) (Nat.le_refl _) (.int .i64 3)) (by omega))
      go_wp2_with fail
      exact bodyPost_ret (by simp [results, Try.results7, go_sem, av, y0, y1]) rfl ⟨rfl, HE.out⟩
  · by_cases h12 : s = 1 ∨ s = 2
    · rw [decide_eq_false (show ¬ u ≤ t from fun h => hs ⟨h12, h⟩)] at HO
      clear hs
      rcases h12 with rfl | rfl
      · go_enter Try.func7, Try.ntmps7
        go_upto_region 1 with (fail)
        clear hW0
        obtain ⟨k0, k1⟩ := HX1.out.c2
        have hs1 := HX1.out.1
        go_wp2_with fail
        (with_reducible refine (HR.out _).mono ?_)
        rintro e w1 ⟨rfl, hz⟩
        clear k0 k1 hs1
        replace HX1 := Lib.hid (HX1.out.below hz)
        replace HX2 := Lib.hid (HX2.out.below hz)
        replace HB0 := Lib.hid (below_trans HB0.out hz)
        clear hz
        obtain ⟨k0, k1⟩ := HX1.out.c2
        have hs1 := HX1.out.1
        go_wp2_with fail
        (with_reducible refine (HO.out _).mono ?_)
        rintro e w2 ⟨rfl, hz⟩
        clear k0 k1 hs1
        replace HX1 := Lib.hid (HX1.out.below hz)
        replace HX2 := Lib.hid (HX2.out.below hz)
        replace HB0 := Lib.hid (below_trans HB0.out hz)
        clear hz
        obtain ⟨k0, k1⟩ := HX1.out.c2
        have hs1 := HX1.out.1
        obtain ⟨y0, y1⟩ := HX2.out.c2
        obtain ⟨z0, z1⟩ := HX2.out.z2
        have hsz := HX2.out.1
        have HE := Lib.hid (below_two (b := w.heap.size + 1) (.int .i64 1) (.int .i64 u) HB0.out (by omega))
        go_wp2_with fail
        exact bodyPost_ret (by simp [results, Try.results7, go_sem, av, y0, y1]) rfl ⟨rfl, HE.out⟩
      · go_enter Try.func7, Try.ntmps7
        go_upto_region 1 with (fail)
        clear hW0
        obtain ⟨k0, k1⟩ := HX1.out.c2
        have hs1 := HX1.out.1
        go_wp2_with fail
        (with_reducible refine (HR.out _).mono ?_)
        rintro e w1 ⟨rfl, hz⟩
        clear k0 k1 hs1
        replace HX1 := Lib.hid (HX1.out.below hz)
        replace HX2 := Lib.hid (HX2.out.below hz)
        replace HB0 := Lib.hid (below_trans HB0.out hz)
        clear hz
        obtain ⟨k0, k1⟩ := HX1.out.c2
        have hs1 := HX1.out.1
        go_wp2_with fail
        (with_reducible refine (HO.out _).mono ?_)
        rintro e w2 ⟨rfl, hz⟩
        clear k0 k1 hs1
        replace HX1 := Lib.hid (HX1.out.below hz)
        replace HX2 := Lib.hid (HX2.out.below hz)
        replace HB0 := Lib.hid (below_trans HB0.out hz)
        clear hz
        obtain ⟨k0, k1⟩ := HX1.out.c2
        have hs1 := HX1.out.1
        obtain ⟨y0, y1⟩ := HX2.out.c2
        obtain ⟨z0, z1⟩ := HX2.out.z2
        have hsz := HX2.out.1
        have HE := Lib.hid (below_two (b := w.heap.size + 1) (.int .i64 2) (.int .i64 u) HB0.out (by omega))
        go_wp2_with fail
        exact bodyPost_ret (by simp [results, Try.results7, go_sem, av, y0, y1]) rfl ⟨rfl, HE.out⟩
    · have h1 : (s != 1) = true := by simp; omega
      have h2 : (s != 2) = true := by simp; omega
      clear hs h12
      go_enter Try.func7, Try.ntmps7
      go_upto_region 1 with (fail)
      clear hW0
      obtain ⟨k0, k1⟩ := HX1.out.c2
      have hs1 := HX1.out.1
      go_wp2_with fail
      (with_reducible refine (HR.out _).mono ?_)
      rintro e w1 ⟨rfl, hz⟩
      clear k0 k1 hs1
      replace HX1 := Lib.hid (HX1.out.below hz)
      replace HX2 := Lib.hid (HX2.out.below hz)
      replace HB0 := Lib.hid (below_trans HB0.out hz)
      clear hz
      obtain ⟨k0, k1⟩ := HX1.out.c2
      have hs1 := HX1.out.1
      obtain ⟨y0, y1⟩ := HX2.out.c2
      obtain ⟨z0, z1⟩ := HX2.out.z2
      have hsz := HX2.out.1
      have HE := Lib.hid (below_two (b := w.heap.size + 1) (.int .i64 s) (.int .i64 u) HB0.out (by omega))
      go_wp2_with fail
      exact bodyPost_ret (by simp [results, Try.results7, go_sem, av, y0, y1]) rfl ⟨rfl, HE.out⟩
end Go.Proofs.Ytbdgcfcipjehmaa.Ask
