/-
  Contract of the reference's Right.
-/
import Derived.Test.YtlhepocjcdbhjaaURef1
namespace Go.Proofs.Ytlhepocjcdbhjaa.Outbox
open Go.ChangeShapes Go.WideShapes Go.ChangeAt Go.RowKit Go.Shelf Go.Lib
open Go.Proofs.Ytlhepocjcdbhjaa.Queue (Box al dr below_trans ret_bool BoolB)

def SoundR (l : List Ot) (t : Int) (v : Value) (k : Nat) (w W : World) : Prop := (∀ i, i < k → Sound l t i) ∧ Below w.heap.size w W ∧ Box w.heap.size (bcs t v) W
def PairS (l : List Ot) (x : Ot) (j : Nat) (w W : World) : Prop := (∀ i (h : i < l.length), i < j → Ahead l[i] x) ∧ Below w.heap.size w W
theorem sound_succ {l : List Ot} {t : Int} {k : Nat} (h : ∀ i, i < k → Sound l t i) (hk : k < l.length) (h1 : mayU l[k] = true ∧ l[k].y ≤ t) (h2 : ∀ i (h : i < l.length), i < k → Ahead l[i] l[k]) : ∀ i, i < k + 1 → Sound l t i := fun i hi => by
  by_cases e : i = k
  · subst e
    exact fun _ => ⟨h1.1, h1.2, fun j hj => h2 j (by omega) hj⟩
  · exact h i (by omega)
theorem pair_succ {l : List Ot} {x : Ot} {j : Nat} (h : ∀ i (h : i < l.length), i < j → Ahead l[i] x) (hj : j < l.length) (h1 : Ahead l[j] x) : ∀ i (h : i < l.length), i < j + 1 → Ahead l[i] x := fun i hi hij => by
  by_cases e : i = j
  · subst e; exact h1
  · exact h i hi (by omega)
theorem sound_all {l : List Ot} {t : Int} (h : ∀ i, i < l.length → Sound l t i) : decide (l.length ≤ 96 ∧ 0 ≤ t ∧ t ≤ 1099511627776) = rightB l t := by
  by_cases e : l.length ≤ 96 ∧ 0 ≤ t ∧ t ≤ 1099511627776
  · rw [decide_eq_true e, right_of e.1 e.2 h]
  · rw [decide_eq_false e]
    exact (rightB_f.2 (fun hr => e ⟨hr.1, hr.2.1⟩)).symm

set_option maxRecDepth 100000 in
set_option maxHeartbeats 8000000 in
theorem refRight_any {v : Value} {l : List Ot} {w : World} (t : Int) (h : URow w v l) : Calls Try.prog 12 #[bv t v] w (BoolB (rightB l t) w) := by
  obtain ⟨a, cap, rfl⟩ := h.slice
  have H := Lib.hid h
  have hx0 := Box.made w (bcs t (.slice a l.length cap)) 24
  have hb0 := al w (.cells #[.int .i64 t, .slice a l.length cap] 24)
  obtain ⟨W0, hW0⟩ : ∃ W, w.alloc (.cells #[.int .i64 t, .slice a l.length cap] 24) = W := ⟨_, rfl⟩
  have HX0 : Hid (Box w.heap.size (bcs t (.slice a l.length cap)) W0) := Lib.hid (hW0 ▸ hx0)
  have HB0 : Hid (Below w.heap.size w W0) := Lib.hid (hW0 ▸ hb0)
  unfold bv
  clear h hx0 hb0
  go_enter Try.func12, Try.ntmps12
  go_upto_region 1 with (fail)
  clear hW0
  obtain ⟨c0, c1⟩ := box2 HX0.out
  have hs0 := HX0.out.1
  go_wp2
  clear c0 c1 hs0
  go_loopw [3, 4, 6, 10] (fun _ _ _ i wr => ∃ k : Nat, k ≤ l.length ∧ i = .int .i64 k ∧ SoundR l t (.slice a l.length cap) k w wr) (fun _ _ _ i _ => l.length - (Go.RowKit.intOf i).toNat)
  case atStart => exact ⟨0, Nat.zero_le _, rfl, fun _ h => by omega, HB0.out, HX0.out⟩
  case round =>
    obtain ⟨k, hk, rfl, hr⟩ := hrel
    have HR := Lib.hid hr
    clear hr
    generalize wr = wx at *
    by_cases hlt : k < l.length
    · obtain ⟨_, hlc, hcap⟩ := URow.cap H.out
      have p1 : (0 : Int) ≤ k := by omega
      have p3 : (k : Int) ≤ cap := by omega
      obtain ⟨b, off, ea, _, _, hb, k0, k1, k2, k3⟩ := (H.out.below HR.out.2.1).at hlt
      subst ea
      have hba := al wx (.cells #[.int .i64 l[k].y, .int .i64 l[k].k, .int .i64 l[k].o, .int .i64 l[k].d] 30)
      have hbx := Box.made wx (ocs l[k]) 30
      have HST := Lib.hid (sound_succ HR.out.1 hlt)
      have HNM := Lib.hid (right_may (t := t) hlt)
      have HNP := Lib.hid (fun j (hj : j < k) h => right_pair (t := t) hlt hj h)
      generalize l[k] = x at *
      obtain ⟨W1, hW1⟩ : ∃ W, wx.alloc (.cells #[.int .i64 x.y, .int .i64 x.k, .int .i64 x.o, .int .i64 x.d] 30) = W := ⟨_, rfl⟩
      have hba1 : Below wx.heap.size wx W1 := hW1 ▸ hba
      have HB1 : Hid (Below w.heap.size w W1) := Lib.hid (below_trans HR.out.2.1 hba1)
      have HX1 : Hid (Box wx.heap.size (ocs x) W1) := Lib.hid (hW1 ▸ hbx)
      have HO1 : Hid (Box w.heap.size (bcs t (.slice (some ⟨b, off, none⟩) l.length cap)) W1) := Lib.hid (HR.out.2.2.below hba1)
      obtain ⟨d0, d1, d2, d3⟩ := box4 HX1.out
      have hbb := HX1.out.1
      obtain ⟨c0, c1⟩ := box2 HO1.out
      have hs0 := HO1.out.1
      have h1 := in_any x.y 1
      have h2 := in_any x.o 1
      have h5 := in_any x.d 0
      clear hbx hba hba1
      by_cases e0 : 1 ≤ x.y ∧ x.y ≤ 1099511627776
      case neg =>
        rw [decide_eq_false e0] at h1
        have HN := Lib.hid (HNM.out (fun e => by have := mayU_t.1 e.1; have := e.2; omega))
        have H1 := Lib.hid h1
        have H2 := Lib.hid h2
        have H5 := Lib.hid h5
        clear e0 h1 h2 h5 HNM HST HNP
        go_upto_region 4 with (fail)
        try rw [hW1]
        clear hW1
        go_wp2_with (first
          | (go_at_call 31; (with_reducible refine (H1.out _).mono ?_); rintro e w' ⟨rfl, rfl⟩)
          | (go_at_call 31; (with_reducible refine (H2.out _).mono ?_); rintro e w' ⟨rfl, rfl⟩)
          | (go_at_call 31; (with_reducible refine (H5.out _).mono ?_); rintro e w' ⟨rfl, rfl⟩))
        go_ret
        exact ⟨ret_bool HN.out.symm, HB1.out⟩
      rw [decide_eq_true e0] at h1
      by_cases e1 : 1 ≤ x.o ∧ x.o ≤ 1099511627776
      case neg =>
        rw [decide_eq_false e1] at h2
        have HN := Lib.hid (HNM.out (fun e => by have := mayU_t.1 e.1; have := e.2; omega))
        have H1 := Lib.hid h1
        have H2 := Lib.hid h2
        have H5 := Lib.hid h5
        clear e0 e1 h1 h2 h5 HNM HST HNP
        go_upto_region 4 with (fail)
        try rw [hW1]
        clear hW1
        go_wp2_with (first
          | (go_at_call 31; (with_reducible refine (H1.out _).mono ?_); rintro e w' ⟨rfl, rfl⟩)
          | (go_at_call 31; (with_reducible refine (H2.out _).mono ?_); rintro e w' ⟨rfl, rfl⟩)
          | (go_at_call 31; (with_reducible refine (H5.out _).mono ?_); rintro e w' ⟨rfl, rfl⟩))
        go_ret
        exact ⟨ret_bool HN.out.symm, HB1.out⟩
      rw [decide_eq_true e1] at h2
      by_cases e2 : ¬ x.k < 1
      case neg =>
        have g2 : x.k < 1 := by omega
        have HN := Lib.hid (HNM.out (fun e => by have := mayU_t.1 e.1; have := e.2; omega))
        have H1 := Lib.hid h1
        have H2 := Lib.hid h2
        have H5 := Lib.hid h5
        clear e0 e1 h1 h2 h5 HNM HST HNP
        go_upto_region 4 with (fail)
        try rw [hW1]
        clear hW1
        go_wp2_with (first
          | (go_at_call 31; (with_reducible refine (H1.out _).mono ?_); rintro e w' ⟨rfl, rfl⟩)
          | (go_at_call 31; (with_reducible refine (H2.out _).mono ?_); rintro e w' ⟨rfl, rfl⟩)
          | (go_at_call 31; (with_reducible refine (H5.out _).mono ?_); rintro e w' ⟨rfl, rfl⟩))
        go_ret
        exact ⟨ret_bool HN.out.symm, HB1.out⟩
      by_cases e3 : ¬ x.k > 3
      case neg =>
        have g3 : x.k > 3 := by omega
        have HN := Lib.hid (HNM.out (fun e => by have := mayU_t.1 e.1; have := e.2; omega))
        have H1 := Lib.hid h1
        have H2 := Lib.hid h2
        have H5 := Lib.hid h5
        clear e0 e1 h1 h2 h5 HNM HST HNP
        go_upto_region 4 with (fail)
        try rw [hW1]
        clear hW1
        go_wp2_with (first
          | (go_at_call 31; (with_reducible refine (H1.out _).mono ?_); rintro e w' ⟨rfl, rfl⟩)
          | (go_at_call 31; (with_reducible refine (H2.out _).mono ?_); rintro e w' ⟨rfl, rfl⟩)
          | (go_at_call 31; (with_reducible refine (H5.out _).mono ?_); rintro e w' ⟨rfl, rfl⟩))
        go_ret
        exact ⟨ret_bool HN.out.symm, HB1.out⟩
      by_cases e4 : 0 ≤ x.d ∧ x.d ≤ 1099511627776
      case neg =>
        rw [decide_eq_false e4] at h5
        have HN := Lib.hid (HNM.out (fun e => by have := mayU_t.1 e.1; have := e.2; omega))
        have H1 := Lib.hid h1
        have H2 := Lib.hid h2
        have H5 := Lib.hid h5
        clear e0 e1 e4 h1 h2 h5 HNM HST HNP
        go_upto_region 4 with (fail)
        try rw [hW1]
        clear hW1
        go_wp2_with (first
          | (go_at_call 31; (with_reducible refine (H1.out _).mono ?_); rintro e w' ⟨rfl, rfl⟩)
          | (go_at_call 31; (with_reducible refine (H2.out _).mono ?_); rintro e w' ⟨rfl, rfl⟩)
          | (go_at_call 31; (with_reducible refine (H5.out _).mono ?_); rintro e w' ⟨rfl, rfl⟩))
        go_ret
        exact ⟨ret_bool HN.out.symm, HB1.out⟩
      rw [decide_eq_true e4] at h5
      by_cases e5 : ¬ x.y > t
      case neg =>
        have g5 : x.y > t := by omega
        have HN := Lib.hid (HNM.out (fun e => by have := mayU_t.1 e.1; have := e.2; omega))
        have H1 := Lib.hid h1
        have H2 := Lib.hid h2
        have H5 := Lib.hid h5
        clear e0 e1 e4 h1 h2 h5 HNM HST HNP
        go_upto_region 4 with (fail)
        try rw [hW1]
        clear hW1
        go_wp2_with (first
          | (go_at_call 31; (with_reducible refine (H1.out _).mono ?_); rintro e w' ⟨rfl, rfl⟩)
          | (go_at_call 31; (with_reducible refine (H2.out _).mono ?_); rintro e w' ⟨rfl, rfl⟩)
          | (go_at_call 31; (with_reducible refine (H5.out _).mono ?_); rintro e w' ⟨rfl, rfl⟩))
        go_ret
        exact ⟨ret_bool HN.out.symm, HB1.out⟩
      have hm : mayU x = true ∧ x.y ≤ t := ⟨mayU_t.2 (by omega), by omega⟩
      have HST1 := Lib.hid (HST.out hm)
      have H1 := Lib.hid h1
      have H2 := Lib.hid h2
      have H5 := Lib.hid h5
      clear e0 e1 e4 hm h1 h2 h5 HNM HST
      go_upto_region 4 with (fail)
      try rw [hW1]
      clear hW1
      go_wp2_with (first
        | (go_at_call 31; (with_reducible refine (H1.out _).mono ?_); rintro e w' ⟨rfl, rfl⟩)
        | (go_at_call 31; (with_reducible refine (H2.out _).mono ?_); rintro e w' ⟨rfl, rfl⟩)
        | (go_at_call 31; (with_reducible refine (H5.out _).mono ?_); rintro e w' ⟨rfl, rfl⟩))
      have HPS : Hid (PairS l x 0 W1 W1) := Lib.hid ⟨fun i _ hi => by omega, Below.refl _ _⟩
      clear d0 d1 d2 d3 hbb k0 k1 k2 k3 hb c0 c1 hs0 e2 e3 e5
      generalize wx.heap.size = bx at *
      go_loopw [6, 53] (fun _ i wr => ∃ j : Nat, j ≤ k ∧ i = .int .i64 j ∧ PairS l x j W1 wr) (fun _ i _ => k - (Go.RowKit.intOf i).toNat)
      case atStart => exact ⟨0, Nat.zero_le _, rfl, HPS.out⟩
      case round =>
        obtain ⟨j, hj, rfl, hr⟩ := hrel
        have HP := Lib.hid hr
        clear hr
        by_cases hjk : j < k
        · have hjl : j < l.length := by omega
          have hb3 := HB1.out.trans (HP.out.2.mono HB1.out.size)
          obtain ⟨b', off', e', _, _, hb, y0, y1, y2, y3⟩ := (H.out.below hb3).at hjl
          cases e'
          have HNJ := Lib.hid (HNP.out j hjk)
          have HPN := Lib.hid (pair_succ HP.out.1 hjl)
          generalize l[j] = z at *
          have hba := al wr (.cells #[.int .i64 z.y, .int .i64 z.k, .int .i64 z.o, .int .i64 z.d] 30)
          have hby := Box.made wr (ocs z) 30
          obtain ⟨W3, hW3⟩ : ∃ W, wr.alloc (.cells #[.int .i64 z.y, .int .i64 z.k, .int .i64 z.o, .int .i64 z.d] 30) = W := ⟨_, rfl⟩
          have HB3 : Hid (Below W1.heap.size W1 W3) := Lib.hid (below_trans HP.out.2 (hW3 ▸ hba))
          have HY3 : Hid (Box wr.heap.size (ocs z) W3) := Lib.hid (hW3 ▸ hby)
          have HX3 := Lib.hid (HX1.out.below HB3.out)
          have HB4 := Lib.hid (below_trans HB1.out HB3.out)
          obtain ⟨d0, d1, d2, d3⟩ := box4 HY3.out
          have hsy := HY3.out.1
          obtain ⟨x0, x1, x2, x3⟩ := box4 HX3.out
          have hsx := HX3.out.1
          clear hb3 hba hby
          by_cases f1 : z.y ≥ x.y
          · have HN := Lib.hid (HNJ.out (fun e => by have := e.1; omega))
            clear HNJ HPN
            go_upto_region 9 with (fail)
            try rw [hW3]
            clear hW3
            go_wp2_with fail
            go_ret
            exact ⟨ret_bool HN.out.symm, HB4.out⟩
          · by_cases f2 : z.k = x.k
            · have q2 : (z.k == x.k) = true := by simpa using f2
              by_cases f3 : z.o = x.o
              · have q3 : (z.o == x.o) = true := by simpa using f3
                have HN := Lib.hid (HNJ.out (fun e => e.2 ⟨f2, f3⟩))
                clear HNJ HPN f2 f3
                go_upto_region 9 with (fail)
                try rw [hW3]
                clear hW3
                go_wp2_with fail
                go_ret
                exact ⟨ret_bool HN.out.symm, HB4.out⟩
              · have q3 : (z.o == x.o) = false := by simpa using f3
                have HPP := Lib.hid (HPN.out ⟨by omega, fun e => f3 e.2⟩)
                clear HNJ HPN f2 f3
                go_upto_region 9 with (fail)
                try rw [hW3]
                clear hW3
                go_wp2_with fail
                go_roundw
                case rel => exact ⟨j + 1, by omega, by go_num, HPP.out, HB3.out⟩
                case measure => simp [Go.RowKit.intOf]; omega
            · have q2 : (z.k == x.k) = false := by simpa using f2
              have HPP := Lib.hid (HPN.out ⟨by omega, fun e => f2 e.1⟩)
              clear HNJ HPN f2
              go_upto_region 9 with (fail)
              try rw [hW3]
              clear hW3
              go_wp2_with fail
              go_roundw
              case rel => exact ⟨j + 1, by omega, by go_num, HPP.out, HB3.out⟩
              case measure => simp [Go.RowKit.intOf]; omega
        · obtain rfl : j = k := by omega
          have HS2 := Lib.hid (HST1.out HP.out.1)
          have HB4 := Lib.hid (below_trans HB1.out HP.out.2)
          have HO4 := Lib.hid (HO1.out.below HP.out.2)
          go_wp2_with fail
          go_roundw
          case rel => exact ⟨j + 1, by omega, by go_num, HS2.out, HB4.out, HO4.out⟩
          case measure => simp [Go.RowKit.intOf]; omega
    · obtain rfl : k = l.length := by omega
      have HA := Lib.hid (sound_all HR.out.1)
      obtain ⟨c0, c1⟩ := box2 HR.out.2.2
      have hs0 := HR.out.2.2.1
      have ht := in_any t 0
      by_cases e0 : (l.length : Int) ≤ 96
      · by_cases e1 : 0 ≤ t ∧ t ≤ 1099511627776
        · rw [decide_eq_true e1] at ht
          have HT := Lib.hid ht
          rw [decide_eq_true ⟨by omega, e1⟩] at HA
          clear ht e1
          go_wp2_with (go_at_call 31; (with_reducible refine (HT.out _).mono ?_); rintro e w' ⟨rfl, rfl⟩)
          go_ret
          exact ⟨ret_bool HA.out, HR.out.2.1⟩
        · rw [decide_eq_false e1] at ht
          have HT := Lib.hid ht
          rw [decide_eq_false (fun e => e1 e.2)] at HA
          clear ht e1
          go_wp2_with (go_at_call 31; (with_reducible refine (HT.out _).mono ?_); rintro e w' ⟨rfl, rfl⟩)
          go_ret
          exact ⟨ret_bool HA.out, HR.out.2.1⟩
      · rw [decide_eq_false (fun e => e0 (by omega))] at HA
        clear ht
        go_wp2_with fail
        go_ret
        exact ⟨ret_bool HA.out, HR.out.2.1⟩
end Go.Proofs.Ytlhepocjcdbhjaa.Outbox
