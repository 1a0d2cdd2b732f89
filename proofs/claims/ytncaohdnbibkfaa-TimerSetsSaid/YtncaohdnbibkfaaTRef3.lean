/-
  Contract of the reference's Right: which timers may be.
-/
import Derived.Test.YtncaohdnbibkfaaTRef2
import Derived.Deep.CutBlock
namespace Go.Proofs.Ytncaohdnbibkfaa.Timer
open Go.ChangeShapes Go.WideShapes Go.ChangeAt Go.RowKit Go.Shelf Go.Lib
open Go.Proofs.Ytncaohdnbibkfaa.Queue

def SoundR (l : List Wt) (k : Nat) (w W : World) : Prop := (∀ i, i < k → Sound l i) ∧ Below w.heap.size w W
/-- So many stand below it, and are of another kind or order. -/
def PairS (l : List Wt) (x : Wt) (j : Nat) (w W : World) : Prop := (∀ i (h : i < l.length), i < j → ltB l[i] x = true ∧ Diff l[i] x) ∧ Below w.heap.size w W
theorem sound_succ {l : List Wt} {k : Nat} (h : ∀ i, i < k → Sound l i) (hk : k < l.length) (h1 : mayT l[k] = true) (h2 : ∀ i (h : i < l.length), i < k → ltB l[i] l[k] = true ∧ Diff l[i] l[k]) : ∀ i, i < k + 1 → Sound l i := fun i hi => by
  by_cases e : i = k
  · subst e; exact fun _ => ⟨h1, fun j hj => h2 j (by omega) hj⟩
  · exact h i (by omega)
theorem pair_succ {l : List Wt} {x : Wt} {j : Nat} (h : ∀ i (h : i < l.length), i < j → ltB l[i] x = true ∧ Diff l[i] x) (hj : j < l.length) (h1 : ltB l[j] x = true) (h2 : Diff l[j] x) : ∀ i (h : i < l.length), i < j + 1 → ltB l[i] x = true ∧ Diff l[i] x := fun i hi hij => by
  by_cases e : i = j
  · subst e; exact ⟨h1, h2⟩
  · exact h i hi (by omega)

set_option maxRecDepth 100000 in
set_option maxHeartbeats 4000000 in
theorem refRight_any {v : Value} {l : List Wt} {w : World} (h : QRow w v l) (_hl : l.length ≤ 1000) : Calls Try.prog 12 #[v] w (BoolB (rightB l) w) := by
  obtain ⟨a, cap, rfl⟩ := h.slice
  have H := Lib.hid h
  clear h
  go_enter Try.func12, Try.ntmps12
  go_wp2
  go_loopw [3, 4, 6, 9, 19, 20, 21] (fun _ _ _ i _ _ _ wr => ∃ k : Nat, k ≤ l.length ∧ i = .int .i64 k ∧ SoundR l k w wr) (fun _ _ _ i _ _ _ _ => l.length - (Go.RowKit.intOf i).toNat)
  case atStart => exact ⟨0, Nat.zero_le _, rfl, fun _ h => by omega, Below.refl _ _⟩
  case round =>
    obtain ⟨k, hk, rfl, hr⟩ := hrel
    have HR := Lib.hid hr
    clear hr
    generalize wr = wx at *
    by_cases hlt : k < l.length
    · obtain ⟨_, hlc, hcap⟩ := QRow.cap H.out
      have c1 : (0 : Int) ≤ k := by omega
      have c3 : (k : Int) ≤ cap := by omega
      obtain ⟨b, off, ea, _, _, hb, k0, k1, k2⟩ := (H.out.below HR.out.2).at hlt
      subst ea
      have hbx := Box.made wx (tcs l[k]) 24
      have hb1 := al wx (.cells (tcs l[k]).toArray 24)
      have HM := Lib.hid (fun W => refMay_any l[k] W)
      have HST := Lib.hid (sound_succ HR.out.1 hlt)
      have HNM := Lib.hid (right_may hlt)
      have HNP := Lib.hid (fun j (hj : j < k) h => right_pair hlt hj h)
      generalize l[k] = x at *
      obtain ⟨W1, hW1⟩ : ∃ W, wx.alloc (.cells #[.int .i64 x.c, .int .i64 x.s, .int .i64 x.o] 24) = W := ⟨_, rfl⟩
      have HB1 : Hid (Below w.heap.size w W1) := Lib.hid (below_trans HR.out.2 (hW1 ▸ hb1))
      have HX1 : Hid (Box wx.heap.size (tcs x) W1) := Lib.hid (hW1 ▸ hbx)
      obtain ⟨d0, d1, d2⟩ := c3' HX1.out
      have hbb := HX1.out.1
      unfold wv at HM
      clear hbx hb1
      cases hm : mayT x with
      | false =>
        rw [hm] at HM
        have HNO2 := Lib.hid (HNM.out hm)
        clear hm HNM HST HNP
        go_upto_region 4 with (fail)
        clear hW1
        go_wp2_with fail
        (with_reducible refine (HM.out _).mono ?_)
        rintro e w' ⟨rfl, hz⟩
        have HZ := Lib.hid (below_trans HB1.out hz)
        clear hz
        go_wp2_with fail
        go_ret
        exact ⟨ret_bool HNO2.out.symm, HZ.out⟩
      | true =>
        rw [hm] at HM
        have HST1 := Lib.hid (HST.out hm)
        clear hm HNM HST
        go_upto_region 4 with (fail)
        clear hW1
        go_wp2_with fail
        (with_reducible refine (HM.out _).mono ?_)
        rintro e w2 ⟨rfl, hz⟩
        have HB2 := Lib.hid (below_trans HB1.out hz)
        have HX2 := Lib.hid (HX1.out.below hz)
        have HPS : Hid (PairS l x 0 w2 w2) := Lib.hid ⟨fun i _ hi => by omega, Below.refl _ _⟩
        clear hz d0 d1 d2 hbb k0 k1 k2 hb
        go_wp2_with fail
        go_loopw [6, 21] (fun _ i wr => ∃ j : Nat, j ≤ k ∧ i = .int .i64 j ∧ PairS l x j w2 wr) (fun _ i _ => k - (Go.RowKit.intOf i).toNat)
        case atStart => exact ⟨0, Nat.zero_le _, rfl, HPS.out⟩
        case round =>
          obtain ⟨j, hj, rfl, hr⟩ := hrel
          have HP := Lib.hid hr
          clear hr
          by_cases hjk : j < k
          · have hjl : j < l.length := by omega
            have hb3 := HB2.out.trans (HP.out.2.mono HB2.out.size)
            obtain ⟨b', off', e', _, _, hb, y0, y1, y2⟩ := (H.out.below hb3).at hjl
            cases e'
            have HNJ := Lib.hid (HNP.out j hjk)
            have HPN := Lib.hid (pair_succ HP.out.1 hjl)
            have hx3 := HX2.out.below HP.out.2
            generalize l[j] = y at *
            have hby := Box.made wr (tcs y) 24
            have hba := al wr (.cells (tcs y).toArray 24)
            obtain ⟨W3, hW3⟩ : ∃ W, wr.alloc (.cells #[.int .i64 y.c, .int .i64 y.s, .int .i64 y.o] 24) = W := ⟨_, rfl⟩
            have HB3 : Hid (Below w2.heap.size w2 W3) := Lib.hid (below_trans HP.out.2 (hW3 ▸ hba))
            have HY3 : Hid (Box wr.heap.size (tcs y) W3) := Lib.hid (hW3 ▸ hby)
            have HX3 : Hid (Box wx.heap.size (tcs x) W3) := Lib.hid (HX2.out.below HB3.out)
            obtain ⟨d0, d1, d2⟩ := c3' HY3.out
            have hsy := HY3.out.1
            obtain ⟨x0, x1, x2⟩ := c3' HX3.out
            have hsx := HX3.out.1
            have HLS := Lib.hid (fun W => refLess_any y x W)
            unfold wv at HLS
            clear hb3 hx3 hby hba
            cases hl : ltB y x with
            | false =>
              rw [hl] at HLS
              have HNO := Lib.hid (HNJ.out (.inl hl))
              clear hl HNJ HPN
              go_upto_region 9 with (fail)
              clear hW3
              go_wp2_with fail
              (with_reducible refine (HLS.out _).mono ?_)
              rintro e w4 ⟨rfl, hz⟩
              have HZ := Lib.hid (below_trans HB2.out (below_trans HB3.out hz))
              clear hz d0 d1 d2 hsy x0 x1 x2 hsx
              go_wp2_with fail
              go_ret
              exact ⟨ret_bool HNO.out.symm, HZ.out⟩
            | true =>
              rw [hl] at HLS
              have HPN1 := Lib.hid (HPN.out hl)
              clear hl HPN
              by_cases hd : y.s = x.s ∧ y.o = x.o
              · have HNO := Lib.hid (HNJ.out (.inr fun h => h hd))
                have h2 : (y.s == x.s) = true := by simpa using hd.1
                have h3 : (y.o == x.o) = true := by simpa using hd.2
                clear hd HNJ HPN1
                go_upto_region 9 with (fail)
                clear hW3
                go_wp2_with fail
                (with_reducible refine (HLS.out _).mono ?_)
                rintro e w4 ⟨rfl, hz⟩
                have HZ := Lib.hid (below_trans HB2.out (below_trans HB3.out hz))
                have HY4 := Lib.hid (HY3.out.below hz)
                have HX4 := Lib.hid (HX3.out.below hz)
                clear hz d0 d1 d2 hsy x0 x1 x2 hsx
                obtain ⟨d0, d1, d2⟩ := c3' HY4.out
                have hsy := HY4.out.1
                obtain ⟨x0, x1, x2⟩ := c3' HX4.out
                have hsx := HX4.out.1
                go_wp2_with fail
                go_ret
                exact ⟨ret_bool HNO.out.symm, HZ.out⟩
              · have HPN2 := Lib.hid (HPN1.out hd)
                have h2 : (y.s == x.s) = false ∨ ((y.s == x.s) = true ∧ (y.o == x.o) = false) := by
                  by_cases e : y.s = x.s
                  · exact .inr ⟨by simpa using e, by simpa using (fun e2 => hd ⟨e, e2⟩)⟩
                  · exact .inl (by simpa using e)
                clear hd HNJ HPN1
                go_upto_region 9 with (fail)
                clear hW3
                go_wp2_with fail
                (with_reducible refine (HLS.out _).mono ?_)
                rintro e w4 ⟨rfl, hz⟩
                have HZ := Lib.hid (below_trans HB3.out hz)
                have HY4 := Lib.hid (HY3.out.below hz)
                have HX4 := Lib.hid (HX3.out.below hz)
                clear hz d0 d1 d2 hsy x0 x1 x2 hsx
                obtain ⟨d0, d1, d2⟩ := c3' HY4.out
                have hsy := HY4.out.1
                obtain ⟨x0, x1, x2⟩ := c3' HX4.out
                have hsx := HX4.out.1
                rcases h2 with h2 | ⟨h2, h3⟩
                all_goals (
                  go_wp2_with fail
                  go_roundw
                  case rel => exact ⟨j + 1, by omega, by go_num, HPN2.out, HZ.out⟩
                  case measure => simp [intOf]; omega)
          · obtain rfl : j = k := by omega
            have HST2 := Lib.hid (HST1.out HP.out.1)
            have HZ := Lib.hid (below_trans HB2.out HP.out.2)
            go_wp2_with fail
            go_roundw
            case rel => exact ⟨j + 1, by omega, by go_num, HST2.out, HZ.out⟩
            case measure => simp [intOf]; omega
    · obtain rfl : k = l.length := by omega
      by_cases h96 : l.length ≤ 96
      · have HY : Hid (rightB l = true) := Lib.hid (right_of h96 HR.out.1)
        go_wp2
        go_ret
        exact ⟨ret_bool (by rw [HY.out]; exact decide_eq_true (by omega)), HR.out.2⟩
      · have HY : Hid (rightB l = false) := Lib.hid (right_long (by omega))
        go_wp2
        go_ret
        exact ⟨ret_bool (by rw [HY.out]; exact decide_eq_false (by omega)), HR.out.2⟩
end Go.Proofs.Ytncaohdnbibkfaa.Timer
