/-
  Contracts of package net's Right and of the law's own: which nets may be.
-/
import Derived.Test.YtkfjhfneagjejaaNBase
import Derived.Deep.CutRange
namespace Go.Proofs.Ytkfjhfneagjejaa.Net
open Go.ChangeShapes Go.WideShapes Go.ChangeAt Go.RowKit Go.Shelf Go.Lib
open Go.Proofs.Ytkfjhfneagjejaa.Queue (Box al dr below_trans ret_bool BoolB)

/-- So far each may be. -/
def Good (l : List Pc) (t : Int) (k : Nat) : Prop := ∀ j (h : j < l.length), j < k → MayP l[j] ∧ 1 ≤ l[j].n ∧ l[j].n ≤ t
theorem good_succ {l : List Pc} {t : Int} {k : Nat} (h : Good l t k) (hk : k < l.length) (h1 : mayB l[k] = true) (h2 : ¬ l[k].n < 1) (h3 : ¬ l[k].n > t) : Good l t (k + 1) := fun j hj hjk => by
  by_cases e : j = k
  · subst e
    exact ⟨mayB_t.1 h1, by omega, by omega⟩
  · exact h j hj (by omega)
theorem bad_may {l : List Pc} {t : Int} {k : Nat} (hk : k < l.length) (h : mayB l[k] = false) : rightB l t = false := right_no hk (fun e => mayB_f.1 h e.1)
theorem bad_low {l : List Pc} {t : Int} {k : Nat} (hk : k < l.length) (h : l[k].n < 1) : rightB l t = false := right_no hk (fun e => by have := e.2.1; omega)
theorem bad_high {l : List Pc} {t : Int} {k : Nat} (hk : k < l.length) (h : l[k].n > t) : rightB l t = false := right_no hk (fun e => by have := e.2.2; omega)
def SeenR (l : List Pc) (t : Int) (v : Value) (k : Nat) (w W : World) : Prop := Good l t k ∧ Below w.heap.size w W ∧ Box w.heap.size (tcs v t) W

set_option maxRecDepth 100000 in
set_option maxHeartbeats 4000000 in
theorem Right_any {v : Value} {l : List Pc} {w : World} (t : Int) (h : NRow w v l) : Calls Try.prog 11 #[tv v t] w (BoolB (rightB l t) w) := by
  obtain ⟨a, cap, rfl⟩ := h.slice
  have H := Lib.hid h
  have hx0 := Box.made w (tcs (.slice a l.length cap) t) 24
  have hb0 := al w (.cells #[.slice a l.length cap, .int .i64 t] 24)
  obtain ⟨W0, hW0⟩ : ∃ W, w.alloc (.cells #[.slice a l.length cap, .int .i64 t] 24) = W := ⟨_, rfl⟩
  have HX0 : Hid (Box w.heap.size (tcs (.slice a l.length cap) t) W0) := Lib.hid (hW0 ▸ hx0)
  have HB0 : Hid (Below w.heap.size w W0) := Lib.hid (hW0 ▸ hb0)
  unfold tv
  clear h hx0 hb0
  by_cases h64 : (l.length : Int) > 64
  · rw [right_long (by omega)]
    go_enter Try.func11, Try.ntmps11
    go_upto_region 1 with (fail)
    clear hW0
    obtain ⟨c0, c1⟩ := box2 HX0.out
    have hs0 := HX0.out.1
    go_wp2_with fail
    go_ret
    exact ⟨rfl, HB0.out⟩
  have H64 : Hid (l.length ≤ 64) := Lib.hid (by omega)
  by_cases ht0 : t < 0
  · rw [right_last (by omega)]
    go_enter Try.func11, Try.ntmps11
    go_upto_region 1 with (fail)
    clear hW0
    obtain ⟨c0, c1⟩ := box2 HX0.out
    have hs0 := HX0.out.1
    go_wp2_with fail
    go_ret
    exact ⟨rfl, HB0.out⟩
  by_cases ht1 : t > 1099511627776
  · rw [right_last (by omega)]
    go_enter Try.func11, Try.ntmps11
    go_upto_region 1 with (fail)
    clear hW0
    obtain ⟨c0, c1⟩ := box2 HX0.out
    have hs0 := HX0.out.1
    go_wp2_with fail
    go_ret
    exact ⟨rfl, HB0.out⟩
  have HT : Hid (0 ≤ t ∧ t ≤ 1099511627776) := Lib.hid (by omega)
  go_enter Try.func11, Try.ntmps11
  go_upto_region 1 with (fail)
  clear hW0
  obtain ⟨c0, c1⟩ := box2 HX0.out
  have hs0 := HX0.out.1
  go_wp2_with fail
  clear c0 c1 hs0
  go_loopw [4, 22] (fun _ i wr => ∃ k : Nat, k ≤ l.length ∧ i = .int .i64 k ∧ SeenR l t (.slice a l.length cap) k w wr) (fun _ i _ => l.length - (Go.RowKit.intOf i).toNat)
  case atStart => exact ⟨0, Nat.zero_le _, rfl, fun _ _ h => by omega, HB0.out, HX0.out⟩
  case round =>
    obtain ⟨k, hk, rfl, hr⟩ := hrel
    have HR := Lib.hid hr
    clear hr
    by_cases hlt : k < l.length
    · obtain ⟨_, hlc, hcap⟩ := NRow.cap H.out
      have c1 : (0 : Int) ≤ k := by omega
      have c3 : (k : Int) ≤ cap := by omega
      obtain ⟨b, off, ea, _, _, hb, k0, k1, k2, k3, k4, k5⟩ := (H.out.below HR.out.2.1).at hlt
      subst ea
      have hbx := Box.made wr (ncs l[k]) 26
      have hb1 := al wr (.cells (ncs l[k]).toArray 26)
      have HM := Lib.hid (fun W => mayBe_any l[k] W)
      have HST := Lib.hid (good_succ HR.out.1 hlt)
      have HNM := Lib.hid (bad_may (t := t) hlt)
      have HNL := Lib.hid (bad_low (t := t) hlt)
      have HNH := Lib.hid (bad_high (t := t) hlt)
      generalize l[k] = x at *
      obtain ⟨W1, hW1⟩ : ∃ W, wr.alloc (.cells #[.int .i64 x.n, .bool x.b, .int .i64 x.y, .int .i64 x.k, .int .i64 x.o, .bool x.s] 26) = W := ⟨_, rfl⟩
      have HX1 : Hid (Box wr.heap.size (ncs x) W1) := Lib.hid (hW1 ▸ hbx)
      have HD1 : Hid (Below wr.heap.size wr W1) := Lib.hid (hW1 ▸ hb1)
      have HXB := Lib.hid (HR.out.2.2.below HD1.out)
      have HB1 := Lib.hid (below_trans HR.out.2.1 HD1.out)
      unfold nv at HM
      generalize mayB x = m at *
      clear hbx hb1
      go_upto_region 6 with (fail)
      try rw [hW1]
      clear hW1 k0 k1 k2 k3 k4 k5
      obtain ⟨d0, d1, d2, d3, d4, d5⟩ := box6 HX1.out
      have hds := HX1.out.1
      go_wp2_with fail
      (with_reducible refine (HM.out _).mono ?_)
      rintro e W2 ⟨rfl, hz⟩
      have HX2 := Lib.hid (HX1.out.below hz)
      have HXB2 := Lib.hid (HXB.out.below hz)
      have HB2 := Lib.hid (below_trans HB1.out hz)
      clear hz d0 d1 d2 d3 d4 d5 hds HX1 HXB HB1
      obtain ⟨d0, d1, d2, d3, d4, d5⟩ := box6 HX2.out
      have hds := HX2.out.1
      obtain ⟨e0, e1⟩ := box2 HXB2.out
      have hes := HXB2.out.1
      cases m with
      | false =>
        have HN := Lib.hid (HNM.out rfl)
        go_wp2_with fail
        go_ret
        exact ⟨ret_bool HN.out.symm, HB2.out⟩
      | true =>
        by_cases g1 : x.n < 1
        · have HN := Lib.hid (HNL.out g1)
          go_wp2_with fail
          go_ret
          exact ⟨ret_bool HN.out.symm, HB2.out⟩
        · by_cases g2 : x.n > t
          · have HN := Lib.hid (HNH.out g2)
            go_wp2_with fail
            go_ret
            exact ⟨ret_bool HN.out.symm, HB2.out⟩
          · have HG := Lib.hid (HST.out rfl (by omega) (by omega))
            go_wp2_with fail
            go_roundw
            case rel => exact ⟨k + 1, by omega, by go_num, HG.out, HB2.out, HXB2.out⟩
            case measure => simp [Go.RowKit.intOf]; omega
    · obtain rfl : k = l.length := by omega
      have HA := Lib.hid (right_of H64.out HT.out (fun i hi => HR.out.1 i hi hi))
      go_wp2
      go_ret
      exact ⟨ret_bool HA.out.symm, HR.out.2.1⟩

theorem law_right {l : List Pc} {t : Int} (h : Good l t l.length) : (decide ((l.length : Int) ≤ 64) && (decide (t = 0) || decide (numP t))) = rightB l t := by
  rw [Bool.eq_iff_iff, rightB_t]
  simp only [Bool.and_eq_true, Bool.or_eq_true, decide_eq_true_eq]
  unfold numP
  constructor
  · rintro ⟨h1, h2⟩
    exact rightB_t.1 (right_of (by omega) (by omega) fun i hi => h i hi hi)
  · intro hr
    have h1 := hr.1
    have h2 := hr.2.1
    exact ⟨by omega, by omega⟩
set_option maxRecDepth 100000 in
set_option maxHeartbeats 4000000 in
theorem lawRight_any {v : Value} {l : List Pc} {w : World} (t : Int) (h : NRow w v l) : Calls Try.prog 12 #[tv v t] w (BoolB (rightB l t) w) := by
  obtain ⟨a, cap, rfl⟩ := h.slice
  have H := Lib.hid h
  have hx0 := Box.made w (tcs (.slice a l.length cap) t) 24
  have hb0 := al w (.cells #[.slice a l.length cap, .int .i64 t] 24)
  obtain ⟨W0, hW0⟩ : ∃ W, w.alloc (.cells #[.slice a l.length cap, .int .i64 t] 24) = W := ⟨_, rfl⟩
  have HX0 : Hid (Box w.heap.size (tcs (.slice a l.length cap) t) W0) := Lib.hid (hW0 ▸ hx0)
  have HB0 : Hid (Below w.heap.size w W0) := Lib.hid (hW0 ▸ hb0)
  have HIN := Lib.hid (in_any t)
  unfold tv
  clear h hx0 hb0
  go_enter Try.func12, Try.ntmps12
  go_upto_region 1 with (fail)
  clear hW0
  obtain ⟨c0, c1⟩ := box2 HX0.out
  have hs0 := HX0.out.1
  go_wp2_with fail
  clear c0 c1 hs0
  go_loopw [4, 8] (fun _ i wr => ∃ k : Nat, k ≤ l.length ∧ i = .int .i64 k ∧ SeenR l t (.slice a l.length cap) k w wr) (fun _ i _ => l.length - (Go.RowKit.intOf i).toNat)
  case atStart => exact ⟨0, Nat.zero_le _, rfl, fun _ _ h => by omega, HB0.out, HX0.out⟩
  case round =>
    obtain ⟨k, hk, rfl, hr⟩ := hrel
    have HR := Lib.hid hr
    clear hr
    by_cases hlt : k < l.length
    · obtain ⟨_, hlc, hcap⟩ := NRow.cap H.out
      have c1 : (0 : Int) ≤ k := by omega
      have c3 : (k : Int) ≤ cap := by omega
      obtain ⟨b, off, ea, _, _, hb, k0, k1, k2, k3, k4, k5⟩ := (H.out.below HR.out.2.1).at hlt
      subst ea
      have hbx := Box.made wr (ncs l[k]) 26
      have hb1 := al wr (.cells (ncs l[k]).toArray 26)
      have HM := Lib.hid (fun W => may_any l[k] W)
      have HST := Lib.hid (good_succ HR.out.1 hlt)
      have HNM := Lib.hid (bad_may (t := t) hlt)
      have HNL := Lib.hid (bad_low (t := t) hlt)
      have HNH := Lib.hid (bad_high (t := t) hlt)
      generalize l[k] = x at *
      obtain ⟨W1, hW1⟩ : ∃ W, wr.alloc (.cells #[.int .i64 x.n, .bool x.b, .int .i64 x.y, .int .i64 x.k, .int .i64 x.o, .bool x.s] 26) = W := ⟨_, rfl⟩
      have HX1 : Hid (Box wr.heap.size (ncs x) W1) := Lib.hid (hW1 ▸ hbx)
      have HD1 : Hid (Below wr.heap.size wr W1) := Lib.hid (hW1 ▸ hb1)
      have HXB := Lib.hid (HR.out.2.2.below HD1.out)
      have HB1 := Lib.hid (below_trans HR.out.2.1 HD1.out)
      unfold nv at HM
      generalize mayB x = m at *
      clear hbx hb1
      go_upto_region 4 with (fail)
      try rw [hW1]
      clear hW1 k0 k1 k2 k3 k4 k5
      obtain ⟨d0, d1, d2, d3, d4, d5⟩ := box6 HX1.out
      have hds := HX1.out.1
      go_wp2_with fail
      (with_reducible refine (HM.out _).mono ?_)
      rintro e W2 ⟨rfl, hz⟩
      have HX2 := Lib.hid (HX1.out.below hz)
      have HXB2 := Lib.hid (HXB.out.below hz)
      have HB2 := Lib.hid (below_trans HB1.out hz)
      clear hz d0 d1 d2 d3 d4 d5 hds HX1 HXB HB1
      obtain ⟨d0, d1, d2, d3, d4, d5⟩ := box6 HX2.out
      have hds := HX2.out.1
      obtain ⟨e0, e1⟩ := box2 HXB2.out
      have hes := HXB2.out.1
      cases m with
      | false =>
        have HN := Lib.hid (HNM.out rfl)
        go_wp2_with fail
        go_ret
        exact ⟨ret_bool HN.out.symm, HB2.out⟩
      | true =>
        by_cases g1 : x.n < 1
        · have HN := Lib.hid (HNL.out g1)
          go_wp2_with fail
          go_ret
          exact ⟨ret_bool HN.out.symm, HB2.out⟩
        · by_cases g2 : x.n > t
          · have HN := Lib.hid (HNH.out g2)
            go_wp2_with fail
            go_ret
            exact ⟨ret_bool HN.out.symm, HB2.out⟩
          · have HG := Lib.hid (HST.out rfl (by omega) (by omega))
            go_wp2_with fail
            go_roundw
            case rel => exact ⟨k + 1, by omega, by go_num, HG.out, HB2.out, HXB2.out⟩
            case measure => simp [Go.RowKit.intOf]; omega
    · obtain rfl : k = l.length := by omega
      have HA := Lib.hid (law_right HR.out.1)
      obtain ⟨c0, c1⟩ := box2 HR.out.2.2
      have hs0 := HR.out.2.2.1
      by_cases g0 : (l.length : Int) ≤ 64
      · by_cases g1 : t = 0
        · have g2 : (t == 0) = true := by simpa using g1
          have HF : Hid (rightB l t = true) := Lib.hid (HA.out ▸ by simp [g0, g1])
          clear g1
          go_wp2_with (go_at_call 20; (with_reducible refine (HIN.out _).mono ?_); rintro e w' ⟨rfl, rfl⟩)
          go_ret
          exact ⟨ret_bool HF.out.symm, HR.out.2.1⟩
        · have g2 : (t == 0) = false := by simpa using g1
          have HF : Hid (rightB l t = decide (numP t)) := Lib.hid (HA.out ▸ by simp [g0, g1])
          clear g1
          generalize decide (numP t) = q at *
          go_wp2_with (go_at_call 20; (with_reducible refine (HIN.out _).mono ?_); rintro e w' ⟨rfl, rfl⟩)
          go_ret
          exact ⟨ret_bool HF.out.symm, HR.out.2.1⟩
      · have HF : Hid (rightB l t = false) := Lib.hid (HA.out ▸ by simp [g0])
        go_wp2_with (go_at_call 20; (with_reducible refine (HIN.out _).mono ?_); rintro e w' ⟨rfl, rfl⟩)
        go_ret
        exact ⟨(by first | exact ret_bool HF.out.symm | (refine ret_bool ?_; rw [HF.out]; exact decide_eq_false (by omega))), HR.out.2.1⟩
end Go.Proofs.Ytkfjhfneagjejaa.Net
