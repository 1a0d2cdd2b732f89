/-
  The reference: Right.
-/
import Derived.Test.YtjmmijobdcepmaaORefA
namespace Go.Proofs.Ytjmmijobdcepmaa.Order
open Go.ChangeShapes Go.WideShapes Go.ChangeAt Go.RowKit
open Go.Proofs.Ytjmmijobdcepmaa.Pay (Py RightP UnitP TimeP GoodP)
open Go.Proofs.Ytjmmijobdcepmaa.Ask (As RightA)
open Go.Proofs.Ytjmmijobdcepmaa.Goods (nameB)

theorem bare_eq (o : Od) : decide (BareP o) = (decide (o.l = noL) && !o.en) := by
  unfold BareP
  rcases o with ⟨_, _, _, _, _, _, _, _, _, _, _, _, _, en⟩
  cases en <;> simp
theorem num_eq (o : Od) : decide (NumP o) = (inB o.n 1 1073741824 && (inB o.p 1 1073741824 && (inB o.d 0 o.n && inB o.c 0 1099511627776))) := by
  rw [Bool.eq_iff_iff]
  simp only [Bool.and_eq_true, decide_eq_true_eq, inB_t]
  unfold NumP UnitP TimeP
  exact ⟨fun ⟨a, b, c, d, e⟩ => ⟨a, b, ⟨c, d⟩, e⟩, fun ⟨a, b, ⟨c, d⟩, e⟩ => ⟨a, b, c, d, e⟩⟩
theorem money_eq (o : Od) : decide (MoneyP o) = (Pay.rightB o.py && ((o.py.a == o.n * o.p) && (o.py.c == o.d * o.p))) := by
  rw [Bool.eq_iff_iff]
  simp only [Bool.and_eq_true, decide_eq_true_eq, beq_iff_eq]
  rw [Pay.rightB_t]
  rfl
theorem right_eq2 (o : Od) : rightB o = (Queue.mayB ⟨o.cl, o.sq, o.id⟩ && (nameB o.k && (inB o.n 1 1073741824 && (inB o.p 1 1073741824 && (inB o.d 0 o.n && (inB o.c 0 1099511627776 && (Pay.rightB o.py && (Ask.rightB o.ak && ((o.py.a == o.n * o.p) && ((o.py.c == o.d * o.p) && decide (PhaseP o))))))))))) := by
  rw [right_eq, num_eq, money_eq]
  have e : decide (WaitP o) = Queue.mayB ⟨o.cl, o.sq, o.id⟩ := rfl
  rw [e]
  cases Queue.mayB ⟨o.cl, o.sq, o.id⟩ <;> cases nameB o.k <;> cases inB o.n 1 1073741824 <;> cases inB o.p 1 1073741824 <;> cases inB o.d 0 o.n <;> cases inB o.c 0 1099511627776 <;> cases Pay.rightB o.py <;> cases Ask.rightB o.ak <;> simp [Bool.and_assoc]

/-- What is asked first. -/
def firstB (o : Od) : Bool := Queue.mayB ⟨o.cl, o.sq, o.id⟩ && (nameB o.k && (inB o.n 1 1073741824 && (inB o.p 1 1073741824 && (inB o.d 0 o.n && inB o.c 0 1099511627776))))
theorem firstB_num {o : Od} (h : firstB o = true) : NumP o := by
  unfold firstB at h
  simp only [Bool.and_eq_true] at h
  obtain ⟨_, _, a, b, c, d⟩ := h
  exact ⟨inB_t.1 a, inB_t.1 b, (inB_t.1 c).1, (inB_t.1 c).2, inB_t.1 d⟩

set_option maxRecDepth 100000 in
set_option maxHeartbeats 4000000 in
theorem refRight_first (o : Od) (h : Fits o) (hg : firstB o = false) (w : World) : Calls Try.prog 10 #[ov o] w (BoolB false w) := by
  have hx := order_box w o 29
  have hb := al w (.cells (ocs o).toArray 29)
  obtain ⟨W1, hW1⟩ : ∃ W, w.alloc (.cells #[.int .i64 o.id, .string o.k, .int .i64 o.cl, .int .i64 o.sq, .int .i64 o.n, .int .i64 o.d, .int .i64 o.p, .int .i64 o.c, .bool o.sp, .int .i64 o.ph, .string o.l.k, .int .i64 o.l.u, .int .i64 o.l.c, .int .i64 o.l.y, .int .i64 o.py.a, .int .i64 o.py.c, .int .i64 o.py.u, .int .i64 o.py.s, .int .i64 o.ak.s, .int .i64 o.ak.u, .bool o.en] 29) = W := ⟨_, rfl⟩
  have HX : Hid (Box w.heap.size (ocs o) W1) := Lib.hid (hW1 ▸ hx)
  have HB : Hid (Below w.heap.size w W1) := Lib.hid (hW1 ▸ hb)
  clear hx hb
  have H1 := Lib.hid (refMay_any ⟨o.cl, o.sq, o.id⟩)
  have H2 := Lib.hid (Goods.refName_any o.k h.1)
  have C1 := Lib.hid (in_any o.n 1 1073741824)
  have C2 := Lib.hid (in_any o.p 1 1073741824)
  have C3 := Lib.hid (in_any o.d 0 o.n)
  have C4 := Lib.hid (in_any o.c 0 1099511627776)
  have HG1 := hg
  unfold firstB at HG1
  clear h hg
  generalize Queue.mayB ⟨o.cl, o.sq, o.id⟩ = b1 at H1 HG1
  generalize nameB o.k = b2 at H2 HG1
  generalize inB o.n 1 1073741824 = c1 at C1 HG1
  generalize inB o.p 1 1073741824 = c2 at C2 HG1
  generalize inB o.d 0 o.n = c3 at C3 HG1
  generalize inB o.c 0 1099511627776 = c4 at C4 HG1
  unfold Queue.wv at H1
  unfold ov
  cases b1 with
  | false =>
    clear HG1
    go_enter Try.func10, Try.ntmps10
    go_upto_region 1 with (fail)
    clear hW1
    have y0 := HX.out.at 0 rfl
    have y2 := HX.out.at 2 rfl
    have y3 := HX.out.at 3 rfl
    have hs1 := HX.out.1
    go_wp2_with (first | (go_at_call 25; (with_reducible refine (H1.out _).mono ?_); rintro e w' ⟨rfl, hz⟩; replace HB := Lib.hid (below_trans HB.out hz); replace HX := Lib.hid (HX.out.below hz); clear hz; have y1 := HX.out.at 1 rfl; have y4 := HX.out.at 4 rfl; have y5 := HX.out.at 5 rfl; have y6 := HX.out.at 6 rfl; have y7 := HX.out.at 7 rfl; have hs1 := HX.out.1) | (go_at_call 26; (with_reducible refine (H2.out _).mono ?_); rintro e w' ⟨rfl, hz⟩; replace HB := Lib.hid (below_trans HB.out hz); replace HX := Lib.hid (HX.out.below hz); clear hz; have y1 := HX.out.at 1 rfl; have y4 := HX.out.at 4 rfl; have y5 := HX.out.at 5 rfl; have y6 := HX.out.at 6 rfl; have y7 := HX.out.at 7 rfl; have hs1 := HX.out.1) | (go_at_call 24; (with_reducible refine (C1.out _).mono ?_); rintro e w' ⟨rfl, rfl⟩) | (go_at_call 24; (with_reducible refine (C2.out _).mono ?_); rintro e w' ⟨rfl, rfl⟩) | (go_at_call 24; (with_reducible refine (C3.out _).mono ?_); rintro e w' ⟨rfl, rfl⟩) | (go_at_call 24; (with_reducible refine (C4.out _).mono ?_); rintro e w' ⟨rfl, rfl⟩))
    go_ret
    exact ⟨rfl, HB.out⟩
  | true =>
    cases b2 with
    | false =>
      clear HG1
      go_enter Try.func10, Try.ntmps10
      go_upto_region 1 with (fail)
      clear hW1
      have y0 := HX.out.at 0 rfl
      have y2 := HX.out.at 2 rfl
      have y3 := HX.out.at 3 rfl
      have hs1 := HX.out.1
      go_wp2_with (first | (go_at_call 25; (with_reducible refine (H1.out _).mono ?_); rintro e w' ⟨rfl, hz⟩; replace HB := Lib.hid (below_trans HB.out hz); replace HX := Lib.hid (HX.out.below hz); clear hz; have y1 := HX.out.at 1 rfl; have y4 := HX.out.at 4 rfl; have y5 := HX.out.at 5 rfl; have y6 := HX.out.at 6 rfl; have y7 := HX.out.at 7 rfl; have hs1 := HX.out.1) | (go_at_call 26; (with_reducible refine (H2.out _).mono ?_); rintro e w' ⟨rfl, hz⟩; replace HB := Lib.hid (below_trans HB.out hz); replace HX := Lib.hid (HX.out.below hz); clear hz; have y1 := HX.out.at 1 rfl; have y4 := HX.out.at 4 rfl; have y5 := HX.out.at 5 rfl; have y6 := HX.out.at 6 rfl; have y7 := HX.out.at 7 rfl; have hs1 := HX.out.1) | (go_at_call 24; (with_reducible refine (C1.out _).mono ?_); rintro e w' ⟨rfl, rfl⟩) | (go_at_call 24; (with_reducible refine (C2.out _).mono ?_); rintro e w' ⟨rfl, rfl⟩) | (go_at_call 24; (with_reducible refine (C3.out _).mono ?_); rintro e w' ⟨rfl, rfl⟩) | (go_at_call 24; (with_reducible refine (C4.out _).mono ?_); rintro e w' ⟨rfl, rfl⟩))
      go_ret
      exact ⟨rfl, HB.out⟩
    | true =>
      cases c1 with
      | false =>
        clear HG1
        go_enter Try.func10, Try.ntmps10
        go_upto_region 1 with (fail)
        clear hW1
        have y0 := HX.out.at 0 rfl
        have y2 := HX.out.at 2 rfl
        have y3 := HX.out.at 3 rfl
        have hs1 := HX.out.1
        go_wp2_with (first | (go_at_call 25; (with_reducible refine (H1.out _).mono ?_); rintro e w' ⟨rfl, hz⟩; replace HB := Lib.hid (below_trans HB.out hz); replace HX := Lib.hid (HX.out.below hz); clear hz; have y1 := HX.out.at 1 rfl; have y4 := HX.out.at 4 rfl; have y5 := HX.out.at 5 rfl; have y6 := HX.out.at 6 rfl; have y7 := HX.out.at 7 rfl; have hs1 := HX.out.1) | (go_at_call 26; (with_reducible refine (H2.out _).mono ?_); rintro e w' ⟨rfl, hz⟩; replace HB := Lib.hid (below_trans HB.out hz); replace HX := Lib.hid (HX.out.below hz); clear hz; have y1 := HX.out.at 1 rfl; have y4 := HX.out.at 4 rfl; have y5 := HX.out.at 5 rfl; have y6 := HX.out.at 6 rfl; have y7 := HX.out.at 7 rfl; have hs1 := HX.out.1) | (go_at_call 24; (with_reducible refine (C1.out _).mono ?_); rintro e w' ⟨rfl, rfl⟩) | (go_at_call 24; (with_reducible refine (C2.out _).mono ?_); rintro e w' ⟨rfl, rfl⟩) | (go_at_call 24; (with_reducible refine (C3.out _).mono ?_); rintro e w' ⟨rfl, rfl⟩) | (go_at_call 24; (with_reducible refine (C4.out _).mono ?_); rintro e w' ⟨rfl, rfl⟩))
        go_ret
        exact ⟨rfl, HB.out⟩
      | true =>
        cases c2 with
        | false =>
          clear HG1
          go_enter Try.func10, Try.ntmps10
          go_upto_region 1 with (fail)
          clear hW1
          have y0 := HX.out.at 0 rfl
          have y2 := HX.out.at 2 rfl
          have y3 := HX.out.at 3 rfl
          have hs1 := HX.out.1
          go_wp2_with (first | (go_at_call 25; (with_reducible refine (H1.out _).mono ?_); rintro e w' ⟨rfl, hz⟩; replace HB := Lib.hid (below_trans HB.out hz); replace HX := Lib.hid (HX.out.below hz); clear hz; have y1 := HX.out.at 1 rfl; have y4 := HX.out.at 4 rfl; have y5 := HX.out.at 5 rfl; have y6 := HX.out.at 6 rfl; have y7 := HX.out.at 7 rfl; have hs1 := HX.out.1) | (go_at_call 26; (with_reducible refine (H2.out _).mono ?_); rintro e w' ⟨rfl, hz⟩; replace HB := Lib.hid (below_trans HB.out hz); replace HX := Lib.hid (HX.out.below hz); clear hz; have y1 := HX.out.at 1 rfl; have y4 := HX.out.at 4 rfl; have y5 := HX.out.at 5 rfl; have y6 := HX.out.at 6 rfl; have y7 := HX.out.at 7 rfl; have hs1 := HX.out.1) | (go_at_call 24; (with_reducible refine (C1.out _).mono ?_); rintro e w' ⟨rfl, rfl⟩) | (go_at_call 24; (with_reducible refine (C2.out _).mono ?_); rintro e w' ⟨rfl, rfl⟩) | (go_at_call 24; (with_reducible refine (C3.out _).mono ?_); rintro e w' ⟨rfl, rfl⟩) | (go_at_call 24; (with_reducible refine (C4.out _).mono ?_); rintro e w' ⟨rfl, rfl⟩))
          go_ret
          exact ⟨rfl, HB.out⟩
        | true =>
          cases c3 with
          | false =>
            clear HG1
            go_enter Try.func10, Try.ntmps10
            go_upto_region 1 with (fail)
            clear hW1
            have y0 := HX.out.at 0 rfl
            have y2 := HX.out.at 2 rfl
            have y3 := HX.out.at 3 rfl
            have hs1 := HX.out.1
            go_wp2_with (first | (go_at_call 25; (with_reducible refine (H1.out _).mono ?_); rintro e w' ⟨rfl, hz⟩; replace HB := Lib.hid (below_trans HB.out hz); replace HX := Lib.hid (HX.out.below hz); clear hz; have y1 := HX.out.at 1 rfl; have y4 := HX.out.at 4 rfl; have y5 := HX.out.at 5 rfl; have y6 := HX.out.at 6 rfl; have y7 := HX.out.at 7 rfl; have hs1 := HX.out.1) | (go_at_call 26; (with_reducible refine (H2.out _).mono ?_); rintro e w' ⟨rfl, hz⟩; replace HB := Lib.hid (below_trans HB.out hz); replace HX := Lib.hid (HX.out.below hz); clear hz; have y1 := HX.out.at 1 rfl; have y4 := HX.out.at 4 rfl; have y5 := HX.out.at 5 rfl; have y6 := HX.out.at 6 rfl; have y7 := HX.out.at 7 rfl; have hs1 := HX.out.1) | (go_at_call 24; (with_reducible refine (C1.out _).mono ?_); rintro e w' ⟨rfl, rfl⟩) | (go_at_call 24; (with_reducible refine (C2.out _).mono ?_); rintro e w' ⟨rfl, rfl⟩) | (go_at_call 24; (with_reducible refine (C3.out _).mono ?_); rintro e w' ⟨rfl, rfl⟩) | (go_at_call 24; (with_reducible refine (C4.out _).mono ?_); rintro e w' ⟨rfl, rfl⟩))
            go_ret
            exact ⟨rfl, HB.out⟩
          | true =>
            cases c4 with
            | false =>
              clear HG1
              go_enter Try.func10, Try.ntmps10
              go_upto_region 1 with (fail)
              clear hW1
              have y0 := HX.out.at 0 rfl
              have y2 := HX.out.at 2 rfl
              have y3 := HX.out.at 3 rfl
              have hs1 := HX.out.1
              go_wp2_with (first | (go_at_call 25; (with_reducible refine (H1.out _).mono ?_); rintro e w' ⟨rfl, hz⟩; replace HB := Lib.hid (below_trans HB.out hz); replace HX := Lib.hid (HX.out.below hz); clear hz; have y1 := HX.out.at 1 rfl; have y4 := HX.out.at 4 rfl; have y5 := HX.out.at 5 rfl; have y6 := HX.out.at 6 rfl; have y7 := HX.out.at 7 rfl; have hs1 := HX.out.1) | (go_at_call 26; (with_reducible refine (H2.out _).mono ?_); rintro e w' ⟨rfl, hz⟩; replace HB := Lib.hid (below_trans HB.out hz); replace HX := Lib.hid (HX.out.below hz); clear hz; have y1 := HX.out.at 1 rfl; have y4 := HX.out.at 4 rfl; have y5 := HX.out.at 5 rfl; have y6 := HX.out.at 6 rfl; have y7 := HX.out.at 7 rfl; have hs1 := HX.out.1) | (go_at_call 24; (with_reducible refine (C1.out _).mono ?_); rintro e w' ⟨rfl, rfl⟩) | (go_at_call 24; (with_reducible refine (C2.out _).mono ?_); rintro e w' ⟨rfl, rfl⟩) | (go_at_call 24; (with_reducible refine (C3.out _).mono ?_); rintro e w' ⟨rfl, rfl⟩) | (go_at_call 24; (with_reducible refine (C4.out _).mono ?_); rintro e w' ⟨rfl, rfl⟩))
              go_ret
              exact ⟨rfl, HB.out⟩
            | true =>
              cases HG1
end Go.Proofs.Ytjmmijobdcepmaa.Order
