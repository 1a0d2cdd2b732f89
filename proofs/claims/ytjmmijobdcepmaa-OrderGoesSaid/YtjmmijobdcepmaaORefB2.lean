/-
  The reference: Right, its money and asking.
-/
import Derived.Test.YtjmmijobdcepmaaORefB
namespace Go.Proofs.Ytjmmijobdcepmaa.Order
open Go.ChangeShapes Go.WideShapes Go.ChangeAt Go.RowKit
open Go.Proofs.Ytjmmijobdcepmaa.Pay (Py RightP UnitP TimeP GoodP)
open Go.Proofs.Ytjmmijobdcepmaa.Ask (As RightA)
open Go.Proofs.Ytjmmijobdcepmaa.Goods (nameB)

def nextB (o : Od) : Bool := Pay.rightB o.py && (Ask.rightB o.ak && ((o.py.a == o.n * o.p) && (o.py.c == o.d * o.p)))
theorem right_eq3 (o : Od) : rightB o = (firstB o && (nextB o && decide (PhaseP o))) := by
  rw [right_eq2]
  unfold firstB nextB
  simp only [Bool.and_assoc]

set_option maxRecDepth 100000 in
set_option maxHeartbeats 4000000 in
theorem refRight_next (o : Od) (h : Fits o) (hg : firstB o = true) (hn : nextB o = false) (w : World) : Calls Try.prog 10 #[ov o] w (BoolB false w) := by
  have hx := order_box w o 29
  have hb := al w (.cells (ocs o).toArray 29)
  obtain ⟨W1, hW1⟩ : ∃ W, w.alloc (.cells #[.int .i64 o.id, .string o.k, .int .i64 o.cl, .int .i64 o.sq, .int .i64 o.n, .int .i64 o.d, .int .i64 o.p, .int .i64 o.c, .bool o.sp, .int .i64 o.ph, .string o.l.k, .int .i64 o.l.u, .int .i64 o.l.c, .int .i64 o.l.y, .int .i64 o.py.a, .int .i64 o.py.c, .int .i64 o.py.u, .int .i64 o.py.s, .int .i64 o.ak.s, .int .i64 o.ak.u, .bool o.en] 29) = W := ⟨_, rfl⟩
  have HX : Hid (Box w.heap.size (ocs o) W1) := Lib.hid (hW1 ▸ hx)
  have HB : Hid (Below w.heap.size w W1) := Lib.hid (hW1 ▸ hb)
  clear hx hb
  have H1 := Lib.hid (refMay_any ⟨o.cl, o.sq, o.id⟩)
  have H2 := Lib.hid (Goods.refName_any o.k h.1)
  have C1 := Lib.hid (in_any o.n 1 1073741824)
  have C2 := Lib.hid (in_any o.p 1 1073741824)
  have C3 := Lib.hid (in_any o.d 0 o.n)
  have C4 := Lib.hid (in_any o.c 0 1099511627776)
  have H3 := Lib.hid (refPay_any o.py)
  have H4 := Lib.hid (refAsk_any o.ak)
  have hnp := firstB_num hg
  have H6 := Lib.hid (refLoad_any o hnp h.2)
  obtain ⟨m1, m2, m3, m4⟩ := hnp.mul
  have hw1 : IntKind.i64.wrap (o.n * o.p) = o.n * o.p := IntWalk.i64_in _ (by omega)
  have hw2 : IntKind.i64.wrap (o.d * o.p) = o.d * o.p := IntWalk.i64_in _ (by omega)
  clear m1 m2 m3 m4 hnp
  have HG1 := hg
  unfold firstB at HG1
  generalize Queue.mayB ⟨o.cl, o.sq, o.id⟩ = b1 at H1 HG1
  generalize nameB o.k = b2 at H2 HG1
  generalize inB o.n 1 1073741824 = c1 at C1 HG1
  generalize inB o.p 1 1073741824 = c2 at C2 HG1
  generalize inB o.d 0 o.n = c3 at C3 HG1
  generalize inB o.c 0 1099511627776 = c4 at C4 HG1
  simp only [Bool.and_eq_true] at HG1
  obtain ⟨rfl, rfl, rfl, rfl, rfl, rfl⟩ := HG1
  have hbn : ∀ a b : Int, (a != b) = !(a == b) := fun _ _ => rfl
  have HN := hn
  unfold nextB at HN
  generalize Pay.rightB o.py = b3 at H3 HN
  generalize Ask.rightB o.ak = b4 at H4 HN
  clear h hg hn H6
  unfold Queue.wv at H1
  unfold Pay.pv at H3
  unfold Ask.av at H4
  unfold ov
  go_enter Try.func10, Try.ntmps10
  go_upto_region 1 with (fail)
  clear hW1
  have y0 := HX.out.at 0 rfl
  have y2 := HX.out.at 2 rfl
  have y3 := HX.out.at 3 rfl
  have hs1 := HX.out.1
  go_upto_region 3 with (first | (go_at_call 25; (with_reducible refine (H1.out _).mono ?_); rintro e w' ⟨rfl, hz⟩; replace HB := Lib.hid (below_trans HB.out hz); replace HX := Lib.hid (HX.out.below hz); clear hz; have y1 := HX.out.at 1 rfl; have y4 := HX.out.at 4 rfl; have y5 := HX.out.at 5 rfl; have y6 := HX.out.at 6 rfl; have y7 := HX.out.at 7 rfl; have hs1 := HX.out.1) | (go_at_call 26; (with_reducible refine (H2.out _).mono ?_); rintro e w' ⟨rfl, hz⟩; replace HB := Lib.hid (below_trans HB.out hz); replace HX := Lib.hid (HX.out.below hz); clear hz; have y1 := HX.out.at 1 rfl; have y4 := HX.out.at 4 rfl; have y5 := HX.out.at 5 rfl; have y6 := HX.out.at 6 rfl; have y7 := HX.out.at 7 rfl; have hs1 := HX.out.1) | (go_at_call 24; (with_reducible refine (C1.out _).mono ?_); rintro e w' ⟨rfl, rfl⟩) | (go_at_call 24; (with_reducible refine (C2.out _).mono ?_); rintro e w' ⟨rfl, rfl⟩) | (go_at_call 24; (with_reducible refine (C3.out _).mono ?_); rintro e w' ⟨rfl, rfl⟩) | (go_at_call 24; (with_reducible refine (C4.out _).mono ?_); rintro e w' ⟨rfl, rfl⟩) | (go_at_call 27; (with_reducible refine (H3.out _).mono ?_); rintro e w' ⟨rfl, hz⟩; replace HB := Lib.hid (below_trans HB.out hz); replace HX := Lib.hid (HX.out.below hz); clear hz; have y4 := HX.out.at 4 rfl; have y5 := HX.out.at 5 rfl; have y6 := HX.out.at 6 rfl; have y14 := HX.out.at 14 rfl; have y15 := HX.out.at 15 rfl; have y18 := HX.out.at 18 rfl; have y19 := HX.out.at 19 rfl; have hs1 := HX.out.1) | (go_at_call 28; (with_reducible refine (H4.out _).mono ?_); rintro e w' ⟨rfl, hz⟩; replace HB := Lib.hid (below_trans HB.out hz); replace HX := Lib.hid (HX.out.below hz); clear hz; have y4 := HX.out.at 4 rfl; have y5 := HX.out.at 5 rfl; have y6 := HX.out.at 6 rfl; have y14 := HX.out.at 14 rfl; have y15 := HX.out.at 15 rfl; have y18 := HX.out.at 18 rfl; have y19 := HX.out.at 19 rfl; have hs1 := HX.out.1))
  clear y0 y2 y3 y1 y4 y5 y6 y7 hs1
  cases b3 with
  | false =>
    clear HN hbn
    have hs1 := HX.out.1
    have y14 := HX.out.at 14 rfl
    have y15 := HX.out.at 15 rfl
    have y16 := HX.out.at 16 rfl
    have y17 := HX.out.at 17 rfl
    go_wp2_with (first | (go_at_call 27; (with_reducible refine (H3.out _).mono ?_); rintro e w' ⟨rfl, hz⟩; replace HB := Lib.hid (below_trans HB.out hz); replace HX := Lib.hid (HX.out.below hz); clear hz; have y4 := HX.out.at 4 rfl; have y5 := HX.out.at 5 rfl; have y6 := HX.out.at 6 rfl; have y14 := HX.out.at 14 rfl; have y15 := HX.out.at 15 rfl; have y18 := HX.out.at 18 rfl; have y19 := HX.out.at 19 rfl; have hs1 := HX.out.1) | (go_at_call 28; (with_reducible refine (H4.out _).mono ?_); rintro e w' ⟨rfl, hz⟩; replace HB := Lib.hid (below_trans HB.out hz); replace HX := Lib.hid (HX.out.below hz); clear hz; have y4 := HX.out.at 4 rfl; have y5 := HX.out.at 5 rfl; have y6 := HX.out.at 6 rfl; have y14 := HX.out.at 14 rfl; have y15 := HX.out.at 15 rfl; have y18 := HX.out.at 18 rfl; have y19 := HX.out.at 19 rfl; have hs1 := HX.out.1))
    go_ret
    exact ⟨rfl, HB.out⟩
  | true =>
    cases b4 with
    | false =>
      clear HN hbn
      have hs1 := HX.out.1
      have y14 := HX.out.at 14 rfl
      have y15 := HX.out.at 15 rfl
      have y16 := HX.out.at 16 rfl
      have y17 := HX.out.at 17 rfl
      go_wp2_with (first | (go_at_call 27; (with_reducible refine (H3.out _).mono ?_); rintro e w' ⟨rfl, hz⟩; replace HB := Lib.hid (below_trans HB.out hz); replace HX := Lib.hid (HX.out.below hz); clear hz; have y4 := HX.out.at 4 rfl; have y5 := HX.out.at 5 rfl; have y6 := HX.out.at 6 rfl; have y14 := HX.out.at 14 rfl; have y15 := HX.out.at 15 rfl; have y18 := HX.out.at 18 rfl; have y19 := HX.out.at 19 rfl; have hs1 := HX.out.1) | (go_at_call 28; (with_reducible refine (H4.out _).mono ?_); rintro e w' ⟨rfl, hz⟩; replace HB := Lib.hid (below_trans HB.out hz); replace HX := Lib.hid (HX.out.below hz); clear hz; have y4 := HX.out.at 4 rfl; have y5 := HX.out.at 5 rfl; have y6 := HX.out.at 6 rfl; have y14 := HX.out.at 14 rfl; have y15 := HX.out.at 15 rfl; have y18 := HX.out.at 18 rfl; have y19 := HX.out.at 19 rfl; have hs1 := HX.out.1))
      go_ret
      exact ⟨rfl, HB.out⟩
    | true =>
      cases ha : (o.py.a == o.n * o.p) with
      | false =>
        have ha' : (o.py.a != o.n * o.p) = true := by rw [hbn, ha]; rfl
        clear ha
        clear HN hbn
        have hs1 := HX.out.1
        have y14 := HX.out.at 14 rfl
        have y15 := HX.out.at 15 rfl
        have y16 := HX.out.at 16 rfl
        have y17 := HX.out.at 17 rfl
        go_wp2_with (first | (go_at_call 27; (with_reducible refine (H3.out _).mono ?_); rintro e w' ⟨rfl, hz⟩; replace HB := Lib.hid (below_trans HB.out hz); replace HX := Lib.hid (HX.out.below hz); clear hz; have y4 := HX.out.at 4 rfl; have y5 := HX.out.at 5 rfl; have y6 := HX.out.at 6 rfl; have y14 := HX.out.at 14 rfl; have y15 := HX.out.at 15 rfl; have y18 := HX.out.at 18 rfl; have y19 := HX.out.at 19 rfl; have hs1 := HX.out.1) | (go_at_call 28; (with_reducible refine (H4.out _).mono ?_); rintro e w' ⟨rfl, hz⟩; replace HB := Lib.hid (below_trans HB.out hz); replace HX := Lib.hid (HX.out.below hz); clear hz; have y4 := HX.out.at 4 rfl; have y5 := HX.out.at 5 rfl; have y6 := HX.out.at 6 rfl; have y14 := HX.out.at 14 rfl; have y15 := HX.out.at 15 rfl; have y18 := HX.out.at 18 rfl; have y19 := HX.out.at 19 rfl; have hs1 := HX.out.1))
        go_ret
        exact ⟨rfl, HB.out⟩
      | true =>
        cases hc : (o.py.c == o.d * o.p) with
        | false =>
          have ha' : (o.py.a != o.n * o.p) = false := by rw [hbn, ha]; rfl
          have hc' : (o.py.c != o.d * o.p) = true := by rw [hbn, hc]; rfl
          clear ha hc
          clear HN hbn
          have hs1 := HX.out.1
          have y14 := HX.out.at 14 rfl
          have y15 := HX.out.at 15 rfl
          have y16 := HX.out.at 16 rfl
          have y17 := HX.out.at 17 rfl
          go_wp2_with (first | (go_at_call 27; (with_reducible refine (H3.out _).mono ?_); rintro e w' ⟨rfl, hz⟩; replace HB := Lib.hid (below_trans HB.out hz); replace HX := Lib.hid (HX.out.below hz); clear hz; have y4 := HX.out.at 4 rfl; have y5 := HX.out.at 5 rfl; have y6 := HX.out.at 6 rfl; have y14 := HX.out.at 14 rfl; have y15 := HX.out.at 15 rfl; have y18 := HX.out.at 18 rfl; have y19 := HX.out.at 19 rfl; have hs1 := HX.out.1) | (go_at_call 28; (with_reducible refine (H4.out _).mono ?_); rintro e w' ⟨rfl, hz⟩; replace HB := Lib.hid (below_trans HB.out hz); replace HX := Lib.hid (HX.out.below hz); clear hz; have y4 := HX.out.at 4 rfl; have y5 := HX.out.at 5 rfl; have y6 := HX.out.at 6 rfl; have y14 := HX.out.at 14 rfl; have y15 := HX.out.at 15 rfl; have y18 := HX.out.at 18 rfl; have y19 := HX.out.at 19 rfl; have hs1 := HX.out.1))
          go_ret
          exact ⟨rfl, HB.out⟩
        | true =>
          rw [ha, hc] at HN
          cases HN
end Go.Proofs.Ytjmmijobdcepmaa.Order
