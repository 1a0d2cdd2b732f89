/-
  The reference: Right, by its phase; Right.
-/
import Derived.Test.YtjmmijobdcepmaaORefB2
namespace Go.Proofs.Ytjmmijobdcepmaa.Order
open Go.ChangeShapes Go.WideShapes Go.ChangeAt Go.RowKit
open Go.Proofs.Ytjmmijobdcepmaa.Pay (Py RightP UnitP TimeP GoodP)
open Go.Proofs.Ytjmmijobdcepmaa.Ask (As RightA)
open Go.Proofs.Ytjmmijobdcepmaa.Goods (nameB)

set_option maxRecDepth 100000 in
set_option maxHeartbeats 4000000 in
theorem refRight_last (o : Od) (h : Fits o) (hg : firstB o = true) (hn : nextB o = true) (w : World) : Calls Try.prog 10 #[ov o] w (BoolB (decide (PhaseP o)) w) := by
  have hx := order_box w o 29
  have hb := al w (.cells (ocs o).toArray 29)
  obtain ⟨W1, hW1⟩ : ∃ W, w.alloc (.cells #[.int .i64 o.id, .string o.k, .int .i64 o.cl, .int .i64 o.sq, .int .i64 o.n, .int .i64 o.d, .int .i64 o.p, .int .i64 o.c, .bool o.sp, .int .i64 o.ph, .string o.l.k, .int .i64 o.l.u, .int .i64 o.l.c, .int .i64 o.l.y, .int .i64 o.py.a, .int .i64 o.py.c, .int .i64 o.py.u, .int .i64 o.py.s, .int .i64 o.ak.s, .int .i64 o.ak.u, .bool o.en] 29) = W := ⟨_, rfl⟩
  have HX : Hid (Box w.heap.size (ocs o) W1) := Lib.hid (hW1 ▸ hx)
  have HB : Hid (Below w.heap.size w W1) := Lib.hid (hW1 ▸ hb)
  clear hx hb
  have H1 := Lib.hid (refMay_any ⟨o.cl, o.sq, o.id⟩)
  have H2 := Lib.hid (Goods.refName_any o.k h.1)
  have C1 := Lib.hid (in_any o.n 1 1073741824)
  have C2 := Lib.hid (in_any o.p 1 1073741824)
  have C3 := Lib.hid (in_any o.d 0 o.n)
  have C4 := Lib.hid (in_any o.c 0 1099511627776)
  have H3 := Lib.hid (refPay_any o.py)
  have H4 := Lib.hid (refAsk_any o.ak)
  have hnp := firstB_num hg
  have H6 := Lib.hid (refLoad_any o hnp h.2)
  obtain ⟨m1, m2, m3, m4⟩ := hnp.mul
  have hw1 : IntKind.i64.wrap (o.n * o.p) = o.n * o.p := IntWalk.i64_in _ (by omega)
  have hw2 : IntKind.i64.wrap (o.d * o.p) = o.d * o.p := IntWalk.i64_in _ (by omega)
  clear m1 m2 m3 m4 hnp
  have HG1 := hg
  unfold firstB at HG1
  generalize Queue.mayB ⟨o.cl, o.sq, o.id⟩ = b1 at H1 HG1
  generalize nameB o.k = b2 at H2 HG1
  generalize inB o.n 1 1073741824 = c1 at C1 HG1
  generalize inB o.p 1 1073741824 = c2 at C2 HG1
  generalize inB o.d 0 o.n = c3 at C3 HG1
  generalize inB o.c 0 1099511627776 = c4 at C4 HG1
  simp only [Bool.and_eq_true] at HG1
  obtain ⟨rfl, rfl, rfl, rfl, rfl, rfl⟩ := HG1
  have hbn : ∀ a b : Int, (a != b) = !(a == b) := fun _ _ => rfl
  have H5 := Lib.hid (refEmpty_any o.l)
  have HPW := Lib.hid (phase_ways o)
  rw [bare_eq] at HPW
  have HN := hn
  unfold nextB at HN
  generalize Pay.rightB o.py = b3 at H3 HN
  generalize Ask.rightB o.ak = b4 at H4 HN
  generalize decide (PhaseP o) = m at HPW ⊢
  generalize decide (o.l = noL) = e0 at H5 HPW
  generalize decide (LoadP o) = e1 at H6 HPW
  simp only [Bool.and_eq_true] at HN
  obtain ⟨rfl, rfl, ha, hc⟩ := HN
  have ha' : (o.py.a != o.n * o.p) = false := by rw [hbn, ha]; rfl
  have hc' : (o.py.c != o.d * o.p) = false := by rw [hbn, hc]; rfl
  clear h hg hn ha hc hbn
  unfold Queue.wv at H1
  unfold Pay.pv at H3
  unfold Ask.av at H4
  unfold ldv at H5
  unfold ov at H6 ⊢
  go_enter Try.func10, Try.ntmps10
  go_upto_region 1 with (fail)
  clear hW1
  have y0 := HX.out.at 0 rfl
  have y2 := HX.out.at 2 rfl
  have y3 := HX.out.at 3 rfl
  have hs1 := HX.out.1
  go_upto_region 5 with (first | (go_at_call 25; (with_reducible refine (H1.out _).mono ?_); rintro e w' ⟨rfl, hz⟩; replace HB := Lib.hid (below_trans HB.out hz); replace HX := Lib.hid (HX.out.below hz); clear hz; have y1 := HX.out.at 1 rfl; have y4 := HX.out.at 4 rfl; have y5 := HX.out.at 5 rfl; have y6 := HX.out.at 6 rfl; have y7 := HX.out.at 7 rfl; have hs1 := HX.out.1) | (go_at_call 26; (with_reducible refine (H2.out _).mono ?_); rintro e w' ⟨rfl, hz⟩; replace HB := Lib.hid (below_trans HB.out hz); replace HX := Lib.hid (HX.out.below hz); clear hz; have y1 := HX.out.at 1 rfl; have y4 := HX.out.at 4 rfl; have y5 := HX.out.at 5 rfl; have y6 := HX.out.at 6 rfl; have y7 := HX.out.at 7 rfl; have hs1 := HX.out.1; have y14 := HX.out.at 14 rfl; have y15 := HX.out.at 15 rfl; have y16 := HX.out.at 16 rfl; have y17 := HX.out.at 17 rfl) | (go_at_call 24; (with_reducible refine (C1.out _).mono ?_); rintro e w' ⟨rfl, rfl⟩) | (go_at_call 24; (with_reducible refine (C2.out _).mono ?_); rintro e w' ⟨rfl, rfl⟩) | (go_at_call 24; (with_reducible refine (C3.out _).mono ?_); rintro e w' ⟨rfl, rfl⟩) | (go_at_call 24; (with_reducible refine (C4.out _).mono ?_); rintro e w' ⟨rfl, rfl⟩) | (go_at_call 27; (with_reducible refine (H3.out _).mono ?_); rintro e w' ⟨rfl, hz⟩; replace HB := Lib.hid (below_trans HB.out hz); replace HX := Lib.hid (HX.out.below hz); clear hz; have y4 := HX.out.at 4 rfl; have y5 := HX.out.at 5 rfl; have y6 := HX.out.at 6 rfl; have y14 := HX.out.at 14 rfl; have y15 := HX.out.at 15 rfl; have y18 := HX.out.at 18 rfl; have y19 := HX.out.at 19 rfl; have hs1 := HX.out.1) | (go_at_call 28; (with_reducible refine (H4.out _).mono ?_); rintro e w' ⟨rfl, hz⟩; replace HB := Lib.hid (below_trans HB.out hz); replace HX := Lib.hid (HX.out.below hz); clear hz; have y4 := HX.out.at 4 rfl; have y5 := HX.out.at 5 rfl; have y6 := HX.out.at 6 rfl; have y14 := HX.out.at 14 rfl; have y15 := HX.out.at 15 rfl; have y18 := HX.out.at 18 rfl; have y19 := HX.out.at 19 rfl; have hs1 := HX.out.1))
  clear ha' hc' hw1 hw2 y0 y2 y3 y1 y4 y5 y6 y7 y14 y15 y16 y17 y18 y19 hs1 H1 H2 H3 H4 C1 C2 C3 C4
  have y17 := HX.out.at 17 rfl
  have y9 := HX.out.at 9 rfl
  have hph := HX.out.1
  rcases HPW.out with ⟨h1, rfl⟩ | ⟨h1, h2, rfl⟩ | ⟨h1, hm⟩ | ⟨h1, hm⟩ | ⟨h1, hm⟩ | ⟨h1, hm⟩ | ⟨h1, hm⟩
  · have k1 : (o.ph == 1) = false := beq_false_of_ne (by omega); have k2 : (o.ph == 2) = false := beq_false_of_ne (by omega); have k3 : (o.ph == 3) = false := beq_false_of_ne (by omega); have k4 : (o.ph == 4) = false := beq_false_of_ne (by omega); have k5 : (o.ph == 5) = false := beq_false_of_ne (by omega)
    clear h1 HPW H5 H6
    go_wp2_with fail
    go_ret
    exact ⟨rfl, HB.out⟩
  · have k1 : (o.ph == 1) = false := beq_false_of_ne (by omega); have k2 : (o.ph == 2) = false := beq_false_of_ne (by omega); have k3 : (o.ph == 3) = false := beq_false_of_ne (by omega); have k4 : (o.ph == 4) = false := beq_false_of_ne (by omega); have k5 : (o.ph == 5) = false := beq_false_of_ne (by omega)
    clear h1 h2 HPW H5 H6
    go_wp2_with fail
    go_ret
    exact ⟨rfl, HB.out⟩
  · replace y9 : _ = some (Value.int .i64 1) := (congrArg (fun z => some (Value.int .i64 z)) h1) ▸ y9
    have HM := Lib.hid hm
    clear h1 hm
    have y4 := HX.out.at 4 rfl
    have y5 := HX.out.at 5 rfl
    by_cases hlt : o.d < o.n
    · rw [decide_eq_true hlt] at HM
      cases e0 with
      | false =>
        clear HPW
        have y10 := HX.out.at 10 rfl
        have y11 := HX.out.at 11 rfl
        have y12 := HX.out.at 12 rfl
        have y13 := HX.out.at 13 rfl
        go_wp2_with (first | (go_at_call 29; (with_reducible refine (H5.out _).mono ?_); rintro e w' ⟨rfl, hz⟩; replace HB := Lib.hid (below_trans HB.out hz); replace HX := Lib.hid (HX.out.below hz); clear hz))
        go_ret
        exact ⟨ret_bool (by rw [HM.out]; simp), HB.out⟩
      | true =>
        rcases Bool.eq_false_or_eq_true o.en with hen | hen
        · clear HPW
          have HEN := Lib.hid hen
          clear hen
          have y10 := HX.out.at 10 rfl
          have y11 := HX.out.at 11 rfl
          have y12 := HX.out.at 12 rfl
          have y13 := HX.out.at 13 rfl
          go_wp2_with (first | (go_at_call 29; (with_reducible refine (H5.out _).mono ?_); rintro e w' ⟨rfl, hz⟩; replace HB := Lib.hid (below_trans HB.out hz); replace HX := Lib.hid (HX.out.below hz); clear hz; have y20 : w'.cell? ⟨w.heap.size, 20, none⟩ = some (.bool true) := (congrArg (fun z => some (Value.bool z)) HEN.out) ▸ HX.out.at 20 rfl))
          go_ret
          exact ⟨ret_bool (by rw [HM.out]; rw [HEN.out]; simp), HB.out⟩
        · clear HPW
          have HEN := Lib.hid hen
          clear hen
          have y10 := HX.out.at 10 rfl
          have y11 := HX.out.at 11 rfl
          have y12 := HX.out.at 12 rfl
          have y13 := HX.out.at 13 rfl
          go_wp2_with (first | (go_at_call 29; (with_reducible refine (H5.out _).mono ?_); rintro e w' ⟨rfl, hz⟩; replace HB := Lib.hid (below_trans HB.out hz); replace HX := Lib.hid (HX.out.below hz); clear hz; have y20 : w'.cell? ⟨w.heap.size, 20, none⟩ = some (.bool false) := (congrArg (fun z => some (Value.bool z)) HEN.out) ▸ HX.out.at 20 rfl))
          go_ret
          exact ⟨ret_bool (by rw [HM.out]; rw [HEN.out]; simp), HB.out⟩
    · rw [decide_eq_false hlt] at HM
      clear HPW
      go_wp2_with (first | fail)
      go_ret
      exact ⟨ret_bool (by rw [HM.out]; rfl), HB.out⟩
  · replace y9 : _ = some (Value.int .i64 2) := (congrArg (fun z => some (Value.int .i64 z)) h1) ▸ y9
    have HM := Lib.hid hm
    clear h1 hm
    have y4 := HX.out.at 4 rfl
    have y5 := HX.out.at 5 rfl
    cases e1 with
    | false =>
      clear HPW
      go_upto_region 10 with (fail)
      go_wp2_with (first | (go_at_call 30; (with_reducible refine (H6.out _).mono ?_); rintro e w' ⟨rfl, hz⟩; replace HB := Lib.hid (below_trans HB.out hz); replace HX := Lib.hid (HX.out.below hz); clear hz) | (refine load_at 29 _ rfl _ 0 21 rfl HX.out [.int .i64 o.id, .string o.k, .int .i64 o.cl, .int .i64 o.sq, .int .i64 o.n, .int .i64 o.d, .int .i64 o.p, .int .i64 o.c, .bool o.sp, .int .i64 o.ph, .string o.l.k, .int .i64 o.l.u, .int .i64 o.l.c, .int .i64 o.l.y, .int .i64 o.py.a, .int .i64 o.py.c, .int .i64 o.py.u, .int .i64 o.py.s, .int .i64 o.ak.s, .int .i64 o.ak.u, .bool o.en] rfl _ Try.underlying29 rfl infoO rfl ?_))
      go_ret
      exact ⟨ret_bool (by rw [HM.out]; rfl), HB.out⟩
    | true =>
      clear HPW
      go_upto_region 10 with (fail)
      go_wp2_with (first | (go_at_call 30; (with_reducible refine (H6.out _).mono ?_); rintro e w' ⟨rfl, hz⟩; replace HB := Lib.hid (below_trans HB.out hz); replace HX := Lib.hid (HX.out.below hz); clear hz) | (refine load_at 29 _ rfl _ 0 21 rfl HX.out [.int .i64 o.id, .string o.k, .int .i64 o.cl, .int .i64 o.sq, .int .i64 o.n, .int .i64 o.d, .int .i64 o.p, .int .i64 o.c, .bool o.sp, .int .i64 o.ph, .string o.l.k, .int .i64 o.l.u, .int .i64 o.l.c, .int .i64 o.l.y, .int .i64 o.py.a, .int .i64 o.py.c, .int .i64 o.py.u, .int .i64 o.py.s, .int .i64 o.ak.s, .int .i64 o.ak.u, .bool o.en] rfl _ Try.underlying29 rfl infoO rfl ?_))
      go_ret
      exact ⟨ret_bool (by rw [HM.out]; simp), HB.out⟩
  · replace y9 : _ = some (Value.int .i64 3) := (congrArg (fun z => some (Value.int .i64 z)) h1) ▸ y9
    have HM := Lib.hid hm
    clear h1 hm
    have y4 := HX.out.at 4 rfl
    have y5 := HX.out.at 5 rfl
    cases hdn : (o.d == o.n) with
    | false =>
      rw [hdn] at HM
      clear HPW
      go_wp2_with (first | fail)
      go_ret
      exact ⟨ret_bool (by rw [HM.out]; rfl), HB.out⟩
    | true =>
      rw [hdn] at HM
      cases e0 with
      | false =>
        clear HPW
        have y10 := HX.out.at 10 rfl
        have y11 := HX.out.at 11 rfl
        have y12 := HX.out.at 12 rfl
        have y13 := HX.out.at 13 rfl
        go_wp2_with (first | (go_at_call 29; (with_reducible refine (H5.out _).mono ?_); rintro e w' ⟨rfl, hz⟩; replace HB := Lib.hid (below_trans HB.out hz); replace HX := Lib.hid (HX.out.below hz); clear hz))
        go_ret
        exact ⟨ret_bool (by rw [HM.out]; simp), HB.out⟩
      | true =>
        rcases Bool.eq_false_or_eq_true o.en with hen | hen
        · clear HPW
          have HEN := Lib.hid hen
          clear hen
          have y10 := HX.out.at 10 rfl
          have y11 := HX.out.at 11 rfl
          have y12 := HX.out.at 12 rfl
          have y13 := HX.out.at 13 rfl
          go_wp2_with (first | (go_at_call 29; (with_reducible refine (H5.out _).mono ?_); rintro e w' ⟨rfl, hz⟩; replace HB := Lib.hid (below_trans HB.out hz); replace HX := Lib.hid (HX.out.below hz); clear hz; have y20 : w'.cell? ⟨w.heap.size, 20, none⟩ = some (.bool true) := (congrArg (fun z => some (Value.bool z)) HEN.out) ▸ HX.out.at 20 rfl))
          go_ret
          exact ⟨ret_bool (by rw [HM.out]; rw [HEN.out]; simp), HB.out⟩
        · clear HPW
          have HEN := Lib.hid hen
          clear hen
          have y10 := HX.out.at 10 rfl
          have y11 := HX.out.at 11 rfl
          have y12 := HX.out.at 12 rfl
          have y13 := HX.out.at 13 rfl
          go_wp2_with (first | (go_at_call 29; (with_reducible refine (H5.out _).mono ?_); rintro e w' ⟨rfl, hz⟩; replace HB := Lib.hid (below_trans HB.out hz); replace HX := Lib.hid (HX.out.below hz); clear hz; have y20 : w'.cell? ⟨w.heap.size, 20, none⟩ = some (.bool false) := (congrArg (fun z => some (Value.bool z)) HEN.out) ▸ HX.out.at 20 rfl))
          go_ret
          exact ⟨ret_bool (by rw [HM.out]; rw [HEN.out]; simp), HB.out⟩
  · replace y9 : _ = some (Value.int .i64 4) := (congrArg (fun z => some (Value.int .i64 z)) h1) ▸ y9
    have HM := Lib.hid hm
    clear h1 hm
    have y4 := HX.out.at 4 rfl
    have y5 := HX.out.at 5 rfl
    by_cases h0 : 0 < o.d
    · rw [decide_eq_true h0] at HM
      by_cases hlt : o.d < o.n
      · rw [decide_eq_true hlt] at HM
        cases e0 with
        | false =>
          clear HPW
          have y10 := HX.out.at 10 rfl
          have y11 := HX.out.at 11 rfl
          have y12 := HX.out.at 12 rfl
          have y13 := HX.out.at 13 rfl
          go_wp2_with (first | (go_at_call 29; (with_reducible refine (H5.out _).mono ?_); rintro e w' ⟨rfl, hz⟩; replace HB := Lib.hid (below_trans HB.out hz); replace HX := Lib.hid (HX.out.below hz); clear hz))
          go_ret
          exact ⟨ret_bool (by rw [HM.out]; simp), HB.out⟩
        | true =>
          rcases Bool.eq_false_or_eq_true o.en with hen | hen
          · clear HPW
            have HEN := Lib.hid hen
            clear hen
            have y10 := HX.out.at 10 rfl
            have y11 := HX.out.at 11 rfl
            have y12 := HX.out.at 12 rfl
            have y13 := HX.out.at 13 rfl
            go_wp2_with (first | (go_at_call 29; (with_reducible refine (H5.out _).mono ?_); rintro e w' ⟨rfl, hz⟩; replace HB := Lib.hid (below_trans HB.out hz); replace HX := Lib.hid (HX.out.below hz); clear hz; have y20 : w'.cell? ⟨w.heap.size, 20, none⟩ = some (.bool true) := (congrArg (fun z => some (Value.bool z)) HEN.out) ▸ HX.out.at 20 rfl))
            go_ret
            exact ⟨ret_bool (by rw [HM.out]; rw [HEN.out]; simp), HB.out⟩
          · clear HPW
            have HEN := Lib.hid hen
            clear hen
            have y10 := HX.out.at 10 rfl
            have y11 := HX.out.at 11 rfl
            have y12 := HX.out.at 12 rfl
            have y13 := HX.out.at 13 rfl
            go_wp2_with (first | (go_at_call 29; (with_reducible refine (H5.out _).mono ?_); rintro e w' ⟨rfl, hz⟩; replace HB := Lib.hid (below_trans HB.out hz); replace HX := Lib.hid (HX.out.below hz); clear hz; have y20 : w'.cell? ⟨w.heap.size, 20, none⟩ = some (.bool false) := (congrArg (fun z => some (Value.bool z)) HEN.out) ▸ HX.out.at 20 rfl))
            go_ret
            exact ⟨ret_bool (by rw [HM.out]; rw [HEN.out]; simp), HB.out⟩
      · rw [decide_eq_false hlt] at HM
        clear HPW
        go_wp2_with (first | fail)
        go_ret
        exact ⟨ret_bool (by rw [HM.out]; rfl), HB.out⟩
    · rw [decide_eq_false h0] at HM
      clear HPW
      go_wp2_with (first | fail)
      go_ret
      exact ⟨ret_bool (by rw [HM.out]; rfl), HB.out⟩
  · replace y9 : _ = some (Value.int .i64 5) := (congrArg (fun z => some (Value.int .i64 z)) h1) ▸ y9
    have HM := Lib.hid hm
    clear h1 hm
    have y4 := HX.out.at 4 rfl
    have y5 := HX.out.at 5 rfl
    cases hdn : (o.d == 0) with
    | false =>
      rw [hdn] at HM
      clear HPW
      go_wp2_with (first | fail)
      go_ret
      exact ⟨ret_bool (by rw [HM.out]; rfl), HB.out⟩
    | true =>
      rw [hdn] at HM
      cases e0 with
      | false =>
        clear HPW
        have y10 := HX.out.at 10 rfl
        have y11 := HX.out.at 11 rfl
        have y12 := HX.out.at 12 rfl
        have y13 := HX.out.at 13 rfl
        go_wp2_with (first | (go_at_call 29; (with_reducible refine (H5.out _).mono ?_); rintro e w' ⟨rfl, hz⟩; replace HB := Lib.hid (below_trans HB.out hz); replace HX := Lib.hid (HX.out.below hz); clear hz))
        go_ret
        exact ⟨ret_bool (by rw [HM.out]; simp), HB.out⟩
      | true =>
        rcases Bool.eq_false_or_eq_true o.en with hen | hen
        · clear HPW
          have HEN := Lib.hid hen
          clear hen
          have y10 := HX.out.at 10 rfl
          have y11 := HX.out.at 11 rfl
          have y12 := HX.out.at 12 rfl
          have y13 := HX.out.at 13 rfl
          go_wp2_with (first | (go_at_call 29; (with_reducible refine (H5.out _).mono ?_); rintro e w' ⟨rfl, hz⟩; replace HB := Lib.hid (below_trans HB.out hz); replace HX := Lib.hid (HX.out.below hz); clear hz; have y20 : w'.cell? ⟨w.heap.size, 20, none⟩ = some (.bool true) := (congrArg (fun z => some (Value.bool z)) HEN.out) ▸ HX.out.at 20 rfl))
          go_ret
          exact ⟨ret_bool (by rw [HM.out]; rw [HEN.out]; simp), HB.out⟩
        · clear HPW
          have HEN := Lib.hid hen
          clear hen
          have y10 := HX.out.at 10 rfl
          have y11 := HX.out.at 11 rfl
          have y12 := HX.out.at 12 rfl
          have y13 := HX.out.at 13 rfl
          go_wp2_with (first | (go_at_call 29; (with_reducible refine (H5.out _).mono ?_); rintro e w' ⟨rfl, hz⟩; replace HB := Lib.hid (below_trans HB.out hz); replace HX := Lib.hid (HX.out.below hz); clear hz; have y20 : w'.cell? ⟨w.heap.size, 20, none⟩ = some (.bool false) := (congrArg (fun z => some (Value.bool z)) HEN.out) ▸ HX.out.at 20 rfl))
          go_ret
          exact ⟨ret_bool (by rw [HM.out]; rw [HEN.out]; simp), HB.out⟩
theorem refRight_any (o : Od) (h : Fits o) (w : World) : Calls Try.prog 10 #[ov o] w (BoolB (rightB o) w) := by
  rw [right_eq3]
  cases h1 : firstB o with
  | false => exact refRight_first o h h1 w
  | true =>
    cases h2 : nextB o with
    | false => exact refRight_next o h h1 h2 w
    | true => exact refRight_last o h h1 h2 w
end Go.Proofs.Ytjmmijobdcepmaa.Order
