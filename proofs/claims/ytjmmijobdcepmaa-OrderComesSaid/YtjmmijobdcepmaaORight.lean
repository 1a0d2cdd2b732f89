/-
  Contracts of package order: what is asked of each phase, Right.
-/
import Derived.Test.YtjmmijobdcepmaaOPhase
namespace Go.Proofs.Ytjmmijobdcepmaa.Order
open Go.ChangeShapes Go.WideShapes Go.ChangeAt Go.RowKit
open Go.Proofs.Ytjmmijobdcepmaa.Pay (Py RightP UnitP TimeP GoodP)
open Go.Proofs.Ytjmmijobdcepmaa.Ask (As RightA)
open Go.Proofs.Ytjmmijobdcepmaa.Goods (nameB)

set_option maxRecDepth 100000 in
set_option maxHeartbeats 2000000 in
theorem phase1_any (o : Od) (w : World) : Calls Try.prog 61 #[ov o] w (BoolB (decide (o.d < o.n) && (decide (BareP o) && !(o.py.s == 3))) w) := by
  have hx := order_box w o 29
  have hb := al w (.cells (ocs o).toArray 29)
  obtain ⟨W1, hW1⟩ : ∃ W, w.alloc (.cells (ocs o).toArray 29) = W := ⟨_, rfl⟩
  have HX : Hid (Box w.heap.size (ocs o) W1) := Lib.hid (hW1 ▸ hx)
  have HB : Hid (Below w.heap.size w W1) := Lib.hid (hW1 ▸ hb)
  clear hx hb
  have HN := Lib.hid (nothing_any o)
  have HC := Lib.hid (isClosed_any o)
  generalize decide (BareP o) = b1 at HN ⊢
  generalize (o.py.s == 3) = b2 at HC ⊢
  unfold ocs at hW1
  have y4 := HX.out.at 4 rfl
  have y5 := HX.out.at 5 rfl
  unfold ov at HN HC ⊢
  by_cases h1 : o.d < o.n
  · rw [decide_eq_true h1]
    cases b1 with
    | false =>
      go_enter Try.func61, Try.ntmps61
      go_upto_region 1 with (fail)
      clear hW1
      go_wp2_with (first | (refine load_part rfl 29 _ rfl _ 0 21 rfl HX.out [.int .i64 o.id, .string o.k, .int .i64 o.cl, .int .i64 o.sq, .int .i64 o.n, .int .i64 o.d, .int .i64 o.p, .int .i64 o.c, .bool o.sp, .int .i64 o.ph, .string o.l.k, .int .i64 o.l.u, .int .i64 o.l.c, .int .i64 o.l.y, .int .i64 o.py.a, .int .i64 o.py.c, .int .i64 o.py.u, .int .i64 o.py.s, .int .i64 o.ak.s, .int .i64 o.ak.u, .bool o.en] rfl _ Try.underlying29 rfl infoO ?_) | (go_at_call 62; (with_reducible refine (HN.out _).mono ?_); rintro e w' ⟨rfl, hz⟩; replace HB := Lib.hid (below_trans HB.out hz); replace HX := Lib.hid (HX.out.below hz); clear hz) | (go_at_call 63; (with_reducible refine (HC.out _).mono ?_); rintro e w' ⟨rfl, hz⟩; replace HB := Lib.hid (below_trans HB.out hz); replace HX := Lib.hid (HX.out.below hz); clear hz))
      go_ret
      exact ⟨rfl, HB.out⟩
    | true =>
      go_enter Try.func61, Try.ntmps61
      go_upto_region 1 with (fail)
      clear hW1
      go_wp2_with (first | (refine load_part rfl 29 _ rfl _ 0 21 rfl HX.out [.int .i64 o.id, .string o.k, .int .i64 o.cl, .int .i64 o.sq, .int .i64 o.n, .int .i64 o.d, .int .i64 o.p, .int .i64 o.c, .bool o.sp, .int .i64 o.ph, .string o.l.k, .int .i64 o.l.u, .int .i64 o.l.c, .int .i64 o.l.y, .int .i64 o.py.a, .int .i64 o.py.c, .int .i64 o.py.u, .int .i64 o.py.s, .int .i64 o.ak.s, .int .i64 o.ak.u, .bool o.en] rfl _ Try.underlying29 rfl infoO ?_) | (go_at_call 62; (with_reducible refine (HN.out _).mono ?_); rintro e w' ⟨rfl, hz⟩; replace HB := Lib.hid (below_trans HB.out hz); replace HX := Lib.hid (HX.out.below hz); clear hz) | (go_at_call 63; (with_reducible refine (HC.out _).mono ?_); rintro e w' ⟨rfl, hz⟩; replace HB := Lib.hid (below_trans HB.out hz); replace HX := Lib.hid (HX.out.below hz); clear hz))
      go_ret
      exact ⟨rfl, HB.out⟩
  · rw [decide_eq_false h1]
    go_enter Try.func61, Try.ntmps61
    go_upto_region 1 with (fail)
    clear hW1
    go_wp2_with (first | (refine load_part rfl 29 _ rfl _ 0 21 rfl HX.out [.int .i64 o.id, .string o.k, .int .i64 o.cl, .int .i64 o.sq, .int .i64 o.n, .int .i64 o.d, .int .i64 o.p, .int .i64 o.c, .bool o.sp, .int .i64 o.ph, .string o.l.k, .int .i64 o.l.u, .int .i64 o.l.c, .int .i64 o.l.y, .int .i64 o.py.a, .int .i64 o.py.c, .int .i64 o.py.u, .int .i64 o.py.s, .int .i64 o.ak.s, .int .i64 o.ak.u, .bool o.en] rfl _ Try.underlying29 rfl infoO ?_) | (go_at_call 62; (with_reducible refine (HN.out _).mono ?_); rintro e w' ⟨rfl, hz⟩; replace HB := Lib.hid (below_trans HB.out hz); replace HX := Lib.hid (HX.out.below hz); clear hz) | (go_at_call 63; (with_reducible refine (HC.out _).mono ?_); rintro e w' ⟨rfl, hz⟩; replace HB := Lib.hid (below_trans HB.out hz); replace HX := Lib.hid (HX.out.below hz); clear hz))
    go_ret
    exact ⟨rfl, HB.out⟩

set_option maxRecDepth 100000 in
set_option maxHeartbeats 2000000 in
theorem phase3_any (o : Od) (w : World) : Calls Try.prog 66 #[ov o] w (BoolB ((o.d == o.n) && (decide (BareP o) && (o.py.s == 3))) w) := by
  have hx := order_box w o 29
  have hb := al w (.cells (ocs o).toArray 29)
  obtain ⟨W1, hW1⟩ : ∃ W, w.alloc (.cells (ocs o).toArray 29) = W := ⟨_, rfl⟩
  have HX : Hid (Box w.heap.size (ocs o) W1) := Lib.hid (hW1 ▸ hx)
  have HB : Hid (Below w.heap.size w W1) := Lib.hid (hW1 ▸ hb)
  clear hx hb
  have HN := Lib.hid (nothing_any o)
  have HC := Lib.hid (isClosed_any o)
  generalize decide (BareP o) = b1 at HN ⊢
  generalize (o.py.s == 3) = b2 at HC ⊢
  unfold ocs at hW1
  have y4 := HX.out.at 4 rfl
  have y5 := HX.out.at 5 rfl
  unfold ov at HN HC ⊢
  cases h1 : (o.d == o.n) with
  | true =>
    cases b1 with
    | false =>
      go_enter Try.func66, Try.ntmps66
      go_upto_region 1 with (fail)
      clear hW1
      go_wp2_with (first | (refine load_part rfl 29 _ rfl _ 0 21 rfl HX.out [.int .i64 o.id, .string o.k, .int .i64 o.cl, .int .i64 o.sq, .int .i64 o.n, .int .i64 o.d, .int .i64 o.p, .int .i64 o.c, .bool o.sp, .int .i64 o.ph, .string o.l.k, .int .i64 o.l.u, .int .i64 o.l.c, .int .i64 o.l.y, .int .i64 o.py.a, .int .i64 o.py.c, .int .i64 o.py.u, .int .i64 o.py.s, .int .i64 o.ak.s, .int .i64 o.ak.u, .bool o.en] rfl _ Try.underlying29 rfl infoO ?_) | (go_at_call 62; (with_reducible refine (HN.out _).mono ?_); rintro e w' ⟨rfl, hz⟩; replace HB := Lib.hid (below_trans HB.out hz); replace HX := Lib.hid (HX.out.below hz); clear hz) | (go_at_call 63; (with_reducible refine (HC.out _).mono ?_); rintro e w' ⟨rfl, hz⟩; replace HB := Lib.hid (below_trans HB.out hz); replace HX := Lib.hid (HX.out.below hz); clear hz))
      go_ret
      exact ⟨rfl, HB.out⟩
    | true =>
      go_enter Try.func66, Try.ntmps66
      go_upto_region 1 with (fail)
      clear hW1
      go_wp2_with (first | (refine load_part rfl 29 _ rfl _ 0 21 rfl HX.out [.int .i64 o.id, .string o.k, .int .i64 o.cl, .int .i64 o.sq, .int .i64 o.n, .int .i64 o.d, .int .i64 o.p, .int .i64 o.c, .bool o.sp, .int .i64 o.ph, .string o.l.k, .int .i64 o.l.u, .int .i64 o.l.c, .int .i64 o.l.y, .int .i64 o.py.a, .int .i64 o.py.c, .int .i64 o.py.u, .int .i64 o.py.s, .int .i64 o.ak.s, .int .i64 o.ak.u, .bool o.en] rfl _ Try.underlying29 rfl infoO ?_) | (go_at_call 62; (with_reducible refine (HN.out _).mono ?_); rintro e w' ⟨rfl, hz⟩; replace HB := Lib.hid (below_trans HB.out hz); replace HX := Lib.hid (HX.out.below hz); clear hz) | (go_at_call 63; (with_reducible refine (HC.out _).mono ?_); rintro e w' ⟨rfl, hz⟩; replace HB := Lib.hid (below_trans HB.out hz); replace HX := Lib.hid (HX.out.below hz); clear hz))
      go_ret
      exact ⟨rfl, HB.out⟩
  | false =>
    go_enter Try.func66, Try.ntmps66
    go_upto_region 1 with (fail)
    clear hW1
    go_wp2_with (first | (refine load_part rfl 29 _ rfl _ 0 21 rfl HX.out [.int .i64 o.id, .string o.k, .int .i64 o.cl, .int .i64 o.sq, .int .i64 o.n, .int .i64 o.d, .int .i64 o.p, .int .i64 o.c, .bool o.sp, .int .i64 o.ph, .string o.l.k, .int .i64 o.l.u, .int .i64 o.l.c, .int .i64 o.l.y, .int .i64 o.py.a, .int .i64 o.py.c, .int .i64 o.py.u, .int .i64 o.py.s, .int .i64 o.ak.s, .int .i64 o.ak.u, .bool o.en] rfl _ Try.underlying29 rfl infoO ?_) | (go_at_call 62; (with_reducible refine (HN.out _).mono ?_); rintro e w' ⟨rfl, hz⟩; replace HB := Lib.hid (below_trans HB.out hz); replace HX := Lib.hid (HX.out.below hz); clear hz) | (go_at_call 63; (with_reducible refine (HC.out _).mono ?_); rintro e w' ⟨rfl, hz⟩; replace HB := Lib.hid (below_trans HB.out hz); replace HX := Lib.hid (HX.out.below hz); clear hz))
    go_ret
    exact ⟨rfl, HB.out⟩

set_option maxRecDepth 100000 in
set_option maxHeartbeats 2000000 in
theorem phase4_any (o : Od) (w : World) : Calls Try.prog 67 #[ov o] w (BoolB (decide (0 < o.d) && (decide (o.d < o.n) && (decide (BareP o) && (o.py.s == 3)))) w) := by
  have hx := order_box w o 29
  have hb := al w (.cells (ocs o).toArray 29)
  obtain ⟨W1, hW1⟩ : ∃ W, w.alloc (.cells (ocs o).toArray 29) = W := ⟨_, rfl⟩
  have HX : Hid (Box w.heap.size (ocs o) W1) := Lib.hid (hW1 ▸ hx)
  have HB : Hid (Below w.heap.size w W1) := Lib.hid (hW1 ▸ hb)
  clear hx hb
  have HN := Lib.hid (nothing_any o)
  have HC := Lib.hid (isClosed_any o)
  generalize decide (BareP o) = b1 at HN ⊢
  generalize (o.py.s == 3) = b2 at HC ⊢
  unfold ocs at hW1
  have y4 := HX.out.at 4 rfl
  have y5 := HX.out.at 5 rfl
  unfold ov at HN HC ⊢
  by_cases h0 : 0 < o.d
  · rw [decide_eq_true h0]
    by_cases h1 : o.d < o.n
    · rw [decide_eq_true h1]
      cases b1 with
      | false =>
        go_enter Try.func67, Try.ntmps67
        go_upto_region 1 with (fail)
        clear hW1
        go_wp2_with (first | (refine load_part rfl 29 _ rfl _ 0 21 rfl HX.out [.int .i64 o.id, .string o.k, .int .i64 o.cl, .int .i64 o.sq, .int .i64 o.n, .int .i64 o.d, .int .i64 o.p, .int .i64 o.c, .bool o.sp, .int .i64 o.ph, .string o.l.k, .int .i64 o.l.u, .int .i64 o.l.c, .int .i64 o.l.y, .int .i64 o.py.a, .int .i64 o.py.c, .int .i64 o.py.u, .int .i64 o.py.s, .int .i64 o.ak.s, .int .i64 o.ak.u, .bool o.en] rfl _ Try.underlying29 rfl infoO ?_) | (go_at_call 62; (with_reducible refine (HN.out _).mono ?_); rintro e w' ⟨rfl, hz⟩; replace HB := Lib.hid (below_trans HB.out hz); replace HX := Lib.hid (HX.out.below hz); clear hz) | (go_at_call 63; (with_reducible refine (HC.out _).mono ?_); rintro e w' ⟨rfl, hz⟩; replace HB := Lib.hid (below_trans HB.out hz); replace HX := Lib.hid (HX.out.below hz); clear hz))
        go_ret
        exact ⟨rfl, HB.out⟩
      | true =>
        go_enter Try.func67, Try.ntmps67
        go_upto_region 1 with (fail)
        clear hW1
        go_wp2_with (first | (refine load_part rfl 29 _ rfl _ 0 21 rfl HX.out [.int .i64 o.id, .string o.k, .int .i64 o.cl, .int .i64 o.sq, .int .i64 o.n, .int .i64 o.d, .int .i64 o.p, .int .i64 o.c, .bool o.sp, .int .i64 o.ph, .string o.l.k, .int .i64 o.l.u, .int .i64 o.l.c, .int .i64 o.l.y, .int .i64 o.py.a, .int .i64 o.py.c, .int .i64 o.py.u, .int .i64 o.py.s, .int .i64 o.ak.s, .int .i64 o.ak.u, .bool o.en] rfl _ Try.underlying29 rfl infoO ?_) | (go_at_call 62; (with_reducible refine (HN.out _).mono ?_); rintro e w' ⟨rfl, hz⟩; replace HB := Lib.hid (below_trans HB.out hz); replace HX := Lib.hid (HX.out.below hz); clear hz) | (go_at_call 63; (with_reducible refine (HC.out _).mono ?_); rintro e w' ⟨rfl, hz⟩; replace HB := Lib.hid (below_trans HB.out hz); replace HX := Lib.hid (HX.out.below hz); clear hz))
        go_ret
        exact ⟨rfl, HB.out⟩
    · rw [decide_eq_false h1]
      go_enter Try.func67, Try.ntmps67
      go_upto_region 1 with (fail)
      clear hW1
      go_wp2_with (first | (refine load_part rfl 29 _ rfl _ 0 21 rfl HX.out [.int .i64 o.id, .string o.k, .int .i64 o.cl, .int .i64 o.sq, .int .i64 o.n, .int .i64 o.d, .int .i64 o.p, .int .i64 o.c, .bool o.sp, .int .i64 o.ph, .string o.l.k, .int .i64 o.l.u, .int .i64 o.l.c, .int .i64 o.l.y, .int .i64 o.py.a, .int .i64 o.py.c, .int .i64 o.py.u, .int .i64 o.py.s, .int .i64 o.ak.s, .int .i64 o.ak.u, .bool o.en] rfl _ Try.underlying29 rfl infoO ?_) | (go_at_call 62; (with_reducible refine (HN.out _).mono ?_); rintro e w' ⟨rfl, hz⟩; replace HB := Lib.hid (below_trans HB.out hz); replace HX := Lib.hid (HX.out.below hz); clear hz) | (go_at_call 63; (with_reducible refine (HC.out _).mono ?_); rintro e w' ⟨rfl, hz⟩; replace HB := Lib.hid (below_trans HB.out hz); replace HX := Lib.hid (HX.out.below hz); clear hz))
      go_ret
      exact ⟨rfl, HB.out⟩
  · rw [decide_eq_false h0]
    go_enter Try.func67, Try.ntmps67
    go_upto_region 1 with (fail)
    clear hW1
    go_wp2_with (first | (refine load_part rfl 29 _ rfl _ 0 21 rfl HX.out [.int .i64 o.id, .string o.k, .int .i64 o.cl, .int .i64 o.sq, .int .i64 o.n, .int .i64 o.d, .int .i64 o.p, .int .i64 o.c, .bool o.sp, .int .i64 o.ph, .string o.l.k, .int .i64 o.l.u, .int .i64 o.l.c, .int .i64 o.l.y, .int .i64 o.py.a, .int .i64 o.py.c, .int .i64 o.py.u, .int .i64 o.py.s, .int .i64 o.ak.s, .int .i64 o.ak.u, .bool o.en] rfl _ Try.underlying29 rfl infoO ?_) | (go_at_call 62; (with_reducible refine (HN.out _).mono ?_); rintro e w' ⟨rfl, hz⟩; replace HB := Lib.hid (below_trans HB.out hz); replace HX := Lib.hid (HX.out.below hz); clear hz) | (go_at_call 63; (with_reducible refine (HC.out _).mono ?_); rintro e w' ⟨rfl, hz⟩; replace HB := Lib.hid (below_trans HB.out hz); replace HX := Lib.hid (HX.out.below hz); clear hz))
    go_ret
    exact ⟨rfl, HB.out⟩

set_option maxRecDepth 100000 in
set_option maxHeartbeats 2000000 in
theorem phase5_any (o : Od) (w : World) : Calls Try.prog 68 #[ov o] w (BoolB ((o.d == 0) && (decide (BareP o) && (o.py.s == 3))) w) := by
  have hx := order_box w o 29
  have hb := al w (.cells (ocs o).toArray 29)
  obtain ⟨W1, hW1⟩ : ∃ W, w.alloc (.cells (ocs o).toArray 29) = W := ⟨_, rfl⟩
  have HX : Hid (Box w.heap.size (ocs o) W1) := Lib.hid (hW1 ▸ hx)
  have HB : Hid (Below w.heap.size w W1) := Lib.hid (hW1 ▸ hb)
  clear hx hb
  have HN := Lib.hid (nothing_any o)
  have HC := Lib.hid (isClosed_any o)
  generalize decide (BareP o) = b1 at HN ⊢
  generalize (o.py.s == 3) = b2 at HC ⊢
  unfold ocs at hW1
  have y4 := HX.out.at 4 rfl
  have y5 := HX.out.at 5 rfl
  unfold ov at HN HC ⊢
  cases h1 : (o.d == 0) with
  | true =>
    cases b1 with
    | false =>
      go_enter Try.func68, Try.ntmps68
      go_upto_region 1 with (fail)
      clear hW1
      go_wp2_with (first | (refine load_part rfl 29 _ rfl _ 0 21 rfl HX.out [.int .i64 o.id, .string o.k, .int .i64 o.cl, .int .i64 o.sq, .int .i64 o.n, .int .i64 o.d, .int .i64 o.p, .int .i64 o.c, .bool o.sp, .int .i64 o.ph, .string o.l.k, .int .i64 o.l.u, .int .i64 o.l.c, .int .i64 o.l.y, .int .i64 o.py.a, .int .i64 o.py.c, .int .i64 o.py.u, .int .i64 o.py.s, .int .i64 o.ak.s, .int .i64 o.ak.u, .bool o.en] rfl _ Try.underlying29 rfl infoO ?_) | (go_at_call 62; (with_reducible refine (HN.out _).mono ?_); rintro e w' ⟨rfl, hz⟩; replace HB := Lib.hid (below_trans HB.out hz); replace HX := Lib.hid (HX.out.below hz); clear hz) | (go_at_call 63; (with_reducible refine (HC.out _).mono ?_); rintro e w' ⟨rfl, hz⟩; replace HB := Lib.hid (below_trans HB.out hz); replace HX := Lib.hid (HX.out.below hz); clear hz))
      go_ret
      exact ⟨rfl, HB.out⟩
    | true =>
      go_enter Try.func68, Try.ntmps68
      go_upto_region 1 with (fail)
      clear hW1
      go_wp2_with (first | (refine load_part rfl 29 _ rfl _ 0 21 rfl HX.out [.int .i64 o.id, .string o.k, .int .i64 o.cl, .int .i64 o.sq, .int .i64 o.n, .int .i64 o.d, .int .i64 o.p, .int .i64 o.c, .bool o.sp, .int .i64 o.ph, .string o.l.k, .int .i64 o.l.u, .int .i64 o.l.c, .int .i64 o.l.y, .int .i64 o.py.a, .int .i64 o.py.c, .int .i64 o.py.u, .int .i64 o.py.s, .int .i64 o.ak.s, .int .i64 o.ak.u, .bool o.en] rfl _ Try.underlying29 rfl infoO ?_) | (go_at_call 62; (with_reducible refine (HN.out _).mono ?_); rintro e w' ⟨rfl, hz⟩; replace HB := Lib.hid (below_trans HB.out hz); replace HX := Lib.hid (HX.out.below hz); clear hz) | (go_at_call 63; (with_reducible refine (HC.out _).mono ?_); rintro e w' ⟨rfl, hz⟩; replace HB := Lib.hid (below_trans HB.out hz); replace HX := Lib.hid (HX.out.below hz); clear hz))
      go_ret
      exact ⟨rfl, HB.out⟩
  | false =>
    go_enter Try.func68, Try.ntmps68
    go_upto_region 1 with (fail)
    clear hW1
    go_wp2_with (first | (refine load_part rfl 29 _ rfl _ 0 21 rfl HX.out [.int .i64 o.id, .string o.k, .int .i64 o.cl, .int .i64 o.sq, .int .i64 o.n, .int .i64 o.d, .int .i64 o.p, .int .i64 o.c, .bool o.sp, .int .i64 o.ph, .string o.l.k, .int .i64 o.l.u, .int .i64 o.l.c, .int .i64 o.l.y, .int .i64 o.py.a, .int .i64 o.py.c, .int .i64 o.py.u, .int .i64 o.py.s, .int .i64 o.ak.s, .int .i64 o.ak.u, .bool o.en] rfl _ Try.underlying29 rfl infoO ?_) | (go_at_call 62; (with_reducible refine (HN.out _).mono ?_); rintro e w' ⟨rfl, hz⟩; replace HB := Lib.hid (below_trans HB.out hz); replace HX := Lib.hid (HX.out.below hz); clear hz) | (go_at_call 63; (with_reducible refine (HC.out _).mono ?_); rintro e w' ⟨rfl, hz⟩; replace HB := Lib.hid (below_trans HB.out hz); replace HX := Lib.hid (HX.out.below hz); clear hz))
    go_ret
    exact ⟨rfl, HB.out⟩

set_option maxRecDepth 100000 in
set_option maxHeartbeats 2000000 in
theorem phase2_any (o : Od) (h : NumP o) (hk : o.l.k.size ≤ 1000000) (w : World) : Calls Try.prog 64 #[ov o] w (BoolB (decide (LoadP o) && !(o.py.s == 3)) w) := by
  have hx := order_box w o 29
  have hb := al w (.cells (ocs o).toArray 29)
  obtain ⟨W1, hW1⟩ : ∃ W, w.alloc (.cells (ocs o).toArray 29) = W := ⟨_, rfl⟩
  have HX : Hid (Box w.heap.size (ocs o) W1) := Lib.hid (hW1 ▸ hx)
  have HB : Hid (Below w.heap.size w W1) := Lib.hid (hW1 ▸ hb)
  clear hx hb
  have HN := Lib.hid (load_any o h hk)
  have HC := Lib.hid (isClosed_any o)
  generalize decide (LoadP o) = b1 at HN ⊢
  generalize (o.py.s == 3) = b2 at HC ⊢
  clear h hk
  unfold ocs at hW1
  unfold ov at HN HC ⊢
  cases b1 with
  | false =>
    go_enter Try.func64, Try.ntmps64
    go_upto_region 1 with (fail)
    clear hW1
    go_wp2_with (first | (refine load_part rfl 29 _ rfl _ 0 21 rfl HX.out [.int .i64 o.id, .string o.k, .int .i64 o.cl, .int .i64 o.sq, .int .i64 o.n, .int .i64 o.d, .int .i64 o.p, .int .i64 o.c, .bool o.sp, .int .i64 o.ph, .string o.l.k, .int .i64 o.l.u, .int .i64 o.l.c, .int .i64 o.l.y, .int .i64 o.py.a, .int .i64 o.py.c, .int .i64 o.py.u, .int .i64 o.py.s, .int .i64 o.ak.s, .int .i64 o.ak.u, .bool o.en] rfl _ Try.underlying29 rfl infoO ?_) | (go_at_call 65; (with_reducible refine (HN.out _).mono ?_); rintro e w' ⟨rfl, hz⟩; replace HB := Lib.hid (below_trans HB.out hz); replace HX := Lib.hid (HX.out.below hz); clear hz) | (go_at_call 63; (with_reducible refine (HC.out _).mono ?_); rintro e w' ⟨rfl, hz⟩; replace HB := Lib.hid (below_trans HB.out hz); replace HX := Lib.hid (HX.out.below hz); clear hz))
    go_ret
    exact ⟨rfl, HB.out⟩
  | true =>
    go_enter Try.func64, Try.ntmps64
    go_upto_region 1 with (fail)
    clear hW1
    go_wp2_with (first | (refine load_part rfl 29 _ rfl _ 0 21 rfl HX.out [.int .i64 o.id, .string o.k, .int .i64 o.cl, .int .i64 o.sq, .int .i64 o.n, .int .i64 o.d, .int .i64 o.p, .int .i64 o.c, .bool o.sp, .int .i64 o.ph, .string o.l.k, .int .i64 o.l.u, .int .i64 o.l.c, .int .i64 o.l.y, .int .i64 o.py.a, .int .i64 o.py.c, .int .i64 o.py.u, .int .i64 o.py.s, .int .i64 o.ak.s, .int .i64 o.ak.u, .bool o.en] rfl _ Try.underlying29 rfl infoO ?_) | (go_at_call 65; (with_reducible refine (HN.out _).mono ?_); rintro e w' ⟨rfl, hz⟩; replace HB := Lib.hid (below_trans HB.out hz); replace HX := Lib.hid (HX.out.below hz); clear hz) | (go_at_call 63; (with_reducible refine (HC.out _).mono ?_); rintro e w' ⟨rfl, hz⟩; replace HB := Lib.hid (below_trans HB.out hz); replace HX := Lib.hid (HX.out.below hz); clear hz))
    go_ret
    exact ⟨rfl, HB.out⟩
end Go.Proofs.Ytjmmijobdcepmaa.Order
