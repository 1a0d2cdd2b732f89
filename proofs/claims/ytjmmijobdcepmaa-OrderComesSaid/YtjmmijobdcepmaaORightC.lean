/-
  Contracts of package order: Right, Lack, Open.
-/
import Derived.Test.YtjmmijobdcepmaaORightB
namespace Go.Proofs.Ytjmmijobdcepmaa.Order
open Go.ChangeShapes Go.WideShapes Go.ChangeAt Go.RowKit
open Go.Proofs.Ytjmmijobdcepmaa.Pay (Py RightP UnitP TimeP GoodP)
open Go.Proofs.Ytjmmijobdcepmaa.Ask (As RightA)
open Go.Proofs.Ytjmmijobdcepmaa.Goods (nameB)

/-- Its texts are not endless. -/
def Fits (o : Od) : Prop := o.k.size ≤ 1000000 ∧ o.l.k.size ≤ 1000000
theorem right_eq (o : Od) : rightB o = (decide (WaitP o) && (nameB o.k && (decide (NumP o) && (decide (MoneyP o) && (Ask.rightB o.ak && decide (PhaseP o)))))) := by
  unfold rightB
  rw [Bool.eq_iff_iff]
  simp only [decide_eq_true_eq, Bool.and_eq_true]
  rw [Ask.rightB_t]
  unfold RightO BaseP NumP MoneyP
  constructor
  · rintro ⟨⟨a1, a2, a3, a4, a5, a6, a7, a8, a9, a10, a11⟩, a12⟩
    exact ⟨a1, a2, ⟨a3, a4, a5, a6, a7⟩, ⟨a8, a10, a11⟩, a9, a12⟩
  · rintro ⟨a1, a2, ⟨a3, a4, a5, a6, a7⟩, ⟨a8, a10, a11⟩, a9, a12⟩
    exact ⟨⟨a1, a2, a3, a4, a5, a6, a7, a8, a9, a10, a11⟩, a12⟩
set_option maxRecDepth 100000 in
set_option maxHeartbeats 4000000 in
theorem Right_any (o : Od) (h : Fits o) (w : World) : Calls Try.prog 12 #[ov o] w (BoolB (rightB o) w) := by
  have hx := order_box w o 29
  have hb := al w (.cells (ocs o).toArray 29)
  obtain ⟨W1, hW1⟩ : ∃ W, w.alloc (.cells (ocs o).toArray 29) = W := ⟨_, rfl⟩
  have HX : Hid (Box w.heap.size (ocs o) W1) := Lib.hid (hW1 ▸ hx)
  have HB : Hid (Below w.heap.size w W1) := Lib.hid (hW1 ▸ hb)
  clear hx hb
  rw [right_eq]
  have H1 := Lib.hid (waitMayBe_any o)
  have H2 := Lib.hid (isName_any o.k h.1)
  have H3 := Lib.hid (numbers_any o)
  have H4 : Hid (NumP o → ∀ w, Calls Try.prog 34 #[ov o] w (BoolB (decide (MoneyP o)) w)) := Lib.hid (fun g => money_any o g)
  have H5 := Lib.hid (Ask.Right_any o.ak)
  have H6 : Hid (NumP o → ∀ w, Calls Try.prog 36 #[ov o] w (BoolB (decide (PhaseP o)) w)) := Lib.hid (fun g => phaseMayBe_any o g h.2)
  generalize decide (WaitP o) = b1 at H1 ⊢
  generalize nameB o.k = b2 at H2 ⊢
  generalize decide (MoneyP o) = b4 at H4 ⊢
  generalize Ask.rightB o.ak = b5 at H5 ⊢
  generalize decide (PhaseP o) = b6 at H6 ⊢
  clear h
  unfold ocs at hW1
  unfold ov at H1 H3 H4 H6 ⊢
  unfold Ask.av at H5
  cases b1 with
  | false =>
    go_enter Try.func12, Try.ntmps12
    go_upto_region 1 with (fail)
    clear hW1
    go_wp2_with (first | (refine load_part rfl 29 _ rfl _ 0 21 rfl HX.out [.int .i64 o.id, .string o.k, .int .i64 o.cl, .int .i64 o.sq, .int .i64 o.n, .int .i64 o.d, .int .i64 o.p, .int .i64 o.c, .bool o.sp, .int .i64 o.ph, .string o.l.k, .int .i64 o.l.u, .int .i64 o.l.c, .int .i64 o.l.y, .int .i64 o.py.a, .int .i64 o.py.c, .int .i64 o.py.u, .int .i64 o.py.s, .int .i64 o.ak.s, .int .i64 o.ak.u, .bool o.en] rfl _ Try.underlying29 rfl infoO ?_) | (refine load_part rfl 27 _ rfl _ 18 2 rfl HX.out [.int .i64 o.ak.s, .int .i64 o.ak.u] rfl _ Try.underlying27 rfl infoA ?_) | (go_at_call 31; (with_reducible refine (H1.out _).mono ?_); rintro e w' ⟨rfl, hz⟩; replace HB := Lib.hid (below_trans HB.out hz); replace HX := Lib.hid (HX.out.below hz); clear hz; have y1 := HX.out.at 1 rfl))
    go_ret
    exact ⟨rfl, HB.out⟩
  | true =>
    cases b2 with
    | false =>
      go_enter Try.func12, Try.ntmps12
      go_upto_region 1 with (fail)
      clear hW1
      go_wp2_with (first | (refine load_part rfl 29 _ rfl _ 0 21 rfl HX.out [.int .i64 o.id, .string o.k, .int .i64 o.cl, .int .i64 o.sq, .int .i64 o.n, .int .i64 o.d, .int .i64 o.p, .int .i64 o.c, .bool o.sp, .int .i64 o.ph, .string o.l.k, .int .i64 o.l.u, .int .i64 o.l.c, .int .i64 o.l.y, .int .i64 o.py.a, .int .i64 o.py.c, .int .i64 o.py.u, .int .i64 o.py.s, .int .i64 o.ak.s, .int .i64 o.ak.u, .bool o.en] rfl _ Try.underlying29 rfl infoO ?_) | (refine load_part rfl 27 _ rfl _ 18 2 rfl HX.out [.int .i64 o.ak.s, .int .i64 o.ak.u] rfl _ Try.underlying27 rfl infoA ?_) | (go_at_call 31; (with_reducible refine (H1.out _).mono ?_); rintro e w' ⟨rfl, hz⟩; replace HB := Lib.hid (below_trans HB.out hz); replace HX := Lib.hid (HX.out.below hz); clear hz; have y1 := HX.out.at 1 rfl) | (go_at_call 32; (with_reducible refine (H2.out _).mono ?_); rintro e w' ⟨rfl, hz⟩; replace HB := Lib.hid (below_trans HB.out hz); replace HX := Lib.hid (HX.out.below hz); clear hz))
      go_ret
      exact ⟨rfl, HB.out⟩
    | true =>
      by_cases hn : NumP o
      · rw [decide_eq_true hn] at H3 ⊢
        replace H4 := Lib.hid (H4.out hn)
        replace H6 := Lib.hid (H6.out hn)
        clear hn
        cases b4 with
        | false =>
          go_enter Try.func12, Try.ntmps12
          go_upto_region 1 with (fail)
          clear hW1
          go_wp2_with (first | (refine load_part rfl 29 _ rfl _ 0 21 rfl HX.out [.int .i64 o.id, .string o.k, .int .i64 o.cl, .int .i64 o.sq, .int .i64 o.n, .int .i64 o.d, .int .i64 o.p, .int .i64 o.c, .bool o.sp, .int .i64 o.ph, .string o.l.k, .int .i64 o.l.u, .int .i64 o.l.c, .int .i64 o.l.y, .int .i64 o.py.a, .int .i64 o.py.c, .int .i64 o.py.u, .int .i64 o.py.s, .int .i64 o.ak.s, .int .i64 o.ak.u, .bool o.en] rfl _ Try.underlying29 rfl infoO ?_) | (refine load_part rfl 27 _ rfl _ 18 2 rfl HX.out [.int .i64 o.ak.s, .int .i64 o.ak.u] rfl _ Try.underlying27 rfl infoA ?_) | (go_at_call 31; (with_reducible refine (H1.out _).mono ?_); rintro e w' ⟨rfl, hz⟩; replace HB := Lib.hid (below_trans HB.out hz); replace HX := Lib.hid (HX.out.below hz); clear hz; have y1 := HX.out.at 1 rfl) | (go_at_call 32; (with_reducible refine (H2.out _).mono ?_); rintro e w' ⟨rfl, hz⟩; replace HB := Lib.hid (below_trans HB.out hz); replace HX := Lib.hid (HX.out.below hz); clear hz) | (go_at_call 33; (with_reducible refine (H3.out _).mono ?_); rintro e w' ⟨rfl, hz⟩; replace HB := Lib.hid (below_trans HB.out hz); replace HX := Lib.hid (HX.out.below hz); clear hz) | (go_at_call 34; (with_reducible refine (H4.out _).mono ?_); rintro e w' ⟨rfl, hz⟩; replace HB := Lib.hid (below_trans HB.out hz); replace HX := Lib.hid (HX.out.below hz); clear hz))
          go_ret
          exact ⟨rfl, HB.out⟩
        | true =>
          cases b5 with
          | false =>
            go_enter Try.func12, Try.ntmps12
            go_upto_region 1 with (fail)
            clear hW1
            go_wp2_with (first | (refine load_part rfl 29 _ rfl _ 0 21 rfl HX.out [.int .i64 o.id, .string o.k, .int .i64 o.cl, .int .i64 o.sq, .int .i64 o.n, .int .i64 o.d, .int .i64 o.p, .int .i64 o.c, .bool o.sp, .int .i64 o.ph, .string o.l.k, .int .i64 o.l.u, .int .i64 o.l.c, .int .i64 o.l.y, .int .i64 o.py.a, .int .i64 o.py.c, .int .i64 o.py.u, .int .i64 o.py.s, .int .i64 o.ak.s, .int .i64 o.ak.u, .bool o.en] rfl _ Try.underlying29 rfl infoO ?_) | (refine load_part rfl 27 _ rfl _ 18 2 rfl HX.out [.int .i64 o.ak.s, .int .i64 o.ak.u] rfl _ Try.underlying27 rfl infoA ?_) | (go_at_call 31; (with_reducible refine (H1.out _).mono ?_); rintro e w' ⟨rfl, hz⟩; replace HB := Lib.hid (below_trans HB.out hz); replace HX := Lib.hid (HX.out.below hz); clear hz; have y1 := HX.out.at 1 rfl) | (go_at_call 32; (with_reducible refine (H2.out _).mono ?_); rintro e w' ⟨rfl, hz⟩; replace HB := Lib.hid (below_trans HB.out hz); replace HX := Lib.hid (HX.out.below hz); clear hz) | (go_at_call 33; (with_reducible refine (H3.out _).mono ?_); rintro e w' ⟨rfl, hz⟩; replace HB := Lib.hid (below_trans HB.out hz); replace HX := Lib.hid (HX.out.below hz); clear hz) | (go_at_call 34; (with_reducible refine (H4.out _).mono ?_); rintro e w' ⟨rfl, hz⟩; replace HB := Lib.hid (below_trans HB.out hz); replace HX := Lib.hid (HX.out.below hz); clear hz) | (go_at_call 35; (with_reducible refine (H5.out _).mono ?_); rintro e w' ⟨rfl, hz⟩; replace HB := Lib.hid (below_trans HB.out hz); replace HX := Lib.hid (HX.out.below hz); clear hz))
            go_ret
            exact ⟨rfl, HB.out⟩
          | true =>
            go_enter Try.func12, Try.ntmps12
            go_upto_region 1 with (fail)
            clear hW1
            go_wp2_with (first | (refine load_part rfl 29 _ rfl _ 0 21 rfl HX.out [.int .i64 o.id, .string o.k, .int .i64 o.cl, .int .i64 o.sq, .int .i64 o.n, .int .i64 o.d, .int .i64 o.p, .int .i64 o.c, .bool o.sp, .int .i64 o.ph, .string o.l.k, .int .i64 o.l.u, .int .i64 o.l.c, .int .i64 o.l.y, .int .i64 o.py.a, .int .i64 o.py.c, .int .i64 o.py.u, .int .i64 o.py.s, .int .i64 o.ak.s, .int .i64 o.ak.u, .bool o.en] rfl _ Try.underlying29 rfl infoO ?_) | (refine load_part rfl 27 _ rfl _ 18 2 rfl HX.out [.int .i64 o.ak.s, .int .i64 o.ak.u] rfl _ Try.underlying27 rfl infoA ?_) | (go_at_call 31; (with_reducible refine (H1.out _).mono ?_); rintro e w' ⟨rfl, hz⟩; replace HB := Lib.hid (below_trans HB.out hz); replace HX := Lib.hid (HX.out.below hz); clear hz; have y1 := HX.out.at 1 rfl) | (go_at_call 32; (with_reducible refine (H2.out _).mono ?_); rintro e w' ⟨rfl, hz⟩; replace HB := Lib.hid (below_trans HB.out hz); replace HX := Lib.hid (HX.out.below hz); clear hz) | (go_at_call 33; (with_reducible refine (H3.out _).mono ?_); rintro e w' ⟨rfl, hz⟩; replace HB := Lib.hid (below_trans HB.out hz); replace HX := Lib.hid (HX.out.below hz); clear hz) | (go_at_call 34; (with_reducible refine (H4.out _).mono ?_); rintro e w' ⟨rfl, hz⟩; replace HB := Lib.hid (below_trans HB.out hz); replace HX := Lib.hid (HX.out.below hz); clear hz) | (go_at_call 35; (with_reducible refine (H5.out _).mono ?_); rintro e w' ⟨rfl, hz⟩; replace HB := Lib.hid (below_trans HB.out hz); replace HX := Lib.hid (HX.out.below hz); clear hz) | (go_at_call 36; (with_reducible refine (H6.out _).mono ?_); rintro e w' ⟨rfl, hz⟩; replace HB := Lib.hid (below_trans HB.out hz); replace HX := Lib.hid (HX.out.below hz); clear hz))
            go_ret
            exact ⟨rfl, HB.out⟩
      · rw [decide_eq_false hn] at H3 ⊢
        clear hn
        go_enter Try.func12, Try.ntmps12
        go_upto_region 1 with (fail)
        clear hW1
        go_wp2_with (first | (refine load_part rfl 29 _ rfl _ 0 21 rfl HX.out [.int .i64 o.id, .string o.k, .int .i64 o.cl, .int .i64 o.sq, .int .i64 o.n, .int .i64 o.d, .int .i64 o.p, .int .i64 o.c, .bool o.sp, .int .i64 o.ph, .string o.l.k, .int .i64 o.l.u, .int .i64 o.l.c, .int .i64 o.l.y, .int .i64 o.py.a, .int .i64 o.py.c, .int .i64 o.py.u, .int .i64 o.py.s, .int .i64 o.ak.s, .int .i64 o.ak.u, .bool o.en] rfl _ Try.underlying29 rfl infoO ?_) | (refine load_part rfl 27 _ rfl _ 18 2 rfl HX.out [.int .i64 o.ak.s, .int .i64 o.ak.u] rfl _ Try.underlying27 rfl infoA ?_) | (go_at_call 31; (with_reducible refine (H1.out _).mono ?_); rintro e w' ⟨rfl, hz⟩; replace HB := Lib.hid (below_trans HB.out hz); replace HX := Lib.hid (HX.out.below hz); clear hz; have y1 := HX.out.at 1 rfl) | (go_at_call 32; (with_reducible refine (H2.out _).mono ?_); rintro e w' ⟨rfl, hz⟩; replace HB := Lib.hid (below_trans HB.out hz); replace HX := Lib.hid (HX.out.below hz); clear hz) | (go_at_call 33; (with_reducible refine (H3.out _).mono ?_); rintro e w' ⟨rfl, hz⟩; replace HB := Lib.hid (below_trans HB.out hz); replace HX := Lib.hid (HX.out.below hz); clear hz))
        go_ret
        exact ⟨rfl, HB.out⟩

set_option maxRecDepth 100000 in
set_option maxHeartbeats 1000000 in
theorem Lack_any (o : Od) (h : Fits o) (w : World) : Calls Try.prog 13 #[ov o] w (IntB (lack o) w) := by
  have hx := order_box w o 29
  have hb := al w (.cells (ocs o).toArray 29)
  obtain ⟨W1, hW1⟩ : ∃ W, w.alloc (.cells (ocs o).toArray 29) = W := ⟨_, rfl⟩
  have HX : Hid (Box w.heap.size (ocs o) W1) := Lib.hid (hW1 ▸ hx)
  have HB : Hid (Below w.heap.size w W1) := Lib.hid (hW1 ▸ hb)
  clear hx hb
  have HR := Lib.hid (Right_any o h)
  have HL : Hid (RightO o → ∀ w, Calls Try.prog 37 #[ov o] w (IntB (o.n - o.d) w)) := Lib.hid (fun g => lack_any o (by have := lack_bd g; omega) (by have := lack_bd g; omega))
  clear h
  unfold lack
  unfold ocs at hW1
  cases hr : rightB o with
  | false =>
    rw [hr] at HR
    unfold ov at HR ⊢
    clear hr HL
    rw [if_neg (by simp)]
    go_enter Try.func13, Try.ntmps13
    go_upto_region 1 with (fail)
    clear hW1
    go_wp2_with (first | (refine load_part rfl 29 _ rfl _ 0 21 rfl HX.out [.int .i64 o.id, .string o.k, .int .i64 o.cl, .int .i64 o.sq, .int .i64 o.n, .int .i64 o.d, .int .i64 o.p, .int .i64 o.c, .bool o.sp, .int .i64 o.ph, .string o.l.k, .int .i64 o.l.u, .int .i64 o.l.c, .int .i64 o.l.y, .int .i64 o.py.a, .int .i64 o.py.c, .int .i64 o.py.u, .int .i64 o.py.s, .int .i64 o.ak.s, .int .i64 o.ak.u, .bool o.en] rfl _ Try.underlying29 rfl infoO ?_) | (go_at_call 12; (with_reducible refine (HR.out _).mono ?_); rintro e w' ⟨rfl, hz⟩; replace HB := Lib.hid (below_trans HB.out hz); replace HX := Lib.hid (HX.out.below hz); clear hz))
    go_ret
    exact ⟨rfl, HB.out⟩
  | true =>
    have HL2 := Lib.hid (HL.out (rightB_t.1 hr))
    rw [hr] at HR
    unfold ov at HR HL2 ⊢
    clear hr HL
    rw [if_pos rfl]
    go_enter Try.func13, Try.ntmps13
    go_upto_region 1 with (fail)
    clear hW1
    go_wp2_with (first | (refine load_part rfl 29 _ rfl _ 0 21 rfl HX.out [.int .i64 o.id, .string o.k, .int .i64 o.cl, .int .i64 o.sq, .int .i64 o.n, .int .i64 o.d, .int .i64 o.p, .int .i64 o.c, .bool o.sp, .int .i64 o.ph, .string o.l.k, .int .i64 o.l.u, .int .i64 o.l.c, .int .i64 o.l.y, .int .i64 o.py.a, .int .i64 o.py.c, .int .i64 o.py.u, .int .i64 o.py.s, .int .i64 o.ak.s, .int .i64 o.ak.u, .bool o.en] rfl _ Try.underlying29 rfl infoO ?_) | (go_at_call 12; (with_reducible refine (HR.out _).mono ?_); rintro e w' ⟨rfl, hz⟩; replace HB := Lib.hid (below_trans HB.out hz); replace HX := Lib.hid (HX.out.below hz); clear hz) | (go_at_call 37; (with_reducible refine (HL2.out _).mono ?_); rintro e w' ⟨rfl, hz⟩; replace HB := Lib.hid (below_trans HB.out hz); replace HX := Lib.hid (HX.out.below hz); clear hz))
    go_ret
    exact ⟨rfl, HB.out⟩

theorem open_eq {o : Od} (h : RightO o) : decide (o.ph = 1 ∨ o.ph = 2) = decide (o.ph < 3) := by
  have := h.phase
  exact decide_eq_decide.2 (by omega)
set_option maxRecDepth 100000 in
set_option maxHeartbeats 1000000 in
theorem Open_any (o : Od) (h : Fits o) (w : World) : Calls Try.prog 14 #[ov o] w (BoolB (openB o) w) := by
  have hx := order_box w o 29
  have hb := al w (.cells (ocs o).toArray 29)
  obtain ⟨W1, hW1⟩ : ∃ W, w.alloc (.cells (ocs o).toArray 29) = W := ⟨_, rfl⟩
  have HX : Hid (Box w.heap.size (ocs o) W1) := Lib.hid (hW1 ▸ hx)
  have HB : Hid (Below w.heap.size w W1) := Lib.hid (hW1 ▸ hb)
  clear hx hb
  have HR := Lib.hid (Right_any o h)
  have HO := Lib.hid (isOpen_any o)
  clear h
  unfold openB
  unfold ocs at hW1
  cases hr : rightB o with
  | false =>
    rw [hr] at HR
    unfold ov at HR ⊢
    clear hr HO
    go_enter Try.func14, Try.ntmps14
    go_upto_region 1 with (fail)
    clear hW1
    go_wp2_with (first | (refine load_part rfl 29 _ rfl _ 0 21 rfl HX.out [.int .i64 o.id, .string o.k, .int .i64 o.cl, .int .i64 o.sq, .int .i64 o.n, .int .i64 o.d, .int .i64 o.p, .int .i64 o.c, .bool o.sp, .int .i64 o.ph, .string o.l.k, .int .i64 o.l.u, .int .i64 o.l.c, .int .i64 o.l.y, .int .i64 o.py.a, .int .i64 o.py.c, .int .i64 o.py.u, .int .i64 o.py.s, .int .i64 o.ak.s, .int .i64 o.ak.u, .bool o.en] rfl _ Try.underlying29 rfl infoO ?_) | (go_at_call 12; (with_reducible refine (HR.out _).mono ?_); rintro e w' ⟨rfl, hz⟩; replace HB := Lib.hid (below_trans HB.out hz); replace HX := Lib.hid (HX.out.below hz); clear hz))
    go_ret
    exact ⟨rfl, HB.out⟩
  | true =>
    rw [open_eq (rightB_t.1 hr)] at HO
    rw [hr] at HR
    generalize decide (o.ph < 3) = m at HO ⊢
    unfold ov at HR HO ⊢
    clear hr
    go_enter Try.func14, Try.ntmps14
    go_upto_region 1 with (fail)
    clear hW1
    go_wp2_with (first | (refine load_part rfl 29 _ rfl _ 0 21 rfl HX.out [.int .i64 o.id, .string o.k, .int .i64 o.cl, .int .i64 o.sq, .int .i64 o.n, .int .i64 o.d, .int .i64 o.p, .int .i64 o.c, .bool o.sp, .int .i64 o.ph, .string o.l.k, .int .i64 o.l.u, .int .i64 o.l.c, .int .i64 o.l.y, .int .i64 o.py.a, .int .i64 o.py.c, .int .i64 o.py.u, .int .i64 o.py.s, .int .i64 o.ak.s, .int .i64 o.ak.u, .bool o.en] rfl _ Try.underlying29 rfl infoO ?_) | (go_at_call 12; (with_reducible refine (HR.out _).mono ?_); rintro e w' ⟨rfl, hz⟩; replace HB := Lib.hid (below_trans HB.out hz); replace HX := Lib.hid (HX.out.below hz); clear hz) | (go_at_call 38; (with_reducible refine (HO.out _).mono ?_); rintro e w' ⟨rfl, hz⟩; replace HB := Lib.hid (below_trans HB.out hz); replace HX := Lib.hid (HX.out.below hz); clear hz))
    go_ret
    exact ⟨rfl, HB.out⟩
end Go.Proofs.Ytjmmijobdcepmaa.Order
