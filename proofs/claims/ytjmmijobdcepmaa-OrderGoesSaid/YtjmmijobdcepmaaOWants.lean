/-
  Contracts of package order: Wants, New.
-/
import Derived.Test.YtjmmijobdcepmaaORightC
import Derived.Test.YtjmmijobdcepmaaPNew
namespace Go.Proofs.Ytjmmijobdcepmaa.Order
open Go.ChangeShapes Go.WideShapes Go.ChangeAt Go.RowKit
open Go.Proofs.Ytjmmijobdcepmaa.Pay (Py RightP UnitP TimeP GoodP)
open Go.Proofs.Ytjmmijobdcepmaa.Ask (As RightA)
open Go.Proofs.Ytjmmijobdcepmaa.Goods (nameB)

/-- What it would take, by what is asked. -/
theorem wants_all (o : Od) (f t : Int) : (rightB o = false ∧ wants o f t = 0) ∨ (RightO o ∧ rightB o = true ∧ (o.ph == 1) = false ∧ wants o f t = 0) ∨ (RightO o ∧ rightB o = true ∧ (o.ph == 1) = true ∧ Pay.goodB o.py t = false ∧ wants o f t = 0) ∨
    (RightO o ∧ rightB o = true ∧ (o.ph == 1) = true ∧ Pay.goodB o.py t = true ∧ f < 1 ∧ wants o f t = 0) ∨ (RightO o ∧ rightB o = true ∧ (o.ph == 1) = true ∧ Pay.goodB o.py t = true ∧ ¬ f < 1 ∧ f ≥ o.n - o.d ∧ wants o f t = o.n - o.d) ∨
    (RightO o ∧ rightB o = true ∧ (o.ph == 1) = true ∧ Pay.goodB o.py t = true ∧ ¬ f < 1 ∧ ¬ f ≥ o.n - o.d ∧ o.sp = true ∧ wants o f t = f) ∨ (RightO o ∧ rightB o = true ∧ (o.ph == 1) = true ∧ Pay.goodB o.py t = true ∧ ¬ f < 1 ∧ ¬ f ≥ o.n - o.d ∧ o.sp = false ∧ wants o f t = 0) := by
  rcases wants_ways o f t with ⟨h, e⟩ | ⟨h1, h2, h3, h4, h5, e⟩ | ⟨h1, h2, h3, h4, h5, h6, e⟩ | ⟨h1, h2, h3, h4, h5, h6, e⟩
  · cases hr : rightB o with
    | false => exact .inl ⟨rfl, e⟩
    | true =>
      have hR := rightB_t.1 hr
      cases hp : (o.ph == 1) with
      | false => exact .inr (.inl ⟨hR, rfl, rfl, e⟩)
      | true =>
        have hp' : o.ph = 1 := by simpa using hp
        cases hg : Pay.goodB o.py t with
        | false => exact .inr (.inr (.inl ⟨hR, rfl, rfl, rfl, e⟩))
        | true => exact .inr (.inr (.inr (.inl ⟨hR, rfl, rfl, rfl, Int.not_le.1 (fun g => h ⟨hR, hp', Pay.goodB_t.1 hg, g⟩), e⟩)))
  · exact .inr (.inr (.inr (.inr (.inl ⟨h1, rightB_t.2 h1, by simpa using h2, Pay.goodB_t.2 h3, by omega, h5, e⟩))))
  · exact .inr (.inr (.inr (.inr (.inr (.inl ⟨h1, rightB_t.2 h1, by simpa using h2, Pay.goodB_t.2 h3, by omega, by omega, h6, e⟩)))))
  · exact .inr (.inr (.inr (.inr (.inr (.inr ⟨h1, rightB_t.2 h1, by simpa using h2, Pay.goodB_t.2 h3, by omega, by omega, h6, e⟩)))))

set_option maxRecDepth 100000 in
set_option maxHeartbeats 4000000 in
theorem Wants_any (o : Od) (f t : Int) (h : Fits o) (w : World) : Calls Try.prog 15 #[ov o, .int .i64 f, .int .i64 t] w (IntB (wants o f t) w) := by
  have hx := order_box w o 29
  have hb := al w (.cells (ocs o).toArray 29)
  obtain ⟨W1, hW1⟩ : ∃ W, w.alloc (.cells #[.int .i64 o.id, .string o.k, .int .i64 o.cl, .int .i64 o.sq, .int .i64 o.n, .int .i64 o.d, .int .i64 o.p, .int .i64 o.c, .bool o.sp, .int .i64 o.ph, .string o.l.k, .int .i64 o.l.u, .int .i64 o.l.c, .int .i64 o.l.y, .int .i64 o.py.a, .int .i64 o.py.c, .int .i64 o.py.u, .int .i64 o.py.s, .int .i64 o.ak.s, .int .i64 o.ak.u, .bool o.en] 29) = W := ⟨_, rfl⟩
  have HX : Hid (Box w.heap.size (ocs o) W1) := Lib.hid (hW1 ▸ hx)
  have HB : Hid (Below w.heap.size w W1) := Lib.hid (hW1 ▸ hb)
  clear hx hb
  have HR := Lib.hid (Right_any o h)
  have HG := Lib.hid (Pay.Good_any o.py t)
  have HL : Hid (RightO o → ∀ w, Calls Try.prog 37 #[ov o] w (IntB (o.n - o.d) w)) := Lib.hid (fun g => lack_any o (by have := lack_bd g; omega) (by have := lack_bd g; omega))
  have HW := Lib.hid (wants_all o f t)
  generalize wants o f t = x at HW ⊢
  generalize rightB o = r at HR HW
  generalize Pay.goodB o.py t = g at HG HW
  clear h
  unfold ov at HR HL ⊢
  unfold Pay.pv at HG
  rcases HW.out with ⟨rfl, rfl⟩ | ⟨hr, rfl, h1, rfl⟩ | ⟨hr, rfl, h1, rfl, rfl⟩ | ⟨hr, rfl, h1, rfl, h2, rfl⟩ | ⟨hr, rfl, h1, rfl, h2, h3, hx⟩ | ⟨hr, rfl, h1, rfl, h2, h3, h4, hx⟩ | ⟨hr, rfl, h1, rfl, h2, h3, h4, rfl⟩
  · clear HW HL
    go_enter Try.func15, Try.ntmps15
    go_upto_region 1 with (fail)
    clear hW1
    go_wp2_with (first | (refine load_part rfl 29 _ rfl _ 0 21 rfl HX.out [.int .i64 o.id, .string o.k, .int .i64 o.cl, .int .i64 o.sq, .int .i64 o.n, .int .i64 o.d, .int .i64 o.p, .int .i64 o.c, .bool o.sp, .int .i64 o.ph, .string o.l.k, .int .i64 o.l.u, .int .i64 o.l.c, .int .i64 o.l.y, .int .i64 o.py.a, .int .i64 o.py.c, .int .i64 o.py.u, .int .i64 o.py.s, .int .i64 o.ak.s, .int .i64 o.ak.u, .bool o.en] rfl _ Try.underlying29 rfl infoO ?_) | (refine load_part rfl 25 _ rfl _ 14 4 rfl HX.out [.int .i64 o.py.a, .int .i64 o.py.c, .int .i64 o.py.u, .int .i64 o.py.s] rfl _ Try.underlying25 rfl infoP ?_) | (go_at_call 12; (with_reducible refine (HR.out _).mono ?_); rintro e w' ⟨rfl, hz⟩; replace HB := Lib.hid (below_trans HB.out hz); replace HX := Lib.hid (HX.out.below hz); clear hz; have y9 := HX.out.at 9 rfl))
    go_ret
    exact ⟨rfl, HB.out⟩
  · have h1' : (o.ph != 1) = true := by simp [bne, h1]
    clear h1
    have HL2 := Lib.hid (HL.out hr)
    clear HW HL hr
    go_enter Try.func15, Try.ntmps15
    go_upto_region 1 with (fail)
    clear hW1
    go_wp2_with (first | (refine load_part rfl 29 _ rfl _ 0 21 rfl HX.out [.int .i64 o.id, .string o.k, .int .i64 o.cl, .int .i64 o.sq, .int .i64 o.n, .int .i64 o.d, .int .i64 o.p, .int .i64 o.c, .bool o.sp, .int .i64 o.ph, .string o.l.k, .int .i64 o.l.u, .int .i64 o.l.c, .int .i64 o.l.y, .int .i64 o.py.a, .int .i64 o.py.c, .int .i64 o.py.u, .int .i64 o.py.s, .int .i64 o.ak.s, .int .i64 o.ak.u, .bool o.en] rfl _ Try.underlying29 rfl infoO ?_) | (refine load_part rfl 25 _ rfl _ 14 4 rfl HX.out [.int .i64 o.py.a, .int .i64 o.py.c, .int .i64 o.py.u, .int .i64 o.py.s] rfl _ Try.underlying25 rfl infoP ?_) | (go_at_call 12; (with_reducible refine (HR.out _).mono ?_); rintro e w' ⟨rfl, hz⟩; replace HB := Lib.hid (below_trans HB.out hz); replace HX := Lib.hid (HX.out.below hz); clear hz; have y9 := HX.out.at 9 rfl))
    go_ret
    exact ⟨rfl, HB.out⟩
  · have HPH : Hid (o.ph = 1) := Lib.hid (by simpa using h1)
    clear h1
    have HL2 := Lib.hid (HL.out hr)
    clear HW HL hr
    go_enter Try.func15, Try.ntmps15
    go_upto_region 1 with (fail)
    clear hW1
    go_wp2_with (first | (refine load_part rfl 29 _ rfl _ 0 21 rfl HX.out [.int .i64 o.id, .string o.k, .int .i64 o.cl, .int .i64 o.sq, .int .i64 o.n, .int .i64 o.d, .int .i64 o.p, .int .i64 o.c, .bool o.sp, .int .i64 o.ph, .string o.l.k, .int .i64 o.l.u, .int .i64 o.l.c, .int .i64 o.l.y, .int .i64 o.py.a, .int .i64 o.py.c, .int .i64 o.py.u, .int .i64 o.py.s, .int .i64 o.ak.s, .int .i64 o.ak.u, .bool o.en] rfl _ Try.underlying29 rfl infoO ?_) | (refine load_part rfl 25 _ rfl _ 14 4 rfl HX.out [.int .i64 o.py.a, .int .i64 o.py.c, .int .i64 o.py.u, .int .i64 o.py.s] rfl _ Try.underlying25 rfl infoP ?_) | (go_at_call 12; (with_reducible refine (HR.out _).mono ?_); rintro e w' ⟨rfl, hz⟩; replace HB := Lib.hid (below_trans HB.out hz); replace HX := Lib.hid (HX.out.below hz); clear hz; have y9 : w'.cell? ⟨w.heap.size, 9, none⟩ = some (.int .i64 1) := (congrArg (fun z => some (Value.int .i64 z)) HPH.out) ▸ HX.out.at 9 rfl) | (go_at_call 39; (with_reducible refine (HG.out _).mono ?_); rintro e w' ⟨rfl, hz⟩; replace HB := Lib.hid (below_trans HB.out hz); replace HX := Lib.hid (HX.out.below hz); clear hz))
    go_ret
    exact ⟨rfl, HB.out⟩
  · have HPH : Hid (o.ph = 1) := Lib.hid (by simpa using h1)
    clear h1
    have HL2 := Lib.hid (HL.out hr)
    clear HW HL hr
    go_enter Try.func15, Try.ntmps15
    go_upto_region 1 with (fail)
    clear hW1
    go_wp2_with (first | (refine load_part rfl 29 _ rfl _ 0 21 rfl HX.out [.int .i64 o.id, .string o.k, .int .i64 o.cl, .int .i64 o.sq, .int .i64 o.n, .int .i64 o.d, .int .i64 o.p, .int .i64 o.c, .bool o.sp, .int .i64 o.ph, .string o.l.k, .int .i64 o.l.u, .int .i64 o.l.c, .int .i64 o.l.y, .int .i64 o.py.a, .int .i64 o.py.c, .int .i64 o.py.u, .int .i64 o.py.s, .int .i64 o.ak.s, .int .i64 o.ak.u, .bool o.en] rfl _ Try.underlying29 rfl infoO ?_) | (refine load_part rfl 25 _ rfl _ 14 4 rfl HX.out [.int .i64 o.py.a, .int .i64 o.py.c, .int .i64 o.py.u, .int .i64 o.py.s] rfl _ Try.underlying25 rfl infoP ?_) | (go_at_call 12; (with_reducible refine (HR.out _).mono ?_); rintro e w' ⟨rfl, hz⟩; replace HB := Lib.hid (below_trans HB.out hz); replace HX := Lib.hid (HX.out.below hz); clear hz; have y9 : w'.cell? ⟨w.heap.size, 9, none⟩ = some (.int .i64 1) := (congrArg (fun z => some (Value.int .i64 z)) HPH.out) ▸ HX.out.at 9 rfl) | (go_at_call 39; (with_reducible refine (HG.out _).mono ?_); rintro e w' ⟨rfl, hz⟩; replace HB := Lib.hid (below_trans HB.out hz); replace HX := Lib.hid (HX.out.below hz); clear hz))
    go_ret
    exact ⟨rfl, HB.out⟩
  · have HPH : Hid (o.ph = 1) := Lib.hid (by simpa using h1)
    clear h1
    have HL2 := Lib.hid (HL.out hr)
    clear HW HL hr
    have HX2 := Lib.hid hx
    clear hx
    go_enter Try.func15, Try.ntmps15
    go_upto_region 1 with (fail)
    clear hW1
    go_wp2_with (first | (refine load_part rfl 29 _ rfl _ 0 21 rfl HX.out [.int .i64 o.id, .string o.k, .int .i64 o.cl, .int .i64 o.sq, .int .i64 o.n, .int .i64 o.d, .int .i64 o.p, .int .i64 o.c, .bool o.sp, .int .i64 o.ph, .string o.l.k, .int .i64 o.l.u, .int .i64 o.l.c, .int .i64 o.l.y, .int .i64 o.py.a, .int .i64 o.py.c, .int .i64 o.py.u, .int .i64 o.py.s, .int .i64 o.ak.s, .int .i64 o.ak.u, .bool o.en] rfl _ Try.underlying29 rfl infoO ?_) | (refine load_part rfl 25 _ rfl _ 14 4 rfl HX.out [.int .i64 o.py.a, .int .i64 o.py.c, .int .i64 o.py.u, .int .i64 o.py.s] rfl _ Try.underlying25 rfl infoP ?_) | (go_at_call 12; (with_reducible refine (HR.out _).mono ?_); rintro e w' ⟨rfl, hz⟩; replace HB := Lib.hid (below_trans HB.out hz); replace HX := Lib.hid (HX.out.below hz); clear hz; have y9 : w'.cell? ⟨w.heap.size, 9, none⟩ = some (.int .i64 1) := (congrArg (fun z => some (Value.int .i64 z)) HPH.out) ▸ HX.out.at 9 rfl) | (go_at_call 39; (with_reducible refine (HG.out _).mono ?_); rintro e w' ⟨rfl, hz⟩; replace HB := Lib.hid (below_trans HB.out hz); replace HX := Lib.hid (HX.out.below hz); clear hz) | (go_at_call 37; (with_reducible refine (HL2.out _).mono ?_); rintro e w' ⟨rfl, hz⟩; replace HB := Lib.hid (below_trans HB.out hz); replace HX := Lib.hid (HX.out.below hz); clear hz))
    go_ret
    exact ⟨ret_int HX2.out.symm, HB.out⟩
  · have HPH : Hid (o.ph = 1) := Lib.hid (by simpa using h1)
    clear h1
    have HL2 := Lib.hid (HL.out hr)
    clear HW HL hr
    have HX2 := Lib.hid hx
    clear hx
    have HSP := Lib.hid h4
    clear h4
    go_enter Try.func15, Try.ntmps15
    go_upto_region 1 with (fail)
    clear hW1
    go_wp2_with (first | (refine load_part rfl 29 _ rfl _ 0 21 rfl HX.out [.int .i64 o.id, .string o.k, .int .i64 o.cl, .int .i64 o.sq, .int .i64 o.n, .int .i64 o.d, .int .i64 o.p, .int .i64 o.c, .bool o.sp, .int .i64 o.ph, .string o.l.k, .int .i64 o.l.u, .int .i64 o.l.c, .int .i64 o.l.y, .int .i64 o.py.a, .int .i64 o.py.c, .int .i64 o.py.u, .int .i64 o.py.s, .int .i64 o.ak.s, .int .i64 o.ak.u, .bool o.en] rfl _ Try.underlying29 rfl infoO ?_) | (refine load_part rfl 25 _ rfl _ 14 4 rfl HX.out [.int .i64 o.py.a, .int .i64 o.py.c, .int .i64 o.py.u, .int .i64 o.py.s] rfl _ Try.underlying25 rfl infoP ?_) | (go_at_call 12; (with_reducible refine (HR.out _).mono ?_); rintro e w' ⟨rfl, hz⟩; replace HB := Lib.hid (below_trans HB.out hz); replace HX := Lib.hid (HX.out.below hz); clear hz; have y9 : w'.cell? ⟨w.heap.size, 9, none⟩ = some (.int .i64 1) := (congrArg (fun z => some (Value.int .i64 z)) HPH.out) ▸ HX.out.at 9 rfl) | (go_at_call 39; (with_reducible refine (HG.out _).mono ?_); rintro e w' ⟨rfl, hz⟩; replace HB := Lib.hid (below_trans HB.out hz); replace HX := Lib.hid (HX.out.below hz); clear hz) | (go_at_call 37; (with_reducible refine (HL2.out _).mono ?_); rintro e w' ⟨rfl, hz⟩; replace HB := Lib.hid (below_trans HB.out hz); replace HX := Lib.hid (HX.out.below hz); clear hz; have y8 : w'.cell? ⟨w.heap.size, 8, none⟩ = some (.bool true) := (congrArg (fun z => some (Value.bool z)) HSP.out) ▸ HX.out.at 8 rfl))
    go_ret
    exact ⟨ret_int HX2.out.symm, HB.out⟩
  · have HPH : Hid (o.ph = 1) := Lib.hid (by simpa using h1)
    clear h1
    have HL2 := Lib.hid (HL.out hr)
    clear HW HL hr
    have HSP := Lib.hid h4
    clear h4
    go_enter Try.func15, Try.ntmps15
    go_upto_region 1 with (fail)
    clear hW1
    go_wp2_with (first | (refine load_part rfl 29 _ rfl _ 0 21 rfl HX.out [.int .i64 o.id, .string o.k, .int .i64 o.cl, .int .i64 o.sq, .int .i64 o.n, .int .i64 o.d, .int .i64 o.p, .int .i64 o.c, .bool o.sp, .int .i64 o.ph, .string o.l.k, .int .i64 o.l.u, .int .i64 o.l.c, .int .i64 o.l.y, .int .i64 o.py.a, .int .i64 o.py.c, .int .i64 o.py.u, .int .i64 o.py.s, .int .i64 o.ak.s, .int .i64 o.ak.u, .bool o.en] rfl _ Try.underlying29 rfl infoO ?_) | (refine load_part rfl 25 _ rfl _ 14 4 rfl HX.out [.int .i64 o.py.a, .int .i64 o.py.c, .int .i64 o.py.u, .int .i64 o.py.s] rfl _ Try.underlying25 rfl infoP ?_) | (go_at_call 12; (with_reducible refine (HR.out _).mono ?_); rintro e w' ⟨rfl, hz⟩; replace HB := Lib.hid (below_trans HB.out hz); replace HX := Lib.hid (HX.out.below hz); clear hz; have y9 : w'.cell? ⟨w.heap.size, 9, none⟩ = some (.int .i64 1) := (congrArg (fun z => some (Value.int .i64 z)) HPH.out) ▸ HX.out.at 9 rfl) | (go_at_call 39; (with_reducible refine (HG.out _).mono ?_); rintro e w' ⟨rfl, hz⟩; replace HB := Lib.hid (below_trans HB.out hz); replace HX := Lib.hid (HX.out.below hz); clear hz) | (go_at_call 37; (with_reducible refine (HL2.out _).mono ?_); rintro e w' ⟨rfl, hz⟩; replace HB := Lib.hid (below_trans HB.out hz); replace HX := Lib.hid (HX.out.below hz); clear hz; have y8 : w'.cell? ⟨w.heap.size, 8, none⟩ = some (.bool false) := (congrArg (fun z => some (Value.bool z)) HSP.out) ▸ HX.out.at 8 rfl))
    go_ret
    exact ⟨rfl, HB.out⟩

set_option maxRecDepth 100000 in
set_option maxHeartbeats 4000000 in
theorem New_any (o : Od) (t : Int) (h : Fits o) (w : World) : Calls Try.prog 8 #[ov o, .int .i64 t] w (OrdE (newO o t) (newE o t) w) := by
  obtain ⟨hx, hr, hb⟩ := two_new w (ocs o) (ocs noO) 29 29
  obtain ⟨W1, hW1⟩ : ∃ W, (w.alloc (.cells #[.int .i64 o.id, .string o.k, .int .i64 o.cl, .int .i64 o.sq, .int .i64 o.n, .int .i64 o.d, .int .i64 o.p, .int .i64 o.c, .bool o.sp, .int .i64 o.ph, .string o.l.k, .int .i64 o.l.u, .int .i64 o.l.c, .int .i64 o.l.y, .int .i64 o.py.a, .int .i64 o.py.c, .int .i64 o.py.u, .int .i64 o.py.s, .int .i64 o.ak.s, .int .i64 o.ak.u, .bool o.en] 29)).alloc (.cells #[.int .i64 0, .string ⟨#[]⟩, .int .i64 0, .int .i64 0, .int .i64 0, .int .i64 0, .int .i64 0, .int .i64 0, .bool false, .int .i64 0, .string ⟨#[]⟩, .int .i64 0, .int .i64 0, .int .i64 0, .int .i64 0, .int .i64 0, .int .i64 0, .int .i64 0, .int .i64 0, .int .i64 0, .bool false] 29) = W := ⟨_, rfl⟩
  have HX : Hid (Box w.heap.size (ocs o) W1) := Lib.hid (hW1 ▸ hx)
  have HR : Hid (Box (w.heap.size + 1) (ocs noO) W1) := Lib.hid (hW1 ▸ hr)
  have HB : Hid (Below w.heap.size w W1) := Lib.hid (hW1 ▸ hb)
  clear hx hr hb
  have HP := Lib.hid (Pay.New_any o.n o.p t)
  have HQ := Lib.hid (Right_any (newX o t) ⟨h.1, by simp [newX, noL]⟩)
  have HW : Hid ((newE o t = Pay.newE o.n o.p t ∧ Pay.newO o.n o.p t = Pay.noP ∧ (Pay.newE o.n o.p t == 0) = false ∧ newO o t = noO) ∨ (Pay.newE o.n o.p t = 0 ∧ Pay.newO o.n o.p t = ⟨o.n * o.p, 0, t, 1⟩ ∧ rightB (newX o t) = false ∧ newE o t = 1 ∧ newO o t = noO) ∨ (Pay.newE o.n o.p t = 0 ∧ Pay.newO o.n o.p t = ⟨o.n * o.p, 0, t, 1⟩ ∧ rightB (newX o t) = true ∧ newE o t = 0 ∧ newO o t = newX o t)) := Lib.hid (by
    rcases new_ways o t with ⟨g, e1, e2⟩ | ⟨g1, g2, g3, g4, e1, e2⟩ | ⟨g1, g2, g3, g4, g5, e1, e2⟩ | ⟨g1, g2, g3, g4, g5, e1, e2⟩ <;> rcases Pay.new_ways o.n o.p t with ⟨k, f1, f2⟩ | ⟨k1, k2, k3, k4, f1, f2⟩ | ⟨k1, k2, k3, k4, k5, f1, f2⟩
    · exact .inl ⟨by rw [e1, f1], f2, by rw [f1]; rfl, e2⟩
    · exact absurd ⟨k1, k2, k3⟩ g
    · exact absurd ⟨k1, k2, k3⟩ g
    · exact absurd ⟨g1, g2, g3⟩ k
    · exact .inl ⟨by rw [e1, f1], f2, by rw [f1]; rfl, e2⟩
    · omega
    · exact absurd ⟨g1, g2, g3⟩ k
    · omega
    · exact .inr (.inl ⟨f1, f2, g5, e1, e2⟩)
    · exact absurd ⟨g1, g2, g3⟩ k
    · omega
    · exact .inr (.inr ⟨f1, f2, g5, e1, e2⟩))
  generalize newE o t = z at HW ⊢
  generalize newO o t = y at HW ⊢
  generalize Pay.newE o.n o.p t = pz at HP HW
  generalize Pay.newO o.n o.p t = pm at HP HW
  generalize rightB (newX o t) = r at HQ HW
  clear h
  have y4 := HX.out.at 4 rfl
  have y6 := HX.out.at 6 rfl
  unfold ov at HQ ⊢
  rcases HW.out with ⟨rfl, rfl, h1, rfl⟩ | ⟨rfl, rfl, rfl, rfl, rfl⟩ | ⟨rfl, rfl, rfl, rfl, rfl⟩
  · clear HW
    go_enter Try.func8, Try.ntmps8
    go_upto_region 1 with (fail)
    clear hW1
    go_wp2_with (first | (go_at_call 23; (with_reducible refine (HP.out _).mono ?_); rintro e w' ⟨rfl, hz⟩; replace HB := Lib.hid (below_trans HB.out hz); replace HX := Lib.hid (HX.out.below hz); replace HR := Lib.hid (HR.out.below hz); clear hz) | (refine store_part rfl 25 _ _ rfl _ 0 rfl (Pay.pcs Pay.noP) rfl (Box.made _ (Pay.pcs Pay.noP) _) (show 0 + 4 ≤ 4 from by decide) infoP (pcs_one _) (Pay.pcs Pay.noP) (over_all rfl) (fun w' hy ht => ?_); have HM := Lib.hid hy; replace HX := Lib.hid (ht.1 _ _ (Nat.ne_of_lt HX.out.1) (HX.out.below (al _ _))); replace HR := Lib.hid (ht.1 _ _ (Nat.ne_of_lt HR.out.1) (HR.out.below (al _ _))); replace HB := Lib.hid (ht.2 _ _ HB.out.size (below_trans HB.out (al _ _))); clear hy ht; have y0 := HX.out.at 0 rfl; have y1 := HX.out.at 1 rfl; have y2 := HX.out.at 2 rfl; have y3 := HX.out.at 3 rfl; have y4 := HX.out.at 4 rfl; have y6 := HX.out.at 6 rfl; have y7 := HX.out.at 7 rfl; have y8 := HX.out.at 8 rfl) | (refine store_part rfl 29 _ _ rfl _ 0 rfl (ocs (noO)) rfl HR.out (show 0 + 21 ≤ 21 from by decide) infoO (ocs_one _) (ocs (noO)) (over_all rfl) (fun w' hy ht => ?_); replace HB := Lib.hid (ht.2 _ _ (Nat.le_succ _) HB.out); replace HR := Lib.hid hy; clear hy ht))
    exact bodyPost_ret (results_2 rfl rfl rfl HR.out Try.underlying29 rfl infoO) rfl ⟨rfl, HB.out⟩
  · clear HW
    go_enter Try.func8, Try.ntmps8
    go_upto_region 1 with (fail)
    clear hW1
    go_wp2_with (first | (go_at_call 23; (with_reducible refine (HP.out _).mono ?_); rintro e w' ⟨rfl, hz⟩; replace HB := Lib.hid (below_trans HB.out hz); replace HX := Lib.hid (HX.out.below hz); replace HR := Lib.hid (HR.out.below hz); clear hz) | (refine store_part rfl 25 _ _ rfl _ 0 rfl (Pay.pcs (⟨o.n * o.p, 0, t, 1⟩ : Py)) rfl (Box.made _ (Pay.pcs Pay.noP) _) (show 0 + 4 ≤ 4 from by decide) infoP (pcs_one _) (Pay.pcs (⟨o.n * o.p, 0, t, 1⟩ : Py)) (over_all rfl) (fun w' hy ht => ?_); have HM := Lib.hid hy; replace HX := Lib.hid (ht.1 _ _ (Nat.ne_of_lt HX.out.1) (HX.out.below (al _ _))); replace HR := Lib.hid (ht.1 _ _ (Nat.ne_of_lt HR.out.1) (HR.out.below (al _ _))); replace HB := Lib.hid (ht.2 _ _ HB.out.size (below_trans HB.out (al _ _))); clear hy ht; have y0 := HX.out.at 0 rfl; have y1 := HX.out.at 1 rfl; have y2 := HX.out.at 2 rfl; have y3 := HX.out.at 3 rfl; have y4 := HX.out.at 4 rfl; have y6 := HX.out.at 6 rfl; have y7 := HX.out.at 7 rfl; have y8 := HX.out.at 8 rfl) | (refine load_part rfl 25 _ rfl _ 0 4 rfl HM.out [.int .i64 (o.n * o.p), .int .i64 0, .int .i64 t, .int .i64 1] rfl _ Try.underlying25 rfl infoP ?_) | (refine store_part rfl 29 _ _ rfl _ 0 rfl (ocs (newX o t)) rfl (Box.made _ (ocs noO) _) (show 0 + 21 ≤ 21 from by decide) infoO (ocs_one _) (ocs (newX o t)) (over_all rfl) (fun w' hy ht => ?_); have HO := Lib.hid hy; replace HX := Lib.hid (ht.1 _ _ (Nat.ne_of_lt HX.out.1) (HX.out.below (al _ _))); replace HR := Lib.hid (ht.1 _ _ (Nat.ne_of_lt HR.out.1) (HR.out.below (al _ _))); replace HB := Lib.hid (ht.2 _ _ HB.out.size (below_trans HB.out (al _ _))); clear hy ht) | (refine load_part rfl 29 _ rfl _ 0 21 rfl HO.out [.int .i64 (newX o t).id, .string (newX o t).k, .int .i64 (newX o t).cl, .int .i64 (newX o t).sq, .int .i64 (newX o t).n, .int .i64 (newX o t).d, .int .i64 (newX o t).p, .int .i64 (newX o t).c, .bool (newX o t).sp, .int .i64 (newX o t).ph, .string (newX o t).l.k, .int .i64 (newX o t).l.u, .int .i64 (newX o t).l.c, .int .i64 (newX o t).l.y, .int .i64 (newX o t).py.a, .int .i64 (newX o t).py.c, .int .i64 (newX o t).py.u, .int .i64 (newX o t).py.s, .int .i64 (newX o t).ak.s, .int .i64 (newX o t).ak.u, .bool (newX o t).en] rfl _ Try.underlying29 rfl infoO ?_) | (go_at_call 12; (with_reducible refine (HQ.out _).mono ?_); rintro e w' ⟨rfl, hz⟩; replace HB := Lib.hid (below_trans HB.out hz); replace HX := Lib.hid (HX.out.below hz); replace HR := Lib.hid (HR.out.below hz); replace HO := Lib.hid (HO.out.below hz); clear hz) | (refine store_part rfl 29 _ _ rfl _ 0 rfl (ocs (noO)) rfl HR.out (show 0 + 21 ≤ 21 from by decide) infoO (ocs_one _) (ocs (noO)) (over_all rfl) (fun w' hy ht => ?_); replace HB := Lib.hid (ht.2 _ _ (Nat.le_succ _) HB.out); replace HR := Lib.hid hy; clear hy ht))
    exact bodyPost_ret (results_2 rfl rfl rfl HR.out Try.underlying29 rfl infoO) rfl ⟨rfl, HB.out⟩
  · clear HW
    go_enter Try.func8, Try.ntmps8
    go_upto_region 1 with (fail)
    clear hW1
    go_wp2_with (first | (go_at_call 23; (with_reducible refine (HP.out _).mono ?_); rintro e w' ⟨rfl, hz⟩; replace HB := Lib.hid (below_trans HB.out hz); replace HX := Lib.hid (HX.out.below hz); replace HR := Lib.hid (HR.out.below hz); clear hz) | (refine store_part rfl 25 _ _ rfl _ 0 rfl (Pay.pcs (⟨o.n * o.p, 0, t, 1⟩ : Py)) rfl (Box.made _ (Pay.pcs Pay.noP) _) (show 0 + 4 ≤ 4 from by decide) infoP (pcs_one _) (Pay.pcs (⟨o.n * o.p, 0, t, 1⟩ : Py)) (over_all rfl) (fun w' hy ht => ?_); have HM := Lib.hid hy; replace HX := Lib.hid (ht.1 _ _ (Nat.ne_of_lt HX.out.1) (HX.out.below (al _ _))); replace HR := Lib.hid (ht.1 _ _ (Nat.ne_of_lt HR.out.1) (HR.out.below (al _ _))); replace HB := Lib.hid (ht.2 _ _ HB.out.size (below_trans HB.out (al _ _))); clear hy ht; have y0 := HX.out.at 0 rfl; have y1 := HX.out.at 1 rfl; have y2 := HX.out.at 2 rfl; have y3 := HX.out.at 3 rfl; have y4 := HX.out.at 4 rfl; have y6 := HX.out.at 6 rfl; have y7 := HX.out.at 7 rfl; have y8 := HX.out.at 8 rfl) | (refine load_part rfl 25 _ rfl _ 0 4 rfl HM.out [.int .i64 (o.n * o.p), .int .i64 0, .int .i64 t, .int .i64 1] rfl _ Try.underlying25 rfl infoP ?_) | (refine store_part rfl 29 _ _ rfl _ 0 rfl (ocs (newX o t)) rfl (Box.made _ (ocs noO) _) (show 0 + 21 ≤ 21 from by decide) infoO (ocs_one _) (ocs (newX o t)) (over_all rfl) (fun w' hy ht => ?_); have HO := Lib.hid hy; replace HX := Lib.hid (ht.1 _ _ (Nat.ne_of_lt HX.out.1) (HX.out.below (al _ _))); replace HR := Lib.hid (ht.1 _ _ (Nat.ne_of_lt HR.out.1) (HR.out.below (al _ _))); replace HB := Lib.hid (ht.2 _ _ HB.out.size (below_trans HB.out (al _ _))); clear hy ht) | (refine load_part rfl 29 _ rfl _ 0 21 rfl HO.out [.int .i64 (newX o t).id, .string (newX o t).k, .int .i64 (newX o t).cl, .int .i64 (newX o t).sq, .int .i64 (newX o t).n, .int .i64 (newX o t).d, .int .i64 (newX o t).p, .int .i64 (newX o t).c, .bool (newX o t).sp, .int .i64 (newX o t).ph, .string (newX o t).l.k, .int .i64 (newX o t).l.u, .int .i64 (newX o t).l.c, .int .i64 (newX o t).l.y, .int .i64 (newX o t).py.a, .int .i64 (newX o t).py.c, .int .i64 (newX o t).py.u, .int .i64 (newX o t).py.s, .int .i64 (newX o t).ak.s, .int .i64 (newX o t).ak.u, .bool (newX o t).en] rfl _ Try.underlying29 rfl infoO ?_) | (go_at_call 12; (with_reducible refine (HQ.out _).mono ?_); rintro e w' ⟨rfl, hz⟩; replace HB := Lib.hid (below_trans HB.out hz); replace HX := Lib.hid (HX.out.below hz); replace HR := Lib.hid (HR.out.below hz); replace HO := Lib.hid (HO.out.below hz); clear hz) | (refine store_part rfl 29 _ _ rfl _ 0 rfl (ocs (newX o t)) rfl HR.out (show 0 + 21 ≤ 21 from by decide) infoO (ocs_one _) (ocs (newX o t)) (over_all rfl) (fun w' hy ht => ?_); replace HB := Lib.hid (ht.2 _ _ (Nat.le_succ _) HB.out); replace HR := Lib.hid hy; clear hy ht))
    exact bodyPost_ret (results_2 rfl rfl rfl HR.out Try.underlying29 rfl infoO) rfl ⟨rfl, HB.out⟩
end Go.Proofs.Ytjmmijobdcepmaa.Order
