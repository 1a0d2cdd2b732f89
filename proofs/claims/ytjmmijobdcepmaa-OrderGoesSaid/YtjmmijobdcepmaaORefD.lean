/-
  The reference: Wants, New.
-/
import Derived.Test.YtjmmijobdcepmaaORefC
namespace Go.Proofs.Ytjmmijobdcepmaa.Order
open Go.ChangeShapes Go.WideShapes Go.ChangeAt Go.RowKit
open Go.Proofs.Ytjmmijobdcepmaa.Pay (Py RightP UnitP TimeP GoodP)
open Go.Proofs.Ytjmmijobdcepmaa.Ask (As RightA)
open Go.Proofs.Ytjmmijobdcepmaa.Goods (nameB)

/-- What it would take, by what the reference asks. -/
theorem wants_ref (o : Od) (f t : Int) : (rightB o = false ∧ wants o f t = 0) ∨ (rightB o = true ∧ (o.ph != 1) = true ∧ wants o f t = 0) ∨ (rightB o = true ∧ o.ph = 1 ∧ (o.py.s != 1) = true ∧ wants o f t = 0) ∨ (rightB o = true ∧ o.ph = 1 ∧ o.py.s = 1 ∧ o.py.u ≤ t ∧ wants o f t = 0) ∨
    (rightB o = true ∧ o.ph = 1 ∧ o.py.s = 1 ∧ ¬ o.py.u ≤ t ∧ f < 1 ∧ wants o f t = 0) ∨ (rightB o = true ∧ o.ph = 1 ∧ o.py.s = 1 ∧ ¬ o.py.u ≤ t ∧ ¬ f < 1 ∧ IntKind.i64.wrap (o.n - o.d) = o.n - o.d ∧ o.n - o.d ≤ f ∧ wants o f t = o.n - o.d) ∨
    (rightB o = true ∧ o.ph = 1 ∧ o.py.s = 1 ∧ ¬ o.py.u ≤ t ∧ ¬ f < 1 ∧ IntKind.i64.wrap (o.n - o.d) = o.n - o.d ∧ ¬ o.n - o.d ≤ f ∧ o.sp = true ∧ wants o f t = f) ∨ (rightB o = true ∧ o.ph = 1 ∧ o.py.s = 1 ∧ ¬ o.py.u ≤ t ∧ ¬ f < 1 ∧ IntKind.i64.wrap (o.n - o.d) = o.n - o.d ∧ ¬ o.n - o.d ≤ f ∧ o.sp = false ∧ wants o f t = 0) := by
  cases hr : rightB o with
  | false =>
    refine .inl ⟨rfl, ?_⟩
    unfold wants
    exact if_pos (fun h => rightB_f.1 hr h.1)
  | true =>
    have hR := rightB_t.1 hr
    have hb := lack_bd hR
    have hw : IntKind.i64.wrap (o.n - o.d) = o.n - o.d := IntWalk.i64_in _ (by omega)
    have hpr := hR.1.2.2.2.2.2.2.2.1
    by_cases h1 : o.ph = 1
    · by_cases h2 : o.py.s = 1
      · by_cases h3 : o.py.u ≤ t
        · refine .inr (.inr (.inr (.inl ⟨rfl, h1, h2, h3, ?_⟩)))
          unfold wants
          exact if_pos (fun h => by have := h.2.2.1.2.2; omega)
        · by_cases h4 : f < 1
          · refine .inr (.inr (.inr (.inr (.inl ⟨rfl, h1, h2, h3, h4, ?_⟩))))
            unfold wants
            exact if_pos (fun h => by omega)
          · have hg : RightO o ∧ o.ph = 1 ∧ Pay.GoodP o.py t ∧ 1 ≤ f := ⟨hR, h1, ⟨hpr, h2, by omega⟩, by omega⟩
            rcases wants_ways o f t with ⟨g, _⟩ | ⟨_, _, _, _, h5, e⟩ | ⟨_, _, _, _, h5, h6, e⟩ | ⟨_, _, _, _, h5, h6, e⟩
            · exact absurd hg g
            · exact .inr (.inr (.inr (.inr (.inr (.inl ⟨rfl, h1, h2, h3, h4, hw, h5, e⟩)))))
            · exact .inr (.inr (.inr (.inr (.inr (.inr (.inl ⟨rfl, h1, h2, h3, h4, hw, by omega, h6, e⟩))))))
            · exact .inr (.inr (.inr (.inr (.inr (.inr (.inr ⟨rfl, h1, h2, h3, h4, hw, by omega, h6, e⟩))))))
      · refine .inr (.inr (.inl ⟨rfl, h1, by simpa [bne] using h2, ?_⟩))
        unfold wants
        exact if_pos (fun h => h2 h.2.2.1.2.1)
    · refine .inr (.inl ⟨rfl, by simpa [bne] using h1, ?_⟩)
      unfold wants
      exact if_pos (fun h => h1 h.2.1)

set_option maxRecDepth 100000 in
set_option maxHeartbeats 4000000 in
theorem refWants_any (o : Od) (f t : Int) (h : Fits o) (w : World) : Calls Try.prog 16 #[ov o, .int .i64 f, .int .i64 t] w (IntB (wants o f t) w) := by
  have hx := order_box w o 29
  have hb := al w (.cells (ocs o).toArray 29)
  obtain ⟨W1, hW1⟩ : ∃ W, w.alloc (.cells #[.int .i64 o.id, .string o.k, .int .i64 o.cl, .int .i64 o.sq, .int .i64 o.n, .int .i64 o.d, .int .i64 o.p, .int .i64 o.c, .bool o.sp, .int .i64 o.ph, .string o.l.k, .int .i64 o.l.u, .int .i64 o.l.c, .int .i64 o.l.y, .int .i64 o.py.a, .int .i64 o.py.c, .int .i64 o.py.u, .int .i64 o.py.s, .int .i64 o.ak.s, .int .i64 o.ak.u, .bool o.en] 29) = W := ⟨_, rfl⟩
  have HX : Hid (Box w.heap.size (ocs o) W1) := Lib.hid (hW1 ▸ hx)
  have HB : Hid (Below w.heap.size w W1) := Lib.hid (hW1 ▸ hb)
  clear hx hb
  have HR := Lib.hid (refRight_any o h)
  have HW := Lib.hid (wants_ref o f t)
  generalize wants o f t = x at HW ⊢
  generalize rightB o = r at HR HW
  clear h
  unfold ov at HR ⊢
  rcases HW.out with ⟨rfl, rfl⟩ | ⟨rfl, h1, rfl⟩ | ⟨rfl, h1, h2, rfl⟩ | ⟨rfl, h1, h2, h3, rfl⟩ | ⟨rfl, h1, h2, h3, h4, rfl⟩ | ⟨rfl, h1, h2, h3, h4, hw, h5, hx⟩ | ⟨rfl, h1, h2, h3, h4, hw, h5, h6, hx⟩ | ⟨rfl, h1, h2, h3, h4, hw, h5, h6, rfl⟩
  · clear HW
    go_enter Try.func16, Try.ntmps16
    go_upto_region 1 with (fail)
    clear hW1
    go_upto_region 1 with (fail)
    go_wp2_with (first | (go_at_call 10; (with_reducible refine (HR.out _).mono ?_); rintro e w' ⟨rfl, hz⟩; replace HB := Lib.hid (below_trans HB.out hz); replace HX := Lib.hid (HX.out.below hz); clear hz; have y9 := HX.out.at 9 rfl; have y17 := HX.out.at 17 rfl; have y16 := HX.out.at 16 rfl; have y4 := HX.out.at 4 rfl; have y5 := HX.out.at 5 rfl; have hs1 := HX.out.1) | (refine load_at 29 _ rfl _ 0 21 rfl HX.out [.int .i64 o.id, .string o.k, .int .i64 o.cl, .int .i64 o.sq, .int .i64 o.n, .int .i64 o.d, .int .i64 o.p, .int .i64 o.c, .bool o.sp, .int .i64 o.ph, .string o.l.k, .int .i64 o.l.u, .int .i64 o.l.c, .int .i64 o.l.y, .int .i64 o.py.a, .int .i64 o.py.c, .int .i64 o.py.u, .int .i64 o.py.s, .int .i64 o.ak.s, .int .i64 o.ak.u, .bool o.en] rfl _ Try.underlying29 rfl infoO rfl ?_))
    go_ret
    exact ⟨rfl, HB.out⟩
  · clear HW
    go_enter Try.func16, Try.ntmps16
    go_upto_region 1 with (fail)
    clear hW1
    go_upto_region 1 with (fail)
    go_wp2_with (first | (go_at_call 10; (with_reducible refine (HR.out _).mono ?_); rintro e w' ⟨rfl, hz⟩; replace HB := Lib.hid (below_trans HB.out hz); replace HX := Lib.hid (HX.out.below hz); clear hz; have y9 := HX.out.at 9 rfl; have y17 := HX.out.at 17 rfl; have y16 := HX.out.at 16 rfl; have y4 := HX.out.at 4 rfl; have y5 := HX.out.at 5 rfl; have hs1 := HX.out.1) | (refine load_at 29 _ rfl _ 0 21 rfl HX.out [.int .i64 o.id, .string o.k, .int .i64 o.cl, .int .i64 o.sq, .int .i64 o.n, .int .i64 o.d, .int .i64 o.p, .int .i64 o.c, .bool o.sp, .int .i64 o.ph, .string o.l.k, .int .i64 o.l.u, .int .i64 o.l.c, .int .i64 o.l.y, .int .i64 o.py.a, .int .i64 o.py.c, .int .i64 o.py.u, .int .i64 o.py.s, .int .i64 o.ak.s, .int .i64 o.ak.u, .bool o.en] rfl _ Try.underlying29 rfl infoO rfl ?_))
    go_ret
    exact ⟨rfl, HB.out⟩
  · clear HW
    have HPH := Lib.hid h1
    clear h1
    go_enter Try.func16, Try.ntmps16
    go_upto_region 1 with (fail)
    clear hW1
    go_upto_region 1 with (fail)
    go_wp2_with (first | (go_at_call 10; (with_reducible refine (HR.out _).mono ?_); rintro e w' ⟨rfl, hz⟩; replace HB := Lib.hid (below_trans HB.out hz); replace HX := Lib.hid (HX.out.below hz); clear hz; have y9 : w'.cell? ⟨w.heap.size, 9, none⟩ = some (.int .i64 1) := (congrArg (fun z => some (Value.int .i64 z)) HPH.out) ▸ HX.out.at 9 rfl; have y17 := HX.out.at 17 rfl; have y16 := HX.out.at 16 rfl; have y4 := HX.out.at 4 rfl; have y5 := HX.out.at 5 rfl; have hs1 := HX.out.1) | (refine load_at 29 _ rfl _ 0 21 rfl HX.out [.int .i64 o.id, .string o.k, .int .i64 o.cl, .int .i64 o.sq, .int .i64 o.n, .int .i64 o.d, .int .i64 o.p, .int .i64 o.c, .bool o.sp, .int .i64 o.ph, .string o.l.k, .int .i64 o.l.u, .int .i64 o.l.c, .int .i64 o.l.y, .int .i64 o.py.a, .int .i64 o.py.c, .int .i64 o.py.u, .int .i64 o.py.s, .int .i64 o.ak.s, .int .i64 o.ak.u, .bool o.en] rfl _ Try.underlying29 rfl infoO rfl ?_))
    go_ret
    exact ⟨rfl, HB.out⟩
  · clear HW
    have HPH := Lib.hid h1
    clear h1
    have HPS := Lib.hid h2
    clear h2
    go_enter Try.func16, Try.ntmps16
    go_upto_region 1 with (fail)
    clear hW1
    go_upto_region 1 with (fail)
    go_wp2_with (first | (go_at_call 10; (with_reducible refine (HR.out _).mono ?_); rintro e w' ⟨rfl, hz⟩; replace HB := Lib.hid (below_trans HB.out hz); replace HX := Lib.hid (HX.out.below hz); clear hz; have y9 : w'.cell? ⟨w.heap.size, 9, none⟩ = some (.int .i64 1) := (congrArg (fun z => some (Value.int .i64 z)) HPH.out) ▸ HX.out.at 9 rfl; have y17 : w'.cell? ⟨w.heap.size, 17, none⟩ = some (.int .i64 1) := (congrArg (fun z => some (Value.int .i64 z)) HPS.out) ▸ HX.out.at 17 rfl; have y16 := HX.out.at 16 rfl; have y4 := HX.out.at 4 rfl; have y5 := HX.out.at 5 rfl; have hs1 := HX.out.1) | (refine load_at 29 _ rfl _ 0 21 rfl HX.out [.int .i64 o.id, .string o.k, .int .i64 o.cl, .int .i64 o.sq, .int .i64 o.n, .int .i64 o.d, .int .i64 o.p, .int .i64 o.c, .bool o.sp, .int .i64 o.ph, .string o.l.k, .int .i64 o.l.u, .int .i64 o.l.c, .int .i64 o.l.y, .int .i64 o.py.a, .int .i64 o.py.c, .int .i64 o.py.u, .int .i64 o.py.s, .int .i64 o.ak.s, .int .i64 o.ak.u, .bool o.en] rfl _ Try.underlying29 rfl infoO rfl ?_))
    go_ret
    exact ⟨rfl, HB.out⟩
  · clear HW
    have HPH := Lib.hid h1
    clear h1
    have HPS := Lib.hid h2
    clear h2
    go_enter Try.func16, Try.ntmps16
    go_upto_region 1 with (fail)
    clear hW1
    go_upto_region 1 with (fail)
    go_wp2_with (first | (go_at_call 10; (with_reducible refine (HR.out _).mono ?_); rintro e w' ⟨rfl, hz⟩; replace HB := Lib.hid (below_trans HB.out hz); replace HX := Lib.hid (HX.out.below hz); clear hz; have y9 : w'.cell? ⟨w.heap.size, 9, none⟩ = some (.int .i64 1) := (congrArg (fun z => some (Value.int .i64 z)) HPH.out) ▸ HX.out.at 9 rfl; have y17 : w'.cell? ⟨w.heap.size, 17, none⟩ = some (.int .i64 1) := (congrArg (fun z => some (Value.int .i64 z)) HPS.out) ▸ HX.out.at 17 rfl; have y16 := HX.out.at 16 rfl; have y4 := HX.out.at 4 rfl; have y5 := HX.out.at 5 rfl; have hs1 := HX.out.1) | (refine load_at 29 _ rfl _ 0 21 rfl HX.out [.int .i64 o.id, .string o.k, .int .i64 o.cl, .int .i64 o.sq, .int .i64 o.n, .int .i64 o.d, .int .i64 o.p, .int .i64 o.c, .bool o.sp, .int .i64 o.ph, .string o.l.k, .int .i64 o.l.u, .int .i64 o.l.c, .int .i64 o.l.y, .int .i64 o.py.a, .int .i64 o.py.c, .int .i64 o.py.u, .int .i64 o.py.s, .int .i64 o.ak.s, .int .i64 o.ak.u, .bool o.en] rfl _ Try.underlying29 rfl infoO rfl ?_))
    go_ret
    exact ⟨rfl, HB.out⟩
  · clear HW
    have HPH := Lib.hid h1
    clear h1
    have HPS := Lib.hid h2
    clear h2
    have h5' : decide (f ≥ o.n - o.d) = true := decide_eq_true h5
    clear h5
    have HX2 := Lib.hid hx
    clear hx
    go_enter Try.func16, Try.ntmps16
    go_upto_region 1 with (fail)
    clear hW1
    go_upto_region 1 with (fail)
    go_wp2_with (first | (go_at_call 10; (with_reducible refine (HR.out _).mono ?_); rintro e w' ⟨rfl, hz⟩; replace HB := Lib.hid (below_trans HB.out hz); replace HX := Lib.hid (HX.out.below hz); clear hz; have y9 : w'.cell? ⟨w.heap.size, 9, none⟩ = some (.int .i64 1) := (congrArg (fun z => some (Value.int .i64 z)) HPH.out) ▸ HX.out.at 9 rfl; have y17 : w'.cell? ⟨w.heap.size, 17, none⟩ = some (.int .i64 1) := (congrArg (fun z => some (Value.int .i64 z)) HPS.out) ▸ HX.out.at 17 rfl; have y16 := HX.out.at 16 rfl; have y4 := HX.out.at 4 rfl; have y5 := HX.out.at 5 rfl; have hs1 := HX.out.1) | (refine load_at 29 _ rfl _ 0 21 rfl HX.out [.int .i64 o.id, .string o.k, .int .i64 o.cl, .int .i64 o.sq, .int .i64 o.n, .int .i64 o.d, .int .i64 o.p, .int .i64 o.c, .bool o.sp, .int .i64 o.ph, .string o.l.k, .int .i64 o.l.u, .int .i64 o.l.c, .int .i64 o.l.y, .int .i64 o.py.a, .int .i64 o.py.c, .int .i64 o.py.u, .int .i64 o.py.s, .int .i64 o.ak.s, .int .i64 o.ak.u, .bool o.en] rfl _ Try.underlying29 rfl infoO rfl ?_))
    go_ret
    exact ⟨ret_int HX2.out.symm, HB.out⟩
  · clear HW
    have HPH := Lib.hid h1
    clear h1
    have HPS := Lib.hid h2
    clear h2
    have h5' : decide (f ≥ o.n - o.d) = false := decide_eq_false h5
    clear h5
    have HX2 := Lib.hid hx
    clear hx
    have HSP := Lib.hid h6
    clear h6
    go_enter Try.func16, Try.ntmps16
    go_upto_region 1 with (fail)
    clear hW1
    go_upto_region 1 with (fail)
    go_wp2_with (first | (go_at_call 10; (with_reducible refine (HR.out _).mono ?_); rintro e w' ⟨rfl, hz⟩; replace HB := Lib.hid (below_trans HB.out hz); replace HX := Lib.hid (HX.out.below hz); clear hz; have y9 : w'.cell? ⟨w.heap.size, 9, none⟩ = some (.int .i64 1) := (congrArg (fun z => some (Value.int .i64 z)) HPH.out) ▸ HX.out.at 9 rfl; have y17 : w'.cell? ⟨w.heap.size, 17, none⟩ = some (.int .i64 1) := (congrArg (fun z => some (Value.int .i64 z)) HPS.out) ▸ HX.out.at 17 rfl; have y16 := HX.out.at 16 rfl; have y4 := HX.out.at 4 rfl; have y5 := HX.out.at 5 rfl; have hs1 := HX.out.1; have y8 : w'.cell? ⟨w.heap.size, 8, none⟩ = some (.bool true) := (congrArg (fun z => some (Value.bool z)) HSP.out) ▸ HX.out.at 8 rfl) | (refine load_at 29 _ rfl _ 0 21 rfl HX.out [.int .i64 o.id, .string o.k, .int .i64 o.cl, .int .i64 o.sq, .int .i64 o.n, .int .i64 o.d, .int .i64 o.p, .int .i64 o.c, .bool o.sp, .int .i64 o.ph, .string o.l.k, .int .i64 o.l.u, .int .i64 o.l.c, .int .i64 o.l.y, .int .i64 o.py.a, .int .i64 o.py.c, .int .i64 o.py.u, .int .i64 o.py.s, .int .i64 o.ak.s, .int .i64 o.ak.u, .bool o.en] rfl _ Try.underlying29 rfl infoO rfl ?_))
    go_ret
    exact ⟨ret_int HX2.out.symm, HB.out⟩
  · clear HW
    have HPH := Lib.hid h1
    clear h1
    have HPS := Lib.hid h2
    clear h2
    have h5' : decide (f ≥ o.n - o.d) = false := decide_eq_false h5
    clear h5
    have HSP := Lib.hid h6
    clear h6
    go_enter Try.func16, Try.ntmps16
    go_upto_region 1 with (fail)
    clear hW1
    go_upto_region 1 with (fail)
    go_wp2_with (first | (go_at_call 10; (with_reducible refine (HR.out _).mono ?_); rintro e w' ⟨rfl, hz⟩; replace HB := Lib.hid (below_trans HB.out hz); replace HX := Lib.hid (HX.out.below hz); clear hz; have y9 : w'.cell? ⟨w.heap.size, 9, none⟩ = some (.int .i64 1) := (congrArg (fun z => some (Value.int .i64 z)) HPH.out) ▸ HX.out.at 9 rfl; have y17 : w'.cell? ⟨w.heap.size, 17, none⟩ = some (.int .i64 1) := (congrArg (fun z => some (Value.int .i64 z)) HPS.out) ▸ HX.out.at 17 rfl; have y16 := HX.out.at 16 rfl; have y4 := HX.out.at 4 rfl; have y5 := HX.out.at 5 rfl; have hs1 := HX.out.1; have y8 : w'.cell? ⟨w.heap.size, 8, none⟩ = some (.bool false) := (congrArg (fun z => some (Value.bool z)) HSP.out) ▸ HX.out.at 8 rfl) | (refine load_at 29 _ rfl _ 0 21 rfl HX.out [.int .i64 o.id, .string o.k, .int .i64 o.cl, .int .i64 o.sq, .int .i64 o.n, .int .i64 o.d, .int .i64 o.p, .int .i64 o.c, .bool o.sp, .int .i64 o.ph, .string o.l.k, .int .i64 o.l.u, .int .i64 o.l.c, .int .i64 o.l.y, .int .i64 o.py.a, .int .i64 o.py.c, .int .i64 o.py.u, .int .i64 o.py.s, .int .i64 o.ak.s, .int .i64 o.ak.u, .bool o.en] rfl _ Try.underlying29 rfl infoO rfl ?_))
    go_ret
    exact ⟨rfl, HB.out⟩
end Go.Proofs.Ytjmmijobdcepmaa.Order
