/-
  The reference: an order, a sum and an error as one value; Send, Came, End.
-/
import Derived.Test.YtjmmijobdcepmaaORefB3
namespace Go.Proofs.Ytjmmijobdcepmaa.Order
open Go.ChangeShapes Go.WideShapes Go.ChangeAt Go.RowKit
open Go.Proofs.Ytjmmijobdcepmaa.Pay (Py RightP UnitP TimeP GoodP)
open Go.Proofs.Ytjmmijobdcepmaa.Ask (As RightA)
open Go.Proofs.Ytjmmijobdcepmaa.Goods (nameB)

/-- An order, a sum and an error as one value; its cells. -/
def tv (o : Od) (n z : Int) : Value := .agg #[.int .i64 o.id, .string o.k, .int .i64 o.cl, .int .i64 o.sq, .int .i64 o.n, .int .i64 o.d, .int .i64 o.p, .int .i64 o.c, .bool o.sp, .int .i64 o.ph, .string o.l.k, .int .i64 o.l.u, .int .i64 o.l.c, .int .i64 o.l.y, .int .i64 o.py.a, .int .i64 o.py.c, .int .i64 o.py.u, .int .i64 o.py.s, .int .i64 o.ak.s, .int .i64 o.ak.u, .bool o.en, .int .i64 n, .int .i64 z]
def tcs (o : Od) (n z : Int) : List Value := [.int .i64 o.id, .string o.k, .int .i64 o.cl, .int .i64 o.sq, .int .i64 o.n, .int .i64 o.d, .int .i64 o.p, .int .i64 o.c, .bool o.sp, .int .i64 o.ph, .string o.l.k, .int .i64 o.l.u, .int .i64 o.l.c, .int .i64 o.l.y, .int .i64 o.py.a, .int .i64 o.py.c, .int .i64 o.py.u, .int .i64 o.py.s, .int .i64 o.ak.s, .int .i64 o.ak.u, .bool o.en, .int .i64 n, .int .i64 z]
def TE (o : Od) (n z : Int) (w : World) (e : Ending) (w' : World) : Prop := e = .returned (tv o n z) ∧ Below w.heap.size w w'
theorem infoT : (Try.prog.info? 35).map (·.size) = some 23 := by kernel_rfl
theorem tcs_one (o : Od) (n z : Int) : ∀ v ∈ tcs o n z, v.oneCell' = true := by
  unfold tcs
  simp only [List.mem_cons, List.not_mem_nil, or_false]
  rintro v (rfl | rfl | rfl | rfl | rfl | rfl | rfl | rfl | rfl | rfl | rfl | rfl | rfl | rfl | rfl | rfl | rfl | rfl | rfl | rfl | rfl | rfl | rfl) <;> rfl

set_option maxRecDepth 100000 in
set_option maxHeartbeats 4000000 in
theorem refSend_any (o : Od) (l : Ld) (h : Fits o) (hl : l.k.size ≤ 1000000) (w : World) : Calls Try.prog 20 #[ov o, ldv l] w (TE (sendO o l) 0 (sendE o l) w) := by
  obtain ⟨hx, hl, hr, hb⟩ := three_new w (ocs o) (lcs l) (tcs noO 0 0) 29 23 35
  obtain ⟨W1, hW1⟩ : ∃ W, ((w.alloc (.cells #[.int .i64 o.id, .string o.k, .int .i64 o.cl, .int .i64 o.sq, .int .i64 o.n, .int .i64 o.d, .int .i64 o.p, .int .i64 o.c, .bool o.sp, .int .i64 o.ph, .string o.l.k, .int .i64 o.l.u, .int .i64 o.l.c, .int .i64 o.l.y, .int .i64 o.py.a, .int .i64 o.py.c, .int .i64 o.py.u, .int .i64 o.py.s, .int .i64 o.ak.s, .int .i64 o.ak.u, .bool o.en] 29)).alloc (.cells #[.string l.k, .int .i64 l.u, .int .i64 l.c, .int .i64 l.y] 23)).alloc (.cells #[.int .i64 0, .string ⟨#[]⟩, .int .i64 0, .int .i64 0, .int .i64 0, .int .i64 0, .int .i64 0, .int .i64 0, .bool false, .int .i64 0, .string ⟨#[]⟩, .int .i64 0, .int .i64 0, .int .i64 0, .int .i64 0, .int .i64 0, .int .i64 0, .int .i64 0, .int .i64 0, .int .i64 0, .bool false, .int .i64 0, .int .i64 0] 35) = W := ⟨_, rfl⟩
  have HX : Hid (Box w.heap.size (ocs o) W1) := Lib.hid (hW1 ▸ hx)
  have HL : Hid (Box (w.heap.size + 1) (lcs l) W1) := Lib.hid (hW1 ▸ hl)
  have HR : Hid (Box (w.heap.size + 2) (tcs noO 0 0) W1) := Lib.hid (hW1 ▸ hr)
  have HB : Hid (Below w.heap.size w W1) := Lib.hid (hW1 ▸ hb)
  clear hx hl hr hb
  have H1 := Lib.hid (refRight_any o h)
  have H2 := Lib.hid (refRight_any (sendX o l) ⟨h.1, hl⟩)
  have HS := Lib.hid (send_ways o l)
  have HNE : Hid (w.heap.size + 1 ≠ w.heap.size ∧ w.heap.size + 2 ≠ w.heap.size) := Lib.hid (by omega)
  generalize sendE o l = z at HS ⊢
  generalize sendO o l = y at HS ⊢
  generalize rightB o = r1 at H1 HS
  generalize rightB (sendX o l) = r2 at H2 HS
  clear h hl
  unfold ov at H1 H2 ⊢
  unfold ldv
  rcases HS.out with ⟨rfl, rfl, rfl⟩ | ⟨rfl, h1, rfl, rfl⟩ | ⟨rfl, h1, rfl, rfl, rfl⟩ | ⟨rfl, h1, rfl, rfl, rfl⟩
  · clear HS
    go_enter Try.func20, Try.ntmps20
    go_upto_region 1 with (fail)
    clear hW1
    go_wp2_with (first | (go_at_call 10; (with_reducible refine (H1.out _).mono ?_); rintro e w' ⟨rfl, hz⟩; replace HB := Lib.hid (below_trans HB.out hz); replace HX := Lib.hid (HX.out.below hz); replace HL := Lib.hid (HL.out.below hz); replace HR := Lib.hid (HR.out.below hz); clear hz) | (refine load_at 29 _ rfl _ 0 21 rfl HX.out [.int .i64 o.id, .string o.k, .int .i64 o.cl, .int .i64 o.sq, .int .i64 o.n, .int .i64 o.d, .int .i64 o.p, .int .i64 o.c, .bool o.sp, .int .i64 o.ph, .string o.l.k, .int .i64 o.l.u, .int .i64 o.l.c, .int .i64 o.l.y, .int .i64 o.py.a, .int .i64 o.py.c, .int .i64 o.py.u, .int .i64 o.py.s, .int .i64 o.ak.s, .int .i64 o.ak.u, .bool o.en] rfl _ Try.underlying29 rfl infoO rfl ?_) | (refine store_at 35 _ _ rfl _ 0 rfl (tcs (noO) (0) (1)) rfl HR.out (show 0 + 23 ≤ 23 from by decide) infoT (tcs_one _ _ _) (tcs (noO) (0) (1)) (over_all rfl) rfl (fun w' hy ht => ?_); replace HB := Lib.hid (ht.2 _ _ (Nat.le_add_right _ 2) HB.out); replace HR := Lib.hid hy; clear hy ht))
    exact bodyPost_ret (results_1 rfl rfl HR.out Try.underlying35 rfl infoT) rfl ⟨rfl, HB.out⟩
  · clear HS
    have h1' : (o.ph != 1) = true := by simpa [bne] using h1
    clear h1
    go_enter Try.func20, Try.ntmps20
    go_upto_region 1 with (fail)
    clear hW1
    go_wp2_with (first | (go_at_call 10; (with_reducible refine (H1.out _).mono ?_); rintro e w' ⟨rfl, hz⟩; replace HB := Lib.hid (below_trans HB.out hz); replace HX := Lib.hid (HX.out.below hz); replace HL := Lib.hid (HL.out.below hz); replace HR := Lib.hid (HR.out.below hz); clear hz; have y9 := HX.out.at 9 rfl) | (refine load_at 29 _ rfl _ 0 21 rfl HX.out [.int .i64 o.id, .string o.k, .int .i64 o.cl, .int .i64 o.sq, .int .i64 o.n, .int .i64 o.d, .int .i64 o.p, .int .i64 o.c, .bool o.sp, .int .i64 o.ph, .string o.l.k, .int .i64 o.l.u, .int .i64 o.l.c, .int .i64 o.l.y, .int .i64 o.py.a, .int .i64 o.py.c, .int .i64 o.py.u, .int .i64 o.py.s, .int .i64 o.ak.s, .int .i64 o.ak.u, .bool o.en] rfl _ Try.underlying29 rfl infoO rfl ?_) | (refine store_at 35 _ _ rfl _ 0 rfl (tcs (noO) (0) (10)) rfl HR.out (show 0 + 23 ≤ 23 from by decide) infoT (tcs_one _ _ _) (tcs (noO) (0) (10)) (over_all rfl) rfl (fun w' hy ht => ?_); replace HB := Lib.hid (ht.2 _ _ (Nat.le_add_right _ 2) HB.out); replace HR := Lib.hid hy; clear hy ht))
    exact bodyPost_ret (results_1 rfl rfl HR.out Try.underlying35 rfl infoT) rfl ⟨rfl, HB.out⟩
  · clear HS
    have HPH : Hid (o.ph = 1) := Lib.hid h1
    clear h1
    go_enter Try.func20, Try.ntmps20
    go_upto_region 1 with (fail)
    clear hW1
    go_wp2_with (first | (go_at_call 10; (with_reducible refine (H1.out _).mono ?_); rintro e w' ⟨rfl, hz⟩; replace HB := Lib.hid (below_trans HB.out hz); replace HX := Lib.hid (HX.out.below hz); replace HL := Lib.hid (HL.out.below hz); replace HR := Lib.hid (HR.out.below hz); clear hz; have y9 : w'.cell? ⟨w.heap.size, 9, none⟩ = some (.int .i64 1) := (congrArg (fun z => some (Value.int .i64 z)) HPH.out) ▸ HX.out.at 9 rfl) | (go_at_call 10; (with_reducible refine (H2.out _).mono ?_); rintro e w' ⟨rfl, hz⟩; replace HB := Lib.hid (below_trans HB.out hz); replace HX := Lib.hid (HX.out.below hz); replace HL := Lib.hid (HL.out.below hz); replace HR := Lib.hid (HR.out.below hz); clear hz) | (refine load_at 29 _ rfl _ 0 21 rfl HX.out [.int .i64 o.id, .string o.k, .int .i64 o.cl, .int .i64 o.sq, .int .i64 o.n, .int .i64 o.d, .int .i64 o.p, .int .i64 o.c, .bool o.sp, .int .i64 o.ph, .string o.l.k, .int .i64 o.l.u, .int .i64 o.l.c, .int .i64 o.l.y, .int .i64 o.py.a, .int .i64 o.py.c, .int .i64 o.py.u, .int .i64 o.py.s, .int .i64 o.ak.s, .int .i64 o.ak.u, .bool o.en] rfl _ Try.underlying29 rfl infoO rfl ?_) | (refine store_at 3 _ _ rfl _ 9 rfl [.int .i64 2] rfl HX.out (show 9 + 1 ≤ 21 from by decide) infoI (one_one rfl) (ocs { o with ph := 2 }) rfl rfl (fun w' hy ht => ?_); replace HB := Lib.hid (ht.2 _ _ (Nat.le_refl _) HB.out); replace HX := Lib.hid hy; replace HL := Lib.hid (ht.1 _ _ (HNE.out.1) HL.out); replace HR := Lib.hid (ht.1 _ _ (HNE.out.2) HR.out); clear hy ht) | (refine load_at 23 _ rfl _ 0 4 rfl HL.out [.string l.k, .int .i64 l.u, .int .i64 l.c, .int .i64 l.y] rfl _ Try.underlying23 rfl infoL rfl ?_) | (refine store_at 23 _ _ rfl _ 10 rfl (lcs l) rfl HX.out (show 10 + 4 ≤ 21 from by decide) infoL (lcs_one _) (ocs (sendX o l)) rfl rfl (fun w' hy ht => ?_); replace HB := Lib.hid (ht.2 _ _ (Nat.le_refl _) HB.out); replace HX := Lib.hid hy; replace HL := Lib.hid (ht.1 _ _ (HNE.out.1) HL.out); replace HR := Lib.hid (ht.1 _ _ (HNE.out.2) HR.out); clear hy ht) | (refine load_at 29 _ rfl _ 0 21 rfl HX.out [.int .i64 (sendX o l).id, .string (sendX o l).k, .int .i64 (sendX o l).cl, .int .i64 (sendX o l).sq, .int .i64 (sendX o l).n, .int .i64 (sendX o l).d, .int .i64 (sendX o l).p, .int .i64 (sendX o l).c, .bool (sendX o l).sp, .int .i64 (sendX o l).ph, .string (sendX o l).l.k, .int .i64 (sendX o l).l.u, .int .i64 (sendX o l).l.c, .int .i64 (sendX o l).l.y, .int .i64 (sendX o l).py.a, .int .i64 (sendX o l).py.c, .int .i64 (sendX o l).py.u, .int .i64 (sendX o l).py.s, .int .i64 (sendX o l).ak.s, .int .i64 (sendX o l).ak.u, .bool (sendX o l).en] rfl _ Try.underlying29 rfl infoO rfl ?_) | (refine store_at 35 _ _ rfl _ 0 rfl (tcs (noO) (0) (1)) rfl HR.out (show 0 + 23 ≤ 23 from by decide) infoT (tcs_one _ _ _) (tcs (noO) (0) (1)) (over_all rfl) rfl (fun w' hy ht => ?_); replace HB := Lib.hid (ht.2 _ _ (Nat.le_add_right _ 2) HB.out); replace HR := Lib.hid hy; clear hy ht))
    exact bodyPost_ret (results_1 rfl rfl HR.out Try.underlying35 rfl infoT) rfl ⟨rfl, HB.out⟩
  · clear HS
    have HPH : Hid (o.ph = 1) := Lib.hid h1
    clear h1
    go_enter Try.func20, Try.ntmps20
    go_upto_region 1 with (fail)
    clear hW1
    go_wp2_with (first | (go_at_call 10; (with_reducible refine (H1.out _).mono ?_); rintro e w' ⟨rfl, hz⟩; replace HB := Lib.hid (below_trans HB.out hz); replace HX := Lib.hid (HX.out.below hz); replace HL := Lib.hid (HL.out.below hz); replace HR := Lib.hid (HR.out.below hz); clear hz; have y9 : w'.cell? ⟨w.heap.size, 9, none⟩ = some (.int .i64 1) := (congrArg (fun z => some (Value.int .i64 z)) HPH.out) ▸ HX.out.at 9 rfl) | (go_at_call 10; (with_reducible refine (H2.out _).mono ?_); rintro e w' ⟨rfl, hz⟩; replace HB := Lib.hid (below_trans HB.out hz); replace HX := Lib.hid (HX.out.below hz); replace HL := Lib.hid (HL.out.below hz); replace HR := Lib.hid (HR.out.below hz); clear hz) | (refine load_at 29 _ rfl _ 0 21 rfl HX.out [.int .i64 o.id, .string o.k, .int .i64 o.cl, .int .i64 o.sq, .int .i64 o.n, .int .i64 o.d, .int .i64 o.p, .int .i64 o.c, .bool o.sp, .int .i64 o.ph, .string o.l.k, .int .i64 o.l.u, .int .i64 o.l.c, .int .i64 o.l.y, .int .i64 o.py.a, .int .i64 o.py.c, .int .i64 o.py.u, .int .i64 o.py.s, .int .i64 o.ak.s, .int .i64 o.ak.u, .bool o.en] rfl _ Try.underlying29 rfl infoO rfl ?_) | (refine store_at 3 _ _ rfl _ 9 rfl [.int .i64 2] rfl HX.out (show 9 + 1 ≤ 21 from by decide) infoI (one_one rfl) (ocs { o with ph := 2 }) rfl rfl (fun w' hy ht => ?_); replace HB := Lib.hid (ht.2 _ _ (Nat.le_refl _) HB.out); replace HX := Lib.hid hy; replace HL := Lib.hid (ht.1 _ _ (HNE.out.1) HL.out); replace HR := Lib.hid (ht.1 _ _ (HNE.out.2) HR.out); clear hy ht) | (refine load_at 23 _ rfl _ 0 4 rfl HL.out [.string l.k, .int .i64 l.u, .int .i64 l.c, .int .i64 l.y] rfl _ Try.underlying23 rfl infoL rfl ?_) | (refine store_at 23 _ _ rfl _ 10 rfl (lcs l) rfl HX.out (show 10 + 4 ≤ 21 from by decide) infoL (lcs_one _) (ocs (sendX o l)) rfl rfl (fun w' hy ht => ?_); replace HB := Lib.hid (ht.2 _ _ (Nat.le_refl _) HB.out); replace HX := Lib.hid hy; replace HL := Lib.hid (ht.1 _ _ (HNE.out.1) HL.out); replace HR := Lib.hid (ht.1 _ _ (HNE.out.2) HR.out); clear hy ht) | (refine load_at 29 _ rfl _ 0 21 rfl HX.out [.int .i64 (sendX o l).id, .string (sendX o l).k, .int .i64 (sendX o l).cl, .int .i64 (sendX o l).sq, .int .i64 (sendX o l).n, .int .i64 (sendX o l).d, .int .i64 (sendX o l).p, .int .i64 (sendX o l).c, .bool (sendX o l).sp, .int .i64 (sendX o l).ph, .string (sendX o l).l.k, .int .i64 (sendX o l).l.u, .int .i64 (sendX o l).l.c, .int .i64 (sendX o l).l.y, .int .i64 (sendX o l).py.a, .int .i64 (sendX o l).py.c, .int .i64 (sendX o l).py.u, .int .i64 (sendX o l).py.s, .int .i64 (sendX o l).ak.s, .int .i64 (sendX o l).ak.u, .bool (sendX o l).en] rfl _ Try.underlying29 rfl infoO rfl ?_) | (refine store_at 35 _ _ rfl _ 0 rfl (tcs (sendX o l) (0) (0)) rfl HR.out (show 0 + 23 ≤ 23 from by decide) infoT (tcs_one _ _ _) (tcs (sendX o l) (0) (0)) (over_all rfl) rfl (fun w' hy ht => ?_); replace HB := Lib.hid (ht.2 _ _ (Nat.le_add_right _ 2) HB.out); replace HR := Lib.hid hy; clear hy ht))
    exact bodyPost_ret (results_1 rfl rfl HR.out Try.underlying35 rfl infoT) rfl ⟨rfl, HB.out⟩
end Go.Proofs.Ytjmmijobdcepmaa.Order
