/-
  The reference: Came.
-/
import Derived.Test.YtjmmijobdcepmaaORefC
namespace Go.Proofs.Ytjmmijobdcepmaa.Order
open Go.ChangeShapes Go.WideShapes Go.ChangeAt Go.RowKit
open Go.Proofs.Ytjmmijobdcepmaa.Pay (Py RightP UnitP TimeP GoodP)
open Go.Proofs.Ytjmmijobdcepmaa.Ask (As RightA)
open Go.Proofs.Ytjmmijobdcepmaa.Goods (nameB)

theorem came_eqs {o : Od} (h : RightO o) (h2 : o.ph = 2) : IntKind.i64.wrap (o.l.c * o.p) = o.l.c * o.p ∧ IntKind.i64.wrap (o.d + o.l.c) = o.d + o.l.c ∧ IntKind.i64.wrap (o.py.c + o.l.c * o.p) = o.py.c + o.l.c * o.p ∧
    ((o.d + o.l.c == o.n) = true → ({ midX o with ph := 3, py := ⟨o.py.a, o.py.c + o.l.c * o.p, o.py.u, 3⟩, en := false } : Od) = cameX o) ∧ ((o.d + o.l.c == o.n) = false → o.en = true → ({ midX o with ph := 4, py := ⟨o.py.a, o.py.c + o.l.c * o.p, o.py.u, 3⟩, en := false } : Od) = cameX o) ∧
    ((o.d + o.l.c == o.n) = false → o.en = false → ({ midX o with ph := 1, en := false } : Od) = cameX o) := by
  have hs := h.sums
  obtain ⟨hl, hs3, b1, b2, b3, b4, b5⟩ := came_sum h h2
  obtain ⟨⟨_, _, hn, hp, hd1, hd2, _, hr, _⟩, _⟩ := h
  have hc1 := hl.2.2.1
  have hn2 := hn.2
  obtain ⟨r1, r2, r3, r4, r5, r6, r7, r8⟩ := hr
  refine ⟨IntWalk.i64_in _ (by omega), IntWalk.i64_in _ (by omega), IntWalk.i64_in _ (by omega), ?_, ?_, ?_⟩
  · intro g
    have g' : o.d + o.l.c = o.n := by simpa using g
    unfold cameX
    have : camePh o = 3 := if_pos g'
    rw [this]
    simp [midX]
  · intro g he
    have g' : o.d + o.l.c ≠ o.n := by simpa using g
    unfold cameX
    have : camePh o = 4 := (if_neg g').trans (if_pos he)
    rw [this]
    simp [midX]
  · intro g he
    have g' : o.d + o.l.c ≠ o.n := by simpa using g
    unfold cameX
    have : camePh o = 1 := (if_neg g').trans (if_neg (by rw [he]; simp))
    rw [this]
    simp [midX]

set_option maxRecDepth 100000 in
set_option maxHeartbeats 16000000 in
theorem refCame_any (o : Od) (h : Fits o) (w : World) : Calls Try.prog 21 #[ov o] w (TE (cameO o) (cameN o) (cameE o) w) := by
  obtain ⟨hx, hr, hb⟩ := two_new w (ocs o) (tcs noO 0 0) 29 35
  obtain ⟨W1, hW1⟩ : ∃ W, (w.alloc (.cells #[.int .i64 o.id, .string o.k, .int .i64 o.cl, .int .i64 o.sq, .int .i64 o.n, .int .i64 o.d, .int .i64 o.p, .int .i64 o.c, .bool o.sp, .int .i64 o.ph, .string o.l.k, .int .i64 o.l.u, .int .i64 o.l.c, .int .i64 o.l.y, .int .i64 o.py.a, .int .i64 o.py.c, .int .i64 o.py.u, .int .i64 o.py.s, .int .i64 o.ak.s, .int .i64 o.ak.u, .bool o.en] 29)).alloc (.cells #[.int .i64 0, .string ⟨#[]⟩, .int .i64 0, .int .i64 0, .int .i64 0, .int .i64 0, .int .i64 0, .int .i64 0, .bool false, .int .i64 0, .string ⟨#[]⟩, .int .i64 0, .int .i64 0, .int .i64 0, .int .i64 0, .int .i64 0, .int .i64 0, .int .i64 0, .int .i64 0, .int .i64 0, .bool false, .int .i64 0, .int .i64 0] 35) = W := ⟨_, rfl⟩
  have HX : Hid (Box w.heap.size (ocs o) W1) := Lib.hid (hW1 ▸ hx)
  have HR : Hid (Box (w.heap.size + 1) (tcs noO 0 0) W1) := Lib.hid (hW1 ▸ hr)
  have HB : Hid (Below w.heap.size w W1) := Lib.hid (hW1 ▸ hb)
  clear hx hr hb
  have H1 := Lib.hid (refRight_any o h)
  have HM : Hid (RightO o → o.ph = 2 → _) := Lib.hid (fun g1 g2 => came_eqs (o := o) g1 g2)
  have HS := Lib.hid (came_ways o)
  have HRT := Lib.hid (rightB_t (o := o))
  generalize cameE o = z at HS ⊢
  generalize cameO o = y at HS ⊢
  generalize cameN o = x at HS ⊢
  generalize rightB o = r1 at H1 HS HRT
  clear h
  unfold ov at H1 ⊢
  rcases HS.out with ⟨rfl, rfl, rfl, rfl⟩ | ⟨rfl, h1, rfl, rfl, rfl⟩ | ⟨rfl, h1, rfl, rfl, rfl⟩
  · clear HS HM HRT
    go_enter Try.func21, Try.ntmps21
    go_upto_region 1 with (fail)
    clear hW1
    go_wp2_with (first | (go_at_call 10; (with_reducible refine (H1.out _).mono ?_); rintro e w' ⟨rfl, hz⟩; replace HB := Lib.hid (below_trans HB.out hz); replace HX := Lib.hid (HX.out.below hz); replace HR := Lib.hid (HR.out.below hz); clear hz) | (refine load_at 29 _ rfl _ 0 21 rfl HX.out [.int .i64 o.id, .string o.k, .int .i64 o.cl, .int .i64 o.sq, .int .i64 o.n, .int .i64 o.d, .int .i64 o.p, .int .i64 o.c, .bool o.sp, .int .i64 o.ph, .string o.l.k, .int .i64 o.l.u, .int .i64 o.l.c, .int .i64 o.l.y, .int .i64 o.py.a, .int .i64 o.py.c, .int .i64 o.py.u, .int .i64 o.py.s, .int .i64 o.ak.s, .int .i64 o.ak.u, .bool o.en] rfl _ Try.underlying29 rfl infoO rfl ?_) | (refine store_at 35 _ _ rfl _ 0 rfl (tcs (noO) (0) (1)) rfl HR.out (show 0 + 23 ≤ 23 from by decide) infoT (tcs_one _ _ _) (tcs (noO) (0) (1)) (over_all rfl) rfl (fun w' hy ht => ?_); replace HB := Lib.hid (ht.2 _ _ (Nat.le_succ _) HB.out); replace HR := Lib.hid hy; clear hy ht))
    exact bodyPost_ret (results_1 rfl rfl HR.out Try.underlying35 rfl infoT) rfl ⟨rfl, HB.out⟩
  · clear HS HM HRT
    have h1' : (o.ph != 2) = true := by simpa [bne] using h1
    clear h1
    go_enter Try.func21, Try.ntmps21
    go_upto_region 1 with (fail)
    clear hW1
    go_wp2_with (first | (go_at_call 10; (with_reducible refine (H1.out _).mono ?_); rintro e w' ⟨rfl, hz⟩; replace HB := Lib.hid (below_trans HB.out hz); replace HX := Lib.hid (HX.out.below hz); replace HR := Lib.hid (HR.out.below hz); clear hz; have y9 := HX.out.at 9 rfl) | (refine load_at 29 _ rfl _ 0 21 rfl HX.out [.int .i64 o.id, .string o.k, .int .i64 o.cl, .int .i64 o.sq, .int .i64 o.n, .int .i64 o.d, .int .i64 o.p, .int .i64 o.c, .bool o.sp, .int .i64 o.ph, .string o.l.k, .int .i64 o.l.u, .int .i64 o.l.c, .int .i64 o.l.y, .int .i64 o.py.a, .int .i64 o.py.c, .int .i64 o.py.u, .int .i64 o.py.s, .int .i64 o.ak.s, .int .i64 o.ak.u, .bool o.en] rfl _ Try.underlying29 rfl infoO rfl ?_) | (refine store_at 35 _ _ rfl _ 0 rfl (tcs (noO) (0) (10)) rfl HR.out (show 0 + 23 ≤ 23 from by decide) infoT (tcs_one _ _ _) (tcs (noO) (0) (10)) (over_all rfl) rfl (fun w' hy ht => ?_); replace HB := Lib.hid (ht.2 _ _ (Nat.le_succ _) HB.out); replace HR := Lib.hid hy; clear hy ht))
    exact bodyPost_ret (results_1 rfl rfl HR.out Try.underlying35 rfl infoT) rfl ⟨rfl, HB.out⟩
  · obtain ⟨m1, m2, m3, m4, m5, m6⟩ := HM.out (HRT.out.1 rfl) h1
    have M4 := Lib.hid m4
    have M5 := Lib.hid m5
    have M6 := Lib.hid m6
    have HPH : Hid (o.ph = 2) := Lib.hid h1
    clear h1 m4 m5 m6 HS HM HRT
    have HVV : Hid ((o.d + o.l.c == o.n) = true ∨ ((o.d + o.l.c == o.n) = false ∧ o.en = true) ∨ ((o.d + o.l.c == o.n) = false ∧ o.en = false)) := Lib.hid (by cases h : (o.d + o.l.c == o.n) <;> cases h' : o.en <;> simp)
    rcases HVV.out with hq | ⟨hq, he⟩ | ⟨hq, he⟩
    · have HY := Lib.hid (M4.out hq)
      have HQ : Hid (o.d + o.l.c = o.n) := Lib.hid (by simpa using hq)
      clear hq
      clear M4 M5 M6 HVV
      go_enter Try.func21, Try.ntmps21
      go_upto_region 1 with (fail)
      clear hW1
      go_upto_region 5 with (first | (go_at_call 10; (with_reducible refine (H1.out _).mono ?_); rintro e w' ⟨rfl, hz⟩; replace HB := Lib.hid (below_trans HB.out hz); replace HX := Lib.hid (HX.out.below hz); replace HR := Lib.hid (HR.out.below hz); clear hz; have y9 : w'.cell? ⟨w.heap.size, 9, none⟩ = some (.int .i64 2) := (congrArg (fun z => some (Value.int .i64 z)) HPH.out) ▸ HX.out.at 9 rfl; have y5 := HX.out.at 5 rfl; have y6 := HX.out.at 6 rfl; have y12 := HX.out.at 12 rfl; have y15 := HX.out.at 15 rfl) | (refine load_at 29 _ rfl _ 0 21 rfl HX.out [.int .i64 o.id, .string o.k, .int .i64 o.cl, .int .i64 o.sq, .int .i64 o.n, .int .i64 o.d, .int .i64 o.p, .int .i64 o.c, .bool o.sp, .int .i64 o.ph, .string o.l.k, .int .i64 o.l.u, .int .i64 o.l.c, .int .i64 o.l.y, .int .i64 o.py.a, .int .i64 o.py.c, .int .i64 o.py.u, .int .i64 o.py.s, .int .i64 o.ak.s, .int .i64 o.ak.u, .bool o.en] rfl _ Try.underlying29 rfl infoO rfl ?_))
      go_upto_region 7 with (first | (refine store_at 3 _ _ rfl _ 5 rfl [.int .i64 (o.d + o.l.c)] rfl HX.out (show 5 + 1 ≤ 21 from by decide) infoI (one_one rfl) (ocs { o with d := o.d + o.l.c }) rfl rfl (fun w' hy ht => ?_); replace HB := Lib.hid (ht.2 _ _ (Nat.le_refl _) HB.out); replace HX := Lib.hid hy; replace HR := Lib.hid (ht.1 _ _ (Nat.succ_ne_self _) HR.out); clear hy ht; have y15 := (show _ = some (Value.int .i64 o.py.c) from HX.out.at 15 rfl)))
      go_upto_region 8 with (first | (refine store_at 3 _ _ rfl _ 15 rfl [.int .i64 (o.py.c + o.l.c * o.p)] rfl HX.out (show 15 + 1 ≤ 21 from by decide) infoI (one_one rfl) (ocs { o with d := o.d + o.l.c, py := ⟨o.py.a, o.py.c + o.l.c * o.p, o.py.u, o.py.s⟩ }) rfl rfl (fun w' hy ht => ?_); replace HB := Lib.hid (ht.2 _ _ (Nat.le_refl _) HB.out); replace HX := Lib.hid hy; replace HR := Lib.hid (ht.1 _ _ (Nat.succ_ne_self _) HR.out); clear hy ht))
      go_upto_region 9 with (first | (refine store_at 23 _ _ rfl _ 10 rfl (lcs noL) rfl HX.out (show 10 + 4 ≤ 21 from by decide) infoL (lcs_one _) (ocs (midX o)) rfl rfl (fun w' hy ht => ?_); replace HB := Lib.hid (ht.2 _ _ (Nat.le_refl _) HB.out); replace HX := Lib.hid hy; replace HR := Lib.hid (ht.1 _ _ (Nat.succ_ne_self _) HR.out); clear hy ht))
      go_upto_region 10 with (first | (refine store_at 3 _ _ rfl _ 9 rfl [.int .i64 1] rfl HX.out (show 9 + 1 ≤ 21 from by decide) infoI (one_one rfl) (ocs { midX o with ph := 1 }) rfl rfl (fun w' hy ht => ?_); replace HB := Lib.hid (ht.2 _ _ (Nat.le_refl _) HB.out); replace HX := Lib.hid hy; replace HR := Lib.hid (ht.1 _ _ (Nat.succ_ne_self _) HR.out); clear hy ht; have y5 : w'.cell? ⟨w.heap.size, 5, none⟩ = some (.int .i64 o.n) := (show _ = some (Value.int .i64 (o.d + o.l.c)) from HX.out.at 5 rfl).trans (congrArg (fun z => some (Value.int .i64 z)) HQ.out); have y4 := (show _ = some (Value.int .i64 o.n) from HX.out.at 4 rfl); have y9 := (show _ = some (Value.int .i64 1) from HX.out.at 9 rfl)))
      go_upto_region 14 with (first | (refine store_at 3 _ _ rfl _ 9 rfl [.int .i64 3] rfl HX.out (show 9 + 1 ≤ 21 from by decide) infoI (one_one rfl) (ocs { midX o with ph := 3 }) rfl rfl (fun w' hy ht => ?_); replace HB := Lib.hid (ht.2 _ _ (Nat.le_refl _) HB.out); replace HX := Lib.hid hy; replace HR := Lib.hid (ht.1 _ _ (Nat.succ_ne_self _) HR.out); clear hy ht; have y9 := (show _ = some (Value.int .i64 3) from HX.out.at 9 rfl)))
      go_upto_region 16 with (first | (refine store_at 3 _ _ rfl _ 17 rfl [.int .i64 3] rfl HX.out (show 17 + 1 ≤ 21 from by decide) infoI (one_one rfl) (ocs { midX o with ph := 3, py := ⟨o.py.a, o.py.c + o.l.c * o.p, o.py.u, 3⟩ }) rfl rfl (fun w' hy ht => ?_); replace HB := Lib.hid (ht.2 _ _ (Nat.le_refl _) HB.out); replace HX := Lib.hid hy; replace HR := Lib.hid (ht.1 _ _ (Nat.succ_ne_self _) HR.out); clear hy ht))
      go_upto_region 17 with (first | (refine store_at 4 _ _ rfl _ 20 rfl [.bool false] rfl HX.out (show 20 + 1 ≤ 21 from by decide) infoB (one_one rfl) (ocs (cameX o)) (by rw [← HY.out]; rfl) rfl (fun w' hy ht => ?_); replace HB := Lib.hid (ht.2 _ _ (Nat.le_refl _) HB.out); replace HX := Lib.hid hy; replace HR := Lib.hid (ht.1 _ _ (Nat.succ_ne_self _) HR.out); clear hy ht))
      go_wp2_with (first | (refine load_at 29 _ rfl _ 0 21 rfl HX.out [.int .i64 (cameX o).id, .string (cameX o).k, .int .i64 (cameX o).cl, .int .i64 (cameX o).sq, .int .i64 (cameX o).n, .int .i64 (cameX o).d, .int .i64 (cameX o).p, .int .i64 (cameX o).c, .bool (cameX o).sp, .int .i64 (cameX o).ph, .string (cameX o).l.k, .int .i64 (cameX o).l.u, .int .i64 (cameX o).l.c, .int .i64 (cameX o).l.y, .int .i64 (cameX o).py.a, .int .i64 (cameX o).py.c, .int .i64 (cameX o).py.u, .int .i64 (cameX o).py.s, .int .i64 (cameX o).ak.s, .int .i64 (cameX o).ak.u, .bool (cameX o).en] rfl _ Try.underlying29 rfl infoO rfl ?_) | (refine store_at 35 _ _ rfl _ 0 rfl (tcs (cameX o) (o.l.c * o.p) (0)) rfl HR.out (show 0 + 23 ≤ 23 from by decide) infoT (tcs_one _ _ _) (tcs (cameX o) (o.l.c * o.p) (0)) (over_all rfl) rfl (fun w' hy ht => ?_); replace HB := Lib.hid (ht.2 _ _ (Nat.le_succ _) HB.out); replace HR := Lib.hid hy; clear hy ht))
      exact bodyPost_ret (results_1 rfl rfl HR.out Try.underlying35 rfl infoT) rfl ⟨rfl, HB.out⟩
    · have HY := Lib.hid (M5.out hq he)
      have HEN := Lib.hid he
      clear he
      clear M4 M5 M6 HVV
      go_enter Try.func21, Try.ntmps21
      go_upto_region 1 with (fail)
      clear hW1
      go_upto_region 5 with (first | (go_at_call 10; (with_reducible refine (H1.out _).mono ?_); rintro e w' ⟨rfl, hz⟩; replace HB := Lib.hid (below_trans HB.out hz); replace HX := Lib.hid (HX.out.below hz); replace HR := Lib.hid (HR.out.below hz); clear hz; have y9 : w'.cell? ⟨w.heap.size, 9, none⟩ = some (.int .i64 2) := (congrArg (fun z => some (Value.int .i64 z)) HPH.out) ▸ HX.out.at 9 rfl; have y5 := HX.out.at 5 rfl; have y6 := HX.out.at 6 rfl; have y12 := HX.out.at 12 rfl; have y15 := HX.out.at 15 rfl) | (refine load_at 29 _ rfl _ 0 21 rfl HX.out [.int .i64 o.id, .string o.k, .int .i64 o.cl, .int .i64 o.sq, .int .i64 o.n, .int .i64 o.d, .int .i64 o.p, .int .i64 o.c, .bool o.sp, .int .i64 o.ph, .string o.l.k, .int .i64 o.l.u, .int .i64 o.l.c, .int .i64 o.l.y, .int .i64 o.py.a, .int .i64 o.py.c, .int .i64 o.py.u, .int .i64 o.py.s, .int .i64 o.ak.s, .int .i64 o.ak.u, .bool o.en] rfl _ Try.underlying29 rfl infoO rfl ?_))
      go_upto_region 7 with (first | (refine store_at 3 _ _ rfl _ 5 rfl [.int .i64 (o.d + o.l.c)] rfl HX.out (show 5 + 1 ≤ 21 from by decide) infoI (one_one rfl) (ocs { o with d := o.d + o.l.c }) rfl rfl (fun w' hy ht => ?_); replace HB := Lib.hid (ht.2 _ _ (Nat.le_refl _) HB.out); replace HX := Lib.hid hy; replace HR := Lib.hid (ht.1 _ _ (Nat.succ_ne_self _) HR.out); clear hy ht; have y15 := (show _ = some (Value.int .i64 o.py.c) from HX.out.at 15 rfl)))
      go_upto_region 8 with (first | (refine store_at 3 _ _ rfl _ 15 rfl [.int .i64 (o.py.c + o.l.c * o.p)] rfl HX.out (show 15 + 1 ≤ 21 from by decide) infoI (one_one rfl) (ocs { o with d := o.d + o.l.c, py := ⟨o.py.a, o.py.c + o.l.c * o.p, o.py.u, o.py.s⟩ }) rfl rfl (fun w' hy ht => ?_); replace HB := Lib.hid (ht.2 _ _ (Nat.le_refl _) HB.out); replace HX := Lib.hid hy; replace HR := Lib.hid (ht.1 _ _ (Nat.succ_ne_self _) HR.out); clear hy ht))
      go_upto_region 9 with (first | (refine store_at 23 _ _ rfl _ 10 rfl (lcs noL) rfl HX.out (show 10 + 4 ≤ 21 from by decide) infoL (lcs_one _) (ocs (midX o)) rfl rfl (fun w' hy ht => ?_); replace HB := Lib.hid (ht.2 _ _ (Nat.le_refl _) HB.out); replace HX := Lib.hid hy; replace HR := Lib.hid (ht.1 _ _ (Nat.succ_ne_self _) HR.out); clear hy ht))
      go_upto_region 10 with (first | (refine store_at 3 _ _ rfl _ 9 rfl [.int .i64 1] rfl HX.out (show 9 + 1 ≤ 21 from by decide) infoI (one_one rfl) (ocs { midX o with ph := 1 }) rfl rfl (fun w' hy ht => ?_); replace HB := Lib.hid (ht.2 _ _ (Nat.le_refl _) HB.out); replace HX := Lib.hid hy; replace HR := Lib.hid (ht.1 _ _ (Nat.succ_ne_self _) HR.out); clear hy ht; have y5 := (show _ = some (Value.int .i64 (o.d + o.l.c)) from HX.out.at 5 rfl); have y4 := (show _ = some (Value.int .i64 o.n) from HX.out.at 4 rfl); have y20 : w'.cell? ⟨w.heap.size, 20, none⟩ = some (.bool true) := (show _ = some (Value.bool o.en) from HX.out.at 20 rfl).trans (congrArg (fun z => some (Value.bool z)) HEN.out); have y9 := (show _ = some (Value.int .i64 1) from HX.out.at 9 rfl)))
      go_upto_region 14 with (first | (refine store_at 3 _ _ rfl _ 9 rfl [.int .i64 4] rfl HX.out (show 9 + 1 ≤ 21 from by decide) infoI (one_one rfl) (ocs { midX o with ph := 4 }) rfl rfl (fun w' hy ht => ?_); replace HB := Lib.hid (ht.2 _ _ (Nat.le_refl _) HB.out); replace HX := Lib.hid hy; replace HR := Lib.hid (ht.1 _ _ (Nat.succ_ne_self _) HR.out); clear hy ht; have y9 := (show _ = some (Value.int .i64 4) from HX.out.at 9 rfl)))
      go_upto_region 16 with (first | (refine store_at 3 _ _ rfl _ 17 rfl [.int .i64 3] rfl HX.out (show 17 + 1 ≤ 21 from by decide) infoI (one_one rfl) (ocs { midX o with ph := 4, py := ⟨o.py.a, o.py.c + o.l.c * o.p, o.py.u, 3⟩ }) rfl rfl (fun w' hy ht => ?_); replace HB := Lib.hid (ht.2 _ _ (Nat.le_refl _) HB.out); replace HX := Lib.hid hy; replace HR := Lib.hid (ht.1 _ _ (Nat.succ_ne_self _) HR.out); clear hy ht))
      go_upto_region 17 with (first | (refine store_at 4 _ _ rfl _ 20 rfl [.bool false] rfl HX.out (show 20 + 1 ≤ 21 from by decide) infoB (one_one rfl) (ocs (cameX o)) (by rw [← HY.out]; rfl) rfl (fun w' hy ht => ?_); replace HB := Lib.hid (ht.2 _ _ (Nat.le_refl _) HB.out); replace HX := Lib.hid hy; replace HR := Lib.hid (ht.1 _ _ (Nat.succ_ne_self _) HR.out); clear hy ht))
      go_wp2_with (first | (refine load_at 29 _ rfl _ 0 21 rfl HX.out [.int .i64 (cameX o).id, .string (cameX o).k, .int .i64 (cameX o).cl, .int .i64 (cameX o).sq, .int .i64 (cameX o).n, .int .i64 (cameX o).d, .int .i64 (cameX o).p, .int .i64 (cameX o).c, .bool (cameX o).sp, .int .i64 (cameX o).ph, .string (cameX o).l.k, .int .i64 (cameX o).l.u, .int .i64 (cameX o).l.c, .int .i64 (cameX o).l.y, .int .i64 (cameX o).py.a, .int .i64 (cameX o).py.c, .int .i64 (cameX o).py.u, .int .i64 (cameX o).py.s, .int .i64 (cameX o).ak.s, .int .i64 (cameX o).ak.u, .bool (cameX o).en] rfl _ Try.underlying29 rfl infoO rfl ?_) | (refine store_at 35 _ _ rfl _ 0 rfl (tcs (cameX o) (o.l.c * o.p) (0)) rfl HR.out (show 0 + 23 ≤ 23 from by decide) infoT (tcs_one _ _ _) (tcs (cameX o) (o.l.c * o.p) (0)) (over_all rfl) rfl (fun w' hy ht => ?_); replace HB := Lib.hid (ht.2 _ _ (Nat.le_succ _) HB.out); replace HR := Lib.hid hy; clear hy ht))
      exact bodyPost_ret (results_1 rfl rfl HR.out Try.underlying35 rfl infoT) rfl ⟨rfl, HB.out⟩
    · have HY := Lib.hid (M6.out hq he)
      have HEN := Lib.hid he
      clear he
      clear M4 M5 M6 HVV
      go_enter Try.func21, Try.ntmps21
      go_upto_region 1 with (fail)
      clear hW1
      go_upto_region 5 with (first | (go_at_call 10; (with_reducible refine (H1.out _).mono ?_); rintro e w' ⟨rfl, hz⟩; replace HB := Lib.hid (below_trans HB.out hz); replace HX := Lib.hid (HX.out.below hz); replace HR := Lib.hid (HR.out.below hz); clear hz; have y9 : w'.cell? ⟨w.heap.size, 9, none⟩ = some (.int .i64 2) := (congrArg (fun z => some (Value.int .i64 z)) HPH.out) ▸ HX.out.at 9 rfl; have y5 := HX.out.at 5 rfl; have y6 := HX.out.at 6 rfl; have y12 := HX.out.at 12 rfl; have y15 := HX.out.at 15 rfl) | (refine load_at 29 _ rfl _ 0 21 rfl HX.out [.int .i64 o.id, .string o.k, .int .i64 o.cl, .int .i64 o.sq, .int .i64 o.n, .int .i64 o.d, .int .i64 o.p, .int .i64 o.c, .bool o.sp, .int .i64 o.ph, .string o.l.k, .int .i64 o.l.u, .int .i64 o.l.c, .int .i64 o.l.y, .int .i64 o.py.a, .int .i64 o.py.c, .int .i64 o.py.u, .int .i64 o.py.s, .int .i64 o.ak.s, .int .i64 o.ak.u, .bool o.en] rfl _ Try.underlying29 rfl infoO rfl ?_))
      go_upto_region 7 with (first | (refine store_at 3 _ _ rfl _ 5 rfl [.int .i64 (o.d + o.l.c)] rfl HX.out (show 5 + 1 ≤ 21 from by decide) infoI (one_one rfl) (ocs { o with d := o.d + o.l.c }) rfl rfl (fun w' hy ht => ?_); replace HB := Lib.hid (ht.2 _ _ (Nat.le_refl _) HB.out); replace HX := Lib.hid hy; replace HR := Lib.hid (ht.1 _ _ (Nat.succ_ne_self _) HR.out); clear hy ht; have y15 := (show _ = some (Value.int .i64 o.py.c) from HX.out.at 15 rfl)))
      go_upto_region 8 with (first | (refine store_at 3 _ _ rfl _ 15 rfl [.int .i64 (o.py.c + o.l.c * o.p)] rfl HX.out (show 15 + 1 ≤ 21 from by decide) infoI (one_one rfl) (ocs { o with d := o.d + o.l.c, py := ⟨o.py.a, o.py.c + o.l.c * o.p, o.py.u, o.py.s⟩ }) rfl rfl (fun w' hy ht => ?_); replace HB := Lib.hid (ht.2 _ _ (Nat.le_refl _) HB.out); replace HX := Lib.hid hy; replace HR := Lib.hid (ht.1 _ _ (Nat.succ_ne_self _) HR.out); clear hy ht))
      go_upto_region 9 with (first | (refine store_at 23 _ _ rfl _ 10 rfl (lcs noL) rfl HX.out (show 10 + 4 ≤ 21 from by decide) infoL (lcs_one _) (ocs (midX o)) rfl rfl (fun w' hy ht => ?_); replace HB := Lib.hid (ht.2 _ _ (Nat.le_refl _) HB.out); replace HX := Lib.hid hy; replace HR := Lib.hid (ht.1 _ _ (Nat.succ_ne_self _) HR.out); clear hy ht))
      go_upto_region 10 with (first | (refine store_at 3 _ _ rfl _ 9 rfl [.int .i64 1] rfl HX.out (show 9 + 1 ≤ 21 from by decide) infoI (one_one rfl) (ocs { midX o with ph := 1 }) rfl rfl (fun w' hy ht => ?_); replace HB := Lib.hid (ht.2 _ _ (Nat.le_refl _) HB.out); replace HX := Lib.hid hy; replace HR := Lib.hid (ht.1 _ _ (Nat.succ_ne_self _) HR.out); clear hy ht; have y5 := (show _ = some (Value.int .i64 (o.d + o.l.c)) from HX.out.at 5 rfl); have y4 := (show _ = some (Value.int .i64 o.n) from HX.out.at 4 rfl); have y20 : w'.cell? ⟨w.heap.size, 20, none⟩ = some (.bool false) := (show _ = some (Value.bool o.en) from HX.out.at 20 rfl).trans (congrArg (fun z => some (Value.bool z)) HEN.out); have y9 := (show _ = some (Value.int .i64 1) from HX.out.at 9 rfl)))
      go_upto_region 14 with (first | fail)
      go_upto_region 16 with (first | fail)
      go_upto_region 17 with (first | (refine store_at 4 _ _ rfl _ 20 rfl [.bool false] rfl HX.out (show 20 + 1 ≤ 21 from by decide) infoB (one_one rfl) (ocs (cameX o)) (by rw [← HY.out]; rfl) rfl (fun w' hy ht => ?_); replace HB := Lib.hid (ht.2 _ _ (Nat.le_refl _) HB.out); replace HX := Lib.hid hy; replace HR := Lib.hid (ht.1 _ _ (Nat.succ_ne_self _) HR.out); clear hy ht))
      go_wp2_with (first | (refine load_at 29 _ rfl _ 0 21 rfl HX.out [.int .i64 (cameX o).id, .string (cameX o).k, .int .i64 (cameX o).cl, .int .i64 (cameX o).sq, .int .i64 (cameX o).n, .int .i64 (cameX o).d, .int .i64 (cameX o).p, .int .i64 (cameX o).c, .bool (cameX o).sp, .int .i64 (cameX o).ph, .string (cameX o).l.k, .int .i64 (cameX o).l.u, .int .i64 (cameX o).l.c, .int .i64 (cameX o).l.y, .int .i64 (cameX o).py.a, .int .i64 (cameX o).py.c, .int .i64 (cameX o).py.u, .int .i64 (cameX o).py.s, .int .i64 (cameX o).ak.s, .int .i64 (cameX o).ak.u, .bool (cameX o).en] rfl _ Try.underlying29 rfl infoO rfl ?_) | (refine store_at 35 _ _ rfl _ 0 rfl (tcs (cameX o) (o.l.c * o.p) (0)) rfl HR.out (show 0 + 23 ≤ 23 from by decide) infoT (tcs_one _ _ _) (tcs (cameX o) (o.l.c * o.p) (0)) (over_all rfl) rfl (fun w' hy ht => ?_); replace HB := Lib.hid (ht.2 _ _ (Nat.le_succ _) HB.out); replace HR := Lib.hid hy; clear hy ht))
      exact bodyPost_ret (results_1 rfl rfl HR.out Try.underlying35 rfl infoT) rfl ⟨rfl, HB.out⟩
end Go.Proofs.Ytjmmijobdcepmaa.Order
