/-
  The reference: New.
-/
import Derived.Test.YtjmmijobdcepmaaORefD
namespace Go.Proofs.Ytjmmijobdcepmaa.Order
open Go.ChangeShapes Go.WideShapes Go.ChangeAt Go.RowKit
open Go.Proofs.Ytjmmijobdcepmaa.Pay (Py RightP UnitP TimeP GoodP)
open Go.Proofs.Ytjmmijobdcepmaa.Ask (As RightA)
open Go.Proofs.Ytjmmijobdcepmaa.Goods (nameB)

theorem over_quo {n p : Int} (hp : 1 ≤ p) : (Int.tdiv 1125899906842624 p < n) ↔ 1125899906842624 < n * p := by
  rw [Int.tdiv_eq_ediv_of_nonneg (by omega)]
  exact Int.ediv_lt_iff_lt_mul (by omega)
theorem quo_bd {p : Int} (hp : 1 ≤ p) : 0 ≤ Int.tdiv 1125899906842624 p ∧ Int.tdiv 1125899906842624 p ≤ 1125899906842624 := by
  rw [Int.tdiv_eq_ediv_of_nonneg (by omega)]
  exact ⟨Int.ediv_nonneg (by omega) (by omega), Int.ediv_le_self _ (by omega)⟩
theorem new_ref (o : Od) (t : Int) : (inB o.n 1 1073741824 = false ∧ newE o t = 1 ∧ newO o t = noO) ∨ (inB o.n 1 1073741824 = true ∧ inB o.p 1 1073741824 = false ∧ newE o t = 1 ∧ newO o t = noO) ∨ (inB o.n 1 1073741824 = true ∧ inB o.p 1 1073741824 = true ∧ inB t 0 1099511627776 = false ∧ newE o t = 1 ∧ newO o t = noO) ∨
    (inB o.n 1 1073741824 = true ∧ inB o.p 1 1073741824 = true ∧ inB t 0 1099511627776 = true ∧ 1 ≤ o.p ∧ Int.tdiv 1125899906842624 o.p < o.n ∧ newE o t = 2 ∧ newO o t = noO) ∨
    (inB o.n 1 1073741824 = true ∧ inB o.p 1 1073741824 = true ∧ inB t 0 1099511627776 = true ∧ 1 ≤ o.p ∧ ¬ Int.tdiv 1125899906842624 o.p < o.n ∧ IntKind.i64.wrap (o.n * o.p) = o.n * o.p ∧ rightB (newX o t) = false ∧ newE o t = 1 ∧ newO o t = noO) ∨
    (inB o.n 1 1073741824 = true ∧ inB o.p 1 1073741824 = true ∧ inB t 0 1099511627776 = true ∧ 1 ≤ o.p ∧ ¬ Int.tdiv 1125899906842624 o.p < o.n ∧ IntKind.i64.wrap (o.n * o.p) = o.n * o.p ∧ rightB (newX o t) = true ∧ newE o t = 0 ∧ newO o t = newX o t) := by
  have hno : ∀ {n a b : Int}, ¬ (a ≤ n ∧ n ≤ b) → inB n a b = false := fun h => inB_f.2 h
  have hye : ∀ {n a b : Int}, (a ≤ n ∧ n ≤ b) → inB n a b = true := fun h => inB_t.2 h
  rcases new_ways o t with ⟨g, e1, e2⟩ | ⟨g1, g2, g3, g4, e1, e2⟩ | ⟨g1, g2, g3, g4, g5, e1, e2⟩ | ⟨g1, g2, g3, g4, g5, e1, e2⟩
  · by_cases h1 : UnitP o.n
    · by_cases h2 : UnitP o.p
      · exact .inr (.inr (.inl ⟨hye h1, hye h2, hno (fun h3 => g ⟨h1, h2, h3⟩), e1, e2⟩))
      · exact .inr (.inl ⟨hye h1, hno h2, e1, e2⟩)
    · exact .inl ⟨hno h1, e1, e2⟩
  · exact .inr (.inr (.inr (.inl ⟨hye g1, hye g2, hye g3, g2.1, (over_quo g2.1).2 g4, e1, e2⟩)))
  · have hm := Pay.unit_mul g1 g2
    exact .inr (.inr (.inr (.inr (.inl ⟨hye g1, hye g2, hye g3, g2.1, fun h => by have := (over_quo g2.1).1 h; omega, IntWalk.i64_in _ (by omega), g5, e1, e2⟩))))
  · have hm := Pay.unit_mul g1 g2
    exact .inr (.inr (.inr (.inr (.inr ⟨hye g1, hye g2, hye g3, g2.1, fun h => by have := (over_quo g2.1).1 h; omega, IntWalk.i64_in _ (by omega), g5, e1, e2⟩))))

set_option maxRecDepth 100000 in
set_option maxHeartbeats 4000000 in
theorem refNew_any (o : Od) (t : Int) (h : Fits o) (w : World) : Calls Try.prog 9 #[ov o, .int .i64 t] w (TE (newO o t) 0 (newE o t) w) := by
  obtain ⟨hx, hr, hb⟩ := two_new w (ocs o) (tcs noO 0 0) 29 35
  obtain ⟨W1, hW1⟩ : ∃ W, (w.alloc (.cells #[.int .i64 o.id, .string o.k, .int .i64 o.cl, .int .i64 o.sq, .int .i64 o.n, .int .i64 o.d, .int .i64 o.p, .int .i64 o.c, .bool o.sp, .int .i64 o.ph, .string o.l.k, .int .i64 o.l.u, .int .i64 o.l.c, .int .i64 o.l.y, .int .i64 o.py.a, .int .i64 o.py.c, .int .i64 o.py.u, .int .i64 o.py.s, .int .i64 o.ak.s, .int .i64 o.ak.u, .bool o.en] 29)).alloc (.cells #[.int .i64 0, .string ⟨#[]⟩, .int .i64 0, .int .i64 0, .int .i64 0, .int .i64 0, .int .i64 0, .int .i64 0, .bool false, .int .i64 0, .string ⟨#[]⟩, .int .i64 0, .int .i64 0, .int .i64 0, .int .i64 0, .int .i64 0, .int .i64 0, .int .i64 0, .int .i64 0, .int .i64 0, .bool false, .int .i64 0, .int .i64 0] 35) = W := ⟨_, rfl⟩
  have HX : Hid (Box w.heap.size (ocs o) W1) := Lib.hid (hW1 ▸ hx)
  have HR : Hid (Box (w.heap.size + 1) (tcs noO 0 0) W1) := Lib.hid (hW1 ▸ hr)
  have HB : Hid (Below w.heap.size w W1) := Lib.hid (hW1 ▸ hb)
  clear hx hr hb
  have C1 := Lib.hid (in_any o.n 1 1073741824)
  have C2 := Lib.hid (in_any o.p 1 1073741824)
  have C3 := Lib.hid (in_any t 0 1099511627776)
  have HQ := Lib.hid (refRight_any (newX o t) ⟨h.1, by simp [newX, noL]⟩)
  have HS := Lib.hid (new_ref o t)
  generalize newE o t = z at HS ⊢
  generalize newO o t = y at HS ⊢
  generalize inB o.n 1 1073741824 = c1 at C1 HS
  generalize inB o.p 1 1073741824 = c2 at C2 HS
  generalize inB t 0 1099511627776 = c3 at C3 HS
  generalize rightB (newX o t) = r at HQ HS
  clear h
  have y4 := HX.out.at 4 rfl
  have y6 := HX.out.at 6 rfl
  have hs1 := HX.out.1
  unfold ov at HQ ⊢
  rcases HS.out with ⟨rfl, rfl, rfl⟩ | ⟨rfl, rfl, rfl, rfl⟩ | ⟨rfl, rfl, rfl, rfl, rfl⟩ | ⟨rfl, rfl, rfl, hp, h1, rfl, rfl⟩ | ⟨rfl, rfl, rfl, hp, h1, hw, rfl, rfl, rfl⟩ | ⟨rfl, rfl, rfl, hp, h1, hw, rfl, rfl, rfl⟩
  · clear HS
    go_enter Try.func9, Try.ntmps9
    go_upto_region 1 with (fail)
    clear hW1
    go_wp2_with (first | (go_at_call 24; (with_reducible refine (C1.out _).mono ?_); rintro e w' ⟨rfl, rfl⟩) | (go_at_call 24; (with_reducible refine (C2.out _).mono ?_); rintro e w' ⟨rfl, rfl⟩) | (go_at_call 24; (with_reducible refine (C3.out _).mono ?_); rintro e w' ⟨rfl, rfl⟩) | (refine store_at 35 _ _ rfl _ 0 rfl (tcs (noO) (0) (1)) rfl HR.out (show 0 + 23 ≤ 23 from by decide) infoT (tcs_one _ _ _) (tcs (noO) (0) (1)) (over_all rfl) rfl (fun w' hy ht => ?_); replace HB := Lib.hid (ht.2 _ _ (Nat.le_succ _) HB.out); replace HR := Lib.hid hy; clear hy ht))
    exact bodyPost_ret (results_1 rfl rfl HR.out Try.underlying35 rfl infoT) rfl ⟨rfl, HB.out⟩
  · clear HS
    go_enter Try.func9, Try.ntmps9
    go_upto_region 1 with (fail)
    clear hW1
    go_wp2_with (first | (go_at_call 24; (with_reducible refine (C1.out _).mono ?_); rintro e w' ⟨rfl, rfl⟩) | (go_at_call 24; (with_reducible refine (C2.out _).mono ?_); rintro e w' ⟨rfl, rfl⟩) | (go_at_call 24; (with_reducible refine (C3.out _).mono ?_); rintro e w' ⟨rfl, rfl⟩) | (refine store_at 35 _ _ rfl _ 0 rfl (tcs (noO) (0) (1)) rfl HR.out (show 0 + 23 ≤ 23 from by decide) infoT (tcs_one _ _ _) (tcs (noO) (0) (1)) (over_all rfl) rfl (fun w' hy ht => ?_); replace HB := Lib.hid (ht.2 _ _ (Nat.le_succ _) HB.out); replace HR := Lib.hid hy; clear hy ht))
    exact bodyPost_ret (results_1 rfl rfl HR.out Try.underlying35 rfl infoT) rfl ⟨rfl, HB.out⟩
  · clear HS
    go_enter Try.func9, Try.ntmps9
    go_upto_region 1 with (fail)
    clear hW1
    go_wp2_with (first | (go_at_call 24; (with_reducible refine (C1.out _).mono ?_); rintro e w' ⟨rfl, rfl⟩) | (go_at_call 24; (with_reducible refine (C2.out _).mono ?_); rintro e w' ⟨rfl, rfl⟩) | (go_at_call 24; (with_reducible refine (C3.out _).mono ?_); rintro e w' ⟨rfl, rfl⟩) | (refine store_at 35 _ _ rfl _ 0 rfl (tcs (noO) (0) (1)) rfl HR.out (show 0 + 23 ≤ 23 from by decide) infoT (tcs_one _ _ _) (tcs (noO) (0) (1)) (over_all rfl) rfl (fun w' hy ht => ?_); replace HB := Lib.hid (ht.2 _ _ (Nat.le_succ _) HB.out); replace HR := Lib.hid hy; clear hy ht))
    exact bodyPost_ret (results_1 rfl rfl HR.out Try.underlying35 rfl infoT) rfl ⟨rfl, HB.out⟩
  · have hb := quo_bd hp
    have hp0 : (o.p == 0) = false := beq_false_of_ne (by omega)
    have hp1 : o.p ≠ 0 := by omega
    obtain ⟨Q, hQ⟩ : ∃ Q, Int.tdiv 1125899906842624 o.p = Q := ⟨_, rfl⟩
    rw [hQ] at h1 hb
    have h1' : decide (Q < o.n) = true := decide_eq_true h1
    have HQQ := Lib.hid hQ
    clear HS
    go_enter Try.func9, Try.ntmps9
    go_upto_region 1 with (fail)
    clear hW1
    go_upto_region 3 with (first | (go_at_call 24; (with_reducible refine (C1.out _).mono ?_); rintro e w' ⟨rfl, rfl⟩) | (go_at_call 24; (with_reducible refine (C2.out _).mono ?_); rintro e w' ⟨rfl, rfl⟩) | (go_at_call 24; (with_reducible refine (C3.out _).mono ?_); rintro e w' ⟨rfl, rfl⟩))
    have hQ := HQQ.out
    go_quiet (fail)
    have hd := Queue.below_dn W1 nq
    replace HX := Lib.hid (HX.out.below hd)
    replace HR := Lib.hid (HR.out.below hd)
    replace HB := Lib.hid (below_trans HB.out hd)
    clear hd y4 y6 hs1
    generalize W1.drewN nq = W2 at *
    go_wp2_with (first | (refine store_at 35 _ _ rfl _ 0 rfl (tcs (noO) (0) (2)) rfl HR.out (show 0 + 23 ≤ 23 from by decide) infoT (tcs_one _ _ _) (tcs (noO) (0) (2)) (over_all rfl) rfl (fun w' hy ht => ?_); replace HB := Lib.hid (ht.2 _ _ (Nat.le_succ _) HB.out); replace HR := Lib.hid hy; clear hy ht))
    exact bodyPost_ret (results_1 rfl rfl HR.out Try.underlying35 rfl infoT) rfl ⟨rfl, HB.out⟩
  · have hb := quo_bd hp
    have hp0 : (o.p == 0) = false := beq_false_of_ne (by omega)
    have hp1 : o.p ≠ 0 := by omega
    obtain ⟨Q, hQ⟩ : ∃ Q, Int.tdiv 1125899906842624 o.p = Q := ⟨_, rfl⟩
    rw [hQ] at h1 hb
    have h1' : decide (Q < o.n) = false := decide_eq_false h1
    have HQQ := Lib.hid hQ
    clear HS
    go_enter Try.func9, Try.ntmps9
    go_upto_region 1 with (fail)
    clear hW1
    go_upto_region 3 with (first | (go_at_call 24; (with_reducible refine (C1.out _).mono ?_); rintro e w' ⟨rfl, rfl⟩) | (go_at_call 24; (with_reducible refine (C2.out _).mono ?_); rintro e w' ⟨rfl, rfl⟩) | (go_at_call 24; (with_reducible refine (C3.out _).mono ?_); rintro e w' ⟨rfl, rfl⟩))
    have hQ := HQQ.out
    go_quiet (fail)
    have hd := Queue.below_dn W1 nq
    replace HX := Lib.hid (HX.out.below hd)
    replace HR := Lib.hid (HR.out.below hd)
    replace HB := Lib.hid (below_trans HB.out hd)
    clear hd y4 y6 hs1
    generalize W1.drewN nq = W2 at *
    have y0 := HX.out.at 0 rfl
    have y1 := HX.out.at 1 rfl
    have y2 := HX.out.at 2 rfl
    have y3 := HX.out.at 3 rfl
    have y4 := HX.out.at 4 rfl
    have y6 := HX.out.at 6 rfl
    have y7 := HX.out.at 7 rfl
    have y8 := HX.out.at 8 rfl
    have hs1 := HX.out.1
    go_wp2_with (first | (go_at_call 10; (with_reducible refine (HQ.out _).mono ?_); rintro e w' ⟨rfl, hz⟩; replace HB := Lib.hid (below_trans HB.out hz); replace HR := Lib.hid (HR.out.below hz); replace HO := Lib.hid (HO.out.below hz); clear hz) | (refine store_at 29 _ _ rfl _ 0 rfl (ocs ({ newX o t with py := Pay.noP })) rfl (Box.made _ (ocs noO) _) (show 0 + 21 ≤ 21 from by decide) infoO (ocs_one _) (ocs ({ newX o t with py := Pay.noP })) (over_all rfl) rfl (fun w' hy ht => ?_); have HNE := Lib.hid (Nat.ne_of_lt HR.out.1); have HLE := Lib.hid HB.out.size; have HO := Lib.hid hy; replace HX := Lib.hid (ht.1 _ _ (Nat.ne_of_lt HX.out.1) (HX.out.below (al _ _))); replace HR := Lib.hid (ht.1 _ _ (Nat.ne_of_lt HR.out.1) (HR.out.below (al _ _))); replace HB := Lib.hid (ht.2 _ _ HB.out.size (below_trans HB.out (al _ _))); clear hy ht; have y4 := HX.out.at 4 rfl; have y6 := HX.out.at 6 rfl; have hs1 := HX.out.1) | (refine store_at 25 _ _ rfl _ 14 rfl (Pay.pcs ⟨o.n * o.p, 0, t, 1⟩) rfl HO.out (show 14 + 4 ≤ 21 from by decide) infoP (pcs_one _) (ocs (newX o t)) rfl rfl (fun w' hy ht => ?_); replace HB := Lib.hid (ht.2 _ _ (HLE.out) HB.out); replace HO := Lib.hid hy; replace HR := Lib.hid (ht.1 _ _ (HNE.out) HR.out); clear hy ht) | (refine load_at 29 _ rfl _ 0 21 rfl HO.out [.int .i64 (newX o t).id, .string (newX o t).k, .int .i64 (newX o t).cl, .int .i64 (newX o t).sq, .int .i64 (newX o t).n, .int .i64 (newX o t).d, .int .i64 (newX o t).p, .int .i64 (newX o t).c, .bool (newX o t).sp, .int .i64 (newX o t).ph, .string (newX o t).l.k, .int .i64 (newX o t).l.u, .int .i64 (newX o t).l.c, .int .i64 (newX o t).l.y, .int .i64 (newX o t).py.a, .int .i64 (newX o t).py.c, .int .i64 (newX o t).py.u, .int .i64 (newX o t).py.s, .int .i64 (newX o t).ak.s, .int .i64 (newX o t).ak.u, .bool (newX o t).en] rfl _ Try.underlying29 rfl infoO rfl ?_) | (refine store_at 35 _ _ rfl _ 0 rfl (tcs (noO) (0) (1)) rfl HR.out (show 0 + 23 ≤ 23 from by decide) infoT (tcs_one _ _ _) (tcs (noO) (0) (1)) (over_all rfl) rfl (fun w' hy ht => ?_); replace HB := Lib.hid (ht.2 _ _ (Nat.le_succ _) HB.out); replace HR := Lib.hid hy; clear hy ht))
    exact bodyPost_ret (results_1 rfl rfl HR.out Try.underlying35 rfl infoT) rfl ⟨rfl, HB.out⟩
  · have hb := quo_bd hp
    have hp0 : (o.p == 0) = false := beq_false_of_ne (by omega)
    have hp1 : o.p ≠ 0 := by omega
    obtain ⟨Q, hQ⟩ : ∃ Q, Int.tdiv 1125899906842624 o.p = Q := ⟨_, rfl⟩
    rw [hQ] at h1 hb
    have h1' : decide (Q < o.n) = false := decide_eq_false h1
    have HQQ := Lib.hid hQ
    clear HS
    go_enter Try.func9, Try.ntmps9
    go_upto_region 1 with (fail)
    clear hW1
    go_upto_region 3 with (first | (go_at_call 24; (with_reducible refine (C1.out _).mono ?_); rintro e w' ⟨rfl, rfl⟩) | (go_at_call 24; (with_reducible refine (C2.out _).mono ?_); rintro e w' ⟨rfl, rfl⟩) | (go_at_call 24; (with_reducible refine (C3.out _).mono ?_); rintro e w' ⟨rfl, rfl⟩))
    have hQ := HQQ.out
    go_quiet (fail)
    have hd := Queue.below_dn W1 nq
    replace HX := Lib.hid (HX.out.below hd)
    replace HR := Lib.hid (HR.out.below hd)
    replace HB := Lib.hid (below_trans HB.out hd)
    clear hd y4 y6 hs1
    generalize W1.drewN nq = W2 at *
    have y0 := HX.out.at 0 rfl
    have y1 := HX.out.at 1 rfl
    have y2 := HX.out.at 2 rfl
    have y3 := HX.out.at 3 rfl
    have y4 := HX.out.at 4 rfl
    have y6 := HX.out.at 6 rfl
    have y7 := HX.out.at 7 rfl
    have y8 := HX.out.at 8 rfl
    have hs1 := HX.out.1
    go_wp2_with (first | (go_at_call 10; (with_reducible refine (HQ.out _).mono ?_); rintro e w' ⟨rfl, hz⟩; replace HB := Lib.hid (below_trans HB.out hz); replace HR := Lib.hid (HR.out.below hz); replace HO := Lib.hid (HO.out.below hz); clear hz) | (refine store_at 29 _ _ rfl _ 0 rfl (ocs ({ newX o t with py := Pay.noP })) rfl (Box.made _ (ocs noO) _) (show 0 + 21 ≤ 21 from by decide) infoO (ocs_one _) (ocs ({ newX o t with py := Pay.noP })) (over_all rfl) rfl (fun w' hy ht => ?_); have HNE := Lib.hid (Nat.ne_of_lt HR.out.1); have HLE := Lib.hid HB.out.size; have HO := Lib.hid hy; replace HX := Lib.hid (ht.1 _ _ (Nat.ne_of_lt HX.out.1) (HX.out.below (al _ _))); replace HR := Lib.hid (ht.1 _ _ (Nat.ne_of_lt HR.out.1) (HR.out.below (al _ _))); replace HB := Lib.hid (ht.2 _ _ HB.out.size (below_trans HB.out (al _ _))); clear hy ht; have y4 := HX.out.at 4 rfl; have y6 := HX.out.at 6 rfl; have hs1 := HX.out.1) | (refine store_at 25 _ _ rfl _ 14 rfl (Pay.pcs ⟨o.n * o.p, 0, t, 1⟩) rfl HO.out (show 14 + 4 ≤ 21 from by decide) infoP (pcs_one _) (ocs (newX o t)) rfl rfl (fun w' hy ht => ?_); replace HB := Lib.hid (ht.2 _ _ (HLE.out) HB.out); replace HO := Lib.hid hy; replace HR := Lib.hid (ht.1 _ _ (HNE.out) HR.out); clear hy ht) | (refine load_at 29 _ rfl _ 0 21 rfl HO.out [.int .i64 (newX o t).id, .string (newX o t).k, .int .i64 (newX o t).cl, .int .i64 (newX o t).sq, .int .i64 (newX o t).n, .int .i64 (newX o t).d, .int .i64 (newX o t).p, .int .i64 (newX o t).c, .bool (newX o t).sp, .int .i64 (newX o t).ph, .string (newX o t).l.k, .int .i64 (newX o t).l.u, .int .i64 (newX o t).l.c, .int .i64 (newX o t).l.y, .int .i64 (newX o t).py.a, .int .i64 (newX o t).py.c, .int .i64 (newX o t).py.u, .int .i64 (newX o t).py.s, .int .i64 (newX o t).ak.s, .int .i64 (newX o t).ak.u, .bool (newX o t).en] rfl _ Try.underlying29 rfl infoO rfl ?_) | (refine store_at 35 _ _ rfl _ 0 rfl (tcs (newX o t) (0) (0)) rfl HR.out (show 0 + 23 ≤ 23 from by decide) infoT (tcs_one _ _ _) (tcs (newX o t) (0) (0)) (over_all rfl) rfl (fun w' hy ht => ?_); replace HB := Lib.hid (ht.2 _ _ (Nat.le_succ _) HB.out); replace HR := Lib.hid hy; clear hy ht))
    exact bodyPost_ret (results_1 rfl rfl HR.out Try.underlying35 rfl infoT) rfl ⟨rfl, HB.out⟩
end Go.Proofs.Ytjmmijobdcepmaa.Order
