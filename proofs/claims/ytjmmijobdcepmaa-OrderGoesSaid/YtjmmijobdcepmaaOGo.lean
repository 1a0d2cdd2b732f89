/-
  Contracts of package order: atEnd, Send, Came, End.
-/
import Derived.Test.YtjmmijobdcepmaaOWants
namespace Go.Proofs.Ytjmmijobdcepmaa.Order
open Go.ChangeShapes Go.WideShapes Go.ChangeAt Go.RowKit
open Go.Proofs.Ytjmmijobdcepmaa.Pay (Py RightP UnitP TimeP GoodP)
open Go.Proofs.Ytjmmijobdcepmaa.Ask (As RightA)
open Go.Proofs.Ytjmmijobdcepmaa.Goods (nameB)

theorem one_one {v : Value} (h : v.oneCell' = true) : ∀ u ∈ [v], u.oneCell' = true := by
  intro u hu
  simp only [List.mem_cons, List.not_mem_nil, or_false] at hu
  rw [hu]; exact h
/-- An order for which no more comes. -/
def shutX (o : Od) : Od := { o with ph := if o.d = o.n then 3 else if o.d = 0 then 5 else 4, py := Pay.cloO o.py, en := false }

set_option maxRecDepth 100000 in
set_option maxHeartbeats 4000000 in
theorem atEnd_any (o : Od) (w : World) : Calls Try.prog 41 #[ov o] w (OrdV (shutX o) w) := by
  obtain ⟨hx, hr, hb⟩ := two_new w (ocs o) (ocs noO) 29 29
  obtain ⟨W1, hW1⟩ : ∃ W, (w.alloc (.cells #[.int .i64 o.id, .string o.k, .int .i64 o.cl, .int .i64 o.sq, .int .i64 o.n, .int .i64 o.d, .int .i64 o.p, .int .i64 o.c, .bool o.sp, .int .i64 o.ph, .string o.l.k, .int .i64 o.l.u, .int .i64 o.l.c, .int .i64 o.l.y, .int .i64 o.py.a, .int .i64 o.py.c, .int .i64 o.py.u, .int .i64 o.py.s, .int .i64 o.ak.s, .int .i64 o.ak.u, .bool o.en] 29)).alloc (.cells #[.int .i64 0, .string ⟨#[]⟩, .int .i64 0, .int .i64 0, .int .i64 0, .int .i64 0, .int .i64 0, .int .i64 0, .bool false, .int .i64 0, .string ⟨#[]⟩, .int .i64 0, .int .i64 0, .int .i64 0, .int .i64 0, .int .i64 0, .int .i64 0, .int .i64 0, .int .i64 0, .int .i64 0, .bool false] 29) = W := ⟨_, rfl⟩
  have HX : Hid (Box w.heap.size (ocs o) W1) := Lib.hid (hW1 ▸ hx)
  have HR : Hid (Box (w.heap.size + 1) (ocs noO) W1) := Lib.hid (hW1 ▸ hr)
  have HB : Hid (Below w.heap.size w W1) := Lib.hid (hW1 ▸ hb)
  clear hx hr hb
  have HC := Lib.hid (Pay.Close_any o.py)
  have y4 := HX.out.at 4 rfl
  have y5 := HX.out.at 5 rfl
  have HS : Hid ((o.d = o.n ∧ shutX o = { o with ph := 3, py := Pay.cloO o.py, en := false }) ∨ (o.d ≠ o.n ∧ o.d = 0 ∧ shutX o = { o with ph := 5, py := Pay.cloO o.py, en := false }) ∨ (o.d ≠ o.n ∧ o.d ≠ 0 ∧ shutX o = { o with ph := 4, py := Pay.cloO o.py, en := false })) := Lib.hid (by
    unfold shutX
    by_cases h1 : o.d = o.n
    · exact .inl ⟨h1, by rw [if_pos h1]⟩
    · by_cases h2 : o.d = 0
      · exact .inr (.inl ⟨h1, h2, by rw [if_neg h1, if_pos h2]⟩)
      · exact .inr (.inr ⟨h1, h2, by rw [if_neg h1, if_neg h2]⟩))
  unfold ov
  unfold Pay.pv at HC
  rcases HS.out with ⟨h1, hs⟩ | ⟨h1, h2, hs⟩ | ⟨h1, h2, hs⟩
  · have h1' : (o.d == o.n) = true := by simpa using h1
    clear h1
    have HSX := Lib.hid hs
    clear hs HS
    go_enter Try.func41, Try.ntmps41
    go_upto_region 1 with (fail)
    clear hW1
    go_wp2_with (first | (refine store_part rfl 3 _ _ rfl _ 9 rfl [.int .i64 3] rfl HX.out (show 9 + 1 ≤ 21 from by decide) infoI (one_one rfl) (ocs { o with ph := 3 }) rfl (fun w' hy ht => ?_); replace HB := Lib.hid (ht.2 _ _ (Nat.le_refl _) HB.out); replace HX := Lib.hid hy; replace HR := Lib.hid (ht.1 _ _ (Nat.succ_ne_self _) HR.out); clear hy ht) | (refine store_part rfl 4 _ _ rfl _ 20 rfl [.bool false] rfl HX.out (show 20 + 1 ≤ 21 from by decide) infoB (one_one rfl) (ocs { o with ph := 3, en := false }) rfl (fun w' hy ht => ?_); replace HB := Lib.hid (ht.2 _ _ (Nat.le_refl _) HB.out); replace HX := Lib.hid hy; replace HR := Lib.hid (ht.1 _ _ (Nat.succ_ne_self _) HR.out); clear hy ht) | (refine load_part rfl 25 _ rfl _ 14 4 rfl HX.out [.int .i64 o.py.a, .int .i64 o.py.c, .int .i64 o.py.u, .int .i64 o.py.s] rfl _ Try.underlying25 rfl infoP ?_) | (go_at_call 53; (with_reducible refine (HC.out _).mono ?_); rintro e w' ⟨rfl, hz⟩; replace HB := Lib.hid (below_trans HB.out hz); replace HX := Lib.hid (HX.out.below hz); replace HR := Lib.hid (HR.out.below hz); clear hz) | (refine store_part rfl 25 _ _ rfl _ 14 rfl (Pay.pcs (Pay.cloO o.py)) rfl HX.out (show 14 + 4 ≤ 21 from by decide) infoP (pcs_one _) (ocs (shutX o)) (by rw [HSX.out]; rfl) (fun w' hy ht => ?_); replace HB := Lib.hid (ht.2 _ _ (Nat.le_refl _) HB.out); replace HX := Lib.hid hy; replace HR := Lib.hid (ht.1 _ _ (Nat.succ_ne_self _) HR.out); clear hy ht) | (refine load_part rfl 29 _ rfl _ 0 21 rfl HX.out [.int .i64 (shutX o).id, .string (shutX o).k, .int .i64 (shutX o).cl, .int .i64 (shutX o).sq, .int .i64 (shutX o).n, .int .i64 (shutX o).d, .int .i64 (shutX o).p, .int .i64 (shutX o).c, .bool (shutX o).sp, .int .i64 (shutX o).ph, .string (shutX o).l.k, .int .i64 (shutX o).l.u, .int .i64 (shutX o).l.c, .int .i64 (shutX o).l.y, .int .i64 (shutX o).py.a, .int .i64 (shutX o).py.c, .int .i64 (shutX o).py.u, .int .i64 (shutX o).py.s, .int .i64 (shutX o).ak.s, .int .i64 (shutX o).ak.u, .bool (shutX o).en] rfl _ Try.underlying29 rfl infoO ?_) | (refine store_part rfl 29 _ _ rfl _ 0 rfl (ocs (shutX o)) rfl HR.out (show 0 + 21 ≤ 21 from by decide) infoO (ocs_one _) (ocs (shutX o)) (over_all rfl) (fun w' hy ht => ?_); replace HB := Lib.hid (ht.2 _ _ (Nat.le_succ _) HB.out); replace HR := Lib.hid hy; clear hy ht))
    exact bodyPost_ret (results_1 rfl rfl HR.out Try.underlying29 rfl infoO) rfl ⟨rfl, HB.out⟩
  · have h1' : (o.d == o.n) = false := by simpa using h1
    have h2' : (o.d == 0) = true := by simpa using h2
    clear h1 h2
    have HSX := Lib.hid hs
    clear hs HS
    go_enter Try.func41, Try.ntmps41
    go_upto_region 1 with (fail)
    clear hW1
    go_wp2_with (first | (refine store_part rfl 3 _ _ rfl _ 9 rfl [.int .i64 5] rfl HX.out (show 9 + 1 ≤ 21 from by decide) infoI (one_one rfl) (ocs { o with ph := 5 }) rfl (fun w' hy ht => ?_); replace HB := Lib.hid (ht.2 _ _ (Nat.le_refl _) HB.out); replace HX := Lib.hid hy; replace HR := Lib.hid (ht.1 _ _ (Nat.succ_ne_self _) HR.out); clear hy ht) | (refine store_part rfl 4 _ _ rfl _ 20 rfl [.bool false] rfl HX.out (show 20 + 1 ≤ 21 from by decide) infoB (one_one rfl) (ocs { o with ph := 5, en := false }) rfl (fun w' hy ht => ?_); replace HB := Lib.hid (ht.2 _ _ (Nat.le_refl _) HB.out); replace HX := Lib.hid hy; replace HR := Lib.hid (ht.1 _ _ (Nat.succ_ne_self _) HR.out); clear hy ht) | (refine load_part rfl 25 _ rfl _ 14 4 rfl HX.out [.int .i64 o.py.a, .int .i64 o.py.c, .int .i64 o.py.u, .int .i64 o.py.s] rfl _ Try.underlying25 rfl infoP ?_) | (go_at_call 53; (with_reducible refine (HC.out _).mono ?_); rintro e w' ⟨rfl, hz⟩; replace HB := Lib.hid (below_trans HB.out hz); replace HX := Lib.hid (HX.out.below hz); replace HR := Lib.hid (HR.out.below hz); clear hz) | (refine store_part rfl 25 _ _ rfl _ 14 rfl (Pay.pcs (Pay.cloO o.py)) rfl HX.out (show 14 + 4 ≤ 21 from by decide) infoP (pcs_one _) (ocs (shutX o)) (by rw [HSX.out]; rfl) (fun w' hy ht => ?_); replace HB := Lib.hid (ht.2 _ _ (Nat.le_refl _) HB.out); replace HX := Lib.hid hy; replace HR := Lib.hid (ht.1 _ _ (Nat.succ_ne_self _) HR.out); clear hy ht) | (refine load_part rfl 29 _ rfl _ 0 21 rfl HX.out [.int .i64 (shutX o).id, .string (shutX o).k, .int .i64 (shutX o).cl, .int .i64 (shutX o).sq, .int .i64 (shutX o).n, .int .i64 (shutX o).d, .int .i64 (shutX o).p, .int .i64 (shutX o).c, .bool (shutX o).sp, .int .i64 (shutX o).ph, .string (shutX o).l.k, .int .i64 (shutX o).l.u, .int .i64 (shutX o).l.c, .int .i64 (shutX o).l.y, .int .i64 (shutX o).py.a, .int .i64 (shutX o).py.c, .int .i64 (shutX o).py.u, .int .i64 (shutX o).py.s, .int .i64 (shutX o).ak.s, .int .i64 (shutX o).ak.u, .bool (shutX o).en] rfl _ Try.underlying29 rfl infoO ?_) | (refine store_part rfl 29 _ _ rfl _ 0 rfl (ocs (shutX o)) rfl HR.out (show 0 + 21 ≤ 21 from by decide) infoO (ocs_one _) (ocs (shutX o)) (over_all rfl) (fun w' hy ht => ?_); replace HB := Lib.hid (ht.2 _ _ (Nat.le_succ _) HB.out); replace HR := Lib.hid hy; clear hy ht))
    exact bodyPost_ret (results_1 rfl rfl HR.out Try.underlying29 rfl infoO) rfl ⟨rfl, HB.out⟩
  · have h1' : (o.d == o.n) = false := by simpa using h1
    have h2' : (o.d == 0) = false := by simpa using h2
    clear h1 h2
    have HSX := Lib.hid hs
    clear hs HS
    go_enter Try.func41, Try.ntmps41
    go_upto_region 1 with (fail)
    clear hW1
    go_wp2_with (first | (refine store_part rfl 3 _ _ rfl _ 9 rfl [.int .i64 4] rfl HX.out (show 9 + 1 ≤ 21 from by decide) infoI (one_one rfl) (ocs { o with ph := 4 }) rfl (fun w' hy ht => ?_); replace HB := Lib.hid (ht.2 _ _ (Nat.le_refl _) HB.out); replace HX := Lib.hid hy; replace HR := Lib.hid (ht.1 _ _ (Nat.succ_ne_self _) HR.out); clear hy ht) | (refine store_part rfl 4 _ _ rfl _ 20 rfl [.bool false] rfl HX.out (show 20 + 1 ≤ 21 from by decide) infoB (one_one rfl) (ocs { o with ph := 4, en := false }) rfl (fun w' hy ht => ?_); replace HB := Lib.hid (ht.2 _ _ (Nat.le_refl _) HB.out); replace HX := Lib.hid hy; replace HR := Lib.hid (ht.1 _ _ (Nat.succ_ne_self _) HR.out); clear hy ht) | (refine load_part rfl 25 _ rfl _ 14 4 rfl HX.out [.int .i64 o.py.a, .int .i64 o.py.c, .int .i64 o.py.u, .int .i64 o.py.s] rfl _ Try.underlying25 rfl infoP ?_) | (go_at_call 53; (with_reducible refine (HC.out _).mono ?_); rintro e w' ⟨rfl, hz⟩; replace HB := Lib.hid (below_trans HB.out hz); replace HX := Lib.hid (HX.out.below hz); replace HR := Lib.hid (HR.out.below hz); clear hz) | (refine store_part rfl 25 _ _ rfl _ 14 rfl (Pay.pcs (Pay.cloO o.py)) rfl HX.out (show 14 + 4 ≤ 21 from by decide) infoP (pcs_one _) (ocs (shutX o)) (by rw [HSX.out]; rfl) (fun w' hy ht => ?_); replace HB := Lib.hid (ht.2 _ _ (Nat.le_refl _) HB.out); replace HX := Lib.hid hy; replace HR := Lib.hid (ht.1 _ _ (Nat.succ_ne_self _) HR.out); clear hy ht) | (refine load_part rfl 29 _ rfl _ 0 21 rfl HX.out [.int .i64 (shutX o).id, .string (shutX o).k, .int .i64 (shutX o).cl, .int .i64 (shutX o).sq, .int .i64 (shutX o).n, .int .i64 (shutX o).d, .int .i64 (shutX o).p, .int .i64 (shutX o).c, .bool (shutX o).sp, .int .i64 (shutX o).ph, .string (shutX o).l.k, .int .i64 (shutX o).l.u, .int .i64 (shutX o).l.c, .int .i64 (shutX o).l.y, .int .i64 (shutX o).py.a, .int .i64 (shutX o).py.c, .int .i64 (shutX o).py.u, .int .i64 (shutX o).py.s, .int .i64 (shutX o).ak.s, .int .i64 (shutX o).ak.u, .bool (shutX o).en] rfl _ Try.underlying29 rfl infoO ?_) | (refine store_part rfl 29 _ _ rfl _ 0 rfl (ocs (shutX o)) rfl HR.out (show 0 + 21 ≤ 21 from by decide) infoO (ocs_one _) (ocs (shutX o)) (over_all rfl) (fun w' hy ht => ?_); replace HB := Lib.hid (ht.2 _ _ (Nat.le_succ _) HB.out); replace HR := Lib.hid hy; clear hy ht))
    exact bodyPost_ret (results_1 rfl rfl HR.out Try.underlying29 rfl infoO) rfl ⟨rfl, HB.out⟩

set_option maxRecDepth 100000 in
set_option maxHeartbeats 4000000 in
theorem Send_any (o : Od) (l : Ld) (h : Fits o) (hl : l.k.size ≤ 1000000) (w : World) : Calls Try.prog 17 #[ov o, ldv l] w (OrdE (sendO o l) (sendE o l) w) := by
  obtain ⟨hx, hl, hr, hb⟩ := three_new w (ocs o) (lcs l) (ocs noO) 29 23 29
  obtain ⟨W1, hW1⟩ : ∃ W, ((w.alloc (.cells #[.int .i64 o.id, .string o.k, .int .i64 o.cl, .int .i64 o.sq, .int .i64 o.n, .int .i64 o.d, .int .i64 o.p, .int .i64 o.c, .bool o.sp, .int .i64 o.ph, .string o.l.k, .int .i64 o.l.u, .int .i64 o.l.c, .int .i64 o.l.y, .int .i64 o.py.a, .int .i64 o.py.c, .int .i64 o.py.u, .int .i64 o.py.s, .int .i64 o.ak.s, .int .i64 o.ak.u, .bool o.en] 29)).alloc (.cells #[.string l.k, .int .i64 l.u, .int .i64 l.c, .int .i64 l.y] 23)).alloc (.cells #[.int .i64 0, .string ⟨#[]⟩, .int .i64 0, .int .i64 0, .int .i64 0, .int .i64 0, .int .i64 0, .int .i64 0, .bool false, .int .i64 0, .string ⟨#[]⟩, .int .i64 0, .int .i64 0, .int .i64 0, .int .i64 0, .int .i64 0, .int .i64 0, .int .i64 0, .int .i64 0, .int .i64 0, .bool false] 29) = W := ⟨_, rfl⟩
  have HX : Hid (Box w.heap.size (ocs o) W1) := Lib.hid (hW1 ▸ hx)
  have HL : Hid (Box (w.heap.size + 1) (lcs l) W1) := Lib.hid (hW1 ▸ hl)
  have HR : Hid (Box (w.heap.size + 2) (ocs noO) W1) := Lib.hid (hW1 ▸ hr)
  have HB : Hid (Below w.heap.size w W1) := Lib.hid (hW1 ▸ hb)
  clear hx hl hr hb
  have H1 := Lib.hid (Right_any o h)
  have H2 := Lib.hid (Right_any (sendX o l) ⟨h.1, hl⟩)
  have HS := Lib.hid (send_ways o l)
  generalize sendE o l = z at HS ⊢
  generalize sendO o l = y at HS ⊢
  generalize rightB o = r1 at H1 HS
  generalize rightB (sendX o l) = r2 at H2 HS
  clear h hl
  unfold ov at H1 H2 ⊢
  unfold ldv
  rcases HS.out with ⟨rfl, rfl, rfl⟩ | ⟨rfl, h1, rfl, rfl⟩ | ⟨rfl, h1, rfl, rfl, rfl⟩ | ⟨rfl, h1, rfl, rfl, rfl⟩
  · clear HS
    go_enter Try.func17, Try.ntmps17
    go_upto_region 1 with (fail)
    clear hW1
    go_wp2_with (first | (refine load_part rfl 29 _ rfl _ 0 21 rfl HX.out [.int .i64 o.id, .string o.k, .int .i64 o.cl, .int .i64 o.sq, .int .i64 o.n, .int .i64 o.d, .int .i64 o.p, .int .i64 o.c, .bool o.sp, .int .i64 o.ph, .string o.l.k, .int .i64 o.l.u, .int .i64 o.l.c, .int .i64 o.l.y, .int .i64 o.py.a, .int .i64 o.py.c, .int .i64 o.py.u, .int .i64 o.py.s, .int .i64 o.ak.s, .int .i64 o.ak.u, .bool o.en] rfl _ Try.underlying29 rfl infoO ?_) | (go_at_call 12; (with_reducible refine (H1.out _).mono ?_); rintro e w' ⟨rfl, hz⟩; replace HB := Lib.hid (below_trans HB.out hz); replace HX := Lib.hid (HX.out.below hz); replace HL := Lib.hid (HL.out.below hz); replace HR := Lib.hid (HR.out.below hz); clear hz) | (refine store_part rfl 29 _ _ rfl _ 0 rfl (ocs (noO)) rfl HR.out (show 0 + 21 ≤ 21 from by decide) infoO (ocs_one _) (ocs (noO)) (over_all rfl) (fun w' hy ht => ?_); replace HB := Lib.hid (ht.2 _ _ (Nat.le_add_right _ 2) HB.out); replace HR := Lib.hid hy; clear hy ht))
    exact bodyPost_ret (results_2 rfl rfl rfl HR.out Try.underlying29 rfl infoO) rfl ⟨rfl, HB.out⟩
  · clear HS
    have h1' : (o.ph != 1) = true := by simpa [bne] using h1
    clear h1
    go_enter Try.func17, Try.ntmps17
    go_upto_region 1 with (fail)
    clear hW1
    go_wp2_with (first | (refine load_part rfl 29 _ rfl _ 0 21 rfl HX.out [.int .i64 o.id, .string o.k, .int .i64 o.cl, .int .i64 o.sq, .int .i64 o.n, .int .i64 o.d, .int .i64 o.p, .int .i64 o.c, .bool o.sp, .int .i64 o.ph, .string o.l.k, .int .i64 o.l.u, .int .i64 o.l.c, .int .i64 o.l.y, .int .i64 o.py.a, .int .i64 o.py.c, .int .i64 o.py.u, .int .i64 o.py.s, .int .i64 o.ak.s, .int .i64 o.ak.u, .bool o.en] rfl _ Try.underlying29 rfl infoO ?_) | (go_at_call 12; (with_reducible refine (H1.out _).mono ?_); rintro e w' ⟨rfl, hz⟩; replace HB := Lib.hid (below_trans HB.out hz); replace HX := Lib.hid (HX.out.below hz); replace HL := Lib.hid (HL.out.below hz); replace HR := Lib.hid (HR.out.below hz); clear hz; have y9 := HX.out.at 9 rfl) | (refine store_part rfl 29 _ _ rfl _ 0 rfl (ocs (noO)) rfl HR.out (show 0 + 21 ≤ 21 from by decide) infoO (ocs_one _) (ocs (noO)) (over_all rfl) (fun w' hy ht => ?_); replace HB := Lib.hid (ht.2 _ _ (Nat.le_add_right _ 2) HB.out); replace HR := Lib.hid hy; clear hy ht))
    exact bodyPost_ret (results_2 rfl rfl rfl HR.out Try.underlying29 rfl infoO) rfl ⟨rfl, HB.out⟩
  · clear HS
    have HPH : Hid (o.ph = 1) := Lib.hid h1
    clear h1
    go_enter Try.func17, Try.ntmps17
    go_upto_region 1 with (fail)
    clear hW1
    go_upto_region 5 with (first | (refine load_part rfl 29 _ rfl _ 0 21 rfl HX.out [.int .i64 o.id, .string o.k, .int .i64 o.cl, .int .i64 o.sq, .int .i64 o.n, .int .i64 o.d, .int .i64 o.p, .int .i64 o.c, .bool o.sp, .int .i64 o.ph, .string o.l.k, .int .i64 o.l.u, .int .i64 o.l.c, .int .i64 o.l.y, .int .i64 o.py.a, .int .i64 o.py.c, .int .i64 o.py.u, .int .i64 o.py.s, .int .i64 o.ak.s, .int .i64 o.ak.u, .bool o.en] rfl _ Try.underlying29 rfl infoO ?_) | (go_at_call 12; (with_reducible refine (H1.out _).mono ?_); rintro e w' ⟨rfl, hz⟩; replace HB := Lib.hid (below_trans HB.out hz); replace HX := Lib.hid (HX.out.below hz); replace HL := Lib.hid (HL.out.below hz); replace HR := Lib.hid (HR.out.below hz); clear hz; have y9 : w'.cell? ⟨w.heap.size, 9, none⟩ = some (.int .i64 1) := (congrArg (fun z => some (Value.int .i64 z)) HPH.out) ▸ HX.out.at 9 rfl))
    clear y9
    rename World => w5
    have y9 := HX.out.at 9 rfl
    have y10 := HX.out.at 10 rfl
    have y11 := HX.out.at 11 rfl
    have y12 := HX.out.at 12 rfl
    have y13 := HX.out.at 13 rfl
    have z9 := HX.out.zt 9 rfl
    have z10 := HX.out.zt 10 rfl
    have z11 := HX.out.zt 11 rfl
    have z12 := HX.out.zt 12 rfl
    have z13 := HX.out.zt 13 rfl
    obtain ⟨l0, l1, l2, l3⟩ := HL.out.c4
    have hs := HX.out.1
    have hs2 := HL.out.1
    have hx5 := (HX.out.over (o := 9) (cs := [.int .i64 2]) (show 9 + 1 ≤ 21 from by decide))
    have hx6 := (hx5.over (o := 10) (cs := lcs l) (show 10 + 4 ≤ 21 from by decide))
    have ht5 := turned_setCells w5 w.heap.size 9 [.int .i64 2]
    have ht6 := turned_setCells (w5.setCells w.heap.size 9 [.int .i64 2]) w.heap.size 10 (lcs l)
    have HX6 : Hid (Box w.heap.size (ocs (sendX o l)) (((((w5.setCell ⟨w.heap.size, 9, none⟩ (.int .i64 2)).setCell ⟨w.heap.size, 10, none⟩ (.string l.k)).setCell ⟨w.heap.size, 11, none⟩ (.int .i64 l.u)).setCell ⟨w.heap.size, 12, none⟩ (.int .i64 l.c)).setCell ⟨w.heap.size, 13, none⟩ (.int .i64 l.y)).drew) := Lib.hid (hx6.below (dr _))
    have HR6 : Hid (Box (w.heap.size + 2) (ocs noO) (((((w5.setCell ⟨w.heap.size, 9, none⟩ (.int .i64 2)).setCell ⟨w.heap.size, 10, none⟩ (.string l.k)).setCell ⟨w.heap.size, 11, none⟩ (.int .i64 l.u)).setCell ⟨w.heap.size, 12, none⟩ (.int .i64 l.c)).setCell ⟨w.heap.size, 13, none⟩ (.int .i64 l.y)).drew) := Lib.hid ((ht6.1 _ _ (by omega) (ht5.1 _ _ (by omega) HR.out)).below (dr _))
    have HB6 : Hid (Below w.heap.size w (((((w5.setCell ⟨w.heap.size, 9, none⟩ (.int .i64 2)).setCell ⟨w.heap.size, 10, none⟩ (.string l.k)).setCell ⟨w.heap.size, 11, none⟩ (.int .i64 l.u)).setCell ⟨w.heap.size, 12, none⟩ (.int .i64 l.c)).setCell ⟨w.heap.size, 13, none⟩ (.int .i64 l.y)).drew) := Lib.hid (below_trans (ht6.2 _ _ (Nat.le_refl _) (ht5.2 _ _ (Nat.le_refl _) HB.out)) (dr _))
    clear hx5 hx6 ht5 ht6
    go_region
    generalize (((((w5.setCell ⟨w.heap.size, 9, none⟩ (.int .i64 2)).setCell ⟨w.heap.size, 10, none⟩ (.string l.k)).setCell ⟨w.heap.size, 11, none⟩ (.int .i64 l.u)).setCell ⟨w.heap.size, 12, none⟩ (.int .i64 l.c)).setCell ⟨w.heap.size, 13, none⟩ (.int .i64 l.y)).drew = w6 at *
    clear y9 y10 y11 y12 y13 z9 z10 z11 z12 z13 l0 l1 l2 l3 hs hs2 HX HL HR HB
    have HX := HX6
    have HR := HR6
    have HB := HB6
    clear HX6 HR6 HB6
    go_wp2_with (first | (refine load_part rfl 29 _ rfl _ 0 21 rfl HX.out [.int .i64 (sendX o l).id, .string (sendX o l).k, .int .i64 (sendX o l).cl, .int .i64 (sendX o l).sq, .int .i64 (sendX o l).n, .int .i64 (sendX o l).d, .int .i64 (sendX o l).p, .int .i64 (sendX o l).c, .bool (sendX o l).sp, .int .i64 (sendX o l).ph, .string (sendX o l).l.k, .int .i64 (sendX o l).l.u, .int .i64 (sendX o l).l.c, .int .i64 (sendX o l).l.y, .int .i64 (sendX o l).py.a, .int .i64 (sendX o l).py.c, .int .i64 (sendX o l).py.u, .int .i64 (sendX o l).py.s, .int .i64 (sendX o l).ak.s, .int .i64 (sendX o l).ak.u, .bool (sendX o l).en] rfl _ Try.underlying29 rfl infoO ?_) | (go_at_call 12; (with_reducible refine (H2.out _).mono ?_); rintro e w' ⟨rfl, hz⟩; replace HB := Lib.hid (below_trans HB.out hz); replace HX := Lib.hid (HX.out.below hz); replace HR := Lib.hid (HR.out.below hz); clear hz) | (refine store_part rfl 29 _ _ rfl _ 0 rfl (ocs (noO)) rfl HR.out (show 0 + 21 ≤ 21 from by decide) infoO (ocs_one _) (ocs (noO)) (over_all rfl) (fun w' hy ht => ?_); replace HB := Lib.hid (ht.2 _ _ (Nat.le_add_right _ 2) HB.out); replace HR := Lib.hid hy; clear hy ht))
    exact bodyPost_ret (results_2 rfl rfl rfl HR.out Try.underlying29 rfl infoO) rfl ⟨rfl, HB.out⟩
  · clear HS
    have HPH : Hid (o.ph = 1) := Lib.hid h1
    clear h1
    go_enter Try.func17, Try.ntmps17
    go_upto_region 1 with (fail)
    clear hW1
    go_upto_region 5 with (first | (refine load_part rfl 29 _ rfl _ 0 21 rfl HX.out [.int .i64 o.id, .string o.k, .int .i64 o.cl, .int .i64 o.sq, .int .i64 o.n, .int .i64 o.d, .int .i64 o.p, .int .i64 o.c, .bool o.sp, .int .i64 o.ph, .string o.l.k, .int .i64 o.l.u, .int .i64 o.l.c, .int .i64 o.l.y, .int .i64 o.py.a, .int .i64 o.py.c, .int .i64 o.py.u, .int .i64 o.py.s, .int .i64 o.ak.s, .int .i64 o.ak.u, .bool o.en] rfl _ Try.underlying29 rfl infoO ?_) | (go_at_call 12; (with_reducible refine (H1.out _).mono ?_); rintro e w' ⟨rfl, hz⟩; replace HB := Lib.hid (below_trans HB.out hz); replace HX := Lib.hid (HX.out.below hz); replace HL := Lib.hid (HL.out.below hz); replace HR := Lib.hid (HR.out.below hz); clear hz; have y9 : w'.cell? ⟨w.heap.size, 9, none⟩ = some (.int .i64 1) := (congrArg (fun z => some (Value.int .i64 z)) HPH.out) ▸ HX.out.at 9 rfl))
    clear y9
    rename World => w5
    have y9 := HX.out.at 9 rfl
    have y10 := HX.out.at 10 rfl
    have y11 := HX.out.at 11 rfl
    have y12 := HX.out.at 12 rfl
    have y13 := HX.out.at 13 rfl
    have z9 := HX.out.zt 9 rfl
    have z10 := HX.out.zt 10 rfl
    have z11 := HX.out.zt 11 rfl
    have z12 := HX.out.zt 12 rfl
    have z13 := HX.out.zt 13 rfl
    obtain ⟨l0, l1, l2, l3⟩ := HL.out.c4
    have hs := HX.out.1
    have hs2 := HL.out.1
    have hx5 := (HX.out.over (o := 9) (cs := [.int .i64 2]) (show 9 + 1 ≤ 21 from by decide))
    have hx6 := (hx5.over (o := 10) (cs := lcs l) (show 10 + 4 ≤ 21 from by decide))
    have ht5 := turned_setCells w5 w.heap.size 9 [.int .i64 2]
    have ht6 := turned_setCells (w5.setCells w.heap.size 9 [.int .i64 2]) w.heap.size 10 (lcs l)
    have HX6 : Hid (Box w.heap.size (ocs (sendX o l)) (((((w5.setCell ⟨w.heap.size, 9, none⟩ (.int .i64 2)).setCell ⟨w.heap.size, 10, none⟩ (.string l.k)).setCell ⟨w.heap.size, 11, none⟩ (.int .i64 l.u)).setCell ⟨w.heap.size, 12, none⟩ (.int .i64 l.c)).setCell ⟨w.heap.size, 13, none⟩ (.int .i64 l.y)).drew) := Lib.hid (hx6.below (dr _))
    have HR6 : Hid (Box (w.heap.size + 2) (ocs noO) (((((w5.setCell ⟨w.heap.size, 9, none⟩ (.int .i64 2)).setCell ⟨w.heap.size, 10, none⟩ (.string l.k)).setCell ⟨w.heap.size, 11, none⟩ (.int .i64 l.u)).setCell ⟨w.heap.size, 12, none⟩ (.int .i64 l.c)).setCell ⟨w.heap.size, 13, none⟩ (.int .i64 l.y)).drew) := Lib.hid ((ht6.1 _ _ (by omega) (ht5.1 _ _ (by omega) HR.out)).below (dr _))
    have HB6 : Hid (Below w.heap.size w (((((w5.setCell ⟨w.heap.size, 9, none⟩ (.int .i64 2)).setCell ⟨w.heap.size, 10, none⟩ (.string l.k)).setCell ⟨w.heap.size, 11, none⟩ (.int .i64 l.u)).setCell ⟨w.heap.size, 12, none⟩ (.int .i64 l.c)).setCell ⟨w.heap.size, 13, none⟩ (.int .i64 l.y)).drew) := Lib.hid (below_trans (ht6.2 _ _ (Nat.le_refl _) (ht5.2 _ _ (Nat.le_refl _) HB.out)) (dr _))
    clear hx5 hx6 ht5 ht6
    go_region
    generalize (((((w5.setCell ⟨w.heap.size, 9, none⟩ (.int .i64 2)).setCell ⟨w.heap.size, 10, none⟩ (.string l.k)).setCell ⟨w.heap.size, 11, none⟩ (.int .i64 l.u)).setCell ⟨w.heap.size, 12, none⟩ (.int .i64 l.c)).setCell ⟨w.heap.size, 13, none⟩ (.int .i64 l.y)).drew = w6 at *
    clear y9 y10 y11 y12 y13 z9 z10 z11 z12 z13 l0 l1 l2 l3 hs hs2 HX HL HR HB
    have HX := HX6
    have HR := HR6
    have HB := HB6
    clear HX6 HR6 HB6
    go_wp2_with (first | (refine load_part rfl 29 _ rfl _ 0 21 rfl HX.out [.int .i64 (sendX o l).id, .string (sendX o l).k, .int .i64 (sendX o l).cl, .int .i64 (sendX o l).sq, .int .i64 (sendX o l).n, .int .i64 (sendX o l).d, .int .i64 (sendX o l).p, .int .i64 (sendX o l).c, .bool (sendX o l).sp, .int .i64 (sendX o l).ph, .string (sendX o l).l.k, .int .i64 (sendX o l).l.u, .int .i64 (sendX o l).l.c, .int .i64 (sendX o l).l.y, .int .i64 (sendX o l).py.a, .int .i64 (sendX o l).py.c, .int .i64 (sendX o l).py.u, .int .i64 (sendX o l).py.s, .int .i64 (sendX o l).ak.s, .int .i64 (sendX o l).ak.u, .bool (sendX o l).en] rfl _ Try.underlying29 rfl infoO ?_) | (go_at_call 12; (with_reducible refine (H2.out _).mono ?_); rintro e w' ⟨rfl, hz⟩; replace HB := Lib.hid (below_trans HB.out hz); replace HX := Lib.hid (HX.out.below hz); replace HR := Lib.hid (HR.out.below hz); clear hz) | (refine store_part rfl 29 _ _ rfl _ 0 rfl (ocs (sendX o l)) rfl HR.out (show 0 + 21 ≤ 21 from by decide) infoO (ocs_one _) (ocs (sendX o l)) (over_all rfl) (fun w' hy ht => ?_); replace HB := Lib.hid (ht.2 _ _ (Nat.le_add_right _ 2) HB.out); replace HR := Lib.hid hy; clear hy ht))
    exact bodyPost_ret (results_2 rfl rfl rfl HR.out Try.underlying29 rfl infoO) rfl ⟨rfl, HB.out⟩
end Go.Proofs.Ytjmmijobdcepmaa.Order
