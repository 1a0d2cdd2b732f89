/-
  Contracts of package order: Came, End.
-/
import Derived.Test.YtjmmijobdcepmaaOGo
namespace Go.Proofs.Ytjmmijobdcepmaa.Order
open Go.ChangeShapes Go.WideShapes Go.ChangeAt Go.RowKit
open Go.Proofs.Ytjmmijobdcepmaa.Pay (Py RightP UnitP TimeP GoodP)
open Go.Proofs.Ytjmmijobdcepmaa.Ask (As RightA)
open Go.Proofs.Ytjmmijobdcepmaa.Goods (nameB)

/-- Behind the load that came, ahead of what its phase becomes. -/
def midX (o : Od) : Od := { o with d := o.d + o.l.c, py := ⟨o.py.a, o.py.c + o.l.c * o.p, o.py.u, o.py.s⟩, l := noL }
theorem mid_facts {o : Od} (h : RightO o) (h2 : o.ph = 2) : IntKind.i64.wrap (o.l.c * o.p) = o.l.c * o.p ∧ IntKind.i64.wrap (o.d + o.l.c) = o.d + o.l.c ∧ (-9223372036854775808 ≤ o.l.c * o.p ∧ o.l.c * o.p ≤ 9223372036854775807) ∧ Pay.catO o.py (o.l.c * o.p) = ⟨o.py.a, o.py.c + o.l.c * o.p, o.py.u, o.py.s⟩ ∧
    (-9223372036854775808 ≤ (midX o).n - (midX o).d ∧ (midX o).n - (midX o).d ≤ 9223372036854775807) ∧ (((midX o).n - (midX o).d == 0) = true → shutX (midX o) = cameX o) ∧ (((midX o).n - (midX o).d == 0) = false → o.en = true → shutX (midX o) = cameX o) ∧ (((midX o).n - (midX o).d == 0) = false → o.en = false → { midX o with ph := 1 } = cameX o) := by
  have hs := h.sums
  obtain ⟨hl, hs3, b1, b2, b3, b4, b5⟩ := came_sum h h2
  obtain ⟨⟨_, _, hn, hp, hd1, hd2, _, hr, _⟩, _⟩ := h
  have hc1 := hl.2.2.1
  have hn2 := hn.2
  obtain ⟨r1, r2, r3, r4, r5, r6, r7, r8⟩ := hr
  have hrp : Pay.rightB o.py = true := Pay.rightB_t.2 ⟨r1, r2, r3, r4, r5, r6, r7, r8⟩
  have hcl : Pay.cloO (midX o).py = ⟨o.py.a, o.py.c + o.l.c * o.p, o.py.u, 3⟩ := by
    rcases Pay.clo_ways (midX o).py with ⟨g, _⟩ | ⟨_, g, _⟩ | ⟨_, _, _, e⟩
    · exact absurd (show Pay.RightP (midX o).py from ⟨r1, r2, by simp only [midX]; omega, by simp only [midX]; omega, r5, r6, r7, r8⟩) (Pay.rightB_f.1 g)
    · exact absurd g hs3
    · exact e
  refine ⟨IntWalk.i64_in _ (by omega), IntWalk.i64_in _ (by omega), ⟨by omega, by omega⟩, ?_, ⟨by simp only [midX]; omega, by simp only [midX]; omega⟩, ?_, ?_, ?_⟩
  · rcases Pay.cat_ways o.py (o.l.c * o.p) with ⟨g, _⟩ | ⟨_, _, g, _⟩ | ⟨_, _, _, g, _⟩ | ⟨_, _, _, _, _, e⟩
    · exact absurd ⟨hrp, by omega⟩ g
    · exact absurd g hs3
    · omega
    · exact e
  · intro g
    have g' : o.d + o.l.c = o.n := by simp [midX] at g; omega
    unfold shutX cameX
    rw [hcl]
    have : camePh o = 3 := if_pos g'
    rw [this]
    simp [midX, g']
  · intro g he
    have g' : o.d + o.l.c ≠ o.n := by simp [midX] at g; omega
    unfold shutX cameX
    rw [hcl]
    have : camePh o = 4 := (if_neg g').trans (if_pos he)
    rw [this]
    simp [midX, g']
    omega
  · intro g he
    have g' : o.d + o.l.c ≠ o.n := by simp [midX] at g; omega
    unfold cameX
    have : camePh o = 1 := (if_neg g').trans (if_neg (by rw [he]; simp))
    rw [this]
    simp [midX, he]

set_option maxRecDepth 100000 in
set_option maxHeartbeats 4000000 in
theorem Came_any (o : Od) (h : Fits o) (w : World) : Calls Try.prog 18 #[ov o] w (SumE (cameO o) (cameN o) (cameE o) w) := by
  obtain ⟨hx, hr, hb⟩ := two_new w (ocs o) (ocs noO) 29 29
  obtain ⟨W1, hW1⟩ : ∃ W, (w.alloc (.cells #[.int .i64 o.id, .string o.k, .int .i64 o.cl, .int .i64 o.sq, .int .i64 o.n, .int .i64 o.d, .int .i64 o.p, .int .i64 o.c, .bool o.sp, .int .i64 o.ph, .string o.l.k, .int .i64 o.l.u, .int .i64 o.l.c, .int .i64 o.l.y, .int .i64 o.py.a, .int .i64 o.py.c, .int .i64 o.py.u, .int .i64 o.py.s, .int .i64 o.ak.s, .int .i64 o.ak.u, .bool o.en] 29)).alloc (.cells #[.int .i64 0, .string ⟨#[]⟩, .int .i64 0, .int .i64 0, .int .i64 0, .int .i64 0, .int .i64 0, .int .i64 0, .bool false, .int .i64 0, .string ⟨#[]⟩, .int .i64 0, .int .i64 0, .int .i64 0, .int .i64 0, .int .i64 0, .int .i64 0, .int .i64 0, .int .i64 0, .int .i64 0, .bool false] 29) = W := ⟨_, rfl⟩
  have HX : Hid (Box w.heap.size (ocs o) W1) := Lib.hid (hW1 ▸ hx)
  have HR : Hid (Box (w.heap.size + 1) (ocs noO) W1) := Lib.hid (hW1 ▸ hr)
  have HB : Hid (Below w.heap.size w W1) := Lib.hid (hW1 ▸ hb)
  clear hx hr hb
  have H1 := Lib.hid (Right_any o h)
  have HM : Hid (RightO o → o.ph = 2 → _) := Lib.hid (fun g1 g2 => mid_facts (o := o) g1 g2)
  have HP : Hid ((-9223372036854775808 ≤ o.l.c * o.p ∧ o.l.c * o.p ≤ 9223372036854775807) → ∀ w, Calls Try.prog 40 #[Pay.pv o.py, .int .i64 (o.l.c * o.p)] w (Pay.PayE (Pay.catO o.py (o.l.c * o.p)) (Pay.catE o.py (o.l.c * o.p)) w)) := Lib.hid (fun g => Pay.Catch_any o.py _ g)
  have HK : Hid ((-9223372036854775808 ≤ (midX o).n - (midX o).d ∧ (midX o).n - (midX o).d ≤ 9223372036854775807) → ∀ w, Calls Try.prog 37 #[ov (midX o)] w (IntB ((midX o).n - (midX o).d) w)) := Lib.hid (fun g => lack_any (midX o) g.1 g.2)
  have HE := Lib.hid (atEnd_any (midX o))
  have HS := Lib.hid (came_ways o)
  have HRT := Lib.hid (rightB_t (o := o))
  generalize cameE o = z at HS ⊢
  generalize cameO o = y at HS ⊢
  generalize cameN o = x at HS ⊢
  generalize rightB o = r1 at H1 HS HRT
  clear h
  unfold ov at H1 HK HE ⊢
  unfold Pay.pv at HP
  rcases HS.out with ⟨rfl, rfl, rfl, rfl⟩ | ⟨rfl, h1, rfl, rfl, rfl⟩ | ⟨rfl, h1, rfl, rfl, rfl⟩
  · clear HS HM HP HK HE HRT
    go_enter Try.func18, Try.ntmps18
    go_upto_region 1 with (fail)
    clear hW1
    go_wp2_with (first | (refine load_part rfl 29 _ rfl _ 0 21 rfl HX.out [.int .i64 o.id, .string o.k, .int .i64 o.cl, .int .i64 o.sq, .int .i64 o.n, .int .i64 o.d, .int .i64 o.p, .int .i64 o.c, .bool o.sp, .int .i64 o.ph, .string o.l.k, .int .i64 o.l.u, .int .i64 o.l.c, .int .i64 o.l.y, .int .i64 o.py.a, .int .i64 o.py.c, .int .i64 o.py.u, .int .i64 o.py.s, .int .i64 o.ak.s, .int .i64 o.ak.u, .bool o.en] rfl _ Try.underlying29 rfl infoO ?_) | (go_at_call 12; (with_reducible refine (H1.out _).mono ?_); rintro e w' ⟨rfl, hz⟩; replace HB := Lib.hid (below_trans HB.out hz); replace HX := Lib.hid (HX.out.below hz); replace HR := Lib.hid (HR.out.below hz); clear hz) | (refine store_part rfl 29 _ _ rfl _ 0 rfl (ocs (noO)) rfl HR.out (show 0 + 21 ≤ 21 from by decide) infoO (ocs_one _) (ocs (noO)) (over_all rfl) (fun w' hy ht => ?_); replace HB := Lib.hid (ht.2 _ _ (Nat.le_succ _) HB.out); replace HR := Lib.hid hy; clear hy ht))
    exact bodyPost_ret (results_3 rfl rfl rfl rfl HR.out Try.underlying29 rfl infoO) rfl ⟨rfl, HB.out⟩
  · clear HS HM HP HK HE HRT
    have h1' : (o.ph != 2) = true := by simpa [bne] using h1
    clear h1
    go_enter Try.func18, Try.ntmps18
    go_upto_region 1 with (fail)
    clear hW1
    go_wp2_with (first | (refine load_part rfl 29 _ rfl _ 0 21 rfl HX.out [.int .i64 o.id, .string o.k, .int .i64 o.cl, .int .i64 o.sq, .int .i64 o.n, .int .i64 o.d, .int .i64 o.p, .int .i64 o.c, .bool o.sp, .int .i64 o.ph, .string o.l.k, .int .i64 o.l.u, .int .i64 o.l.c, .int .i64 o.l.y, .int .i64 o.py.a, .int .i64 o.py.c, .int .i64 o.py.u, .int .i64 o.py.s, .int .i64 o.ak.s, .int .i64 o.ak.u, .bool o.en] rfl _ Try.underlying29 rfl infoO ?_) | (go_at_call 12; (with_reducible refine (H1.out _).mono ?_); rintro e w' ⟨rfl, hz⟩; replace HB := Lib.hid (below_trans HB.out hz); replace HX := Lib.hid (HX.out.below hz); replace HR := Lib.hid (HR.out.below hz); clear hz; have y9 := HX.out.at 9 rfl) | (refine store_part rfl 29 _ _ rfl _ 0 rfl (ocs (noO)) rfl HR.out (show 0 + 21 ≤ 21 from by decide) infoO (ocs_one _) (ocs (noO)) (over_all rfl) (fun w' hy ht => ?_); replace HB := Lib.hid (ht.2 _ _ (Nat.le_succ _) HB.out); replace HR := Lib.hid hy; clear hy ht))
    exact bodyPost_ret (results_3 rfl rfl rfl rfl HR.out Try.underlying29 rfl infoO) rfl ⟨rfl, HB.out⟩
  · obtain ⟨m1, m2, m3, m4, m5, m6, m7, m8⟩ := HM.out (HRT.out.1 rfl) h1
    replace HP := Lib.hid (HP.out m3)
    rw [m4] at HP
    replace HK := Lib.hid (HK.out m5)
    have M6 := Lib.hid m6
    have M7 := Lib.hid m7
    have M8 := Lib.hid m8
    have HPH : Hid (o.ph = 2) := Lib.hid h1
    clear h1 m3 m4 m5 m6 m7 m8 HS HM HRT
    obtain ⟨q, hq⟩ : ∃ q, (midX o).n - (midX o).d = q := ⟨_, rfl⟩
    rw [hq] at HK M6 M7 M8
    clear hq
    cases hq : (q == 0) with
    | true =>
      have HY := Lib.hid (M6.out hq)
      rw [HY.out] at HE
      clear M6 M7 M8 HY
      go_enter Try.func18, Try.ntmps18
      go_upto_region 1 with (fail)
      clear hW1
      go_wp2_with (first | (refine load_part rfl 29 _ rfl _ 0 21 rfl HX.out [.int .i64 o.id, .string o.k, .int .i64 o.cl, .int .i64 o.sq, .int .i64 o.n, .int .i64 o.d, .int .i64 o.p, .int .i64 o.c, .bool o.sp, .int .i64 o.ph, .string o.l.k, .int .i64 o.l.u, .int .i64 o.l.c, .int .i64 o.l.y, .int .i64 o.py.a, .int .i64 o.py.c, .int .i64 o.py.u, .int .i64 o.py.s, .int .i64 o.ak.s, .int .i64 o.ak.u, .bool o.en] rfl _ Try.underlying29 rfl infoO ?_) | (go_at_call 12; (with_reducible refine (H1.out _).mono ?_); rintro e w' ⟨rfl, hz⟩; replace HB := Lib.hid (below_trans HB.out hz); replace HX := Lib.hid (HX.out.below hz); replace HR := Lib.hid (HR.out.below hz); clear hz; have y9 : w'.cell? ⟨w.heap.size, 9, none⟩ = some (.int .i64 2) := (congrArg (fun z => some (Value.int .i64 z)) HPH.out) ▸ HX.out.at 9 rfl; have y6 := HX.out.at 6 rfl; have y5 := HX.out.at 5 rfl; have y12 := HX.out.at 12 rfl) | (refine store_part rfl 3 _ _ rfl _ 5 rfl [.int .i64 (o.d + o.l.c)] rfl HX.out (show 5 + 1 ≤ 21 from by decide) infoI (one_one rfl) (ocs { o with d := o.d + o.l.c }) rfl (fun w' hy ht => ?_); replace HB := Lib.hid (ht.2 _ _ (Nat.le_refl _) HB.out); replace HX := Lib.hid hy; replace HR := Lib.hid (ht.1 _ _ (Nat.succ_ne_self _) HR.out); clear hy ht) | (refine load_part rfl 25 _ rfl _ 14 4 rfl HX.out [.int .i64 o.py.a, .int .i64 o.py.c, .int .i64 o.py.u, .int .i64 o.py.s] rfl _ Try.underlying25 rfl infoP ?_) | (go_at_call 40; (with_reducible refine (HP.out _).mono ?_); rintro e w' ⟨rfl, hz⟩; replace HB := Lib.hid (below_trans HB.out hz); replace HX := Lib.hid (HX.out.below hz); replace HR := Lib.hid (HR.out.below hz); clear hz) | (refine store_part rfl 25 _ _ rfl _ 14 rfl (Pay.pcs ⟨o.py.a, o.py.c + o.l.c * o.p, o.py.u, o.py.s⟩) rfl HX.out (show 14 + 4 ≤ 21 from by decide) infoP (pcs_one _) (ocs { o with d := o.d + o.l.c, py := ⟨o.py.a, o.py.c + o.l.c * o.p, o.py.u, o.py.s⟩ }) rfl (fun w' hy ht => ?_); replace HB := Lib.hid (ht.2 _ _ (Nat.le_refl _) HB.out); replace HX := Lib.hid hy; replace HR := Lib.hid (ht.1 _ _ (Nat.succ_ne_self _) HR.out); clear hy ht) | (refine store_part rfl 23 _ _ rfl _ 10 rfl (lcs noL) rfl HX.out (show 10 + 4 ≤ 21 from by decide) infoL (lcs_one _) (ocs (midX o)) rfl (fun w' hy ht => ?_); replace HB := Lib.hid (ht.2 _ _ (Nat.le_refl _) HB.out); replace HX := Lib.hid hy; replace HR := Lib.hid (ht.1 _ _ (Nat.succ_ne_self _) HR.out); clear hy ht) | (refine load_part rfl 29 _ rfl _ 0 21 rfl HX.out [.int .i64 (midX o).id, .string (midX o).k, .int .i64 (midX o).cl, .int .i64 (midX o).sq, .int .i64 (midX o).n, .int .i64 (midX o).d, .int .i64 (midX o).p, .int .i64 (midX o).c, .bool (midX o).sp, .int .i64 (midX o).ph, .string (midX o).l.k, .int .i64 (midX o).l.u, .int .i64 (midX o).l.c, .int .i64 (midX o).l.y, .int .i64 (midX o).py.a, .int .i64 (midX o).py.c, .int .i64 (midX o).py.u, .int .i64 (midX o).py.s, .int .i64 (midX o).ak.s, .int .i64 (midX o).ak.u, .bool (midX o).en] rfl _ Try.underlying29 rfl infoO ?_) | (go_at_call 37; (with_reducible refine (HK.out _).mono ?_); rintro e w' ⟨rfl, hz⟩; replace HB := Lib.hid (below_trans HB.out hz); replace HX := Lib.hid (HX.out.below hz); replace HR := Lib.hid (HR.out.below hz); clear hz) | (go_at_call 41; (with_reducible refine (HE.out _).mono ?_); rintro e w' ⟨rfl, hz⟩; replace HB := Lib.hid (below_trans HB.out hz); replace HX := Lib.hid (HX.out.below hz); replace HR := Lib.hid (HR.out.below hz); clear hz) | (refine store_part rfl 29 _ _ rfl _ 0 rfl (ocs (cameX o)) rfl HR.out (show 0 + 21 ≤ 21 from by decide) infoO (ocs_one _) (ocs (cameX o)) (over_all rfl) (fun w' hy ht => ?_); replace HB := Lib.hid (ht.2 _ _ (Nat.le_succ _) HB.out); replace HR := Lib.hid hy; clear hy ht))
      exact bodyPost_ret (results_3 rfl rfl rfl rfl HR.out Try.underlying29 rfl infoO) rfl ⟨rfl, HB.out⟩
    | false =>
      rcases Bool.eq_false_or_eq_true o.en with he | he
      · have HY := Lib.hid (M7.out hq he)
        have HEN := Lib.hid he
        rw [HY.out] at HE
        clear M6 M7 M8 HY he
        go_enter Try.func18, Try.ntmps18
        go_upto_region 1 with (fail)
        clear hW1
        go_wp2_with (first | (refine load_part rfl 29 _ rfl _ 0 21 rfl HX.out [.int .i64 o.id, .string o.k, .int .i64 o.cl, .int .i64 o.sq, .int .i64 o.n, .int .i64 o.d, .int .i64 o.p, .int .i64 o.c, .bool o.sp, .int .i64 o.ph, .string o.l.k, .int .i64 o.l.u, .int .i64 o.l.c, .int .i64 o.l.y, .int .i64 o.py.a, .int .i64 o.py.c, .int .i64 o.py.u, .int .i64 o.py.s, .int .i64 o.ak.s, .int .i64 o.ak.u, .bool o.en] rfl _ Try.underlying29 rfl infoO ?_) | (go_at_call 12; (with_reducible refine (H1.out _).mono ?_); rintro e w' ⟨rfl, hz⟩; replace HB := Lib.hid (below_trans HB.out hz); replace HX := Lib.hid (HX.out.below hz); replace HR := Lib.hid (HR.out.below hz); clear hz; have y9 : w'.cell? ⟨w.heap.size, 9, none⟩ = some (.int .i64 2) := (congrArg (fun z => some (Value.int .i64 z)) HPH.out) ▸ HX.out.at 9 rfl; have y6 := HX.out.at 6 rfl; have y5 := HX.out.at 5 rfl; have y12 := HX.out.at 12 rfl) | (refine store_part rfl 3 _ _ rfl _ 5 rfl [.int .i64 (o.d + o.l.c)] rfl HX.out (show 5 + 1 ≤ 21 from by decide) infoI (one_one rfl) (ocs { o with d := o.d + o.l.c }) rfl (fun w' hy ht => ?_); replace HB := Lib.hid (ht.2 _ _ (Nat.le_refl _) HB.out); replace HX := Lib.hid hy; replace HR := Lib.hid (ht.1 _ _ (Nat.succ_ne_self _) HR.out); clear hy ht) | (refine load_part rfl 25 _ rfl _ 14 4 rfl HX.out [.int .i64 o.py.a, .int .i64 o.py.c, .int .i64 o.py.u, .int .i64 o.py.s] rfl _ Try.underlying25 rfl infoP ?_) | (go_at_call 40; (with_reducible refine (HP.out _).mono ?_); rintro e w' ⟨rfl, hz⟩; replace HB := Lib.hid (below_trans HB.out hz); replace HX := Lib.hid (HX.out.below hz); replace HR := Lib.hid (HR.out.below hz); clear hz) | (refine store_part rfl 25 _ _ rfl _ 14 rfl (Pay.pcs ⟨o.py.a, o.py.c + o.l.c * o.p, o.py.u, o.py.s⟩) rfl HX.out (show 14 + 4 ≤ 21 from by decide) infoP (pcs_one _) (ocs { o with d := o.d + o.l.c, py := ⟨o.py.a, o.py.c + o.l.c * o.p, o.py.u, o.py.s⟩ }) rfl (fun w' hy ht => ?_); replace HB := Lib.hid (ht.2 _ _ (Nat.le_refl _) HB.out); replace HX := Lib.hid hy; replace HR := Lib.hid (ht.1 _ _ (Nat.succ_ne_self _) HR.out); clear hy ht) | (refine store_part rfl 23 _ _ rfl _ 10 rfl (lcs noL) rfl HX.out (show 10 + 4 ≤ 21 from by decide) infoL (lcs_one _) (ocs (midX o)) rfl (fun w' hy ht => ?_); replace HB := Lib.hid (ht.2 _ _ (Nat.le_refl _) HB.out); replace HX := Lib.hid hy; replace HR := Lib.hid (ht.1 _ _ (Nat.succ_ne_self _) HR.out); clear hy ht) | (refine load_part rfl 29 _ rfl _ 0 21 rfl HX.out [.int .i64 (midX o).id, .string (midX o).k, .int .i64 (midX o).cl, .int .i64 (midX o).sq, .int .i64 (midX o).n, .int .i64 (midX o).d, .int .i64 (midX o).p, .int .i64 (midX o).c, .bool (midX o).sp, .int .i64 (midX o).ph, .string (midX o).l.k, .int .i64 (midX o).l.u, .int .i64 (midX o).l.c, .int .i64 (midX o).l.y, .int .i64 (midX o).py.a, .int .i64 (midX o).py.c, .int .i64 (midX o).py.u, .int .i64 (midX o).py.s, .int .i64 (midX o).ak.s, .int .i64 (midX o).ak.u, .bool (midX o).en] rfl _ Try.underlying29 rfl infoO ?_) | (go_at_call 37; (with_reducible refine (HK.out _).mono ?_); rintro e w' ⟨rfl, hz⟩; replace HB := Lib.hid (below_trans HB.out hz); replace HX := Lib.hid (HX.out.below hz); replace HR := Lib.hid (HR.out.below hz); clear hz; have y20 : w'.cell? ⟨w.heap.size, 20, none⟩ = some (.bool true) := (congrArg (fun z => some (Value.bool z)) HEN.out) ▸ HX.out.at 20 rfl) | (go_at_call 41; (with_reducible refine (HE.out _).mono ?_); rintro e w' ⟨rfl, hz⟩; replace HB := Lib.hid (below_trans HB.out hz); replace HX := Lib.hid (HX.out.below hz); replace HR := Lib.hid (HR.out.below hz); clear hz) | (refine store_part rfl 29 _ _ rfl _ 0 rfl (ocs (cameX o)) rfl HR.out (show 0 + 21 ≤ 21 from by decide) infoO (ocs_one _) (ocs (cameX o)) (over_all rfl) (fun w' hy ht => ?_); replace HB := Lib.hid (ht.2 _ _ (Nat.le_succ _) HB.out); replace HR := Lib.hid hy; clear hy ht))
        exact bodyPost_ret (results_3 rfl rfl rfl rfl HR.out Try.underlying29 rfl infoO) rfl ⟨rfl, HB.out⟩
      · have HY := Lib.hid (M8.out hq he)
        have HEN := Lib.hid he
        clear M6 M7 M8 he HE
        go_enter Try.func18, Try.ntmps18
        go_upto_region 1 with (fail)
        clear hW1
        go_wp2_with (first | (refine load_part rfl 29 _ rfl _ 0 21 rfl HX.out [.int .i64 o.id, .string o.k, .int .i64 o.cl, .int .i64 o.sq, .int .i64 o.n, .int .i64 o.d, .int .i64 o.p, .int .i64 o.c, .bool o.sp, .int .i64 o.ph, .string o.l.k, .int .i64 o.l.u, .int .i64 o.l.c, .int .i64 o.l.y, .int .i64 o.py.a, .int .i64 o.py.c, .int .i64 o.py.u, .int .i64 o.py.s, .int .i64 o.ak.s, .int .i64 o.ak.u, .bool o.en] rfl _ Try.underlying29 rfl infoO ?_) | (go_at_call 12; (with_reducible refine (H1.out _).mono ?_); rintro e w' ⟨rfl, hz⟩; replace HB := Lib.hid (below_trans HB.out hz); replace HX := Lib.hid (HX.out.below hz); replace HR := Lib.hid (HR.out.below hz); clear hz; have y9 : w'.cell? ⟨w.heap.size, 9, none⟩ = some (.int .i64 2) := (congrArg (fun z => some (Value.int .i64 z)) HPH.out) ▸ HX.out.at 9 rfl; have y6 := HX.out.at 6 rfl; have y5 := HX.out.at 5 rfl; have y12 := HX.out.at 12 rfl) | (refine store_part rfl 3 _ _ rfl _ 5 rfl [.int .i64 (o.d + o.l.c)] rfl HX.out (show 5 + 1 ≤ 21 from by decide) infoI (one_one rfl) (ocs { o with d := o.d + o.l.c }) rfl (fun w' hy ht => ?_); replace HB := Lib.hid (ht.2 _ _ (Nat.le_refl _) HB.out); replace HX := Lib.hid hy; replace HR := Lib.hid (ht.1 _ _ (Nat.succ_ne_self _) HR.out); clear hy ht) | (refine load_part rfl 25 _ rfl _ 14 4 rfl HX.out [.int .i64 o.py.a, .int .i64 o.py.c, .int .i64 o.py.u, .int .i64 o.py.s] rfl _ Try.underlying25 rfl infoP ?_) | (go_at_call 40; (with_reducible refine (HP.out _).mono ?_); rintro e w' ⟨rfl, hz⟩; replace HB := Lib.hid (below_trans HB.out hz); replace HX := Lib.hid (HX.out.below hz); replace HR := Lib.hid (HR.out.below hz); clear hz) | (refine store_part rfl 25 _ _ rfl _ 14 rfl (Pay.pcs ⟨o.py.a, o.py.c + o.l.c * o.p, o.py.u, o.py.s⟩) rfl HX.out (show 14 + 4 ≤ 21 from by decide) infoP (pcs_one _) (ocs { o with d := o.d + o.l.c, py := ⟨o.py.a, o.py.c + o.l.c * o.p, o.py.u, o.py.s⟩ }) rfl (fun w' hy ht => ?_); replace HB := Lib.hid (ht.2 _ _ (Nat.le_refl _) HB.out); replace HX := Lib.hid hy; replace HR := Lib.hid (ht.1 _ _ (Nat.succ_ne_self _) HR.out); clear hy ht) | (refine store_part rfl 23 _ _ rfl _ 10 rfl (lcs noL) rfl HX.out (show 10 + 4 ≤ 21 from by decide) infoL (lcs_one _) (ocs (midX o)) rfl (fun w' hy ht => ?_); replace HB := Lib.hid (ht.2 _ _ (Nat.le_refl _) HB.out); replace HX := Lib.hid hy; replace HR := Lib.hid (ht.1 _ _ (Nat.succ_ne_self _) HR.out); clear hy ht) | (refine load_part rfl 29 _ rfl _ 0 21 rfl HX.out [.int .i64 (midX o).id, .string (midX o).k, .int .i64 (midX o).cl, .int .i64 (midX o).sq, .int .i64 (midX o).n, .int .i64 (midX o).d, .int .i64 (midX o).p, .int .i64 (midX o).c, .bool (midX o).sp, .int .i64 (midX o).ph, .string (midX o).l.k, .int .i64 (midX o).l.u, .int .i64 (midX o).l.c, .int .i64 (midX o).l.y, .int .i64 (midX o).py.a, .int .i64 (midX o).py.c, .int .i64 (midX o).py.u, .int .i64 (midX o).py.s, .int .i64 (midX o).ak.s, .int .i64 (midX o).ak.u, .bool (midX o).en] rfl _ Try.underlying29 rfl infoO ?_) | (go_at_call 37; (with_reducible refine (HK.out _).mono ?_); rintro e w' ⟨rfl, hz⟩; replace HB := Lib.hid (below_trans HB.out hz); replace HX := Lib.hid (HX.out.below hz); replace HR := Lib.hid (HR.out.below hz); clear hz; have y20 : w'.cell? ⟨w.heap.size, 20, none⟩ = some (.bool false) := (congrArg (fun z => some (Value.bool z)) HEN.out) ▸ HX.out.at 20 rfl) | (refine store_part rfl 3 _ _ rfl _ 9 rfl [.int .i64 1] rfl HX.out (show 9 + 1 ≤ 21 from by decide) infoI (one_one rfl) (ocs (cameX o)) (by rw [← HY.out]; rfl) (fun w' hy ht => ?_); replace HB := Lib.hid (ht.2 _ _ (Nat.le_refl _) HB.out); replace HX := Lib.hid hy; replace HR := Lib.hid (ht.1 _ _ (Nat.succ_ne_self _) HR.out); clear hy ht) | (refine load_part rfl 29 _ rfl _ 0 21 rfl HX.out [.int .i64 (cameX o).id, .string (cameX o).k, .int .i64 (cameX o).cl, .int .i64 (cameX o).sq, .int .i64 (cameX o).n, .int .i64 (cameX o).d, .int .i64 (cameX o).p, .int .i64 (cameX o).c, .bool (cameX o).sp, .int .i64 (cameX o).ph, .string (cameX o).l.k, .int .i64 (cameX o).l.u, .int .i64 (cameX o).l.c, .int .i64 (cameX o).l.y, .int .i64 (cameX o).py.a, .int .i64 (cameX o).py.c, .int .i64 (cameX o).py.u, .int .i64 (cameX o).py.s, .int .i64 (cameX o).ak.s, .int .i64 (cameX o).ak.u, .bool (cameX o).en] rfl _ Try.underlying29 rfl infoO ?_) | (refine store_part rfl 29 _ _ rfl _ 0 rfl (ocs (cameX o)) rfl HR.out (show 0 + 21 ≤ 21 from by decide) infoO (ocs_one _) (ocs (cameX o)) (over_all rfl) (fun w' hy ht => ?_); replace HB := Lib.hid (ht.2 _ _ (Nat.le_succ _) HB.out); replace HR := Lib.hid hy; clear hy ht))
        exact bodyPost_ret (results_3 rfl rfl rfl rfl HR.out Try.underlying29 rfl infoO) rfl ⟨rfl, HB.out⟩
end Go.Proofs.Ytjmmijobdcepmaa.Order
