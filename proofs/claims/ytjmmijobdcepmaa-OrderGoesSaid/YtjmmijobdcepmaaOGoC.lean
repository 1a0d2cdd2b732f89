/-
  Contracts of package order: End.
-/
import Derived.Test.YtjmmijobdcepmaaOGo
namespace Go.Proofs.Ytjmmijobdcepmaa.Order
open Go.ChangeShapes Go.WideShapes Go.ChangeAt Go.RowKit
open Go.Proofs.Ytjmmijobdcepmaa.Pay (Py RightP UnitP TimeP GoodP)
open Go.Proofs.Ytjmmijobdcepmaa.Ask (As RightA)
open Go.Proofs.Ytjmmijobdcepmaa.Goods (nameB)

theorem shut_end {o : Od} (h : RightO o) (h1 : o.ph = 1) : shutX o = { o with ph := if 0 < o.d then 4 else 5, py := ⟨o.py.a, o.py.c, o.py.u, 3⟩ } := by
  obtain ⟨⟨_, _, hn, hp, hd1, hd2, _, hr, _⟩, hph⟩ := h
  have hb : o.d < o.n ∧ BareP o ∧ o.py.s ≠ 3 := by
    rcases hph with h | h | h | h | h
    · exact h.2
    · omega
    · omega
    · omega
    · omega
  obtain ⟨hb1, hb2, hb3⟩ := hb
  have hcl : Pay.cloO o.py = ⟨o.py.a, o.py.c, o.py.u, 3⟩ := by
    rcases Pay.clo_ways o.py with ⟨g, _⟩ | ⟨_, g, _⟩ | ⟨_, _, _, e⟩
    · exact absurd hr (Pay.rightB_f.1 g)
    · exact absurd g hb3
    · exact e
  have e2 : (if o.d = o.n then (3 : Int) else if o.d = 0 then 5 else 4) = if 0 < o.d then 4 else 5 := by
    rw [if_neg (by omega)]
    by_cases h0 : o.d = 0
    · rw [if_pos h0, if_neg (by omega)]
    · rw [if_neg h0, if_pos (by omega)]
  unfold shutX
  rw [hcl, e2]
  have e3 := hb2.2
  rcases o with ⟨_, _, _, _, _, _, _, _, _, _, _, _, _, en⟩
  simp only at e3
  subst e3
  rfl

set_option maxRecDepth 100000 in
set_option maxHeartbeats 4000000 in
theorem End_any (o : Od) (h : Fits o) (w : World) : Calls Try.prog 19 #[ov o] w (OrdE (endO o) (endE o) w) := by
  obtain ⟨hx, hr, hb⟩ := two_new w (ocs o) (ocs noO) 29 29
  obtain ⟨W1, hW1⟩ : ∃ W, (w.alloc (.cells #[.int .i64 o.id, .string o.k, .int .i64 o.cl, .int .i64 o.sq, .int .i64 o.n, .int .i64 o.d, .int .i64 o.p, .int .i64 o.c, .bool o.sp, .int .i64 o.ph, .string o.l.k, .int .i64 o.l.u, .int .i64 o.l.c, .int .i64 o.l.y, .int .i64 o.py.a, .int .i64 o.py.c, .int .i64 o.py.u, .int .i64 o.py.s, .int .i64 o.ak.s, .int .i64 o.ak.u, .bool o.en] 29)).alloc (.cells #[.int .i64 0, .string ⟨#[]⟩, .int .i64 0, .int .i64 0, .int .i64 0, .int .i64 0, .int .i64 0, .int .i64 0, .bool false, .int .i64 0, .string ⟨#[]⟩, .int .i64 0, .int .i64 0, .int .i64 0, .int .i64 0, .int .i64 0, .int .i64 0, .int .i64 0, .int .i64 0, .int .i64 0, .bool false] 29) = W := ⟨_, rfl⟩
  have HX : Hid (Box w.heap.size (ocs o) W1) := Lib.hid (hW1 ▸ hx)
  have HR : Hid (Box (w.heap.size + 1) (ocs noO) W1) := Lib.hid (hW1 ▸ hr)
  have HB : Hid (Below w.heap.size w W1) := Lib.hid (hW1 ▸ hb)
  clear hx hr hb
  have H1 := Lib.hid (Right_any o h)
  have HO := Lib.hid (isOpen_any o)
  have HE := Lib.hid (atEnd_any o)
  have HS := Lib.hid (end_ways o)
  have HRT := Lib.hid (rightB_t (o := o))
  have HQ := Lib.hid (fun g1 g2 => shut_end (o := o) g1 g2)
  have HOE := Lib.hid (fun g1 => open_eq (o := o) g1)
  generalize endE o = z at HS ⊢
  generalize endO o = y at HS ⊢
  generalize rightB o = r1 at H1 HS HRT
  generalize decide (o.ph = 1 ∨ o.ph = 2) = op at HO HOE
  clear h
  unfold ov at H1 HO HE ⊢
  rcases HS.out with ⟨rfl, rfl, rfl⟩ | ⟨rfl, h1, rfl, rfl⟩ | ⟨rfl, h1, h2, rfl, rfl⟩ | ⟨rfl, h1, h2, rfl, rfl⟩
  · clear HS HO HE HRT HQ HOE
    go_enter Try.func19, Try.ntmps19
    go_upto_region 1 with (fail)
    clear hW1
    go_wp2_with (first | (refine load_part rfl 29 _ rfl _ 0 21 rfl HX.out [.int .i64 o.id, .string o.k, .int .i64 o.cl, .int .i64 o.sq, .int .i64 o.n, .int .i64 o.d, .int .i64 o.p, .int .i64 o.c, .bool o.sp, .int .i64 o.ph, .string o.l.k, .int .i64 o.l.u, .int .i64 o.l.c, .int .i64 o.l.y, .int .i64 o.py.a, .int .i64 o.py.c, .int .i64 o.py.u, .int .i64 o.py.s, .int .i64 o.ak.s, .int .i64 o.ak.u, .bool o.en] rfl _ Try.underlying29 rfl infoO ?_) | (go_at_call 12; (with_reducible refine (H1.out _).mono ?_); rintro e w' ⟨rfl, hz⟩; replace HB := Lib.hid (below_trans HB.out hz); replace HX := Lib.hid (HX.out.below hz); replace HR := Lib.hid (HR.out.below hz); clear hz) | (refine store_part rfl 29 _ _ rfl _ 0 rfl (ocs (noO)) rfl HR.out (show 0 + 21 ≤ 21 from by decide) infoO (ocs_one _) (ocs (noO)) (over_all rfl) (fun w' hy ht => ?_); replace HB := Lib.hid (ht.2 _ _ (Nat.le_succ _) HB.out); replace HR := Lib.hid hy; clear hy ht))
    exact bodyPost_ret (results_2 rfl rfl rfl HR.out Try.underlying29 rfl infoO) rfl ⟨rfl, HB.out⟩
  · by_cases h3 : 3 ≤ o.ph
    · have e := (HOE.out (HRT.out.1 rfl)).trans (decide_eq_false (by omega))
      subst e
      clear HS HE HRT HQ HOE h1 h3
      go_enter Try.func19, Try.ntmps19
      go_upto_region 1 with (fail)
      clear hW1
      go_wp2_with (first | (refine load_part rfl 29 _ rfl _ 0 21 rfl HX.out [.int .i64 o.id, .string o.k, .int .i64 o.cl, .int .i64 o.sq, .int .i64 o.n, .int .i64 o.d, .int .i64 o.p, .int .i64 o.c, .bool o.sp, .int .i64 o.ph, .string o.l.k, .int .i64 o.l.u, .int .i64 o.l.c, .int .i64 o.l.y, .int .i64 o.py.a, .int .i64 o.py.c, .int .i64 o.py.u, .int .i64 o.py.s, .int .i64 o.ak.s, .int .i64 o.ak.u, .bool o.en] rfl _ Try.underlying29 rfl infoO ?_) | (go_at_call 12; (with_reducible refine (H1.out _).mono ?_); rintro e w' ⟨rfl, hz⟩; replace HB := Lib.hid (below_trans HB.out hz); replace HX := Lib.hid (HX.out.below hz); replace HR := Lib.hid (HR.out.below hz); clear hz) | (go_at_call 38; (with_reducible refine (HO.out _).mono ?_); rintro e w' ⟨rfl, hz⟩; replace HB := Lib.hid (below_trans HB.out hz); replace HX := Lib.hid (HX.out.below hz); replace HR := Lib.hid (HR.out.below hz); clear hz) | (refine store_part rfl 29 _ _ rfl _ 0 rfl (ocs (noO)) rfl HR.out (show 0 + 21 ≤ 21 from by decide) infoO (ocs_one _) (ocs (noO)) (over_all rfl) (fun w' hy ht => ?_); replace HB := Lib.hid (ht.2 _ _ (Nat.le_succ _) HB.out); replace HR := Lib.hid hy; clear hy ht))
      exact bodyPost_ret (results_2 rfl rfl rfl HR.out Try.underlying29 rfl infoO) rfl ⟨rfl, HB.out⟩
    · have e := (HOE.out (HRT.out.1 rfl)).trans (decide_eq_true (by omega))
      subst e
      have HEN : Hid (o.en = true) := Lib.hid (h1.resolve_left h3)
      clear HS HE HRT HQ HOE h1 h3
      go_enter Try.func19, Try.ntmps19
      go_upto_region 1 with (fail)
      clear hW1
      go_wp2_with (first | (refine load_part rfl 29 _ rfl _ 0 21 rfl HX.out [.int .i64 o.id, .string o.k, .int .i64 o.cl, .int .i64 o.sq, .int .i64 o.n, .int .i64 o.d, .int .i64 o.p, .int .i64 o.c, .bool o.sp, .int .i64 o.ph, .string o.l.k, .int .i64 o.l.u, .int .i64 o.l.c, .int .i64 o.l.y, .int .i64 o.py.a, .int .i64 o.py.c, .int .i64 o.py.u, .int .i64 o.py.s, .int .i64 o.ak.s, .int .i64 o.ak.u, .bool o.en] rfl _ Try.underlying29 rfl infoO ?_) | (go_at_call 12; (with_reducible refine (H1.out _).mono ?_); rintro e w' ⟨rfl, hz⟩; replace HB := Lib.hid (below_trans HB.out hz); replace HX := Lib.hid (HX.out.below hz); replace HR := Lib.hid (HR.out.below hz); clear hz) | (go_at_call 38; (with_reducible refine (HO.out _).mono ?_); rintro e w' ⟨rfl, hz⟩; replace HB := Lib.hid (below_trans HB.out hz); replace HX := Lib.hid (HX.out.below hz); replace HR := Lib.hid (HR.out.below hz); clear hz; have y20 : w'.cell? ⟨w.heap.size, 20, none⟩ = some (.bool true) := (congrArg (fun z => some (Value.bool z)) HEN.out) ▸ HX.out.at 20 rfl) | (refine store_part rfl 29 _ _ rfl _ 0 rfl (ocs (noO)) rfl HR.out (show 0 + 21 ≤ 21 from by decide) infoO (ocs_one _) (ocs (noO)) (over_all rfl) (fun w' hy ht => ?_); replace HB := Lib.hid (ht.2 _ _ (Nat.le_succ _) HB.out); replace HR := Lib.hid hy; clear hy ht))
      exact bodyPost_ret (results_2 rfl rfl rfl HR.out Try.underlying29 rfl infoO) rfl ⟨rfl, HB.out⟩
  · have e := (HOE.out (HRT.out.1 rfl)).trans (decide_eq_true (by omega))
    subst e
    have HEN := Lib.hid h2
    have HPH := Lib.hid h1
    clear HS HE HRT HQ HOE h1 h2
    go_enter Try.func19, Try.ntmps19
    go_upto_region 1 with (fail)
    clear hW1
    go_wp2_with (first | (refine load_part rfl 29 _ rfl _ 0 21 rfl HX.out [.int .i64 o.id, .string o.k, .int .i64 o.cl, .int .i64 o.sq, .int .i64 o.n, .int .i64 o.d, .int .i64 o.p, .int .i64 o.c, .bool o.sp, .int .i64 o.ph, .string o.l.k, .int .i64 o.l.u, .int .i64 o.l.c, .int .i64 o.l.y, .int .i64 o.py.a, .int .i64 o.py.c, .int .i64 o.py.u, .int .i64 o.py.s, .int .i64 o.ak.s, .int .i64 o.ak.u, .bool o.en] rfl _ Try.underlying29 rfl infoO ?_) | (go_at_call 12; (with_reducible refine (H1.out _).mono ?_); rintro e w' ⟨rfl, hz⟩; replace HB := Lib.hid (below_trans HB.out hz); replace HX := Lib.hid (HX.out.below hz); replace HR := Lib.hid (HR.out.below hz); clear hz) | (go_at_call 38; (with_reducible refine (HO.out _).mono ?_); rintro e w' ⟨rfl, hz⟩; replace HB := Lib.hid (below_trans HB.out hz); replace HX := Lib.hid (HX.out.below hz); replace HR := Lib.hid (HR.out.below hz); clear hz; have y20 : w'.cell? ⟨w.heap.size, 20, none⟩ = some (.bool false) := (congrArg (fun z => some (Value.bool z)) HEN.out) ▸ HX.out.at 20 rfl; have y9 : w'.cell? ⟨w.heap.size, 9, none⟩ = some (.int .i64 2) := (congrArg (fun z => some (Value.int .i64 z)) HPH.out) ▸ HX.out.at 9 rfl) | (refine store_part rfl 4 _ _ rfl _ 20 rfl [.bool true] rfl HX.out (show 20 + 1 ≤ 21 from by decide) infoB (one_one rfl) (ocs { o with en := true }) rfl (fun w' hy ht => ?_); replace HB := Lib.hid (ht.2 _ _ (Nat.le_refl _) HB.out); replace HX := Lib.hid hy; replace HR := Lib.hid (ht.1 _ _ (Nat.succ_ne_self _) HR.out); clear hy ht) | (refine load_part rfl 29 _ rfl _ 0 21 rfl HX.out [.int .i64 ({ o with en := true } : Od).id, .string ({ o with en := true } : Od).k, .int .i64 ({ o with en := true } : Od).cl, .int .i64 ({ o with en := true } : Od).sq, .int .i64 ({ o with en := true } : Od).n, .int .i64 ({ o with en := true } : Od).d, .int .i64 ({ o with en := true } : Od).p, .int .i64 ({ o with en := true } : Od).c, .bool ({ o with en := true } : Od).sp, .int .i64 ({ o with en := true } : Od).ph, .string ({ o with en := true } : Od).l.k, .int .i64 ({ o with en := true } : Od).l.u, .int .i64 ({ o with en := true } : Od).l.c, .int .i64 ({ o with en := true } : Od).l.y, .int .i64 ({ o with en := true } : Od).py.a, .int .i64 ({ o with en := true } : Od).py.c, .int .i64 ({ o with en := true } : Od).py.u, .int .i64 ({ o with en := true } : Od).py.s, .int .i64 ({ o with en := true } : Od).ak.s, .int .i64 ({ o with en := true } : Od).ak.u, .bool ({ o with en := true } : Od).en] rfl _ Try.underlying29 rfl infoO ?_) | (refine store_part rfl 29 _ _ rfl _ 0 rfl (ocs ({ o with en := true })) rfl HR.out (show 0 + 21 ≤ 21 from by decide) infoO (ocs_one _) (ocs ({ o with en := true })) (over_all rfl) (fun w' hy ht => ?_); replace HB := Lib.hid (ht.2 _ _ (Nat.le_succ _) HB.out); replace HR := Lib.hid hy; clear hy ht))
    exact bodyPost_ret (results_2 rfl rfl rfl HR.out Try.underlying29 rfl infoO) rfl ⟨rfl, HB.out⟩
  · have e := (HOE.out (HRT.out.1 rfl)).trans (decide_eq_true (by omega))
    subst e
    have HEN := Lib.hid h2
    have HPH := Lib.hid h1
    rw [HQ.out (HRT.out.1 rfl) h1] at HE
    generalize ({ o with ph := if 0 < o.d then 4 else 5, py := ⟨o.py.a, o.py.c, o.py.u, 3⟩ } : Od) = x at HE ⊢
    clear HS HRT HQ HOE h1 h2
    go_enter Try.func19, Try.ntmps19
    go_upto_region 1 with (fail)
    clear hW1
    go_wp2_with (first | (refine load_part rfl 29 _ rfl _ 0 21 rfl HX.out [.int .i64 o.id, .string o.k, .int .i64 o.cl, .int .i64 o.sq, .int .i64 o.n, .int .i64 o.d, .int .i64 o.p, .int .i64 o.c, .bool o.sp, .int .i64 o.ph, .string o.l.k, .int .i64 o.l.u, .int .i64 o.l.c, .int .i64 o.l.y, .int .i64 o.py.a, .int .i64 o.py.c, .int .i64 o.py.u, .int .i64 o.py.s, .int .i64 o.ak.s, .int .i64 o.ak.u, .bool o.en] rfl _ Try.underlying29 rfl infoO ?_) | (go_at_call 12; (with_reducible refine (H1.out _).mono ?_); rintro e w' ⟨rfl, hz⟩; replace HB := Lib.hid (below_trans HB.out hz); replace HX := Lib.hid (HX.out.below hz); replace HR := Lib.hid (HR.out.below hz); clear hz) | (go_at_call 38; (with_reducible refine (HO.out _).mono ?_); rintro e w' ⟨rfl, hz⟩; replace HB := Lib.hid (below_trans HB.out hz); replace HX := Lib.hid (HX.out.below hz); replace HR := Lib.hid (HR.out.below hz); clear hz; have y20 : w'.cell? ⟨w.heap.size, 20, none⟩ = some (.bool false) := (congrArg (fun z => some (Value.bool z)) HEN.out) ▸ HX.out.at 20 rfl; have y9 : w'.cell? ⟨w.heap.size, 9, none⟩ = some (.int .i64 1) := (congrArg (fun z => some (Value.int .i64 z)) HPH.out) ▸ HX.out.at 9 rfl) | (go_at_call 41; (with_reducible refine (HE.out _).mono ?_); rintro e w' ⟨rfl, hz⟩; replace HB := Lib.hid (below_trans HB.out hz); replace HX := Lib.hid (HX.out.below hz); replace HR := Lib.hid (HR.out.below hz); clear hz) | (refine store_part rfl 29 _ _ rfl _ 0 rfl (ocs (x)) rfl HR.out (show 0 + 21 ≤ 21 from by decide) infoO (ocs_one _) (ocs (x)) (over_all rfl) (fun w' hy ht => ?_); replace HB := Lib.hid (ht.2 _ _ (Nat.le_succ _) HB.out); replace HR := Lib.hid hy; clear hy ht))
    exact bodyPost_ret (results_2 rfl rfl rfl HR.out Try.underlying29 rfl infoO) rfl ⟨rfl, HB.out⟩
end Go.Proofs.Ytjmmijobdcepmaa.Order
