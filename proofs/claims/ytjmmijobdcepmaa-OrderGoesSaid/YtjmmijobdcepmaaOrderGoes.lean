/-
  Proved: for any order and any load the law OrderGoes returns true: what sending any load, its coming, and being cut off, makes of any order, is as the reference says, or refused. No condition.
-/
import Derived.Test.YtjmmijobdcepmaaRows
import Derived.Test.YtjmmijobdcepmaaOCut
import Derived.Test.YtjmmijobdcepmaaInv
import Derived.Deep.CutRange
import Derived.Deep.CutBlock
namespace Go.Proofs.Ytjmmijobdcepmaa.orderGoes
open Go.ChangeShapes Go.WideShapes Go.ChangeAt Go.RowKit Go.Lib Go.Proofs.Ytjmmijobdcepmaa.Order
set_option linter.unusedVariables false

theorem own : ownKnob Try.prog.godebug = none := by kernel_rfl
theorem laidOut : laidOutB Try.prog = true := by kernel_rfl
/-- A load's name is cut, in its block. -/
theorem load_step {C : Od} {l : Ld} {w W : World} (f : ByteArray) (hb : Box w.heap.size (ocs C) W) (hl : Box (w.heap.size + 1) (lcs l) W) (he : Below w.heap.size w W) :
    Box w.heap.size (ocs C) (W.setCell ⟨w.heap.size + 1, 0, none⟩ (.string f)) ∧ Box (w.heap.size + 1) (lcs { l with k := f }) (W.setCell ⟨w.heap.size + 1, 0, none⟩ (.string f)) ∧ Below w.heap.size w (W.setCell ⟨w.heap.size + 1, 0, none⟩ (.string f)) := by
  have t := turned_setCells W (w.heap.size + 1) 0 [.string f]
  exact ⟨t.1 _ _ (by omega) hb, hl.over (o := 0) (cs := [.string f]) (show 0 + 1 ≤ 4 by decide), t.2 _ _ (Nat.le_succ _) he⟩
/-- The reference's three calls, in whatever order their blocks are made. -/
abbrev Ds : List Nat := [42, 43, 44, 45, 46, 47, 48, 12, 13, 14]
abbrev Vs (C S M E : Od) (l : Ld) (e m f d : Int) : List Vl := [⟨0, 42, ov C⟩, ⟨1, 43, ldv l⟩, ⟨2, 44, tv S 0 e⟩, ⟨3, 45, ov C⟩, ⟨4, 46, tv M m f⟩, ⟨5, 47, ov C⟩, ⟨6, 48, tv E 0 d⟩]
abbrev Bs (S M E : Od) (e m f d : Int) : List Blk := [⟨7, 12, 10, tcs noO 0 0, tcs S 0 e⟩, ⟨8, 13, 11, tcs noO 0 0, tcs M m f⟩, ⟨9, 14, 12, tcs noO 0 0, tcs E 0 d⟩]
theorem plan (C S M E : Od) (l : Ld) (e m f d : Int) : Plan 13 92 Ds (Vs C S M E l e m f d) (Bs S M E e m f d) := by
  constructor
  · intro x hx
    simp only [List.mem_cons, List.not_mem_nil, or_false] at hx
    rcases hx with rfl | rfl | rfl | rfl | rfl | rfl | rfl <;> exact ⟨by simp, by simp, by simp⟩
  · intro x hx
    simp only [List.mem_cons, List.not_mem_nil, or_false] at hx
    rcases hx with rfl | rfl | rfl <;> exact ⟨by simp, by simp, by simp, by simp⟩
  · intro x hx y hy
    simp only [List.mem_cons, List.not_mem_nil, or_false] at hx hy
    rcases hx with rfl | rfl | rfl | rfl | rfl | rfl | rfl <;> rcases hy with rfl | rfl | rfl | rfl | rfl | rfl | rfl <;> first | exact ⟨fun _ => rfl, fun _ => rfl⟩ | exact ⟨fun h => absurd h (by simp), fun h => absurd h (by simp)⟩
  · intro x hx y hy
    simp only [List.mem_cons, List.not_mem_nil, or_false] at hx hy
    rcases hx with rfl | rfl | rfl | rfl | rfl | rfl | rfl <;> rcases hy with rfl | rfl | rfl <;> exact ⟨by simp, by simp, by simp⟩
  · intro x hx y hy
    simp only [List.mem_cons, List.not_mem_nil, or_false] at hx hy
    rcases hx with rfl | rfl | rfl <;> rcases hy with rfl | rfl | rfl <;> first | exact ⟨fun _ => rfl, fun _ => rfl, fun _ => rfl, by simp⟩ | exact ⟨fun h => absurd h (by simp), fun h => absurd h (by simp), fun h => absurd h (by simp), by simp⟩

set_option maxRecDepth 100000 in
set_option maxHeartbeats 16000000 in
theorem walk0 (o : Od) (_x1 : o.k.size ≤ 9223372036854775807) (_x2 : o.l.k.size ≤ 9223372036854775807) (l0 : Ld) (_l1 : l0.k.size ≤ 9223372036854775807) (w : World) :
    Calls Try.prog 4 #[ov o, ldv l0] w (BoolB true w) := by
  obtain ⟨hx, hr, hb⟩ := two_new w (ocs o) (lcs l0) 29 23
  obtain ⟨W1, hW1⟩ : ∃ W, (w.alloc (.cells #[.int .i64 o.id, .string o.k, .int .i64 o.cl, .int .i64 o.sq, .int .i64 o.n, .int .i64 o.d, .int .i64 o.p, .int .i64 o.c, .bool o.sp, .int .i64 o.ph, .string o.l.k, .int .i64 o.l.u, .int .i64 o.l.c, .int .i64 o.l.y, .int .i64 o.py.a, .int .i64 o.py.c, .int .i64 o.py.u, .int .i64 o.py.s, .int .i64 o.ak.s, .int .i64 o.ak.u, .bool o.en] 29)).alloc (.cells #[.string l0.k, .int .i64 l0.u, .int .i64 l0.c, .int .i64 l0.y] 23) = W := ⟨_, rfl⟩
  have HX : Hid (Box w.heap.size (ocs o) W1) := Lib.hid (hW1 ▸ hx)
  have HL : Hid (Box (w.heap.size + 1) (lcs l0) W1) := Lib.hid (hW1 ▸ hr)
  have HB : Hid (Below w.heap.size w W1) := Lib.hid (hW1 ▸ hb)
  clear hx hr hb
  obtain ⟨C, hC⟩ : ∃ C, cutO o = C := ⟨_, rfl⟩
  have hf : Fits C := hC ▸ cutO_fits o
  obtain ⟨l, hl⟩ : ∃ l, ({ l0 with k := Goods.cutT l0.k } : Ld) = l := ⟨_, rfl⟩
  have hk : l.k.size ≤ 1000000 := by rw [← hl]; have := Goods.cutT_size l0.k; show (Goods.cutT l0.k).size ≤ 1000000; omega
  have HLE := Lib.hid hl
  have HCU : Hid (∀ w, Calls Try.prog 7 #[ov o] w (OrdV C w)) := Lib.hid (fun w => hC ▸ cut_any o _x1 _x2 w)
  have HSE := Lib.hid (fun w => Send_any C l hf hk w)
  have HCA := Lib.hid (fun w => Came_any C hf w)
  have HEN := Lib.hid (fun w => End_any C hf w)
  have HRS := Lib.hid (fun w => refSend_any C l hf hk w)
  have HRC := Lib.hid (fun w => refCame_any C hf w)
  have HRE := Lib.hid (fun w => refEnd_any C hf w)
  have HAL := Lib.hid alive_any
  clear hC hf hl hk
  generalize sendO C l = S at *
  generalize sendE C l = e at *
  generalize cameO C = M at *
  generalize cameN C = m at *
  generalize cameE C = f at *
  generalize endO C = E at *
  generalize endE C = d at *
  unfold ov ldv at *
  go_enter Try.func4, Try.ntmps4
  go_upto_region 1 with (fail)
  clear hW1
  go_upto_region 2 with (first | (go_at_call 7; (with_reducible refine (HCU.out _).mono ?_); rintro e w' ⟨rfl, hz⟩; replace HB := Lib.hid (below_trans HB.out hz); replace HX := Lib.hid (HX.out.below hz); replace HL := Lib.hid (HL.out.below hz); clear hz) | (refine load_at 29 _ rfl _ 0 21 rfl HX.out [.int .i64 o.id, .string o.k, .int .i64 o.cl, .int .i64 o.sq, .int .i64 o.n, .int .i64 o.d, .int .i64 o.p, .int .i64 o.c, .bool o.sp, .int .i64 o.ph, .string o.l.k, .int .i64 o.l.u, .int .i64 o.l.c, .int .i64 o.l.y, .int .i64 o.py.a, .int .i64 o.py.c, .int .i64 o.py.u, .int .i64 o.py.s, .int .i64 o.ak.s, .int .i64 o.ak.u, .bool o.en] rfl _ Try.underlying29 rfl infoO rfl ?_) | (refine store_at 29 _ _ rfl _ 0 rfl (ocs C) rfl HX.out (show 0 + 21 ≤ 21 from by decide) infoO (ocs_one _) (ocs C) (over_all rfl) rfl (fun w' hy ht => ?_); replace HB := Lib.hid (ht.2 _ _ (Nat.le_refl _) HB.out); replace HX := Lib.hid hy; replace HL := Lib.hid (ht.1 _ _ (Nat.succ_ne_self _) HL.out); clear hy ht))
  clear HCU
  rename World => w1
  simp only [Act.put]
  go_cut [] from 17 to 26 (fun wx => Box w.heap.size (ocs C) wx ∧ Box (w.heap.size + 1) (lcs l) wx ∧ Below w.heap.size w wx)
  case first =>
    have y0 := (show _ = some (Value.string l0.k) from HL.out.at 0 rfl)
    have z0 := HL.out.zt 0 rfl
    have hs := HL.out.1
    rcases cut_ways l0.k with ⟨a1, a2, a3, a4⟩ | ⟨a1, a2, a3, a4⟩
    · rw [a2] at HLE
      clear a2
      go_wp2_with fail
      go_meet
      rw [← HLE.out]
      exact load_step _ HX.out HL.out HB.out
    · rw [a2] at HLE
      clear a2
      go_wp2_with fail
      go_meet
      rw [← HLE.out]
      exact load_step _ HX.out HL.out HB.out
  case rest =>
  obtain ⟨hbx, hbl, hbe⟩ := hcut
  rename World => w2
  replace HX := Lib.hid hbx
  replace HL := Lib.hid hbl
  replace HB := Lib.hid hbe
  clear hbx hbl hbe HLE
  go_upto_region 4 with (first | (go_at_call 17; (with_reducible refine (HSE.out _).mono ?_); rintro e w' ⟨rfl, hz⟩; replace HB := Lib.hid (below_trans HB.out hz); replace HX := Lib.hid (HX.out.below hz); replace HL := Lib.hid (HL.out.below hz); clear hz; obtain ⟨ga, hg⟩ : ∃ ga, w'.heap.size = ga := ⟨_, rfl⟩; have HGG := Lib.hid hg; clear hg) | (refine load_at 29 _ rfl _ 0 21 rfl HX.out [.int .i64 C.id, .string C.k, .int .i64 C.cl, .int .i64 C.sq, .int .i64 C.n, .int .i64 C.d, .int .i64 C.p, .int .i64 C.c, .bool C.sp, .int .i64 C.ph, .string C.l.k, .int .i64 C.l.u, .int .i64 C.l.c, .int .i64 C.l.y, .int .i64 C.py.a, .int .i64 C.py.c, .int .i64 C.py.u, .int .i64 C.py.s, .int .i64 C.ak.s, .int .i64 C.ak.u, .bool C.en] rfl _ Try.underlying29 rfl infoO rfl ?_) | (refine load_at 23 _ rfl _ 0 4 rfl HL.out [.string l.k, .int .i64 l.u, .int .i64 l.c, .int .i64 l.y] rfl _ Try.underlying23 rfl infoL rfl ?_) | (refine store_at 29 _ _ rfl _ 0 rfl (ocs S) rfl (Box.made _ (ocs noO) _) (show 0 + 21 ≤ 21 from by decide) infoO (ocs_one _) (ocs S) (over_all rfl) rfl (fun w' hy ht => ?_); have HA := Lib.hid hy; replace HX := Lib.hid (ht.1 _ _ (Nat.ne_of_lt HX.out.1) (HX.out.below (al _ _))); replace HL := Lib.hid (ht.1 _ _ (Nat.ne_of_lt HL.out.1) (HL.out.below (al _ _))); replace HB := Lib.hid (ht.2 _ _ HB.out.size (below_trans HB.out (al _ _))); clear hy ht; rw [HGG.out] at HA))
  rename World => w3
  rw [HGG.out]
  clear HGG HSE
  go_upto_region 5 with (first | (go_at_call 18; (with_reducible refine (HCA.out _).mono ?_); rintro e w' ⟨rfl, hz⟩; replace HB := Lib.hid (below_trans HB.out hz); replace HX := Lib.hid (HX.out.below hz); replace HL := Lib.hid (HL.out.below hz); replace HA := Lib.hid (HA.out.below hz); clear hz; obtain ⟨gb, hg⟩ : ∃ gb, w'.heap.size = gb := ⟨_, rfl⟩; have HGG := Lib.hid hg; clear hg) | (refine load_at 29 _ rfl _ 0 21 rfl HX.out [.int .i64 C.id, .string C.k, .int .i64 C.cl, .int .i64 C.sq, .int .i64 C.n, .int .i64 C.d, .int .i64 C.p, .int .i64 C.c, .bool C.sp, .int .i64 C.ph, .string C.l.k, .int .i64 C.l.u, .int .i64 C.l.c, .int .i64 C.l.y, .int .i64 C.py.a, .int .i64 C.py.c, .int .i64 C.py.u, .int .i64 C.py.s, .int .i64 C.ak.s, .int .i64 C.ak.u, .bool C.en] rfl _ Try.underlying29 rfl infoO rfl ?_) | (refine store_at 29 _ _ rfl _ 0 rfl (ocs M) rfl (Box.made _ (ocs noO) _) (show 0 + 21 ≤ 21 from by decide) infoO (ocs_one _) (ocs M) (over_all rfl) rfl (fun w' hy ht => ?_); have HM := Lib.hid hy; replace HX := Lib.hid (ht.1 _ _ (Nat.ne_of_lt HX.out.1) (HX.out.below (al _ _))); replace HL := Lib.hid (ht.1 _ _ (Nat.ne_of_lt HL.out.1) (HL.out.below (al _ _))); replace HA := Lib.hid (ht.1 _ _ (Nat.ne_of_lt HA.out.1) (HA.out.below (al _ _))); replace HB := Lib.hid (ht.2 _ _ HB.out.size (below_trans HB.out (al _ _))); clear hy ht; rw [HGG.out] at HM))
  rename World => w4
  rw [HGG.out]
  clear HGG HCA
  go_upto_region 6 with (first | (go_at_call 19; (with_reducible refine (HEN.out _).mono ?_); rintro e w' ⟨rfl, hz⟩; replace HB := Lib.hid (below_trans HB.out hz); replace HX := Lib.hid (HX.out.below hz); replace HL := Lib.hid (HL.out.below hz); replace HA := Lib.hid (HA.out.below hz); replace HM := Lib.hid (HM.out.below hz); clear hz; obtain ⟨gc, hg⟩ : ∃ gc, w'.heap.size = gc := ⟨_, rfl⟩; have HGG := Lib.hid hg; clear hg) | (refine load_at 29 _ rfl _ 0 21 rfl HX.out [.int .i64 C.id, .string C.k, .int .i64 C.cl, .int .i64 C.sq, .int .i64 C.n, .int .i64 C.d, .int .i64 C.p, .int .i64 C.c, .bool C.sp, .int .i64 C.ph, .string C.l.k, .int .i64 C.l.u, .int .i64 C.l.c, .int .i64 C.l.y, .int .i64 C.py.a, .int .i64 C.py.c, .int .i64 C.py.u, .int .i64 C.py.s, .int .i64 C.ak.s, .int .i64 C.ak.u, .bool C.en] rfl _ Try.underlying29 rfl infoO rfl ?_) | (refine store_at 29 _ _ rfl _ 0 rfl (ocs E) rfl (Box.made _ (ocs noO) _) (show 0 + 21 ≤ 21 from by decide) infoO (ocs_one _) (ocs E) (over_all rfl) rfl (fun w' hy ht => ?_); have HE := Lib.hid hy; replace HX := Lib.hid (ht.1 _ _ (Nat.ne_of_lt HX.out.1) (HX.out.below (al _ _))); replace HL := Lib.hid (ht.1 _ _ (Nat.ne_of_lt HL.out.1) (HL.out.below (al _ _))); replace HA := Lib.hid (ht.1 _ _ (Nat.ne_of_lt HA.out.1) (HA.out.below (al _ _))); replace HM := Lib.hid (ht.1 _ _ (Nat.ne_of_lt HM.out.1) (HM.out.below (al _ _))); replace HB := Lib.hid (ht.2 _ _ HB.out.size (below_trans HB.out (al _ _))); clear hy ht; rw [HGG.out] at HE))
  rename World => w5
  rw [HGG.out]
  clear HGG HEN
  try simp only [Act.put]
  go_cut [12, 13, 14] from 42 to 49 (fun p q r wx => ∃ g1 g2 g3, p = .pointer (some ⟨g1, 0, none⟩) ∧ q = .pointer (some ⟨g2, 0, none⟩) ∧ r = .pointer (some ⟨g3, 0, none⟩) ∧ Box g1 (tcs S 0 e) wx ∧ Box g2 (tcs M m f) wx ∧ Box g3 (tcs E 0 d) wx ∧ Below w5.heap.size w5 wx)
  case first =>
    refine wp_abs (fun a => Hid (a = _) ∧ a.eval (.tmp 2) = .pointer (some ⟨w.heap.size, 0, none⟩) ∧ a.eval (.tmp 3) = .pointer (some ⟨w.heap.size + 1, 0, none⟩) ∧ a.tmps.size = 92) ⟨Lib.hid rfl, rfl, rfl, rfl⟩ ?_
    rintro a0 ⟨HA0, e2, e3, hz⟩
    have hP : Plan 13 a0.tmps.size Ds (Vs C S M E l e m f d) (Bs S M E e m f d) := by rw [hz]; exact plan _ _ _ _ _ _ _ _ _
    refine wp_region_inv (I := Mid 13 Ds (Vs C S M E l e m f d) (Bs S M E e m f d) a0 w5) (by kernel_rfl) (by kernel_rfl) (fun L a w h => h.size) ?_ ?_ (Mid.begin 13 _ _ _ _ (dr w5))
    · intro L a wx i h hi hn ha
      have hi13 : i < 13 := hi
      have hx := HX.out.below h.bel
      have hl := HL.out.below h.bel
      have q2 : a.eval (.tmp 2) = .pointer (some ⟨w.heap.size, 0, none⟩) := (h.fr.2.2 2 (by decide)).trans e2
      have q3 : a.eval (.tmp 3) = .pointer (some ⟨w.heap.size + 1, 0, none⟩) := (h.fr.2.2 3 (by decide)).trans e3
      rcases (show i = 0 ∨ i = 1 ∨ i = 2 ∨ i = 3 ∨ i = 4 ∨ i = 5 ∨ i = 6 ∨ i = 7 ∨ i = 8 ∨ i = 9 ∨ i = 10 ∨ i = 11 ∨ i = 12 by omega) with rfl | rfl | rfl | rfl | rfl | rfl | rfl | rfl | rfl | rfl | rfl | rfl | rfl
      · refine wpOp_now rfl rfl (fun K HK => oper_load 29 (.tmp 2) rfl _ 0 q2 (ocs C) _ hx.range Try.underlying29 rfl infoO ?_)
        exact HK.out _ _ (h.val hP ⟨0, 42, ov C⟩ (by simp) (Below.refl _ _))
      · refine wpOp_now rfl rfl (fun K HK => oper_load 23 (.tmp 3) rfl _ 0 q3 (lcs l) _ hl.range Try.underlying23 rfl infoL ?_)
        exact HK.out _ _ (h.val hP ⟨1, 43, ldv l⟩ (by simp) (Below.refl _ _))
      · have p0 := h.vals ⟨0, 42, ov C⟩ (by simp) (edge_of ha rfl 0 (by kernel_rfl))
        have p1 := h.vals ⟨1, 43, ldv l⟩ (by simp) (edge_of ha rfl 1 (by kernel_rfl))
        clear hx hl q2 q3 hi13 hi
        refine wpOp_now rfl rfl (fun K HK => ?_)
        have HH := Lib.hid h
        have HP := Lib.hid hP
        clear h hP hn ha
        unfold ov ldv at *
        simp only [Array.getD_eq_getD_getElem?] at p0 p1
        go_simp
        refine (HRS.out _).mono ?_
        rintro ee w' ⟨rfl, hz⟩
        exact HK.out _ _ (HH.out.val HP.out ⟨2, 44, tv S 0 e⟩ (by simp) hz)
      · refine wpOp_now rfl rfl (fun K HK => oper_load 29 (.tmp 2) rfl _ 0 q2 (ocs C) _ hx.range Try.underlying29 rfl infoO ?_)
        exact HK.out _ _ (h.val hP ⟨3, 45, ov C⟩ (by simp) (Below.refl _ _))
      · have p3 := h.vals ⟨3, 45, ov C⟩ (by simp) (edge_of ha rfl 3 (by kernel_rfl))
        clear hx hl q2 q3 hi13 hi
        refine wpOp_now rfl rfl (fun K HK => ?_)
        have HH := Lib.hid h
        have HP := Lib.hid hP
        clear h hP hn ha
        unfold ov at *
        simp only [Array.getD_eq_getD_getElem?] at p3
        go_simp
        refine (HRC.out _).mono ?_
        rintro ee w' ⟨rfl, hz⟩
        exact HK.out _ _ (HH.out.val HP.out ⟨4, 46, tv M m f⟩ (by simp) hz)
      · refine wpOp_now rfl rfl (fun K HK => oper_load 29 (.tmp 2) rfl _ 0 q2 (ocs C) _ hx.range Try.underlying29 rfl infoO ?_)
        exact HK.out _ _ (h.val hP ⟨5, 47, ov C⟩ (by simp) (Below.refl _ _))
      · have p5 := h.vals ⟨5, 47, ov C⟩ (by simp) (edge_of ha rfl 5 (by kernel_rfl))
        clear hx hl q2 q3 hi13 hi
        refine wpOp_now rfl rfl (fun K HK => ?_)
        have HH := Lib.hid h
        have HP := Lib.hid hP
        clear h hP hn ha
        unfold ov at *
        simp only [Array.getD_eq_getD_getElem?] at p5
        go_simp
        refine (HRE.out _).mono ?_
        rintro ee w' ⟨rfl, hz⟩
        exact HK.out _ _ (HH.out.val HP.out ⟨6, 48, tv E 0 d⟩ (by simp) hz)
      · clear hx hl q2 q3 hi13 hi
        refine wpOp_now rfl rfl (fun K HK => ?_)
        have HH := Lib.hid (h.made hP ⟨7, 12, 10, tcs noO 0 0, (tcs S 0 e)⟩ (by simp) hn 35)
        clear h hP hn ha
        go_simp
        exact HK.out _ _ HH.out
      · clear hx hl q2 q3 hi13 hi
        refine wpOp_now rfl rfl (fun K HK => ?_)
        have HH := Lib.hid (h.made hP ⟨8, 13, 11, tcs noO 0 0, (tcs M m f)⟩ (by simp) hn 35)
        clear h hP hn ha
        go_simp
        exact HK.out _ _ HH.out
      · clear hx hl q2 q3 hi13 hi
        refine wpOp_now rfl rfl (fun K HK => ?_)
        have HH := Lib.hid (h.made hP ⟨9, 14, 12, tcs noO 0 0, (tcs E 0 d)⟩ (by simp) hn 35)
        clear h hP hn ha
        go_simp
        exact HK.out _ _ HH.out
      · have la := edge_of ha rfl 7 (by kernel_rfl)
        obtain ⟨g, hg, hgn, hbx⟩ := h.blks ⟨7, 12, 10, tcs noO 0 0, (tcs S 0 e)⟩ (by simp) la
        rw [if_neg (not_listed hn)] at hbx
        have hv := h.vals ⟨2, 44, (tv S 0 e)⟩ (by simp) (edge_of ha rfl 2 (by kernel_rfl))
        refine wpOp_now rfl rfl (fun K HK => oper_store 35 (.tmp 12) (.tmp 44) rfl g 0 hg (tcs S 0 e) (by rw [show a.eval (.tmp 44) = (tv S 0 e) from hv]; rfl) hbx (show 0 + 23 ≤ 23 from by decide) infoT (tcs_one _ _ _) (tcs S 0 e) (over_all rfl) (fun w' hy ht => ?_))
        exact HK.out _ _ (h.write hP ⟨7, 12, 10, tcs noO 0 0, (tcs S 0 e)⟩ (by simp) la hg hy ht)
      · have la := edge_of ha rfl 8 (by kernel_rfl)
        obtain ⟨g, hg, hgn, hbx⟩ := h.blks ⟨8, 13, 11, tcs noO 0 0, (tcs M m f)⟩ (by simp) la
        rw [if_neg (not_listed hn)] at hbx
        have hv := h.vals ⟨4, 46, (tv M m f)⟩ (by simp) (edge_of ha rfl 4 (by kernel_rfl))
        refine wpOp_now rfl rfl (fun K HK => oper_store 35 (.tmp 13) (.tmp 46) rfl g 0 hg (tcs M m f) (by rw [show a.eval (.tmp 46) = (tv M m f) from hv]; rfl) hbx (show 0 + 23 ≤ 23 from by decide) infoT (tcs_one _ _ _) (tcs M m f) (over_all rfl) (fun w' hy ht => ?_))
        exact HK.out _ _ (h.write hP ⟨8, 13, 11, tcs noO 0 0, (tcs M m f)⟩ (by simp) la hg hy ht)
      · have la := edge_of ha rfl 9 (by kernel_rfl)
        obtain ⟨g, hg, hgn, hbx⟩ := h.blks ⟨9, 14, 12, tcs noO 0 0, (tcs E 0 d)⟩ (by simp) la
        rw [if_neg (not_listed hn)] at hbx
        have hv := h.vals ⟨6, 48, (tv E 0 d)⟩ (by simp) (edge_of ha rfl 6 (by kernel_rfl))
        refine wpOp_now rfl rfl (fun K HK => oper_store 35 (.tmp 14) (.tmp 48) rfl g 0 hg (tcs E 0 d) (by rw [show a.eval (.tmp 48) = (tv E 0 d) from hv]; rfl) hbx (show 0 + 23 ≤ 23 from by decide) infoT (tcs_one _ _ _) (tcs E 0 d) (over_all rfl) (fun w' hy ht => ?_))
        exact HK.out _ _ (h.write hP ⟨9, 14, 12, tcs noO 0 0, (tcs E 0 d)⟩ (by simp) la hg hy ht)
    · intro L a wx h hall
      have ea := h.fr.all
      rw [HA0.out] at ea
      have v42 := h.vals ⟨0, 42, ov C⟩ (by simp) (hall 0 (show 0 < 13 by decide))
      have v43 := h.vals ⟨1, 43, ldv l⟩ (by simp) (hall 1 (show 1 < 13 by decide))
      have v44 := h.vals ⟨2, 44, tv S 0 e⟩ (by simp) (hall 2 (show 2 < 13 by decide))
      have v45 := h.vals ⟨3, 45, ov C⟩ (by simp) (hall 3 (show 3 < 13 by decide))
      have v46 := h.vals ⟨4, 46, tv M m f⟩ (by simp) (hall 4 (show 4 < 13 by decide))
      have v47 := h.vals ⟨5, 47, ov C⟩ (by simp) (hall 5 (show 5 < 13 by decide))
      have v48 := h.vals ⟨6, 48, tv E 0 d⟩ (by simp) (hall 6 (show 6 < 13 by decide))
      obtain ⟨g1, v12, _, b1⟩ := h.blks ⟨7, 12, 10, tcs noO 0 0, (tcs S 0 e)⟩ (by simp) (hall 7 (show 7 < 13 by decide))
      rw [if_pos (hall 10 (show 10 < 13 by decide))] at b1
      obtain ⟨g2, v13, _, b2⟩ := h.blks ⟨8, 13, 11, tcs noO 0 0, (tcs M m f)⟩ (by simp) (hall 8 (show 8 < 13 by decide))
      rw [if_pos (hall 11 (show 11 < 13 by decide))] at b2
      obtain ⟨g3, v14, _, b3⟩ := h.blks ⟨9, 14, 12, tcs noO 0 0, (tcs E 0 d)⟩ (by simp) (hall 9 (show 9 < 13 by decide))
      rw [if_pos (hall 12 (show 12 < 13 by decide))] at b3
      have hbe := h.bel
      rw [ea]
      simp only [sets, v42, v43, v44, v45, v46, v47, v48, v12, v13, v14, List.setIfInBounds_toArray, List.set_cons_zero, List.set_cons_succ]
      clear ea h hall v42 v43 v44 v45 v46 v47 v48 v12 v13 v14 hP e2 e3 hz HA0
      clear a a0
      go_wp2_with fail
      go_meet
      exact ⟨g1, g2, g3, rfl, rfl, rfl, b1, b2, b3, hbe⟩
  case rest =>
  obtain ⟨g1, g2, g3, rfl, rfl, rfl, b1, b2, b3, hbe⟩ := hcut
  rename World => w6
  have H1 := Lib.hid b1
  have H2 := Lib.hid b2
  have H3 := Lib.hid b3
  replace HA := Lib.hid (HA.out.below hbe)
  replace HM := Lib.hid (HM.out.below hbe)
  replace HE := Lib.hid (HE.out.below hbe)
  replace HB := Lib.hid (below_trans HB.out hbe)
  clear b1 b2 b3 hbe HX HL HRS HRC HRE
  have hq1 := fun W => eql_order S S W
  have hq2 := fun W => eql_order M M W
  have hq3 := fun W => eql_order E E W
  unfold ov at hq1 hq2 hq3
  simp only [decide_true] at hq1 hq2 hq3
  go_wp2_with (first | (go_at_call 11; (with_reducible refine (HAL.out _).mono ?_); rintro e w' ⟨rfl, hz⟩; replace HB := Lib.hid (below_trans HB.out hz); replace HA := Lib.hid (HA.out.below hz); replace HM := Lib.hid (HM.out.below hz); replace HE := Lib.hid (HE.out.below hz); replace H1 := Lib.hid (H1.out.below hz); replace H2 := Lib.hid (H2.out.below hz); replace H3 := Lib.hid (H3.out.below hz); clear hz; have y1 := (show _ = some (Value.int .i64 e) from H1.out.at 22 rfl); have y2 := (show _ = some (Value.int .i64 f) from H2.out.at 22 rfl); have y3 := (show _ = some (Value.int .i64 m) from H2.out.at 21 rfl); have y4 := (show _ = some (Value.int .i64 d) from H3.out.at 22 rfl)) | (refine load_at 29 _ rfl _ 0 21 rfl HA.out [.int .i64 S.id, .string S.k, .int .i64 S.cl, .int .i64 S.sq, .int .i64 S.n, .int .i64 S.d, .int .i64 S.p, .int .i64 S.c, .bool S.sp, .int .i64 S.ph, .string S.l.k, .int .i64 S.l.u, .int .i64 S.l.c, .int .i64 S.l.y, .int .i64 S.py.a, .int .i64 S.py.c, .int .i64 S.py.u, .int .i64 S.py.s, .int .i64 S.ak.s, .int .i64 S.ak.u, .bool S.en] rfl _ Try.underlying29 rfl infoO rfl ?_) | (refine load_at 29 _ rfl _ 0 21 rfl H1.out [.int .i64 S.id, .string S.k, .int .i64 S.cl, .int .i64 S.sq, .int .i64 S.n, .int .i64 S.d, .int .i64 S.p, .int .i64 S.c, .bool S.sp, .int .i64 S.ph, .string S.l.k, .int .i64 S.l.u, .int .i64 S.l.c, .int .i64 S.l.y, .int .i64 S.py.a, .int .i64 S.py.c, .int .i64 S.py.u, .int .i64 S.py.s, .int .i64 S.ak.s, .int .i64 S.ak.u, .bool S.en] rfl _ Try.underlying29 rfl infoO rfl ?_) | (refine load_at 29 _ rfl _ 0 21 rfl HM.out [.int .i64 M.id, .string M.k, .int .i64 M.cl, .int .i64 M.sq, .int .i64 M.n, .int .i64 M.d, .int .i64 M.p, .int .i64 M.c, .bool M.sp, .int .i64 M.ph, .string M.l.k, .int .i64 M.l.u, .int .i64 M.l.c, .int .i64 M.l.y, .int .i64 M.py.a, .int .i64 M.py.c, .int .i64 M.py.u, .int .i64 M.py.s, .int .i64 M.ak.s, .int .i64 M.ak.u, .bool M.en] rfl _ Try.underlying29 rfl infoO rfl ?_) | (refine load_at 29 _ rfl _ 0 21 rfl H2.out [.int .i64 M.id, .string M.k, .int .i64 M.cl, .int .i64 M.sq, .int .i64 M.n, .int .i64 M.d, .int .i64 M.p, .int .i64 M.c, .bool M.sp, .int .i64 M.ph, .string M.l.k, .int .i64 M.l.u, .int .i64 M.l.c, .int .i64 M.l.y, .int .i64 M.py.a, .int .i64 M.py.c, .int .i64 M.py.u, .int .i64 M.py.s, .int .i64 M.ak.s, .int .i64 M.ak.u, .bool M.en] rfl _ Try.underlying29 rfl infoO rfl ?_) | (refine load_at 29 _ rfl _ 0 21 rfl HE.out [.int .i64 E.id, .string E.k, .int .i64 E.cl, .int .i64 E.sq, .int .i64 E.n, .int .i64 E.d, .int .i64 E.p, .int .i64 E.c, .bool E.sp, .int .i64 E.ph, .string E.l.k, .int .i64 E.l.u, .int .i64 E.l.c, .int .i64 E.l.y, .int .i64 E.py.a, .int .i64 E.py.c, .int .i64 E.py.u, .int .i64 E.py.s, .int .i64 E.ak.s, .int .i64 E.ak.u, .bool E.en] rfl _ Try.underlying29 rfl infoO rfl ?_) | (refine load_at 29 _ rfl _ 0 21 rfl H3.out [.int .i64 E.id, .string E.k, .int .i64 E.cl, .int .i64 E.sq, .int .i64 E.n, .int .i64 E.d, .int .i64 E.p, .int .i64 E.c, .bool E.sp, .int .i64 E.ph, .string E.l.k, .int .i64 E.l.u, .int .i64 E.l.c, .int .i64 E.l.y, .int .i64 E.py.a, .int .i64 E.py.c, .int .i64 E.py.u, .int .i64 E.py.s, .int .i64 E.ak.s, .int .i64 E.ak.u, .bool E.en] rfl _ Try.underlying29 rfl infoO rfl ?_))
  go_ret
  exact ⟨rfl, HB.out⟩
set_option maxRecDepth 100000 in
set_option maxHeartbeats 4000000 in
theorem lifted (os : Os) (started : os.Started) (H : Type) (enc : TypeId × Value → H) :
    ReturnsInHanded {} Try.checked os 4 .any (Rows.orderGoesSpec.pre6 enc Try.prog Try.f4 Rows.orderGoesRow.domain false) (Rows.orderGoesSpec.post enc Try.prog Try.f4 false true false false) := by
  refine returnsInHanded_of_change (C := Try.checked) own started (by kernel_rfl) Try.func4
    (ChangeSpec.witness6 (enc := enc) (C := Try.checked) false ⟨#[], #[.agg #[.int .i64 0, .string ByteArray.empty, .int .i64 0, .int .i64 0, .int .i64 0, .int .i64 0, .int .i64 0, .int .i64 0, .bool false, .int .i64 0, .string ByteArray.empty, .int .i64 0, .int .i64 0, .int .i64 0, .int .i64 0, .int .i64 0, .int .i64 0, .int .i64 0, .int .i64 0, .int .i64 0, .bool false], .agg #[.string ByteArray.empty, .int .i64 0, .int .i64 0, .int .i64 0]], []⟩ 8 (by kernel_rfl) (by kernel_rfl) (by kernel_rfl) (by kernel_rfl)) ?_
  intro W base args ds gs before hval0 hW hcnd _
  have hval : ∀ (j : Nat) t v, Try.f4.params[j]? = some t → args[j]? = some v → Value.okWide Try.prog W .any base t v := hval0
  have hW' := hW
  obtain ⟨p, q, hA0, hV, rfl, hfz, hnd⟩ := hW
  have hA : DataW.TrodAll enc Try.prog W 0 (fun _ => true) true Try.f4.params.toList args.toList ds p := hA0
  rw [Try.params4] at hA hval
  obtain ⟨v0, vs0, d0, ds0, p0, q0, hargs, rfl, rfl, h0, r0⟩ := trodAll_cons hA
  obtain ⟨v1, vs1, d1, ds1, p1, q1, rfl, rfl, rfl, h1, r1⟩ := trodAll_cons r0
  obtain ⟨rfl, rfl, rfl⟩ := trodAll_nil r1
  obtain rfl : args = #[v0, v1] := by cases args; simp_all
  obtain ⟨rfl, rfl⟩ := trodVars_none hV
  have k0 := h0
  have lt0 : ∀ x ∈ p0, x.block < W.heap.size := by obtain ⟨m, hm⟩ := k0; exact DataW.trod_lt m _ _ _ hm
  obtain ⟨fuel0, hf0⟩ := h0
  obtain ⟨x0, rfl, s0, t0⟩ := open_order (hval 0 29 v0 rfl rfl) hf0
  have k1 := h1
  have lt1 : ∀ x ∈ p1, x.block < W.heap.size := by obtain ⟨m, hm⟩ := k1; exact DataW.trod_lt m _ _ _ hm
  obtain ⟨fuel1, hf1⟩ := h1
  obtain ⟨x1, rfl, s1⟩ := open_load (hval 1 23 v1 rfl rfl) hf1
  clear hA0 hval0
  refine (walk0 x0 s0 t0 x1 s1 W ).mono fun e W' ⟨he, bel⟩ => ?_
  subst he
  exact ⟨_, rfl, _, _, _, [], _, [], hW', trodAll_mk1 (shut_bool Try.underlying4 _), (trodAll_cons_mk (Below.trod laidOut (by kernel_rfl) (of_decide_eq_true (by kernel_rfl)) k0 bel lt0) (trodAll_cons_mk (Below.trod laidOut (by kernel_rfl) (of_decide_eq_true (by kernel_rfl)) k1 bel lt1) trodAll_mk0)), rfl, bel.frame _, fun h => by cases h⟩

theorem over : Rows.orderGoesRow.holds Try.pinned (OpenSpec.ofChange Rows.orderGoesSpec) :=
  OpenClaim.holds_of_wide 4 Try.f4 rfl rfl rfl rfl rfl rfl rfl ⟨rfl, rfl, rfl, rfl, rfl⟩ rfl rfl rfl rfl rfl (by kernel_rfl) Try.func4 (by kernel_rfl)
    (of_decide_eq_true (by kernel_rfl)) (by unfold Func.isWrapper; first | (rw [if_pos (by decide +kernel)]; kernel_rfl) | (rw [if_neg (by decide +kernel)]; exact ⟨rfl, rfl⟩))
    (fun os started H enc _ => lifted os started H enc)

theorem proved : Rows.OrderGoesSaid := over
#print axioms proved
end Go.Proofs.Ytjmmijobdcepmaa.orderGoes
