/-
  Proved: for any order, time until which its money is promised, number that is free and time the law OrderComes returns true: which orders may be, how any one comes, what it lacks, whether it is open, and how many it would take of what is free, is as the reference says, or refused. No condition.
-/
import Derived.Test.YtjmmijobdcepmaaRows
import Derived.Test.YtjmmijobdcepmaaOCut
import Derived.Test.YtjmmijobdcepmaaOHand
import Derived.Deep.CutRange
import Derived.Deep.CutBlock
namespace Go.Proofs.Ytjmmijobdcepmaa.orderComes
open Go.ChangeShapes Go.WideShapes Go.ChangeAt Go.RowKit Go.Lib Go.Proofs.Ytjmmijobdcepmaa.Order
set_option linter.unusedVariables false

theorem own : ownKnob Try.prog.godebug = none := by kernel_rfl
theorem laidOut : laidOutB Try.prog = true := by kernel_rfl
/-- What one lacks that may be. -/
theorem lacks {o : Od} (h : rightB o = true) : lack o = o.n - o.d ∧ IntKind.i64.wrap (o.n - o.d) = o.n - o.d ∧ openB o = decide (o.ph < 3) := by
  obtain ⟨h1, h2, h3⟩ := lack_bd (rightB_t.1 h)
  exact ⟨h1, IntWalk.i64_in _ (by omega), by unfold openB; rw [h]; rfl⟩
theorem lacks_no {o : Od} (h : rightB o = false) : lack o = 0 ∧ openB o = false := by
  unfold lack openB
  rw [h]
  exact ⟨if_neg (by decide), rfl⟩

set_option maxRecDepth 100000 in
set_option maxHeartbeats 16000000 in
theorem walk0 (o : Od) (_x1 : o.k.size ≤ 9223372036854775807) (_x2 : o.l.k.size ≤ 9223372036854775807) (u : Int) (_u1 : -9223372036854775808 ≤ u) (_u2 : u ≤ 9223372036854775807) (f : Int) (_f1 : -9223372036854775808 ≤ f) (_f2 : f ≤ 9223372036854775807) (n : Int) (_n1 : -9223372036854775808 ≤ n) (_n2 : n ≤ 9223372036854775807) (w : World) :
    Calls Try.prog 3 #[ov o, .int .i64 u, .int .i64 f, .int .i64 n] w (BoolB true w) := by
  have hx := order_box w o 29
  have hb := al w (.cells (ocs o).toArray 29)
  obtain ⟨W1, hW1⟩ : ∃ W, w.alloc (.cells #[.int .i64 o.id, .string o.k, .int .i64 o.cl, .int .i64 o.sq, .int .i64 o.n, .int .i64 o.d, .int .i64 o.p, .int .i64 o.c, .bool o.sp, .int .i64 o.ph, .string o.l.k, .int .i64 o.l.u, .int .i64 o.l.c, .int .i64 o.l.y, .int .i64 o.py.a, .int .i64 o.py.c, .int .i64 o.py.u, .int .i64 o.py.s, .int .i64 o.ak.s, .int .i64 o.ak.u, .bool o.en] 29) = W := ⟨_, rfl⟩
  have HX : Hid (Box w.heap.size (ocs o) W1) := Lib.hid (hW1 ▸ hx)
  have HB : Hid (Below w.heap.size w W1) := Lib.hid (hW1 ▸ hb)
  clear hx hb
  obtain ⟨C, hC⟩ : ∃ C, cutO o = C := ⟨_, rfl⟩
  have hf : Fits C := hC ▸ cutO_fits o
  have HCU : Hid (∀ w, Calls Try.prog 7 #[ov o] w (OrdV C w)) := Lib.hid (fun w => hC ▸ cut_any o _x1 _x2 w)
  have HNW := Lib.hid (fun w => New_any C u hf w)
  have HRN := Lib.hid (fun w => refNew_any C u hf w)
  have HRI := Lib.hid (fun w => Right_any C hf w)
  have HRR := Lib.hid (fun w => refRight_any C hf w)
  have HLA := Lib.hid (fun w => Lack_any C hf w)
  have HOP := Lib.hid (fun w => Open_any C hf w)
  have HWA := Lib.hid (fun w => Wants_any C f n hf w)
  have HRW := Lib.hid (fun w => refWants_any C f n hf w)
  have HAL := Lib.hid alive_any
  have HY := Lib.hid (lacks (o := C))
  have HZ := Lib.hid (lacks_no (o := C))
  clear hC hf
  generalize newO C u = N at *
  generalize newE C u = z at *
  generalize wants C f n = y at *
  generalize lack C = l at *
  generalize openB C = p at *
  generalize rightB C = r at *
  unfold ov at *
  go_enter Try.func3, Try.ntmps3
  go_upto_region 1 with (fail)
  clear hW1
  go_upto_region 2 with (first | (go_at_call 7; (with_reducible refine (HCU.out _).mono ?_); rintro e w' ⟨rfl, hz⟩; replace HB := Lib.hid (below_trans HB.out hz); replace HX := Lib.hid (HX.out.below hz); clear hz) | (refine load_at 29 _ rfl _ 0 21 rfl HX.out [.int .i64 o.id, .string o.k, .int .i64 o.cl, .int .i64 o.sq, .int .i64 o.n, .int .i64 o.d, .int .i64 o.p, .int .i64 o.c, .bool o.sp, .int .i64 o.ph, .string o.l.k, .int .i64 o.l.u, .int .i64 o.l.c, .int .i64 o.l.y, .int .i64 o.py.a, .int .i64 o.py.c, .int .i64 o.py.u, .int .i64 o.py.s, .int .i64 o.ak.s, .int .i64 o.ak.u, .bool o.en] rfl _ Try.underlying29 rfl infoO rfl ?_) | (refine store_at 29 _ _ rfl _ 0 rfl (ocs C) rfl HX.out (show 0 + 21 ≤ 21 from by decide) infoO (ocs_one _) (ocs C) (over_all rfl) rfl (fun w' hy ht => ?_); replace HB := Lib.hid (ht.2 _ _ (Nat.le_refl _) HB.out); replace HX := Lib.hid hy; clear hy ht))
  clear HCU
  go_upto_region 3 with (first | (go_at_call 8; (with_reducible refine (HNW.out _).mono ?_); rintro e w' ⟨rfl, hz⟩; replace HB := Lib.hid (below_trans HB.out hz); replace HX := Lib.hid (HX.out.below hz); clear hz; have HGE := Lib.hid HB.out.size; obtain ⟨gn, hg⟩ : ∃ gn, w'.heap.size = gn := ⟨_, rfl⟩; rw [hg] at HGE; have HGG := Lib.hid hg; clear hg) | (refine load_at 29 _ rfl _ 0 21 rfl HX.out [.int .i64 C.id, .string C.k, .int .i64 C.cl, .int .i64 C.sq, .int .i64 C.n, .int .i64 C.d, .int .i64 C.p, .int .i64 C.c, .bool C.sp, .int .i64 C.ph, .string C.l.k, .int .i64 C.l.u, .int .i64 C.l.c, .int .i64 C.l.y, .int .i64 C.py.a, .int .i64 C.py.c, .int .i64 C.py.u, .int .i64 C.py.s, .int .i64 C.ak.s, .int .i64 C.ak.u, .bool C.en] rfl _ Try.underlying29 rfl infoO rfl ?_) | (refine store_at 29 _ _ rfl _ 0 rfl (ocs N) rfl (Box.made _ (ocs noO) _) (show 0 + 21 ≤ 21 from by decide) infoO (ocs_one _) (ocs N) (over_all rfl) rfl (fun w' hy ht => ?_); have HN := Lib.hid hy; replace HX := Lib.hid (ht.1 _ _ (Nat.ne_of_lt HX.out.1) (HX.out.below (al _ _))); replace HB := Lib.hid (ht.2 _ _ HB.out.size (below_trans HB.out (al _ _))); clear hy ht; rw [HGG.out] at HN))
  rename World => w1
  rw [HGG.out]
  clear HGG HNW
  go_upto_region 4 with (first | (go_at_call 9; (with_reducible refine (HRN.out _).mono ?_); rintro e w' ⟨rfl, hz⟩; replace HB := Lib.hid (below_trans HB.out hz); replace HX := Lib.hid (HX.out.below hz); replace HN := Lib.hid (HN.out.below hz); clear hz; have HGT := Lib.hid HB.out.size; obtain ⟨gt, hg⟩ : ∃ gt, w'.heap.size = gt := ⟨_, rfl⟩; rw [hg] at HGT; have HGG := Lib.hid hg; clear hg) | (refine load_at 29 _ rfl _ 0 21 rfl HX.out [.int .i64 C.id, .string C.k, .int .i64 C.cl, .int .i64 C.sq, .int .i64 C.n, .int .i64 C.d, .int .i64 C.p, .int .i64 C.c, .bool C.sp, .int .i64 C.ph, .string C.l.k, .int .i64 C.l.u, .int .i64 C.l.c, .int .i64 C.l.y, .int .i64 C.py.a, .int .i64 C.py.c, .int .i64 C.py.u, .int .i64 C.py.s, .int .i64 C.ak.s, .int .i64 C.ak.u, .bool C.en] rfl _ Try.underlying29 rfl infoO rfl ?_) | (refine store_at 35 _ _ rfl _ 0 rfl (tcs N 0 z) rfl (Box.made _ (tcs noO 0 0) _) (show 0 + 23 ≤ 23 from by decide) infoT (tcs_one _ _ _) (tcs N 0 z) (over_all rfl) rfl (fun w' hy ht => ?_); have HT := Lib.hid hy; replace HX := Lib.hid (ht.1 _ _ (Nat.ne_of_lt HX.out.1) (HX.out.below (al _ _))); replace HN := Lib.hid (ht.1 _ _ (Nat.ne_of_lt HN.out.1) (HN.out.below (al _ _))); replace HB := Lib.hid (ht.2 _ _ HB.out.size (below_trans HB.out (al _ _))); clear hy ht; rw [HGG.out] at HT))
  rename World => w2
  rw [HGG.out]
  clear HGG HRN HGE HGT
  go_upto_region 5 with (first | (go_at_call 10; (with_reducible refine (HRR.out _).mono ?_); rintro e w' ⟨rfl, hz⟩; replace HB := Lib.hid (below_trans HB.out hz); replace HX := Lib.hid (HX.out.below hz); replace HN := Lib.hid (HN.out.below hz); replace HT := Lib.hid (HT.out.below hz); clear hz) | (refine load_at 29 _ rfl _ 0 21 rfl HX.out [.int .i64 C.id, .string C.k, .int .i64 C.cl, .int .i64 C.sq, .int .i64 C.n, .int .i64 C.d, .int .i64 C.p, .int .i64 C.c, .bool C.sp, .int .i64 C.ph, .string C.l.k, .int .i64 C.l.u, .int .i64 C.l.c, .int .i64 C.l.y, .int .i64 C.py.a, .int .i64 C.py.c, .int .i64 C.py.u, .int .i64 C.py.s, .int .i64 C.ak.s, .int .i64 C.ak.u, .bool C.en] rfl _ Try.underlying29 rfl infoO rfl ?_))
  rename World => w3
  clear HRR
  cases r with
  | true =>
    obtain ⟨rfl, hwr, rfl⟩ := HY.out rfl
    clear HY HZ
    have y4 := (show _ = some (Value.int .i64 C.n) from HX.out.at 4 rfl)
    have y5 := (show _ = some (Value.int .i64 C.d) from HX.out.at 5 rfl)
    go_upto_region 8 with (fail)
    clear hwr y4 y5
    rename World => w4
    refine wp_region_noPanic ?_
    refine wp_region_held_drew (S := fun W' => Below w4.heap.size w4 W') (by kernel_rfl) (dr w4) (fun hHeld => ?_)
    try simp only [Act.put, List.setIfInBounds_toArray, List.set_cons_zero, List.set_cons_succ]
    refine wpAnyH_ready (rs := [0]) (by kernel_rfl) (by simp) (AllReadyH.cons rfl (fun K hK => ?_) AllReadyH.nil)
    go_simp
    (with_reducible refine (HAL.out _).mono ?_)
    rintro e V1 ⟨rfl, hz⟩
    have hh := below_trans hHeld hz
    clear hz
    go_simp
    refine hK.out _ _ hh (fun hHeld => ?_)
    clear hK hh
    try simp only [Act.put, List.setIfInBounds_toArray, List.set_cons_zero, List.set_cons_succ]
    refine takeH 1 34 (.bool true) calm_np rfl rfl (by kernel_rfl) (by kernel_rfl) (by kernel_rfl) (by rfl) (fun W' hSw => by go_simp) hHeld ?_
    try simp only [Act.put, List.setIfInBounds_toArray, List.set_cons_zero, List.set_cons_succ]
    refine takeH 2 35 (.agg #[.int .i64 C.id, .string C.k, .int .i64 C.cl, .int .i64 C.sq, .int .i64 C.n, .int .i64 C.d, .int .i64 C.p, .int .i64 C.c, .bool C.sp, .int .i64 C.ph, .string C.l.k, .int .i64 C.l.u, .int .i64 C.l.c, .int .i64 C.l.y, .int .i64 C.py.a, .int .i64 C.py.c, .int .i64 C.py.u, .int .i64 C.py.s, .int .i64 C.ak.s, .int .i64 C.ak.u, .bool C.en]) calm_np rfl rfl (by kernel_rfl) (by kernel_rfl) (by kernel_rfl) (by rfl) (fun W' hSw => exec_load 29 _ rfl (w.heap.size) 0 rfl (ocs C) _ (HX.out.below hSw).range Try.underlying29 rfl infoO) hHeld ?_
    try simp only [Act.put, List.setIfInBounds_toArray, List.set_cons_zero, List.set_cons_succ]
    refine takeH 4 37 (.bool true) calm_np rfl rfl (by kernel_rfl) (by kernel_rfl) (by kernel_rfl) (by rfl) (fun W' hSw => by go_simp) hHeld ?_
    try simp only [Act.put, List.setIfInBounds_toArray, List.set_cons_zero, List.set_cons_succ]
    refine wpAnyH_ready (rs := [3]) (by kernel_rfl) (by simp) (AllReadyH.cons rfl (fun K hK => ?_) AllReadyH.nil)
    go_simp
    (with_reducible refine (HRI.out _).mono ?_)
    rintro e V2 ⟨rfl, hz⟩
    have hh := below_trans hHeld hz
    clear hz
    go_simp
    refine hK.out _ _ hh (fun hHeld => ?_)
    clear hK hh
    try simp only [Act.put, List.setIfInBounds_toArray, List.set_cons_zero, List.set_cons_succ]
    refine takeH 5 38 (.bool true) calm_np rfl rfl (by kernel_rfl) (by kernel_rfl) (by kernel_rfl) (by rfl) (fun W' hSw => by go_simp) hHeld ?_
    try simp only [Act.put, List.setIfInBounds_toArray, List.set_cons_zero, List.set_cons_succ]
    refine takeH 6 39 (.bool true) calm_np rfl rfl (by kernel_rfl) (by kernel_rfl) (by kernel_rfl) (by rfl) (fun W' hSw => by go_simp) hHeld ?_
    try simp only [Act.put, List.setIfInBounds_toArray, List.set_cons_zero, List.set_cons_succ]
    refine takeH 7 40 (.bool true) calm_np rfl rfl (by kernel_rfl) (by kernel_rfl) (by kernel_rfl) (by rfl) (fun W' hSw => by go_simp) hHeld ?_
    try simp only [Act.put, List.setIfInBounds_toArray, List.set_cons_zero, List.set_cons_succ]
    refine takeH 8 41 (.int .i64 z) calm_np rfl rfl (by kernel_rfl) (by kernel_rfl) (by kernel_rfl) (by rfl) (fun W' hSw => by go_simp) hHeld ?_
    try simp only [Act.put, List.setIfInBounds_toArray, List.set_cons_zero, List.set_cons_succ]
    refine takeH 9 42 (.pointer (some ⟨gt, 22, none⟩)) calm_np rfl rfl (by kernel_rfl) (by kernel_rfl) (by kernel_rfl) (by rfl) (fun W' hSw => by go_simp) hHeld ?_
    try simp only [Act.put, List.setIfInBounds_toArray, List.set_cons_zero, List.set_cons_succ]
    refine takeH 10 43 (.int .i64 z) calm_np rfl rfl (by kernel_rfl) (by kernel_rfl) (by kernel_rfl) (by rfl) (fun W' hSw => by have g0 := (show _ = some (Value.int .i64 z) from (HT.out.below hSw).at 22 rfl); have hsz := (HT.out.below hSw).1; go_simp) hHeld ?_
    try simp only [Act.put, List.setIfInBounds_toArray, List.set_cons_zero, List.set_cons_succ]
    refine takeH 11 44 (.bool true) calm_np rfl rfl (by kernel_rfl) (by kernel_rfl) (by kernel_rfl) (by rfl) (fun W' hSw => by go_simp) hHeld ?_
    try simp only [Act.put, List.setIfInBounds_toArray, List.set_cons_zero, List.set_cons_succ]
    refine takeH 12 45 (.bool true) calm_np rfl rfl (by kernel_rfl) (by kernel_rfl) (by kernel_rfl) (by rfl) (fun W' hSw => by go_simp) hHeld ?_
    try simp only [Act.put, List.setIfInBounds_toArray, List.set_cons_zero, List.set_cons_succ]
    refine takeH 13 46 (.bool true) calm_np rfl rfl (by kernel_rfl) (by kernel_rfl) (by kernel_rfl) (by rfl) (fun W' hSw => by go_simp) hHeld ?_
    try simp only [Act.put, List.setIfInBounds_toArray, List.set_cons_zero, List.set_cons_succ]
    refine takeH 14 47 (.agg #[.int .i64 N.id, .string N.k, .int .i64 N.cl, .int .i64 N.sq, .int .i64 N.n, .int .i64 N.d, .int .i64 N.p, .int .i64 N.c, .bool N.sp, .int .i64 N.ph, .string N.l.k, .int .i64 N.l.u, .int .i64 N.l.c, .int .i64 N.l.y, .int .i64 N.py.a, .int .i64 N.py.c, .int .i64 N.py.u, .int .i64 N.py.s, .int .i64 N.ak.s, .int .i64 N.ak.u, .bool N.en]) calm_np rfl rfl (by kernel_rfl) (by kernel_rfl) (by kernel_rfl) (by rfl) (fun W' hSw => exec_load 29 _ rfl (gn) 0 rfl (ocs N) _ (HN.out.below hSw).range Try.underlying29 rfl infoO) hHeld ?_
    try simp only [Act.put, List.setIfInBounds_toArray, List.set_cons_zero, List.set_cons_succ]
    refine takeH 15 48 (.pointer (some ⟨gt, 0, none⟩)) calm_np rfl rfl (by kernel_rfl) (by kernel_rfl) (by kernel_rfl) (by rfl) (fun W' hSw => by go_simp) hHeld ?_
    try simp only [Act.put, List.setIfInBounds_toArray, List.set_cons_zero, List.set_cons_succ]
    refine takeH 16 49 (.agg #[.int .i64 N.id, .string N.k, .int .i64 N.cl, .int .i64 N.sq, .int .i64 N.n, .int .i64 N.d, .int .i64 N.p, .int .i64 N.c, .bool N.sp, .int .i64 N.ph, .string N.l.k, .int .i64 N.l.u, .int .i64 N.l.c, .int .i64 N.l.y, .int .i64 N.py.a, .int .i64 N.py.c, .int .i64 N.py.u, .int .i64 N.py.s, .int .i64 N.ak.s, .int .i64 N.ak.u, .bool N.en]) calm_np rfl rfl (by kernel_rfl) (by kernel_rfl) (by kernel_rfl) (by rfl) (fun W' hSw => exec_load 29 _ rfl (gt) 0 rfl (ocs N) _ (Box.part (n := 21) (HT.out.below hSw) rfl) Try.underlying29 rfl infoO) hHeld ?_
    try simp only [Act.put, List.setIfInBounds_toArray, List.set_cons_zero, List.set_cons_succ]
    refine takeH 17 50 (.bool true) calm_np rfl rfl (by kernel_rfl) (by kernel_rfl) (by kernel_rfl) (by rfl) (fun W' hSw => by have hq := fun W => eql_order N N W; unfold ov at hq; simp only [decide_true] at hq; go_simp) hHeld ?_
    try simp only [Act.put, List.setIfInBounds_toArray, List.set_cons_zero, List.set_cons_succ]
    refine takeH 18 51 (.bool true) calm_np rfl rfl (by kernel_rfl) (by kernel_rfl) (by kernel_rfl) (by rfl) (fun W' hSw => by go_simp) hHeld ?_
    try simp only [Act.put, List.setIfInBounds_toArray, List.set_cons_zero, List.set_cons_succ]
    refine takeH 19 52 (.bool true) calm_np rfl rfl (by kernel_rfl) (by kernel_rfl) (by kernel_rfl) (by rfl) (fun W' hSw => by go_simp) hHeld ?_
    try simp only [Act.put, List.setIfInBounds_toArray, List.set_cons_zero, List.set_cons_succ]
    refine takeH 20 53 (.agg #[.int .i64 C.id, .string C.k, .int .i64 C.cl, .int .i64 C.sq, .int .i64 C.n, .int .i64 C.d, .int .i64 C.p, .int .i64 C.c, .bool C.sp, .int .i64 C.ph, .string C.l.k, .int .i64 C.l.u, .int .i64 C.l.c, .int .i64 C.l.y, .int .i64 C.py.a, .int .i64 C.py.c, .int .i64 C.py.u, .int .i64 C.py.s, .int .i64 C.ak.s, .int .i64 C.ak.u, .bool C.en]) calm_np rfl rfl (by kernel_rfl) (by kernel_rfl) (by kernel_rfl) (by rfl) (fun W' hSw => exec_load 29 _ rfl (w.heap.size) 0 rfl (ocs C) _ (HX.out.below hSw).range Try.underlying29 rfl infoO) hHeld ?_
    try simp only [Act.put, List.setIfInBounds_toArray, List.set_cons_zero, List.set_cons_succ]
    refine takeH 22 55 (.int .i64 (C.n - C.d)) calm_np rfl rfl (by kernel_rfl) (by kernel_rfl) (by kernel_rfl) (by rfl) (fun W' hSw => by go_simp) hHeld ?_
    try simp only [Act.put, List.setIfInBounds_toArray, List.set_cons_zero, List.set_cons_succ]
    refine wpAnyH_ready (rs := [21]) (by kernel_rfl) (by simp) (AllReadyH.cons rfl (fun K hK => ?_) AllReadyH.nil)
    go_simp
    (with_reducible refine (HLA.out _).mono ?_)
    rintro e V3 ⟨rfl, hz⟩
    have hh := below_trans hHeld hz
    clear hz
    go_simp
    refine hK.out _ _ hh (fun hHeld => ?_)
    clear hK hh
    try simp only [Act.put, List.setIfInBounds_toArray, List.set_cons_zero, List.set_cons_succ]
    refine takeH 23 56 (.bool true) calm_np rfl rfl (by kernel_rfl) (by kernel_rfl) (by kernel_rfl) (by rfl) (fun W' hSw => by go_simp) hHeld ?_
    try simp only [Act.put, List.setIfInBounds_toArray, List.set_cons_zero, List.set_cons_succ]
    refine takeH 24 57 (.bool true) calm_np rfl rfl (by kernel_rfl) (by kernel_rfl) (by kernel_rfl) (by rfl) (fun W' hSw => by go_simp) hHeld ?_
    try simp only [Act.put, List.setIfInBounds_toArray, List.set_cons_zero, List.set_cons_succ]
    refine takeH 25 58 (.bool true) calm_np rfl rfl (by kernel_rfl) (by kernel_rfl) (by kernel_rfl) (by rfl) (fun W' hSw => by go_simp) hHeld ?_
    try simp only [Act.put, List.setIfInBounds_toArray, List.set_cons_zero, List.set_cons_succ]
    refine takeH 26 59 (.agg #[.int .i64 C.id, .string C.k, .int .i64 C.cl, .int .i64 C.sq, .int .i64 C.n, .int .i64 C.d, .int .i64 C.p, .int .i64 C.c, .bool C.sp, .int .i64 C.ph, .string C.l.k, .int .i64 C.l.u, .int .i64 C.l.c, .int .i64 C.l.y, .int .i64 C.py.a, .int .i64 C.py.c, .int .i64 C.py.u, .int .i64 C.py.s, .int .i64 C.ak.s, .int .i64 C.ak.u, .bool C.en]) calm_np rfl rfl (by kernel_rfl) (by kernel_rfl) (by kernel_rfl) (by rfl) (fun W' hSw => exec_load 29 _ rfl (w.heap.size) 0 rfl (ocs C) _ (HX.out.below hSw).range Try.underlying29 rfl infoO) hHeld ?_
    try simp only [Act.put, List.setIfInBounds_toArray, List.set_cons_zero, List.set_cons_succ]
    refine takeH 28 61 (.bool true) calm_np rfl rfl (by kernel_rfl) (by kernel_rfl) (by kernel_rfl) (by rfl) (fun W' hSw => by go_simp) hHeld ?_
    try simp only [Act.put, List.setIfInBounds_toArray, List.set_cons_zero, List.set_cons_succ]
    refine wpAnyH_ready (rs := [27]) (by kernel_rfl) (by simp) (AllReadyH.cons rfl (fun K hK => ?_) AllReadyH.nil)
    go_simp
    (with_reducible refine (HOP.out _).mono ?_)
    rintro e V4 ⟨rfl, hz⟩
    have hh := below_trans hHeld hz
    clear hz
    go_simp
    refine hK.out _ _ hh (fun hHeld => ?_)
    clear hK hh
    try simp only [Act.put, List.setIfInBounds_toArray, List.set_cons_zero, List.set_cons_succ]
    refine takeH 29 62 (.bool true) calm_np rfl rfl (by kernel_rfl) (by kernel_rfl) (by kernel_rfl) (by rfl) (fun W' hSw => by go_simp) hHeld ?_
    try simp only [Act.put, List.setIfInBounds_toArray, List.set_cons_zero, List.set_cons_succ]
    refine takeH 30 63 (.pointer (some ⟨w.heap.size, 9, none⟩)) calm_np rfl rfl (by kernel_rfl) (by kernel_rfl) (by kernel_rfl) (by rfl) (fun W' hSw => by go_simp) hHeld ?_
    try simp only [Act.put, List.setIfInBounds_toArray, List.set_cons_zero, List.set_cons_succ]
    refine takeH 31 64 (.int .i64 C.ph) calm_np rfl rfl (by kernel_rfl) (by kernel_rfl) (by kernel_rfl) (by rfl) (fun W' hSw => by have g0 := (show _ = some (Value.int .i64 C.ph) from (HX.out.below hSw).at 9 rfl); have hsz := (HX.out.below hSw).1; go_simp) hHeld ?_
    try simp only [Act.put, List.setIfInBounds_toArray, List.set_cons_zero, List.set_cons_succ]
    refine takeH 32 65 (.bool (decide (C.ph < 3))) calm_np rfl rfl (by kernel_rfl) (by kernel_rfl) (by kernel_rfl) (by rfl) (fun W' hSw => by go_simp) hHeld ?_
    try simp only [Act.put, List.setIfInBounds_toArray, List.set_cons_zero, List.set_cons_succ]
    refine takeH 33 66 (.bool (decide (C.ph < 3))) calm_np rfl rfl (by kernel_rfl) (by kernel_rfl) (by kernel_rfl) (by rfl) (fun W' hSw => by go_simp) hHeld ?_
    try simp only [Act.put, List.setIfInBounds_toArray, List.set_cons_zero, List.set_cons_succ]
    refine takeH 34 67 (.bool true) calm_np rfl rfl (by kernel_rfl) (by kernel_rfl) (by kernel_rfl) (by rfl) (fun W' hSw => by go_simp) hHeld ?_
    try simp only [Act.put, List.setIfInBounds_toArray, List.set_cons_zero, List.set_cons_succ]
    refine takeH 35 68 (.bool true) calm_np rfl rfl (by kernel_rfl) (by kernel_rfl) (by kernel_rfl) (by rfl) (fun W' hSw => by go_simp) hHeld ?_
    try simp only [Act.put, List.setIfInBounds_toArray, List.set_cons_zero, List.set_cons_succ]
    refine takeH 36 69 (.bool true) calm_np rfl rfl (by kernel_rfl) (by kernel_rfl) (by kernel_rfl) (by rfl) (fun W' hSw => by go_simp) hHeld ?_
    try simp only [Act.put, List.setIfInBounds_toArray, List.set_cons_zero, List.set_cons_succ]
    refine takeH 37 70 (.agg #[.int .i64 C.id, .string C.k, .int .i64 C.cl, .int .i64 C.sq, .int .i64 C.n, .int .i64 C.d, .int .i64 C.p, .int .i64 C.c, .bool C.sp, .int .i64 C.ph, .string C.l.k, .int .i64 C.l.u, .int .i64 C.l.c, .int .i64 C.l.y, .int .i64 C.py.a, .int .i64 C.py.c, .int .i64 C.py.u, .int .i64 C.py.s, .int .i64 C.ak.s, .int .i64 C.ak.u, .bool C.en]) calm_np rfl rfl (by kernel_rfl) (by kernel_rfl) (by kernel_rfl) (by rfl) (fun W' hSw => exec_load 29 _ rfl (w.heap.size) 0 rfl (ocs C) _ (HX.out.below hSw).range Try.underlying29 rfl infoO) hHeld ?_
    try simp only [Act.put, List.setIfInBounds_toArray, List.set_cons_zero, List.set_cons_succ]
    refine takeH 38 71 (.int .i64 f) calm_np rfl rfl (by kernel_rfl) (by kernel_rfl) (by kernel_rfl) (by rfl) (fun W' hSw => by go_simp) hHeld ?_
    try simp only [Act.put, List.setIfInBounds_toArray, List.set_cons_zero, List.set_cons_succ]
    refine takeH 39 72 (.int .i64 n) calm_np rfl rfl (by kernel_rfl) (by kernel_rfl) (by kernel_rfl) (by rfl) (fun W' hSw => by go_simp) hHeld ?_
    try simp only [Act.put, List.setIfInBounds_toArray, List.set_cons_zero, List.set_cons_succ]
    refine takeH 41 74 (.agg #[.int .i64 C.id, .string C.k, .int .i64 C.cl, .int .i64 C.sq, .int .i64 C.n, .int .i64 C.d, .int .i64 C.p, .int .i64 C.c, .bool C.sp, .int .i64 C.ph, .string C.l.k, .int .i64 C.l.u, .int .i64 C.l.c, .int .i64 C.l.y, .int .i64 C.py.a, .int .i64 C.py.c, .int .i64 C.py.u, .int .i64 C.py.s, .int .i64 C.ak.s, .int .i64 C.ak.u, .bool C.en]) calm_np rfl rfl (by kernel_rfl) (by kernel_rfl) (by kernel_rfl) (by rfl) (fun W' hSw => exec_load 29 _ rfl (w.heap.size) 0 rfl (ocs C) _ (HX.out.below hSw).range Try.underlying29 rfl infoO) hHeld ?_
    try simp only [Act.put, List.setIfInBounds_toArray, List.set_cons_zero, List.set_cons_succ]
    refine takeH 42 75 (.int .i64 f) calm_np rfl rfl (by kernel_rfl) (by kernel_rfl) (by kernel_rfl) (by rfl) (fun W' hSw => by go_simp) hHeld ?_
    try simp only [Act.put, List.setIfInBounds_toArray, List.set_cons_zero, List.set_cons_succ]
    refine takeH 43 76 (.int .i64 n) calm_np rfl rfl (by kernel_rfl) (by kernel_rfl) (by kernel_rfl) (by rfl) (fun W' hSw => by go_simp) hHeld ?_
    try simp only [Act.put, List.setIfInBounds_toArray, List.set_cons_zero, List.set_cons_succ]
    refine wpAnyH_ready (rs := [40]) (by kernel_rfl) (by simp) (AllReadyH.cons rfl (fun K hK => ?_) AllReadyH.nil)
    go_simp
    (with_reducible refine (HWA.out _).mono ?_)
    rintro e V5 ⟨rfl, hz⟩
    have hh := below_trans hHeld hz
    clear hz
    go_simp
    refine hK.out _ _ hh (fun hHeld => ?_)
    clear hK hh
    try simp only [Act.put, List.setIfInBounds_toArray, List.set_cons_zero, List.set_cons_succ]
    refine wpAnyH_ready (rs := [44]) (by kernel_rfl) (by simp) (AllReadyH.cons rfl (fun K hK => ?_) AllReadyH.nil)
    go_simp
    (with_reducible refine (HRW.out _).mono ?_)
    rintro e V6 ⟨rfl, hz⟩
    have hh := below_trans hHeld hz
    clear hz
    go_simp
    refine hK.out _ _ hh (fun hHeld => ?_)
    clear hK hh
    try simp only [Act.put, List.setIfInBounds_toArray, List.set_cons_zero, List.set_cons_succ]
    refine takeH 45 78 (.bool true) calm_np rfl rfl (by kernel_rfl) (by kernel_rfl) (by kernel_rfl) (by rfl) (fun W' hSw => by go_simp) hHeld ?_
    try simp only [Act.put, List.setIfInBounds_toArray, List.set_cons_zero, List.set_cons_succ]
    refine takeH 46 79 (.bool true) calm_np rfl rfl (by kernel_rfl) (by kernel_rfl) (by kernel_rfl) (by rfl) (fun W' hSw => by go_simp) hHeld ?_
    try simp only [Act.put, List.setIfInBounds_toArray, List.set_cons_zero, List.set_cons_succ]
    refine takeH 47 8 (.bool true) calm_np rfl rfl (by kernel_rfl) (by kernel_rfl) (by kernel_rfl) (by rfl) (fun W' hSw => by go_simp) hHeld ?_
    try simp only [Act.put, List.setIfInBounds_toArray, List.set_cons_zero, List.set_cons_succ]
    refine wpAnyH_done (by kernel_rfl) ?_ _
    refine NoPanic.normal ?_
    have HH := Lib.hid hHeld
    clear hHeld
    go_wp2_with fail
    go_ret
    exact ⟨rfl, below_trans HB.out HH.out⟩
  | false =>
    obtain ⟨rfl, rfl⟩ := HZ.out rfl
    clear HY HZ
    go_upto_region 8 with (fail)
    rename World => w4
    refine wp_region_noPanic ?_
    refine wp_region_held_drew (S := fun W' => Below w4.heap.size w4 W') (by kernel_rfl) (dr w4) (fun hHeld => ?_)
    try simp only [Act.put, List.setIfInBounds_toArray, List.set_cons_zero, List.set_cons_succ]
    refine wpAnyH_ready (rs := [0]) (by kernel_rfl) (by simp) (AllReadyH.cons rfl (fun K hK => ?_) AllReadyH.nil)
    go_simp
    (with_reducible refine (HAL.out _).mono ?_)
    rintro e V1 ⟨rfl, hz⟩
    have hh := below_trans hHeld hz
    clear hz
    go_simp
    refine hK.out _ _ hh (fun hHeld => ?_)
    clear hK hh
    try simp only [Act.put, List.setIfInBounds_toArray, List.set_cons_zero, List.set_cons_succ]
    refine takeH 1 34 (.bool true) calm_np rfl rfl (by kernel_rfl) (by kernel_rfl) (by kernel_rfl) (by rfl) (fun W' hSw => by go_simp) hHeld ?_
    try simp only [Act.put, List.setIfInBounds_toArray, List.set_cons_zero, List.set_cons_succ]
    refine takeH 2 35 (.agg #[.int .i64 C.id, .string C.k, .int .i64 C.cl, .int .i64 C.sq, .int .i64 C.n, .int .i64 C.d, .int .i64 C.p, .int .i64 C.c, .bool C.sp, .int .i64 C.ph, .string C.l.k, .int .i64 C.l.u, .int .i64 C.l.c, .int .i64 C.l.y, .int .i64 C.py.a, .int .i64 C.py.c, .int .i64 C.py.u, .int .i64 C.py.s, .int .i64 C.ak.s, .int .i64 C.ak.u, .bool C.en]) calm_np rfl rfl (by kernel_rfl) (by kernel_rfl) (by kernel_rfl) (by rfl) (fun W' hSw => exec_load 29 _ rfl (w.heap.size) 0 rfl (ocs C) _ (HX.out.below hSw).range Try.underlying29 rfl infoO) hHeld ?_
    try simp only [Act.put, List.setIfInBounds_toArray, List.set_cons_zero, List.set_cons_succ]
    refine takeH 4 37 (.bool false) calm_np rfl rfl (by kernel_rfl) (by kernel_rfl) (by kernel_rfl) (by rfl) (fun W' hSw => by go_simp) hHeld ?_
    try simp only [Act.put, List.setIfInBounds_toArray, List.set_cons_zero, List.set_cons_succ]
    refine wpAnyH_ready (rs := [3]) (by kernel_rfl) (by simp) (AllReadyH.cons rfl (fun K hK => ?_) AllReadyH.nil)
    go_simp
    (with_reducible refine (HRI.out _).mono ?_)
    rintro e V2 ⟨rfl, hz⟩
    have hh := below_trans hHeld hz
    clear hz
    go_simp
    refine hK.out _ _ hh (fun hHeld => ?_)
    clear hK hh
    try simp only [Act.put, List.setIfInBounds_toArray, List.set_cons_zero, List.set_cons_succ]
    refine takeH 5 38 (.bool true) calm_np rfl rfl (by kernel_rfl) (by kernel_rfl) (by kernel_rfl) (by rfl) (fun W' hSw => by go_simp) hHeld ?_
    try simp only [Act.put, List.setIfInBounds_toArray, List.set_cons_zero, List.set_cons_succ]
    refine takeH 6 39 (.bool true) calm_np rfl rfl (by kernel_rfl) (by kernel_rfl) (by kernel_rfl) (by rfl) (fun W' hSw => by go_simp) hHeld ?_
    try simp only [Act.put, List.setIfInBounds_toArray, List.set_cons_zero, List.set_cons_succ]
    refine takeH 7 40 (.bool true) calm_np rfl rfl (by kernel_rfl) (by kernel_rfl) (by kernel_rfl) (by rfl) (fun W' hSw => by go_simp) hHeld ?_
    try simp only [Act.put, List.setIfInBounds_toArray, List.set_cons_zero, List.set_cons_succ]
    refine takeH 8 41 (.int .i64 z) calm_np rfl rfl (by kernel_rfl) (by kernel_rfl) (by kernel_rfl) (by rfl) (fun W' hSw => by go_simp) hHeld ?_
    try simp only [Act.put, List.setIfInBounds_toArray, List.set_cons_zero, List.set_cons_succ]
    refine takeH 9 42 (.pointer (some ⟨gt, 22, none⟩)) calm_np rfl rfl (by kernel_rfl) (by kernel_rfl) (by kernel_rfl) (by rfl) (fun W' hSw => by go_simp) hHeld ?_
    try simp only [Act.put, List.setIfInBounds_toArray, List.set_cons_zero, List.set_cons_succ]
    refine takeH 10 43 (.int .i64 z) calm_np rfl rfl (by kernel_rfl) (by kernel_rfl) (by kernel_rfl) (by rfl) (fun W' hSw => by have g0 := (show _ = some (Value.int .i64 z) from (HT.out.below hSw).at 22 rfl); have hsz := (HT.out.below hSw).1; go_simp) hHeld ?_
    try simp only [Act.put, List.setIfInBounds_toArray, List.set_cons_zero, List.set_cons_succ]
    refine takeH 11 44 (.bool true) calm_np rfl rfl (by kernel_rfl) (by kernel_rfl) (by kernel_rfl) (by rfl) (fun W' hSw => by go_simp) hHeld ?_
    try simp only [Act.put, List.setIfInBounds_toArray, List.set_cons_zero, List.set_cons_succ]
    refine takeH 12 45 (.bool true) calm_np rfl rfl (by kernel_rfl) (by kernel_rfl) (by kernel_rfl) (by rfl) (fun W' hSw => by go_simp) hHeld ?_
    try simp only [Act.put, List.setIfInBounds_toArray, List.set_cons_zero, List.set_cons_succ]
    refine takeH 13 46 (.bool true) calm_np rfl rfl (by kernel_rfl) (by kernel_rfl) (by kernel_rfl) (by rfl) (fun W' hSw => by go_simp) hHeld ?_
    try simp only [Act.put, List.setIfInBounds_toArray, List.set_cons_zero, List.set_cons_succ]
    refine takeH 14 47 (.agg #[.int .i64 N.id, .string N.k, .int .i64 N.cl, .int .i64 N.sq, .int .i64 N.n, .int .i64 N.d, .int .i64 N.p, .int .i64 N.c, .bool N.sp, .int .i64 N.ph, .string N.l.k, .int .i64 N.l.u, .int .i64 N.l.c, .int .i64 N.l.y, .int .i64 N.py.a, .int .i64 N.py.c, .int .i64 N.py.u, .int .i64 N.py.s, .int .i64 N.ak.s, .int .i64 N.ak.u, .bool N.en]) calm_np rfl rfl (by kernel_rfl) (by kernel_rfl) (by kernel_rfl) (by rfl) (fun W' hSw => exec_load 29 _ rfl (gn) 0 rfl (ocs N) _ (HN.out.below hSw).range Try.underlying29 rfl infoO) hHeld ?_
    try simp only [Act.put, List.setIfInBounds_toArray, List.set_cons_zero, List.set_cons_succ]
    refine takeH 15 48 (.pointer (some ⟨gt, 0, none⟩)) calm_np rfl rfl (by kernel_rfl) (by kernel_rfl) (by kernel_rfl) (by rfl) (fun W' hSw => by go_simp) hHeld ?_
    try simp only [Act.put, List.setIfInBounds_toArray, List.set_cons_zero, List.set_cons_succ]
    refine takeH 16 49 (.agg #[.int .i64 N.id, .string N.k, .int .i64 N.cl, .int .i64 N.sq, .int .i64 N.n, .int .i64 N.d, .int .i64 N.p, .int .i64 N.c, .bool N.sp, .int .i64 N.ph, .string N.l.k, .int .i64 N.l.u, .int .i64 N.l.c, .int .i64 N.l.y, .int .i64 N.py.a, .int .i64 N.py.c, .int .i64 N.py.u, .int .i64 N.py.s, .int .i64 N.ak.s, .int .i64 N.ak.u, .bool N.en]) calm_np rfl rfl (by kernel_rfl) (by kernel_rfl) (by kernel_rfl) (by rfl) (fun W' hSw => exec_load 29 _ rfl (gt) 0 rfl (ocs N) _ (Box.part (n := 21) (HT.out.below hSw) rfl) Try.underlying29 rfl infoO) hHeld ?_
    try simp only [Act.put, List.setIfInBounds_toArray, List.set_cons_zero, List.set_cons_succ]
    refine takeH 17 50 (.bool true) calm_np rfl rfl (by kernel_rfl) (by kernel_rfl) (by kernel_rfl) (by rfl) (fun W' hSw => by have hq := fun W => eql_order N N W; unfold ov at hq; simp only [decide_true] at hq; go_simp) hHeld ?_
    try simp only [Act.put, List.setIfInBounds_toArray, List.set_cons_zero, List.set_cons_succ]
    refine takeH 18 51 (.bool true) calm_np rfl rfl (by kernel_rfl) (by kernel_rfl) (by kernel_rfl) (by rfl) (fun W' hSw => by go_simp) hHeld ?_
    try simp only [Act.put, List.setIfInBounds_toArray, List.set_cons_zero, List.set_cons_succ]
    refine takeH 19 52 (.bool true) calm_np rfl rfl (by kernel_rfl) (by kernel_rfl) (by kernel_rfl) (by rfl) (fun W' hSw => by go_simp) hHeld ?_
    try simp only [Act.put, List.setIfInBounds_toArray, List.set_cons_zero, List.set_cons_succ]
    refine takeH 20 53 (.agg #[.int .i64 C.id, .string C.k, .int .i64 C.cl, .int .i64 C.sq, .int .i64 C.n, .int .i64 C.d, .int .i64 C.p, .int .i64 C.c, .bool C.sp, .int .i64 C.ph, .string C.l.k, .int .i64 C.l.u, .int .i64 C.l.c, .int .i64 C.l.y, .int .i64 C.py.a, .int .i64 C.py.c, .int .i64 C.py.u, .int .i64 C.py.s, .int .i64 C.ak.s, .int .i64 C.ak.u, .bool C.en]) calm_np rfl rfl (by kernel_rfl) (by kernel_rfl) (by kernel_rfl) (by rfl) (fun W' hSw => exec_load 29 _ rfl (w.heap.size) 0 rfl (ocs C) _ (HX.out.below hSw).range Try.underlying29 rfl infoO) hHeld ?_
    try simp only [Act.put, List.setIfInBounds_toArray, List.set_cons_zero, List.set_cons_succ]
    refine takeH 22 55 (.int .i64 0) calm_np rfl rfl (by kernel_rfl) (by kernel_rfl) (by kernel_rfl) (by rfl) (fun W' hSw => by go_simp) hHeld ?_
    try simp only [Act.put, List.setIfInBounds_toArray, List.set_cons_zero, List.set_cons_succ]
    refine wpAnyH_ready (rs := [21]) (by kernel_rfl) (by simp) (AllReadyH.cons rfl (fun K hK => ?_) AllReadyH.nil)
    go_simp
    (with_reducible refine (HLA.out _).mono ?_)
    rintro e V3 ⟨rfl, hz⟩
    have hh := below_trans hHeld hz
    clear hz
    go_simp
    refine hK.out _ _ hh (fun hHeld => ?_)
    clear hK hh
    try simp only [Act.put, List.setIfInBounds_toArray, List.set_cons_zero, List.set_cons_succ]
    refine takeH 23 56 (.bool true) calm_np rfl rfl (by kernel_rfl) (by kernel_rfl) (by kernel_rfl) (by rfl) (fun W' hSw => by go_simp) hHeld ?_
    try simp only [Act.put, List.setIfInBounds_toArray, List.set_cons_zero, List.set_cons_succ]
    refine takeH 24 57 (.bool true) calm_np rfl rfl (by kernel_rfl) (by kernel_rfl) (by kernel_rfl) (by rfl) (fun W' hSw => by go_simp) hHeld ?_
    try simp only [Act.put, List.setIfInBounds_toArray, List.set_cons_zero, List.set_cons_succ]
    refine takeH 25 58 (.bool true) calm_np rfl rfl (by kernel_rfl) (by kernel_rfl) (by kernel_rfl) (by rfl) (fun W' hSw => by go_simp) hHeld ?_
    try simp only [Act.put, List.setIfInBounds_toArray, List.set_cons_zero, List.set_cons_succ]
    refine takeH 26 59 (.agg #[.int .i64 C.id, .string C.k, .int .i64 C.cl, .int .i64 C.sq, .int .i64 C.n, .int .i64 C.d, .int .i64 C.p, .int .i64 C.c, .bool C.sp, .int .i64 C.ph, .string C.l.k, .int .i64 C.l.u, .int .i64 C.l.c, .int .i64 C.l.y, .int .i64 C.py.a, .int .i64 C.py.c, .int .i64 C.py.u, .int .i64 C.py.s, .int .i64 C.ak.s, .int .i64 C.ak.u, .bool C.en]) calm_np rfl rfl (by kernel_rfl) (by kernel_rfl) (by kernel_rfl) (by rfl) (fun W' hSw => exec_load 29 _ rfl (w.heap.size) 0 rfl (ocs C) _ (HX.out.below hSw).range Try.underlying29 rfl infoO) hHeld ?_
    try simp only [Act.put, List.setIfInBounds_toArray, List.set_cons_zero, List.set_cons_succ]
    refine takeH 28 61 (.bool false) calm_np rfl rfl (by kernel_rfl) (by kernel_rfl) (by kernel_rfl) (by rfl) (fun W' hSw => by go_simp) hHeld ?_
    try simp only [Act.put, List.setIfInBounds_toArray, List.set_cons_zero, List.set_cons_succ]
    refine wpAnyH_ready (rs := [27]) (by kernel_rfl) (by simp) (AllReadyH.cons rfl (fun K hK => ?_) AllReadyH.nil)
    go_simp
    (with_reducible refine (HOP.out _).mono ?_)
    rintro e V4 ⟨rfl, hz⟩
    have hh := below_trans hHeld hz
    clear hz
    go_simp
    refine hK.out _ _ hh (fun hHeld => ?_)
    clear hK hh
    try simp only [Act.put, List.setIfInBounds_toArray, List.set_cons_zero, List.set_cons_succ]
    refine takeH 29 62 (.bool false) calm_np rfl rfl (by kernel_rfl) (by kernel_rfl) (by kernel_rfl) (by rfl) (fun W' hSw => by go_simp) hHeld ?_
    try simp only [Act.put, List.setIfInBounds_toArray, List.set_cons_zero, List.set_cons_succ]
    refine skipH 30 63 calm_np rfl rfl (by kernel_rfl) (by kernel_rfl) (by kernel_rfl) (by rfl) hHeld ?_
    try simp only [Act.put, List.setIfInBounds_toArray, List.set_cons_zero, List.set_cons_succ]
    refine skipH 31 64 calm_np rfl rfl (by kernel_rfl) (by kernel_rfl) (by kernel_rfl) (by rfl) hHeld ?_
    try simp only [Act.put, List.setIfInBounds_toArray, List.set_cons_zero, List.set_cons_succ]
    refine skipH 32 65 calm_np rfl rfl (by kernel_rfl) (by kernel_rfl) (by kernel_rfl) (by rfl) hHeld ?_
    try simp only [Act.put, List.setIfInBounds_toArray, List.set_cons_zero, List.set_cons_succ]
    refine takeH 33 66 (.bool false) calm_np rfl rfl (by kernel_rfl) (by kernel_rfl) (by kernel_rfl) (by rfl) (fun W' hSw => by go_simp) hHeld ?_
    try simp only [Act.put, List.setIfInBounds_toArray, List.set_cons_zero, List.set_cons_succ]
    refine takeH 34 67 (.bool true) calm_np rfl rfl (by kernel_rfl) (by kernel_rfl) (by kernel_rfl) (by rfl) (fun W' hSw => by go_simp) hHeld ?_
    try simp only [Act.put, List.setIfInBounds_toArray, List.set_cons_zero, List.set_cons_succ]
    refine takeH 35 68 (.bool true) calm_np rfl rfl (by kernel_rfl) (by kernel_rfl) (by kernel_rfl) (by rfl) (fun W' hSw => by go_simp) hHeld ?_
    try simp only [Act.put, List.setIfInBounds_toArray, List.set_cons_zero, List.set_cons_succ]
    refine takeH 36 69 (.bool true) calm_np rfl rfl (by kernel_rfl) (by kernel_rfl) (by kernel_rfl) (by rfl) (fun W' hSw => by go_simp) hHeld ?_
    try simp only [Act.put, List.setIfInBounds_toArray, List.set_cons_zero, List.set_cons_succ]
    refine takeH 37 70 (.agg #[.int .i64 C.id, .string C.k, .int .i64 C.cl, .int .i64 C.sq, .int .i64 C.n, .int .i64 C.d, .int .i64 C.p, .int .i64 C.c, .bool C.sp, .int .i64 C.ph, .string C.l.k, .int .i64 C.l.u, .int .i64 C.l.c, .int .i64 C.l.y, .int .i64 C.py.a, .int .i64 C.py.c, .int .i64 C.py.u, .int .i64 C.py.s, .int .i64 C.ak.s, .int .i64 C.ak.u, .bool C.en]) calm_np rfl rfl (by kernel_rfl) (by kernel_rfl) (by kernel_rfl) (by rfl) (fun W' hSw => exec_load 29 _ rfl (w.heap.size) 0 rfl (ocs C) _ (HX.out.below hSw).range Try.underlying29 rfl infoO) hHeld ?_
    try simp only [Act.put, List.setIfInBounds_toArray, List.set_cons_zero, List.set_cons_succ]
    refine takeH 38 71 (.int .i64 f) calm_np rfl rfl (by kernel_rfl) (by kernel_rfl) (by kernel_rfl) (by rfl) (fun W' hSw => by go_simp) hHeld ?_
    try simp only [Act.put, List.setIfInBounds_toArray, List.set_cons_zero, List.set_cons_succ]
    refine takeH 39 72 (.int .i64 n) calm_np rfl rfl (by kernel_rfl) (by kernel_rfl) (by kernel_rfl) (by rfl) (fun W' hSw => by go_simp) hHeld ?_
    try simp only [Act.put, List.setIfInBounds_toArray, List.set_cons_zero, List.set_cons_succ]
    refine takeH 41 74 (.agg #[.int .i64 C.id, .string C.k, .int .i64 C.cl, .int .i64 C.sq, .int .i64 C.n, .int .i64 C.d, .int .i64 C.p, .int .i64 C.c, .bool C.sp, .int .i64 C.ph, .string C.l.k, .int .i64 C.l.u, .int .i64 C.l.c, .int .i64 C.l.y, .int .i64 C.py.a, .int .i64 C.py.c, .int .i64 C.py.u, .int .i64 C.py.s, .int .i64 C.ak.s, .int .i64 C.ak.u, .bool C.en]) calm_np rfl rfl (by kernel_rfl) (by kernel_rfl) (by kernel_rfl) (by rfl) (fun W' hSw => exec_load 29 _ rfl (w.heap.size) 0 rfl (ocs C) _ (HX.out.below hSw).range Try.underlying29 rfl infoO) hHeld ?_
    try simp only [Act.put, List.setIfInBounds_toArray, List.set_cons_zero, List.set_cons_succ]
    refine takeH 42 75 (.int .i64 f) calm_np rfl rfl (by kernel_rfl) (by kernel_rfl) (by kernel_rfl) (by rfl) (fun W' hSw => by go_simp) hHeld ?_
    try simp only [Act.put, List.setIfInBounds_toArray, List.set_cons_zero, List.set_cons_succ]
    refine takeH 43 76 (.int .i64 n) calm_np rfl rfl (by kernel_rfl) (by kernel_rfl) (by kernel_rfl) (by rfl) (fun W' hSw => by go_simp) hHeld ?_
    try simp only [Act.put, List.setIfInBounds_toArray, List.set_cons_zero, List.set_cons_succ]
    refine wpAnyH_ready (rs := [40]) (by kernel_rfl) (by simp) (AllReadyH.cons rfl (fun K hK => ?_) AllReadyH.nil)
    go_simp
    (with_reducible refine (HWA.out _).mono ?_)
    rintro e V5 ⟨rfl, hz⟩
    have hh := below_trans hHeld hz
    clear hz
    go_simp
    refine hK.out _ _ hh (fun hHeld => ?_)
    clear hK hh
    try simp only [Act.put, List.setIfInBounds_toArray, List.set_cons_zero, List.set_cons_succ]
    refine wpAnyH_ready (rs := [44]) (by kernel_rfl) (by simp) (AllReadyH.cons rfl (fun K hK => ?_) AllReadyH.nil)
    go_simp
    (with_reducible refine (HRW.out _).mono ?_)
    rintro e V6 ⟨rfl, hz⟩
    have hh := below_trans hHeld hz
    clear hz
    go_simp
    refine hK.out _ _ hh (fun hHeld => ?_)
    clear hK hh
    try simp only [Act.put, List.setIfInBounds_toArray, List.set_cons_zero, List.set_cons_succ]
    refine takeH 45 78 (.bool true) calm_np rfl rfl (by kernel_rfl) (by kernel_rfl) (by kernel_rfl) (by rfl) (fun W' hSw => by go_simp) hHeld ?_
    try simp only [Act.put, List.setIfInBounds_toArray, List.set_cons_zero, List.set_cons_succ]
    refine takeH 46 79 (.bool true) calm_np rfl rfl (by kernel_rfl) (by kernel_rfl) (by kernel_rfl) (by rfl) (fun W' hSw => by go_simp) hHeld ?_
    try simp only [Act.put, List.setIfInBounds_toArray, List.set_cons_zero, List.set_cons_succ]
    refine takeH 47 8 (.bool true) calm_np rfl rfl (by kernel_rfl) (by kernel_rfl) (by kernel_rfl) (by rfl) (fun W' hSw => by go_simp) hHeld ?_
    try simp only [Act.put, List.setIfInBounds_toArray, List.set_cons_zero, List.set_cons_succ]
    refine wpAnyH_done (by kernel_rfl) ?_ _
    refine NoPanic.normal ?_
    have HH := Lib.hid hHeld
    clear hHeld
    go_wp2_with fail
    go_ret
    exact ⟨rfl, below_trans HB.out HH.out⟩
set_option maxRecDepth 100000 in
set_option maxHeartbeats 4000000 in
theorem lifted (os : Os) (started : os.Started) (H : Type) (enc : TypeId × Value → H) :
    ReturnsInHanded {} Try.checked os 3 .any (Rows.orderComesSpec.pre6 enc Try.prog Try.f3 Rows.orderComesRow.domain false) (Rows.orderComesSpec.post enc Try.prog Try.f3 false true false false) := by
  refine returnsInHanded_of_change (C := Try.checked) own started (by kernel_rfl) Try.func3
    (ChangeSpec.witness6 (enc := enc) (C := Try.checked) false ⟨#[], #[.agg #[.int .i64 0, .string ByteArray.empty, .int .i64 0, .int .i64 0, .int .i64 0, .int .i64 0, .int .i64 0, .int .i64 0, .bool false, .int .i64 0, .string ByteArray.empty, .int .i64 0, .int .i64 0, .int .i64 0, .int .i64 0, .int .i64 0, .int .i64 0, .int .i64 0, .int .i64 0, .int .i64 0, .bool false], .int .i64 0, .int .i64 0, .int .i64 0], []⟩ 8 (by kernel_rfl) (by kernel_rfl) (by kernel_rfl) (by kernel_rfl)) ?_
  intro W base args ds gs before hval0 hW hcnd _
  have hval : ∀ (j : Nat) t v, Try.f3.params[j]? = some t → args[j]? = some v → Value.okWide Try.prog W .any base t v := hval0
  have hW' := hW
  obtain ⟨p, q, hA0, hV, rfl, hfz, hnd⟩ := hW
  have hA : DataW.TrodAll enc Try.prog W 0 (fun _ => true) true Try.f3.params.toList args.toList ds p := hA0
  rw [Try.params3] at hA hval
  obtain ⟨v0, vs0, d0, ds0, p0, q0, hargs, rfl, rfl, h0, r0⟩ := trodAll_cons hA
  obtain ⟨v1, vs1, d1, ds1, p1, q1, rfl, rfl, rfl, h1, r1⟩ := trodAll_cons r0
  obtain ⟨v2, vs2, d2, ds2, p2, q2, rfl, rfl, rfl, h2, r2⟩ := trodAll_cons r1
  obtain ⟨v3, vs3, d3, ds3, p3, q3, rfl, rfl, rfl, h3, r3⟩ := trodAll_cons r2
  obtain ⟨rfl, rfl, rfl⟩ := trodAll_nil r3
  obtain rfl : args = #[v0, v1, v2, v3] := by cases args; simp_all
  obtain ⟨rfl, rfl⟩ := trodVars_none hV
  have k0 := h0
  have lt0 : ∀ x ∈ p0, x.block < W.heap.size := by obtain ⟨m, hm⟩ := k0; exact DataW.trod_lt m _ _ _ hm
  obtain ⟨fuel0, hf0⟩ := h0
  obtain ⟨x0, rfl, s0, t0⟩ := open_order (hval 0 29 v0 rfl rfl) hf0
  obtain ⟨a1, rfl, rfl, rfl, w1⟩ := open_int Try.underlying3 (hval 1 3 v1 rfl rfl) h1
  have hb1 : -9223372036854775808 ≤ a1 ∧ a1 ≤ 9223372036854775807 := by
    have := w1
    simp [Lit.wf, IntKind.min, IntKind.max, IntKind.bits, IntKind.signed] at this
    omega
  obtain ⟨a2, rfl, rfl, rfl, w2⟩ := open_int Try.underlying3 (hval 2 3 v2 rfl rfl) h2
  have hb2 : -9223372036854775808 ≤ a2 ∧ a2 ≤ 9223372036854775807 := by
    have := w2
    simp [Lit.wf, IntKind.min, IntKind.max, IntKind.bits, IntKind.signed] at this
    omega
  obtain ⟨a3, rfl, rfl, rfl, w3⟩ := open_int Try.underlying3 (hval 3 3 v3 rfl rfl) h3
  have hb3 : -9223372036854775808 ≤ a3 ∧ a3 ≤ 9223372036854775807 := by
    have := w3
    simp [Lit.wf, IntKind.min, IntKind.max, IntKind.bits, IntKind.signed] at this
    omega
  clear hA0 hval0
  refine (walk0 x0 s0 t0 a1 hb1.1 hb1.2 a2 hb2.1 hb2.2 a3 hb3.1 hb3.2 W ).mono fun e W' ⟨he, bel⟩ => ?_
  subst he
  exact ⟨_, rfl, _, _, _, [], _, [], hW', trodAll_mk1 (shut_bool Try.underlying4 _), (trodAll_cons_mk (Below.trod laidOut (by kernel_rfl) (of_decide_eq_true (by kernel_rfl)) k0 bel lt0) (trodAll_cons_mk (shut_int Try.underlying3 w1) (trodAll_cons_mk (shut_int Try.underlying3 w2) (trodAll_cons_mk (shut_int Try.underlying3 w3) trodAll_mk0)))), rfl, bel.frame _, fun h => by cases h⟩

theorem over : Rows.orderComesRow.holds Try.pinned (OpenSpec.ofChange Rows.orderComesSpec) :=
  OpenClaim.holds_of_wide 3 Try.f3 rfl rfl rfl rfl rfl rfl rfl ⟨rfl, rfl, rfl, rfl, rfl⟩ rfl rfl rfl rfl rfl (by kernel_rfl) Try.func3 (by kernel_rfl)
    (of_decide_eq_true (by kernel_rfl)) (by unfold Func.isWrapper; first | (rw [if_pos (by decide +kernel)]; kernel_rfl) | (rw [if_neg (by decide +kernel)]; exact ⟨rfl, rfl⟩))
    (fun os started H enc _ => lifted os started H enc)

theorem proved : Rows.OrderComesSaid := over
#print axioms proved
end Go.Proofs.Ytjmmijobdcepmaa.orderComes
