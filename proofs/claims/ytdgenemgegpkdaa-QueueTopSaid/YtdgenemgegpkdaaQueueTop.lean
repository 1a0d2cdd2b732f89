/-
  Proved: for any waits and wait the law QueueTop returns true: of what is pushed, and what was first, the one that goes ahead is popped. No condition.
-/
import Derived.Test.YtdgenemgegpkdaaRows
import Derived.Test.YtdgenemgegpkdaaQTop
namespace Go.Proofs.Ytdgenemgegpkdaa.queueTop
open Go.ChangeShapes Go.WideShapes Go.ChangeAt Go.RowKit Go.Lib Go.Proofs.Ytdgenemgegpkdaa.Queue
open Go.ChangeMaps (open_string shut_string)
set_option linter.unusedVariables false

theorem own : ownKnob Try.prog.godebug = none := by kernel_rfl
theorem laidOut : laidOutB Try.prog = true := by kernel_rfl

theorem _root_.Go.Proofs.Ytdgenemgegpkdaa.Queue.QRow.first {w : World} {a : Option Addr} {n cap : Nat} {b : Wt} {t : List Wt} (h : QRow w (.slice a n cap) (b :: t)) : ∃ bb off, a = some ⟨bb, off, none⟩ ∧ bb < w.heap.size ∧ w.cell? ⟨bb, off, none⟩ = some (.int .i64 b.c) ∧ w.cell? ⟨bb, off + 1, none⟩ = some (.int .i64 b.s) ∧ w.cell? ⟨bb, off + 2, none⟩ = some (.int .i64 b.o) := by
  obtain ⟨a', cap', e, h1, h2, h3⟩ := h
  injection e with e1 e2 e3
  obtain ⟨bb, off, ea, hb, hc⟩ := h3 (Nat.succ_pos _)
  have := hc 0 (Nat.succ_pos _)
  simp at this
  exact ⟨bb, off, e1.trans ea, hb, this⟩

set_option maxRecDepth 100000 in
set_option maxHeartbeats 4000000 in
theorem walk0 (v : Value) (x : Wt) (w : World) (hv : ArgQ w v) :
    Calls Try.prog 6 #[v, wv x] w (BoolB true w) := by
  obtain ⟨l0, h0⟩ := hv
  obtain ⟨a, cap, rfl⟩ := h0.slice
  obtain ⟨n, hn, hnl, hn60⟩ : ∃ n : Nat, min (l0.length : Int) 60 = n ∧ n ≤ l0.length ∧ n ≤ 60 := ⟨min l0.length 60, by omega, by omega, by omega⟩
  obtain ⟨l, hl⟩ : ∃ l, l0.take n = l := ⟨_, rfl⟩
  have hq : QRow w (.slice a n cap) l := hl ▸ h0.take hnl
  have hln : l.length = n := by rw [← hl, List.length_take]; omega
  obtain ⟨hlc, hcap⟩ : l0.length ≤ cap ∧ cap ≤ 9223372036854775807 := by obtain ⟨_, _, e, h1, h2, _⟩ := h0; cases e; exact ⟨h1, h2⟩
  clear h0
  clear hl
  generalize l0.length = len at *
  have HQ := Lib.hid (fun W (hb : Below w.heap.size w W) => hq.below hb)
  have HA := Lib.hid (al w (.cells #[.int .i64 x.c, .int .i64 x.s, .int .i64 x.o] 24))
  have HX := Lib.hid (Box.made w [.int .i64 x.c, .int .i64 x.s, .int .i64 x.o] 24)
  have HWV : Hid (wv x = .agg #[.int .i64 x.c, .int .i64 x.s, .int .i64 x.o]) := Lib.hid rfl
  by_cases hk : pushK l x = 0
  · have hrm : (rightB l = true ∧ mayB x = true) := by
      unfold pushK at hk
      by_cases hc : (rightB l && mayB x) = false
      · rw [if_pos hc] at hk; cases hk
      · simpa using hc
    obtain ⟨L, M, hL, hLr, hLn, hM, hMn, hx⟩ := top_push hrm.1 hrm.2 (by omega)
    have hpu := fun W (hb : Below w.heap.size w W) => Push_yes (hq.below hb) x hrm.1 hrm.2 (by omega)
    rw [hL, HWV.out] at hpu
    have HPU := Lib.hid hpu
    have HPO := Lib.hid (fun (W : World) v (h : QRow W v L) => (show Calls Try.prog 19 #[v] W (PopE M (topOf l x) 0 W) from by
      have hp := Pop_yes h hLr (by omega) (by omega)
      rw [hM, hx] at hp
      exact hp))
    have HMN := Lib.hid (hMn.trans hln)
    have HLN := Lib.hid hln
    obtain ⟨y, hy⟩ : ∃ y, topOf l x = y := ⟨_, rfl⟩
    rw [hy] at HPO
    have HY := Lib.hid hy
    have hc : (60 < len ∧ n = 60) ∨ (len ≤ 60 ∧ n = len) := by omega
    clear hk hrm hpu hx hL hM hMn hLr hLn hy hq hln HWV hn hnl hn60
    unfold wv
    cases l with
    | nil =>
      obtain rfl : n = 0 := HLN.out.symm
      obtain rfl : len = 0 := by omega
      obtain rfl : y = x := HY.out.symm
      clear hc
      go_enter Try.func6, Try.ntmps6
      go_upto_region 6 with (first
        | (go_at_call 18; (with_reducible refine (HPU.out _ HA.out).mono ?_); rintro e w1 ⟨v1, rfl, q1, b1⟩; have HB1 := Lib.hid (below_trans HA.out b1); have HX1 := Lib.hid (HX.out.below b1); obtain ⟨a1, n1, k1, rfl⟩ : ∃ a n k, v1 = .slice a n k := (by obtain ⟨a', k', e⟩ := q1.slice; exact ⟨a', _, k', e⟩); have HP1 := Lib.hid (HPO.out w1 _ q1); clear q1 b1)
        | (go_at_call 19; (with_reducible refine HP1.out.mono ?_); rintro e w2 ⟨v2, rfl, q2, b2⟩; have HB2 := Lib.hid (below_trans HB1.out b2); have HX2 := Lib.hid (HX1.out.below b2); obtain ⟨a2, k2, e2⟩ := q2.slice; rw [HMN.out] at e2; subst e2; clear q2 b2; unfold wv))
      have HB3 := Lib.hid (below_trans HB2.out (al w2 (.cells #[.int .i64 y.c, .int .i64 y.s, .int .i64 y.o] 24)))
      have HX3 := Lib.hid (HX2.out.below (al w2 (.cells #[.int .i64 y.c, .int .i64 y.s, .int .i64 y.o] 24)))
      have HY3 := Lib.hid (Box.made w2 [.int .i64 y.c, .int .i64 y.s, .int .i64 y.o] 24)
      clear HB2 HX2 HP1 HX1 HB1 HX HA
      generalize w2.alloc (.cells #[.int .i64 y.c, .int .i64 y.s, .int .i64 y.o] 24) = W3 at HB3 HX3 HY3 ⊢
      generalize w2.heap.size = g at HY3 ⊢
      go_upto_region 8 with (go_at_call 14; (with_reducible refine (alive_any _).mono ?_); rintro e w4 ⟨rfl, hz⟩; have HB4 := Lib.hid (below_trans HB3.out hz); have HX4 := Lib.hid (HX3.out.below hz); have HY4 := Lib.hid (HY3.out.below hz); clear hz)
      have HR4 := Lib.hid (HQ.out w4 HB4.out)
      clear HB3 HX3 HY3 w1 w2 HPU HPO
      obtain ⟨x0, x1, x2⟩ := HX4.out.c3
      obtain ⟨y0, y1, y2⟩ := HY4.out.c3
      go_region
      go_wp2_with fail
      go_ret
      exact ⟨rfl, below_trans HB4.out (dr _)⟩
    | cons b t =>
      have hn0 : 0 < n := by rw [← HLN.out]; exact Nat.succ_pos _
      have HBT : Hid (topOf (b :: t) x = if ltB b x then b else x) := Lib.hid rfl
      rcases hc with ⟨hc, rfl⟩ | ⟨hc, rfl⟩
      all_goals (
        go_enter Try.func6, Try.ntmps6
        go_upto_region 6 with (first
          | (go_at_call 18; (with_reducible refine (HPU.out _ HA.out).mono ?_); rintro e w1 ⟨v1, rfl, q1, b1⟩; have HB1 := Lib.hid (below_trans HA.out b1); have HX1 := Lib.hid (HX.out.below b1); obtain ⟨a1, n1, k1, rfl⟩ : ∃ a n k, v1 = .slice a n k := (by obtain ⟨a', k', e⟩ := q1.slice; exact ⟨a', _, k', e⟩); have HP1 := Lib.hid (HPO.out w1 _ q1); clear q1 b1)
          | (go_at_call 19; (with_reducible refine HP1.out.mono ?_); rintro e w2 ⟨v2, rfl, q2, b2⟩; have HB2 := Lib.hid (below_trans HB1.out b2); have HX2 := Lib.hid (HX1.out.below b2); obtain ⟨a2, k2, e2⟩ := q2.slice; rw [HMN.out] at e2; subst e2; clear q2 b2; unfold wv))
        have HB3 := Lib.hid (below_trans HB2.out (al w2 (.cells #[.int .i64 y.c, .int .i64 y.s, .int .i64 y.o] 24)))
        have HX3 := Lib.hid (HX2.out.below (al w2 (.cells #[.int .i64 y.c, .int .i64 y.s, .int .i64 y.o] 24)))
        have HY3 := Lib.hid (Box.made w2 [.int .i64 y.c, .int .i64 y.s, .int .i64 y.o] 24)
        clear HB2 HX2 HP1 HX1 HB1 HX HA
        generalize w2.alloc (.cells #[.int .i64 y.c, .int .i64 y.s, .int .i64 y.o] 24) = W3 at HB3 HX3 HY3 ⊢
        generalize w2.heap.size = g at HY3 ⊢
        go_upto_region 8 with (go_at_call 14; (with_reducible refine (alive_any _).mono ?_); rintro e w4 ⟨rfl, hz⟩; have HB4 := Lib.hid (below_trans HB3.out hz); have HX4 := Lib.hid (HX3.out.below hz); have HY4 := Lib.hid (HY3.out.below hz); clear hz)
        have HR4 := Lib.hid (HQ.out w4 HB4.out)
        clear HB3 HX3 HY3 w1 w2 HPU HPO
        obtain ⟨x0, x1, x2⟩ := HX4.out.c3
        obtain ⟨y0, y1, y2⟩ := HY4.out.c3
        obtain ⟨bb, off, rfl, hbb, z0, z1, z2⟩ := HR4.out.first
        have HSF : Hid (∀ w', Below w4.heap.size w4 w' → w'.cell? ⟨bb, off, none⟩ = some (.int .i64 b.c) ∧ w'.cell? ⟨bb, off + 1, none⟩ = some (.int .i64 b.s) ∧ w'.cell? ⟨bb, off + 2, none⟩ = some (.int .i64 b.o) ∧ w'.cell? ⟨w.heap.size, 0, none⟩ = some (.int .i64 x.c) ∧ w'.cell? ⟨w.heap.size, 1, none⟩ = some (.int .i64 x.s) ∧ w'.cell? ⟨w.heap.size, 2, none⟩ = some (.int .i64 x.o)) := Lib.hid (fun w' h => ⟨(h.cell (p := ⟨bb, _, none⟩) hbb).trans z0, (h.cell (p := ⟨bb, _, none⟩) hbb).trans z1, (h.cell (p := ⟨bb, _, none⟩) hbb).trans z2, (HX4.out.below h).c3⟩)
        have hls := fun W => Less_any b x W
        unfold wv at hls
        clear HR4 HQ HLN HMN)
      · generalize hbx : ltB b x = m at *
        have HL := Lib.hid hls
        clear hls
        go_region_held3 (fun w' => w'.cell? ⟨bb, off, none⟩ = some (.int .i64 b.c) ∧ w'.cell? ⟨bb, off + 1, none⟩ = some (.int .i64 b.s) ∧ w'.cell? ⟨bb, off + 2, none⟩ = some (.int .i64 b.o) ∧ w'.cell? ⟨w.heap.size, 0, none⟩ = some (.int .i64 x.c) ∧ w'.cell? ⟨w.heap.size, 1, none⟩ = some (.int .i64 x.s) ∧ w'.cell? ⟨w.heap.size, 2, none⟩ = some (.int .i64 x.o)) (first | with_reducible exact HSF.out _ (dr w4) | with_reducible exact HSF.out _ HZ.out | fail)
          (first
            | (go_at_call 10; (with_reducible refine (HL.out _).mono ?_); rintro e w5 ⟨rfl, hz⟩; have HZ := Lib.hid (below_trans (dr w4) hz); clear hz)
            | fail)
        obtain ⟨z50, z51, z52, x50, x51, x52⟩ := HSF.out _ HZ.out
        obtain ⟨y50, y51, y52⟩ := (HY4.out.below HZ.out).c3
        have HB5 := Lib.hid (below_trans HB4.out HZ.out)
        have hbb5 : bb < w5.heap.size := by have := HZ.out.size; omega
        have HXY : Hid ((if m = true then b else x) = y) := Lib.hid (HBT.out.symm.trans HY.out)
        clear z0 z1 z2 x0 x1 x2 y0 y1 y2 HSF HX4 HY4 HB4 HZ hbb HY HBT HL hbx
        cases m with
        | false =>
          obtain rfl : y = x := HXY.out.symm
          clear HXY
          go_wp2_with fail
          go_ret
          exact ⟨rfl, HB5.out⟩
        | true =>
          obtain rfl : y = b := HXY.out.symm
          clear HXY
          go_upto_region 10 with fail
          go_region
          go_wp2_with fail
          go_ret
          exact ⟨rfl, below_trans HB5.out (dr _)⟩
      · have hd : ((n : Int) == 0) = false := beq_eq_false_iff_ne.2 (by omega)
        have hi : (0 : Int) < (n : Int) := by omega
        generalize hbx : ltB b x = m at *
        have HL := Lib.hid hls
        clear hls
        go_region_held3 (fun w' => w'.cell? ⟨bb, off, none⟩ = some (.int .i64 b.c) ∧ w'.cell? ⟨bb, off + 1, none⟩ = some (.int .i64 b.s) ∧ w'.cell? ⟨bb, off + 2, none⟩ = some (.int .i64 b.o) ∧ w'.cell? ⟨w.heap.size, 0, none⟩ = some (.int .i64 x.c) ∧ w'.cell? ⟨w.heap.size, 1, none⟩ = some (.int .i64 x.s) ∧ w'.cell? ⟨w.heap.size, 2, none⟩ = some (.int .i64 x.o)) (first | with_reducible exact HSF.out _ (dr w4) | with_reducible exact HSF.out _ HZ.out | fail)
          (first
            | (go_at_call 10; (with_reducible refine (HL.out _).mono ?_); rintro e w5 ⟨rfl, hz⟩; have HZ := Lib.hid (below_trans (dr w4) hz); clear hz)
            | fail)
        obtain ⟨z50, z51, z52, x50, x51, x52⟩ := HSF.out _ HZ.out
        obtain ⟨y50, y51, y52⟩ := (HY4.out.below HZ.out).c3
        have HB5 := Lib.hid (below_trans HB4.out HZ.out)
        have hbb5 : bb < w5.heap.size := by have := HZ.out.size; omega
        have HXY : Hid ((if m = true then b else x) = y) := Lib.hid (HBT.out.symm.trans HY.out)
        clear z0 z1 z2 x0 x1 x2 y0 y1 y2 HSF HX4 HY4 HB4 HZ hbb HY HBT HL hbx
        cases m with
        | false =>
          obtain rfl : y = x := HXY.out.symm
          clear HXY
          go_wp2_with fail
          go_ret
          exact ⟨rfl, HB5.out⟩
        | true =>
          obtain rfl : y = b := HXY.out.symm
          clear HXY
          go_upto_region 10 with fail
          go_region
          go_wp2_with fail
          go_ret
          exact ⟨rfl, below_trans HB5.out (dr _)⟩
  · obtain ⟨k, hk'⟩ : ∃ k, pushK l x = k := ⟨_, rfl⟩
    have hpu := fun W (hb : Below w.heap.size w W) => Push_no (hq.below hb) (by omega) x hk
    rw [hk', HWV.out] at hpu
    rw [hk'] at hk
    have HPU := Lib.hid hpu
    have hne : (k != 0) = true := bne_iff_ne.2 hk
    have hc : (60 < len ∧ n = 60) ∨ (len ≤ 60 ∧ n = len) := by omega
    clear hk hk' hpu hq hln HWV hn hnl hn60 HX
    unfold wv
    rcases hc with ⟨hc, rfl⟩ | ⟨hc, rfl⟩
    all_goals (
      go_enter Try.func6, Try.ntmps6
      go_wp2_with (first
        | (go_at_call 18; (with_reducible refine (HPU.out _ HA.out).mono ?_); rintro e w1 ⟨v1, rfl, q1, b1⟩; have HB1 := Lib.hid (below_trans HA.out b1); obtain ⟨a1, k1, rfl⟩ : ∃ a k, v1 = .slice a 0 k := q1.slice; clear q1 b1)
        | (go_at_call 14; (with_reducible refine (alive_any _).mono ?_); rintro e w4 ⟨rfl, hz⟩; have HB4 := Lib.hid (below_trans HB1.out hz); clear hz))
      go_ret
      exact ⟨rfl, HB4.out⟩)

set_option maxRecDepth 100000 in
set_option maxHeartbeats 4000000 in
theorem lifted (os : Os) (started : os.Started) (H : Type) (enc : TypeId × Value → H) :
    ReturnsInHanded {} Try.checked os 6 .any (Rows.queueTopSpec.pre6 enc Try.prog Try.f6 Rows.queueTopRow.domain false) (Rows.queueTopSpec.post enc Try.prog Try.f6 false true false false) := by
  refine returnsInHanded_of_change (C := Try.checked) own started (by kernel_rfl) Try.func6
    (ChangeSpec.witness6 (enc := enc) (C := Try.checked) false ⟨#[], #[.slice none 0 0, .agg #[.int .i64 0, .int .i64 0, .int .i64 0]], []⟩ 8 (by kernel_rfl) (by kernel_rfl) (by kernel_rfl) (by kernel_rfl)) ?_
  intro W base args ds gs before hval0 hW hcnd _
  have hval : ∀ (j : Nat) t v, Try.f6.params[j]? = some t → args[j]? = some v → Value.okWide Try.prog W .any base t v := hval0
  have hW' := hW
  obtain ⟨p, q, hA0, hV, rfl, hfz, hnd⟩ := hW
  have hA : DataW.TrodAll enc Try.prog W 0 (fun _ => true) true Try.f6.params.toList args.toList ds p := hA0
  rw [Try.params6] at hA hval
  obtain ⟨v0, vs0, d0, ds0, p0, q0, hargs, rfl, rfl, h0, r0⟩ := trodAll_cons hA
  obtain ⟨v1, vs1, d1, ds1, p1, q1, rfl, rfl, rfl, h1, r1⟩ := trodAll_cons r0
  obtain ⟨rfl, rfl, rfl⟩ := trodAll_nil r1
  obtain rfl : args = #[v0, v1] := by cases args; simp_all
  obtain ⟨rfl, rfl⟩ := trodVars_none hV
  have k0 := h0
  have lt0 : ∀ x ∈ p0, x.block < W.heap.size := by obtain ⟨m, hm⟩ := k0; exact DataW.trod_lt m _ _ _ hm
  obtain ⟨fuel0, hf0⟩ := h0
  obtain ⟨aa0, ll0, cc0, rfl⟩ := okWide_slice Try.underlying22 (hval 0 22 v0 rfl rfl)
  have w0 := argQ_of (v := .slice aa0 ll0 cc0) hf0
  have k1 := h1
  have lt1 : ∀ x ∈ p1, x.block < W.heap.size := by obtain ⟨m, hm⟩ := k1; exact DataW.trod_lt m _ _ _ hm
  obtain ⟨fuel1, hf1⟩ := h1
  obtain ⟨x1, rfl⟩ := open_wait (hval 1 24 v1 rfl rfl) hf1
  clear hA0 hval0
  refine (walk0 (.slice aa0 ll0 cc0) x1 W w0).mono fun e W' ⟨he, bel⟩ => ?_
  subst he
  exact ⟨_, rfl, _, _, _, [], _, [], hW', trodAll_mk1 (shut_bool Try.underlying4 _), (trodAll_cons_mk (Below.trod laidOut (by kernel_rfl) (of_decide_eq_true (by kernel_rfl)) k0 bel lt0) (trodAll_cons_mk (Below.trod laidOut (by kernel_rfl) (of_decide_eq_true (by kernel_rfl)) k1 bel lt1) trodAll_mk0)), rfl, bel.frame _, fun h => by cases h⟩

theorem over : Rows.queueTopRow.holds Try.pinned (OpenSpec.ofChange Rows.queueTopSpec) :=
  OpenClaim.holds_of_wide 6 Try.f6 rfl rfl rfl rfl rfl rfl rfl ⟨rfl, rfl, rfl, rfl, rfl⟩ rfl rfl rfl rfl rfl (by kernel_rfl) Try.func6 (by kernel_rfl)
    (of_decide_eq_true (by kernel_rfl)) (by unfold Func.isWrapper; first | (rw [if_pos (by decide +kernel)]; kernel_rfl) | (rw [if_neg (by decide +kernel)]; exact ⟨rfl, rfl⟩))
    (fun os started H enc _ => lifted os started H enc)

theorem proved : Rows.QueueTopSaid := over
#print axioms proved
end Go.Proofs.Ytdgenemgegpkdaa.queueTop
