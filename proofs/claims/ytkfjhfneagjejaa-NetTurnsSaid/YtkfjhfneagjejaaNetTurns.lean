/-
  Proved: for any net and parcel the law NetTurns returns true: parcels that are put last, each once, from the first on, stand as they did; one that is posted is last; one that is there twice is taken as it was both times. No condition.
-/
import Derived.Test.YtkfjhfneagjejaaRows
import Derived.Test.YtkfjhfneagjejaaNWays
namespace Go.Proofs.Ytkfjhfneagjejaa.netTurns
open Go.ChangeShapes Go.WideShapes Go.ChangeAt Go.RowKit Go.Lib Go.Proofs.Ytkfjhfneagjejaa.Net
open Go.Proofs.Ytkfjhfneagjejaa.Queue (Box al dr below_trans ret_bool BoolB)
set_option linter.unusedVariables false

theorem own : ownKnob Try.prog.godebug = none := by kernel_rfl
theorem laidOut : laidOutB Try.prog = true := by kernel_rfl

theorem turn_right {l : List Pc} {t : Int} (h : rightB l t = true) (k : Nat) : rightB (turn l k) t = true := by
  have hr := rightB_t.1 h
  refine rightB_t.2 ⟨by rw [turn_len]; exact hr.1, hr.2.1, fun x hx => hr.2.2 x ?_⟩
  unfold turn at hx
  rcases List.mem_append.1 hx with hx | hx
  · exact List.mem_of_mem_drop hx
  · exact List.mem_of_mem_take hx

set_option maxRecDepth 100000 in
set_option maxHeartbeats 16000000 in
theorem walk0 (t : Int) (v : Value) (p : Pc) (w : World) (hA : ArgN w v) :
    Calls Try.prog 5 #[tv v t, nv p] w (BoolB true w) := by
  obtain ⟨l0, h0⟩ := hA
  obtain ⟨a, cap, rfl⟩ := h0.slice
  obtain ⟨w0, hw0⟩ : ∃ W, (w.alloc (.cells #[.slice a l0.length cap, .int .i64 t] 24)).alloc (.cells #[.int .i64 p.n, .bool p.b, .int .i64 p.y, .int .i64 p.k, .int .i64 p.o, .bool p.s] 26) = W := ⟨_, rfl⟩
  obtain ⟨hx0, hx1, hb0⟩ := two_boxes_at w [.slice a l0.length cap, .int .i64 t] [.int .i64 p.n, .bool p.b, .int .i64 p.y, .int .i64 p.k, .int .i64 p.o, .bool p.s] _ _ w0 hw0
  have HX2 := Lib.hid hx0
  have HX3 := Lib.hid hx1
  have HB := Lib.hid hb0
  have hfe := few_any t (h0.below hb0)
  have htk := take_row h0
  have HTK := Lib.hid htk
  generalize l0.take 66 = l at *
  unfold tv at hfe
  have HFE := Lib.hid hfe
  have HLA := Lib.hid (fun (k : Nat) (hk : k < l.length) (hr : rightB l t = true) (v : Value) W (h : NRow W v (turn l k)) => Last_yes t (k := 0) h (turn_right hr k) (by rw [turn_len]; omega))
  have HRI := Lib.hid (fun W (h : NRow W (.slice a l.length cap) l) => Right_any t h)
  have HPO := Lib.hid (fun W (h : NRow W (.slice a l.length cap) l) => Post_any t p h)
  have HLK := Lib.hid (fun (v u : Value) (l : List Pc) W (h : NRow W v l) (h' : NRow W u l) => Like_yes t h h')
  have HAL := Lib.hid alive_any
  unfold tv at HLA HRI HPO HLK ⊢
  unfold nv at HPO ⊢
  clear hx0 hx1 hb0 hfe htk h0
  simp only [show ((0 : Nat) : Int) = 0 from rfl] at HLA
  go_enter Try.func5, Try.ntmps5
  go_upto_region 1 with (fail)
  clear hw0
  obtain ⟨q2_0, q2_1⟩ := box2 HX2.out
  have s2_ := HX2.out.1
  go_wp2_with fail
  (with_reducible refine HFE.out.mono ?_)
  rintro e v0 ⟨rfl, hz⟩
  clear q2_0 q2_1 s2_
  have hx2 := HX2.out.below hz
  have hx3 := HX3.out.below hz
  have hb2 := below_two (b := w.heap.size) (.slice a l.length cap) (.int .i64 t) (below_trans HB.out hz) (Nat.le_refl _)
  have hp2 : Box w.heap.size [.slice a l.length cap, .int .i64 t] _ := box_put (box_put hx2 0 (.slice a l.length cap) (by simp)) 1 (.int .i64 t) (by simp)
  have hp3 := box_set_other (j := 1) (box_set_other (j := 0) hx3 (g := w.heap.size) (by omega) (.slice a l.length cap)) (g := w.heap.size) (by omega) (.int .i64 t)
  obtain ⟨y0, y1⟩ := box2 hx2
  obtain ⟨z0, z1⟩ := frz2 hx2
  have hs2 := hx2.1
  replace HX2 := Lib.hid hp2
  replace HX3 := Lib.hid hp3
  replace HB := Lib.hid hb2
  clear hz hx2 hx3 hb2 hp2 hp3 HFE
  go_upto_region 2 with (fail)
  clear y0 y1 z0 z1 hs2
  generalize (v0.setCell ⟨w.heap.size, 0, none⟩ (.slice a l.length cap)).setCell ⟨w.heap.size, 1, none⟩ (.int .i64 t) = w1 at HX2 HX3 HB ⊢
  have HR2 : Hid (NRow w1 (.slice a l.length cap) l) := Lib.hid (HTK.out.below HB.out)
  have HTK0 := HTK
  clear HTK
  obtain ⟨q2_0, q2_1⟩ := box2 HX2.out
  have s2_ := HX2.out.1
  go_wp2_with fail
  (with_reducible refine (HRI.out _ HR2.out).mono ?_)
  rintro e v2 ⟨rfl, hz⟩
  clear q2_0 q2_1 s2_
  replace HX2 : Hid (Box (w.heap.size) [.slice a l.length cap, .int .i64 t] v2) := Lib.hid (HX2.out.below hz)
  replace HX3 : Hid (Box (w.heap.size + 1) [.int .i64 p.n, .bool p.b, .int .i64 p.y, .int .i64 p.k, .int .i64 p.o, .bool p.s] v2) := Lib.hid (HX3.out.below hz)
  replace HR2 : Hid (NRow v2 (.slice a l.length cap) (l)) := Lib.hid (HR2.out.below hz)
  replace HB : Hid (Below w.heap.size w v2) := Lib.hid (below_trans HB.out hz)
  clear hz
  cases hr : rightB l t with
  | false =>
    go_wp2_with (go_at_call 13; (with_reducible refine (HAL.out _).mono ?_); rintro e w' ⟨rfl, hz⟩)
    have HE := Lib.hid (below_trans HB.out hz)
    clear hz
    go_ret
    exact ⟨rfl, HE.out⟩
  | true =>
    have hrr := rightB_t.1 hr
    have hl64 := hrr.1
    have HRR := Lib.hid hr
    clear hrr hr HRI
    have hz := al v2 (.cells #[.slice a l.length cap, .int .i64 t] 24)
    have hbx := Box.made v2 [.slice a l.length cap, .int .i64 t] 24
    obtain ⟨q2_0, q2_1⟩ := box2 HX2.out
    have s2_ := HX2.out.1
    go_upto_region 5 with (fail)
    clear q2_0 q2_1 s2_
    generalize v2.alloc (.cells #[.slice a l.length cap, .int .i64 t] 24) = w3 at hz hbx ⊢
    have HG5 := Lib.hid HX3.out.1
    replace HX2 : Hid (Box (w.heap.size) [.slice a l.length cap, .int .i64 t] w3) := Lib.hid (HX2.out.below hz)
    replace HX3 : Hid (Box (w.heap.size + 1) [.int .i64 p.n, .bool p.b, .int .i64 p.y, .int .i64 p.k, .int .i64 p.o, .bool p.s] w3) := Lib.hid (HX3.out.below hz)
    replace HR2 : Hid (NRow w3 (.slice a l.length cap) (l)) := Lib.hid (HR2.out.below hz)
    replace HB : Hid (Below w.heap.size w w3) := Lib.hid (below_trans HB.out hz)
    have HX5 := Lib.hid hbx
    skip
    clear hz hbx
    generalize hg5 : v2.heap.size = g5 at *
    obtain ⟨q2_0, q2_1⟩ := box2 HX2.out
    have s2_ := HX2.out.1
    go_wp2_with fail
    clear q2_0 q2_1 s2_
    have HTK2 : Hid (NRow w (.slice a l.length cap) l) := HTK0
    go_loopw [6, 7, 30] (fun _ _ i wr => ∃ (k : Nat) (v : Value), k ≤ l.length ∧ i = .int .i64 k ∧ Box g5 [v, .int .i64 t] wr ∧ NRow wr v (turn l k) ∧ Box w.heap.size [.slice a l.length cap, .int .i64 t] wr ∧ Box (w.heap.size + 1) [.int .i64 p.n, .bool p.b, .int .i64 p.y, .int .i64 p.k, .int .i64 p.o, .bool p.s] wr ∧ Below w.heap.size w wr) (fun _ _ i _ => l.length - (intOf i).toNat)
    case atStart => exact ⟨0, _, Nat.zero_le _, rfl, HX5.out, by rw [turn_zero]; exact HR2.out, HX2.out, HX3.out, HB.out⟩
    case round =>
      obtain ⟨k, v5, hk, rfl, hx5, hr5, hx2, hx3, hb⟩ := hrel
      clear HX2 HX3 HX5 HB HR2
      obtain ⟨a5, n5, c5, rfl⟩ : ∃ a n c, v5 = .slice a n c := (by obtain ⟨a', c', e⟩ := hr5.slice; exact ⟨a', _, c', e⟩)
      have HX5 := Lib.hid hx5
      have HX2 := Lib.hid hx2
      have HX3 := Lib.hid hx3
      have HB := Lib.hid hb
      have HR5 := Lib.hid hr5
      have HR2 : Hid (NRow wr (.slice a l.length cap) l) := Lib.hid (HTK2.out.below HB.out)
      clear hx5 hx2 hx3 hb hr5
      by_cases hlt : k < l.length
      · obtain ⟨q5_0, q5_1⟩ := box2 HX5.out
        have s5_ := HX5.out.1
        go_wp2_with fail
        (with_reducible refine (HLA.out k hlt HRR.out _ _ HR5.out).mono ?_)
        rintro e v4 ⟨v6, rfl, ho, hf, hz⟩
        rw [turn_step hlt] at ho
        obtain ⟨a6, n6, c6, rfl⟩ : ∃ a n c, v6 = .slice a n c := (by obtain ⟨a', c', e⟩ := ho.slice; exact ⟨a', _, c', e⟩)
        unfold tv
        clear q5_0 q5_1 s5_
        obtain ⟨w4, hw4⟩ : ∃ W, v4.alloc (.cells #[.slice a6 n6 c6, .int .i64 t] 24) = W := ⟨_, rfl⟩
        have hal : Below v4.heap.size v4 w4 := hw4 ▸ al v4 _
        have HX6 : Hid (Box v4.heap.size [.slice a6 n6 c6, .int .i64 t] w4) := Lib.hid (hw4 ▸ Box.made v4 [.slice a6 n6 c6, .int .i64 t] 24)
        have hg5 := HG5.out
        have hgl : g5 < wr.heap.size := HX5.out.1
        have hzs := hz.size
        have hz2 : Below wr.heap.size wr w4 := below_trans hz hal
        have hx5 := HX5.out.below hz2
        have hx2 := HX2.out.below hz2
        have hx3 := HX3.out.below hz2
        have hb := below_trans HB.out hz2
        have hw2 : w.heap.size < wr.heap.size := HX2.out.1
        have hw3 : w.heap.size + 1 < wr.heap.size := HX3.out.1
        have hq5 : Box g5 [.slice a6 n6 c6, .int .i64 t] _ := box_put (box_put hx5 0 (.slice a6 n6 c6) (by simp)) 1 (.int .i64 t) (by simp)
        have hq2 := box_set_other (j := 1) (box_set_other (j := 0) hx2 (g := g5) (by omega) (.slice a6 n6 c6)) (g := g5) (by omega) (.int .i64 t)
        have hq3 := box_set_other (j := 1) (box_set_other (j := 0) hx3 (g := g5) (by omega) (.slice a6 n6 c6)) (g := g5) (by omega) (.int .i64 t)
        have hqb := below_two (b := g5) (.slice a6 n6 c6) (.int .i64 t) hb (by omega)
        have hqr := NRow.far_two (g := g5) (.slice a6 n6 c6) (.int .i64 t) (ho.below hal) hf (by omega)
        have HQ5 := Lib.hid hq5
        have HQ2 := Lib.hid hq2
        have HQ3 := Lib.hid hq3
        have HQB := Lib.hid hqb
        have HQR := Lib.hid hqr
        obtain ⟨y0, y1⟩ := box2 hx5
        obtain ⟨z0, z1⟩ := frz2 hx5
        have hs5 := hx5.1
        go_upto_region 8 with (fail)
        try rw [hw4]
        clear hw4 hq5 hq2 hq3 hqb hqr hx2 hx3 hb hz hal hz2 ho hf hx5 HX5 HX2 HX3 HB HR5 HR2 hzs hw2 hw3 hgl
        generalize v4.heap.size = g6 at *
        obtain ⟨x0, x1⟩ := box2 HX6.out
        have hs6 := HX6.out.1
        go_wp2_with fail
        go_roundw
        case rel => exact ⟨k + 1, _, by omega, by go_num, HQ5.out, HQR.out, HQ2.out, HQ3.out, HQB.out⟩
        case measure => simp [intOf]; omega
      · obtain rfl : k = l.length := by omega
        rw [turn_all] at HR5
        have hn5 : n5 = l.length := (NRow.cap HR5.out).1
        subst hn5
        clear hlt hk
        obtain ⟨q5_0, q5_1⟩ := box2 HX5.out
        have s5_ := HX5.out.1
        obtain ⟨q2_0, q2_1⟩ := box2 HX2.out
        have s2_ := HX2.out.1
        go_wp2_with fail
        (with_reducible refine (HLK.out _ _ l _ HR5.out HR2.out).mono ?_)
        rintro e v4 ⟨rfl, hz⟩
        clear q5_0 q5_1 s5_ q2_0 q2_1 s2_
        replace HX2 : Hid (Box (w.heap.size) [.slice a l.length cap, .int .i64 t] v4) := Lib.hid (HX2.out.below hz)
        replace HX3 : Hid (Box (w.heap.size + 1) [.int .i64 p.n, .bool p.b, .int .i64 p.y, .int .i64 p.k, .int .i64 p.o, .bool p.s] v4) := Lib.hid (HX3.out.below hz)
        replace HX5 : Hid (Box (g5) [.slice a5 l.length c5, .int .i64 t] v4) := Lib.hid (HX5.out.below hz)
        replace HR2 : Hid (NRow v4 (.slice a l.length cap) (l)) := Lib.hid (HR2.out.below hz)
        replace HR5 : Hid (NRow v4 (.slice a5 l.length c5) (l)) := Lib.hid (HR5.out.below hz)
        replace HB : Hid (Below w.heap.size w v4) := Lib.hid (below_trans HB.out hz)
        clear hz
        go_wp2_with fail
        (with_reducible refine (HAL.out _).mono ?_)
        rintro e v5 ⟨rfl, hz⟩
        replace HX2 : Hid (Box (w.heap.size) [.slice a l.length cap, .int .i64 t] v5) := Lib.hid (HX2.out.below hz)
        replace HX3 : Hid (Box (w.heap.size + 1) [.int .i64 p.n, .bool p.b, .int .i64 p.y, .int .i64 p.k, .int .i64 p.o, .bool p.s] v5) := Lib.hid (HX3.out.below hz)
        replace HX5 : Hid (Box (g5) [.slice a5 l.length c5, .int .i64 t] v5) := Lib.hid (HX5.out.below hz)
        replace HR2 : Hid (NRow v5 (.slice a l.length cap) (l)) := Lib.hid (HR2.out.below hz)
        replace HR5 : Hid (NRow v5 (.slice a5 l.length c5) (l)) := Lib.hid (HR5.out.below hz)
        replace HB : Hid (Below w.heap.size w v5) := Lib.hid (below_trans HB.out hz)
        clear hz
        have hw := post_ways l t p
        rcases hw with ⟨_, e1, _, _⟩ | ⟨_, _, _, e1, _, _⟩ | ⟨hr, hm, hl, ht, e1, e2, e3⟩
        · have e4 : postT l t p = 0 := if_neg (by rw [e1]; decide)
          rw [e1, e4] at HPO
          clear e1 e4
          obtain ⟨q2_0, q2_1⟩ := box2 HX2.out
          have s2_ := HX2.out.1
          obtain ⟨q3_0, q3_1, q3_2, q3_3, q3_4, q3_5⟩ := box6 HX3.out
          have s3_ := HX3.out.1
          go_wp2_with fail
          (with_reducible refine (HPO.out _ HR2.out).mono ?_)
          rintro e v6 ⟨v8, rfl, ho, _, hz⟩
          unfold tv
          obtain ⟨a8, n8, c8, rfl⟩ : ∃ a n c, v8 = .slice a n c := (by obtain ⟨a', c', e⟩ := ho.slice; exact ⟨a', _, c', e⟩)
          clear ho
          clear q2_0 q2_1 s2_ q3_0 q3_1 q3_2 q3_3 q3_4 q3_5 s3_
          obtain ⟨w6, hw6⟩ : ∃ W, (v6.alloc (.cells #[.slice a8 n8 c8, .int .i64 0] 24)) = W := ⟨_, rfl⟩
          have hal : Below v6.heap.size v6 w6 := hw6 ▸ al v6 _
          have HX8 : Hid (Box v6.heap.size [.slice a8 n8 c8, .int .i64 0] w6) := Lib.hid (hw6 ▸ Box.made v6 [.slice a8 n8 c8, .int .i64 0] 24)
          have hz2 : Below v5.heap.size v5 w6 := below_trans hz hal
          replace HX2 : Hid (Box (w.heap.size) [.slice a l.length cap, .int .i64 t] w6) := Lib.hid (HX2.out.below hz2)
          replace HX3 : Hid (Box (w.heap.size + 1) [.int .i64 p.n, .bool p.b, .int .i64 p.y, .int .i64 p.k, .int .i64 p.o, .bool p.s] w6) := Lib.hid (HX3.out.below hz2)
          replace HX5 : Hid (Box (g5) [.slice a5 l.length c5, .int .i64 t] w6) := Lib.hid (HX5.out.below hz2)
          replace HR2 : Hid (NRow w6 (.slice a l.length cap) (l)) := Lib.hid (HR2.out.below hz2)
          replace HR5 : Hid (NRow w6 (.slice a5 l.length c5) (l)) := Lib.hid (HR5.out.below hz2)
          replace HB : Hid (Below w.heap.size w w6) := Lib.hid (below_trans HB.out hz2)
          clear hz hz2 hal
          have HW6 := Lib.hid hw6
          clear hw6
          go_upto_region 15 with (fail)
          rw [HW6.out]
          clear HW6
          generalize v6.heap.size = g6 at *
          go_wp2_with fail
          go_ret
          exact ⟨rfl, HB.out⟩
        · have e4 : postT l t p = 0 := if_neg (by rw [e1]; decide)
          rw [e1, e4] at HPO
          clear e1 e4
          obtain ⟨q2_0, q2_1⟩ := box2 HX2.out
          have s2_ := HX2.out.1
          obtain ⟨q3_0, q3_1, q3_2, q3_3, q3_4, q3_5⟩ := box6 HX3.out
          have s3_ := HX3.out.1
          go_wp2_with fail
          (with_reducible refine (HPO.out _ HR2.out).mono ?_)
          rintro e v6 ⟨v8, rfl, ho, _, hz⟩
          unfold tv
          obtain ⟨a8, n8, c8, rfl⟩ : ∃ a n c, v8 = .slice a n c := (by obtain ⟨a', c', e⟩ := ho.slice; exact ⟨a', _, c', e⟩)
          clear ho
          clear q2_0 q2_1 s2_ q3_0 q3_1 q3_2 q3_3 q3_4 q3_5 s3_
          obtain ⟨w6, hw6⟩ : ∃ W, (v6.alloc (.cells #[.slice a8 n8 c8, .int .i64 0] 24)) = W := ⟨_, rfl⟩
          have hal : Below v6.heap.size v6 w6 := hw6 ▸ al v6 _
          have HX8 : Hid (Box v6.heap.size [.slice a8 n8 c8, .int .i64 0] w6) := Lib.hid (hw6 ▸ Box.made v6 [.slice a8 n8 c8, .int .i64 0] 24)
          have hz2 : Below v5.heap.size v5 w6 := below_trans hz hal
          replace HX2 : Hid (Box (w.heap.size) [.slice a l.length cap, .int .i64 t] w6) := Lib.hid (HX2.out.below hz2)
          replace HX3 : Hid (Box (w.heap.size + 1) [.int .i64 p.n, .bool p.b, .int .i64 p.y, .int .i64 p.k, .int .i64 p.o, .bool p.s] w6) := Lib.hid (HX3.out.below hz2)
          replace HX5 : Hid (Box (g5) [.slice a5 l.length c5, .int .i64 t] w6) := Lib.hid (HX5.out.below hz2)
          replace HR2 : Hid (NRow w6 (.slice a l.length cap) (l)) := Lib.hid (HR2.out.below hz2)
          replace HR5 : Hid (NRow w6 (.slice a5 l.length c5) (l)) := Lib.hid (HR5.out.below hz2)
          replace HB : Hid (Below w.heap.size w w6) := Lib.hid (below_trans HB.out hz2)
          clear hz hz2 hal
          have HW6 := Lib.hid hw6
          clear hw6
          go_upto_region 15 with (fail)
          rw [HW6.out]
          clear HW6
          generalize v6.heap.size = g6 at *
          go_wp2_with fail
          go_ret
          exact ⟨rfl, HB.out⟩
        · rw [e1, e2, e3] at HPO
          have hr2 := post_right (rightB_t.1 hr) hl ht (mayB_t.1 hm)
          have ht0 := (rightB_t.1 hr).2.1
          clear e1 e2 e3
          unfold post at HPO hr2
          have HMQ : Hid ((num p (t + 1)).n = t + 1 ∧ (num p (t + 1)).y = p.y) := Lib.hid ⟨rfl, rfl⟩
          generalize num p (t + 1) = q at *
          have HR9 := Lib.hid (rightB_t.2 hr2)
          clear hr2 hm hr
          obtain ⟨q2_0, q2_1⟩ := box2 HX2.out
          have s2_ := HX2.out.1
          obtain ⟨q3_0, q3_1, q3_2, q3_3, q3_4, q3_5⟩ := box6 HX3.out
          have s3_ := HX3.out.1
          go_wp2_with fail
          (with_reducible refine (HPO.out _ HR2.out).mono ?_)
          rintro e v6 ⟨v8, rfl, ho, _, hz⟩
          unfold tv
          obtain ⟨a8, n8, c8, rfl⟩ : ∃ a n c, v8 = .slice a n c := (by obtain ⟨a', c', e⟩ := ho.slice; exact ⟨a', _, c', e⟩)
          clear q2_0 q2_1 s2_ q3_0 q3_1 q3_2 q3_3 q3_4 q3_5 s3_
          obtain ⟨w6, hw6⟩ : ∃ W, (v6.alloc (.cells #[.slice a8 n8 c8, .int .i64 (t + 1)] 24)) = W := ⟨_, rfl⟩
          have hal : Below v6.heap.size v6 w6 := hw6 ▸ al v6 _
          have HX8 : Hid (Box v6.heap.size [.slice a8 n8 c8, .int .i64 (t + 1)] w6) := Lib.hid (hw6 ▸ Box.made v6 [.slice a8 n8 c8, .int .i64 (t + 1)] 24)
          have hz2 : Below v5.heap.size v5 w6 := below_trans hz hal
          replace HX2 : Hid (Box (w.heap.size) [.slice a l.length cap, .int .i64 t] w6) := Lib.hid (HX2.out.below hz2)
          replace HX3 : Hid (Box (w.heap.size + 1) [.int .i64 p.n, .bool p.b, .int .i64 p.y, .int .i64 p.k, .int .i64 p.o, .bool p.s] w6) := Lib.hid (HX3.out.below hz2)
          replace HX5 : Hid (Box (g5) [.slice a5 l.length c5, .int .i64 t] w6) := Lib.hid (HX5.out.below hz2)
          replace HR2 : Hid (NRow w6 (.slice a l.length cap) (l)) := Lib.hid (HR2.out.below hz2)
          replace HR5 : Hid (NRow w6 (.slice a5 l.length c5) (l)) := Lib.hid (HR5.out.below hz2)
          replace HB : Hid (Below w.heap.size w w6) := Lib.hid (below_trans HB.out hz2)
          have HR8 : Hid (NRow w6 (.slice a8 n8 c8) (l ++ [q])) := Lib.hid ((ho).below hal)
          clear hz hz2 hal ho
          go_upto_region 15 with (fail)
          try rw [hw6]
          clear hw6
          generalize v6.heap.size = g6 at *
          have HTW := Lib.hid (fun (h : (l ++ [q]).length ≠ 64) => Twice_yes (t + 1) HR8.out HR9.out (k := l.length) (by simp) h)
          have HTF := Lib.hid (fun (h : (l ++ [q]).length = 64) => Twice_full (t + 1) HR8.out HR9.out (k := l.length) (by simp) h)
          simp only [twice_last] at HTW
          have HLN : Hid ((l ++ [q]).length = l.length + 1) := Lib.hid (by simp)
          unfold tv at HTW HTF
          obtain ⟨q2_0, q2_1⟩ := box2 HX2.out
          have s2_ := HX2.out.1
          go_upto_region 18 with (fail)
          clear q2_0 q2_1 s2_
          by_cases h63 : (l ++ [q]).length = 64
          · replace HTF := Lib.hid (HTF.out h63)
            have h64 : ((l.length : Int) == 63) = true := by have := HLN.out; simp; omega
            clear HTW h63
            obtain ⟨q8_0, q8_1⟩ := box2 HX8.out
            have s8_ := HX8.out.1
            go_wp2_with fail
            (with_reducible refine (HTF.out).mono ?_)
            rintro e v7 ⟨v12, rfl, ho, _, hz⟩
            unfold tv
            obtain ⟨a12, n12, c12, rfl⟩ : ∃ a n c, v12 = .slice a n c := (by obtain ⟨a', c', e⟩ := ho.slice; exact ⟨a', _, c', e⟩)
            clear ho
            clear q8_0 q8_1 s8_
            obtain ⟨w7, hw7⟩ : ∃ W, (v7.alloc (.cells #[.slice a12 n12 c12, .int .i64 0] 24)) = W := ⟨_, rfl⟩
            have hal : Below v7.heap.size v7 w7 := hw7 ▸ al v7 _
            have HX12 : Hid (Box v7.heap.size [.slice a12 n12 c12, .int .i64 0] w7) := Lib.hid (hw7 ▸ Box.made v7 [.slice a12 n12 c12, .int .i64 0] 24)
            have hz2 : Below w6.heap.size w6 w7 := below_trans hz hal
            replace HX2 : Hid (Box (w.heap.size) [.slice a l.length cap, .int .i64 t] w7) := Lib.hid (HX2.out.below hz2)
            replace HX3 : Hid (Box (w.heap.size + 1) [.int .i64 p.n, .bool p.b, .int .i64 p.y, .int .i64 p.k, .int .i64 p.o, .bool p.s] w7) := Lib.hid (HX3.out.below hz2)
            replace HX5 : Hid (Box (g5) [.slice a5 l.length c5, .int .i64 t] w7) := Lib.hid (HX5.out.below hz2)
            replace HX8 : Hid (Box (g6) [.slice a8 n8 c8, .int .i64 (t + 1)] w7) := Lib.hid (HX8.out.below hz2)
            replace HR2 : Hid (NRow w7 (.slice a l.length cap) (l)) := Lib.hid (HR2.out.below hz2)
            replace HR5 : Hid (NRow w7 (.slice a5 l.length c5) (l)) := Lib.hid (HR5.out.below hz2)
            replace HR8 : Hid (NRow w7 (.slice a8 n8 c8) (l ++ [q])) := Lib.hid (HR8.out.below hz2)
            replace HB : Hid (Below w.heap.size w w7) := Lib.hid (below_trans HB.out hz2)
            clear hz hz2 hal
            have HW7 := Lib.hid hw7
            clear hw7
            go_upto_region 19 with (fail)
            rw [HW7.out]
            clear HW7
            generalize v7.heap.size = g7 at *
            go_wp2_with fail
            go_ret
            exact ⟨rfl, HB.out⟩
          · replace HTW := Lib.hid (HTW.out h63)
            clear HTF
            obtain ⟨q8_0, q8_1⟩ := box2 HX8.out
            have s8_ := HX8.out.1
            go_wp2_with fail
            (with_reducible refine (HTW.out).mono ?_)
            rintro e v7 ⟨v12, rfl, ho, _, hz⟩
            unfold tv
            obtain ⟨a12, n12, c12, rfl⟩ : ∃ a n c, v12 = .slice a n c := (by obtain ⟨a', c', e⟩ := ho.slice; exact ⟨a', _, c', e⟩)
            clear q8_0 q8_1 s8_
            obtain ⟨w7, hw7⟩ : ∃ W, (v7.alloc (.cells #[.slice a12 n12 c12, .int .i64 (t + 1)] 24)) = W := ⟨_, rfl⟩
            have hal : Below v7.heap.size v7 w7 := hw7 ▸ al v7 _
            have HX12 : Hid (Box v7.heap.size [.slice a12 n12 c12, .int .i64 (t + 1)] w7) := Lib.hid (hw7 ▸ Box.made v7 [.slice a12 n12 c12, .int .i64 (t + 1)] 24)
            have hz2 : Below w6.heap.size w6 w7 := below_trans hz hal
            replace HX2 : Hid (Box (w.heap.size) [.slice a l.length cap, .int .i64 t] w7) := Lib.hid (HX2.out.below hz2)
            replace HX3 : Hid (Box (w.heap.size + 1) [.int .i64 p.n, .bool p.b, .int .i64 p.y, .int .i64 p.k, .int .i64 p.o, .bool p.s] w7) := Lib.hid (HX3.out.below hz2)
            replace HX5 : Hid (Box (g5) [.slice a5 l.length c5, .int .i64 t] w7) := Lib.hid (HX5.out.below hz2)
            replace HX8 : Hid (Box (g6) [.slice a8 n8 c8, .int .i64 (t + 1)] w7) := Lib.hid (HX8.out.below hz2)
            replace HR2 : Hid (NRow w7 (.slice a l.length cap) (l)) := Lib.hid (HR2.out.below hz2)
            replace HR5 : Hid (NRow w7 (.slice a5 l.length c5) (l)) := Lib.hid (HR5.out.below hz2)
            replace HR8 : Hid (NRow w7 (.slice a8 n8 c8) (l ++ [q])) := Lib.hid (HR8.out.below hz2)
            replace HB : Hid (Below w.heap.size w w7) := Lib.hid (below_trans HB.out hz2)
            have HR12 : Hid (NRow w7 (.slice a12 n12 c12) (l ++ [q] ++ [q])) := Lib.hid ((ho).below hal)
            clear hz hz2 hal ho
            go_upto_region 19 with (fail)
            try rw [hw7]
            clear hw7
            generalize v7.heap.size = g7 at *
            have hr3 : rightB (l ++ [q] ++ [q]) (t + 1) = true := by
              have h2 := rightB_t.1 HR9.out
              have h3 := HLN.out
              refine rightB_t.2 ⟨by rw [List.length_append, List.length_singleton]; have := h2.1; omega, h2.2.1, fun x hx => h2.2.2 x ?_⟩
              rcases List.mem_append.1 hx with hx | hx
              · exact hx
              · exact List.mem_append_right _ hx
            have HTA := Lib.hid (Take_yes (t + 1) HR12.out hr3 (k := l.length) (by simp))
            simp only [rest_last2, last_at2] at HTA
            unfold tv at HTA
            clear hr3
            obtain ⟨q12_0, q12_1⟩ := box2 HX12.out
            have s12_ := HX12.out.1
            go_wp2_with fail
            (with_reducible refine (HTA.out).mono ?_)
            rintro e v8 ⟨v14, rfl, ho, _, hz⟩
            unfold tv nv
            obtain ⟨a14, n14, c14, rfl⟩ : ∃ a n c, v14 = .slice a n c := (by obtain ⟨a', c', e⟩ := ho.slice; exact ⟨a', _, c', e⟩)
            have HN14 : Hid (n14 = l.length + 1) := Lib.hid (by have := (NRow.cap ho).1; simpa using this)
            clear q12_0 q12_1 s12_
            obtain ⟨w8, hw8⟩ : ∃ W, ((v8.alloc (.cells #[.slice a14 n14 c14, .int .i64 (t + 1)] 24)).alloc (.cells #[.int .i64 q.n, .bool q.b, .int .i64 q.y, .int .i64 q.k, .int .i64 q.o, .bool q.s] 26)) = W := ⟨_, rfl⟩
            have hal : Below v8.heap.size v8 w8 := hw8 ▸ two_al v8 _ _
            have hbb := two_boxes v8 [.slice a14 n14 c14, .int .i64 (t + 1)] [.int .i64 q.n, .bool q.b, .int .i64 q.y, .int .i64 q.k, .int .i64 q.o, .bool q.s] 24 26
            have HX14 : Hid (Box v8.heap.size [.slice a14 n14 c14, .int .i64 (t + 1)] w8) := Lib.hid (hw8 ▸ hbb.1)
            have HX15 : Hid (Box (v8.heap.size + 1) [.int .i64 q.n, .bool q.b, .int .i64 q.y, .int .i64 q.k, .int .i64 q.o, .bool q.s] w8) := Lib.hid (hw8 ▸ hbb.2)
            clear hbb
            have hz2 : Below w7.heap.size w7 w8 := below_trans hz hal
            replace HX2 : Hid (Box (w.heap.size) [.slice a l.length cap, .int .i64 t] w8) := Lib.hid (HX2.out.below hz2)
            replace HX3 : Hid (Box (w.heap.size + 1) [.int .i64 p.n, .bool p.b, .int .i64 p.y, .int .i64 p.k, .int .i64 p.o, .bool p.s] w8) := Lib.hid (HX3.out.below hz2)
            replace HX5 : Hid (Box (g5) [.slice a5 l.length c5, .int .i64 t] w8) := Lib.hid (HX5.out.below hz2)
            replace HX8 : Hid (Box (g6) [.slice a8 n8 c8, .int .i64 (t + 1)] w8) := Lib.hid (HX8.out.below hz2)
            replace HX12 : Hid (Box (g7) [.slice a12 n12 c12, .int .i64 (t + 1)] w8) := Lib.hid (HX12.out.below hz2)
            replace HR2 : Hid (NRow w8 (.slice a l.length cap) (l)) := Lib.hid (HR2.out.below hz2)
            replace HR5 : Hid (NRow w8 (.slice a5 l.length c5) (l)) := Lib.hid (HR5.out.below hz2)
            replace HR8 : Hid (NRow w8 (.slice a8 n8 c8) (l ++ [q])) := Lib.hid (HR8.out.below hz2)
            replace HR12 : Hid (NRow w8 (.slice a12 n12 c12) (l ++ [q] ++ [q])) := Lib.hid (HR12.out.below hz2)
            replace HB : Hid (Below w.heap.size w w8) := Lib.hid (below_trans HB.out hz2)
            have HR14 : Hid (NRow w8 (.slice a14 n14 c14) (l ++ [q])) := Lib.hid ((ho).below hal)
            clear hz hz2 hal ho
            go_upto_region 22 with (fail)
            try rw [hw8]
            clear hw8
            generalize v8.heap.size = g8 at *
            replace HTA := Lib.hid (Take_yes (t + 1) HR14.out HR9.out (k := l.length) (by simp))
            simp only [last_at] at HTA
            unfold tv at HTA
            obtain ⟨q14_0, q14_1⟩ := box2 HX14.out
            have s14_ := HX14.out.1
            go_wp2_with fail
            (with_reducible refine (HTA.out).mono ?_)
            rintro e v9 ⟨v17, rfl, ho, _, hz⟩
            unfold tv nv
            obtain ⟨a17, n17, c17, rfl⟩ : ∃ a n c, v17 = .slice a n c := (by obtain ⟨a', c', e⟩ := ho.slice; exact ⟨a', _, c', e⟩)
            clear ho
            clear q14_0 q14_1 s14_
            obtain ⟨w9, hw9⟩ : ∃ W, ((v9.alloc (.cells #[.slice a17 n17 c17, .int .i64 (t + 1)] 24)).alloc (.cells #[.int .i64 q.n, .bool q.b, .int .i64 q.y, .int .i64 q.k, .int .i64 q.o, .bool q.s] 26)) = W := ⟨_, rfl⟩
            have hal : Below v9.heap.size v9 w9 := hw9 ▸ two_al v9 _ _
            have hbb := two_boxes v9 [.slice a17 n17 c17, .int .i64 (t + 1)] [.int .i64 q.n, .bool q.b, .int .i64 q.y, .int .i64 q.k, .int .i64 q.o, .bool q.s] 24 26
            have HX17 : Hid (Box v9.heap.size [.slice a17 n17 c17, .int .i64 (t + 1)] w9) := Lib.hid (hw9 ▸ hbb.1)
            have HX18 : Hid (Box (v9.heap.size + 1) [.int .i64 q.n, .bool q.b, .int .i64 q.y, .int .i64 q.k, .int .i64 q.o, .bool q.s] w9) := Lib.hid (hw9 ▸ hbb.2)
            clear hbb
            have hz2 : Below w8.heap.size w8 w9 := below_trans hz hal
            replace HX2 : Hid (Box (w.heap.size) [.slice a l.length cap, .int .i64 t] w9) := Lib.hid (HX2.out.below hz2)
            replace HX3 : Hid (Box (w.heap.size + 1) [.int .i64 p.n, .bool p.b, .int .i64 p.y, .int .i64 p.k, .int .i64 p.o, .bool p.s] w9) := Lib.hid (HX3.out.below hz2)
            replace HX5 : Hid (Box (g5) [.slice a5 l.length c5, .int .i64 t] w9) := Lib.hid (HX5.out.below hz2)
            replace HX8 : Hid (Box (g6) [.slice a8 n8 c8, .int .i64 (t + 1)] w9) := Lib.hid (HX8.out.below hz2)
            replace HX12 : Hid (Box (g7) [.slice a12 n12 c12, .int .i64 (t + 1)] w9) := Lib.hid (HX12.out.below hz2)
            replace HX14 : Hid (Box (g8) [.slice a14 n14 c14, .int .i64 (t + 1)] w9) := Lib.hid (HX14.out.below hz2)
            replace HX15 : Hid (Box (g8 + 1) [.int .i64 q.n, .bool q.b, .int .i64 q.y, .int .i64 q.k, .int .i64 q.o, .bool q.s] w9) := Lib.hid (HX15.out.below hz2)
            replace HR2 : Hid (NRow w9 (.slice a l.length cap) (l)) := Lib.hid (HR2.out.below hz2)
            replace HR5 : Hid (NRow w9 (.slice a5 l.length c5) (l)) := Lib.hid (HR5.out.below hz2)
            replace HR8 : Hid (NRow w9 (.slice a8 n8 c8) (l ++ [q])) := Lib.hid (HR8.out.below hz2)
            replace HR12 : Hid (NRow w9 (.slice a12 n12 c12) (l ++ [q] ++ [q])) := Lib.hid (HR12.out.below hz2)
            replace HR14 : Hid (NRow w9 (.slice a14 n14 c14) (l ++ [q])) := Lib.hid (HR14.out.below hz2)
            replace HB : Hid (Below w.heap.size w w9) := Lib.hid (below_trans HB.out hz2)
            clear hz hz2 hal
            go_upto_region 23 with (fail)
            try rw [hw9]
            clear hw9
            generalize v9.heap.size = g9 at *
            have heq := fun w => eql_pc q q w
            simp only [decide_true] at heq
            have h1 : (q.n == t + 1) = true := by simpa using HMQ.out.1
            have h2 : (q.y == p.y) = true := by simpa using HMQ.out.2
            have h3 : IntKind.i64.wrap ((l.length : Int) + 1) = (l.length : Int) + 1 := IntWalk.i64_in _ (by omega)
            have h4 : ((n14 : Int) == (l.length : Int) + 1) = true := by have := HN14.out; simpa using (by omega : (n14 : Int) = (l.length : Int) + 1)
            clear HLN HMQ h63 HN14
            obtain ⟨q15_0, q15_1, q15_2, q15_3, q15_4, q15_5⟩ := box6 HX15.out
            have s15_ := HX15.out.1
            obtain ⟨q18_0, q18_1, q18_2, q18_3, q18_4, q18_5⟩ := box6 HX18.out
            have s18_ := HX18.out.1
            obtain ⟨q3_0, q3_1, q3_2, q3_3, q3_4, q3_5⟩ := box6 HX3.out
            have s3_ := HX3.out.1
            obtain ⟨q14_0, q14_1⟩ := box2 HX14.out
            have s14_ := HX14.out.1
            go_wp2_with fail
            go_ret
            exact ⟨rfl, HB.out⟩

set_option maxRecDepth 100000 in
set_option maxHeartbeats 4000000 in
theorem lifted (os : Os) (started : os.Started) (H : Type) (enc : TypeId × Value → H) :
    ReturnsInHanded {} Try.checked os 5 .any (Rows.netTurnsSpec.pre6 enc Try.prog Try.f5 Rows.netTurnsRow.domain false) (Rows.netTurnsSpec.post enc Try.prog Try.f5 false true false false) := by
  refine returnsInHanded_of_change (C := Try.checked) own started (by kernel_rfl) Try.func5
    (ChangeSpec.witness6 (enc := enc) (C := Try.checked) false ⟨#[], #[.agg #[.slice none 0 0, .int .i64 0], .agg #[.int .i64 0, .bool false, .int .i64 0, .int .i64 0, .int .i64 0, .bool false]], []⟩ 8 (by kernel_rfl) (by kernel_rfl) (by kernel_rfl) (by kernel_rfl)) ?_
  intro W base args ds gs before hval0 hW hcnd _
  have hval : ∀ (j : Nat) t v, Try.f5.params[j]? = some t → args[j]? = some v → Value.okWide Try.prog W .any base t v := hval0
  have hW' := hW
  obtain ⟨p, q, hA0, hV, rfl, hfz, hnd⟩ := hW
  have hA : DataW.TrodAll enc Try.prog W 0 (fun _ => true) true Try.f5.params.toList args.toList ds p := hA0
  rw [Try.params5] at hA hval
  obtain ⟨v0, vs0, d0, ds0, p0, q0, hargs, rfl, rfl, h0, r0⟩ := trodAll_cons hA
  obtain ⟨v1, vs1, d1, ds1, p1, q1, rfl, rfl, rfl, h1, r1⟩ := trodAll_cons r0
  obtain ⟨rfl, rfl, rfl⟩ := trodAll_nil r1
  obtain rfl : args = #[v0, v1] := by cases args; simp_all
  obtain ⟨rfl, rfl⟩ := trodVars_none hV
  have k0 := h0
  have lt0 : ∀ x ∈ p0, x.block < W.heap.size := by obtain ⟨m, hm⟩ := k0; exact DataW.trod_lt m _ _ _ hm
  obtain ⟨fuel0, hf0⟩ := h0
  obtain ⟨t0, va0, rfl, w0⟩ := open_net (hval 0 24 v0 rfl rfl) hf0
  have k1 := h1
  have lt1 : ∀ x ∈ p1, x.block < W.heap.size := by obtain ⟨m, hm⟩ := k1; exact DataW.trod_lt m _ _ _ hm
  obtain ⟨fuel1, hf1⟩ := h1
  obtain ⟨x1, rfl⟩ := open_parcel (hval 1 26 v1 rfl rfl) hf1
  clear hA0 hval0
  refine (walk0 t0 va0 x1 W w0).mono fun e W' ⟨he, bel⟩ => ?_
  subst he
  exact ⟨_, rfl, _, _, _, [], _, [], hW', trodAll_mk1 (shut_bool Try.underlying4 _), (trodAll_cons_mk (Below.trod laidOut (by kernel_rfl) (of_decide_eq_true (by kernel_rfl)) k0 bel lt0) (trodAll_cons_mk (Below.trod laidOut (by kernel_rfl) (of_decide_eq_true (by kernel_rfl)) k1 bel lt1) trodAll_mk0)), rfl, bel.frame _, fun h => by cases h⟩

theorem over : Rows.netTurnsRow.holds Try.pinned (OpenSpec.ofChange Rows.netTurnsSpec) :=
  OpenClaim.holds_of_wide 5 Try.f5 rfl rfl rfl rfl rfl rfl rfl ⟨rfl, rfl, rfl, rfl, rfl⟩ rfl rfl rfl rfl rfl (by kernel_rfl) Try.func5 (by kernel_rfl)
    (of_decide_eq_true (by kernel_rfl)) (by unfold Func.isWrapper; first | (rw [if_pos (by decide +kernel)]; kernel_rfl) | (rw [if_neg (by decide +kernel)]; exact ⟨rfl, rfl⟩))
    (fun os started H enc _ => lifted os started H enc)

theorem proved : Rows.NetTurnsSaid := over
#print axioms proved
end Go.Proofs.Ytkfjhfneagjejaa.netTurns
