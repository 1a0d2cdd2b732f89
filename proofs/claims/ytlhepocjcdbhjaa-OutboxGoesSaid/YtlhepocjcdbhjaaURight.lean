/-
  Contract of package outbox's Right: which outboxes may be.
-/
import Derived.Test.YtlhepocjcdbhjaaUHand
import Derived.Deep.CutRange
namespace Go.Proofs.Ytlhepocjcdbhjaa.Outbox
open Go.ChangeShapes Go.WideShapes Go.ChangeAt Go.RowKit Go.Shelf Go.Lib
open Go.Proofs.Ytlhepocjcdbhjaa.Queue (Box al dr below_trans ret_bool BoolB)

/-- So far each may be, no other one is of its kind and order, and its key is above the one ahead of it. -/
def Seen (l : List Ot) (k : Nat) : Prop := ∀ j (h : j < l.length), j < k → mayU l[j] = true ∧ (l.take j).any (ofB l[j].k l[j].o) = false ∧ ∀ i (hi : i + 1 = j), l[i].y < l[j].y
/-- The key ahead. -/
def Prev (l : List Ot) (k : Nat) (y : Int) : Prop := (k = 0 ∧ y = 0) ∨ ∃ q, ∃ (h : q < l.length), k = q + 1 ∧ y = l[q].y
theorem seen_succ {l : List Ot} {k : Nat} {y : Int} (h : Seen l k) (hp : Prev l k y) (hk : k < l.length) (h1 : mayU l[k] = true) (h2 : ¬ l[k].y ≤ y) (h3 : (l.take k).any (ofB l[k].k l[k].o) = false) : Seen l (k + 1) := fun j hj hjk => by
  by_cases e : j = k
  · subst e
    refine ⟨h1, h3, fun i hi => ?_⟩
    rcases hp with ⟨e, _⟩ | ⟨q, hq, e, rfl⟩
    · omega
    · obtain rfl : i = q := by omega
      omega
  · exact h j hj (by omega)
theorem seen_all {l : List Ot} {t y : Int} (hn : l.length ≤ 96) (ht : TickP t) (h : Seen l l.length) (hp : Prev l l.length y) : decide (y ≤ t) = rightB l t := by
  have hr : l.Pairwise (fun a b => a.y < b.y) := rise_of fun i hi => (h (i + 1) hi hi).2.2 i rfl
  have hg := List.pairwise_iff_getElem.1 hr
  by_cases hy : y ≤ t
  · rw [decide_eq_true hy]
    refine (rightB_t.2 ⟨hn, ht, fun x hx => ?_, ahead_of hr (List.pairwise_iff_getElem.2 fun i j hi hj hij => ?_)⟩).symm
    · obtain ⟨i, hi, rfl⟩ := List.mem_iff_getElem.1 hx
      refine ⟨(h i hi hi).1, ?_⟩
      rcases hp with ⟨e, _⟩ | ⟨q, hq, e, rfl⟩
      · omega
      · rcases Nat.lt_or_ge i q with hlt | hge
        · have := hg i q hi hq hlt
          omega
        · obtain rfl : i = q := by omega
          exact hy
    · have h2 := (h j hj hj).2.1
      rw [List.any_eq_false] at h2
      have h3 := h2 l[i] (List.mem_take_iff_getElem.2 ⟨i, by omega, rfl⟩)
      exact ofB_f.1 (by simpa using h3)
  · rw [decide_eq_false hy]
    refine (rightB_f.2 fun hR => hy ?_).symm
    rcases hp with ⟨e, rfl⟩ | ⟨q, hq, e, rfl⟩
    · exact ht.1
    · exact (hR.2.2.1 _ (List.getElem_mem hq)).2
theorem seen_any {l : List Ot} {t : Int} {k : Nat} (hk : k < l.length) (h : (l.take k).any (ofB l[k].k l[k].o) = true) : rightB l t = false := by
  obtain ⟨x, hx, hp⟩ := List.any_eq_true.1 h
  obtain ⟨i, hi, rfl⟩ := List.mem_take_iff_getElem.1 hx
  exact right_pair hk (by omega) (fun e => e.2 (ofB_t.1 hp))
theorem seen_low {l : List Ot} {t y : Int} {k : Nat} (hp : Prev l k y) (hk : k < l.length) (h1 : mayU l[k] = true) (h : l[k].y ≤ y) : rightB l t = false := by
  have := (mayU_t.1 h1).1
  rcases hp with ⟨e, rfl⟩ | ⟨q, hq, e, rfl⟩
  · omega
  · exact right_pair hk (j := q) (by omega) (fun e => by have := e.1; omega)
def SeenR (l : List Ot) (t : Int) (v : Value) (k : Nat) (y : Int) (w W : World) : Prop := Seen l k ∧ Prev l k y ∧ Below w.heap.size w W ∧ Box w.heap.size (bcs t v) W

set_option maxRecDepth 100000 in
set_option maxHeartbeats 8000000 in
theorem Right_any {v : Value} {l : List Ot} {w : World} (t : Int) (h : URow w v l) (hl : l.length ≤ 1000) : Calls Try.prog 11 #[bv t v] w (BoolB (rightB l t) w) := by
  obtain ⟨a, cap, rfl⟩ := h.slice
  have H := Lib.hid h
  have hx0 := Box.made w (bcs t (.slice a l.length cap)) 24
  have hb0 := al w (.cells #[.int .i64 t, .slice a l.length cap] 24)
  obtain ⟨W0, hW0⟩ : ∃ W, w.alloc (.cells #[.int .i64 t, .slice a l.length cap] 24) = W := ⟨_, rfl⟩
  have HX0 : Hid (Box w.heap.size (bcs t (.slice a l.length cap)) W0) := Lib.hid (hW0 ▸ hx0)
  have HB0 : Hid (Below w.heap.size w W0) := Lib.hid (hW0 ▸ hb0)
  have HT := Lib.hid (tick_any t)
  unfold bv
  clear h hx0 hb0
  by_cases h96 : 96 < l.length
  · rw [right_long h96]
    go_enter Try.func11, Try.ntmps11
    go_upto_region 1 with (fail)
    clear hW0
    obtain ⟨c0, c1⟩ := box2 HX0.out
    have hs0 := HX0.out.1
    go_wp2_with fail
    go_ret
    exact ⟨rfl, HB0.out⟩
  have h97 : ¬ ((l.length : Int) > 96) := by omega
  have H97 : Hid (l.length ≤ 96) := Lib.hid (by omega)
  clear h96
  by_cases ht : ¬ TickP t
  · rw [decide_eq_false ht] at HT
    rw [right_last ht]
    clear ht
    go_enter Try.func11, Try.ntmps11
    go_upto_region 1 with (fail)
    clear hW0
    obtain ⟨c0, c1⟩ := box2 HX0.out
    have hs0 := HX0.out.1
    go_wp2_with (go_at_call 23; (with_reducible refine (HT.out _).mono ?_); rintro e w' ⟨rfl, rfl⟩)
    go_ret
    exact ⟨rfl, HB0.out⟩
  replace ht := Decidable.not_not.1 ht
  rw [decide_eq_true ht] at HT
  have HTP := Lib.hid ht
  clear ht
  go_enter Try.func11, Try.ntmps11
  go_upto_region 1 with (fail)
  clear hW0
  obtain ⟨c0, c1⟩ := box2 HX0.out
  have hs0 := HX0.out.1
  go_wp2_with (go_at_call 23; (with_reducible refine (HT.out _).mono ?_); rintro e w' ⟨rfl, rfl⟩)
  clear c0 c1 hs0
  go_loopw [3, 4, 5, 19] (fun y _ _ i wr => ∃ (k : Nat) (z : Int), k ≤ l.length ∧ i = .int .i64 k ∧ y = .int .i64 z ∧ SeenR l t (.slice a l.length cap) k z w wr) (fun _ _ _ i _ => l.length - (Go.RowKit.intOf i).toNat)
  case atStart => exact ⟨0, 0, Nat.zero_le _, rfl, rfl, fun _ _ h => by omega, .inl ⟨rfl, rfl⟩, HB0.out, HX0.out⟩
  case round =>
    obtain ⟨k, z, hk, rfl, rfl, hr⟩ := hrel
    have HR := Lib.hid hr
    clear hr
    by_cases hlt : k < l.length
    · obtain ⟨_, hlc, hcap⟩ := URow.cap H.out
      have c1 : (0 : Int) ≤ k := by omega
      have c3 : (k : Int) ≤ cap := by omega
      obtain ⟨b, off, ea, _, _, hb, k0, k1, k2, k3⟩ := (H.out.below HR.out.2.2.1).at hlt
      subst ea
      have hbx := Box.made wr (ocs l[k]) 30
      have hb1 := al wr (.cells (ocs l[k]).toArray 30)
      have HM := Lib.hid (fun W => mayBe_any l[k] W)
      have HST := Lib.hid (seen_succ HR.out.1 HR.out.2.1 hlt)
      have HNM : Hid (mayU l[k] = false → rightB l t = false) := Lib.hid (fun h => right_may (t := t) hlt (fun e => by rw [h] at e; cases e.1))
      have HNK := Lib.hid (seen_low (t := t) HR.out.2.1 hlt)
      have HNA := Lib.hid (seen_any (t := t) hlt)
      have HPV : Hid (Prev l (k + 1) l[k].y) := Lib.hid (.inr ⟨k, hlt, rfl, rfl⟩)
      have HTK := Lib.hid (fun W (hb : Below w.heap.size w W) => isTold_any (URow.take (H.out.below hb) (n := k) (by omega)) (by rw [List.length_take]; omega) l[k].k l[k].o)
      generalize l[k] = x at *
      obtain ⟨W1, hW1⟩ : ∃ W, wr.alloc (.cells #[.int .i64 x.y, .int .i64 x.k, .int .i64 x.o, .int .i64 x.d] 30) = W := ⟨_, rfl⟩
      have HD1 : Hid (Below wr.heap.size wr W1) := Lib.hid (hW1 ▸ hb1)
      have HB1 : Hid (Below w.heap.size w W1) := Lib.hid (below_trans HR.out.2.2.1 (hW1 ▸ hb1))
      have HX1 : Hid (Box wr.heap.size (ocs x) W1) := Lib.hid (hW1 ▸ hbx)
      have HXB : Hid (Box w.heap.size (bcs t (.slice (some ⟨b, off, none⟩) l.length cap)) W1) := Lib.hid (HR.out.2.2.2.below HD1.out)
      unfold uv at HM
      generalize mayU x = m at *
      generalize (l.take k).any (ofB x.k x.o) = n at *
      clear hbx hb1
      cases m with
      | false =>
        have HNO2 := Lib.hid (HNM.out (by decide))
        clear HNM HNK HNA HST HTK HPV
        go_upto_region 7 with (fail)
        clear hW1
        refine wp_region_noPanic ?_
        refine wp_region_held_drew (S := fun W' => Below W1.heap.size W1 W') (by kernel_rfl) (dr W1) (fun hHeld => ?_)
        try simp only [Act.put, List.setIfInBounds_toArray, List.set_cons_zero, List.set_cons_succ]
        refine takeH 0 24 (.agg #[.int .i64 x.y, .int .i64 x.k, .int .i64 x.o, .int .i64 x.d]) calm_np rfl rfl (by kernel_rfl) (by kernel_rfl) (by kernel_rfl) (by rfl) (fun W' hSw => by have g0 := (show _ = some (Value.int .i64 x.y) from (HX1.out.below hSw).at 0 rfl); have g1 := (show _ = some (Value.int .i64 x.k) from (HX1.out.below hSw).at 1 rfl); have g2 := (show _ = some (Value.int .i64 x.o) from (HX1.out.below hSw).at 2 rfl); have g3 := (show _ = some (Value.int .i64 x.d) from (HX1.out.below hSw).at 3 rfl); have hsz := (HX1.out.below hSw).1; go_simp) hHeld ?_
        try simp only [Act.put, List.setIfInBounds_toArray, List.set_cons_zero, List.set_cons_succ]
        refine wpAnyH_ready (rs := [1]) (by kernel_rfl) (by simp) (AllReadyH.cons rfl (fun K hK => ?_) AllReadyH.nil)
        go_simp
        refine (HM.out _).mono ?_
        rintro e V1 ⟨rfl, hz⟩
        have hh := below_trans hHeld hz
        clear hz
        go_simp
        refine hK.out _ _ hh (fun hHeld => ?_)
        clear hK hh
        try simp only [Act.put, List.setIfInBounds_toArray, List.set_cons_zero, List.set_cons_succ]
        refine takeH 2 26 (.bool true) calm_np rfl rfl (by kernel_rfl) (by kernel_rfl) (by kernel_rfl) (by rfl) (fun W' hSw => by go_simp) hHeld ?_
        try simp only [Act.put, List.setIfInBounds_toArray, List.set_cons_zero, List.set_cons_succ]
        refine takeH 3 27 (.bool true) calm_np rfl rfl (by kernel_rfl) (by kernel_rfl) (by kernel_rfl) (by rfl) (fun W' hSw => by go_simp) hHeld ?_
        try simp only [Act.put, List.setIfInBounds_toArray, List.set_cons_zero, List.set_cons_succ]
        refine skipH 4 28 calm_np rfl rfl (by kernel_rfl) (by kernel_rfl) (by kernel_rfl) (by rfl) hHeld ?_
        try simp only [Act.put, List.setIfInBounds_toArray, List.set_cons_zero, List.set_cons_succ]
        refine skipH 5 29 calm_np rfl rfl (by kernel_rfl) (by kernel_rfl) (by kernel_rfl) (by rfl) hHeld ?_
        try simp only [Act.put, List.setIfInBounds_toArray, List.set_cons_zero, List.set_cons_succ]
        refine skipH 6 30 calm_np rfl rfl (by kernel_rfl) (by kernel_rfl) (by kernel_rfl) (by rfl) hHeld ?_
        try simp only [Act.put, List.setIfInBounds_toArray, List.set_cons_zero, List.set_cons_succ]
        refine skipH 7 31 calm_np rfl rfl (by kernel_rfl) (by kernel_rfl) (by kernel_rfl) (by rfl) hHeld ?_
        try simp only [Act.put, List.setIfInBounds_toArray, List.set_cons_zero, List.set_cons_succ]
        refine takeH 8 32 (.bool true) calm_np rfl rfl (by kernel_rfl) (by kernel_rfl) (by kernel_rfl) (by rfl) (fun W' hSw => by go_simp) hHeld ?_
        try simp only [Act.put, List.setIfInBounds_toArray, List.set_cons_zero, List.set_cons_succ]
        refine takeH 9 33 (.bool true) calm_np rfl rfl (by kernel_rfl) (by kernel_rfl) (by kernel_rfl) (by rfl) (fun W' hSw => by go_simp) hHeld ?_
        try simp only [Act.put, List.setIfInBounds_toArray, List.set_cons_zero, List.set_cons_succ]
        refine skipH 10 34 calm_np rfl rfl (by kernel_rfl) (by kernel_rfl) (by kernel_rfl) (by rfl) hHeld ?_
        try simp only [Act.put, List.setIfInBounds_toArray, List.set_cons_zero, List.set_cons_succ]
        refine skipH 11 35 calm_np rfl rfl (by kernel_rfl) (by kernel_rfl) (by kernel_rfl) (by rfl) hHeld ?_
        try simp only [Act.put, List.setIfInBounds_toArray, List.set_cons_zero, List.set_cons_succ]
        refine skipH 12 36 calm_np rfl rfl (by kernel_rfl) (by kernel_rfl) (by kernel_rfl) (by rfl) hHeld ?_
        try simp only [Act.put, List.setIfInBounds_toArray, List.set_cons_zero, List.set_cons_succ]
        refine skipH 13 37 calm_np rfl rfl (by kernel_rfl) (by kernel_rfl) (by kernel_rfl) (by rfl) hHeld ?_
        try simp only [Act.put, List.setIfInBounds_toArray, List.set_cons_zero, List.set_cons_succ]
        refine skipH 14 38 calm_np rfl rfl (by kernel_rfl) (by kernel_rfl) (by kernel_rfl) (by rfl) hHeld ?_
        try simp only [Act.put, List.setIfInBounds_toArray, List.set_cons_zero, List.set_cons_succ]
        refine skipH 15 39 calm_np rfl rfl (by kernel_rfl) (by kernel_rfl) (by kernel_rfl) (by rfl) hHeld ?_
        try simp only [Act.put, List.setIfInBounds_toArray, List.set_cons_zero, List.set_cons_succ]
        refine skipH 16 40 calm_np rfl rfl (by kernel_rfl) (by kernel_rfl) (by kernel_rfl) (by rfl) hHeld ?_
        try simp only [Act.put, List.setIfInBounds_toArray, List.set_cons_zero, List.set_cons_succ]
        refine skipH 17 41 calm_np rfl rfl (by kernel_rfl) (by kernel_rfl) (by kernel_rfl) (by rfl) hHeld ?_
        try simp only [Act.put, List.setIfInBounds_toArray, List.set_cons_zero, List.set_cons_succ]
        refine skipH 18 42 calm_np rfl rfl (by kernel_rfl) (by kernel_rfl) (by kernel_rfl) (by rfl) hHeld ?_
        try simp only [Act.put, List.setIfInBounds_toArray, List.set_cons_zero, List.set_cons_succ]
        refine takeH 19 43 (.bool true) calm_np rfl rfl (by kernel_rfl) (by kernel_rfl) (by kernel_rfl) (by rfl) (fun W' hSw => by go_simp) hHeld ?_
        try simp only [Act.put, List.setIfInBounds_toArray, List.set_cons_zero, List.set_cons_succ]
        refine wpAnyH_done (by kernel_rfl) ?_ _
        refine NoPanic.normal ?_
        have HH := Lib.hid hHeld
        clear hHeld
        go_wp2_with fail
        go_ret
        exact ⟨ret_bool HNO2.out.symm, below_trans HB1.out HH.out⟩
      | true =>
        by_cases hc : x.y ≤ z
        · have hd : decide (x.y ≤ z) = true := decide_eq_true hc
          have HNO2 := Lib.hid (HNK.out rfl hc)
          clear HNM HNK HNA HST HTK HPV
          go_upto_region 7 with (fail)
          clear hW1
          refine wp_region_noPanic ?_
          refine wp_region_held_drew (S := fun W' => Below W1.heap.size W1 W') (by kernel_rfl) (dr W1) (fun hHeld => ?_)
          try simp only [Act.put, List.setIfInBounds_toArray, List.set_cons_zero, List.set_cons_succ]
          refine takeH 0 24 (.agg #[.int .i64 x.y, .int .i64 x.k, .int .i64 x.o, .int .i64 x.d]) calm_np rfl rfl (by kernel_rfl) (by kernel_rfl) (by kernel_rfl) (by rfl) (fun W' hSw => by have g0 := (show _ = some (Value.int .i64 x.y) from (HX1.out.below hSw).at 0 rfl); have g1 := (show _ = some (Value.int .i64 x.k) from (HX1.out.below hSw).at 1 rfl); have g2 := (show _ = some (Value.int .i64 x.o) from (HX1.out.below hSw).at 2 rfl); have g3 := (show _ = some (Value.int .i64 x.d) from (HX1.out.below hSw).at 3 rfl); have hsz := (HX1.out.below hSw).1; go_simp) hHeld ?_
          try simp only [Act.put, List.setIfInBounds_toArray, List.set_cons_zero, List.set_cons_succ]
          refine wpAnyH_ready (rs := [1]) (by kernel_rfl) (by simp) (AllReadyH.cons rfl (fun K hK => ?_) AllReadyH.nil)
          go_simp
          refine (HM.out _).mono ?_
          rintro e V1 ⟨rfl, hz⟩
          have hh := below_trans hHeld hz
          clear hz
          go_simp
          refine hK.out _ _ hh (fun hHeld => ?_)
          clear hK hh
          try simp only [Act.put, List.setIfInBounds_toArray, List.set_cons_zero, List.set_cons_succ]
          refine takeH 2 26 (.bool false) calm_np rfl rfl (by kernel_rfl) (by kernel_rfl) (by kernel_rfl) (by rfl) (fun W' hSw => by go_simp) hHeld ?_
          try simp only [Act.put, List.setIfInBounds_toArray, List.set_cons_zero, List.set_cons_succ]
          refine takeH 3 27 (.bool false) calm_np rfl rfl (by kernel_rfl) (by kernel_rfl) (by kernel_rfl) (by rfl) (fun W' hSw => by go_simp) hHeld ?_
          try simp only [Act.put, List.setIfInBounds_toArray, List.set_cons_zero, List.set_cons_succ]
          refine takeH 4 28 (.pointer (some ⟨wr.heap.size, 0, none⟩)) calm_np rfl rfl (by kernel_rfl) (by kernel_rfl) (by kernel_rfl) (by rfl) (fun W' hSw => by go_simp) hHeld ?_
          try simp only [Act.put, List.setIfInBounds_toArray, List.set_cons_zero, List.set_cons_succ]
          refine takeH 5 29 (.int .i64 x.y) calm_np rfl rfl (by kernel_rfl) (by kernel_rfl) (by kernel_rfl) (by rfl) (fun W' hSw => by have g0 := (show _ = some (Value.int .i64 x.y) from (HX1.out.below hSw).at 0 rfl); have hsz := (HX1.out.below hSw).1; go_simp) hHeld ?_
          try simp only [Act.put, List.setIfInBounds_toArray, List.set_cons_zero, List.set_cons_succ]
          refine takeH 6 30 (.int .i64 z) calm_np rfl rfl (by kernel_rfl) (by kernel_rfl) (by kernel_rfl) (by rfl) (fun W' hSw => by go_simp) hHeld ?_
          try simp only [Act.put, List.setIfInBounds_toArray, List.set_cons_zero, List.set_cons_succ]
          refine takeH 7 31 (.bool true) calm_np rfl rfl (by kernel_rfl) (by kernel_rfl) (by kernel_rfl) (by rfl) (fun W' hSw => by go_simp) hHeld ?_
          try simp only [Act.put, List.setIfInBounds_toArray, List.set_cons_zero, List.set_cons_succ]
          refine takeH 8 32 (.bool true) calm_np rfl rfl (by kernel_rfl) (by kernel_rfl) (by kernel_rfl) (by rfl) (fun W' hSw => by go_simp) hHeld ?_
          try simp only [Act.put, List.setIfInBounds_toArray, List.set_cons_zero, List.set_cons_succ]
          refine takeH 9 33 (.bool true) calm_np rfl rfl (by kernel_rfl) (by kernel_rfl) (by kernel_rfl) (by rfl) (fun W' hSw => by go_simp) hHeld ?_
          try simp only [Act.put, List.setIfInBounds_toArray, List.set_cons_zero, List.set_cons_succ]
          refine skipH 10 34 calm_np rfl rfl (by kernel_rfl) (by kernel_rfl) (by kernel_rfl) (by rfl) hHeld ?_
          try simp only [Act.put, List.setIfInBounds_toArray, List.set_cons_zero, List.set_cons_succ]
          refine skipH 11 35 calm_np rfl rfl (by kernel_rfl) (by kernel_rfl) (by kernel_rfl) (by rfl) hHeld ?_
          try simp only [Act.put, List.setIfInBounds_toArray, List.set_cons_zero, List.set_cons_succ]
          refine skipH 12 36 calm_np rfl rfl (by kernel_rfl) (by kernel_rfl) (by kernel_rfl) (by rfl) hHeld ?_
          try simp only [Act.put, List.setIfInBounds_toArray, List.set_cons_zero, List.set_cons_succ]
          refine skipH 13 37 calm_np rfl rfl (by kernel_rfl) (by kernel_rfl) (by kernel_rfl) (by rfl) hHeld ?_
          try simp only [Act.put, List.setIfInBounds_toArray, List.set_cons_zero, List.set_cons_succ]
          refine skipH 14 38 calm_np rfl rfl (by kernel_rfl) (by kernel_rfl) (by kernel_rfl) (by rfl) hHeld ?_
          try simp only [Act.put, List.setIfInBounds_toArray, List.set_cons_zero, List.set_cons_succ]
          refine skipH 15 39 calm_np rfl rfl (by kernel_rfl) (by kernel_rfl) (by kernel_rfl) (by rfl) hHeld ?_
          try simp only [Act.put, List.setIfInBounds_toArray, List.set_cons_zero, List.set_cons_succ]
          refine skipH 16 40 calm_np rfl rfl (by kernel_rfl) (by kernel_rfl) (by kernel_rfl) (by rfl) hHeld ?_
          try simp only [Act.put, List.setIfInBounds_toArray, List.set_cons_zero, List.set_cons_succ]
          refine skipH 17 41 calm_np rfl rfl (by kernel_rfl) (by kernel_rfl) (by kernel_rfl) (by rfl) hHeld ?_
          try simp only [Act.put, List.setIfInBounds_toArray, List.set_cons_zero, List.set_cons_succ]
          refine skipH 18 42 calm_np rfl rfl (by kernel_rfl) (by kernel_rfl) (by kernel_rfl) (by rfl) hHeld ?_
          try simp only [Act.put, List.setIfInBounds_toArray, List.set_cons_zero, List.set_cons_succ]
          refine takeH 19 43 (.bool true) calm_np rfl rfl (by kernel_rfl) (by kernel_rfl) (by kernel_rfl) (by rfl) (fun W' hSw => by go_simp) hHeld ?_
          try simp only [Act.put, List.setIfInBounds_toArray, List.set_cons_zero, List.set_cons_succ]
          refine wpAnyH_done (by kernel_rfl) ?_ _
          refine NoPanic.normal ?_
          have HH := Lib.hid hHeld
          clear hHeld
          go_wp2_with fail
          go_ret
          exact ⟨ret_bool HNO2.out.symm, below_trans HB1.out HH.out⟩
        · have hd : decide (x.y ≤ z) = false := decide_eq_false hc
          cases n with
          | true =>
            have HNO2 := Lib.hid (HNA.out rfl)
            clear HNM HNK HNA HST HPV hc
            go_upto_region 7 with (fail)
            clear hW1
            refine wp_region_noPanic ?_
            refine wp_region_held_drew (S := fun W' => Below W1.heap.size W1 W') (by kernel_rfl) (dr W1) (fun hHeld => ?_)
            try simp only [Act.put, List.setIfInBounds_toArray, List.set_cons_zero, List.set_cons_succ]
            refine takeH 0 24 (.agg #[.int .i64 x.y, .int .i64 x.k, .int .i64 x.o, .int .i64 x.d]) calm_np rfl rfl (by kernel_rfl) (by kernel_rfl) (by kernel_rfl) (by rfl) (fun W' hSw => by have g0 := (show _ = some (Value.int .i64 x.y) from (HX1.out.below hSw).at 0 rfl); have g1 := (show _ = some (Value.int .i64 x.k) from (HX1.out.below hSw).at 1 rfl); have g2 := (show _ = some (Value.int .i64 x.o) from (HX1.out.below hSw).at 2 rfl); have g3 := (show _ = some (Value.int .i64 x.d) from (HX1.out.below hSw).at 3 rfl); have hsz := (HX1.out.below hSw).1; go_simp) hHeld ?_
            try simp only [Act.put, List.setIfInBounds_toArray, List.set_cons_zero, List.set_cons_succ]
            refine wpAnyH_ready (rs := [1]) (by kernel_rfl) (by simp) (AllReadyH.cons rfl (fun K hK => ?_) AllReadyH.nil)
            go_simp
            refine (HM.out _).mono ?_
            rintro e V1 ⟨rfl, hz⟩
            have hh := below_trans hHeld hz
            clear hz
            go_simp
            refine hK.out _ _ hh (fun hHeld => ?_)
            clear hK hh
            try simp only [Act.put, List.setIfInBounds_toArray, List.set_cons_zero, List.set_cons_succ]
            refine takeH 2 26 (.bool false) calm_np rfl rfl (by kernel_rfl) (by kernel_rfl) (by kernel_rfl) (by rfl) (fun W' hSw => by go_simp) hHeld ?_
            try simp only [Act.put, List.setIfInBounds_toArray, List.set_cons_zero, List.set_cons_succ]
            refine takeH 3 27 (.bool false) calm_np rfl rfl (by kernel_rfl) (by kernel_rfl) (by kernel_rfl) (by rfl) (fun W' hSw => by go_simp) hHeld ?_
            try simp only [Act.put, List.setIfInBounds_toArray, List.set_cons_zero, List.set_cons_succ]
            refine takeH 4 28 (.pointer (some ⟨wr.heap.size, 0, none⟩)) calm_np rfl rfl (by kernel_rfl) (by kernel_rfl) (by kernel_rfl) (by rfl) (fun W' hSw => by go_simp) hHeld ?_
            try simp only [Act.put, List.setIfInBounds_toArray, List.set_cons_zero, List.set_cons_succ]
            refine takeH 5 29 (.int .i64 x.y) calm_np rfl rfl (by kernel_rfl) (by kernel_rfl) (by kernel_rfl) (by rfl) (fun W' hSw => by have g0 := (show _ = some (Value.int .i64 x.y) from (HX1.out.below hSw).at 0 rfl); have hsz := (HX1.out.below hSw).1; go_simp) hHeld ?_
            try simp only [Act.put, List.setIfInBounds_toArray, List.set_cons_zero, List.set_cons_succ]
            refine takeH 6 30 (.int .i64 z) calm_np rfl rfl (by kernel_rfl) (by kernel_rfl) (by kernel_rfl) (by rfl) (fun W' hSw => by go_simp) hHeld ?_
            try simp only [Act.put, List.setIfInBounds_toArray, List.set_cons_zero, List.set_cons_succ]
            refine takeH 7 31 (.bool false) calm_np rfl rfl (by kernel_rfl) (by kernel_rfl) (by kernel_rfl) (by rfl) (fun W' hSw => by go_simp) hHeld ?_
            try simp only [Act.put, List.setIfInBounds_toArray, List.set_cons_zero, List.set_cons_succ]
            refine takeH 8 32 (.bool false) calm_np rfl rfl (by kernel_rfl) (by kernel_rfl) (by kernel_rfl) (by rfl) (fun W' hSw => by go_simp) hHeld ?_
            try simp only [Act.put, List.setIfInBounds_toArray, List.set_cons_zero, List.set_cons_succ]
            refine takeH 9 33 (.bool false) calm_np rfl rfl (by kernel_rfl) (by kernel_rfl) (by kernel_rfl) (by rfl) (fun W' hSw => by go_simp) hHeld ?_
            try simp only [Act.put, List.setIfInBounds_toArray, List.set_cons_zero, List.set_cons_succ]
            refine takeH 10 34 (.pointer (some ⟨w.heap.size, 1, none⟩)) calm_np rfl rfl (by kernel_rfl) (by kernel_rfl) (by kernel_rfl) (by rfl) (fun W' hSw => by go_simp) hHeld ?_
            try simp only [Act.put, List.setIfInBounds_toArray, List.set_cons_zero, List.set_cons_succ]
            refine takeH 11 35 (.slice (some ⟨b, off, none⟩) l.length cap) calm_np rfl rfl (by kernel_rfl) (by kernel_rfl) (by kernel_rfl) (by rfl) (fun W' hSw => by have g0 := (show _ = some (Value.slice (some ⟨b, off, none⟩) l.length cap) from (HXB.out.below hSw).at 1 rfl); have hsz := (HXB.out.below hSw).1; go_simp) hHeld ?_
            try simp only [Act.put, List.setIfInBounds_toArray, List.set_cons_zero, List.set_cons_succ]
            refine takeH 12 36 (.int .i64 k) calm_np rfl rfl (by kernel_rfl) (by kernel_rfl) (by kernel_rfl) (by rfl) (fun W' hSw => by go_simp) hHeld ?_
            try simp only [Act.put, List.setIfInBounds_toArray, List.set_cons_zero, List.set_cons_succ]
            refine takeH 13 37 (.slice (some ⟨b, off, none⟩) k cap) calm_np rfl rfl (by kernel_rfl) (by kernel_rfl) (by kernel_rfl) (by rfl) (fun W' hSw => by go_simp) hHeld ?_
            try simp only [Act.put, List.setIfInBounds_toArray, List.set_cons_zero, List.set_cons_succ]
            refine takeH 14 38 (.pointer (some ⟨wr.heap.size, 1, none⟩)) calm_np rfl rfl (by kernel_rfl) (by kernel_rfl) (by kernel_rfl) (by rfl) (fun W' hSw => by go_simp) hHeld ?_
            try simp only [Act.put, List.setIfInBounds_toArray, List.set_cons_zero, List.set_cons_succ]
            refine takeH 15 39 (.int .i64 x.k) calm_np rfl rfl (by kernel_rfl) (by kernel_rfl) (by kernel_rfl) (by rfl) (fun W' hSw => by have g0 := (show _ = some (Value.int .i64 x.k) from (HX1.out.below hSw).at 1 rfl); have hsz := (HX1.out.below hSw).1; go_simp) hHeld ?_
            try simp only [Act.put, List.setIfInBounds_toArray, List.set_cons_zero, List.set_cons_succ]
            refine takeH 16 40 (.pointer (some ⟨wr.heap.size, 2, none⟩)) calm_np rfl rfl (by kernel_rfl) (by kernel_rfl) (by kernel_rfl) (by rfl) (fun W' hSw => by go_simp) hHeld ?_
            try simp only [Act.put, List.setIfInBounds_toArray, List.set_cons_zero, List.set_cons_succ]
            refine takeH 17 41 (.int .i64 x.o) calm_np rfl rfl (by kernel_rfl) (by kernel_rfl) (by kernel_rfl) (by rfl) (fun W' hSw => by have g0 := (show _ = some (Value.int .i64 x.o) from (HX1.out.below hSw).at 2 rfl); have hsz := (HX1.out.below hSw).1; go_simp) hHeld ?_
            try simp only [Act.put, List.setIfInBounds_toArray, List.set_cons_zero, List.set_cons_succ]
            refine wpAnyH_ready (rs := [18]) (by kernel_rfl) (by simp) (AllReadyH.cons rfl (fun K hK => ?_) AllReadyH.nil)
            go_simp
            refine (HTK.out _ (below_trans HB1.out hHeld)).mono ?_
            rintro e V2 ⟨rfl, hz⟩
            have hh := below_trans hHeld hz
            clear hz
            go_simp
            refine hK.out _ _ hh (fun hHeld => ?_)
            clear hK hh
            try simp only [Act.put, List.setIfInBounds_toArray, List.set_cons_zero, List.set_cons_succ]
            refine takeH 19 43 (.bool true) calm_np rfl rfl (by kernel_rfl) (by kernel_rfl) (by kernel_rfl) (by rfl) (fun W' hSw => by go_simp) hHeld ?_
            try simp only [Act.put, List.setIfInBounds_toArray, List.set_cons_zero, List.set_cons_succ]
            refine wpAnyH_done (by kernel_rfl) ?_ _
            refine NoPanic.normal ?_
            have HH := Lib.hid hHeld
            clear hHeld
            go_wp2_with fail
            go_ret
            exact ⟨ret_bool HNO2.out.symm, below_trans HB1.out HH.out⟩
          | false =>
            have HSS := Lib.hid (HST.out rfl hc rfl)
            clear HNM HNK HNA HST hc
            go_upto_region 7 with (fail)
            clear hW1
            refine wp_region_noPanic ?_
            refine wp_region_held_drew (S := fun W' => Below W1.heap.size W1 W') (by kernel_rfl) (dr W1) (fun hHeld => ?_)
            try simp only [Act.put, List.setIfInBounds_toArray, List.set_cons_zero, List.set_cons_succ]
            refine takeH 0 24 (.agg #[.int .i64 x.y, .int .i64 x.k, .int .i64 x.o, .int .i64 x.d]) calm_np rfl rfl (by kernel_rfl) (by kernel_rfl) (by kernel_rfl) (by rfl) (fun W' hSw => by have g0 := (show _ = some (Value.int .i64 x.y) from (HX1.out.below hSw).at 0 rfl); have g1 := (show _ = some (Value.int .i64 x.k) from (HX1.out.below hSw).at 1 rfl); have g2 := (show _ = some (Value.int .i64 x.o) from (HX1.out.below hSw).at 2 rfl); have g3 := (show _ = some (Value.int .i64 x.d) from (HX1.out.below hSw).at 3 rfl); have hsz := (HX1.out.below hSw).1; go_simp) hHeld ?_
            try simp only [Act.put, List.setIfInBounds_toArray, List.set_cons_zero, List.set_cons_succ]
            refine wpAnyH_ready (rs := [1]) (by kernel_rfl) (by simp) (AllReadyH.cons rfl (fun K hK => ?_) AllReadyH.nil)
            go_simp
            refine (HM.out _).mono ?_
            rintro e V1 ⟨rfl, hz⟩
            have hh := below_trans hHeld hz
            clear hz
            go_simp
            refine hK.out _ _ hh (fun hHeld => ?_)
            clear hK hh
            try simp only [Act.put, List.setIfInBounds_toArray, List.set_cons_zero, List.set_cons_succ]
            refine takeH 2 26 (.bool false) calm_np rfl rfl (by kernel_rfl) (by kernel_rfl) (by kernel_rfl) (by rfl) (fun W' hSw => by go_simp) hHeld ?_
            try simp only [Act.put, List.setIfInBounds_toArray, List.set_cons_zero, List.set_cons_succ]
            refine takeH 3 27 (.bool false) calm_np rfl rfl (by kernel_rfl) (by kernel_rfl) (by kernel_rfl) (by rfl) (fun W' hSw => by go_simp) hHeld ?_
            try simp only [Act.put, List.setIfInBounds_toArray, List.set_cons_zero, List.set_cons_succ]
            refine takeH 4 28 (.pointer (some ⟨wr.heap.size, 0, none⟩)) calm_np rfl rfl (by kernel_rfl) (by kernel_rfl) (by kernel_rfl) (by rfl) (fun W' hSw => by go_simp) hHeld ?_
            try simp only [Act.put, List.setIfInBounds_toArray, List.set_cons_zero, List.set_cons_succ]
            refine takeH 5 29 (.int .i64 x.y) calm_np rfl rfl (by kernel_rfl) (by kernel_rfl) (by kernel_rfl) (by rfl) (fun W' hSw => by have g0 := (show _ = some (Value.int .i64 x.y) from (HX1.out.below hSw).at 0 rfl); have hsz := (HX1.out.below hSw).1; go_simp) hHeld ?_
            try simp only [Act.put, List.setIfInBounds_toArray, List.set_cons_zero, List.set_cons_succ]
            refine takeH 6 30 (.int .i64 z) calm_np rfl rfl (by kernel_rfl) (by kernel_rfl) (by kernel_rfl) (by rfl) (fun W' hSw => by go_simp) hHeld ?_
            try simp only [Act.put, List.setIfInBounds_toArray, List.set_cons_zero, List.set_cons_succ]
            refine takeH 7 31 (.bool false) calm_np rfl rfl (by kernel_rfl) (by kernel_rfl) (by kernel_rfl) (by rfl) (fun W' hSw => by go_simp) hHeld ?_
            try simp only [Act.put, List.setIfInBounds_toArray, List.set_cons_zero, List.set_cons_succ]
            refine takeH 8 32 (.bool false) calm_np rfl rfl (by kernel_rfl) (by kernel_rfl) (by kernel_rfl) (by rfl) (fun W' hSw => by go_simp) hHeld ?_
            try simp only [Act.put, List.setIfInBounds_toArray, List.set_cons_zero, List.set_cons_succ]
            refine takeH 9 33 (.bool false) calm_np rfl rfl (by kernel_rfl) (by kernel_rfl) (by kernel_rfl) (by rfl) (fun W' hSw => by go_simp) hHeld ?_
            try simp only [Act.put, List.setIfInBounds_toArray, List.set_cons_zero, List.set_cons_succ]
            refine takeH 10 34 (.pointer (some ⟨w.heap.size, 1, none⟩)) calm_np rfl rfl (by kernel_rfl) (by kernel_rfl) (by kernel_rfl) (by rfl) (fun W' hSw => by go_simp) hHeld ?_
            try simp only [Act.put, List.setIfInBounds_toArray, List.set_cons_zero, List.set_cons_succ]
            refine takeH 11 35 (.slice (some ⟨b, off, none⟩) l.length cap) calm_np rfl rfl (by kernel_rfl) (by kernel_rfl) (by kernel_rfl) (by rfl) (fun W' hSw => by have g0 := (show _ = some (Value.slice (some ⟨b, off, none⟩) l.length cap) from (HXB.out.below hSw).at 1 rfl); have hsz := (HXB.out.below hSw).1; go_simp) hHeld ?_
            try simp only [Act.put, List.setIfInBounds_toArray, List.set_cons_zero, List.set_cons_succ]
            refine takeH 12 36 (.int .i64 k) calm_np rfl rfl (by kernel_rfl) (by kernel_rfl) (by kernel_rfl) (by rfl) (fun W' hSw => by go_simp) hHeld ?_
            try simp only [Act.put, List.setIfInBounds_toArray, List.set_cons_zero, List.set_cons_succ]
            refine takeH 13 37 (.slice (some ⟨b, off, none⟩) k cap) calm_np rfl rfl (by kernel_rfl) (by kernel_rfl) (by kernel_rfl) (by rfl) (fun W' hSw => by go_simp) hHeld ?_
            try simp only [Act.put, List.setIfInBounds_toArray, List.set_cons_zero, List.set_cons_succ]
            refine takeH 14 38 (.pointer (some ⟨wr.heap.size, 1, none⟩)) calm_np rfl rfl (by kernel_rfl) (by kernel_rfl) (by kernel_rfl) (by rfl) (fun W' hSw => by go_simp) hHeld ?_
            try simp only [Act.put, List.setIfInBounds_toArray, List.set_cons_zero, List.set_cons_succ]
            refine takeH 15 39 (.int .i64 x.k) calm_np rfl rfl (by kernel_rfl) (by kernel_rfl) (by kernel_rfl) (by rfl) (fun W' hSw => by have g0 := (show _ = some (Value.int .i64 x.k) from (HX1.out.below hSw).at 1 rfl); have hsz := (HX1.out.below hSw).1; go_simp) hHeld ?_
            try simp only [Act.put, List.setIfInBounds_toArray, List.set_cons_zero, List.set_cons_succ]
            refine takeH 16 40 (.pointer (some ⟨wr.heap.size, 2, none⟩)) calm_np rfl rfl (by kernel_rfl) (by kernel_rfl) (by kernel_rfl) (by rfl) (fun W' hSw => by go_simp) hHeld ?_
            try simp only [Act.put, List.setIfInBounds_toArray, List.set_cons_zero, List.set_cons_succ]
            refine takeH 17 41 (.int .i64 x.o) calm_np rfl rfl (by kernel_rfl) (by kernel_rfl) (by kernel_rfl) (by rfl) (fun W' hSw => by have g0 := (show _ = some (Value.int .i64 x.o) from (HX1.out.below hSw).at 2 rfl); have hsz := (HX1.out.below hSw).1; go_simp) hHeld ?_
            try simp only [Act.put, List.setIfInBounds_toArray, List.set_cons_zero, List.set_cons_succ]
            refine wpAnyH_ready (rs := [18]) (by kernel_rfl) (by simp) (AllReadyH.cons rfl (fun K hK => ?_) AllReadyH.nil)
            go_simp
            refine (HTK.out _ (below_trans HB1.out hHeld)).mono ?_
            rintro e V2 ⟨rfl, hz⟩
            have hh := below_trans hHeld hz
            clear hz
            go_simp
            refine hK.out _ _ hh (fun hHeld => ?_)
            clear hK hh
            try simp only [Act.put, List.setIfInBounds_toArray, List.set_cons_zero, List.set_cons_succ]
            refine takeH 19 43 (.bool false) calm_np rfl rfl (by kernel_rfl) (by kernel_rfl) (by kernel_rfl) (by rfl) (fun W' hSw => by go_simp) hHeld ?_
            try simp only [Act.put, List.setIfInBounds_toArray, List.set_cons_zero, List.set_cons_succ]
            refine wpAnyH_done (by kernel_rfl) ?_ _
            refine NoPanic.normal ?_
            have HH := Lib.hid hHeld
            clear hHeld
            have hx9 := HX1.out.below HH.out
            obtain ⟨d0, d1, d2, d3⟩ := box4 hx9
            have hs9 := hx9.1
            clear hx9
            go_wp2_with fail
            go_roundw
            case rel => exact ⟨k + 1, x.y, by omega, by go_num, rfl, HSS.out, HPV.out, below_trans HB1.out HH.out, HXB.out.below HH.out⟩
            case measure => simp [Go.RowKit.intOf]; omega
    · obtain rfl : k = l.length := by omega
      have HA := Lib.hid (seen_all H97.out HTP.out HR.out.1 HR.out.2.1)
      obtain ⟨c0, c1⟩ := box2 HR.out.2.2.2
      have hs0 := HR.out.2.2.2.1
      go_wp2
      go_ret
      exact ⟨ret_bool HA.out, HR.out.2.2.1⟩
end Go.Proofs.Ytlhepocjcdbhjaa.Outbox
