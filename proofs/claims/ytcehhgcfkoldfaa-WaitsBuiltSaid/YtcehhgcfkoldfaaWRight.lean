/-
  Contracts of package waits: whether lines rise (rises), may be (mayBe), are an index (Right).
-/
import Derived.Test.YtcehhgcfkoldfaaWHand
namespace Go.Proofs.Ytcehhgcfkoldfaa.Waits
open Go.ChangeShapes Go.WideShapes Go.ChangeAt Go.RowKit Go.Shelf
open Go.Proofs.Ytcehhgcfkoldfaa.Goods
open Go.Proofs.Ytcehhgcfkoldfaa.Queue (Wt ltB wv QRow)

set_option maxRecDepth 100000 in
set_option maxHeartbeats 1000000 in
theorem rises_any {v : Value} {l : List Ln} {w : World} (h : LRow w v l) (_hl : l.length ≤ 1000) : Calls Try.prog 33 #[v] w (BoolB (risesB ltL l) w) := by
  obtain ⟨a, cap, rfl⟩ := h.slice
  have H := Lib.hid h
  clear h
  go_enter Try.func33, Try.ntmps33
  go_wp2
  go_loopw [3] (fun i wr => ∃ k : Nat, 1 ≤ k ∧ (k ≤ l.length ∨ k = 1) ∧ i = .int .i64 k ∧ RiseR ltL l k w wr) (fun i _ => l.length + 1 - (Go.RowKit.intOf i).toNat)
  case atStart => exact ⟨1, Nat.le_refl _, .inr rfl, rfl, fun j _ h => by omega, Below.refl _ _⟩
  case round =>
    obtain ⟨k, hk1, hk, rfl, hr⟩ := hrel
    have HR := Lib.hid hr
    clear hr
    by_cases hlt : k < l.length
    · obtain ⟨q, rfl⟩ : ∃ q, k = q + 1 := ⟨k - 1, by omega⟩
      have hq : q < l.length := by omega
      obtain ⟨b, off, rfl, hlc, hcap, hb, k0, k1, k2, k3⟩ := (H.out.below HR.out.2).at hlt
      obtain ⟨b', off', e', _, _, _, m0, m1, m2, m3⟩ := (H.out.below HR.out.2).at hq
      cases e'
      have hn := fun W => Waits.below_any l[q] l[q + 1] W
      unfold lv at hn
      have HUP := Lib.hid (fun e => upto_succ (lt := ltL) HR.out.1 hk1 hlt e)
      have HNO := Lib.hid (fun e => rises_no (lt := ltL) hk1 hlt e)
      simp only [Nat.add_sub_cancel] at HUP HNO
      have c2 : IntKind.i64.wrap (q : Int) = q := IntWalk.i64_in _ (by omega)
      have c3 : (0 : Int) ≤ q := by omega
      have c4 : (q : Int) < l.length := by omega
      have c5 : (0 : Int) ≤ (q : Int) + 1 := by omega
      have c6 : (q : Int) + 1 < l.length := by omega
      have HSF : Hid (∀ w', Below wr.heap.size wr w' → w'.cell? ⟨b, off + (q + 1) * 4, none⟩ = some (.string l[q + 1].k) ∧ w'.cell? ⟨b, off + (q + 1) * 4 + 1, none⟩ = some (.int .i64 l[q + 1].w.c) ∧ w'.cell? ⟨b, off + (q + 1) * 4 + 2, none⟩ = some (.int .i64 l[q + 1].w.s) ∧ w'.cell? ⟨b, off + (q + 1) * 4 + 3, none⟩ = some (.int .i64 l[q + 1].w.o) ∧ w'.cell? ⟨b, off + q * 4, none⟩ = some (.string l[q].k) ∧ w'.cell? ⟨b, off + q * 4 + 1, none⟩ = some (.int .i64 l[q].w.c) ∧ w'.cell? ⟨b, off + q * 4 + 2, none⟩ = some (.int .i64 l[q].w.s) ∧ w'.cell? ⟨b, off + q * 4 + 3, none⟩ = some (.int .i64 l[q].w.o)) := Lib.hid (fun w' hz => ⟨(hz.cell (p := ⟨b, _, none⟩) hb).trans k0, (hz.cell (p := ⟨b, _, none⟩) hb).trans k1, (hz.cell (p := ⟨b, _, none⟩) hb).trans k2, (hz.cell (p := ⟨b, _, none⟩) hb).trans k3, (hz.cell (p := ⟨b, _, none⟩) hb).trans m0, (hz.cell (p := ⟨b, _, none⟩) hb).trans m1, (hz.cell (p := ⟨b, _, none⟩) hb).trans m2, (hz.cell (p := ⟨b, _, none⟩) hb).trans m3⟩)
      generalize l[q] = x at *
      generalize l[q + 1] = y at *
      cases hm : ltL x y with
      | true =>
        rw [hm] at hn
        have HN := Lib.hid hn
        have HUP2 := Lib.hid (HUP.out hm)
        clear hm hn HNO HUP
        go_wp2_with fail
        go_region_held3 (fun w' => w'.cell? ⟨b, off + (q + 1) * 4, none⟩ = some (.string y.k) ∧ w'.cell? ⟨b, off + (q + 1) * 4 + 1, none⟩ = some (.int .i64 y.w.c) ∧ w'.cell? ⟨b, off + (q + 1) * 4 + 2, none⟩ = some (.int .i64 y.w.s) ∧ w'.cell? ⟨b, off + (q + 1) * 4 + 3, none⟩ = some (.int .i64 y.w.o) ∧ w'.cell? ⟨b, off + q * 4, none⟩ = some (.string x.k) ∧ w'.cell? ⟨b, off + q * 4 + 1, none⟩ = some (.int .i64 x.w.c) ∧ w'.cell? ⟨b, off + q * 4 + 2, none⟩ = some (.int .i64 x.w.s) ∧ w'.cell? ⟨b, off + q * 4 + 3, none⟩ = some (.int .i64 x.w.o)) (first | with_reducible exact HSF.out _ (dr wr) | with_reducible exact HSF.out _ HZ.out | fail)
          (first
            | (go_at_call 47; (with_reducible refine (HN.out _).mono ?_); rintro e w5 ⟨rfl, hz⟩; have HZ := Lib.hid (below_trans (dr wr) hz); clear hz)
            | fail)
        go_wp2_with fail
        go_roundw
        case rel => exact ⟨q + 1 + 1, by omega, by omega, by go_num, HUP2.out, below_trans HR.out.2 HZ.out⟩
        case measure => simp [Go.RowKit.intOf]; omega
      | false =>
        rw [hm] at hn
        have HN := Lib.hid hn
        have HNO2 := Lib.hid (HNO.out hm)
        clear hm hn HNO HUP
        go_wp2_with fail
        go_region_held3 (fun w' => w'.cell? ⟨b, off + (q + 1) * 4, none⟩ = some (.string y.k) ∧ w'.cell? ⟨b, off + (q + 1) * 4 + 1, none⟩ = some (.int .i64 y.w.c) ∧ w'.cell? ⟨b, off + (q + 1) * 4 + 2, none⟩ = some (.int .i64 y.w.s) ∧ w'.cell? ⟨b, off + (q + 1) * 4 + 3, none⟩ = some (.int .i64 y.w.o) ∧ w'.cell? ⟨b, off + q * 4, none⟩ = some (.string x.k) ∧ w'.cell? ⟨b, off + q * 4 + 1, none⟩ = some (.int .i64 x.w.c) ∧ w'.cell? ⟨b, off + q * 4 + 2, none⟩ = some (.int .i64 x.w.s) ∧ w'.cell? ⟨b, off + q * 4 + 3, none⟩ = some (.int .i64 x.w.o)) (first | with_reducible exact HSF.out _ (dr wr) | with_reducible exact HSF.out _ HZ.out | fail)
          (first
            | (go_at_call 47; (with_reducible refine (HN.out _).mono ?_); rintro e w5 ⟨rfl, hz⟩; have HZ := Lib.hid (below_trans (dr wr) hz); clear hz)
            | fail)
        go_wp2_with fail
        go_ret
        exact ⟨ret_bool HNO2.out.symm, below_trans HR.out.2 HZ.out⟩
    · have HY : Hid (risesB ltL l = true) := Lib.hid (rises_yes (lt := ltL) (fun _ _ _ h1 h2 => ltL_trans h1 h2) HR.out.1 (by omega))
      go_wp2
      go_ret
      exact ⟨ret_bool HY.out.symm, HR.out.2⟩

/-- Lines that are not too long. -/
def Brief (l : List Ln) : Prop := l.length ≤ 1000 ∧ ∀ x ∈ l, x.k.size ≤ 1000000
/-- So far all may be. -/
def MayS (l : List Ln) (k : Nat) (w W : World) : Prop := (∀ j (h : j < l.length), j < k → mayL l[j] = true ∧ Waits.twiceB (l.take j) l[j] = false) ∧ Below w.heap.size w W
theorem may_succ {l : List Ln} {k : Nat} {w W : World} (h : MayS l k w W) (hk : k < l.length) (h1 : mayL l[k] = true) (h2 : Waits.twiceB (l.take k) l[k] = false) : ∀ j (h : j < l.length), j < k + 1 → mayL l[j] = true ∧ Waits.twiceB (l.take j) l[j] = false := fun j hj hjk => by
  by_cases e : j = k
  · subst e; exact ⟨h1, h2⟩
  · exact h.1 j hj (by omega)

set_option maxRecDepth 100000 in
set_option maxHeartbeats 2000000 in
theorem mayBe_any {v : Value} {l : List Ln} {w : World} (h : LRow w v l) (hl : Brief l) : Calls Try.prog 29 #[v] w (BoolB (Waits.allB l) w) := by
  obtain ⟨a, cap, rfl⟩ := h.slice
  have H := Lib.hid h
  have HX := Lib.hid hl.2
  have hl1 := hl.1
  clear h hl
  by_cases h32 : 32 < l.length
  · rw [all_long h32]
    go_enter Try.func29, Try.ntmps29
    go_wp2
    go_ret
    exact ⟨rfl, Below.refl _ _⟩
  have h33 : l.length ≤ 32 := by omega
  go_enter Try.func29, Try.ntmps29
  go_wp2
  go_loopw [3, 4, 10] (fun _ _ i wr => ∃ k : Nat, k ≤ l.length ∧ i = .int .i64 k ∧ MayS l k w wr) (fun _ _ i _ => l.length - (Go.RowKit.intOf i).toNat)
  case atStart => exact ⟨0, Nat.zero_le _, rfl, fun _ _ h => by omega, Below.refl _ _⟩
  case round =>
    obtain ⟨k, hk, rfl, hr⟩ := hrel
    have HR := Lib.hid hr
    clear hr
    by_cases hlt : k < l.length
    · obtain ⟨hlc, hcap⟩ := H.out.cap.2
      have c1 : (0 : Int) ≤ k := by omega
      have c3 : (k : Int) ≤ cap := by omega
      obtain ⟨b, off, rfl, _, _, hb, k0, k1, k2, k3⟩ := (H.out.below HR.out.2).at hlt
      have hsz := HX.out _ (List.getElem_mem hlt)
      have hbx := Box.made wr (lcs l[k]) 26
      have hb1 := al wr (.cells (lcs l[k]).toArray 26)
      have HM := Lib.hid (fun W => lineMayBe_any l[k] hsz W)
      have HST := Lib.hid (may_succ HR.out hlt)
      have HNO := Lib.hid (Waits.all_not hlt)
      have HTK := Lib.hid (fun W (hb : Below w.heap.size w W) => clashes_any ((H.out.below hb).take (n := k) (by omega)) (by rw [List.length_take]; omega) l[k])
      generalize l[k] = x at *
      obtain ⟨W1, hW1⟩ : ∃ W, wr.alloc (.cells #[.string x.k, .int .i64 x.w.c, .int .i64 x.w.s, .int .i64 x.w.o] 26) = W := ⟨_, rfl⟩
      have HB1 : Hid (Below w.heap.size w W1) := Lib.hid (below_trans HR.out.2 (hW1 ▸ hb1))
      have HX1 : Hid (Box wr.heap.size (lcs x) W1) := Lib.hid (hW1 ▸ hbx)
      have HSF : Hid (∀ w', Below W1.heap.size W1 w' → w'.cell? ⟨wr.heap.size, 0, none⟩ = some (.string x.k) ∧ w'.cell? ⟨wr.heap.size, 1, none⟩ = some (.int .i64 x.w.c) ∧ w'.cell? ⟨wr.heap.size, 2, none⟩ = some (.int .i64 x.w.s) ∧ w'.cell? ⟨wr.heap.size, 3, none⟩ = some (.int .i64 x.w.o)) := Lib.hid (fun w' hz => box4 (HX1.out.below hz))
      obtain ⟨d0, d1, d2, d3⟩ := box4 HX1.out
      have hbb := HX1.out.1
      have HBS : Hid (∀ w', Below W1.heap.size W1 w' → wr.heap.size < w'.heap.size) := Lib.hid (fun w' hz => by have := hz.size; have := HX1.out.1; omega)
      unfold lv at HM HTK
      generalize mayL x = m at *
      generalize Waits.twiceB (l.take k) x = n at *
      clear hbx hb1
      cases m with
      | false =>
        have HNO2 := Lib.hid (HNO.out (.inl rfl))
        clear HNO HST HTK
        go_wp2_with fail
        clear hW1
        refine wp_region_noPanic ?_
        refine wp_region_held_drew (S := fun W' => Below W1.heap.size W1 W') (by kernel_rfl) (dr W1) (fun hHeld => ?_)
        try simp only [Act.put, List.setIfInBounds_toArray, List.set_cons_zero, List.set_cons_succ]
        refine takeH 0 15 (.agg #[.string x.k, .int .i64 x.w.c, .int .i64 x.w.s, .int .i64 x.w.o]) calm_np rfl rfl (by kernel_rfl) (by kernel_rfl) (by kernel_rfl) (by rfl) (fun W' hSw => by obtain ⟨g0, g1, g2, g3⟩ := HSF.out _ hSw; have hsz := HBS.out _ hSw; go_simp) hHeld ?_
        try simp only [Act.put, List.setIfInBounds_toArray, List.set_cons_zero, List.set_cons_succ]
        refine wpAnyH_ready (rs := [1]) (by kernel_rfl) (by simp) (AllReadyH.cons rfl (fun K hK => ?_) AllReadyH.nil)
        go_simp
        refine (HM.out _).mono ?_
        rintro e V1 ⟨rfl, hz⟩
        have hh := below_trans hHeld hz
        clear hz
        go_simp
        refine hK.out _ _ hh (fun hHeld => ?_)
        clear hK hh
        try simp only [Act.put, List.setIfInBounds_toArray, List.set_cons_zero, List.set_cons_succ]
        refine takeH 2 17 (.bool true) calm_np rfl rfl (by kernel_rfl) (by kernel_rfl) (by kernel_rfl) (by rfl) (fun W' hSw => by go_simp) hHeld ?_
        try simp only [Act.put, List.setIfInBounds_toArray, List.set_cons_zero, List.set_cons_succ]
        refine takeH 3 18 (.bool true) calm_np rfl rfl (by kernel_rfl) (by kernel_rfl) (by kernel_rfl) (by rfl) (fun W' hSw => by go_simp) hHeld ?_
        try simp only [Act.put, List.setIfInBounds_toArray, List.set_cons_zero, List.set_cons_succ]
        refine skipH 4 19 calm_np rfl rfl (by kernel_rfl) (by kernel_rfl) (by kernel_rfl) (by rfl) hHeld ?_
        try simp only [Act.put, List.setIfInBounds_toArray, List.set_cons_zero, List.set_cons_succ]
        refine skipH 5 20 calm_np rfl rfl (by kernel_rfl) (by kernel_rfl) (by kernel_rfl) (by rfl) hHeld ?_
        try simp only [Act.put, List.setIfInBounds_toArray, List.set_cons_zero, List.set_cons_succ]
        refine skipH 6 21 calm_np rfl rfl (by kernel_rfl) (by kernel_rfl) (by kernel_rfl) (by rfl) hHeld ?_
        try simp only [Act.put, List.setIfInBounds_toArray, List.set_cons_zero, List.set_cons_succ]
        refine skipH 7 22 calm_np rfl rfl (by kernel_rfl) (by kernel_rfl) (by kernel_rfl) (by rfl) hHeld ?_
        try simp only [Act.put, List.setIfInBounds_toArray, List.set_cons_zero, List.set_cons_succ]
        refine skipH 8 23 calm_np rfl rfl (by kernel_rfl) (by kernel_rfl) (by kernel_rfl) (by rfl) hHeld ?_
        try simp only [Act.put, List.setIfInBounds_toArray, List.set_cons_zero, List.set_cons_succ]
        refine takeH 9 24 (.bool true) calm_np rfl rfl (by kernel_rfl) (by kernel_rfl) (by kernel_rfl) (by rfl) (fun W' hSw => by go_simp) hHeld ?_
        try simp only [Act.put, List.setIfInBounds_toArray, List.set_cons_zero, List.set_cons_succ]
        refine wpAnyH_done (by kernel_rfl) ?_ _
        refine NoPanic.normal ?_
        have HH := Lib.hid hHeld
        clear hHeld
        go_wp2_with fail
        go_ret
        exact ⟨ret_bool HNO2.out.symm, below_trans HB1.out HH.out⟩
      | true =>
        cases n with
        | true =>
          have HNO2 := Lib.hid (HNO.out (.inr rfl))
          clear HNO HST
          go_wp2_with fail
          clear hW1
          refine wp_region_noPanic ?_
          refine wp_region_held_drew (S := fun W' => Below W1.heap.size W1 W') (by kernel_rfl) (dr W1) (fun hHeld => ?_)
          try simp only [Act.put, List.setIfInBounds_toArray, List.set_cons_zero, List.set_cons_succ]
          refine takeH 0 15 (.agg #[.string x.k, .int .i64 x.w.c, .int .i64 x.w.s, .int .i64 x.w.o]) calm_np rfl rfl (by kernel_rfl) (by kernel_rfl) (by kernel_rfl) (by rfl) (fun W' hSw => by obtain ⟨g0, g1, g2, g3⟩ := HSF.out _ hSw; have hsz := HBS.out _ hSw; go_simp) hHeld ?_
          try simp only [Act.put, List.setIfInBounds_toArray, List.set_cons_zero, List.set_cons_succ]
          refine wpAnyH_ready (rs := [1]) (by kernel_rfl) (by simp) (AllReadyH.cons rfl (fun K hK => ?_) AllReadyH.nil)
          go_simp
          refine (HM.out _).mono ?_
          rintro e V1 ⟨rfl, hz⟩
          have hh := below_trans hHeld hz
          clear hz
          go_simp
          refine hK.out _ _ hh (fun hHeld => ?_)
          clear hK hh
          try simp only [Act.put, List.setIfInBounds_toArray, List.set_cons_zero, List.set_cons_succ]
          refine takeH 2 17 (.bool false) calm_np rfl rfl (by kernel_rfl) (by kernel_rfl) (by kernel_rfl) (by rfl) (fun W' hSw => by go_simp) hHeld ?_
          try simp only [Act.put, List.setIfInBounds_toArray, List.set_cons_zero, List.set_cons_succ]
          refine takeH 3 18 (.bool false) calm_np rfl rfl (by kernel_rfl) (by kernel_rfl) (by kernel_rfl) (by rfl) (fun W' hSw => by go_simp) hHeld ?_
          try simp only [Act.put, List.setIfInBounds_toArray, List.set_cons_zero, List.set_cons_succ]
          refine takeH 4 19 (.agg #[.string x.k, .int .i64 x.w.c, .int .i64 x.w.s, .int .i64 x.w.o]) calm_np rfl rfl (by kernel_rfl) (by kernel_rfl) (by kernel_rfl) (by rfl) (fun W' hSw => by obtain ⟨g0, g1, g2, g3⟩ := HSF.out _ hSw; have hsz := HBS.out _ hSw; go_simp) hHeld ?_
          try simp only [Act.put, List.setIfInBounds_toArray, List.set_cons_zero, List.set_cons_succ]
          refine takeH 5 20 (.slice (some ⟨b, off, none⟩) l.length cap) calm_np rfl rfl (by kernel_rfl) (by kernel_rfl) (by kernel_rfl) (by rfl) (fun W' hSw => by go_simp) hHeld ?_
          try simp only [Act.put, List.setIfInBounds_toArray, List.set_cons_zero, List.set_cons_succ]
          refine takeH 6 21 (.int .i64 k) calm_np rfl rfl (by kernel_rfl) (by kernel_rfl) (by kernel_rfl) (by rfl) (fun W' hSw => by go_simp) hHeld ?_
          try simp only [Act.put, List.setIfInBounds_toArray, List.set_cons_zero, List.set_cons_succ]
          refine takeH 7 22 (.slice (some ⟨b, off, none⟩) k cap) calm_np rfl rfl (by kernel_rfl) (by kernel_rfl) (by kernel_rfl) (by rfl) (fun W' hSw => by go_simp) hHeld ?_
          try simp only [Act.put, List.setIfInBounds_toArray, List.set_cons_zero, List.set_cons_succ]
          refine wpAnyH_ready (rs := [8]) (by kernel_rfl) (by simp) (AllReadyH.cons rfl (fun K hK => ?_) AllReadyH.nil)
          go_simp
          refine (HTK.out _ (below_trans HB1.out hHeld)).mono ?_
          rintro e V2 ⟨rfl, hz⟩
          have hh := below_trans hHeld hz
          clear hz
          go_simp
          refine hK.out _ _ hh (fun hHeld => ?_)
          clear hK hh
          try simp only [Act.put, List.setIfInBounds_toArray, List.set_cons_zero, List.set_cons_succ]
          refine takeH 9 24 (.bool true) calm_np rfl rfl (by kernel_rfl) (by kernel_rfl) (by kernel_rfl) (by rfl) (fun W' hSw => by go_simp) hHeld ?_
          try simp only [Act.put, List.setIfInBounds_toArray, List.set_cons_zero, List.set_cons_succ]
          refine wpAnyH_done (by kernel_rfl) ?_ _
          refine NoPanic.normal ?_
          have HH := Lib.hid hHeld
          clear hHeld
          go_wp2_with fail
          go_ret
          exact ⟨ret_bool HNO2.out.symm, below_trans HB1.out HH.out⟩
        | false =>
          have HST2 := Lib.hid (HST.out rfl rfl)
          clear HNO HST
          go_wp2_with fail
          clear hW1
          refine wp_region_noPanic ?_
          refine wp_region_held_drew (S := fun W' => Below W1.heap.size W1 W') (by kernel_rfl) (dr W1) (fun hHeld => ?_)
          try simp only [Act.put, List.setIfInBounds_toArray, List.set_cons_zero, List.set_cons_succ]
          refine takeH 0 15 (.agg #[.string x.k, .int .i64 x.w.c, .int .i64 x.w.s, .int .i64 x.w.o]) calm_np rfl rfl (by kernel_rfl) (by kernel_rfl) (by kernel_rfl) (by rfl) (fun W' hSw => by obtain ⟨g0, g1, g2, g3⟩ := HSF.out _ hSw; have hsz := HBS.out _ hSw; go_simp) hHeld ?_
          try simp only [Act.put, List.setIfInBounds_toArray, List.set_cons_zero, List.set_cons_succ]
          refine wpAnyH_ready (rs := [1]) (by kernel_rfl) (by simp) (AllReadyH.cons rfl (fun K hK => ?_) AllReadyH.nil)
          go_simp
          refine (HM.out _).mono ?_
          rintro e V1 ⟨rfl, hz⟩
          have hh := below_trans hHeld hz
          clear hz
          go_simp
          refine hK.out _ _ hh (fun hHeld => ?_)
          clear hK hh
          try simp only [Act.put, List.setIfInBounds_toArray, List.set_cons_zero, List.set_cons_succ]
          refine takeH 2 17 (.bool false) calm_np rfl rfl (by kernel_rfl) (by kernel_rfl) (by kernel_rfl) (by rfl) (fun W' hSw => by go_simp) hHeld ?_
          try simp only [Act.put, List.setIfInBounds_toArray, List.set_cons_zero, List.set_cons_succ]
          refine takeH 3 18 (.bool false) calm_np rfl rfl (by kernel_rfl) (by kernel_rfl) (by kernel_rfl) (by rfl) (fun W' hSw => by go_simp) hHeld ?_
          try simp only [Act.put, List.setIfInBounds_toArray, List.set_cons_zero, List.set_cons_succ]
          refine takeH 4 19 (.agg #[.string x.k, .int .i64 x.w.c, .int .i64 x.w.s, .int .i64 x.w.o]) calm_np rfl rfl (by kernel_rfl) (by kernel_rfl) (by kernel_rfl) (by rfl) (fun W' hSw => by obtain ⟨g0, g1, g2, g3⟩ := HSF.out _ hSw; have hsz := HBS.out _ hSw; go_simp) hHeld ?_
          try simp only [Act.put, List.setIfInBounds_toArray, List.set_cons_zero, List.set_cons_succ]
          refine takeH 5 20 (.slice (some ⟨b, off, none⟩) l.length cap) calm_np rfl rfl (by kernel_rfl) (by kernel_rfl) (by kernel_rfl) (by rfl) (fun W' hSw => by go_simp) hHeld ?_
          try simp only [Act.put, List.setIfInBounds_toArray, List.set_cons_zero, List.set_cons_succ]
          refine takeH 6 21 (.int .i64 k) calm_np rfl rfl (by kernel_rfl) (by kernel_rfl) (by kernel_rfl) (by rfl) (fun W' hSw => by go_simp) hHeld ?_
          try simp only [Act.put, List.setIfInBounds_toArray, List.set_cons_zero, List.set_cons_succ]
          refine takeH 7 22 (.slice (some ⟨b, off, none⟩) k cap) calm_np rfl rfl (by kernel_rfl) (by kernel_rfl) (by kernel_rfl) (by rfl) (fun W' hSw => by go_simp) hHeld ?_
          try simp only [Act.put, List.setIfInBounds_toArray, List.set_cons_zero, List.set_cons_succ]
          refine wpAnyH_ready (rs := [8]) (by kernel_rfl) (by simp) (AllReadyH.cons rfl (fun K hK => ?_) AllReadyH.nil)
          go_simp
          refine (HTK.out _ (below_trans HB1.out hHeld)).mono ?_
          rintro e V2 ⟨rfl, hz⟩
          have hh := below_trans hHeld hz
          clear hz
          go_simp
          refine hK.out _ _ hh (fun hHeld => ?_)
          clear hK hh
          try simp only [Act.put, List.setIfInBounds_toArray, List.set_cons_zero, List.set_cons_succ]
          refine takeH 9 24 (.bool false) calm_np rfl rfl (by kernel_rfl) (by kernel_rfl) (by kernel_rfl) (by rfl) (fun W' hSw => by go_simp) hHeld ?_
          try simp only [Act.put, List.setIfInBounds_toArray, List.set_cons_zero, List.set_cons_succ]
          refine wpAnyH_done (by kernel_rfl) ?_ _
          refine NoPanic.normal ?_
          have HH := Lib.hid hHeld
          clear hHeld
          go_wp2_with fail
          go_roundw
          case rel => exact ⟨k + 1, by omega, by go_num, HST2.out, below_trans HB1.out HH.out⟩
          case measure => simp [intOf]; omega
    · obtain rfl : k = l.length := by omega
      have HY : Hid (Waits.allB l = true) := Lib.hid (Waits.all_take h33 (fun j hj => HR.out.1 j hj hj))
      go_wp2
      go_ret
      exact ⟨ret_bool HY.out.symm, HR.out.2⟩

theorem right_rises (l : List Ln) : Waits.rightB l = (Waits.allB l && risesB ltL l) := by
  unfold Waits.rightB Waits.allB risesB
  by_cases h1 : AllP l
  · by_cases h2 : l.Pairwise (fun a b => ltL a b = true)
    · rw [decide_eq_true h1, decide_eq_true h2, decide_eq_true (show RightP l from ⟨h1, h2⟩)]; rfl
    · rw [decide_eq_false h2, decide_eq_false (fun h : RightP l => h2 h.2), Bool.and_false]
  · rw [decide_eq_false h1, decide_eq_false (fun h : RightP l => h1 h.1), Bool.false_and]
set_option maxRecDepth 100000 in
set_option maxHeartbeats 1000000 in
theorem Right_any {v : Value} {l : List Ln} {w : World} (h : LRow w v l) (hl : Brief l) : Calls Try.prog 11 #[v] w (BoolB (Waits.rightB l) w) := by
  have HM := Lib.hid (Waits.mayBe_any h hl)
  have HR := Lib.hid (fun W (hb : Below w.heap.size w W) => Waits.rises_any (h.below hb) hl.1)
  rw [right_rises]
  obtain ⟨a, cap, rfl⟩ := h.slice
  clear h
  generalize Waits.allB l = m at *
  generalize risesB ltL l = n at *
  cases m with
  | false =>
    go_enter Try.func11, Try.ntmps11
    go_wp2_with fail
    (with_reducible refine HM.out.mono ?_)
    rintro e w' ⟨rfl, hz⟩
    have HZ := Lib.hid hz
    clear hz
    go_wp2_with fail
    go_ret
    exact ⟨rfl, HZ.out⟩
  | true =>
    go_enter Try.func11, Try.ntmps11
    go_wp2_with fail
    (with_reducible refine HM.out.mono ?_)
    rintro e w' ⟨rfl, hz⟩
    have HZ := Lib.hid hz
    clear hz
    go_wp2_with fail
    (with_reducible refine (HR.out _ HZ.out).mono ?_)
    rintro e w'' ⟨rfl, hz⟩
    have HZ2 := Lib.hid (below_trans HZ.out hz)
    clear hz
    go_wp2_with fail
    go_ret
    exact ⟨rfl, HZ2.out⟩
end Go.Proofs.Ytcehhgcfkoldfaa.Waits
