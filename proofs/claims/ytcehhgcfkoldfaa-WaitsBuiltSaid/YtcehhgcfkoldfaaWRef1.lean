/-
  Contracts of the reference: May, Twice, All, Less, Same.
-/
import Derived.Test.YtcehhgcfkoldfaaWRight
import Derived.Test.YtcehhgcfkoldfaaWQ
namespace Go.Proofs.Ytcehhgcfkoldfaa.Waits
open Go.ChangeShapes Go.WideShapes Go.ChangeAt Go.RowKit Go.Shelf Go.Lib
open Go.Proofs.Ytcehhgcfkoldfaa.Goods
open Go.Proofs.Ytcehhgcfkoldfaa.Queue (Wt ltB wv QRow)

set_option maxRecDepth 100000 in
set_option maxHeartbeats 1000000 in
theorem refMay_any (x : Ln) (hx : x.k.size ≤ 1000000) (w : World) : Calls Try.prog 17 #[lv x] w (BoolB (mayL x) w) := by
  have HB1 := Lib.hid (al w (.cells #[.string x.k, .int .i64 x.w.c, .int .i64 x.w.s, .int .i64 x.w.o] 26))
  have HX1 := Lib.hid (Box.made w (lcs x) 26)
  have HG := Lib.hid (fun W => Goods.refName_any x.k hx W)
  have HQ : Hid (∀ W, Calls Try.prog 36 #[wv x.w] W (Queue.BoolB (mayW x.w) W)) := Lib.hid (fun W => Queue.refMay_any x.w W)
  unfold mayL
  generalize nameB x.k = m at *
  generalize mayW x.w = n at *
  unfold lv
  unfold wv at HQ
  unfold lcs at HX1
  clear hx
  cases m with
  | false =>
    go_enter Try.func17, Try.ntmps17
    go_wp2_with fail
    (with_reducible refine (HG.out _).mono ?_)
    rintro e w' ⟨rfl, hz⟩
    have HZ := Lib.hid (below_trans HB1.out hz)
    clear hz
    go_wp2_with fail
    go_ret
    exact ⟨rfl, HZ.out⟩
  | true =>
    go_enter Try.func17, Try.ntmps17
    go_wp2_with fail
    (with_reducible refine (HG.out _).mono ?_)
    rintro e w' ⟨rfl, hz⟩
    have HZ := Lib.hid (below_trans HB1.out hz)
    obtain ⟨d0, d1, d2, d3⟩ := box4 (HX1.out.below hz)
    have hsz2 := (HX1.out.below hz).1
    clear hz
    go_wp2_with fail
    (with_reducible refine (HQ.out _).mono ?_)
    rintro e w'' ⟨rfl, hz⟩
    have HZ2 := Lib.hid (below_trans HZ.out hz)
    clear hz
    go_wp2_with fail
    go_ret
    exact ⟨rfl, HZ2.out⟩

set_option maxRecDepth 100000 in
set_option maxHeartbeats 1000000 in
theorem refLess_any (a b : Ln) (ha : a.k.size ≤ 1000000) (hb : b.k.size ≤ 1000000) (w : World) : Calls Try.prog 34 #[lv a, lv b] w (BoolB (ltL a b) w) := by
  have HB := Lib.hid (two_al w (.cells #[.string a.k, .int .i64 a.w.c, .int .i64 a.w.s, .int .i64 a.w.o] 26) (.cells #[.string b.k, .int .i64 b.w.c, .int .i64 b.w.s, .int .i64 b.w.o] 26))
  have hba := (Box.made w (lcs a) 26).below (al (w.alloc (.cells (lcs a).toArray 26)) (.cells #[.string b.k, .int .i64 b.w.c, .int .i64 b.w.s, .int .i64 b.w.o] 26))
  have hbb := Box.made (w.alloc (.cells #[.string a.k, .int .i64 a.w.c, .int .i64 a.w.s, .int .i64 a.w.o] 26)) (lcs b) 26
  simp only [World.size_alloc] at hbb
  have HBA := Lib.hid hba
  have HBB := Lib.hid hbb
  have HT := Lib.hid (fun W => refLessT_any a.k b.k ha hb W)
  have HQ := Lib.hid (fun W => Queue.refLess_any a.w b.w W)
  unfold lcs at HBA HBB
  clear hba hbb ha hb
  unfold lv
  unfold wv at HQ
  cases h1 : ltT a.k b.k with
  | true =>
    have h2 : ltL a b = true := ltL_t.2 (.inl h1)
    rw [h2]
    rw [h1] at HT
    clear h1 h2 HQ
    go_enter Try.func34, Try.ntmps34
    go_wp2_with fail
    (with_reducible refine (HT.out _).mono ?_)
    rintro e w' ⟨rfl, hz⟩
    have HZ := Lib.hid (below_trans HB.out hz)
    clear hz
    go_wp2_with fail
    go_ret
    exact ⟨rfl, HZ.out⟩
  | false =>
    rw [h1] at HT
    by_cases he : a.k = b.k
    · rw [ltL_eq he]
      have kk := bytes_yes he
      generalize ltB a.w b.w = m at *
      clear h1 he
      go_enter Try.func34, Try.ntmps34
      go_wp2_with fail
      (with_reducible refine (HT.out _).mono ?_)
      rintro e w' ⟨rfl, hz⟩
      have HZ := Lib.hid (below_trans HB.out hz)
      obtain ⟨c0, c1, c2, c3⟩ := box4 (HBA.out.below hz)
      obtain ⟨d0, d1, d2, d3⟩ := box4 (HBB.out.below hz)
      have hs1 := (HBA.out.below hz).1
      have hs2 := (HBB.out.below hz).1
      clear hz
      go_wp2_with fail
      (with_reducible refine (HQ.out _).mono ?_)
      rintro e w'' ⟨rfl, hz⟩
      have HZ2 := Lib.hid (below_trans HZ.out hz)
      clear hz
      go_wp2_with fail
      go_ret
      exact ⟨rfl, HZ2.out⟩
    · rw [ltL_neq he, h1]
      have kk := bytes_no he
      clear h1 he HQ
      go_enter Try.func34, Try.ntmps34
      go_wp2_with fail
      (with_reducible refine (HT.out _).mono ?_)
      rintro e w' ⟨rfl, hz⟩
      have HZ := Lib.hid (below_trans HB.out hz)
      obtain ⟨c0, c1, c2, c3⟩ := box4 (HBA.out.below hz)
      obtain ⟨d0, d1, d2, d3⟩ := box4 (HBB.out.below hz)
      have hs1 := (HBA.out.below hz).1
      have hs2 := (HBB.out.below hz).1
      clear hz
      go_wp2_with fail
      go_ret
      exact ⟨rfl, HZ.out⟩

set_option maxRecDepth 100000 in
set_option maxHeartbeats 1000000 in
theorem refTwice_any {v : Value} {l : List Ln} {w : World} (h : LRow w v l) (_hl : l.length ≤ 1000) (x : Ln) : Calls Try.prog 18 #[v, lv x] w (BoolB (Waits.twiceB l x) w) := by
  have hb1 := al w (.cells #[.string x.k, .int .i64 x.w.c, .int .i64 x.w.s, .int .i64 x.w.o] 26)
  have hbx := Box.made w (lcs x) 26
  obtain ⟨W1, hW1⟩ : ∃ W, w.alloc (.cells #[.string x.k, .int .i64 x.w.c, .int .i64 x.w.s, .int .i64 x.w.o] 26) = W := ⟨_, rfl⟩
  have HB1 : Hid (Below w.heap.size w W1) := Lib.hid (hW1 ▸ hb1)
  have HX1 : Hid (Box w.heap.size (lcs x) W1) := Lib.hid (hW1 ▸ hbx)
  have hbb := HX1.out.1
  have H := Lib.hid (h.below HB1.out)
  rw [← twice_any]
  obtain ⟨a, cap, rfl⟩ := h.slice
  unfold lv
  unfold lcs at HX1
  clear h hb1 hbx
  go_enter Try.func18, Try.ntmps18
  go_wp2
  clear hW1
  go_loopw [6, 9] (fun _ i wr => ∃ k : Nat, k ≤ l.length ∧ i = .int .i64 k ∧ IdxS (fun y => sameB x y) l k W1 wr) (fun _ i _ => l.length - (Go.RowKit.intOf i).toNat)
  case atStart => exact ⟨0, Nat.zero_le _, rfl, by simp, Below.refl _ _⟩
  case round =>
    obtain ⟨k, hk, rfl, hr⟩ := hrel
    have HR := Lib.hid hr
    clear hr
    obtain ⟨x0, x1, x2, x3⟩ := box4 (HX1.out.below HR.out.2)
    have hsx := (HX1.out.below HR.out.2).1
    by_cases hlt : k < l.length
    · obtain ⟨b, off, rfl, hlc, hcap, hb, k0, k1, k2, k3⟩ := (H.out.below HR.out.2).at hlt
      have HAT := Lib.hid (any_take (p := fun y => sameB x y) hlt)
      have HANY := Lib.hid (fun (e : sameB x l[k] = true) => List.any_eq_true.2 ⟨l[k], List.getElem_mem hlt, e⟩)
      generalize l[k] = y at *
      have HBA := Lib.hid (al wr (.cells #[.string y.k, .int .i64 y.w.c, .int .i64 y.w.s, .int .i64 y.w.o] 26))
      by_cases h1 : y.w.o = x.w.o
      · have h2 : (y.w.o == x.w.o) = true := by simpa using h1
        have HY := Lib.hid (HANY.out (by unfold sameB; rw [decide_eq_true h1]; rfl))
        clear h1 HAT HANY
        go_wp2_with fail
        go_ret
        exact ⟨ret_bool HY.out.symm, below_trans HB1.out (below_trans HR.out.2 HBA.out)⟩
      · have h2 : (y.w.o == x.w.o) = false := by simpa using h1
        by_cases h3 : y.w.s = x.w.s
        · have h4 : (y.w.s == x.w.s) = true := by simpa using h3
          have HY := Lib.hid (HANY.out (by unfold sameB; rw [decide_eq_true h3, Bool.or_true]))
          clear h1 h3 HAT HANY
          go_wp2_with fail
          go_ret
          exact ⟨ret_bool HY.out.symm, below_trans HB1.out (below_trans HR.out.2 HBA.out)⟩
        · have h4 : (y.w.s == x.w.s) = false := by simpa using h3
          have HN : Hid (sameB x y = false) := Lib.hid (by unfold sameB; rw [decide_eq_false h1, decide_eq_false h3]; rfl)
          clear h1 h3 HANY
          go_wp2_with fail
          go_roundw
          case rel => exact ⟨k + 1, by omega, by go_num, by rw [HAT.out, HR.out.1, HN.out]; rfl, below_trans HR.out.2 HBA.out⟩
          case measure => simp [Go.RowKit.intOf]; omega
    · obtain rfl : k = l.length := by omega
      have HA : Hid (l.any (fun y => sameB x y) = false) := Lib.hid (by have := HR.out.1; rwa [List.take_length] at this)
      go_wp2_with fail
      go_ret
      exact ⟨ret_bool HA.out.symm, below_trans HB1.out HR.out.2⟩

set_option maxRecDepth 100000 in
set_option maxHeartbeats 2000000 in
theorem refAll_any {v : Value} {l : List Ln} {w : World} (h : LRow w v l) (hl : Brief l) : Calls Try.prog 14 #[v] w (BoolB (Waits.allB l) w) := by
  obtain ⟨a, cap, rfl⟩ := h.slice
  have H := Lib.hid h
  have HX := Lib.hid hl.2
  have hl1 := hl.1
  clear h hl
  go_enter Try.func14, Try.ntmps14
  go_wp2
  go_loopw [3, 4, 7] (fun _ _ i wr => ∃ k : Nat, k ≤ l.length ∧ i = .int .i64 k ∧ MayS l k w wr) (fun _ _ i _ => l.length - (Go.RowKit.intOf i).toNat)
  case atStart => exact ⟨0, Nat.zero_le _, rfl, fun _ _ h => by omega, Below.refl _ _⟩
  case round =>
    obtain ⟨k, hk, rfl, hr⟩ := hrel
    have HR := Lib.hid hr
    clear hr
    by_cases hlt : k < l.length
    · obtain ⟨hlc, hcap⟩ := H.out.cap.2
      have c1 : (0 : Int) ≤ k := by omega
      have c3 : (k : Int) ≤ cap := by omega
      obtain ⟨b, off, rfl, _, _, hb, k0, k1, k2, k3⟩ := (H.out.below HR.out.2).at hlt
      have hsz := HX.out _ (List.getElem_mem hlt)
      have hbx := Box.made wr (lcs l[k]) 26
      have hb1 := al wr (.cells (lcs l[k]).toArray 26)
      have HM := Lib.hid (fun W => Waits.refMay_any l[k] hsz W)
      have HST := Lib.hid (may_succ HR.out hlt)
      have HNO := Lib.hid (Waits.all_not hlt)
      have HTK := Lib.hid (fun W (hb : Below w.heap.size w W) => refTwice_any ((H.out.below hb).take (n := k) (by omega)) (by rw [List.length_take]; omega) l[k])
      generalize l[k] = x at *
      obtain ⟨W1, hW1⟩ : ∃ W, wr.alloc (.cells #[.string x.k, .int .i64 x.w.c, .int .i64 x.w.s, .int .i64 x.w.o] 26) = W := ⟨_, rfl⟩
      have HB1 : Hid (Below w.heap.size w W1) := Lib.hid (below_trans HR.out.2 (hW1 ▸ hb1))
      have HX1 : Hid (Box wr.heap.size (lcs x) W1) := Lib.hid (hW1 ▸ hbx)
      have HSF : Hid (∀ w', Below W1.heap.size W1 w' → w'.cell? ⟨wr.heap.size, 0, none⟩ = some (.string x.k) ∧ w'.cell? ⟨wr.heap.size, 1, none⟩ = some (.int .i64 x.w.c) ∧ w'.cell? ⟨wr.heap.size, 2, none⟩ = some (.int .i64 x.w.s) ∧ w'.cell? ⟨wr.heap.size, 3, none⟩ = some (.int .i64 x.w.o)) := Lib.hid (fun w' hz => box4 (HX1.out.below hz))
      obtain ⟨d0, d1, d2, d3⟩ := box4 HX1.out
      have hbb := HX1.out.1
      have HBS : Hid (∀ w', Below W1.heap.size W1 w' → wr.heap.size < w'.heap.size) := Lib.hid (fun w' hz => by have := hz.size; have := HX1.out.1; omega)
      unfold lv at HM HTK
      generalize mayL x = m at *
      generalize Waits.twiceB (l.take k) x = n at *
      clear hbx hb1
      cases m with
      | false =>
        have HNO2 := Lib.hid (HNO.out (.inl rfl))
        clear HNO HST HTK
        go_wp2_with fail
        clear hW1
        refine wp_region_noPanic ?_
        refine wp_region_held_drew (S := fun W' => Below W1.heap.size W1 W') (by kernel_rfl) (dr W1) (fun hHeld => ?_)
        try simp only [Act.put, List.setIfInBounds_toArray, List.set_cons_zero, List.set_cons_succ]
        refine takeH 0 12 (.agg #[.string x.k, .int .i64 x.w.c, .int .i64 x.w.s, .int .i64 x.w.o]) calm_np rfl rfl (by kernel_rfl) (by kernel_rfl) (by kernel_rfl) (by rfl) (fun W' hSw => by obtain ⟨g0, g1, g2, g3⟩ := HSF.out _ hSw; have hsz := HBS.out _ hSw; go_simp) hHeld ?_
        try simp only [Act.put, List.setIfInBounds_toArray, List.set_cons_zero, List.set_cons_succ]
        refine wpAnyH_ready (rs := [1]) (by kernel_rfl) (by simp) (AllReadyH.cons rfl (fun K hK => ?_) AllReadyH.nil)
        go_simp
        refine (HM.out _).mono ?_
        rintro e V1 ⟨rfl, hz⟩
        have hh := below_trans hHeld hz
        clear hz
        go_simp
        refine hK.out _ _ hh (fun hHeld => ?_)
        clear hK hh
        try simp only [Act.put, List.setIfInBounds_toArray, List.set_cons_zero, List.set_cons_succ]
        refine takeH 2 14 (.bool true) calm_np rfl rfl (by kernel_rfl) (by kernel_rfl) (by kernel_rfl) (by rfl) (fun W' hSw => by go_simp) hHeld ?_
        try simp only [Act.put, List.setIfInBounds_toArray, List.set_cons_zero, List.set_cons_succ]
        refine takeH 3 15 (.bool true) calm_np rfl rfl (by kernel_rfl) (by kernel_rfl) (by kernel_rfl) (by rfl) (fun W' hSw => by go_simp) hHeld ?_
        try simp only [Act.put, List.setIfInBounds_toArray, List.set_cons_zero, List.set_cons_succ]
        refine skipH 4 16 calm_np rfl rfl (by kernel_rfl) (by kernel_rfl) (by kernel_rfl) (by rfl) hHeld ?_
        try simp only [Act.put, List.setIfInBounds_toArray, List.set_cons_zero, List.set_cons_succ]
        refine skipH 5 17 calm_np rfl rfl (by kernel_rfl) (by kernel_rfl) (by kernel_rfl) (by rfl) hHeld ?_
        try simp only [Act.put, List.setIfInBounds_toArray, List.set_cons_zero, List.set_cons_succ]
        refine skipH 6 18 calm_np rfl rfl (by kernel_rfl) (by kernel_rfl) (by kernel_rfl) (by rfl) hHeld ?_
        try simp only [Act.put, List.setIfInBounds_toArray, List.set_cons_zero, List.set_cons_succ]
        refine skipH 7 19 calm_np rfl rfl (by kernel_rfl) (by kernel_rfl) (by kernel_rfl) (by rfl) hHeld ?_
        try simp only [Act.put, List.setIfInBounds_toArray, List.set_cons_zero, List.set_cons_succ]
        refine skipH 8 20 calm_np rfl rfl (by kernel_rfl) (by kernel_rfl) (by kernel_rfl) (by rfl) hHeld ?_
        try simp only [Act.put, List.setIfInBounds_toArray, List.set_cons_zero, List.set_cons_succ]
        refine takeH 9 21 (.bool true) calm_np rfl rfl (by kernel_rfl) (by kernel_rfl) (by kernel_rfl) (by rfl) (fun W' hSw => by go_simp) hHeld ?_
        try simp only [Act.put, List.setIfInBounds_toArray, List.set_cons_zero, List.set_cons_succ]
        refine wpAnyH_done (by kernel_rfl) ?_ _
        refine NoPanic.normal ?_
        have HH := Lib.hid hHeld
        clear hHeld
        go_wp2_with fail
        go_ret
        exact ⟨ret_bool HNO2.out.symm, below_trans HB1.out HH.out⟩
      | true =>
        cases n with
        | true =>
          have HNO2 := Lib.hid (HNO.out (.inr rfl))
          clear HNO HST
          go_wp2_with fail
          clear hW1
          refine wp_region_noPanic ?_
          refine wp_region_held_drew (S := fun W' => Below W1.heap.size W1 W') (by kernel_rfl) (dr W1) (fun hHeld => ?_)
          try simp only [Act.put, List.setIfInBounds_toArray, List.set_cons_zero, List.set_cons_succ]
          refine takeH 0 12 (.agg #[.string x.k, .int .i64 x.w.c, .int .i64 x.w.s, .int .i64 x.w.o]) calm_np rfl rfl (by kernel_rfl) (by kernel_rfl) (by kernel_rfl) (by rfl) (fun W' hSw => by obtain ⟨g0, g1, g2, g3⟩ := HSF.out _ hSw; have hsz := HBS.out _ hSw; go_simp) hHeld ?_
          try simp only [Act.put, List.setIfInBounds_toArray, List.set_cons_zero, List.set_cons_succ]
          refine wpAnyH_ready (rs := [1]) (by kernel_rfl) (by simp) (AllReadyH.cons rfl (fun K hK => ?_) AllReadyH.nil)
          go_simp
          refine (HM.out _).mono ?_
          rintro e V1 ⟨rfl, hz⟩
          have hh := below_trans hHeld hz
          clear hz
          go_simp
          refine hK.out _ _ hh (fun hHeld => ?_)
          clear hK hh
          try simp only [Act.put, List.setIfInBounds_toArray, List.set_cons_zero, List.set_cons_succ]
          refine takeH 2 14 (.bool false) calm_np rfl rfl (by kernel_rfl) (by kernel_rfl) (by kernel_rfl) (by rfl) (fun W' hSw => by go_simp) hHeld ?_
          try simp only [Act.put, List.setIfInBounds_toArray, List.set_cons_zero, List.set_cons_succ]
          refine takeH 3 15 (.bool false) calm_np rfl rfl (by kernel_rfl) (by kernel_rfl) (by kernel_rfl) (by rfl) (fun W' hSw => by go_simp) hHeld ?_
          try simp only [Act.put, List.setIfInBounds_toArray, List.set_cons_zero, List.set_cons_succ]
          refine takeH 4 16 (.slice (some ⟨b, off, none⟩) l.length cap) calm_np rfl rfl (by kernel_rfl) (by kernel_rfl) (by kernel_rfl) (by rfl) (fun W' hSw => by go_simp) hHeld ?_
          try simp only [Act.put, List.setIfInBounds_toArray, List.set_cons_zero, List.set_cons_succ]
          refine takeH 5 17 (.int .i64 k) calm_np rfl rfl (by kernel_rfl) (by kernel_rfl) (by kernel_rfl) (by rfl) (fun W' hSw => by go_simp) hHeld ?_
          try simp only [Act.put, List.setIfInBounds_toArray, List.set_cons_zero, List.set_cons_succ]
          refine takeH 6 18 (.slice (some ⟨b, off, none⟩) k cap) calm_np rfl rfl (by kernel_rfl) (by kernel_rfl) (by kernel_rfl) (by rfl) (fun W' hSw => by go_simp) hHeld ?_
          try simp only [Act.put, List.setIfInBounds_toArray, List.set_cons_zero, List.set_cons_succ]
          refine takeH 7 19 (.agg #[.string x.k, .int .i64 x.w.c, .int .i64 x.w.s, .int .i64 x.w.o]) calm_np rfl rfl (by kernel_rfl) (by kernel_rfl) (by kernel_rfl) (by rfl) (fun W' hSw => by obtain ⟨g0, g1, g2, g3⟩ := HSF.out _ hSw; have hsz := HBS.out _ hSw; go_simp) hHeld ?_
          try simp only [Act.put, List.setIfInBounds_toArray, List.set_cons_zero, List.set_cons_succ]
          refine wpAnyH_ready (rs := [8]) (by kernel_rfl) (by simp) (AllReadyH.cons rfl (fun K hK => ?_) AllReadyH.nil)
          go_simp
          refine (HTK.out _ (below_trans HB1.out hHeld)).mono ?_
          rintro e V2 ⟨rfl, hz⟩
          have hh := below_trans hHeld hz
          clear hz
          go_simp
          refine hK.out _ _ hh (fun hHeld => ?_)
          clear hK hh
          try simp only [Act.put, List.setIfInBounds_toArray, List.set_cons_zero, List.set_cons_succ]
          refine takeH 9 21 (.bool true) calm_np rfl rfl (by kernel_rfl) (by kernel_rfl) (by kernel_rfl) (by rfl) (fun W' hSw => by go_simp) hHeld ?_
          try simp only [Act.put, List.setIfInBounds_toArray, List.set_cons_zero, List.set_cons_succ]
          refine wpAnyH_done (by kernel_rfl) ?_ _
          refine NoPanic.normal ?_
          have HH := Lib.hid hHeld
          clear hHeld
          go_wp2_with fail
          go_ret
          exact ⟨ret_bool HNO2.out.symm, below_trans HB1.out HH.out⟩
        | false =>
          have HST2 := Lib.hid (HST.out rfl rfl)
          clear HNO HST
          go_wp2_with fail
          clear hW1
          refine wp_region_noPanic ?_
          refine wp_region_held_drew (S := fun W' => Below W1.heap.size W1 W') (by kernel_rfl) (dr W1) (fun hHeld => ?_)
          try simp only [Act.put, List.setIfInBounds_toArray, List.set_cons_zero, List.set_cons_succ]
          refine takeH 0 12 (.agg #[.string x.k, .int .i64 x.w.c, .int .i64 x.w.s, .int .i64 x.w.o]) calm_np rfl rfl (by kernel_rfl) (by kernel_rfl) (by kernel_rfl) (by rfl) (fun W' hSw => by obtain ⟨g0, g1, g2, g3⟩ := HSF.out _ hSw; have hsz := HBS.out _ hSw; go_simp) hHeld ?_
          try simp only [Act.put, List.setIfInBounds_toArray, List.set_cons_zero, List.set_cons_succ]
          refine wpAnyH_ready (rs := [1]) (by kernel_rfl) (by simp) (AllReadyH.cons rfl (fun K hK => ?_) AllReadyH.nil)
          go_simp
          refine (HM.out _).mono ?_
          rintro e V1 ⟨rfl, hz⟩
          have hh := below_trans hHeld hz
          clear hz
          go_simp
          refine hK.out _ _ hh (fun hHeld => ?_)
          clear hK hh
          try simp only [Act.put, List.setIfInBounds_toArray, List.set_cons_zero, List.set_cons_succ]
          refine takeH 2 14 (.bool false) calm_np rfl rfl (by kernel_rfl) (by kernel_rfl) (by kernel_rfl) (by rfl) (fun W' hSw => by go_simp) hHeld ?_
          try simp only [Act.put, List.setIfInBounds_toArray, List.set_cons_zero, List.set_cons_succ]
          refine takeH 3 15 (.bool false) calm_np rfl rfl (by kernel_rfl) (by kernel_rfl) (by kernel_rfl) (by rfl) (fun W' hSw => by go_simp) hHeld ?_
          try simp only [Act.put, List.setIfInBounds_toArray, List.set_cons_zero, List.set_cons_succ]
          refine takeH 4 16 (.slice (some ⟨b, off, none⟩) l.length cap) calm_np rfl rfl (by kernel_rfl) (by kernel_rfl) (by kernel_rfl) (by rfl) (fun W' hSw => by go_simp) hHeld ?_
          try simp only [Act.put, List.setIfInBounds_toArray, List.set_cons_zero, List.set_cons_succ]
          refine takeH 5 17 (.int .i64 k) calm_np rfl rfl (by kernel_rfl) (by kernel_rfl) (by kernel_rfl) (by rfl) (fun W' hSw => by go_simp) hHeld ?_
          try simp only [Act.put, List.setIfInBounds_toArray, List.set_cons_zero, List.set_cons_succ]
          refine takeH 6 18 (.slice (some ⟨b, off, none⟩) k cap) calm_np rfl rfl (by kernel_rfl) (by kernel_rfl) (by kernel_rfl) (by rfl) (fun W' hSw => by go_simp) hHeld ?_
          try simp only [Act.put, List.setIfInBounds_toArray, List.set_cons_zero, List.set_cons_succ]
          refine takeH 7 19 (.agg #[.string x.k, .int .i64 x.w.c, .int .i64 x.w.s, .int .i64 x.w.o]) calm_np rfl rfl (by kernel_rfl) (by kernel_rfl) (by kernel_rfl) (by rfl) (fun W' hSw => by obtain ⟨g0, g1, g2, g3⟩ := HSF.out _ hSw; have hsz := HBS.out _ hSw; go_simp) hHeld ?_
          try simp only [Act.put, List.setIfInBounds_toArray, List.set_cons_zero, List.set_cons_succ]
          refine wpAnyH_ready (rs := [8]) (by kernel_rfl) (by simp) (AllReadyH.cons rfl (fun K hK => ?_) AllReadyH.nil)
          go_simp
          refine (HTK.out _ (below_trans HB1.out hHeld)).mono ?_
          rintro e V2 ⟨rfl, hz⟩
          have hh := below_trans hHeld hz
          clear hz
          go_simp
          refine hK.out _ _ hh (fun hHeld => ?_)
          clear hK hh
          try simp only [Act.put, List.setIfInBounds_toArray, List.set_cons_zero, List.set_cons_succ]
          refine takeH 9 21 (.bool false) calm_np rfl rfl (by kernel_rfl) (by kernel_rfl) (by kernel_rfl) (by rfl) (fun W' hSw => by go_simp) hHeld ?_
          try simp only [Act.put, List.setIfInBounds_toArray, List.set_cons_zero, List.set_cons_succ]
          refine wpAnyH_done (by kernel_rfl) ?_ _
          refine NoPanic.normal ?_
          have HH := Lib.hid hHeld
          clear hHeld
          go_wp2_with fail
          go_roundw
          case rel => exact ⟨k + 1, by omega, by go_num, HST2.out, below_trans HB1.out HH.out⟩
          case measure => simp [intOf]; omega
    · obtain rfl : k = l.length := by omega
      by_cases h32 : l.length ≤ 32
      · have HY : Hid (Waits.allB l = true) := Lib.hid (Waits.all_take h32 (fun j hj => HR.out.1 j hj hj))
        go_wp2
        go_ret
        exact ⟨ret_bool (by rw [HY.out]; exact decide_eq_true (by omega)), HR.out.2⟩
      · have HY : Hid (Waits.allB l = false) := Lib.hid (all_long (by omega))
        have h33 : ¬ (l.length : Int) ≤ 32 := by omega
        go_wp2
        go_ret
        exact ⟨ret_bool HY.out.symm, HR.out.2⟩

def SameR (l m : List Ln) (k : Nat) (w W : World) : Prop := (∀ j (h : j < l.length) (h' : j < m.length), j < k → l[j] = m[j]) ∧ Below w.heap.size w W
theorem same_end {l m : List Ln} (hl : l.length = m.length) (h : ∀ j (h : j < l.length) (h' : j < m.length), l[j] = m[j]) : l = m := List.ext_getElem hl fun j h1 h2 => h j h1 h2
set_option maxRecDepth 100000 in
set_option maxHeartbeats 4000000 in
theorem Same_any {u v : Value} {l m : List Ln} {w : World} (hu : LRow w u l) (hv : LRow w v m) : Calls Try.prog 15 #[u, v] w (BoolB (decide (l = m)) w) := by
  obtain ⟨a, cap, rfl⟩ := hu.slice
  obtain ⟨a', cap', rfl⟩ := hv.slice
  have HU := Lib.hid hu
  have HV := Lib.hid hv
  clear hu hv
  by_cases he : l.length = m.length
  · have HE := Lib.hid he
    go_enter Try.func15, Try.ntmps15
    rw [← he]
    clear he
    go_wp2
    go_loopw [5, 13] (fun _ i wr => ∃ k : Nat, k ≤ l.length ∧ i = .int .i64 k ∧ SameR l m k w wr) (fun _ i _ => l.length - (intOf i).toNat)
    case atStart => exact ⟨0, Nat.zero_le _, rfl, fun j _ _ h => by omega, Below.refl _ _⟩
    case round =>
      obtain ⟨k, hk, rfl, hr⟩ := hrel
      have HR := Lib.hid hr
      clear hr
      by_cases hlt : k < l.length
      · have hlt' : k < m.length := by have := HE.out; omega
        obtain ⟨b, off, rfl, hlc, hcap, hb, k0, k1, k2, k3⟩ := (HU.out.below HR.out.2).at hlt
        obtain ⟨b', off', rfl, hlc', hcap', hb', m0, m1, m2, m3⟩ := (HV.out.below HR.out.2).at hlt'
        have HS : Hid (l[k] = m[k] → SameR l m (k + 1) w wr) := Lib.hid fun e => ⟨fun j h1 h2 h3 => by
          by_cases c : j = k
          · subst c; exact e
          · exact HR.out.1 j h1 h2 (by omega), HR.out.2⟩
        have HN : Hid (l[k] ≠ m[k] → decide (l = m) = false) := Lib.hid fun e => decide_eq_false fun h => e (by subst h; rfl)
        have heq := fun W => neq_line l[k] m[k] W
        generalize l[k] = x at *
        generalize m[k] = y at *
        have hlm : (k : Int) < l.length := by omega
        by_cases hm : x = y
        · have HS2 := Lib.hid (HS.out hm)
          rw [decide_eq_true hm] at heq
          clear HS HN hm
          go_upto_region 6 with (fail)
          go_region
          go_wp2
          go_roundw
          case rel => exact ⟨k + 1, by omega, by go_num, HS2.out.1, below_trans HS2.out.2 (dr wr)⟩
          case measure => simp [intOf]; omega
        · have HN2 := Lib.hid (HN.out hm)
          rw [decide_eq_false hm] at heq
          clear HS HN hm
          go_upto_region 6 with (fail)
          go_region
          go_wp2
          go_ret
          exact ⟨ret_bool HN2.out.symm, below_trans HR.out.2 (dr wr)⟩
      · obtain rfl : k = l.length := by omega
        have HY : Hid (decide (l = m) = true) := Lib.hid (decide_eq_true (same_end HE.out fun j h1 h2 => HR.out.1 j h1 h2 (by omega)))
        go_wp2
        go_ret
        exact ⟨ret_bool HY.out.symm, HR.out.2⟩
  · have HN : Hid (decide (l = m) = false) := Lib.hid (decide_eq_false fun h => he (by rw [h]))
    have h1 : ((l.length : Int) != m.length) = true := by simpa using (by omega : ¬ ((l.length : Int) = m.length))
    clear he
    go_enter Try.func15, Try.ntmps15
    go_wp2
    go_ret
    exact ⟨ret_bool HN.out.symm, Below.refl _ _⟩

end Go.Proofs.Ytcehhgcfkoldfaa.Waits
