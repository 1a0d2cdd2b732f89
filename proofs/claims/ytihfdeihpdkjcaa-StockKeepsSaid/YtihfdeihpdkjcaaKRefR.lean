/-
  Contracts of the reference: units, in, Right.
-/
import Derived.Test.YtihfdeihpdkjcaaKHand
namespace Go.Proofs.Ytihfdeihpdkjcaa.Goods.Stk
open Go.ChangeShapes Go.WideShapes Go.ChangeAt Go.RowKit Go.Shelf Go.Lib

theorem refUnits_any (n : Int) (w : World) : Calls Try.prog 26 #[.int .i64 n] w fun e w' => e = .returned (.bool (decide (unitP n))) ∧ w = w' := by
  by_cases h1 : 1 ≤ n
  · by_cases h2 : n ≤ 1073741824
    · rw [decide_eq_true (show unitP n from ⟨h1, h2⟩)]
      go_enter Try.func26, Try.ntmps26
      go_wp2
      go_ret
      exact ⟨rfl, rfl⟩
    · rw [decide_eq_false (show ¬ unitP n from fun h => h2 h.2)]
      go_enter Try.func26, Try.ntmps26
      go_wp2
      go_ret
      exact ⟨rfl, rfl⟩
  · rw [decide_eq_false (show ¬ unitP n from fun h => h1 h.1)]
    go_enter Try.func26, Try.ntmps26
    go_wp2
    go_ret
    exact ⟨rfl, rfl⟩
theorem refIn_any (n : Int) (w : World) : Calls Try.prog 34 #[.int .i64 n] w fun e w' => e = .returned (.bool (decide (inP n))) ∧ w = w' := by
  by_cases h1 : 0 ≤ n
  · by_cases h2 : n ≤ 1073741824
    · rw [decide_eq_true (show inP n from ⟨h1, h2⟩)]
      go_enter Try.func34, Try.ntmps34
      go_wp2
      go_ret
      exact ⟨rfl, rfl⟩
    · rw [decide_eq_false (show ¬ inP n from fun h => h2 h.2)]
      go_enter Try.func34, Try.ntmps34
      go_wp2
      go_ret
      exact ⟨rfl, rfl⟩
  · rw [decide_eq_false (show ¬ inP n from fun h => h1 h.1)]
    go_enter Try.func34, Try.ntmps34
    go_wp2
    go_ret
    exact ⟨rfl, rfl⟩

def okR (x : Rw) : Bool := nameB x.s && addB x
theorem all_both (l : List Rw) : l.all okR = ((names l).all nameB && l.all addB) := by
  induction l with
  | nil => rfl
  | cons a l ih =>
    simp only [List.all_cons, names, List.map_cons, okR] at *
    rw [ih]
    cases nameB a.s <;> cases addB a <;> simp
theorem rightS_parts (l : List Rw) : rightS l = (l.all okR && risesB ltR l && decide (l.length ≤ 8)) := by
  unfold rightS skusB
  rw [names_len, rises_names, all_both]
  cases decide (l.length ≤ 8) <;> cases (names l).all nameB <;> cases risesB ltR l <;> cases l.all addB <;> rfl
theorem rightS_ok {l : List Rw} {k : Nat} (hk : k < l.length) (e : okR l[k] = false) : rightS l = false := by
  rw [rightS_parts, not_all hk e]; simp
theorem rightS_rise {l : List Rw} {k : Nat} (h1 : 1 ≤ k) (hk : k < l.length) (e : ltR l[k - 1] l[k] = false) : rightS l = false := by
  rw [rightS_parts, rises_no h1 hk e]; simp
theorem rightS_end {l : List Rw} (a1 : l.all okR = true) (a2 : Upto ltR l l.length) : rightS l = decide (l.length ≤ 8) := by
  rw [rightS_parts, a1, rises_yes (lt := ltR) (fun _ _ _ h1 h2 => ltT_trans h1 h2) a2 (Nat.le_refl _)]
  rfl
def RtR (l : List Rw) (k : Nat) (w W : World) : Prop := (l.take k).all okR = true ∧ Upto ltR l k ∧ Below w.heap.size w W
theorem Six.made (w : World) (x : Rw) : Six (w.alloc (.cells #[.string x.s, .int .i64 x.n, .int .i64 x.f, .int .i64 x.h, .int .i64 x.p, .int .i64 x.t] 25)) w.heap.size 0 x := by
  refine ⟨?_, ?_, ?_, ?_, ?_, ?_⟩ <;> simp

/-- What one row comes to behind its name and its place were looked at. -/
theorem six_ways (x : Rw) : (addB x = false ∧ (decide (inP x.n) = false ∨ (decide (inP x.n) = true ∧ decide (inP x.f) = false) ∨ (decide (inP x.n) = true ∧ decide (inP x.f) = true ∧ decide (inP x.h) = false) ∨ (decide (inP x.n) = true ∧ decide (inP x.f) = true ∧ decide (inP x.h) = true ∧ decide (inP x.p) = false) ∨ (decide (inP x.n) = true ∧ decide (inP x.f) = true ∧ decide (inP x.h) = true ∧ decide (inP x.p) = true ∧ decide (inP x.t) = false) ∨ (decide (inP x.n) = true ∧ decide (inP x.f) = true ∧ decide (inP x.h) = true ∧ decide (inP x.p) = true ∧ decide (inP x.t) = true ∧ ¬ x.n - x.f - x.h - x.p = x.t))) ∨
    (addB x = true ∧ decide (inP x.n) = true ∧ decide (inP x.f) = true ∧ decide (inP x.h) = true ∧ decide (inP x.p) = true ∧ decide (inP x.t) = true ∧ x.n - x.f - x.h - x.p = x.t) := by
  unfold addB
  by_cases h1 : inP x.n
  · by_cases h2 : inP x.f
    · by_cases h3 : inP x.h
      · by_cases h4 : inP x.p
        · by_cases h5 : inP x.t
          · by_cases h6 : x.n - x.f - x.h - x.p = x.t
            · exact .inr ⟨decide_eq_true ⟨h1, h2, h3, h4, h5, by omega⟩, by simp [h1], by simp [h2], by simp [h3], by simp [h4], by simp [h5], h6⟩
            · exact .inl ⟨decide_eq_false fun h => h6 (by have := h.2.2.2.2.2; omega), .inr (.inr (.inr (.inr (.inr ⟨by simp [h1], by simp [h2], by simp [h3], by simp [h4], by simp [h5], h6⟩))))⟩
          · exact .inl ⟨decide_eq_false fun h => h5 h.2.2.2.2.1, .inr (.inr (.inr (.inr (.inl ⟨by simp [h1], by simp [h2], by simp [h3], by simp [h4], by simp [h5]⟩))))⟩
        · exact .inl ⟨decide_eq_false fun h => h4 h.2.2.2.1, .inr (.inr (.inr (.inl ⟨by simp [h1], by simp [h2], by simp [h3], by simp [h4]⟩)))⟩
      · exact .inl ⟨decide_eq_false fun h => h3 h.2.2.1, .inr (.inr (.inl ⟨by simp [h1], by simp [h2], by simp [h3]⟩))⟩
    · exact .inl ⟨decide_eq_false fun h => h2 h.2.1, .inr (.inl ⟨by simp [h1], by simp [h2]⟩)⟩
  · exact .inl ⟨decide_eq_false fun h => h1 h.1, .inl (by simp [h1])⟩

set_option maxRecDepth 100000 in
set_option maxHeartbeats 4000000 in
theorem refRightS_any {v : Value} {l : List Rw} {w : World} (h : SRow w v l) (hl : Brief l) : Calls Try.prog 12 #[v] w (BoolB (rightS l) w) := by
  have H := Lib.hid h
  have HL := Lib.hid hl
  have HIN := Lib.hid refIn_any
  obtain ⟨a, cap, rfl⟩ := h.slice
  have hcap := h.cap.2
  have hlen := hl.1
  clear h hl
  go_enter Try.func12, Try.ntmps12
  go_wp2
  go_loopg [3, 4, 7] l.length (fun kx _ _ i wr => ∃ k : Nat, k ≤ l.length ∧ l.length - k ≤ kx ∧ i = .int .i64 k ∧ RtR l k w wr)
  case atStart => exact ⟨0, Nat.zero_le _, by omega, rfl, rfl, fun _ _ h => by omega, Below.refl _ _⟩
  case round =>
    obtain ⟨k, hk, hkx, rfl, hr⟩ := hrel
    have HR := Lib.hid hr
    clear hr
    by_cases hlt : k < l.length
    · obtain ⟨b, off, rfl, _, _, hb, hx⟩ := (H.out.below HR.out.2.2).at hlt
      have hn := fun W => refName_any l[k].s (HL.out.2 _ (List.getElem_mem hlt)) W
      have HOK := Lib.hid (rightS_ok (l := l) hlt)
      have HAT := Lib.hid (all_take (p := okR) hlt)
      have HYY : Hid (∀ q (h : q < l.length), Six wr b (off + q * 6) l[q]) := Lib.hid (fun q h => by
        obtain ⟨b', off', e', _, _, _, hy⟩ := (H.out.below HR.out.2.2).at h
        cases e'
        exact hy)
      have HUP := Lib.hid (fun h1 e => upto_succ (lt := ltR) HR.out.2.1 h1 hlt e)
      have HNO := Lib.hid (fun h1 e => rightS_rise (l := l) (k := k) h1 hlt e)
      have HCC : Hid (∀ q (h : q < l.length) W, Calls Try.prog 33 #[.string l[q].s, .string l[k].s] W (BoolB (ltT l[q].s l[k].s) W)) := Lib.hid (fun q h W => refLess_any _ _ (HL.out.2 _ (List.getElem_mem h)) (HL.out.2 _ (List.getElem_mem hlt)) W)
      have hx1 := Six.made wr l[k]
      have hb1 := al wr (.cells #[.string l[k].s, .int .i64 l[k].n, .int .i64 l[k].f, .int .i64 l[k].h, .int .i64 l[k].p, .int .i64 l[k].t] 25)
      have hsw : (wr.alloc (.cells #[.string l[k].s, .int .i64 l[k].n, .int .i64 l[k].f, .int .i64 l[k].h, .int .i64 l[k].p, .int .i64 l[k].t] 25)).heap.size = wr.heap.size + 1 := by simp only [World.size_alloc]
      obtain ⟨g0, g1, g2, g3, g4, g5⟩ := hx
      go_upto_region 4 with (fail)
      generalize hxk : l[k] = x at *
      generalize hW2 : wr.alloc (.cells #[.string x.s, .int .i64 x.n, .int .i64 x.f, .int .i64 x.h, .int .i64 x.p, .int .i64 x.t] 25) = W2 at *
      generalize hg : wr.heap.size = g at *
      have HX := Lib.hid hx1
      have HB1 : Hid (Below w.heap.size w W2) := Lib.hid (below_trans HR.out.2.2 (hg ▸ hb1))
      have HBR : Hid (Below wr.heap.size wr W2) := Lib.hid (hg ▸ hb1)
      have HSZ2 := Lib.hid hsw
      have HG := Lib.hid hg
      clear hx1 hb1 hsw g0 g1 g2 g3 g4 g5 hW2 hg
      cases hm : nameB x.s with
      | false =>
        rw [hm] at hn
        have HN := Lib.hid hn
        have HNO2 : Hid (rightS l = false) := Lib.hid (HOK.out (by unfold okR; rw [hm]; rfl))
        clear hn hm
        refine wp_region_noPanic ?_
        refine wp_region_held_drew (S := fun W' => Below W2.heap.size W2 W') (by kernel_rfl) (dr W2) (fun hHeld => ?_)
        try simp only [Act.put, List.setIfInBounds_toArray, List.set_cons_zero, List.set_cons_succ]
        refine takeH 0 12 (.pointer (some ⟨g, 0, none⟩)) calm_np rfl rfl (by kernel_rfl) (by kernel_rfl) (by kernel_rfl) (by rfl) (fun W' hSw => by go_simp) hHeld ?_
        try simp only [Act.put, List.setIfInBounds_toArray, List.set_cons_zero, List.set_cons_succ]
        refine takeH 1 13 (.string x.s) calm_np rfl rfl (by kernel_rfl) (by kernel_rfl) (by kernel_rfl) (by rfl) (fun W' hSw => by obtain ⟨g0, g1, g2, g3, g4, g5⟩ := HX.out.below (by rw [HSZ2.out]; omega) hSw; go_simp) hHeld ?_
        try simp only [Act.put, List.setIfInBounds_toArray, List.set_cons_zero, List.set_cons_succ]
        refine wpAnyH_ready (rs := [2]) (by kernel_rfl) (by simp) (AllReadyH.cons rfl (fun K hK => ?_) AllReadyH.nil)
        go_simp
        refine (HN.out _).mono ?_
        rintro e V1 ⟨rfl, hz⟩
        have hh := below_trans hHeld hz
        clear hz
        go_simp
        refine hK.out _ _ hh (fun hHeld => ?_)
        clear hK hh
        try simp only [Act.put, List.setIfInBounds_toArray, List.set_cons_zero, List.set_cons_succ]
        refine takeH 3 15 (.bool true) calm_np rfl rfl (by kernel_rfl) (by kernel_rfl) (by kernel_rfl) (by rfl) (fun W' hSw => by go_simp) hHeld ?_
        try simp only [Act.put, List.setIfInBounds_toArray, List.set_cons_zero, List.set_cons_succ]
        refine takeH 4 16 (.bool true) calm_np rfl rfl (by kernel_rfl) (by kernel_rfl) (by kernel_rfl) (by rfl) (fun W' hSw => by go_simp) hHeld ?_
        try simp only [Act.put, List.setIfInBounds_toArray, List.set_cons_zero, List.set_cons_succ]
        refine skipH 5 17 calm_np rfl rfl (by kernel_rfl) (by kernel_rfl) (by kernel_rfl) (by rfl) hHeld ?_
        try simp only [Act.put, List.setIfInBounds_toArray, List.set_cons_zero, List.set_cons_succ]
        refine skipH 6 18 calm_np rfl rfl (by kernel_rfl) (by kernel_rfl) (by kernel_rfl) (by rfl) hHeld ?_
        try simp only [Act.put, List.setIfInBounds_toArray, List.set_cons_zero, List.set_cons_succ]
        refine skipH 7 19 calm_np rfl rfl (by kernel_rfl) (by kernel_rfl) (by kernel_rfl) (by rfl) hHeld ?_
        try simp only [Act.put, List.setIfInBounds_toArray, List.set_cons_zero, List.set_cons_succ]
        refine skipH 8 20 calm_np rfl rfl (by kernel_rfl) (by kernel_rfl) (by kernel_rfl) (by rfl) hHeld ?_
        try simp only [Act.put, List.setIfInBounds_toArray, List.set_cons_zero, List.set_cons_succ]
        refine skipH 9 21 calm_np rfl rfl (by kernel_rfl) (by kernel_rfl) (by kernel_rfl) (by rfl) hHeld ?_
        try simp only [Act.put, List.setIfInBounds_toArray, List.set_cons_zero, List.set_cons_succ]
        refine skipH 10 22 calm_np rfl rfl (by kernel_rfl) (by kernel_rfl) (by kernel_rfl) (by rfl) hHeld ?_
        try simp only [Act.put, List.setIfInBounds_toArray, List.set_cons_zero, List.set_cons_succ]
        refine skipH 11 23 calm_np rfl rfl (by kernel_rfl) (by kernel_rfl) (by kernel_rfl) (by rfl) hHeld ?_
        try simp only [Act.put, List.setIfInBounds_toArray, List.set_cons_zero, List.set_cons_succ]
        refine skipH 12 24 calm_np rfl rfl (by kernel_rfl) (by kernel_rfl) (by kernel_rfl) (by rfl) hHeld ?_
        try simp only [Act.put, List.setIfInBounds_toArray, List.set_cons_zero, List.set_cons_succ]
        refine skipH 13 25 calm_np rfl rfl (by kernel_rfl) (by kernel_rfl) (by kernel_rfl) (by rfl) hHeld ?_
        try simp only [Act.put, List.setIfInBounds_toArray, List.set_cons_zero, List.set_cons_succ]
        refine skipH 14 26 calm_np rfl rfl (by kernel_rfl) (by kernel_rfl) (by kernel_rfl) (by rfl) hHeld ?_
        try simp only [Act.put, List.setIfInBounds_toArray, List.set_cons_zero, List.set_cons_succ]
        refine skipH 15 27 calm_np rfl rfl (by kernel_rfl) (by kernel_rfl) (by kernel_rfl) (by rfl) hHeld ?_
        try simp only [Act.put, List.setIfInBounds_toArray, List.set_cons_zero, List.set_cons_succ]
        refine skipH 16 28 calm_np rfl rfl (by kernel_rfl) (by kernel_rfl) (by kernel_rfl) (by rfl) hHeld ?_
        try simp only [Act.put, List.setIfInBounds_toArray, List.set_cons_zero, List.set_cons_succ]
        refine skipH 17 29 calm_np rfl rfl (by kernel_rfl) (by kernel_rfl) (by kernel_rfl) (by rfl) hHeld ?_
        try simp only [Act.put, List.setIfInBounds_toArray, List.set_cons_zero, List.set_cons_succ]
        refine skipH 18 30 calm_np rfl rfl (by kernel_rfl) (by kernel_rfl) (by kernel_rfl) (by rfl) hHeld ?_
        try simp only [Act.put, List.setIfInBounds_toArray, List.set_cons_zero, List.set_cons_succ]
        refine takeH 19 31 (.bool true) calm_np rfl rfl (by kernel_rfl) (by kernel_rfl) (by kernel_rfl) (by rfl) (fun W' hSw => by go_simp) hHeld ?_
        try simp only [Act.put, List.setIfInBounds_toArray, List.set_cons_zero, List.set_cons_succ]
        refine wpAnyH_done (by kernel_rfl) ?_ _
        refine NoPanic.normal ?_
        have HH := Lib.hid hHeld
        clear hHeld
        go_wp2_with fail
        go_ret
        exact ⟨ret_bool HNO2.out.symm, below_trans HB1.out HH.out⟩
      | true =>
        rw [hm] at hn
        have HN := Lib.hid hn
        have HNM := Lib.hid hm
        clear hn hm
        go_cut [31] from 8 to 76 (fun c wx => Hid (Below W2.heap.size W2 wx) ∧ ∃ z, c = .bool (!z) ∧ (z = true → Upto ltR l (k + 1)) ∧ (z = false → rightS l = false))
        case first =>
          rcases Nat.eq_zero_or_pos k with rfl | hpos
          · skip
            refine wp_region_noPanic ?_
            refine wp_region_held_drew (S := fun W' => Below W2.heap.size W2 W') (by kernel_rfl) (dr W2) (fun hHeld => ?_)
            try simp only [Act.put, List.setIfInBounds_toArray, List.set_cons_zero, List.set_cons_succ]
            refine takeH 0 12 (.pointer (some ⟨g, 0, none⟩)) calm_np rfl rfl (by kernel_rfl) (by kernel_rfl) (by kernel_rfl) (by rfl) (fun W' hSw => by go_simp) hHeld ?_
            try simp only [Act.put, List.setIfInBounds_toArray, List.set_cons_zero, List.set_cons_succ]
            refine takeH 1 13 (.string x.s) calm_np rfl rfl (by kernel_rfl) (by kernel_rfl) (by kernel_rfl) (by rfl) (fun W' hSw => by obtain ⟨g0, g1, g2, g3, g4, g5⟩ := HX.out.below (by rw [HSZ2.out]; omega) hSw; go_simp) hHeld ?_
            try simp only [Act.put, List.setIfInBounds_toArray, List.set_cons_zero, List.set_cons_succ]
            refine wpAnyH_ready (rs := [2]) (by kernel_rfl) (by simp) (AllReadyH.cons rfl (fun K hK => ?_) AllReadyH.nil)
            go_simp
            refine (HN.out _).mono ?_
            rintro e V1 ⟨rfl, hz⟩
            have hh := below_trans hHeld hz
            clear hz
            go_simp
            refine hK.out _ _ hh (fun hHeld => ?_)
            clear hK hh
            try simp only [Act.put, List.setIfInBounds_toArray, List.set_cons_zero, List.set_cons_succ]
            refine takeH 3 15 (.bool false) calm_np rfl rfl (by kernel_rfl) (by kernel_rfl) (by kernel_rfl) (by rfl) (fun W' hSw => by go_simp) hHeld ?_
            try simp only [Act.put, List.setIfInBounds_toArray, List.set_cons_zero, List.set_cons_succ]
            refine takeH 4 16 (.bool false) calm_np rfl rfl (by kernel_rfl) (by kernel_rfl) (by kernel_rfl) (by rfl) (fun W' hSw => by go_simp) hHeld ?_
            try simp only [Act.put, List.setIfInBounds_toArray, List.set_cons_zero, List.set_cons_succ]
            refine takeH 5 17 (.int .i64 0) calm_np rfl rfl (by kernel_rfl) (by kernel_rfl) (by kernel_rfl) (by rfl) (fun W' hSw => by go_simp) hHeld ?_
            try simp only [Act.put, List.setIfInBounds_toArray, List.set_cons_zero, List.set_cons_succ]
            refine takeH 6 18 (.bool false) calm_np rfl rfl (by kernel_rfl) (by kernel_rfl) (by kernel_rfl) (by rfl) (fun W' hSw => by go_simp) hHeld ?_
            try simp only [Act.put, List.setIfInBounds_toArray, List.set_cons_zero, List.set_cons_succ]
            refine takeH 7 19 (.bool false) calm_np rfl rfl (by kernel_rfl) (by kernel_rfl) (by kernel_rfl) (by rfl) (fun W' hSw => by go_simp) hHeld ?_
            try simp only [Act.put, List.setIfInBounds_toArray, List.set_cons_zero, List.set_cons_succ]
            refine skipH 8 20 calm_np rfl rfl (by kernel_rfl) (by kernel_rfl) (by kernel_rfl) (by rfl) hHeld ?_
            try simp only [Act.put, List.setIfInBounds_toArray, List.set_cons_zero, List.set_cons_succ]
            refine skipH 9 21 calm_np rfl rfl (by kernel_rfl) (by kernel_rfl) (by kernel_rfl) (by rfl) hHeld ?_
            try simp only [Act.put, List.setIfInBounds_toArray, List.set_cons_zero, List.set_cons_succ]
            refine skipH 10 22 calm_np rfl rfl (by kernel_rfl) (by kernel_rfl) (by kernel_rfl) (by rfl) hHeld ?_
            try simp only [Act.put, List.setIfInBounds_toArray, List.set_cons_zero, List.set_cons_succ]
            refine skipH 11 23 calm_np rfl rfl (by kernel_rfl) (by kernel_rfl) (by kernel_rfl) (by rfl) hHeld ?_
            try simp only [Act.put, List.setIfInBounds_toArray, List.set_cons_zero, List.set_cons_succ]
            refine skipH 12 24 calm_np rfl rfl (by kernel_rfl) (by kernel_rfl) (by kernel_rfl) (by rfl) hHeld ?_
            try simp only [Act.put, List.setIfInBounds_toArray, List.set_cons_zero, List.set_cons_succ]
            refine skipH 13 25 calm_np rfl rfl (by kernel_rfl) (by kernel_rfl) (by kernel_rfl) (by rfl) hHeld ?_
            try simp only [Act.put, List.setIfInBounds_toArray, List.set_cons_zero, List.set_cons_succ]
            refine skipH 14 26 calm_np rfl rfl (by kernel_rfl) (by kernel_rfl) (by kernel_rfl) (by rfl) hHeld ?_
            try simp only [Act.put, List.setIfInBounds_toArray, List.set_cons_zero, List.set_cons_succ]
            refine skipH 15 27 calm_np rfl rfl (by kernel_rfl) (by kernel_rfl) (by kernel_rfl) (by rfl) hHeld ?_
            try simp only [Act.put, List.setIfInBounds_toArray, List.set_cons_zero, List.set_cons_succ]
            refine skipH 16 28 calm_np rfl rfl (by kernel_rfl) (by kernel_rfl) (by kernel_rfl) (by rfl) hHeld ?_
            try simp only [Act.put, List.setIfInBounds_toArray, List.set_cons_zero, List.set_cons_succ]
            refine skipH 17 29 calm_np rfl rfl (by kernel_rfl) (by kernel_rfl) (by kernel_rfl) (by rfl) hHeld ?_
            try simp only [Act.put, List.setIfInBounds_toArray, List.set_cons_zero, List.set_cons_succ]
            refine takeH 18 30 (.bool false) calm_np rfl rfl (by kernel_rfl) (by kernel_rfl) (by kernel_rfl) (by rfl) (fun W' hSw => by go_simp) hHeld ?_
            try simp only [Act.put, List.setIfInBounds_toArray, List.set_cons_zero, List.set_cons_succ]
            refine takeH 19 31 (.bool false) calm_np rfl rfl (by kernel_rfl) (by kernel_rfl) (by kernel_rfl) (by rfl) (fun W' hSw => by go_simp) hHeld ?_
            try simp only [Act.put, List.setIfInBounds_toArray, List.set_cons_zero, List.set_cons_succ]
            refine wpAnyH_done (by kernel_rfl) ?_ _
            refine NoPanic.normal ?_
            have HH := Lib.hid hHeld
            clear hHeld
            go_wp2_with fail
            go_meet
            exact ⟨HH, true, rfl, fun _ _ _ h => by omega, fun h => by cases h⟩
          · obtain ⟨q, rfl⟩ : ∃ q, k = q + 1 := ⟨k - 1, by omega⟩
            have hq : q < l.length := by omega
            have hc := HCC.out q hq
            have hy := HYY.out q hq
            simp only [Nat.add_sub_cancel] at HUP HNO
            have HBS : Hid (b < wr.heap.size) := Lib.hid (by rw [HG.out]; exact hb)
            have c2 : IntKind.i64.wrap (q : Int) = q := IntWalk.i64_in _ (by omega)
            have c3 : (0 : Int) ≤ q := by omega
            have c4 : (q : Int) < l.length := by omega
            have HXK := Lib.hid hxk
            clear hxk
            obtain ⟨y, hyk⟩ : ∃ y, l[q] = y := ⟨_, rfl⟩
            rw [hyk] at hy hc
            have HYK := Lib.hid hyk
            clear hyk
            have HYB := Lib.hid hy
            have HLT : Hid (ltR l[q] x = ltT y.s x.s) := Lib.hid (by rw [HYK.out]; rfl)
            clear hy
            cases hm2 : ltT y.s x.s with
            | true =>
              rw [hm2] at hc
              have HC := Lib.hid hc
              have HUP2 := Lib.hid (HUP.out (by omega) (HLT.out.trans hm2))
              clear hc hm2 HUP HNO
              refine wp_region_noPanic ?_
              refine wp_region_held_drew (S := fun W' => Below W2.heap.size W2 W') (by kernel_rfl) (dr W2) (fun hHeld => ?_)
              try simp only [Act.put, List.setIfInBounds_toArray, List.set_cons_zero, List.set_cons_succ]
              refine takeH 0 12 (.pointer (some ⟨g, 0, none⟩)) calm_np rfl rfl (by kernel_rfl) (by kernel_rfl) (by kernel_rfl) (by rfl) (fun W' hSw => by go_simp) hHeld ?_
              try simp only [Act.put, List.setIfInBounds_toArray, List.set_cons_zero, List.set_cons_succ]
              refine takeH 1 13 (.string x.s) calm_np rfl rfl (by kernel_rfl) (by kernel_rfl) (by kernel_rfl) (by rfl) (fun W' hSw => by obtain ⟨g0, g1, g2, g3, g4, g5⟩ := HX.out.below (by rw [HSZ2.out]; omega) hSw; go_simp) hHeld ?_
              try simp only [Act.put, List.setIfInBounds_toArray, List.set_cons_zero, List.set_cons_succ]
              refine wpAnyH_ready (rs := [2]) (by kernel_rfl) (by simp) (AllReadyH.cons rfl (fun K hK => ?_) AllReadyH.nil)
              go_simp
              refine (HN.out _).mono ?_
              rintro e V1 ⟨rfl, hz⟩
              have hh := below_trans hHeld hz
              clear hz
              go_simp
              refine hK.out _ _ hh (fun hHeld => ?_)
              clear hK hh
              try simp only [Act.put, List.setIfInBounds_toArray, List.set_cons_zero, List.set_cons_succ]
              refine takeH 3 15 (.bool false) calm_np rfl rfl (by kernel_rfl) (by kernel_rfl) (by kernel_rfl) (by rfl) (fun W' hSw => by go_simp) hHeld ?_
              try simp only [Act.put, List.setIfInBounds_toArray, List.set_cons_zero, List.set_cons_succ]
              refine takeH 4 16 (.bool false) calm_np rfl rfl (by kernel_rfl) (by kernel_rfl) (by kernel_rfl) (by rfl) (fun W' hSw => by go_simp) hHeld ?_
              try simp only [Act.put, List.setIfInBounds_toArray, List.set_cons_zero, List.set_cons_succ]
              refine takeH 5 17 (.int .i64 ((q + 1 : Nat) : Int)) calm_np rfl rfl (by kernel_rfl) (by kernel_rfl) (by kernel_rfl) (by rfl) (fun W' hSw => by go_simp) hHeld ?_
              try simp only [Act.put, List.setIfInBounds_toArray, List.set_cons_zero, List.set_cons_succ]
              refine takeH 6 18 (.bool true) calm_np rfl rfl (by kernel_rfl) (by kernel_rfl) (by kernel_rfl) (by rfl) (fun W' hSw => by go_simp) hHeld ?_
              try simp only [Act.put, List.setIfInBounds_toArray, List.set_cons_zero, List.set_cons_succ]
              refine takeH 7 19 (.bool true) calm_np rfl rfl (by kernel_rfl) (by kernel_rfl) (by kernel_rfl) (by rfl) (fun W' hSw => by go_simp) hHeld ?_
              try simp only [Act.put, List.setIfInBounds_toArray, List.set_cons_zero, List.set_cons_succ]
              refine takeH 8 20 (.slice (some ⟨b, off, none⟩) l.length cap) calm_np rfl rfl (by kernel_rfl) (by kernel_rfl) (by kernel_rfl) (by rfl) (fun W' hSw => by go_simp) hHeld ?_
              try simp only [Act.put, List.setIfInBounds_toArray, List.set_cons_zero, List.set_cons_succ]
              refine takeH 9 21 (.int .i64 ((q + 1 : Nat) : Int)) calm_np rfl rfl (by kernel_rfl) (by kernel_rfl) (by kernel_rfl) (by rfl) (fun W' hSw => by go_simp) hHeld ?_
              try simp only [Act.put, List.setIfInBounds_toArray, List.set_cons_zero, List.set_cons_succ]
              refine takeH 10 22 (.int .i64 (q : Int)) calm_np rfl rfl (by kernel_rfl) (by kernel_rfl) (by kernel_rfl) (by rfl) (fun W' hSw => by go_simp) hHeld ?_
              try simp only [Act.put, List.setIfInBounds_toArray, List.set_cons_zero, List.set_cons_succ]
              refine takeH 11 23 (.pointer (some ⟨b, off + q * 6, none⟩)) calm_np rfl rfl (by kernel_rfl) (by kernel_rfl) (by kernel_rfl) (by rfl) (fun W' hSw => by go_simp) hHeld ?_
              try simp only [Act.put, List.setIfInBounds_toArray, List.set_cons_zero, List.set_cons_succ]
              refine takeH 12 24 (.pointer (some ⟨b, off + q * 6, none⟩)) calm_np rfl rfl (by kernel_rfl) (by kernel_rfl) (by kernel_rfl) (by rfl) (fun W' hSw => by go_simp) hHeld ?_
              try simp only [Act.put, List.setIfInBounds_toArray, List.set_cons_zero, List.set_cons_succ]
              refine takeH 13 25 (.string y.s) calm_np rfl rfl (by kernel_rfl) (by kernel_rfl) (by kernel_rfl) (by rfl) (fun W' hSw => by obtain ⟨m0, m1, m2, m3, m4, m5⟩ := (HYB.out.below HBS.out HBR.out).below (Nat.lt_of_lt_of_le HBS.out HBR.out.size) hSw; go_simp) hHeld ?_
              try simp only [Act.put, List.setIfInBounds_toArray, List.set_cons_zero, List.set_cons_succ]
              refine takeH 14 26 (.pointer (some ⟨g, 0, none⟩)) calm_np rfl rfl (by kernel_rfl) (by kernel_rfl) (by kernel_rfl) (by rfl) (fun W' hSw => by go_simp) hHeld ?_
              try simp only [Act.put, List.setIfInBounds_toArray, List.set_cons_zero, List.set_cons_succ]
              refine takeH 15 27 (.string x.s) calm_np rfl rfl (by kernel_rfl) (by kernel_rfl) (by kernel_rfl) (by rfl) (fun W' hSw => by obtain ⟨g0, g1, g2, g3, g4, g5⟩ := HX.out.below (by rw [HSZ2.out]; omega) hSw; go_simp) hHeld ?_
              try simp only [Act.put, List.setIfInBounds_toArray, List.set_cons_zero, List.set_cons_succ]
              refine wpAnyH_ready (rs := [16]) (by kernel_rfl) (by simp) (AllReadyH.cons rfl (fun K hK => ?_) AllReadyH.nil)
              go_simp
              refine (HC.out _).mono ?_
              rintro e V2 ⟨rfl, hz⟩
              have hh := below_trans hHeld hz
              clear hz
              go_simp
              refine hK.out _ _ hh (fun hHeld => ?_)
              clear hK hh
              try simp only [Act.put, List.setIfInBounds_toArray, List.set_cons_zero, List.set_cons_succ]
              refine takeH 17 29 (.bool false) calm_np rfl rfl (by kernel_rfl) (by kernel_rfl) (by kernel_rfl) (by rfl) (fun W' hSw => by go_simp) hHeld ?_
              try simp only [Act.put, List.setIfInBounds_toArray, List.set_cons_zero, List.set_cons_succ]
              refine takeH 18 30 (.bool false) calm_np rfl rfl (by kernel_rfl) (by kernel_rfl) (by kernel_rfl) (by rfl) (fun W' hSw => by go_simp) hHeld ?_
              try simp only [Act.put, List.setIfInBounds_toArray, List.set_cons_zero, List.set_cons_succ]
              refine takeH 19 31 (.bool false) calm_np rfl rfl (by kernel_rfl) (by kernel_rfl) (by kernel_rfl) (by rfl) (fun W' hSw => by go_simp) hHeld ?_
              try simp only [Act.put, List.setIfInBounds_toArray, List.set_cons_zero, List.set_cons_succ]
              refine wpAnyH_done (by kernel_rfl) ?_ _
              refine NoPanic.normal ?_
              have HH := Lib.hid hHeld
              clear hHeld
              go_wp2_with fail
              go_meet
              exact ⟨HH, true, rfl, fun _ => HUP2.out, fun h => by cases h⟩
            | false =>
              rw [hm2] at hc
              have HC := Lib.hid hc
              have HNO2 := Lib.hid (HNO.out (by omega) (HLT.out.trans hm2))
              clear hc hm2 HUP HNO
              refine wp_region_noPanic ?_
              refine wp_region_held_drew (S := fun W' => Below W2.heap.size W2 W') (by kernel_rfl) (dr W2) (fun hHeld => ?_)
              try simp only [Act.put, List.setIfInBounds_toArray, List.set_cons_zero, List.set_cons_succ]
              refine takeH 0 12 (.pointer (some ⟨g, 0, none⟩)) calm_np rfl rfl (by kernel_rfl) (by kernel_rfl) (by kernel_rfl) (by rfl) (fun W' hSw => by go_simp) hHeld ?_
              try simp only [Act.put, List.setIfInBounds_toArray, List.set_cons_zero, List.set_cons_succ]
              refine takeH 1 13 (.string x.s) calm_np rfl rfl (by kernel_rfl) (by kernel_rfl) (by kernel_rfl) (by rfl) (fun W' hSw => by obtain ⟨g0, g1, g2, g3, g4, g5⟩ := HX.out.below (by rw [HSZ2.out]; omega) hSw; go_simp) hHeld ?_
              try simp only [Act.put, List.setIfInBounds_toArray, List.set_cons_zero, List.set_cons_succ]
              refine wpAnyH_ready (rs := [2]) (by kernel_rfl) (by simp) (AllReadyH.cons rfl (fun K hK => ?_) AllReadyH.nil)
              go_simp
              refine (HN.out _).mono ?_
              rintro e V1 ⟨rfl, hz⟩
              have hh := below_trans hHeld hz
              clear hz
              go_simp
              refine hK.out _ _ hh (fun hHeld => ?_)
              clear hK hh
              try simp only [Act.put, List.setIfInBounds_toArray, List.set_cons_zero, List.set_cons_succ]
              refine takeH 3 15 (.bool false) calm_np rfl rfl (by kernel_rfl) (by kernel_rfl) (by kernel_rfl) (by rfl) (fun W' hSw => by go_simp) hHeld ?_
              try simp only [Act.put, List.setIfInBounds_toArray, List.set_cons_zero, List.set_cons_succ]
              refine takeH 4 16 (.bool false) calm_np rfl rfl (by kernel_rfl) (by kernel_rfl) (by kernel_rfl) (by rfl) (fun W' hSw => by go_simp) hHeld ?_
              try simp only [Act.put, List.setIfInBounds_toArray, List.set_cons_zero, List.set_cons_succ]
              refine takeH 5 17 (.int .i64 ((q + 1 : Nat) : Int)) calm_np rfl rfl (by kernel_rfl) (by kernel_rfl) (by kernel_rfl) (by rfl) (fun W' hSw => by go_simp) hHeld ?_
              try simp only [Act.put, List.setIfInBounds_toArray, List.set_cons_zero, List.set_cons_succ]
              refine takeH 6 18 (.bool true) calm_np rfl rfl (by kernel_rfl) (by kernel_rfl) (by kernel_rfl) (by rfl) (fun W' hSw => by go_simp) hHeld ?_
              try simp only [Act.put, List.setIfInBounds_toArray, List.set_cons_zero, List.set_cons_succ]
              refine takeH 7 19 (.bool true) calm_np rfl rfl (by kernel_rfl) (by kernel_rfl) (by kernel_rfl) (by rfl) (fun W' hSw => by go_simp) hHeld ?_
              try simp only [Act.put, List.setIfInBounds_toArray, List.set_cons_zero, List.set_cons_succ]
              refine takeH 8 20 (.slice (some ⟨b, off, none⟩) l.length cap) calm_np rfl rfl (by kernel_rfl) (by kernel_rfl) (by kernel_rfl) (by rfl) (fun W' hSw => by go_simp) hHeld ?_
              try simp only [Act.put, List.setIfInBounds_toArray, List.set_cons_zero, List.set_cons_succ]
              refine takeH 9 21 (.int .i64 ((q + 1 : Nat) : Int)) calm_np rfl rfl (by kernel_rfl) (by kernel_rfl) (by kernel_rfl) (by rfl) (fun W' hSw => by go_simp) hHeld ?_
              try simp only [Act.put, List.setIfInBounds_toArray, List.set_cons_zero, List.set_cons_succ]
              refine takeH 10 22 (.int .i64 (q : Int)) calm_np rfl rfl (by kernel_rfl) (by kernel_rfl) (by kernel_rfl) (by rfl) (fun W' hSw => by go_simp) hHeld ?_
              try simp only [Act.put, List.setIfInBounds_toArray, List.set_cons_zero, List.set_cons_succ]
              refine takeH 11 23 (.pointer (some ⟨b, off + q * 6, none⟩)) calm_np rfl rfl (by kernel_rfl) (by kernel_rfl) (by kernel_rfl) (by rfl) (fun W' hSw => by go_simp) hHeld ?_
              try simp only [Act.put, List.setIfInBounds_toArray, List.set_cons_zero, List.set_cons_succ]
              refine takeH 12 24 (.pointer (some ⟨b, off + q * 6, none⟩)) calm_np rfl rfl (by kernel_rfl) (by kernel_rfl) (by kernel_rfl) (by rfl) (fun W' hSw => by go_simp) hHeld ?_
              try simp only [Act.put, List.setIfInBounds_toArray, List.set_cons_zero, List.set_cons_succ]
              refine takeH 13 25 (.string y.s) calm_np rfl rfl (by kernel_rfl) (by kernel_rfl) (by kernel_rfl) (by rfl) (fun W' hSw => by obtain ⟨m0, m1, m2, m3, m4, m5⟩ := (HYB.out.below HBS.out HBR.out).below (Nat.lt_of_lt_of_le HBS.out HBR.out.size) hSw; go_simp) hHeld ?_
              try simp only [Act.put, List.setIfInBounds_toArray, List.set_cons_zero, List.set_cons_succ]
              refine takeH 14 26 (.pointer (some ⟨g, 0, none⟩)) calm_np rfl rfl (by kernel_rfl) (by kernel_rfl) (by kernel_rfl) (by rfl) (fun W' hSw => by go_simp) hHeld ?_
              try simp only [Act.put, List.setIfInBounds_toArray, List.set_cons_zero, List.set_cons_succ]
              refine takeH 15 27 (.string x.s) calm_np rfl rfl (by kernel_rfl) (by kernel_rfl) (by kernel_rfl) (by rfl) (fun W' hSw => by obtain ⟨g0, g1, g2, g3, g4, g5⟩ := HX.out.below (by rw [HSZ2.out]; omega) hSw; go_simp) hHeld ?_
              try simp only [Act.put, List.setIfInBounds_toArray, List.set_cons_zero, List.set_cons_succ]
              refine wpAnyH_ready (rs := [16]) (by kernel_rfl) (by simp) (AllReadyH.cons rfl (fun K hK => ?_) AllReadyH.nil)
              go_simp
              refine (HC.out _).mono ?_
              rintro e V2 ⟨rfl, hz⟩
              have hh := below_trans hHeld hz
              clear hz
              go_simp
              refine hK.out _ _ hh (fun hHeld => ?_)
              clear hK hh
              try simp only [Act.put, List.setIfInBounds_toArray, List.set_cons_zero, List.set_cons_succ]
              refine takeH 17 29 (.bool true) calm_np rfl rfl (by kernel_rfl) (by kernel_rfl) (by kernel_rfl) (by rfl) (fun W' hSw => by go_simp) hHeld ?_
              try simp only [Act.put, List.setIfInBounds_toArray, List.set_cons_zero, List.set_cons_succ]
              refine takeH 18 30 (.bool true) calm_np rfl rfl (by kernel_rfl) (by kernel_rfl) (by kernel_rfl) (by rfl) (fun W' hSw => by go_simp) hHeld ?_
              try simp only [Act.put, List.setIfInBounds_toArray, List.set_cons_zero, List.set_cons_succ]
              refine takeH 19 31 (.bool true) calm_np rfl rfl (by kernel_rfl) (by kernel_rfl) (by kernel_rfl) (by rfl) (fun W' hSw => by go_simp) hHeld ?_
              try simp only [Act.put, List.setIfInBounds_toArray, List.set_cons_zero, List.set_cons_succ]
              refine wpAnyH_done (by kernel_rfl) ?_ _
              refine NoPanic.normal ?_
              have HH := Lib.hid hHeld
              clear hHeld
              go_wp2_with fail
              go_meet
              exact ⟨HH, false, rfl, (fun h => by cases h), fun _ => HNO2.out⟩
        case rest =>
          obtain ⟨HH, z, rfl, hz1, hz2⟩ := hcut
          have HZ1 := Lib.hid hz1
          have HZ2 := Lib.hid hz2
          clear hz1 hz2 HCC HYY HUP HNO
          cases z with
          | false =>
            have HNO2 := Lib.hid (HZ2.out rfl)
            clear HZ1 HZ2
            go_wp2
            go_ret
            exact ⟨ret_bool HNO2.out.symm, below_trans HB1.out HH.out⟩
          | true =>
            obtain ⟨g0, g1, g2, g3, g4, g5⟩ := HX.out.below (by rw [HSZ2.out]; omega) HH.out
            have hsz : g < wc.heap.size := by have := HH.out.size; have := HSZ2.out; omega
            rcases six_ways x with ⟨hno, hw⟩ | ⟨hyes, d1, d2, d3, d4, d5, d6⟩
            · have HNO2 : Hid (rightS l = false) := Lib.hid (HOK.out (by unfold okR; rw [hno, Bool.and_false]))
              clear hno
              rcases hw with d1 | ⟨d1, d2⟩ | ⟨d1, d2, d3⟩ | ⟨d1, d2, d3, d4⟩ | ⟨d1, d2, d3, d4, d5⟩ | ⟨d1, d2, d3, d4, d5, d6⟩
              rotate_right
              · obtain ⟨a1, a2⟩ := of_decide_eq_true d1
                obtain ⟨b1, b2⟩ := of_decide_eq_true d2
                obtain ⟨c1, c2⟩ := of_decide_eq_true d3
                obtain ⟨e1, e2⟩ := of_decide_eq_true d4
                obtain ⟨f1, f2⟩ := of_decide_eq_true d5
                have d7 : (x.n - x.f - x.h - x.p != x.t) = true := by simpa using d6
                clear HZ1 HZ2 d6
                go_wp2_with (go_at_call 34; (with_reducible refine (HIN.out _ _).mono ?_); rintro e w' ⟨rfl, rfl⟩)
                go_ret
                exact ⟨ret_bool HNO2.out.symm, below_trans HB1.out HH.out⟩
              all_goals (
                clear HZ1 HZ2
                go_wp2_with (go_at_call 34; (with_reducible refine (HIN.out _ _).mono ?_); rintro e w' ⟨rfl, rfl⟩)
                go_ret
                exact ⟨ret_bool HNO2.out.symm, below_trans HB1.out HH.out⟩)
            · have HAT2 : Hid ((l.take (k + 1)).all okR = true) := Lib.hid (by rw [HAT.out, HR.out.1]; unfold okR; rw [HNM.out, hyes]; rfl)
              have HUP2 := Lib.hid (HZ1.out rfl)
              obtain ⟨a1, a2⟩ := of_decide_eq_true d1
              obtain ⟨b1, b2⟩ := of_decide_eq_true d2
              obtain ⟨c1, c2⟩ := of_decide_eq_true d3
              obtain ⟨e1, e2⟩ := of_decide_eq_true d4
              obtain ⟨f1, f2⟩ := of_decide_eq_true d5
              have d7 : (x.n - x.f - x.h - x.p != x.t) = false := by simpa using d6
              clear d6
              clear hyes HZ1 HZ2
              go_wp2_with (go_at_call 34; (with_reducible refine (HIN.out _ _).mono ?_); rintro e w' ⟨rfl, rfl⟩)
              go_roundg (l.length - (k + 1))
              case measure => omega
              case rel => exact ⟨k + 1, by omega, Nat.le_refl _, by go_num, HAT2.out, HUP2.out, below_trans HR.out.2.2 (below_trans HBR.out HH.out)⟩
    · obtain rfl : k = l.length := by omega
      have HY : Hid (rightS l = decide (l.length ≤ 8)) := Lib.hid (rightS_end (by have := HR.out.1; rwa [List.take_length] at this) HR.out.2.1)
      by_cases h8 : l.length ≤ 8
      · have h8i : (l.length : Int) ≤ 8 := by omega
        rw [decide_eq_true h8] at HY
        go_wp2
        go_ret
        exact ⟨ret_bool HY.out.symm, HR.out.2.2⟩
      · have h8i : ¬ (l.length : Int) ≤ 8 := by omega
        rw [decide_eq_false h8] at HY
        go_wp2
        go_ret
        exact ⟨ret_bool HY.out.symm, HR.out.2.2⟩
end Go.Proofs.Ytihfdeihpdkjcaa.Goods.Stk
