/-
  Contract of the library's slices.Insert over rows: ahead of a row's end, without room; and all three ways in one.
-/
import Derived.Test.YtihfdeihpdkjcaaKIns2
namespace Go.Proofs.Ytihfdeihpdkjcaa.Goods.Stk
open Go.ChangeShapes Go.WideShapes Go.ChangeAt Go.RowKit Go.Shelf

def zs : Array Value := #[.string ⟨#[]⟩, .int .i64 0, .int .i64 0, .int .i64 0, .int .i64 0, .int .i64 0]
theorem zs_len (k : Nat) : (Builtin.zeroCells zs k).size = k * 6 := by simp [Builtin.zeroCells, zs]
set_option maxRecDepth 100000 in
set_option maxHeartbeats 4000000 in
/-- Ahead of it, without room. -/
theorem Insert_grow {B g cap : Nat} {l : List Rw} {w : World} (h : OwnR B (.slice (some ⟨g, 0, none⟩) l.length cap) l w) (hl : l.length ≤ 1000) {i : Nat} (hi : i < l.length) (hroom : cap < l.length + 1) {q : Nat} {x : Rw}
    (hq : w.heap[q]? = some (.cells #[.string x.s, .int .i64 x.n, .int .i64 x.f, .int .i64 x.h, .int .i64 x.p, .int .i64 x.t] 25 (0, 0))) :
    Calls Try.prog 25 #[.slice (some ⟨g, 0, none⟩) l.length cap, .int .i64 i, .slice (some ⟨q, 0, none⟩) 1 1] w (InsE B (l.take i ++ x :: l.drop i) w) := by
  obtain ⟨_, ⟨h1, h2⟩ | ⟨g', cap', cur, hv, hBg, hh, hn, hm, hcs, htk⟩⟩ := h
  · cases h1
  injection hv with e1 e2 e3
  injection e1 with e1
  injection e1 with e1 e4 e5
  subst e1
  subst e3
  clear e2 e4 e5
  obtain ⟨i0, hi0, hz0, hz1, hz2⟩ := info_parts infoR
  have hgw : g < w.heap.size := (Array.getElem?_eq_some_iff.1 hh).1
  have hqw : q < w.heap.size := (Array.getElem?_eq_some_iff.1 hq).1
  have hD : (rcells (l.drop i)).length = (l.length - i) * 6 := by rw [rcells_len, List.length_drop]
  have hX : (rcells [x]).length = 6 := rfl
  have hT : (rcells (l.take i)).length = i * 6 := by rw [rcells_len, List.length_take]; omega
  have hcell : ∀ j u, (rcells l)[j]? = some u → w.cell? ⟨g, j, none⟩ = some u := fun j u hu => by
    have hj : j < l.length * 6 := by have := (List.getElem?_eq_some_iff.1 hu).1; rwa [rcells_len] at this
    rw [← htk, List.getElem?_take, if_pos hj] at hu
    simpa [World.cell?, hh] using hu
  have hold : (Builtin.firstCells i0.size i (.slice (some ⟨g, 0, none⟩) i cap)).run Try.prog w.drew = .ok (rcells (l.take i)).toArray w.drew := by
    rw [hz1]
    exact run_firstCells_some (w := w.drew) 6 i ⟨g, 0, none⟩ i cap (rcells (l.take i)) hT (fun j v hj => by
      rw [addr_add, Nat.zero_add]
      rw [rcells_take, List.getElem?_take] at hj
      split at hj
      · exact hcell j v hj
      · cases hj)
  obtain ⟨G, hG⟩ : ∃ G, grownCap w (l.length + 1) cap 25 = G := ⟨_, rfl⟩
  have hGn : l.length + 1 ≤ G := by rw [← hG]; exact grownCap_ge w _ _ _
  have hGm : G ≤ maxLen := by rw [← hG]; exact grownCap_le_maxLen w _ _ _ (by unfold maxLen; omega)
  have hG63 : G ≤ 9223372036854775807 := by unfold maxLen at hGm; omega
  obtain ⟨R, hR⟩ : ∃ R : Array Value, (rcells (l.take i)).toArray ++ Builtin.zeroCells zs (l.length + 1 - i) ++ Builtin.zeroCells zs (G - (l.length + 1)) = R := ⟨_, rfl⟩
  have hRl : R.size = G * 6 := by
    rw [← hR]
    simp only [Array.size_append, List.size_toArray, zs_len]
    omega
  have hRt : R.toList.take (i * 6) = rcells (l.take i) := by
    rw [← hR, Array.append_assoc, Array.toList_append]
    exact List.take_left' (by simpa using hT)
  have hap : ∀ ty, (Builtin.append_ #[22, 3] ty #[.slice (some ⟨g, 0, none⟩) i cap, .int .i64 ((l.length : Int) + 1 - (i : Int))]).run Try.prog w =
      .ok (.slice (some ⟨w.heap.size, 0, none⟩) (l.length + 1) G) (w.drew.alloc (.cells R 25)) := fun ty => by
    have hik : i + (l.length + 1 - i) = l.length + 1 := by omega
    have h := Lib.run_append_grow_zeros w 22 3 ty 25 i0 _ .i64 .i64 Try.underlying22 Try.underlying3 hi0 hz0 (some ⟨g, 0, none⟩) i cap (rcells (l.take i)) hold (l.length + 1 - i) (by omega) (by omega) (by omega) (by omega) (by rw [hz2]; omega) (by rw [hz2, hik]; exact growslice_fits hroom (by omega))
    rw [hik, hG] at h
    rw [show (l.length : Int) + 1 - (i : Int) = ((l.length + 1 - i : Nat) : Int) by omega]
    rw [← hR]
    exact h
  obtain ⟨W1, hW1⟩ : ∃ W, w.drew.alloc (.cells R 25) = W := ⟨_, rfl⟩
  rw [hW1] at hap
  have hg1 : W1.heap[w.heap.size]? = some (.cells R 25 (0, 0)) := by rw [← hW1]; exact heap_alloc_new w.drew _
  have hB1 : Below w.heap.size w W1 := by rw [← hW1]; exact (dr w).alloc (Nat.le_refl _) _
  have hq1 : W1.heap[q]? = some (.cells #[.string x.s, .int .i64 x.n, .int .i64 x.f, .int .i64 x.h, .int .i64 x.p, .int .i64 x.t] 25 (0, 0)) := (hB1.block q hqw).trans hq
  obtain ⟨C1, hC1⟩ : ∃ C, (R.toList.take (i * 6) ++ rcells [x] ++ R.toList.drop (i * 6 + (rcells [x]).length)).toArray = C := ⟨_, rfl⟩
  have hC1l : C1.size = G * 6 := by
    rw [← hC1]
    simp only [List.size_toArray, List.length_append, List.length_take, List.length_drop, Array.length_toList]
    omega
  have hcp1 : ∀ ty dc, (Builtin.copy_ #[22, 22] ty #[.slice (some ⟨w.heap.size, i * 6, none⟩) (l.length + 1 - i) dc, .slice (some ⟨q, 0, none⟩) 1 1]).run Try.prog W1 = .ok (goInt (1 : Nat)) (W1.setRow w.heap.size C1) := fun ty dc => by
    have := run_copy_six W1 ty w.heap.size (i * 6) (l.length + 1 - i) dc ⟨q, 0, none⟩ 1 1 1 R 25 (rcells [x]) hg1 (by simp only [Nat.min_def]; split <;> omega) rfl
      (fun j v hj => by
        rw [addr_add, Nat.zero_add]
        have hj' : j < 6 := (List.getElem?_eq_some_iff.1 hj).1
        rcases (by omega : j = 0 ∨ j = 1 ∨ j = 2 ∨ j = 3 ∨ j = 4 ∨ j = 5) with rfl | rfl | rfl | rfl | rfl | rfl <;> (simp [rcells] at hj; subst hj; simp [World.cell?, hq1])) (by rw [hRl]; omega) (rcells_one _)
    rw [hC1] at this
    exact this
  obtain ⟨W2, hW2⟩ : ∃ W, W1.setRow w.heap.size C1 = W := ⟨_, rfl⟩
  rw [hW2] at hcp1
  have hg2 : W2.heap[w.heap.size]? = some (.cells C1 25 (0, 0)) := by rw [← hW2]; exact setRow_heap _ _ _ _ _ _ hg1
  have hB2 : Below w.heap.size w W2 := by rw [← hW2]; exact below_setRow hB1 (Nat.le_refl _) _
  obtain ⟨C2, hC2⟩ : ∃ C, (C1.toList.take (i * 6 + 6) ++ rcells (l.drop i) ++ C1.toList.drop (i * 6 + 6 + (rcells (l.drop i)).length)).toArray = C := ⟨_, rfl⟩
  have hC2l : C2.size = G * 6 := by
    rw [← hC2]
    simp only [List.size_toArray, List.length_append, List.length_take, List.length_drop, Array.length_toList]
    omega
  have hcp2 : ∀ ty dc sc, (Builtin.copy_ #[22, 22] ty #[.slice (some ⟨w.heap.size, (i + 1) * 6, none⟩) (l.length + 1 - (i + 1)) dc, .slice (some ⟨g, i * 6, none⟩) (l.length - i) sc]).run Try.prog W2.drew = .ok (goInt (l.length - i : Nat)) (W2.drew.setRow w.heap.size C2) := fun ty dc sc => by
    have := run_copy_six W2.drew ty w.heap.size ((i + 1) * 6) (l.length + 1 - (i + 1)) dc ⟨g, i * 6, none⟩ (l.length - i) sc (l.length - i) C1 25 (rcells (l.drop i)) hg2 (by simp only [Nat.min_def]; split <;> omega) hD
      (fun j v hj => by
        rw [rcells_drop, List.getElem?_drop] at hj
        rw [addr_add]
        exact (hB2.cell (p := ⟨g, i * 6 + j, none⟩) hgw).trans (hcell _ _ hj)) (by rw [hC1l]; omega) (rcells_one _)
    rw [show (i + 1) * 6 = i * 6 + 6 by omega] at this ⊢
    rw [hC2] at this
    exact this
  obtain ⟨W3, hW3⟩ : ∃ W, W2.drew.setRow w.heap.size C2 = W := ⟨_, rfl⟩
  rw [hW3] at hcp2
  have hg3 : W3.heap[w.heap.size]? = some (.cells C2 25 (0, 0)) := by rw [← hW3]; exact setRow_heap _ _ _ _ _ _ hg2
  have hB3 : Below w.heap.size w W3 := by rw [← hW3]; exact below_setRow (below_trans hB2 (dr W2)) (Nat.le_refl _) _
  have HEND : Hid (OwnR B (.slice (some ⟨w.heap.size, 0, none⟩) (l.length + 1) G) (l.take i ++ x :: l.drop i) W3 ∧ Below B w W3) := Lib.hid (by
    refine ⟨?_, hB3.mono (by omega)⟩
    unfold OwnR World.ownsRow
    rw [ins_len l x (by omega), ins_cells]
    refine ⟨?_, .inr ⟨w.heap.size, G, C2, rfl, by omega, hg3, hGn, hGm, hC2l, ?_⟩⟩
    · rw [List.length_append, List.length_append, hD, hX, hT]; omega
    · rw [← hC2, ← hC1]
      have := lay_grow (R := R.toList) (D := rcells (l.drop i)) (X := rcells [x]) (i := i * 6) (k := l.length * 6) (m := (l.length + 1) * 6) (by omega) (by have : R.toList.length = G * 6 := hRl; omega) (by rw [hD]; omega) hX (by omega)
      rw [← hRt]
      exact this)
  have HAP := Lib.hid hap
  have HCP1 := Lib.hid hcp1
  have HCP2 := Lib.hid hcp2
  have hz2' : ¬ ((i : Int) = (l.length : Int)) := by omega
  have hz3 : (cap : Int) < (l.length : Int) + 1 := by omega
  have hw1 : IntKind.i64.wrap ((i : Int) + 1) = (i : Int) + 1 := by rw [IntKind.wrap_i64]; omega
  have hb1 : (0 : Int) ≤ (i : Int) + 1 := by omega
  have hin : i ≤ l.length := by omega
  have htn : ((i : Int) + 1).toNat = i + 1 := by omega
  have hb3 : (i : Int) ≤ (l.length : Int) := by omega
  have hGi : ¬ (G = i) := by omega
  have hGim : ¬ (G = i + 1) := by omega
  have hci : ¬ (cap = i) := by omega
  have hcl : ¬ (cap < l.length) := by omega
  clear hap hcp1 hcp2 hg1 hg2 hg3 hB1 hB2 hB3 hW1 hW2 hW3 hC1 hC2 hC1l hC2l hR hRl hRt hG hGm hold hcell htk hD hX hT hq1 hq hh hcs hm hi0 hz0 hz1 hz2
  generalize w.heap.size = b at *
  generalize l.length = n at *
  go_enter Try.func25, Try.ntmps25
  have hcp1 := HCP1.out
  go_wp2_with (at_builtin; refine Lib.wpList_append_run _ rfl _ _ _ _ rfl _ _ rfl rfl _ _ (HAP.out _) ?_)
  clear hcp1
  go_region_law (refine step_copy_six (by rfl) _ _ (by rfl) (.slice (some ⟨b, (i + 1) * 6, none⟩) (n + 1 - (i + 1)) (G - (i + 1))) (.slice (some ⟨g, i * 6, none⟩) (n - i) (cap - i)) (by simp [Act.eval, Act.put]) (by simp [Act.eval, Act.put]) (HCP2.out _ _ _) ?_)
  go_wp2
  go_ret
  exact ⟨_, rfl, HEND.out.1, HEND.out.2⟩

/-- Anywhere. -/
theorem Insert_any {B : Nat} {v : Value} {l : List Rw} {w : World} (h : OwnR B v l w) (hl : l.length ≤ 1000) (hB : B ≤ w.heap.size) {i : Nat} (hi : i ≤ l.length) {q : Nat} {x : Rw} (hqg : ∀ g, v.ownBlock = some g → q ≠ g)
    (hq : w.heap[q]? = some (.cells #[.string x.s, .int .i64 x.n, .int .i64 x.f, .int .i64 x.h, .int .i64 x.p, .int .i64 x.t] 25 (0, 0))) :
    Calls Try.prog 25 #[v, .int .i64 i, .slice (some ⟨q, 0, none⟩) 1 1] w (InsE B (l.take i ++ x :: l.drop i) w) := by
  rcases Nat.lt_or_ge i l.length with hlt | hge
  · obtain ⟨g, cap, rfl, _, _, _, _, _, _⟩ := h.at hlt
    rcases Nat.lt_or_ge cap (l.length + 1) with hr | hr
    · exact Insert_grow h hl hlt hr hq
    · exact Insert_shift h hl hlt hr (hqg g rfl) hq
  · obtain rfl : i = l.length := by omega
    have e : l.take l.length ++ x :: l.drop l.length = l ++ [x] := by simp
    rw [e]
    refine Insert_end h hl hB ⟨_, 1, rfl, by simp, by omega, fun _ => ⟨q, 0, rfl, (Array.getElem?_eq_some_iff.1 hq).1, fun j hj => ?_⟩⟩
    obtain rfl : j = 0 := by simpa using hj
    refine ⟨?_, ?_, ?_, ?_, ?_, ?_⟩ <;> simp [World.cell?, hq]
end Go.Proofs.Ytihfdeihpdkjcaa.Goods.Stk
