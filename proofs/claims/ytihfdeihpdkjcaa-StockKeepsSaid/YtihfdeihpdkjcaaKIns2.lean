/-
  Contract of the library's slices.Insert over rows: ahead of a row's end, with room.
-/
import Derived.Test.YtihfdeihpdkjcaaKIns
namespace Go.Proofs.Ytihfdeihpdkjcaa.Goods.Stk
open Go.ChangeShapes Go.WideShapes Go.ChangeAt Go.RowKit Go.Shelf

set_option maxRecDepth 100000 in
set_option maxHeartbeats 4000000 in
/-- Ahead of it, with room. -/
theorem Insert_shift {B g cap : Nat} {l : List Rw} {w : World} (h : OwnR B (.slice (some ⟨g, 0, none⟩) l.length cap) l w) (hl : l.length ≤ 1000) {i : Nat} (hi : i < l.length) (hroom : l.length + 1 ≤ cap) {q : Nat} {x : Rw} (hqg : q ≠ g)
    (hq : w.heap[q]? = some (.cells #[.string x.s, .int .i64 x.n, .int .i64 x.f, .int .i64 x.h, .int .i64 x.p, .int .i64 x.t] 25 (0, 0))) :
    Calls Try.prog 25 #[.slice (some ⟨g, 0, none⟩) l.length cap, .int .i64 i, .slice (some ⟨q, 0, none⟩) 1 1] w (InsE B (l.take i ++ x :: l.drop i) w) := by
  obtain ⟨_, ⟨h1, h2⟩ | ⟨g', cap', cur, hv, hBg, hh, hn, hm, hcs, htk⟩⟩ := h
  · cases h1
  injection hv with e1 e2 e3
  injection e1 with e1
  injection e1 with e1 e4 e5
  subst e1
  subst e3
  clear e2 e4 e5
  have hc63 : cap ≤ 9223372036854775807 := by unfold maxLen at hm; omega
  have hD : (rcells (l.drop i)).length = (l.length - i) * 6 := by rw [rcells_len, List.length_drop]
  have hX : (rcells [x]).length = 6 := rfl
  have hAl : cur.toList.length = cap * 6 := by simpa using hcs
  obtain ⟨C1, hC1⟩ : ∃ C, (cur.toList.take (i * 6 + 6) ++ rcells (l.drop i) ++ cur.toList.drop (i * 6 + 6 + (rcells (l.drop i)).length)).toArray = C := ⟨_, rfl⟩
  have hC1l : C1.size = cap * 6 := by
    rw [← hC1]
    simp only [List.size_toArray, List.length_append, List.length_take, List.length_drop]
    omega
  have hcell : ∀ j u, (rcells l)[j]? = some u → w.cell? ⟨g, j, none⟩ = some u := fun j u hu => by
    have hj : j < l.length * 6 := by have := (List.getElem?_eq_some_iff.1 hu).1; rwa [rcells_len] at this
    rw [← htk, List.getElem?_take, if_pos hj] at hu
    simpa [World.cell?, hh] using hu
  have hcp1 : ∀ ty dc sc, (Builtin.copy_ #[22, 22] ty #[.slice (some ⟨g, (i + 1) * 6, none⟩) (l.length + 1 - (i + 1)) dc, .slice (some ⟨g, i * 6, none⟩) (l.length + 1 - i) sc]).run Try.prog w.drew = .ok (goInt (l.length - i : Nat)) (w.drew.setRow g C1) := fun ty dc sc => by
    have := run_copy_six w.drew ty g ((i + 1) * 6) (l.length + 1 - (i + 1)) dc ⟨g, i * 6, none⟩ (l.length + 1 - i) sc (l.length - i) cur 25 (rcells (l.drop i)) hh (by simp only [Nat.min_def]; split <;> omega) hD
      (fun j v hj => by
        rw [rcells_drop, List.getElem?_drop] at hj
        rw [addr_add]
        exact hcell _ _ hj) (by rw [hcs]; omega) (rcells_one _)
    rw [show (i + 1) * 6 = i * 6 + 6 by omega] at this ⊢
    rw [hC1] at this
    exact this
  obtain ⟨C2, hC2⟩ : ∃ C, (C1.toList.take (i * 6) ++ rcells [x] ++ C1.toList.drop (i * 6 + (rcells [x]).length)).toArray = C := ⟨_, rfl⟩
  have hC2l : C2.size = cap * 6 := by
    rw [← hC2]
    simp only [List.size_toArray, List.length_append, List.length_take, List.length_drop, Array.length_toList]
    omega
  have hg1 : (w.drew.setRow g C1).heap[g]? = some (.cells C1 25 (0, 0)) := setRow_heap _ _ _ _ _ _ hh
  have hq1 : (w.drew.setRow g C1).heap[q]? = some (.cells #[.string x.s, .int .i64 x.n, .int .i64 x.f, .int .i64 x.h, .int .i64 x.p, .int .i64 x.t] 25 (0, 0)) := (setRow_other _ _ _ _ hqg).trans hq
  have hcp2 : ∀ ty dc, (Builtin.copy_ #[22, 22] ty #[.slice (some ⟨g, i * 6, none⟩) (l.length + 1 - i) dc, .slice (some ⟨q, 0, none⟩) 1 1]).run Try.prog (w.drew.setRow g C1) = .ok (goInt (1 : Nat)) ((w.drew.setRow g C1).setRow g C2) := fun ty dc => by
    have := run_copy_six (w.drew.setRow g C1) ty g (i * 6) (l.length + 1 - i) dc ⟨q, 0, none⟩ 1 1 1 C1 25 (rcells [x]) hg1 (by simp only [Nat.min_def]; split <;> omega) rfl
      (fun j v hj => by
        rw [addr_add, Nat.zero_add]
        have hj' : j < 6 := (List.getElem?_eq_some_iff.1 hj).1
        rcases (by omega : j = 0 ∨ j = 1 ∨ j = 2 ∨ j = 3 ∨ j = 4 ∨ j = 5) with rfl | rfl | rfl | rfl | rfl | rfl <;> (simp [rcells] at hj; subst hj; simp [World.cell?, hq1])) (by rw [hC1l]; omega) (rcells_one _)
    rw [hC2] at this
    exact this
  have hov : ∀ lb cb, (callFunc 44 #[.slice (some ⟨q, 0, none⟩) 1 1, .slice (some ⟨g, (i + 1) * 6, none⟩) lb cb]).run Try.prog w = .ok (.value (.bool false)) w := fun lb cb => by
    obtain ⟨i0, hi0, hz0, hz1, hz2⟩ := info_parts infoR
    have hsa : w.shape? q = some (25, 6) := by simp [World.shape?, hq]
    have hsb : w.shape? g = some (25, cur.size) := by simp [World.shape?, hh]
    rw [run_callFunc_extern Try.func44 (by kernel_rfl) (by kernel_rfl) (by kernel_rfl) (e := Extern.SlicesOverlaps.overlaps #[22, 22] #[4]) (by kernel_rfl),
      Lib.run_overlaps_apart w 22 4 25 Try.underlying22 6 (fun w => by simp [sizeOf, typeInfo, hi0, hz1]) ⟨q, 0, none⟩ ⟨g, (i + 1) * 6, none⟩ 1 1 lb cb hqg 25 25 6 cur.size hsa hsb (by rw [hcs]; omega) (by simp [World.frozen?, hq]) (by simp [World.frozen?, hq])]
    rfl
  have HEND : Hid (OwnR B (.slice (some ⟨g, 0, none⟩) (l.length + 1) cap) (l.take i ++ x :: l.drop i) ((w.drew.setRow g C1).setRow g C2) ∧ Below B w ((w.drew.setRow g C1).setRow g C2)) := Lib.hid (by
    refine ⟨?_, below_setRow (below_setRow ((dr w).mono (Nat.le_trans hBg (Nat.le_of_lt (Array.getElem?_eq_some_iff.1 hh).1))) hBg _) hBg _⟩
    unfold OwnR World.ownsRow
    rw [ins_len l x (by omega), ins_cells]
    refine ⟨?_, .inr ⟨g, cap, C2, rfl, hBg, setRow_heap _ _ _ _ _ _ hg1, hroom, hm, hC2l, ?_⟩⟩
    · rw [List.length_append, List.length_append, hD, hX, rcells_len, List.length_take]; omega
    · rw [← hC2, ← hC1]
      have := lay_shift (A := cur.toList) (D := rcells (l.drop i)) (X := rcells [x]) (i := i * 6) (k := l.length * 6) (m := (l.length + 1) * 6) (by omega) (by omega) (by rw [hD]; omega) hX (by omega)
      rw [hX]
      rw [this, rcells_take, ← htk, List.take_take]
      congr 2; omega)
  have hz2 : ¬ ((i : Int) = (l.length : Int)) := by omega
  have hw1 : IntKind.i64.wrap ((i : Int) + 1) = (i : Int) + 1 := by rw [IntKind.wrap_i64]; omega
  have hb1 : (0 : Int) ≤ (i : Int) + 1 := by omega
  have hin : i ≤ l.length := by omega
  have htn : ((i : Int) + 1).toNat = i + 1 := by omega
  have hb2 : ¬ (cap = i + 1) := by omega
  have hb3 : (i : Int) ≤ (l.length : Int) + 1 := by omega
  have hb4 : ¬ (cap = i) := by omega
  obtain ⟨W1, hW1⟩ : ∃ W, w.drew.setRow g C1 = W := ⟨_, rfl⟩
  obtain ⟨W2, hW2⟩ : ∃ W, W1.setRow g C2 = W := ⟨_, rfl⟩
  rw [hW1] at hcp1 hcp2 HEND
  rw [hW2] at hcp2 HEND
  have HCP1 := Lib.hid hcp1
  have HCP2 := Lib.hid hcp2
  clear hW1 hW2 hcp1 hcp2 hC1 hC2 htk hcell hD hX hAl hg1 hq1 hq hh hcs hC1l hC2l hm hn
  generalize hL : l.length = n at *
  clear hL
  go_enter Try.func25, Try.ntmps25
  go_wp2_with (simp only [hov])
  clear hov
  go_region_law (refine step_copy_six (by rfl) _ _ (by rfl) (.slice (some ⟨g, (i + 1) * 6, none⟩) (n + 1 - (i + 1)) (cap - (i + 1))) (.slice (some ⟨g, i * 6, none⟩) (n + 1 - i) (cap - i)) (by simp [Act.eval, Act.put]) (by simp [Act.eval, Act.put]) (HCP1.out _ _ _) ?_)
  have hcp2 := HCP2.out
  go_wp2
  go_ret
  exact ⟨_, rfl, HEND.out.1, HEND.out.2⟩
end Go.Proofs.Ytihfdeihpdkjcaa.Goods.Stk
