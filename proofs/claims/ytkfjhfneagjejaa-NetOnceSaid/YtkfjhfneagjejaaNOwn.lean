/-
  Rows of the call's own that grow among other blocks: appended to within a region that draws, which blocks stay; what package net's calls tell, way by way.
-/
import Derived.Test.YtkfjhfneagjejaaNWays
import Derived.Deep.CutBlock
namespace Go.Proofs.Ytkfjhfneagjejaa.Net
open Go.ChangeShapes Go.WideShapes Go.ChangeAt Go.RowKit Go.Shelf Go.Lib
open Go.Proofs.Ytkfjhfneagjejaa.Queue (Box al dr below_trans ret_bool BoolB)

/-- A value's block is another one. -/
def SepB (g : Nat) (v : Value) : Prop := v.ownBlock ≠ some g
theorem SepB.after {g : Nat} {v v' : Value} {n : Nat} (h : SepB g v) (hg : g < n) (hl : ∀ k, v'.ownBlock = some k → v.ownBlock = some k ∨ k = n) : SepB g v' := fun e => by
  rcases hl g e with h1 | h1
  · exact h h1
  · omega
theorem SepB.under {g g' n c : Nat} (h : g < g') : SepB g (.slice (some ⟨g', 0, none⟩) n c) := fun e => by
  simp only [Value.ownBlock, Option.some.injEq] at e
  omega
theorem OwnN.sep {B g : Nat} {v : Value} {l : List Pc} {w : World} (h : OwnN B v l w) (hg : w.heap.size ≤ g) : SepB g v := fun e => by
  have := (World.ownsRow.lt h g e).2
  omega
theorem Box.keptN {b : Nat} {vs : List Value} {w w' : World} (h : Box b vs w) {row : Option Nat} (hg : w.grownBy w' row) (hne : row ≠ some b) : Box b vs w' := by
  have hb := hg.block b h.1 (Ne.symm hne)
  refine ⟨Nat.lt_of_lt_of_le h.1 hg.size, fun j v hj => ⟨(World.cell?_of_block (a := ⟨b, j, none⟩) hb).trans (h.2 j v hj).1, ?_⟩⟩
  have := (h.2 j v hj).2
  unfold World.frozen? at this ⊢
  rw [show w'.heap[(⟨b, j, none⟩ : Addr).block]? = w.heap[(⟨b, j, none⟩ : Addr).block]? from hb]
  exact this
theorem one_kept {g : Nat} {x : Pc} {w w' : World} (h : NRow w (.slice (some ⟨g, 0, none⟩) 1 1) [x]) {row : Option Nat} (hg : w.grownBy w' row) (hne : row ≠ some g) : NRow w' (.slice (some ⟨g, 0, none⟩) 1 1) [x] := by
  obtain ⟨a, cap, e, h1, h2, h3⟩ := h
  cases e
  refine ⟨_, 1, rfl, h1, h2, fun h0 => ?_⟩
  obtain ⟨b, off, e, hb, hc⟩ := h3 h0
  cases e
  have hk := hg.block g hb (Ne.symm hne)
  refine ⟨g, 0, rfl, Nat.lt_of_lt_of_le hb hg.size, fun j hj => ?_⟩
  obtain ⟨c0, c1, c2, c3, c4, c5⟩ := hc j hj
  exact ⟨(World.cell?_of_block (a := ⟨g, _, none⟩) hk).trans c0, (World.cell?_of_block (a := ⟨g, _, none⟩) hk).trans c1, (World.cell?_of_block (a := ⟨g, _, none⟩) hk).trans c2, (World.cell?_of_block (a := ⟨g, _, none⟩) hk).trans c3, (World.cell?_of_block (a := ⟨g, _, none⟩) hk).trans c4, (World.cell?_of_block (a := ⟨g, _, none⟩) hk).trans c5⟩
theorem one_lt {g : Nat} {x : Pc} {w : World} (h : NRow w (.slice (some ⟨g, 0, none⟩) 1 1) [x]) : g < w.heap.size := six_lt h
theorem NRow.sep {v : Value} {l : List Pc} {w : World} {g j : Nat} {u : Value} (h : NRow w v l) (hs : SepB g v) : NRow (w.setCell ⟨g, j, none⟩ u) v l :=
  h.far (fun a n c e _ hb => hs (by rw [e]; show some a.block = some g; rw [hb]))
theorem NRow.sep_two {v : Value} {l : List Pc} {w : World} {g : Nat} (u0 u1 : Value) (h : NRow w v l) (hs : SepB g v) : NRow ((w.setCell ⟨g, 0, none⟩ u0).setCell ⟨g, 1, none⟩ u1) v l := (h.sep hs).sep hs
theorem OwnN.sep_set {B g j : Nat} {v u : Value} {l : List Pc} {w : World} (h : OwnN B v l w) (hs : SepB g v) : OwnN B v l (w.setCell ⟨g, j, none⟩ u) := by
  obtain ⟨h0, h1 | ⟨g', cap, cur, hv, hg', hh, hrest⟩⟩ := h
  · exact ⟨h0, .inl h1⟩
  · have hne : g' ≠ g := fun e => hs (by rw [hv, e]; rfl)
    exact ⟨h0, .inr ⟨g', cap, cur, hv, hg', (heap_setCell_other _ ⟨g, j, none⟩ _ _ hne).trans hh, hrest⟩⟩
/-- Some are appended to a row of the call's own. -/
theorem own_append {B : Nat} {v u : Value} {l m : List Pc} {w : World} (ty : TypeId) (hown : OwnN B v l w) (hu : NRow w u m) (hl : l.length ≤ 100000) (hm : m.length ≤ 100000) (hB : B ≤ w.heap.size) :
    ∃ v' w', (Builtin.append_ #[22, 22] ty #[v, u]).run Try.prog w = .ok v' w' ∧ OwnN B v' (l ++ m) w' ∧ Below B w w' ∧ w.grownBy w' v.ownBlock ∧ (∀ g, v'.ownBlock = some g → v.ownBlock = some g ∨ g = w.heap.size) := by
  obtain ⟨i0, hi, hz0, hz1, hz2⟩ := info_parts infoN
  obtain ⟨au, cu, rfl⟩ := hu.slice
  rcases Nat.eq_zero_or_pos m.length with h0 | h0
  · obtain ⟨av, cv, rfl⟩ := hown.row.slice
    obtain rfl : m = [] := List.eq_nil_of_length_eq_zero h0
    refine ⟨_, w, run_append_zero ty (NRow.cap hown.row).2.1, ?_, ⟨rfl, rfl, rfl, Nat.le_refl _, fun _ _ => rfl⟩, ⟨rfl, rfl, rfl, Nat.le_refl _, fun _ _ _ => rfl⟩, fun g e => .inl e⟩
    rw [List.append_nil]
    exact hown
  · obtain ⟨bu, ou, rfl, _⟩ := hu.at h0
    have hnews := hu.news
    obtain ⟨v', w', hrun, hown', hg, _, hlies⟩ := run_append_own_at (P := Try.prog) w B 22 ty 26 i0 (.agg #[.int .i64 0, .bool false, .int .i64 0, .int .i64 0, .int .i64 0, .bool false]) 6 48 Try.underlying22 hi hz0 hz1 hz2 rfl (by decide) v l.length (ncells l) hown _ m.length cu (ncells m) (by rw [ncells_len]) hnews (ncells_one m) (by unfold maxLen; omega) (by omega) hB
    have ho : OwnN B v' (l ++ m) w' := by
      unfold OwnN
      rw [ncells_append, List.length_append]
      exact hown'
    refine ⟨v', w', hrun, ho, (show Below B w w from ⟨rfl, rfl, rfl, Nat.le_refl _, fun _ _ => rfl⟩).grown hg hB (fun j hj => (World.ownsRow.lt hown j hj).1), hg, fun g e => ?_⟩
    rcases hlies with h1 | h1
    · exact .inl (h1 ▸ e)
    · rw [h1] at e
      exact .inr (Option.some.inj e).symm
theorem wp_append_O {w : World} {o : Oper} {a : Act} {K : Act → World → Prop} {Q : Exit → Act → World → Prop} (s x : Operand)
    (ho : o.op = .call { callee := .builtin .append, args := #[s, x], argTypes := #[22, 22] })
    (base : Nat) (v : Value) (l0 : List Pc) (hs : a.eval s = v) (hown : OwnN base v l0 w) (u : Value) (l : List Pc) (hx : a.eval x = u) (hrow : NRow w u l) (h0 : l0.length ≤ 100000) (hl : l.length ≤ 100000) (hbase : base ≤ w.heap.size)
    (h : ∀ v' w', OwnN base v' (l0 ++ l) w' → Below base w w' → w.grownBy w' v.ownBlock → (∀ g, v'.ownBlock = some g → v.ownBlock = some g ∨ g = w.heap.size) → K (a.put o.dst v') w') : o.wp Try.prog a w K Q := by
  obtain ⟨v', w', hr, h1, h2, h3, h4⟩ := own_append o.type hown hrow h0 hl hbase
  exact Lib.wp_append_run w s x _ _ ho v u hs hx v' w' hr (h v' w' h1 h2 h3 h4)
theorem step_append_O {w : World} {ops : Array Oper} {o : Oper} {a : Act} {K : Act → World → Prop} {Q : Exit → Act → World → Prop} {E : Prop} (hw : Region.wanted o (yielded ops a.tmps) = true) (d : Nat) (hd : o.dst = some d) (s x : Operand)
    (ho : o.op = .call { callee := .builtin .append, args := #[s, x], argTypes := #[22, 22] })
    (base : Nat) (v : Value) (l0 : List Pc) (hs : a.eval s = v) (hown : OwnN base v l0 w) (u : Value) (l : List Pc) (hx : a.eval x = u) (hrow : NRow w u l) (h0 : l0.length ≤ 100000) (hl : l.length ≤ 100000) (hbase : base ≤ w.heap.size)
    (h : ∀ v' w', OwnN base v' (l0 ++ l) w' → Below base w w' → w.grownBy w' v.ownBlock → (∀ g, v'.ownBlock = some g → v.ownBlock = some g ∨ g = w.heap.size) → K (a.put (some d) v') w') : if Region.wanted o (yielded ops a.tmps) = true then Oper.wp Try.prog o a w K Q else E := by
  rw [if_pos hw]
  rw [← hd] at h
  exact wp_append_O s x ho base v l0 hs hown u l hx hrow h0 hl hbase h
theorem wpList_append_O {w : World} {ops : Array Oper} {rest : List Oper} {o : Oper} {a : Act} {Q : Exit → Act → World → Prop} (hgd : o.guard = none) (s x : Operand)
    (ho : o.op = .call { callee := .builtin .append, args := #[s, x], argTypes := #[22, 22] })
    (base : Nat) (v : Value) (l0 : List Pc) (hs : a.eval s = v) (hown : OwnN base v l0 w) (u : Value) (l : List Pc) (hx : a.eval x = u) (hrow : NRow w u l) (h0 : l0.length ≤ 100000) (hl : l.length ≤ 100000) (hbase : base ≤ w.heap.size)
    (h : ∀ v' w', OwnN base v' (l0 ++ l) w' → Below base w w' → w.grownBy w' v.ownBlock → (∀ g, v'.ownBlock = some g → v.ownBlock = some g ∨ g = w.heap.size) → wpList Try.prog ops Q rest (a.put o.dst v') w') : wpList Try.prog ops Q (o :: rest) a w :=
  wpList_plain hgd fun _ hK => wp_append_O s x ho base v l0 hs hown u l hx hrow h0 hl hbase fun v' w' h1 h2 h3 h4 => hK _ _ (h v' w' h1 h2 h3 h4)

/-- What the calls with a place tell. -/
theorem goes_ways (l : List Pc) (t i : Int) :
    (rightB l t = false ∧ placeZ l t i = 1 ∧ tookL l t i = [] ∧ tookT l t i = 0 ∧ tookX l t i = noP ∧ lastL l t i = [] ∧ twiceZ l t i = 1 ∧ twiceL l t i = [] ∧ twiceT l t i = 0) ∨
    (rightB l t = true ∧ ¬ (0 ≤ i ∧ i < l.length) ∧ placeZ l t i = 8 ∧ tookL l t i = [] ∧ tookT l t i = 0 ∧ tookX l t i = noP ∧ lastL l t i = [] ∧ twiceZ l t i = 8 ∧ twiceL l t i = [] ∧ twiceT l t i = 0) ∨
    (rightB l t = true ∧ ∃ (k : Nat) (hk : k < l.length), i = k ∧ placeZ l t i = 0 ∧ tookL l t i = rest l k ∧ tookT l t i = t ∧ tookX l t i = l[k] ∧ lastL l t i = rest l k ++ [l[k]] ∧
      ((l.length = 64 ∧ twiceZ l t i = 7 ∧ twiceL l t i = [] ∧ twiceT l t i = 0) ∨ (l.length ≠ 64 ∧ twiceZ l t i = 0 ∧ twiceL l t i = l ++ [l[k]] ∧ twiceT l t i = t))) := by
  rcases place_ways l t i with ⟨hr, e⟩ | ⟨hr, hi, e⟩ | ⟨hr, k, hk, rfl, e⟩
  · have e2 : twiceZ l t i = 1 := by unfold twiceZ; rw [e, if_neg (by decide)]
    refine .inl ⟨hr, e, ?_, ?_, ?_, ?_, e2, ?_, ?_⟩
    · unfold tookL; rw [e, if_neg (by decide)]
    · unfold tookT; rw [e, if_neg (by decide)]
    · unfold tookX; rw [e, if_neg (by decide)]
    · unfold lastL; rw [e, if_neg (by decide)]
    · unfold twiceL; rw [e2, if_neg (by decide)]
    · unfold twiceT; rw [e2, if_neg (by decide)]
  · have e2 : twiceZ l t i = 8 := by unfold twiceZ; rw [e, if_neg (by decide)]
    refine .inr (.inl ⟨hr, hi, e, ?_, ?_, ?_, ?_, e2, ?_, ?_⟩)
    · unfold tookL; rw [e, if_neg (by decide)]
    · unfold tookT; rw [e, if_neg (by decide)]
    · unfold tookX; rw [e, if_neg (by decide)]
    · unfold lastL; rw [e, if_neg (by decide)]
    · unfold twiceL; rw [e2, if_neg (by decide)]
    · unfold twiceT; rw [e2, if_neg (by decide)]
  · refine .inr (.inr ⟨hr, k, hk, rfl, e, ?_, ?_, ?_, ?_, ?_⟩)
    · unfold tookL; rw [e, if_pos rfl, Int.toNat_natCast]
    · unfold tookT; rw [e, if_pos rfl]
    · unfold tookX; rw [e, if_pos rfl, pcAt_is hk]
    · unfold lastL; rw [e, if_pos rfl, pcAt_is hk, Int.toNat_natCast]
    · by_cases h64 : l.length = 64
      · have e2 : twiceZ l t k = 7 := by unfold twiceZ; rw [e, if_pos rfl, if_pos h64]
        refine .inl ⟨h64, e2, ?_, ?_⟩
        · unfold twiceL; rw [e2, if_neg (by decide)]
        · unfold twiceT; rw [e2, if_neg (by decide)]
      · have e2 : twiceZ l t k = 0 := by unfold twiceZ; rw [e, if_pos rfl, if_neg h64]
        refine .inr ⟨h64, e2, ?_, ?_⟩
        · unfold twiceL; rw [e2, if_pos rfl, pcAt_is hk]
        · unfold twiceT; rw [e2, if_pos rfl]
end Go.Proofs.Ytkfjhfneagjejaa.Net
