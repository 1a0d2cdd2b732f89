/-
  Waits appended to a row of none, within a region that draws; and to a row of the call's own there.
-/
import Derived.Test.YtdgenemgegpkdaaQSorted
import Derived.Deep.CutRange
namespace Go.Proofs.Ytdgenemgegpkdaa.Queue
open Go.ChangeShapes Go.WideShapes Go.ChangeAt Go.RowKit Go.Lib Go.Sort

theorem QRow.addr {w : World} {a : Option Addr} {n c : Nat} {l : List Wt} (h : QRow w (.slice a n c) l) (h0 : 0 < l.length) : ∃ ad, a = some ad := by
  obtain ⟨a', cap', e, _, _, h3⟩ := h
  injection e with e1 e2 e3
  obtain ⟨b, off, ea, _⟩ := h3 h0
  exact ⟨_, e1.trans ea⟩
/-- Nothing is appended. -/
theorem run_append_naught (w : World) (ty : TypeId) (b : Nat) (a : Option Addr) (c : Nat) : (Builtin.append_ #[22, 22] ty #[.slice (some ⟨b, 0, none⟩) 0 0, .slice a 0 c]).run Try.prog w = .ok (.slice (some ⟨b, 0, none⟩) 0 0) w := by
  obtain ⟨i0, hi, hz0, hz1, hz2⟩ := info_parts infoQ
  cases a with
  | none => simp [Builtin.append_, run_underlying Try.underlying22, sizeOf, typeInfo, hi, Builtin.lenOf, Builtin.firstCells, storeCells]
  | some ad => simp [Builtin.append_, run_underlying Try.underlying22, sizeOf, typeInfo, hi, Builtin.lenOf, Builtin.firstCells, loadCells, loadCellsFrom, storeCells]
/-- Some are appended to none: a new row. -/
theorem run_append_fresh (w : World) (ty : TypeId) (b : Nat) (ad : Addr) (c : Nat) (l : List Wt) (h0 : 0 < l.length) (hl : l.length ≤ 1000) (h : QRow w (.slice (some ad) l.length c) l) :
    ∃ v' w', (Builtin.append_ #[22, 22] ty #[.slice (some ⟨b, 0, none⟩) 0 0, .slice (some ad) l.length c]).run Try.prog w = .ok v' w' ∧ OwnQ w.heap.size v' l w' ∧ Below w.heap.size w w' := by
  obtain ⟨i0, hi, hz0, hz1, hz2⟩ := info_parts infoQ
  have hz3 : (Value.cells (.agg #[.int .i64 0, .int .i64 0, .int .i64 0])).size = 3 := rfl
  have hge := grownCap_ge w l.length 0 24
  have hcm : grownCap w l.length 0 24 ≤ maxLen := grownCap_le_maxLen w l.length 0 24 (by unfold maxLen; omega)
  have hr := run_append_grow (P := Try.prog) w 22 ty 24 i0 (.agg #[.int .i64 0, .int .i64 0, .int .i64 0]) Try.underlying22 hi hz0 ⟨b, 0, none⟩ 0 0 [] (by simp) (by simp) ad l.length c (qcells l) (by rw [qcells_len, hz1]) h.news (by omega) (by omega) (growslice_fits (by omega) (by rw [hz2]; omega))
  simp only [Nat.zero_add] at hr
  refine ⟨_, _, hr, ⟨by rw [qcells_len], .inr ⟨w.heap.size, _, _, rfl, Nat.le_refl _, heap_alloc_new w.drew _, hge, hcm, ?_, ?_⟩⟩, below_trans (dr w) (al w.drew _)⟩
  · simp only [Array.size_append, List.size_toArray, size_zeroCells, hz3, qcells_len, List.length_nil, Nat.zero_add, ← Nat.add_mul]
    congr 1
    omega
  · simp only [Array.toList_append, List.append_assoc]
    rw [List.nil_append, ← qcells_len]
    exact List.take_left

/-- A row of the call's own, or of none. -/
def FreeQ (base : Nat) (v : Value) (l : List Wt) (w : World) : Prop := OwnQ base v l w ∨ (l = [] ∧ ∃ b, v = .slice (some ⟨b, 0, none⟩) 0 0)
theorem FreeQ.below {base : Nat} {v : Value} {l : List Wt} {w w' : World} (h : FreeQ base v l w) (hb : Below w.heap.size w w') : FreeQ base v l w' := by
  rcases h with h | h
  · exact .inl (h.below hb)
  · exact .inr h
theorem FreeQ.slice {base : Nat} {v : Value} {l : List Wt} {w : World} (h : FreeQ base v l w) : ∃ a c, v = .slice a l.length c := by
  rcases h with h | ⟨rfl, b, rfl⟩
  · exact h.row.slice
  · exact ⟨_, _, rfl⟩
section
variable {w : World} {ops : Array Oper} {o : Oper} {a : Act} {K : Act → World → Prop} {Q : Exit → Act → World → Prop} {E : Prop}
/-- Any are appended to none. -/
theorem step_first (hw : Region.wanted o (yielded ops a.tmps) = true) (d : Nat) (hd : o.dst = some d) (s y : Operand)
    (ho : o.op = .call { callee := .builtin .append, args := #[s, y], argTypes := #[22, 22] })
    (b : Nat) (hs : a.eval s = .slice (some ⟨b, 0, none⟩) 0 0) (ad : Option Addr) (n c : Nat) (hy : a.eval y = .slice ad n c) (l : List Wt) (hn : l.length = n) (hl : n ≤ 1000) (hrow : QRow w (.slice ad n c) l)
    (h : ∀ v' w', FreeQ w.heap.size v' l w' → Below w.heap.size w w' → K (a.put (some d) v') w') : if Region.wanted o (yielded ops a.tmps) = true then Oper.wp Try.prog o a w K Q else E := by
  subst hn
  rw [if_pos hw]
  rw [← hd] at h
  by_cases h0 : l = []
  · subst h0
    have hr := run_append_naught w o.type b ad c
    unfold Oper.wp execOp
    simp only [ho, resolve, invoke, builtin, Sem.run_bind, Sem.run_pure, Result.andThen_ok, List.map_toArray, List.map_cons, List.map_nil, hs, hy, List.length_nil, hr]
    exact h _ _ (.inr ⟨rfl, b, rfl⟩) (Below.refl _ _)
  · have hp : 0 < l.length := List.length_pos_iff.2 h0
    obtain ⟨ad, rfl⟩ := hrow.addr hp
    obtain ⟨v', w', hr, h2, h3⟩ := run_append_fresh w o.type b ad c l hp hl hrow
    unfold Oper.wp execOp
    simp only [ho, resolve, invoke, builtin, Sem.run_bind, Sem.run_pure, Result.andThen_ok, List.map_toArray, List.map_cons, List.map_nil, hs, hy, hr]
    exact h v' w' (.inl h2) h3
/-- Some are appended to a row of the call's own, or of none. -/
theorem step_onto (hw : Region.wanted o (yielded ops a.tmps) = true) (d : Nat) (hd : o.dst = some d) (s y : Operand)
    (ho : o.op = .call { callee := .builtin .append, args := #[s, y], argTypes := #[22, 22] })
    (base : Nat) (v : Value) (l0 : List Wt) (hs : a.eval s = v) (hown : FreeQ base v l0 w) (ad : Addr) (n c : Nat) (hy : a.eval y = .slice (some ad) n c) (l : List Wt) (hn : l.length = n) (hl0 : l0.length ≤ 1000) (hl : n ≤ 1000) (hp : 0 < n) (hrow : QRow w (.slice (some ad) n c) l) (hbase : base ≤ w.heap.size)
    (h : ∀ v' w', QRow w' v' (l0 ++ l) → Below base w w' → K (a.put (some d) v') w') : if Region.wanted o (yielded ops a.tmps) = true then Oper.wp Try.prog o a w K Q else E := by
  subst hn
  rw [if_pos hw]
  rw [← hd] at h
  rcases hown with hown | ⟨rfl, b, rfl⟩
  · exact wp_append_waits s y ho base v l0 hs hown ad c l _ rfl hy hrow hl0 hl hbase (fun v' w' h1 h2 => h v' w' h1.row h2)
  · obtain ⟨v', w', hr, h2, h3⟩ := run_append_fresh w o.type b ad c l hp hl hrow
    unfold Oper.wp execOp
    simp only [ho, resolve, invoke, builtin, Sem.run_bind, Sem.run_pure, Result.andThen_ok, List.map_toArray, List.map_cons, List.map_nil, hs, hy, hr]
    exact h v' w' h2.row (h3.mono hbase)
end
end Go.Proofs.Ytdgenemgegpkdaa.Queue
