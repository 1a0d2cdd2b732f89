/-
  Parcels in memory: slices that read as such, of 6 cells each; rows of them in blocks of their own, appended to.
-/
import Derived.Test.YtkfjhfneagjejaaNMath
import Derived.Test.YtkfjhfneagjejaaQRow
import Derived.Laws.OwnMore
import Derived.Lib.OwnKind
import Derived.Lib.LazyBuf
import Derived.Laws.AppendOwnNone
import Derived.Deep.Onto
namespace Go.Proofs.Ytkfjhfneagjejaa.Net
open Go.ChangeShapes Go.WideShapes Go.ChangeAt Go.RowKit Go.Shelf
open Go.Lib
theorem addr_add (b off j : Nat) : (⟨b, off, none⟩ : Addr).add j = ⟨b, off + j, none⟩ := by
  unfold Addr.add
  split
  · rename_i h; subst h; rfl
  · rfl

/-- Its cells lie there. -/
def Six (w : World) (b o : Nat) (x : Pc) : Prop := w.cell? ⟨b, o, none⟩ = some (.int .i64 x.n) ∧ w.cell? ⟨b, o + 1, none⟩ = some (.bool x.b) ∧ w.cell? ⟨b, o + 2, none⟩ = some (.int .i64 x.y) ∧ w.cell? ⟨b, o + 3, none⟩ = some (.int .i64 x.k) ∧ w.cell? ⟨b, o + 4, none⟩ = some (.int .i64 x.o) ∧ w.cell? ⟨b, o + 5, none⟩ = some (.bool x.s)
theorem Six.below {w w' : World} {b o : Nat} {x : Pc} (h : Six w b o x) (hbl : b < w.heap.size) (hb : Below w.heap.size w w') : Six w' b o x := by
  obtain ⟨h0, h1, h2, h3, h4, h5⟩ := h
  exact ⟨(hb.cell (p := ⟨b, _, none⟩) hbl).trans h0, (hb.cell (p := ⟨b, _, none⟩) hbl).trans h1, (hb.cell (p := ⟨b, _, none⟩) hbl).trans h2, (hb.cell (p := ⟨b, _, none⟩) hbl).trans h3, (hb.cell (p := ⟨b, _, none⟩) hbl).trans h4, (hb.cell (p := ⟨b, _, none⟩) hbl).trans h5⟩
/-- A slice that reads as these. -/
def NRow (w : World) (v : Value) (l : List Pc) : Prop := ∃ (a : Option Addr) (cap : Nat), v = .slice a l.length cap ∧ l.length ≤ cap ∧ cap ≤ 9223372036854775807 ∧
  (0 < l.length → ∃ b off, a = some ⟨b, off, none⟩ ∧ b < w.heap.size ∧ ∀ j (h : j < l.length), Six w b (off + j * 6) l[j])
theorem NRow.below {w w' : World} {v : Value} {l : List Pc} (h : NRow w v l) (hb : Below w.heap.size w w') : NRow w' v l := by
  obtain ⟨a, cap, e, h1, h2, h3⟩ := h
  refine ⟨a, cap, e, h1, h2, fun h0 => ?_⟩
  obtain ⟨b, off, ea, hbl, hc⟩ := h3 h0
  exact ⟨b, off, ea, Nat.lt_of_lt_of_le hbl hb.size, fun j hj => (hc j hj).below hbl hb⟩
theorem NRow.slice {w : World} {v : Value} {l : List Pc} (h : NRow w v l) : ∃ a cap, v = .slice a l.length cap := by obtain ⟨a, cap, e, _⟩ := h; exact ⟨a, cap, e⟩
theorem NRow.at {w : World} {a : Option Addr} {cap : Nat} {l : List Pc} (h : NRow w (.slice a l.length cap) l) {q : Nat} (hq : q < l.length) :
    ∃ b off, a = some ⟨b, off, none⟩ ∧ l.length ≤ cap ∧ cap ≤ 9223372036854775807 ∧ b < w.heap.size ∧ Six w b (off + q * 6) l[q] := by
  obtain ⟨a', cap', e, h1, h2, h3⟩ := h
  cases e
  obtain ⟨b, off, ea, hbl, hc⟩ := h3 (by omega)
  exact ⟨b, off, ea, h1, h2, hbl, hc q hq⟩
theorem NRow.cap {w : World} {a : Option Addr} {n cap : Nat} {l : List Pc} (h : NRow w (.slice a n cap) l) : n = l.length ∧ l.length ≤ cap ∧ cap ≤ 9223372036854775807 := by
  obtain ⟨a', cap', e, h1, h2, _⟩ := h
  cases e
  exact ⟨rfl, h1, h2⟩
theorem NRow.take {w : World} {a : Option Addr} {cap : Nat} {l : List Pc} (h : NRow w (.slice a l.length cap) l) {n : Nat} (hn : n ≤ l.length) : NRow w (.slice a n cap) (l.take n) := by
  obtain ⟨a', cap', e, h1, h2, h3⟩ := h
  cases e
  have e1 : (l.take n).length = n := by rw [List.length_take]; omega
  refine ⟨a, cap, by rw [e1], by omega, h2, fun h0 => ?_⟩
  obtain ⟨b, off, ea, hbl, hc⟩ := h3 (by omega)
  exact ⟨b, off, ea, hbl, fun j hj => by
    rw [List.getElem_take]
    exact hc j (by omega)⟩
theorem NRow.drop {w : World} {ad : Addr} {cap : Nat} {l : List Pc} (h : NRow w (.slice (some ad) l.length cap) l) {n : Nat} (hn : n ≤ l.length) : NRow w (.slice (some (ad.add (n * 6))) (l.length - n) (cap - n)) (l.drop n) := by
  obtain ⟨a', cap', e, h1, h2, h3⟩ := h
  cases e
  have e1 : (l.drop n).length = l.length - n := List.length_drop
  refine ⟨_, cap - n, by rw [e1], by omega, by omega, fun h0 => ?_⟩
  obtain ⟨b, off, ea, hbl, hc⟩ := h3 (by omega)
  cases ea
  refine ⟨b, off + n * 6, by rw [addr_add], hbl, fun j hj => ?_⟩
  rw [List.getElem_drop, show off + n * 6 + j * 6 = off + (n + j) * 6 by omega]
  exact hc (n + j) (by omega)
theorem NRow.nil (w : World) : NRow w (.slice none 0 0) [] := ⟨none, 0, rfl, Nat.le_refl _, by omega, fun h => absurd h (Nat.lt_irrefl _)⟩
theorem NRow.no {w : World} {cap n : Nat} {l : List Pc} (h : NRow w (.slice none n cap) l) : l = [] := by
  obtain ⟨a', c', e, _, _, h3⟩ := h
  cases e
  cases l with
  | nil => rfl
  | cons x r => obtain ⟨b, off, e, _⟩ := h3 (by simp); cases e

/-- One as a value. -/
def nv (x : Pc) : Value := .agg #[.int .i64 x.n, .bool x.b, .int .i64 x.y, .int .i64 x.k, .int .i64 x.o, .bool x.s]
def ncells : List Pc → List Value
  | [] => []
  | x :: r => .int .i64 x.n :: .bool x.b :: .int .i64 x.y :: .int .i64 x.k :: .int .i64 x.o :: .bool x.s :: ncells r
theorem ncells_len : ∀ l : List Pc, (ncells l).length = l.length * 6
  | [] => rfl
  | x :: r => by simp [ncells, ncells_len r]; omega
theorem ncells_append : ∀ (l m : List Pc), ncells (l ++ m) = ncells l ++ ncells m
  | [], m => rfl
  | x :: r, m => by simp [ncells, ncells_append r m]
theorem ncells_at : ∀ (l : List Pc) (j : Nat) (h : j < l.length), (ncells l)[j * 6]? = some (.int .i64 l[j].n) ∧ (ncells l)[j * 6 + 1]? = some (.bool l[j].b) ∧ (ncells l)[j * 6 + 2]? = some (.int .i64 l[j].y) ∧ (ncells l)[j * 6 + 3]? = some (.int .i64 l[j].k) ∧ (ncells l)[j * 6 + 4]? = some (.int .i64 l[j].o) ∧ (ncells l)[j * 6 + 5]? = some (.bool l[j].s)
  | x :: r, 0, _ => ⟨rfl, rfl, rfl, rfl, rfl, rfl⟩
  | x :: r, j + 1, h => by
    have := ncells_at r j (by simpa using h)
    rw [show (j + 1) * 6 = j * 6 + 1 + 1 + 1 + 1 + 1 + 1 by omega]
    simpa [ncells] using this
theorem ncells_one : ∀ (l : List Pc) u, u ∈ ncells l → u.oneCell' = true
  | x :: r, u, h => by
    simp only [ncells, List.mem_cons] at h
    rcases h with rfl | rfl | rfl | rfl | rfl | rfl | h
    · rfl
    · rfl
    · rfl
    · rfl
    · rfl
    · rfl
    · exact ncells_one r u h
theorem infoN : (Try.prog.info? 26).map (fun i => (i.zero, i.size, i.bytes)) = some (some (.agg #[.int .i64 0, .bool false, .int .i64 0, .int .i64 0, .int .i64 0, .bool false]), 6, 48) := by kernel_rfl

/-- Some in a block of their own, that lies at B or behind it. -/
def OwnN (B : Nat) (v : Value) (l : List Pc) (w : World) : Prop := w.ownsRow B 26 6 v l.length (ncells l)
theorem OwnN.row {w : World} {B : Nat} {v : Value} {l : List Pc} (h : OwnN B v l w) : NRow w v l := by
  have hw := h
  obtain ⟨_, ⟨rfl, h2⟩ | ⟨g, cap, cur, rfl, hg, hh, hn, hm, _⟩⟩ := h
  · exact ⟨none, 0, by rw [h2], by omega, by omega, fun h => by omega⟩
  · refine ⟨_, cap, rfl, hn, by unfold maxLen at hm; omega, fun _ => ⟨g, 0, rfl, (Array.getElem?_eq_some_iff.1 hh).1, fun j hj => ?_⟩⟩
    obtain ⟨c0, c1, c2, c3, c4, c5⟩ := ncells_at l j hj
    have h0 := World.ownsRow.cells hw (g := g) rfl (j * 6) _ c0
    have h1 := World.ownsRow.cells hw (g := g) rfl (j * 6 + 1) _ c1
    have h2 := World.ownsRow.cells hw (g := g) rfl (j * 6 + 2) _ c2
    have h3 := World.ownsRow.cells hw (g := g) rfl (j * 6 + 3) _ c3
    have h4 := World.ownsRow.cells hw (g := g) rfl (j * 6 + 4) _ c4
    have h5 := World.ownsRow.cells hw (g := g) rfl (j * 6 + 5) _ c5
    rw [addr_add] at h0 h1 h2 h3 h4 h5
    exact ⟨h0, h1, h2, h3, h4, h5⟩
theorem NRow.news {w : World} {ad : Addr} {cap : Nat} {l : List Pc} (h : NRow w (.slice (some ad) l.length cap) l) : ∀ j u, (ncells l)[j]? = some u → w.cell? (ad.add j) = some u := by
  intro j u hu
  have hj : j < l.length * 6 := by
    have := (List.getElem?_eq_some_iff.1 hu).1
    rwa [ncells_len] at this
  have hq : j / 6 < l.length := by omega
  obtain ⟨b, off, e, _, _, _, c0, c1, c2, c3, c4, c5⟩ := h.at hq
  cases e
  obtain ⟨a0, a1, a2, a3, a4, a5⟩ := ncells_at l (j / 6) hq
  rw [addr_add]
  rcases (by omega : j % 6 = 0 ∨ j % 6 = 1 ∨ j % 6 = 2 ∨ j % 6 = 3 ∨ j % 6 = 4 ∨ j % 6 = 5) with hm | hm | hm | hm | hm | hm
  · rw [show j = j / 6 * 6 by omega] at hu ⊢
    rw [a0] at hu
    cases hu
    exact c0
  · rw [show j = j / 6 * 6 + 1 by omega] at hu ⊢
    rw [a1] at hu
    cases hu
    exact c1
  · rw [show j = j / 6 * 6 + 2 by omega] at hu ⊢
    rw [a2] at hu
    cases hu
    exact c2
  · rw [show j = j / 6 * 6 + 3 by omega] at hu ⊢
    rw [a3] at hu
    cases hu
    exact c3
  · rw [show j = j / 6 * 6 + 4 by omega] at hu ⊢
    rw [a4] at hu
    cases hu
    exact c4
  · rw [show j = j / 6 * 6 + 5 by omega] at hu ⊢
    rw [a5] at hu
    cases hu
    exact c5
theorem run_append_none_N {base cap : Nat} {v : Value} {l : List Pc} {w : World} (ty : TypeId) (hown : OwnN base v l w) : (Builtin.append_ #[22, 22] ty #[v, .slice none 0 cap]).run Try.prog w = .ok v w := by
  obtain ⟨i0, hi, hz0, hz1, hz2⟩ := info_parts infoN
  have hr := hown.row
  obtain ⟨a, c, rfl⟩ := hr.slice
  have hc := hr.cap.2.1
  have e : l.length + 0 ≤ c := by omega
  cases a with
  | none => simp [Builtin.append_, run_underlying Try.underlying22, sizeOf, typeInfo, hi, Builtin.lenOf, Builtin.firstCells, hc]
  | some ad => simp [Builtin.append_, run_underlying Try.underlying22, sizeOf, typeInfo, hi, Builtin.lenOf, Builtin.firstCells, storeCells, hc]
theorem OwnN.below {B : Nat} {v : Value} {l : List Pc} {w w' : World} (h : OwnN B v l w) (hb : Below w.heap.size w w') : OwnN B v l w' := by
  obtain ⟨h0, h1 | ⟨g, cap, cur, hv, hg, hh, hrest⟩⟩ := h
  · exact ⟨h0, .inl h1⟩
  · exact ⟨h0, .inr ⟨g, cap, cur, hv, hg, (hb.block g (Array.getElem?_eq_some_iff.1 hh).1).trans hh, hrest⟩⟩
theorem OwnN.mono {B B' : Nat} {v : Value} {l : List Pc} {w : World} (h : OwnN B v l w) (hb : B' ≤ B) : OwnN B' v l w := by
  obtain ⟨h0, h1 | ⟨g, cap, cur, hv, hg, hh, hrest⟩⟩ := h
  · exact ⟨h0, .inl h1⟩
  · exact ⟨h0, .inr ⟨g, cap, cur, hv, by omega, hh, hrest⟩⟩
/-- A row of none, just made. -/
theorem OwnN.empty (W : World) {B : Nat} (hB : B ≤ W.heap.size) : OwnN B (.slice (some ⟨W.heap.size, 0, none⟩) 0 0) [] (W.alloc (.cells #[] 26)) := World.ownsRow_made W #[] 0 hB (Nat.zero_le _) rfl
theorem OwnN.nil (W : World) (B : Nat) : OwnN B (.slice none 0 0) [] W := World.ownsRow_nil _ _ _ _
/-- A new row is returned. -/
def NewN (l : List Pc) (w : World) (e : Ending) (w' : World) : Prop := ∃ v, e = .returned v ∧ OwnN w.heap.size v l w' ∧ Below w.heap.size w w'
/-- Some, which may be none, are appended to a row of the call's own. -/
theorem wp_append_N {w : World} {o : Oper} {a : Act} {K : Act → World → Prop} {Q : Exit → Act → World → Prop} (s x : Operand)
    (ho : o.op = .call { callee := .builtin .append, args := #[s, x], argTypes := #[22, 22] })
    (base : Nat) (v : Value) (l0 : List Pc) (hs : a.eval s = v) (hown : OwnN base v l0 w) (u : Value) (l : List Pc) (hx : a.eval x = u) (hrow : NRow w u l) (h0 : l0.length ≤ 100000) (hl : l.length ≤ 100000) (hbase : base ≤ w.heap.size)
    (h : ∀ v' w', OwnN base v' (l0 ++ l) w' → Below base w w' → w.grownBy w' v.ownBlock → K (a.put o.dst v') w') : o.wp Try.prog a w K Q := by
  obtain ⟨i0, hi, hz0, hz1, hz2⟩ := info_parts infoN
  obtain ⟨ad, cap, rfl⟩ := hrow.slice
  cases ad with
  | none =>
    have e : l = [] := hrow.no
    subst e
    have hrun := run_append_none_N (cap := cap) o.type hown
    unfold Oper.wp
    simp only [execOp, ho, resolve, invoke, builtin, Sem.run_bind, Sem.run_pure, Result.andThen_ok, List.map_toArray, List.map_cons, List.map_nil, hs, hx]
    simp only [List.length_nil, hrun]
    exact h v w (by rw [List.append_nil]; exact hown) ⟨rfl, rfl, rfl, Nat.le_refl _, fun _ _ => rfl⟩ ⟨rfl, rfl, rfl, Nat.le_refl _, fun _ _ _ => rfl⟩
  | some ad =>
    refine wp_append_own w s x 22 ho base 26 i0 (.agg #[.int .i64 0, .bool false, .int .i64 0, .int .i64 0, .int .i64 0, .bool false]) 6 48 Try.underlying22 hi hz0 hz1 hz2 rfl (by decide) v l0.length (ncells l0) hs hown ad l.length cap (ncells l) hx (by rw [ncells_len]) hrow.news (ncells_one l) (by unfold maxLen; omega) (by omega) hbase ?_
    intro v' w1 hown' hgrow _
    refine h v' w1 ?_ ?_ hgrow
    · unfold OwnN
      rw [ncells_append, List.length_append]
      exact hown'
    · exact (show Below base w w from ⟨rfl, rfl, rfl, Nat.le_refl _, fun _ _ => rfl⟩).grown hgrow hbase (fun j hj => (hown.lt j hj).1)
theorem wpList_append_N {w : World} {ops : Array Oper} {rest : List Oper} {o : Oper} {a : Act} {Q : Exit → Act → World → Prop} (hgd : o.guard = none) (s x : Operand)
    (ho : o.op = .call { callee := .builtin .append, args := #[s, x], argTypes := #[22, 22] })
    (base : Nat) (v : Value) (l0 : List Pc) (hs : a.eval s = v) (hown : OwnN base v l0 w) (u : Value) (l : List Pc) (hx : a.eval x = u) (hrow : NRow w u l) (h0 : l0.length ≤ 100000) (hl : l.length ≤ 100000) (hbase : base ≤ w.heap.size)
    (h : ∀ v' w', OwnN base v' (l0 ++ l) w' → Below base w w' → w.grownBy w' v.ownBlock → wpList Try.prog ops Q rest (a.put o.dst v') w') : wpList Try.prog ops Q (o :: rest) a w :=
  wpList_plain hgd fun _ hK => wp_append_N s x ho base v l0 hs hown u l hx hrow h0 hl hbase fun v' w' h1 h2 h3 => hK _ _ (h v' w' h1 h2 h3)
theorem NRow.one (w : World) (x : Pc) : NRow (w.alloc (.cells #[.int .i64 x.n, .bool x.b, .int .i64 x.y, .int .i64 x.k, .int .i64 x.o, .bool x.s] 26)) (.slice (some ⟨w.heap.size, 0, none⟩) 1 1) [x] := by
  refine ⟨_, 1, rfl, by simp, by omega, fun _ => ⟨_, 0, rfl, by simp, fun j hj => ?_⟩⟩
  obtain rfl : j = 0 := by simpa using hj
  refine ⟨?_, ?_, ?_, ?_, ?_, ?_⟩ <;> simp
end Go.Proofs.Ytkfjhfneagjejaa.Net
