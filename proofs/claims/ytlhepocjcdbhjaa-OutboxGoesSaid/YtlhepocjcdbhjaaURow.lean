/-
  What is told, in memory: slices that read as such, of four cells each; rows of them in blocks of their own, appended to.
-/
import Derived.Test.YtlhepocjcdbhjaaUMath
import Derived.Test.YtlhepocjcdbhjaaQRow
import Derived.Laws.OwnMore
import Derived.Lib.OwnKind
import Derived.Lib.LazyBuf
import Derived.Laws.AppendOwnNone
import Derived.Deep.Onto
namespace Go.Proofs.Ytlhepocjcdbhjaa.Outbox
open Go.ChangeShapes Go.WideShapes Go.ChangeAt Go.RowKit Go.Shelf
open Go.Lib
theorem addr_add (b off j : Nat) : (⟨b, off, none⟩ : Addr).add j = ⟨b, off + j, none⟩ := by
  unfold Addr.add
  split
  · rename_i h; subst h; rfl
  · rfl

/-- Something told's four cells lie there. -/
def Four (w : World) (b o : Nat) (x : Ot) : Prop := w.cell? ⟨b, o, none⟩ = some (.int .i64 x.y) ∧ w.cell? ⟨b, o + 1, none⟩ = some (.int .i64 x.k) ∧ w.cell? ⟨b, o + 2, none⟩ = some (.int .i64 x.o) ∧ w.cell? ⟨b, o + 3, none⟩ = some (.int .i64 x.d)
theorem Four.below {w w' : World} {b o : Nat} {x : Ot} (h : Four w b o x) (hbl : b < w.heap.size) (hb : Below w.heap.size w w') : Four w' b o x :=
  ⟨(hb.cell (p := ⟨b, _, none⟩) hbl).trans h.1, (hb.cell (p := ⟨b, _, none⟩) hbl).trans h.2.1, (hb.cell (p := ⟨b, _, none⟩) hbl).trans h.2.2.1, (hb.cell (p := ⟨b, _, none⟩) hbl).trans h.2.2.2⟩
/-- A slice that reads as these what is told. -/
def URow (w : World) (v : Value) (l : List Ot) : Prop := ∃ (a : Option Addr) (cap : Nat), v = .slice a l.length cap ∧ l.length ≤ cap ∧ cap ≤ 9223372036854775807 ∧
  (0 < l.length → ∃ b off, a = some ⟨b, off, none⟩ ∧ b < w.heap.size ∧ ∀ j (h : j < l.length), Four w b (off + j * 4) l[j])
theorem URow.below {w w' : World} {v : Value} {l : List Ot} (h : URow w v l) (hb : Below w.heap.size w w') : URow w' v l := by
  obtain ⟨a, cap, e, h1, h2, h3⟩ := h
  refine ⟨a, cap, e, h1, h2, fun h0 => ?_⟩
  obtain ⟨b, off, ea, hbl, hc⟩ := h3 h0
  exact ⟨b, off, ea, Nat.lt_of_lt_of_le hbl hb.size, fun j hj => (hc j hj).below hbl hb⟩
theorem URow.slice {w : World} {v : Value} {l : List Ot} (h : URow w v l) : ∃ a cap, v = .slice a l.length cap := by obtain ⟨a, cap, e, _⟩ := h; exact ⟨a, cap, e⟩
theorem URow.at {w : World} {a : Option Addr} {cap : Nat} {l : List Ot} (h : URow w (.slice a l.length cap) l) {q : Nat} (hq : q < l.length) :
    ∃ b off, a = some ⟨b, off, none⟩ ∧ l.length ≤ cap ∧ cap ≤ 9223372036854775807 ∧ b < w.heap.size ∧ Four w b (off + q * 4) l[q] := by
  obtain ⟨a', cap', e, h1, h2, h3⟩ := h
  cases e
  obtain ⟨b, off, ea, hbl, hc⟩ := h3 (by omega)
  exact ⟨b, off, ea, h1, h2, hbl, hc q hq⟩
theorem URow.cap {w : World} {a : Option Addr} {n cap : Nat} {l : List Ot} (h : URow w (.slice a n cap) l) : n = l.length ∧ l.length ≤ cap ∧ cap ≤ 9223372036854775807 := by
  obtain ⟨a', cap', e, h1, h2, _⟩ := h
  cases e
  exact ⟨rfl, h1, h2⟩
theorem URow.take {w : World} {a : Option Addr} {cap : Nat} {l : List Ot} (h : URow w (.slice a l.length cap) l) {n : Nat} (hn : n ≤ l.length) : URow w (.slice a n cap) (l.take n) := by
  obtain ⟨a', cap', e, h1, h2, h3⟩ := h
  cases e
  have e1 : (l.take n).length = n := by rw [List.length_take]; omega
  refine ⟨a, cap, by rw [e1], by omega, h2, fun h0 => ?_⟩
  obtain ⟨b, off, ea, hbl, hc⟩ := h3 (by omega)
  exact ⟨b, off, ea, hbl, fun j hj => by
    rw [List.getElem_take]
    exact hc j (by omega)⟩
theorem URow.drop {w : World} {ad : Addr} {cap : Nat} {l : List Ot} (h : URow w (.slice (some ad) l.length cap) l) {n : Nat} (hn : n ≤ l.length) : URow w (.slice (some (ad.add (n * 4))) (l.length - n) (cap - n)) (l.drop n) := by
  obtain ⟨a', cap', e, h1, h2, h3⟩ := h
  cases e
  have e1 : (l.drop n).length = l.length - n := List.length_drop
  refine ⟨_, cap - n, by rw [e1], by omega, by omega, fun h0 => ?_⟩
  obtain ⟨b, off, ea, hbl, hc⟩ := h3 (by omega)
  cases ea
  refine ⟨b, off + n * 4, by rw [addr_add], hbl, fun j hj => ?_⟩
  rw [List.getElem_drop, show off + n * 4 + j * 4 = off + (n + j) * 4 by omega]
  exact hc (n + j) (by omega)
theorem URow.nil (w : World) : URow w (.slice none 0 0) [] := ⟨none, 0, rfl, Nat.le_refl _, by omega, fun h => absurd h (Nat.lt_irrefl _)⟩
theorem URow.no {w : World} {cap n : Nat} {l : List Ot} (h : URow w (.slice none n cap) l) : l = [] := by
  obtain ⟨a', c', e, _, _, h3⟩ := h
  cases e
  cases l with
  | nil => rfl
  | cons x r => obtain ⟨b, off, e, _⟩ := h3 (by simp); cases e

/-- Something told as a value. -/
def uv (x : Ot) : Value := .agg #[.int .i64 x.y, .int .i64 x.k, .int .i64 x.o, .int .i64 x.d]
def ucells : List Ot → List Value
  | [] => []
  | x :: r => .int .i64 x.y :: .int .i64 x.k :: .int .i64 x.o :: .int .i64 x.d :: ucells r
theorem ucells_len : ∀ l : List Ot, (ucells l).length = l.length * 4
  | [] => rfl
  | x :: r => by simp [ucells, ucells_len r]; omega
theorem ucells_append : ∀ (l m : List Ot), ucells (l ++ m) = ucells l ++ ucells m
  | [], m => rfl
  | x :: r, m => by simp [ucells, ucells_append r m]
theorem ucells_at : ∀ (l : List Ot) (j : Nat) (h : j < l.length), (ucells l)[j * 4]? = some (.int .i64 l[j].y) ∧ (ucells l)[j * 4 + 1]? = some (.int .i64 l[j].k) ∧ (ucells l)[j * 4 + 2]? = some (.int .i64 l[j].o) ∧ (ucells l)[j * 4 + 3]? = some (.int .i64 l[j].d)
  | x :: r, 0, _ => ⟨rfl, rfl, rfl, rfl⟩
  | x :: r, j + 1, h => by
    have := ucells_at r j (by simpa using h)
    rw [show (j + 1) * 4 = j * 4 + 1 + 1 + 1 + 1 by omega]
    simpa [ucells] using this
theorem ucells_one : ∀ (l : List Ot) u, u ∈ ucells l → u.oneCell' = true
  | x :: r, u, h => by
    simp only [ucells, List.mem_cons] at h
    rcases h with rfl | rfl | rfl | rfl | h
    · rfl
    · rfl
    · rfl
    · rfl
    · exact ucells_one r u h
theorem infoU : (Try.prog.info? 30).map (fun i => (i.zero, i.size, i.bytes)) = some (some (.agg #[.int .i64 0, .int .i64 0, .int .i64 0, .int .i64 0]), 4, 32) := by kernel_rfl

/-- What is told in a block of their own, that lies at B or behind it. -/
def OwnU (B : Nat) (v : Value) (l : List Ot) (w : World) : Prop := w.ownsRow B 30 4 v l.length (ucells l)
theorem OwnU.row {w : World} {B : Nat} {v : Value} {l : List Ot} (h : OwnU B v l w) : URow w v l := by
  have hw := h
  obtain ⟨_, ⟨rfl, h2⟩ | ⟨g, cap, cur, rfl, hg, hh, hn, hm, _⟩⟩ := h
  · exact ⟨none, 0, by rw [h2], by omega, by omega, fun h => by omega⟩
  · refine ⟨_, cap, rfl, hn, by unfold maxLen at hm; omega, fun _ => ⟨g, 0, rfl, (Array.getElem?_eq_some_iff.1 hh).1, fun j hj => ?_⟩⟩
    obtain ⟨c0, c1, c2, c3⟩ := ucells_at l j hj
    have h0 := World.ownsRow.cells hw (g := g) rfl (j * 4) _ c0
    have h1 := World.ownsRow.cells hw (g := g) rfl (j * 4 + 1) _ c1
    have h2 := World.ownsRow.cells hw (g := g) rfl (j * 4 + 2) _ c2
    have h3 := World.ownsRow.cells hw (g := g) rfl (j * 4 + 3) _ c3
    rw [addr_add] at h0 h1 h2 h3
    exact ⟨h0, h1, h2, h3⟩
theorem URow.news {w : World} {ad : Addr} {cap : Nat} {l : List Ot} (h : URow w (.slice (some ad) l.length cap) l) : ∀ j u, (ucells l)[j]? = some u → w.cell? (ad.add j) = some u := by
  intro j u hu
  have hj : j < l.length * 4 := by
    have := (List.getElem?_eq_some_iff.1 hu).1
    rwa [ucells_len] at this
  have hq : j / 4 < l.length := by omega
  obtain ⟨b, off, e, _, _, _, c0, c1, c2, c3⟩ := h.at hq
  cases e
  obtain ⟨a0, a1, a2, a3⟩ := ucells_at l (j / 4) hq
  rw [addr_add]
  rcases (by omega : j % 4 = 0 ∨ j % 4 = 1 ∨ j % 4 = 2 ∨ j % 4 = 3) with hm | hm | hm | hm
  · rw [show j = j / 4 * 4 by omega] at hu ⊢
    rw [a0] at hu
    cases hu
    exact c0
  · rw [show j = j / 4 * 4 + 1 by omega] at hu ⊢
    rw [a1] at hu
    cases hu
    exact c1
  · rw [show j = j / 4 * 4 + 2 by omega] at hu ⊢
    rw [a2] at hu
    cases hu
    exact c2
  · rw [show j = j / 4 * 4 + 3 by omega] at hu ⊢
    rw [a3] at hu
    cases hu
    exact c3
theorem run_append_none_U {base cap : Nat} {v : Value} {l : List Ot} {w : World} (ty : TypeId) (hown : OwnU base v l w) : (Builtin.append_ #[22, 22] ty #[v, .slice none 0 cap]).run Try.prog w = .ok v w := by
  obtain ⟨i0, hi, hz0, hz1, hz2⟩ := info_parts infoU
  have hr := hown.row
  obtain ⟨a, c, rfl⟩ := hr.slice
  have hc := hr.cap.2.1
  have e : l.length + 0 ≤ c := by omega
  cases a with
  | none => simp [Builtin.append_, run_underlying Try.underlying22, sizeOf, typeInfo, hi, Builtin.lenOf, Builtin.firstCells, hc]
  | some ad => simp [Builtin.append_, run_underlying Try.underlying22, sizeOf, typeInfo, hi, Builtin.lenOf, Builtin.firstCells, storeCells, hc]
theorem OwnU.below {B : Nat} {v : Value} {l : List Ot} {w w' : World} (h : OwnU B v l w) (hb : Below w.heap.size w w') : OwnU B v l w' := by
  obtain ⟨h0, h1 | ⟨g, cap, cur, hv, hg, hh, hrest⟩⟩ := h
  · exact ⟨h0, .inl h1⟩
  · exact ⟨h0, .inr ⟨g, cap, cur, hv, hg, (hb.block g (Array.getElem?_eq_some_iff.1 hh).1).trans hh, hrest⟩⟩
theorem OwnU.mono {B B' : Nat} {v : Value} {l : List Ot} {w : World} (h : OwnU B v l w) (hb : B' ≤ B) : OwnU B' v l w := by
  obtain ⟨h0, h1 | ⟨g, cap, cur, hv, hg, hh, hrest⟩⟩ := h
  · exact ⟨h0, .inl h1⟩
  · exact ⟨h0, .inr ⟨g, cap, cur, hv, by omega, hh, hrest⟩⟩
/-- A row of none, just made. -/
theorem OwnU.empty (W : World) {B : Nat} (hB : B ≤ W.heap.size) : OwnU B (.slice (some ⟨W.heap.size, 0, none⟩) 0 0) [] (W.alloc (.cells #[] 30)) := World.ownsRow_made W #[] 0 hB (Nat.zero_le _) rfl
theorem OwnU.nil (W : World) (B : Nat) : OwnU B (.slice none 0 0) [] W := World.ownsRow_nil _ _ _ _
/-- A new row is returned. -/
def NewU (l : List Ot) (w : World) (e : Ending) (w' : World) : Prop := ∃ v, e = .returned v ∧ OwnU w.heap.size v l w' ∧ Below w.heap.size w w'
/-- Some, which may be none, are appended to a row of the call's own. -/
theorem wp_append_U {w : World} {o : Oper} {a : Act} {K : Act → World → Prop} {Q : Exit → Act → World → Prop} (s x : Operand)
    (ho : o.op = .call { callee := .builtin .append, args := #[s, x], argTypes := #[22, 22] })
    (base : Nat) (v : Value) (l0 : List Ot) (hs : a.eval s = v) (hown : OwnU base v l0 w) (u : Value) (l : List Ot) (hx : a.eval x = u) (hrow : URow w u l) (h0 : l0.length ≤ 100000) (hl : l.length ≤ 100000) (hbase : base ≤ w.heap.size)
    (h : ∀ v' w', OwnU base v' (l0 ++ l) w' → Below base w w' → w.grownBy w' v.ownBlock → K (a.put o.dst v') w') : o.wp Try.prog a w K Q := by
  obtain ⟨i0, hi, hz0, hz1, hz2⟩ := info_parts infoU
  obtain ⟨ad, cap, rfl⟩ := hrow.slice
  cases ad with
  | none =>
    have e : l = [] := hrow.no
    subst e
    have hrun := run_append_none_U (cap := cap) o.type hown
    unfold Oper.wp
    simp only [execOp, ho, resolve, invoke, builtin, Sem.run_bind, Sem.run_pure, Result.andThen_ok, List.map_toArray, List.map_cons, List.map_nil, hs, hx]
    simp only [List.length_nil, hrun]
    exact h v w (by rw [List.append_nil]; exact hown) ⟨rfl, rfl, rfl, Nat.le_refl _, fun _ _ => rfl⟩ ⟨rfl, rfl, rfl, Nat.le_refl _, fun _ _ _ => rfl⟩
  | some ad =>
    refine wp_append_own w s x 22 ho base 30 i0 (.agg #[.int .i64 0, .int .i64 0, .int .i64 0, .int .i64 0]) 4 32 Try.underlying22 hi hz0 hz1 hz2 rfl (by decide) v l0.length (ucells l0) hs hown ad l.length cap (ucells l) hx (by rw [ucells_len]) hrow.news (ucells_one l) (by unfold maxLen; omega) (by omega) hbase ?_
    intro v' w1 hown' hgrow _
    refine h v' w1 ?_ ?_ hgrow
    · unfold OwnU
      rw [ucells_append, List.length_append]
      exact hown'
    · exact (show Below base w w from ⟨rfl, rfl, rfl, Nat.le_refl _, fun _ _ => rfl⟩).grown hgrow hbase (fun j hj => (hown.lt j hj).1)
theorem wpList_append_U {w : World} {ops : Array Oper} {rest : List Oper} {o : Oper} {a : Act} {Q : Exit → Act → World → Prop} (hgd : o.guard = none) (s x : Operand)
    (ho : o.op = .call { callee := .builtin .append, args := #[s, x], argTypes := #[22, 22] })
    (base : Nat) (v : Value) (l0 : List Ot) (hs : a.eval s = v) (hown : OwnU base v l0 w) (u : Value) (l : List Ot) (hx : a.eval x = u) (hrow : URow w u l) (h0 : l0.length ≤ 100000) (hl : l.length ≤ 100000) (hbase : base ≤ w.heap.size)
    (h : ∀ v' w', OwnU base v' (l0 ++ l) w' → Below base w w' → w.grownBy w' v.ownBlock → wpList Try.prog ops Q rest (a.put o.dst v') w') : wpList Try.prog ops Q (o :: rest) a w :=
  wpList_plain hgd fun _ hK => wp_append_U s x ho base v l0 hs hown u l hx hrow h0 hl hbase fun v' w' h1 h2 h3 => hK _ _ (h v' w' h1 h2 h3)
theorem URow.one (w : World) (x : Ot) : URow (w.alloc (.cells #[.int .i64 x.y, .int .i64 x.k, .int .i64 x.o, .int .i64 x.d] 30)) (.slice (some ⟨w.heap.size, 0, none⟩) 1 1) [x] := by
  refine ⟨_, 1, rfl, by simp, by omega, fun _ => ⟨_, 0, rfl, by simp, fun j hj => ?_⟩⟩
  obtain rfl : j = 0 := by simpa using hj
  refine ⟨?_, ?_, ?_, ?_⟩ <;> simp
end Go.Proofs.Ytlhepocjcdbhjaa.Outbox
