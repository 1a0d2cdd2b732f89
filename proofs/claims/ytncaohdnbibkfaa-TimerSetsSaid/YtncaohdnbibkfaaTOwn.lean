/-
  Timers in memory: slices that read as timers of three cells (as waits do: QRow), rows of them in blocks of their own, appended to.
-/
import Derived.Test.YtncaohdnbibkfaaTMath
import Derived.Test.YtncaohdnbibkfaaQRow
import Derived.Laws.OwnMore
import Derived.Lib.OwnKind
import Derived.Lib.LazyBuf
import Derived.Laws.AppendOwnNone
import Derived.Deep.Onto
namespace Go.Proofs.Ytncaohdnbibkfaa.Timer
open Go.ChangeShapes Go.WideShapes Go.ChangeAt Go.RowKit Go.Shelf Go.Lib
open Go.Proofs.Ytncaohdnbibkfaa.Queue

theorem addr_add (b off j : Nat) : (⟨b, off, none⟩ : Addr).add j = ⟨b, off + j, none⟩ := by
  unfold Addr.add
  split
  · rename_i h; subst h; rfl
  · rfl
def mcells : List Wt → List Value
  | [] => []
  | x :: r => .int .i64 x.c :: .int .i64 x.s :: .int .i64 x.o :: mcells r
theorem mcells_len : ∀ l : List Wt, (mcells l).length = l.length * 3
  | [] => rfl
  | x :: r => by simp [mcells, mcells_len r]; omega
theorem mcells_append : ∀ (l m : List Wt), mcells (l ++ m) = mcells l ++ mcells m
  | [], m => rfl
  | x :: r, m => by simp [mcells, mcells_append r m]
theorem mcells_at : ∀ (l : List Wt) (j : Nat) (h : j < l.length), (mcells l)[j * 3]? = some (.int .i64 l[j].c) ∧ (mcells l)[j * 3 + 1]? = some (.int .i64 l[j].s) ∧ (mcells l)[j * 3 + 2]? = some (.int .i64 l[j].o)
  | x :: r, 0, _ => ⟨rfl, rfl, rfl⟩
  | x :: r, j + 1, h => by
    have := mcells_at r j (by simpa using h)
    rw [show (j + 1) * 3 = j * 3 + 1 + 1 + 1 by omega]
    simpa [mcells] using this
theorem mcells_one : ∀ (l : List Wt) u, u ∈ mcells l → u.oneCell' = true
  | x :: r, u, h => by
    simp only [mcells, List.mem_cons] at h
    rcases h with rfl | rfl | rfl | h
    · rfl
    · rfl
    · rfl
    · exact mcells_one r u h
theorem mcells_set : ∀ (l : List Wt) (i : Nat) (x : Wt), i < l.length → mcells (l.set i x) = (((mcells l).set (i * 3) (.int .i64 x.c)).set (i * 3 + 1) (.int .i64 x.s)).set (i * 3 + 2) (.int .i64 x.o)
  | y :: r, 0, x, _ => rfl
  | y :: r, i + 1, x, h => by
    have := mcells_set r i x (by simpa using h)
    rw [show (i + 1) * 3 = i * 3 + 1 + 1 + 1 by omega]
    simp only [List.set_cons_succ, mcells, this]
theorem infoM : (Try.prog.info? 24).map (fun i => (i.zero, i.size, i.bytes)) = some (some (.agg #[.int .i64 0, .int .i64 0, .int .i64 0]), 3, 24) := by kernel_rfl

/-- A row of waits in a block of its own, that lies at B or behind it. -/
def OwnM (B : Nat) (v : Value) (l : List Wt) (w : World) : Prop := w.ownsRow B 24 3 v l.length (mcells l)
theorem OwnM.row {w : World} {B : Nat} {v : Value} {l : List Wt} (h : OwnM B v l w) : QRow w v l := by
  have hw := h
  obtain ⟨_, ⟨rfl, h2⟩ | ⟨g, cap, cur, rfl, hg, hh, hn, hm, _⟩⟩ := h
  · exact ⟨none, 0, by rw [h2], by omega, by omega, fun h => by omega⟩
  · refine ⟨_, cap, rfl, hn, by unfold maxLen at hm; omega, fun _ => ⟨g, 0, rfl, (Array.getElem?_eq_some_iff.1 hh).1, fun j hj => ?_⟩⟩
    have h1 := World.ownsRow.cells hw (g := g) rfl (j * 3) _ (mcells_at l j hj).1
    have h2 := World.ownsRow.cells hw (g := g) rfl (j * 3 + 1) _ (mcells_at l j hj).2.1
    have h3 := World.ownsRow.cells hw (g := g) rfl (j * 3 + 2) _ (mcells_at l j hj).2.2
    rw [addr_add] at h1 h2 h3
    exact ⟨h1, h2, h3⟩
theorem OwnM.below {B : Nat} {v : Value} {l : List Wt} {w w' : World} (h : OwnM B v l w) (hb : Below w.heap.size w w') : OwnM B v l w' := by
  obtain ⟨h0, h1 | ⟨g, cap, cur, hv, hg, hh, hrest⟩⟩ := h
  · exact ⟨h0, .inl h1⟩
  · exact ⟨h0, .inr ⟨g, cap, cur, hv, hg, (hb.block g (Array.getElem?_eq_some_iff.1 hh).1).trans hh, hrest⟩⟩
/-- A new row is returned. -/
def NewM (l : List Wt) (w : World) (e : Ending) (w' : World) : Prop := ∃ v, e = .returned v ∧ OwnM w.heap.size v l w' ∧ Below w.heap.size w w'
theorem news_M {w : World} {ad : Addr} {cap : Nat} {l : List Wt} (h : QRow w (.slice (some ad) l.length cap) l) : ∀ j u, (mcells l)[j]? = some u → w.cell? (ad.add j) = some u := by
  intro j u hu
  have hj : j < l.length * 3 := by
    have := (List.getElem?_eq_some_iff.1 hu).1
    rwa [mcells_len] at this
  have hq : j / 3 < l.length := by omega
  obtain ⟨b, off, e, _, _, _, c1, c2, c3⟩ := h.at hq
  cases e
  have hA := mcells_at l (j / 3) hq
  rw [addr_add]
  rcases (by omega : j % 3 = 0 ∨ j % 3 = 1 ∨ j % 3 = 2) with hm | hm | hm
  · rw [show j = j / 3 * 3 by omega] at hu ⊢
    rw [hA.1] at hu
    cases hu
    exact c1
  · rw [show j = j / 3 * 3 + 1 by omega] at hu ⊢
    rw [hA.2.1] at hu
    cases hu
    exact c2
  · rw [show j = j / 3 * 3 + 2 by omega] at hu ⊢
    rw [hA.2.2] at hu
    cases hu
    exact c3

/-- Waits are appended to a row of the call's own. -/
theorem wp_append_M {w : World} {o : Oper} {a : Act} {K : Act → World → Prop} {Q : Exit → Act → World → Prop} (s y : Operand)
    (ho : o.op = .call { callee := .builtin .append, args := #[s, y], argTypes := #[22, 22] })
    (base : Nat) (v : Value) (l0 : List Wt) (hs : a.eval s = v) (hown : OwnM base v l0 w) (ad : Addr) (cap : Nat) (l : List Wt) (n : Nat) (hn : n = l.length) (hy : a.eval y = .slice (some ad) n cap) (hrow : QRow w (.slice (some ad) l.length cap) l) (h0 : l0.length ≤ 1000) (hl : l.length ≤ 1000) (hbase : base ≤ w.heap.size)
    (h : ∀ v' w', OwnM base v' (l0 ++ l) w' → Below base w w' → K (a.put o.dst v') w') : o.wp Try.prog a w K Q := by
  subst hn
  obtain ⟨i0, hi, hz0, hz1, hz2⟩ := info_parts infoM
  refine wp_append_own w s y 22 ho base 24 i0 (.agg #[.int .i64 0, .int .i64 0, .int .i64 0]) 3 24 Try.underlying22 hi hz0 hz1 hz2 rfl (by decide) v l0.length (mcells l0) hs hown ad l.length cap (mcells l) hy (by rw [mcells_len]) (news_M hrow) (mcells_one l) (by unfold maxLen; omega) (by omega) hbase ?_
  intro v' w1 hown' hgrow _
  refine h v' w1 ?_ ((show Below base w w from Below.refl _ _).grown hgrow hbase (fun j hj => (hown.lt j hj).1))
  unfold OwnM
  rw [mcells_append, List.length_append]
  exact hown'
theorem wpList_append_M {w : World} {ops : Array Oper} {rest : List Oper} {o : Oper} {a : Act} {Q : Exit → Act → World → Prop} (hgd : o.guard = none) (s y : Operand)
    (ho : o.op = .call { callee := .builtin .append, args := #[s, y], argTypes := #[22, 22] })
    (base : Nat) (v : Value) (l0 : List Wt) (hs : a.eval s = v) (hown : OwnM base v l0 w) (ad : Addr) (cap : Nat) (l : List Wt) (n : Nat) (hn : n = l.length) (hy : a.eval y = .slice (some ad) n cap) (hrow : QRow w (.slice (some ad) l.length cap) l) (h0 : l0.length ≤ 1000) (hl : l.length ≤ 1000) (hbase : base ≤ w.heap.size)
    (h : ∀ v' w', OwnM base v' (l0 ++ l) w' → Below base w w' → wpList Try.prog ops Q rest (a.put o.dst v') w') : wpList Try.prog ops Q (o :: rest) a w :=
  wpList_plain hgd fun _ hK => wp_append_M s y ho base v l0 hs hown ad cap l n hn hy hrow h0 hl hbase fun v' w' h1 h2 => hK _ _ (h v' w' h1 h2)
/-- A row of none, just made. -/
theorem OwnM.empty (W : World) {B : Nat} (hB : W.heap.size = B) : OwnM B (.slice (some ⟨B, 0, none⟩) 0 0) [] (W.alloc (.cells #[] 24)) := by
  subst hB
  exact World.ownsRow_made W #[] 0 (Nat.le_refl _) (Nat.zero_le _) rfl
/-- A row of one, just made. -/
theorem row_M (W : World) (x : Wt) : QRow (W.alloc (.cells #[.int .i64 x.c, .int .i64 x.s, .int .i64 x.o] 24)) (.slice (some ⟨W.heap.size, 0, none⟩) 1 1) [x] := by
  have hb := Box.made W [.int .i64 x.c, .int .i64 x.s, .int .i64 x.o] 24
  refine ⟨_, 1, rfl, Nat.le_refl 1, by omega, fun _ => ⟨_, 0, rfl, hb.1, fun j hj => ?_⟩⟩
  match j, hj with
  | 0, _ => exact ⟨(hb.2 0 _ rfl).1, (hb.2 1 _ rfl).1, (hb.2 2 _ rfl).1⟩
end Go.Proofs.Ytncaohdnbibkfaa.Timer
