/-
  Rows of texts and of rules in blocks of their own: appended to, cloned, put together (slices.Clone, Grow, Concat).
-/
import Derived.Test.YtcehhgcfkoldfaaGRight
import Derived.Laws.OwnMore
import Derived.Lib.OwnKind
import Derived.Lib.LazyBuf
import Derived.Lib.AppendZerosOnto
import Derived.LoopN
namespace Go.Proofs.Ytcehhgcfkoldfaa.Goods
open Go.ChangeShapes Go.WideShapes Go.ChangeAt Go.RowKit Go.Shelf

theorem addr_add (b off j : Nat) : (⟨b, off, none⟩ : Addr).add j = ⟨b, off + j, none⟩ := by
  unfold Addr.add
  split
  · rename_i h; subst h; rfl
  · rfl
def tcells (l : List ByteArray) : List Value := l.map Value.string
theorem tcells_len (l : List ByteArray) : (tcells l).length = l.length * 1 := by simp [tcells]
theorem tcells_append (l m : List ByteArray) : tcells (l ++ m) = tcells l ++ tcells m := by simp [tcells]
theorem tcells_at {l : List ByteArray} {j : Nat} (h : j < l.length) : (tcells l)[j]? = some (.string l[j]) := by simp [tcells, List.getElem?_eq_getElem h]
theorem tcells_one (l : List ByteArray) (u : Value) (h : u ∈ tcells l) : u.oneCell' = true := by
  simp only [tcells, List.mem_map] at h
  obtain ⟨b, _, rfl⟩ := h
  rfl
def gcells : List Sb → List Value
  | [] => []
  | x :: r => .string x.f :: .string x.t :: .int .i64 x.r :: .int .i64 x.n :: .int .i64 x.d :: gcells r
theorem gcells_len : ∀ l : List Sb, (gcells l).length = l.length * 5
  | [] => rfl
  | x :: r => by simp [gcells, gcells_len r]; omega
theorem gcells_append : ∀ (l m : List Sb), gcells (l ++ m) = gcells l ++ gcells m
  | [], m => rfl
  | x :: r, m => by simp [gcells, gcells_append r m]
theorem gcells_at : ∀ (l : List Sb) (j : Nat) (h : j < l.length), (gcells l)[j * 5]? = some (.string l[j].f) ∧ (gcells l)[j * 5 + 1]? = some (.string l[j].t) ∧ (gcells l)[j * 5 + 2]? = some (.int .i64 l[j].r) ∧ (gcells l)[j * 5 + 3]? = some (.int .i64 l[j].n) ∧ (gcells l)[j * 5 + 4]? = some (.int .i64 l[j].d)
  | x :: r, 0, _ => ⟨rfl, rfl, rfl, rfl, rfl⟩
  | x :: r, j + 1, h => by
    have := gcells_at r j (by simpa using h)
    rw [show (j + 1) * 5 = j * 5 + 1 + 1 + 1 + 1 + 1 by omega]
    simpa [gcells] using this
theorem gcells_one : ∀ (l : List Sb) u, u ∈ gcells l → u.oneCell' = true
  | x :: r, u, h => by
    simp only [gcells, List.mem_cons] at h
    rcases h with rfl | rfl | rfl | rfl | rfl | h
    · rfl
    · rfl
    · rfl
    · rfl
    · rfl
    · exact gcells_one r u h
theorem infoT : (Try.prog.info? 9).map (fun i => (i.zero, i.size, i.bytes)) = some (some (.string ⟨#[]⟩), 1, 16) := by kernel_rfl
theorem infoG : (Try.prog.info? 89).map (fun i => (i.zero, i.size, i.bytes)) = some (some (.agg #[.string ⟨#[]⟩, .string ⟨#[]⟩, .int .i64 0, .int .i64 0, .int .i64 0]), 5, 56) := by kernel_rfl

/-- A row in a block of its own, that lies at B or behind it. -/
def OwnT (B : Nat) (v : Value) (l : List ByteArray) (w : World) : Prop := w.ownsRow B 9 1 v l.length (tcells l)
def OwnG (B : Nat) (v : Value) (l : List Sb) (w : World) : Prop := w.ownsRow B 89 5 v l.length (gcells l)
theorem OwnT.row {w : World} {B : Nat} {v : Value} {l : List ByteArray} (h : OwnT B v l w) : TRow w v l := by
  have hw := h
  obtain ⟨_, ⟨rfl, h2⟩ | ⟨g, cap, cur, rfl, hg, hh, hn, hm, _⟩⟩ := h
  · exact ⟨none, 0, by rw [h2], by omega, by omega, fun h => by omega⟩
  · refine ⟨_, cap, rfl, hn, by unfold maxLen at hm; omega, fun _ => ⟨g, 0, rfl, (Array.getElem?_eq_some_iff.1 hh).1, fun j hj => ?_⟩⟩
    have h1 := World.ownsRow.cells hw (g := g) rfl j _ (tcells_at hj)
    rwa [addr_add] at h1
theorem OwnG.row {w : World} {B : Nat} {v : Value} {l : List Sb} (h : OwnG B v l w) : GRow w v l := by
  have hw := h
  obtain ⟨_, ⟨rfl, h2⟩ | ⟨g, cap, cur, rfl, hg, hh, hn, hm, _⟩⟩ := h
  · exact ⟨none, 0, by rw [h2], by omega, by omega, fun h => by omega⟩
  · refine ⟨_, cap, rfl, hn, by unfold maxLen at hm; omega, fun _ => ⟨g, 0, rfl, (Array.getElem?_eq_some_iff.1 hh).1, fun j hj => ?_⟩⟩
    obtain ⟨c0, c1, c2, c3, c4⟩ := gcells_at l j hj
    have h0 := World.ownsRow.cells hw (g := g) rfl (j * 5) _ c0
    have h1 := World.ownsRow.cells hw (g := g) rfl (j * 5 + 1) _ c1
    have h2 := World.ownsRow.cells hw (g := g) rfl (j * 5 + 2) _ c2
    have h3 := World.ownsRow.cells hw (g := g) rfl (j * 5 + 3) _ c3
    have h4 := World.ownsRow.cells hw (g := g) rfl (j * 5 + 4) _ c4
    rw [addr_add] at h0 h1 h2 h3 h4
    exact ⟨h0, h1, h2, h3, h4⟩
theorem TRow.news {w : World} {ad : Addr} {cap : Nat} {l : List ByteArray} (h : TRow w (.slice (some ad) l.length cap) l) : ∀ j u, (tcells l)[j]? = some u → w.cell? (ad.add j) = some u := by
  intro j u hu
  have hj : j < l.length := by
    have := (List.getElem?_eq_some_iff.1 hu).1
    rw [tcells_len] at this
    omega
  obtain ⟨b, off, e, _, _, _, c⟩ := h.at hj
  cases e
  rw [tcells_at hj] at hu
  cases hu
  rw [addr_add]; exact c
theorem GRow.news {w : World} {ad : Addr} {cap : Nat} {l : List Sb} (h : GRow w (.slice (some ad) l.length cap) l) : ∀ j u, (gcells l)[j]? = some u → w.cell? (ad.add j) = some u := by
  intro j u hu
  have hj : j < l.length * 5 := by
    have := (List.getElem?_eq_some_iff.1 hu).1
    rwa [gcells_len] at this
  have hq : j / 5 < l.length := by omega
  obtain ⟨b, off, e, _, _, _, c0, c1, c2, c3, c4⟩ := h.at hq
  cases e
  obtain ⟨a0, a1, a2, a3, a4⟩ := gcells_at l (j / 5) hq
  rw [addr_add]
  rcases (by omega : j % 5 = 0 ∨ j % 5 = 1 ∨ j % 5 = 2 ∨ j % 5 = 3 ∨ j % 5 = 4) with hm | hm | hm | hm | hm
  · rw [show j = j / 5 * 5 by omega] at hu ⊢
    rw [a0] at hu
    cases hu
    exact c0
  · rw [show j = j / 5 * 5 + 1 by omega] at hu ⊢
    rw [a1] at hu
    cases hu
    exact c1
  · rw [show j = j / 5 * 5 + 2 by omega] at hu ⊢
    rw [a2] at hu
    cases hu
    exact c2
  · rw [show j = j / 5 * 5 + 3 by omega] at hu ⊢
    rw [a3] at hu
    cases hu
    exact c3
  · rw [show j = j / 5 * 5 + 4 by omega] at hu ⊢
    rw [a4] at hu
    cases hu
    exact c4

theorem run_append_none_T {base cap : Nat} {v : Value} {l : List ByteArray} {w : World} (ty : TypeId) (hown : OwnT base v l w) : (Builtin.append_ #[65, 65] ty #[v, .slice none 0 cap]).run Try.prog w = .ok v w := by
  obtain ⟨i0, hi, hz0, hz1, hz2⟩ := info_parts infoT
  have hr := hown.row
  obtain ⟨a, c, rfl⟩ := hr.slice
  have hc := hr.cap.2.1
  have e : l.length + 0 ≤ c := by omega
  cases a with
  | none => simp [Builtin.append_, run_underlying Try.underlying65, sizeOf, typeInfo, hi, Builtin.lenOf, Builtin.firstCells, hc]
  | some ad => simp [Builtin.append_, run_underlying Try.underlying65, sizeOf, typeInfo, hi, Builtin.lenOf, Builtin.firstCells, storeCells, hc]

theorem OwnT.below {B : Nat} {v : Value} {l : List ByteArray} {w w' : World} (h : OwnT B v l w) (hb : Below w.heap.size w w') : OwnT B v l w' := by
  obtain ⟨h0, h1 | ⟨g, cap, cur, hv, hg, hh, hrest⟩⟩ := h
  · exact ⟨h0, .inl h1⟩
  · exact ⟨h0, .inr ⟨g, cap, cur, hv, hg, (hb.block g (Array.getElem?_eq_some_iff.1 hh).1).trans hh, hrest⟩⟩
theorem OwnT.mono {B B' : Nat} {v : Value} {l : List ByteArray} {w : World} (h : OwnT B v l w) (hb : B' ≤ B) : OwnT B' v l w := by
  obtain ⟨h0, h1 | ⟨g, cap, cur, hv, hg, hh, hrest⟩⟩ := h
  · exact ⟨h0, .inl h1⟩
  · exact ⟨h0, .inr ⟨g, cap, cur, hv, by omega, hh, hrest⟩⟩
/-- A row of none, just made. -/
theorem OwnT.empty (W : World) {B : Nat} (hB : B ≤ W.heap.size) : OwnT B (.slice (some ⟨W.heap.size, 0, none⟩) 0 0) [] (W.alloc (.cells #[] 9)) := World.ownsRow_made W #[] 0 hB (Nat.zero_le _) rfl
theorem OwnT.nil (W : World) (B : Nat) : OwnT B (.slice none 0 0) [] W := World.ownsRow_nil _ _ _ _
/-- A new row is returned. -/
def NewT (l : List ByteArray) (w : World) (e : Ending) (w' : World) : Prop := ∃ v, e = .returned v ∧ OwnT w.heap.size v l w' ∧ Below w.heap.size w w'
/-- Some, which may be none, are appended to a row of the call's own. -/
theorem wp_append_T {w : World} {o : Oper} {a : Act} {K : Act → World → Prop} {Q : Exit → Act → World → Prop} (s x : Operand)
    (ho : o.op = .call { callee := .builtin .append, args := #[s, x], argTypes := #[65, 65] })
    (base : Nat) (v : Value) (l0 : List ByteArray) (hs : a.eval s = v) (hown : OwnT base v l0 w) (u : Value) (l : List ByteArray) (hx : a.eval x = u) (hrow : TRow w u l) (h0 : l0.length ≤ 100000) (hl : l.length ≤ 100000) (hbase : base ≤ w.heap.size)
    (h : ∀ v' w', OwnT base v' (l0 ++ l) w' → Below base w w' → K (a.put o.dst v') w') : o.wp Try.prog a w K Q := by
  obtain ⟨i0, hi, hz0, hz1, hz2⟩ := info_parts infoT
  obtain ⟨ad, cap, rfl⟩ := hrow.slice
  cases ad with
  | none =>
    have e : l = [] := by
      obtain ⟨a', c', e, _, _, h3⟩ := hrow
      cases e
      cases l with
      | nil => rfl
      | cons x r => obtain ⟨b, off, e, _⟩ := h3 (by simp); cases e
    subst e
    have hrun := run_append_none_T (cap := cap) o.type hown
    unfold Oper.wp
    simp only [execOp, ho, resolve, invoke, builtin, Sem.run_bind, Sem.run_pure, Result.andThen_ok, List.map_toArray, List.map_cons, List.map_nil, hs, hx]
    simp only [List.length_nil, hrun]
    exact h v w (by rw [List.append_nil]; exact hown) ⟨rfl, rfl, rfl, Nat.le_refl _, fun _ _ => rfl⟩
  | some ad =>
    refine wp_append_own w s x 65 ho base 9 i0 (.string ⟨#[]⟩) 1 16 Try.underlying65 hi hz0 hz1 hz2 rfl (by decide) v l0.length (tcells l0) hs hown ad l.length cap (tcells l) hx (by rw [tcells_len]) hrow.news (tcells_one l) (by unfold maxLen; omega) (by omega) hbase ?_
    intro v' w1 hown' hgrow _
    refine h v' w1 ?_ ?_
    · unfold OwnT
      rw [tcells_append, List.length_append]
      exact hown'
    · exact (show Below base w w from ⟨rfl, rfl, rfl, Nat.le_refl _, fun _ _ => rfl⟩).grown hgrow hbase (fun j hj => (hown.lt j hj).1)
theorem step_append_T {w : World} {ops : Array Oper} {o : Oper} {a : Act} {K : Act → World → Prop} {Q : Exit → Act → World → Prop} {E : Prop} (hgd : o.guard = none) (d : Nat) (hd : o.dst = some d) (s x : Operand)
    (ho : o.op = .call { callee := .builtin .append, args := #[s, x], argTypes := #[65, 65] })
    (base : Nat) (v : Value) (l0 : List ByteArray) (hs : a.eval s = v) (hown : OwnT base v l0 w) (u : Value) (l : List ByteArray) (hx : a.eval x = u) (hrow : TRow w u l) (h0 : l0.length ≤ 100000) (hl : l.length ≤ 100000) (hbase : base ≤ w.heap.size)
    (h : ∀ v' w', OwnT base v' (l0 ++ l) w' → Below base w w' → K (a.put (some d) v') w') : if Region.wanted o (yielded ops a.tmps) = true then Oper.wp Try.prog o a w K Q else E := by
  have hw : Region.wanted o (yielded ops a.tmps) = true := by simp [Region.wanted, hgd]
  rw [if_pos hw]
  rw [← hd] at h
  exact wp_append_T s x ho base v l0 hs hown u l hx hrow h0 hl hbase h
theorem wpList_append_T {w : World} {ops : Array Oper} {rest : List Oper} {o : Oper} {a : Act} {Q : Exit → Act → World → Prop} (hgd : o.guard = none) (s x : Operand)
    (ho : o.op = .call { callee := .builtin .append, args := #[s, x], argTypes := #[65, 65] })
    (base : Nat) (v : Value) (l0 : List ByteArray) (hs : a.eval s = v) (hown : OwnT base v l0 w) (u : Value) (l : List ByteArray) (hx : a.eval x = u) (hrow : TRow w u l) (h0 : l0.length ≤ 100000) (hl : l.length ≤ 100000) (hbase : base ≤ w.heap.size)
    (h : ∀ v' w', OwnT base v' (l0 ++ l) w' → Below base w w' → wpList Try.prog ops Q rest (a.put o.dst v') w') : wpList Try.prog ops Q (o :: rest) a w :=
  wpList_plain hgd fun _ hK => wp_append_T s x ho base v l0 hs hown u l hx hrow h0 hl hbase fun v' w' h1 h2 => hK _ _ (h v' w' h1 h2)

theorem run_append_none_G {base cap : Nat} {v : Value} {l : List Sb} {w : World} (ty : TypeId) (hown : OwnG base v l w) : (Builtin.append_ #[66, 66] ty #[v, .slice none 0 cap]).run Try.prog w = .ok v w := by
  obtain ⟨i0, hi, hz0, hz1, hz2⟩ := info_parts infoG
  have hr := hown.row
  obtain ⟨a, c, rfl⟩ := hr.slice
  have hc := hr.cap.2.1
  have e : l.length + 0 ≤ c := by omega
  cases a with
  | none => simp [Builtin.append_, run_underlying Try.underlying66, sizeOf, typeInfo, hi, Builtin.lenOf, Builtin.firstCells, hc]
  | some ad => simp [Builtin.append_, run_underlying Try.underlying66, sizeOf, typeInfo, hi, Builtin.lenOf, Builtin.firstCells, storeCells, hc]

theorem OwnG.below {B : Nat} {v : Value} {l : List Sb} {w w' : World} (h : OwnG B v l w) (hb : Below w.heap.size w w') : OwnG B v l w' := by
  obtain ⟨h0, h1 | ⟨g, cap, cur, hv, hg, hh, hrest⟩⟩ := h
  · exact ⟨h0, .inl h1⟩
  · exact ⟨h0, .inr ⟨g, cap, cur, hv, hg, (hb.block g (Array.getElem?_eq_some_iff.1 hh).1).trans hh, hrest⟩⟩
theorem OwnG.mono {B B' : Nat} {v : Value} {l : List Sb} {w : World} (h : OwnG B v l w) (hb : B' ≤ B) : OwnG B' v l w := by
  obtain ⟨h0, h1 | ⟨g, cap, cur, hv, hg, hh, hrest⟩⟩ := h
  · exact ⟨h0, .inl h1⟩
  · exact ⟨h0, .inr ⟨g, cap, cur, hv, by omega, hh, hrest⟩⟩
/-- A row of none, just made. -/
theorem OwnG.empty (W : World) {B : Nat} (hB : B ≤ W.heap.size) : OwnG B (.slice (some ⟨W.heap.size, 0, none⟩) 0 0) [] (W.alloc (.cells #[] 89)) := World.ownsRow_made W #[] 0 hB (Nat.zero_le _) rfl
theorem OwnG.nil (W : World) (B : Nat) : OwnG B (.slice none 0 0) [] W := World.ownsRow_nil _ _ _ _
/-- A new row is returned. -/
def NewG (l : List Sb) (w : World) (e : Ending) (w' : World) : Prop := ∃ v, e = .returned v ∧ OwnG w.heap.size v l w' ∧ Below w.heap.size w w'
/-- Some, which may be none, are appended to a row of the call's own. -/
theorem wp_append_G {w : World} {o : Oper} {a : Act} {K : Act → World → Prop} {Q : Exit → Act → World → Prop} (s x : Operand)
    (ho : o.op = .call { callee := .builtin .append, args := #[s, x], argTypes := #[66, 66] })
    (base : Nat) (v : Value) (l0 : List Sb) (hs : a.eval s = v) (hown : OwnG base v l0 w) (u : Value) (l : List Sb) (hx : a.eval x = u) (hrow : GRow w u l) (h0 : l0.length ≤ 100000) (hl : l.length ≤ 100000) (hbase : base ≤ w.heap.size)
    (h : ∀ v' w', OwnG base v' (l0 ++ l) w' → Below base w w' → K (a.put o.dst v') w') : o.wp Try.prog a w K Q := by
  obtain ⟨i0, hi, hz0, hz1, hz2⟩ := info_parts infoG
  obtain ⟨ad, cap, rfl⟩ := hrow.slice
  cases ad with
  | none =>
    have e : l = [] := by
      obtain ⟨a', c', e, _, _, h3⟩ := hrow
      cases e
      cases l with
      | nil => rfl
      | cons x r => obtain ⟨b, off, e, _⟩ := h3 (by simp); cases e
    subst e
    have hrun := run_append_none_G (cap := cap) o.type hown
    unfold Oper.wp
    simp only [execOp, ho, resolve, invoke, builtin, Sem.run_bind, Sem.run_pure, Result.andThen_ok, List.map_toArray, List.map_cons, List.map_nil, hs, hx]
    simp only [List.length_nil, hrun]
    exact h v w (by rw [List.append_nil]; exact hown) ⟨rfl, rfl, rfl, Nat.le_refl _, fun _ _ => rfl⟩
  | some ad =>
    refine wp_append_own w s x 66 ho base 89 i0 (.agg #[.string ⟨#[]⟩, .string ⟨#[]⟩, .int .i64 0, .int .i64 0, .int .i64 0]) 5 56 Try.underlying66 hi hz0 hz1 hz2 rfl (by decide) v l0.length (gcells l0) hs hown ad l.length cap (gcells l) hx (by rw [gcells_len]) hrow.news (gcells_one l) (by unfold maxLen; omega) (by omega) hbase ?_
    intro v' w1 hown' hgrow _
    refine h v' w1 ?_ ?_
    · unfold OwnG
      rw [gcells_append, List.length_append]
      exact hown'
    · exact (show Below base w w from ⟨rfl, rfl, rfl, Nat.le_refl _, fun _ _ => rfl⟩).grown hgrow hbase (fun j hj => (hown.lt j hj).1)
theorem step_append_G {w : World} {ops : Array Oper} {o : Oper} {a : Act} {K : Act → World → Prop} {Q : Exit → Act → World → Prop} {E : Prop} (hgd : o.guard = none) (d : Nat) (hd : o.dst = some d) (s x : Operand)
    (ho : o.op = .call { callee := .builtin .append, args := #[s, x], argTypes := #[66, 66] })
    (base : Nat) (v : Value) (l0 : List Sb) (hs : a.eval s = v) (hown : OwnG base v l0 w) (u : Value) (l : List Sb) (hx : a.eval x = u) (hrow : GRow w u l) (h0 : l0.length ≤ 100000) (hl : l.length ≤ 100000) (hbase : base ≤ w.heap.size)
    (h : ∀ v' w', OwnG base v' (l0 ++ l) w' → Below base w w' → K (a.put (some d) v') w') : if Region.wanted o (yielded ops a.tmps) = true then Oper.wp Try.prog o a w K Q else E := by
  have hw : Region.wanted o (yielded ops a.tmps) = true := by simp [Region.wanted, hgd]
  rw [if_pos hw]
  rw [← hd] at h
  exact wp_append_G s x ho base v l0 hs hown u l hx hrow h0 hl hbase h
theorem wpList_append_G {w : World} {ops : Array Oper} {rest : List Oper} {o : Oper} {a : Act} {Q : Exit → Act → World → Prop} (hgd : o.guard = none) (s x : Operand)
    (ho : o.op = .call { callee := .builtin .append, args := #[s, x], argTypes := #[66, 66] })
    (base : Nat) (v : Value) (l0 : List Sb) (hs : a.eval s = v) (hown : OwnG base v l0 w) (u : Value) (l : List Sb) (hx : a.eval x = u) (hrow : GRow w u l) (h0 : l0.length ≤ 100000) (hl : l.length ≤ 100000) (hbase : base ≤ w.heap.size)
    (h : ∀ v' w', OwnG base v' (l0 ++ l) w' → Below base w w' → wpList Try.prog ops Q rest (a.put o.dst v') w') : wpList Try.prog ops Q (o :: rest) a w :=
  wpList_plain hgd fun _ hK => wp_append_G s x ho base v l0 hs hown u l hx hrow h0 hl hbase fun v' w' h1 h2 => hK _ _ (h v' w' h1 h2)

end Go.Proofs.Ytcehhgcfkoldfaa.Goods
