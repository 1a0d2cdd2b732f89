/-
  Rules of our own for great structs: a row of cells read, or written, as one value, at an operation whose guard says yes; the world behind a write under a letter. Orders' cells.
-/
import Derived.Test.YtjmmijobdcepmaaOSmall
namespace Go.Proofs.Ytjmmijobdcepmaa.Order
open Go.ChangeShapes Go.WideShapes Go.ChangeAt Go.RowKit

/-- These cells written over a row. -/
def over (vs : List Value) (o : Nat) (cs : List Value) : List Value := vs.take o ++ (cs ++ vs.drop (o + cs.length))
theorem over_get {vs cs : List Value} {o : Nat} (ho : o + cs.length ≤ vs.length) (j : Nat) : (over vs o cs)[j]? = if o ≤ j ∧ j < o + cs.length then cs[j - o]? else vs[j]? := by
  unfold over
  have e1 : (vs.take o).length = o := by rw [List.length_take]; omega
  by_cases h1 : j < o
  · rw [List.getElem?_append_left (by omega), if_neg (by omega), List.getElem?_take_of_lt h1]
  · rw [List.getElem?_append_right (by omega), e1]
    by_cases h2 : j < o + cs.length
    · rw [List.getElem?_append_left (by omega), if_pos (by omega)]
    · rw [List.getElem?_append_right (by omega), if_neg (by omega), List.getElem?_drop]
      congr 1
      omega
/-- Nothing but this block has turned. -/
def Turned (b : Nat) (w w' : World) : Prop := (∀ g vs, g ≠ b → Box g vs w → Box g vs w') ∧ (∀ n W0, n ≤ b → Below n W0 w → Below n W0 w')
theorem size_setCells (b : Nat) : ∀ (cs : List Value) (o : Nat) (w : World), (w.setCells b o cs).heap.size = w.heap.size
  | [], _, _ => rfl
  | v :: r, o, w => by rw [World.setCells, size_setCells b r]; simp
theorem below_setCells {B b : Nat} {a : World} (hb : B ≤ b) : ∀ (vs : List Value) (o : Nat) (w : World), Below B a w → Below B a (w.setCells b o vs)
  | [], _, _, h => h
  | v :: r, o, w, h => below_setCells hb r (o + 1) _ (h.setCell (by exact hb) v)
theorem turned_setCells (w : World) (b o : Nat) (cs : List Value) : Turned b w (w.setCells b o cs) := by
  refine ⟨fun g vs hg h => ⟨by rw [size_setCells]; exact h.1, fun j v hj => ?_⟩, fun n W0 hn h => below_setCells hn _ _ _ h⟩
  rw [World.cell?_setCells_out _ _ _ _ _ (fun e => absurd e hg), World.frozen?_setCells]
  exact h.2 j v hj
theorem Box.over {b : Nat} {vs cs : List Value} {o : Nat} {w : World} (h : Box b vs w) (ho : o + cs.length ≤ vs.length) : Box b (over vs o cs) (w.setCells b o cs) := by
  refine ⟨by rw [size_setCells]; exact h.1, fun j v hj => ?_⟩
  rw [over_get ho] at hj
  rw [World.frozen?_setCells]
  by_cases hi : o ≤ j ∧ j < o + cs.length
  · rw [if_pos hi] at hj
    have hjl : j < vs.length := by omega
    obtain ⟨k, rfl⟩ : ∃ k, j = o + k := ⟨j - o, by omega⟩
    have hk : k < cs.length := by omega
    rw [Nat.add_sub_cancel_left] at hj
    rw [World.cell?_setCells_in b cs o w (fun i hi => by
      rw [(h.2 (o + i) _ (List.getElem?_eq_getElem (by omega))).1]; rfl) k hk]
    rw [List.getElem?_eq_getElem hk] at hj
    exact ⟨hj, (h.2 _ _ (List.getElem?_eq_getElem hjl)).2⟩
  · rw [if_neg hi] at hj
    rw [World.cell?_setCells_out _ _ _ _ _ (fun _ _ => by show j < o ∨ o + cs.length ≤ j; omega)]
    exact h.2 j v hj
/-- A row of cells in a block. -/
theorem Box.part {b o n : Nat} {vs cs : List Value} {w : World} (h : Box b vs w) (hcs : (vs.drop o).take n = cs) : w.rangeAt b o cs := fun j v hj => by
  subst hcs
  have := (List.getElem?_eq_some_iff.1 hj).1
  rw [List.length_take, List.length_drop] at this
  rw [List.getElem?_take_of_lt (by omega), List.getElem?_drop] at hj
  exact (h.2 _ _ hj).1
theorem Box.therePart {b o n : Nat} {vs : List Value} {w : World} (h : Box b vs w) (hn : o + n ≤ vs.length) : w.there b o n := fun j hj => by
  have := h.2 (o + j) _ (List.getElem?_eq_getElem (by omega))
  exact ⟨by rw [this.1]; rfl, this.2⟩

section
variable {P : Program} {ops : Array Oper} {rest : List Oper} {op : Oper} {a : Act} {w : World} {Q : Exit → Act → World → Prop}
/-- A struct is read out of a block. -/
theorem load_part (hw : Region.wanted op (yielded ops a.tmps) = true) (ty : TypeId) (x : Operand) (ho : op.op = .load ty x) (b o n : Nat) (hx : a.eval x = .pointer (some ⟨b, o, none⟩))
    {vs : List Value} (hc : Box b vs w) (cs : List Value) (hcs : (vs.drop o).take n = cs) (d : TypeDesc) (hu : P.underlying ty = some d) (hd : d.isRow = true) (hi : (P.info? ty).map (·.size) = some cs.length)
    (h : wpList P ops Q rest (a.put op.dst (.agg cs.toArray)) w) : wpList P ops Q (op :: rest) a w :=
  BigFrame.wpList_want hw fun _ hK => wp_load_mid ty x ho b o hx cs d (hc.part hcs) hu hd hi (hK _ _ h)
/-- A value is written into a block. -/
theorem store_part (hw : Region.wanted op (yielded ops a.tmps) = true) (ty : TypeId) (x y : Operand) (ho : op.op = .store ty x y) (b o : Nat) (hx : a.eval x = .pointer (some ⟨b, o, none⟩))
    (cs : List Value) (hy : (a.eval y).cells = cs.toArray) {vs : List Value} (hc : Box b vs w) (hl : o + cs.length ≤ vs.length) (hi : (P.info? ty).map (·.size) = some cs.length) (h1 : ∀ v ∈ cs, v.oneCell' = true)
    (vs' : List Value) (hv : over vs o cs = vs') (h : ∀ w', Box b vs' w' → Turned b w w' → wpList P ops Q rest (a.put op.dst undef) w') : wpList P ops Q (op :: rest) a w := by
  refine BigFrame.wpList_want hw fun _ hK => ?_
  have hrun : (storeVar ty ⟨b, o, none⟩ (a.eval y)).run P w = .ok () (w.setCells b o cs) := by
    have ht := hc.therePart hl
    have := run_storeCells_cells (P := P) b o cs 0 w (fun j hj => by simpa using (ht j hj).1) (fun j hj => by simpa using (ht j hj).2) h1
    cases hq : P.info? ty with
    | none => simp [hq] at hi
    | some i =>
      have hs : cs.length = i.size := by simp [hq] at hi; omega
      simp only [Nat.add_zero] at this
      simp [storeVar, sizeOf, typeInfo, hq, hy, hs, this]
  unfold Oper.wp execOp
  simp only [ho, hx, Instr.storeAt, Instr.sureAddr, Sem.run_bind, Sem.run_pure, Result.andThen_ok, hrun]
  exact hK _ _ (h _ (hv ▸ hc.over hl) (turned_setCells _ _ _ _))
end

/-- What a call returns whose one result lies in a block; beside it one in a slot, or two. -/
theorem results_1 {P : Program} {fn : Func} {p : Tmp} {ty : TypeId} (h : fn.results = #[.cell p ty]) {tmps : Array Value} {w : World} {b : Nat} {vs : List Value} {d : TypeDesc} (hp : tmps.getD p undef = .pointer (some ⟨b, 0, none⟩)) (hc : Box b vs w)
    (hu : P.underlying ty = some d) (hd : d.isRow = true) (hi : (P.info? ty).map (·.size) = some vs.length) : (results fn tmps).run P w = .ok (.agg vs.toArray) w := by
  have hp' : tmps[p]?.getD undef = .pointer (some ⟨b, 0, none⟩) := by simpa using hp
  simp [results, h, hp', asAddr, run_loadVar_mid w b 0 ty vs d hc.range hu hd hi]
theorem results_2 {P : Program} {fn : Func} {p q : Tmp} {ty : TypeId} (h : fn.results = #[.cell p ty, .tmp q]) {tmps : Array Value} {w : World} {b : Nat} {vs : List Value} {d : TypeDesc} {v : Value} (hp : tmps.getD p undef = .pointer (some ⟨b, 0, none⟩)) (hv : tmps.getD q undef = v) (hc : Box b vs w)
    (hu : P.underlying ty = some d) (hd : d.isRow = true) (hi : (P.info? ty).map (·.size) = some vs.length) : (results fn tmps).run P w = .ok (.tuple #[.agg vs.toArray, v]) w := by
  have hp' : tmps[p]?.getD undef = .pointer (some ⟨b, 0, none⟩) := by simpa using hp
  have hv' : tmps[q]?.getD undef = v := by simpa using hv
  simp [results, h, hp', hv', asAddr, run_loadVar_mid w b 0 ty vs d hc.range hu hd hi]
theorem results_3 {P : Program} {fn : Func} {p q r : Tmp} {ty : TypeId} (h : fn.results = #[.cell p ty, .tmp q, .tmp r]) {tmps : Array Value} {w : World} {b : Nat} {vs : List Value} {d : TypeDesc} {v u : Value} (hp : tmps.getD p undef = .pointer (some ⟨b, 0, none⟩)) (hv : tmps.getD q undef = v) (hr : tmps.getD r undef = u) (hc : Box b vs w)
    (hu : P.underlying ty = some d) (hd : d.isRow = true) (hi : (P.info? ty).map (·.size) = some vs.length) : (results fn tmps).run P w = .ok (.tuple #[.agg vs.toArray, v, u]) w := by
  have hp' : tmps[p]?.getD undef = .pointer (some ⟨b, 0, none⟩) := by simpa using hp
  have hv' : tmps[q]?.getD undef = v := by simpa using hv
  have hr' : tmps[r]?.getD undef = u := by simpa using hr
  simp [results, h, hp', hv', hr', asAddr, run_loadVar_mid w b 0 ty vs d hc.range hu hd hi]
theorem over_all {vs cs : List Value} (h : cs.length = vs.length) : over vs 0 cs = cs := by
  unfold over
  rw [Nat.zero_add, h, List.drop_length]
  simp
/-- Blocks of one's own, on entry. -/
theorem two_new (w : World) (c0 c1 : List Value) (T0 T1 : TypeId) : Box w.heap.size c0 ((w.alloc (.cells c0.toArray T0)).alloc (.cells c1.toArray T1)) ∧ Box (w.heap.size + 1) c1 ((w.alloc (.cells c0.toArray T0)).alloc (.cells c1.toArray T1)) ∧ Below w.heap.size w ((w.alloc (.cells c0.toArray T0)).alloc (.cells c1.toArray T1)) := by
  refine ⟨(Box.made w c0 T0).below (al _ _), ?_, two_al w _ _⟩
  have := Box.made (w.alloc (.cells c0.toArray T0)) c1 T1
  rwa [World.size_alloc] at this
theorem three_new (w : World) (c0 c1 c2 : List Value) (T0 T1 T2 : TypeId) : Box w.heap.size c0 (((w.alloc (.cells c0.toArray T0)).alloc (.cells c1.toArray T1)).alloc (.cells c2.toArray T2)) ∧ Box (w.heap.size + 1) c1 (((w.alloc (.cells c0.toArray T0)).alloc (.cells c1.toArray T1)).alloc (.cells c2.toArray T2)) ∧
    Box (w.heap.size + 2) c2 (((w.alloc (.cells c0.toArray T0)).alloc (.cells c1.toArray T1)).alloc (.cells c2.toArray T2)) ∧ Below w.heap.size w (((w.alloc (.cells c0.toArray T0)).alloc (.cells c1.toArray T1)).alloc (.cells c2.toArray T2)) := by
  obtain ⟨h1, h2, h3⟩ := two_new w c0 c1 T0 T1
  refine ⟨h1.below (al _ _), h2.below (al _ _), ?_, below_trans h3 (al _ _)⟩
  have := Box.made ((w.alloc (.cells c0.toArray T0)).alloc (.cells c1.toArray T1)) c2 T2
  rwa [World.size_alloc, World.size_alloc] at this
/-- An order and an error are returned; an order, a sum and an error. -/
def OrdE (o : Od) (z : Int) (w : World) (e : Ending) (w' : World) : Prop := e = .returned (.tuple #[ov o, .int .i64 z]) ∧ Below w.heap.size w w'
def SumE (o : Od) (n z : Int) (w : World) (e : Ending) (w' : World) : Prop := e = .returned (.tuple #[ov o, .int .i64 n, .int .i64 z]) ∧ Below w.heap.size w w'
def OrdV (o : Od) (w : World) (e : Ending) (w' : World) : Prop := e = .returned (ov o) ∧ Below w.heap.size w w'
theorem infoL : (Try.prog.info? 23).map (·.size) = some 4 := by kernel_rfl
theorem infoP : (Try.prog.info? 25).map (·.size) = some 4 := by kernel_rfl
theorem infoA : (Try.prog.info? 27).map (·.size) = some 2 := by kernel_rfl
theorem infoI : (Try.prog.info? 3).map (·.size) = some 1 := by kernel_rfl
theorem infoB : (Try.prog.info? 4).map (·.size) = some 1 := by kernel_rfl
theorem ocs_one (o : Od) : ∀ v ∈ ocs o, v.oneCell' = true := by
  unfold ocs
  simp only [List.mem_cons, List.not_mem_nil, or_false]
  rintro v (rfl | rfl | rfl | rfl | rfl | rfl | rfl | rfl | rfl | rfl | rfl | rfl | rfl | rfl | rfl | rfl | rfl | rfl | rfl | rfl | rfl) <;> rfl
theorem pcs_one (p : Pay.Py) : ∀ v ∈ Pay.pcs p, v.oneCell' = true := by
  unfold Pay.pcs
  simp only [List.mem_cons, List.not_mem_nil, or_false]
  rintro v (rfl | rfl | rfl | rfl) <;> rfl
theorem lcs_one (l : Ld) : ∀ v ∈ lcs l, v.oneCell' = true := by
  unfold lcs
  simp only [List.mem_cons, List.not_mem_nil, or_false]
  rintro v (rfl | rfl | rfl | rfl) <;> rfl
end Go.Proofs.Ytjmmijobdcepmaa.Order
