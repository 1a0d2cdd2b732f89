/-
  Stock in memory: slices that read as rows of six cells; rows in blocks of their own, appended to, cloned.
-/
import Derived.Test.YtihfdeihpdkjcaaKMath
import Derived.Test.YtihfdeihpdkjcaaGOwn
namespace Go.Proofs.Ytihfdeihpdkjcaa.Goods.Stk
open Go.ChangeShapes Go.WideShapes Go.ChangeAt Go.RowKit Go.Shelf

/-- A row's six cells lie there. -/
def Six (w : World) (b o : Nat) (x : Rw) : Prop := w.cell? ⟨b, o, none⟩ = some (.string x.s) ∧ w.cell? ⟨b, o + 1, none⟩ = some (.int .i64 x.n) ∧ w.cell? ⟨b, o + 2, none⟩ = some (.int .i64 x.f) ∧ w.cell? ⟨b, o + 3, none⟩ = some (.int .i64 x.h) ∧ w.cell? ⟨b, o + 4, none⟩ = some (.int .i64 x.p) ∧ w.cell? ⟨b, o + 5, none⟩ = some (.int .i64 x.t)
theorem Six.below {w w' : World} {b o : Nat} {x : Rw} (h : Six w b o x) (hbl : b < w.heap.size) (hb : Below w.heap.size w w') : Six w' b o x :=
  ⟨(hb.cell (p := ⟨b, _, none⟩) hbl).trans h.1, (hb.cell (p := ⟨b, _, none⟩) hbl).trans h.2.1, (hb.cell (p := ⟨b, _, none⟩) hbl).trans h.2.2.1, (hb.cell (p := ⟨b, _, none⟩) hbl).trans h.2.2.2.1, (hb.cell (p := ⟨b, _, none⟩) hbl).trans h.2.2.2.2.1, (hb.cell (p := ⟨b, _, none⟩) hbl).trans h.2.2.2.2.2⟩
/-- A slice that reads as these rows. -/
def SRow (w : World) (v : Value) (l : List Rw) : Prop := ∃ (a : Option Addr) (cap : Nat), v = .slice a l.length cap ∧ l.length ≤ cap ∧ cap ≤ 9223372036854775807 ∧
  (0 < l.length → ∃ b off, a = some ⟨b, off, none⟩ ∧ b < w.heap.size ∧ ∀ j (h : j < l.length), Six w b (off + j * 6) l[j])
theorem SRow.below {w w' : World} {v : Value} {l : List Rw} (h : SRow w v l) (hb : Below w.heap.size w w') : SRow w' v l := by
  obtain ⟨a, cap, e, h1, h2, h3⟩ := h
  refine ⟨a, cap, e, h1, h2, fun h0 => ?_⟩
  obtain ⟨b, off, ea, hbl, hc⟩ := h3 h0
  exact ⟨b, off, ea, Nat.lt_of_lt_of_le hbl hb.size, fun j hj => (hc j hj).below hbl hb⟩
theorem SRow.slice {w : World} {v : Value} {l : List Rw} (h : SRow w v l) : ∃ a cap, v = .slice a l.length cap := by obtain ⟨a, cap, e, _⟩ := h; exact ⟨a, cap, e⟩
theorem SRow.at {w : World} {a : Option Addr} {cap : Nat} {l : List Rw} (h : SRow w (.slice a l.length cap) l) {q : Nat} (hq : q < l.length) :
    ∃ b off, a = some ⟨b, off, none⟩ ∧ l.length ≤ cap ∧ cap ≤ 9223372036854775807 ∧ b < w.heap.size ∧ Six w b (off + q * 6) l[q] := by
  obtain ⟨a', cap', e, h1, h2, h3⟩ := h
  cases e
  obtain ⟨b, off, ea, hbl, hc⟩ := h3 (by omega)
  exact ⟨b, off, ea, h1, h2, hbl, hc q hq⟩
theorem SRow.cap {w : World} {a : Option Addr} {n cap : Nat} {l : List Rw} (h : SRow w (.slice a n cap) l) : n = l.length ∧ l.length ≤ cap ∧ cap ≤ 9223372036854775807 := by
  obtain ⟨a', cap', e, h1, h2, _⟩ := h
  cases e
  exact ⟨rfl, h1, h2⟩
theorem SRow.take {w : World} {a : Option Addr} {cap : Nat} {l : List Rw} (h : SRow w (.slice a l.length cap) l) {n : Nat} (hn : n ≤ l.length) : SRow w (.slice a n cap) (l.take n) := by
  obtain ⟨a', cap', e, h1, h2, h3⟩ := h
  cases e
  have e1 : (l.take n).length = n := by rw [List.length_take]; omega
  refine ⟨a, cap, by rw [e1], by omega, h2, fun h0 => ?_⟩
  obtain ⟨b, off, ea, hbl, hc⟩ := h3 (by omega)
  exact ⟨b, off, ea, hbl, fun j hj => by
    rw [List.getElem_take]
    exact hc j (by omega)⟩
theorem SRow.nil (w : World) : SRow w (.slice none 0 0) [] := ⟨none, 0, rfl, Nat.le_refl _, by omega, fun h => absurd h (Nat.lt_irrefl _)⟩
theorem SRow.no {w : World} {cap n : Nat} {l : List Rw} (h : SRow w (.slice none n cap) l) : l = [] := by
  obtain ⟨a', c', e, _, _, h3⟩ := h
  cases e
  cases l with
  | nil => rfl
  | cons x r => obtain ⟨b, off, e, _⟩ := h3 (by simp); cases e

/-- A row as a value. -/
def rv (x : Rw) : Value := .agg #[.string x.s, .int .i64 x.n, .int .i64 x.f, .int .i64 x.h, .int .i64 x.p, .int .i64 x.t]
def rl (x : Rw) : List Value := [.string x.s, .int .i64 x.n, .int .i64 x.f, .int .i64 x.h, .int .i64 x.p, .int .i64 x.t]
def rcells : List Rw → List Value
  | [] => []
  | x :: r => .string x.s :: .int .i64 x.n :: .int .i64 x.f :: .int .i64 x.h :: .int .i64 x.p :: .int .i64 x.t :: rcells r
theorem rcells_len : ∀ l : List Rw, (rcells l).length = l.length * 6
  | [] => rfl
  | x :: r => by simp [rcells, rcells_len r]; omega
theorem rcells_append : ∀ (l m : List Rw), rcells (l ++ m) = rcells l ++ rcells m
  | [], m => rfl
  | x :: r, m => by simp [rcells, rcells_append r m]
theorem rcells_at : ∀ (l : List Rw) (j : Nat) (h : j < l.length), (rcells l)[j * 6]? = some (.string l[j].s) ∧ (rcells l)[j * 6 + 1]? = some (.int .i64 l[j].n) ∧ (rcells l)[j * 6 + 2]? = some (.int .i64 l[j].f) ∧ (rcells l)[j * 6 + 3]? = some (.int .i64 l[j].h) ∧ (rcells l)[j * 6 + 4]? = some (.int .i64 l[j].p) ∧ (rcells l)[j * 6 + 5]? = some (.int .i64 l[j].t)
  | x :: r, 0, _ => ⟨rfl, rfl, rfl, rfl, rfl, rfl⟩
  | x :: r, j + 1, h => by
    have := rcells_at r j (by simpa using h)
    rw [show (j + 1) * 6 = j * 6 + 1 + 1 + 1 + 1 + 1 + 1 by omega]
    simpa [rcells] using this
theorem rcells_take : ∀ (l : List Rw) (i : Nat), rcells (l.take i) = (rcells l).take (i * 6)
  | _, 0 => by simp [rcells]
  | [], _ + 1 => by simp [rcells]
  | x :: r, i + 1 => by
    rw [show (i + 1) * 6 = i * 6 + 1 + 1 + 1 + 1 + 1 + 1 by omega]
    simp [rcells, rcells_take r i]
theorem rcells_drop : ∀ (l : List Rw) (i : Nat), rcells (l.drop i) = (rcells l).drop (i * 6)
  | _, 0 => by simp
  | [], _ + 1 => by simp [rcells]
  | x :: r, i + 1 => by
    rw [show (i + 1) * 6 = i * 6 + 1 + 1 + 1 + 1 + 1 + 1 by omega]
    simp [rcells, rcells_drop r i]
theorem rcells_put : ∀ (l : List Rw) (i c : Nat) (v : Int) (h : i < l.length), 1 ≤ c → c ≤ 5 → rcells (l.set i (put c v l[i])) = (rcells l).set (i * 6 + c) (.int .i64 v)
  | x :: r, 0, c, v, _, h1, h2 => by
    rcases (by omega : c = 1 ∨ c = 2 ∨ c = 3 ∨ c = 4 ∨ c = 5) with rfl | rfl | rfl | rfl | rfl <;> simp [rcells, put]
  | x :: r, i + 1, c, v, h, h1, h2 => by
    have := rcells_put r i c v (by simpa using h) h1 h2
    rw [show (i + 1) * 6 + c = (i * 6 + c) + 1 + 1 + 1 + 1 + 1 + 1 by omega]
    simp only [List.set_cons_succ, rcells, List.getElem_cons_succ, this]
theorem rcells_one : ∀ (l : List Rw) u, u ∈ rcells l → u.oneCell' = true
  | x :: r, u, h => by
    simp only [rcells, List.mem_cons] at h
    rcases h with rfl | rfl | rfl | rfl | rfl | rfl | h
    · rfl
    · rfl
    · rfl
    · rfl
    · rfl
    · rfl
    · exact rcells_one r u h
theorem infoR : (Try.prog.info? 25).map (fun i => (i.zero, i.size, i.bytes)) = some (some (.agg #[.string ⟨#[]⟩, .int .i64 0, .int .i64 0, .int .i64 0, .int .i64 0, .int .i64 0]), 6, 56) := by kernel_rfl

/-- A row in a block of its own, that lies at B or behind it. -/
def OwnR (B : Nat) (v : Value) (l : List Rw) (w : World) : Prop := w.ownsRow B 25 6 v l.length (rcells l)
theorem OwnR.row {w : World} {B : Nat} {v : Value} {l : List Rw} (h : OwnR B v l w) : SRow w v l := by
  have hw := h
  obtain ⟨_, ⟨rfl, h2⟩ | ⟨g, cap, cur, rfl, hg, hh, hn, hm, _⟩⟩ := h
  · exact ⟨none, 0, by rw [h2], by omega, by omega, fun h => by omega⟩
  · refine ⟨_, cap, rfl, hn, by unfold maxLen at hm; omega, fun _ => ⟨g, 0, rfl, (Array.getElem?_eq_some_iff.1 hh).1, fun j hj => ?_⟩⟩
    obtain ⟨c0, c1, c2, c3, c4, c5⟩ := rcells_at l j hj
    have h0 := World.ownsRow.cells hw (g := g) rfl (j * 6) _ c0
    have h1 := World.ownsRow.cells hw (g := g) rfl (j * 6 + 1) _ c1
    have h2 := World.ownsRow.cells hw (g := g) rfl (j * 6 + 2) _ c2
    have h3 := World.ownsRow.cells hw (g := g) rfl (j * 6 + 3) _ c3
    have h4 := World.ownsRow.cells hw (g := g) rfl (j * 6 + 4) _ c4
    have h5 := World.ownsRow.cells hw (g := g) rfl (j * 6 + 5) _ c5
    rw [addr_add] at h0 h1 h2 h3 h4 h5
    exact ⟨h0, h1, h2, h3, h4, h5⟩
theorem SRow.news {w : World} {ad : Addr} {cap : Nat} {l : List Rw} (h : SRow w (.slice (some ad) l.length cap) l) : ∀ j u, (rcells l)[j]? = some u → w.cell? (ad.add j) = some u := by
  intro j u hu
  have hj : j < l.length * 6 := by
    have := (List.getElem?_eq_some_iff.1 hu).1
    rwa [rcells_len] at this
  have hq : j / 6 < l.length := by omega
  obtain ⟨b, off, e, _, _, _, c0, c1, c2, c3, c4, c5⟩ := h.at hq
  cases e
  obtain ⟨a0, a1, a2, a3, a4, a5⟩ := rcells_at l (j / 6) hq
  rw [addr_add]
  rcases (by omega : j % 6 = 0 ∨ j % 6 = 1 ∨ j % 6 = 2 ∨ j % 6 = 3 ∨ j % 6 = 4 ∨ j % 6 = 5) with hm | hm | hm | hm | hm | hm
  · rw [show j = j / 6 * 6 by omega] at hu ⊢
    rw [a0] at hu
    cases hu
    exact c0
  · rw [show j = j / 6 * 6 + 1 by omega] at hu ⊢
    rw [a1] at hu
    cases hu
    exact c1
  · rw [show j = j / 6 * 6 + 2 by omega] at hu ⊢
    rw [a2] at hu
    cases hu
    exact c2
  · rw [show j = j / 6 * 6 + 3 by omega] at hu ⊢
    rw [a3] at hu
    cases hu
    exact c3
  · rw [show j = j / 6 * 6 + 4 by omega] at hu ⊢
    rw [a4] at hu
    cases hu
    exact c4
  · rw [show j = j / 6 * 6 + 5 by omega] at hu ⊢
    rw [a5] at hu
    cases hu
    exact c5
theorem run_append_none_R {base cap : Nat} {v : Value} {l : List Rw} {w : World} (ty : TypeId) (hown : OwnR base v l w) : (Builtin.append_ #[22, 22] ty #[v, .slice none 0 cap]).run Try.prog w = .ok v w := by
  obtain ⟨i0, hi, hz0, hz1, hz2⟩ := info_parts infoR
  have hr := hown.row
  obtain ⟨a, c, rfl⟩ := hr.slice
  have hc := hr.cap.2.1
  have e : l.length + 0 ≤ c := by omega
  cases a with
  | none => simp [Builtin.append_, run_underlying Try.underlying22, sizeOf, typeInfo, hi, Builtin.lenOf, Builtin.firstCells, hc]
  | some ad => simp [Builtin.append_, run_underlying Try.underlying22, sizeOf, typeInfo, hi, Builtin.lenOf, Builtin.firstCells, storeCells, hc]
theorem OwnR.below {B : Nat} {v : Value} {l : List Rw} {w w' : World} (h : OwnR B v l w) (hb : Below w.heap.size w w') : OwnR B v l w' := by
  obtain ⟨h0, h1 | ⟨g, cap, cur, hv, hg, hh, hrest⟩⟩ := h
  · exact ⟨h0, .inl h1⟩
  · exact ⟨h0, .inr ⟨g, cap, cur, hv, hg, (hb.block g (Array.getElem?_eq_some_iff.1 hh).1).trans hh, hrest⟩⟩
theorem OwnR.mono {B B' : Nat} {v : Value} {l : List Rw} {w : World} (h : OwnR B v l w) (hb : B' ≤ B) : OwnR B' v l w := by
  obtain ⟨h0, h1 | ⟨g, cap, cur, hv, hg, hh, hrest⟩⟩ := h
  · exact ⟨h0, .inl h1⟩
  · exact ⟨h0, .inr ⟨g, cap, cur, hv, by omega, hh, hrest⟩⟩
/-- A row of none, just made. -/
theorem OwnR.empty (W : World) {B : Nat} (hB : B ≤ W.heap.size) : OwnR B (.slice (some ⟨W.heap.size, 0, none⟩) 0 0) [] (W.alloc (.cells #[] 25)) := World.ownsRow_made W #[] 0 hB (Nat.zero_le _) rfl
theorem OwnR.nil (W : World) (B : Nat) : OwnR B (.slice none 0 0) [] W := World.ownsRow_nil _ _ _ _
/-- A new row is returned. -/
def NewR (l : List Rw) (w : World) (e : Ending) (w' : World) : Prop := ∃ v, e = .returned v ∧ OwnR w.heap.size v l w' ∧ Below w.heap.size w w'
/-- Some, which may be none, are appended to a row of the call's own. -/
theorem wp_append_R {w : World} {o : Oper} {a : Act} {K : Act → World → Prop} {Q : Exit → Act → World → Prop} (s x : Operand)
    (ho : o.op = .call { callee := .builtin .append, args := #[s, x], argTypes := #[22, 22] })
    (base : Nat) (v : Value) (l0 : List Rw) (hs : a.eval s = v) (hown : OwnR base v l0 w) (u : Value) (l : List Rw) (hx : a.eval x = u) (hrow : SRow w u l) (h0 : l0.length ≤ 100000) (hl : l.length ≤ 100000) (hbase : base ≤ w.heap.size)
    (h : ∀ v' w', OwnR base v' (l0 ++ l) w' → Below base w w' → w.grownBy w' v.ownBlock → K (a.put o.dst v') w') : o.wp Try.prog a w K Q := by
  obtain ⟨i0, hi, hz0, hz1, hz2⟩ := info_parts infoR
  obtain ⟨ad, cap, rfl⟩ := hrow.slice
  cases ad with
  | none =>
    have e : l = [] := hrow.no
    subst e
    have hrun := run_append_none_R (cap := cap) o.type hown
    unfold Oper.wp
    simp only [execOp, ho, resolve, invoke, builtin, Sem.run_bind, Sem.run_pure, Result.andThen_ok, List.map_toArray, List.map_cons, List.map_nil, hs, hx]
    simp only [List.length_nil, hrun]
    exact h v w (by rw [List.append_nil]; exact hown) ⟨rfl, rfl, rfl, Nat.le_refl _, fun _ _ => rfl⟩ ⟨rfl, rfl, rfl, Nat.le_refl _, fun _ _ _ => rfl⟩
  | some ad =>
    refine wp_append_own w s x 22 ho base 25 i0 (.agg #[.string ⟨#[]⟩, .int .i64 0, .int .i64 0, .int .i64 0, .int .i64 0, .int .i64 0]) 6 56 Try.underlying22 hi hz0 hz1 hz2 rfl (by decide) v l0.length (rcells l0) hs hown ad l.length cap (rcells l) hx (by rw [rcells_len]) hrow.news (rcells_one l) (by unfold maxLen; omega) (by omega) hbase ?_
    intro v' w1 hown' hgrow _
    refine h v' w1 ?_ ?_ hgrow
    · unfold OwnR
      rw [rcells_append, List.length_append]
      exact hown'
    · exact (show Below base w w from ⟨rfl, rfl, rfl, Nat.le_refl _, fun _ _ => rfl⟩).grown hgrow hbase (fun j hj => (hown.lt j hj).1)
theorem wpList_append_R {w : World} {ops : Array Oper} {rest : List Oper} {o : Oper} {a : Act} {Q : Exit → Act → World → Prop} (hgd : o.guard = none) (s x : Operand)
    (ho : o.op = .call { callee := .builtin .append, args := #[s, x], argTypes := #[22, 22] })
    (base : Nat) (v : Value) (l0 : List Rw) (hs : a.eval s = v) (hown : OwnR base v l0 w) (u : Value) (l : List Rw) (hx : a.eval x = u) (hrow : SRow w u l) (h0 : l0.length ≤ 100000) (hl : l.length ≤ 100000) (hbase : base ≤ w.heap.size)
    (h : ∀ v' w', OwnR base v' (l0 ++ l) w' → Below base w w' → w.grownBy w' v.ownBlock → wpList Try.prog ops Q rest (a.put o.dst v') w') : wpList Try.prog ops Q (o :: rest) a w :=
  wpList_plain hgd fun _ hK => wp_append_R s x ho base v l0 hs hown u l hx hrow h0 hl hbase fun v' w' h1 h2 h3 => hK _ _ (h v' w' h1 h2 h3)
theorem SRow.one (w : World) (x : Rw) : SRow (w.alloc (.cells #[.string x.s, .int .i64 x.n, .int .i64 x.f, .int .i64 x.h, .int .i64 x.p, .int .i64 x.t] 25)) (.slice (some ⟨w.heap.size, 0, none⟩) 1 1) [x] := by
  refine ⟨_, 1, rfl, by simp, by omega, fun _ => ⟨_, 0, rfl, by simp, fun j hj => ?_⟩⟩
  obtain rfl : j = 0 := by simpa using hj
  refine ⟨?_, ?_, ?_, ?_, ?_, ?_⟩ <;> simp

set_option maxHeartbeats 1000000 in
set_option maxRecDepth 100000 in
theorem CloneR_any {v : Value} {l : List Rw} {w : World} (h : SRow w v l) (hl : l.length ≤ 1000) : Calls Try.prog 24 #[v] w (NewR l w) := by
  have H := Lib.hid h
  obtain ⟨a, cap, rfl⟩ := h.slice
  cases a with
  | none =>
    have h0 : l = [] := h.no
    subst h0
    have hnil : (binOp .eql 22 (.slice none 0 cap) (.slice none 0 0)).run Try.prog w = .ok (.bool true) w := run_eql_slice_nil w 22 25 _ _ _ Try.underlying22
    clear h
    go_enter Try.func24, Try.ntmps24
    go_wp2
    go_ret
    exact ⟨_, rfl, World.ownsRow_nil _ _ _ _, Below.refl _ _⟩
  | some ad =>
    have hb := al w (.cells #[] 25)
    have HB := Lib.hid hb
    have HE := Lib.hid (OwnR.empty w (Nat.le_refl _))
    have HN := Lib.hid (H.out.below hb)
    have hnil : (binOp .eql 22 (.slice (some ad) l.length cap) (.slice none 0 0)).run Try.prog w = .ok (.bool false) w := run_eql_slice_nil w 22 25 _ _ _ Try.underlying22
    clear h hb
    go_enter Try.func24, Try.ntmps24
    go_wp2_with (at_builtin; refine wpList_append_R rfl _ _ rfl w.heap.size _ [] rfl HE.out _ l rfl HN.out (by simp) (by omega) (by simp) ?_)
    intro v' w1 hown hbel _
    have HR := Lib.hid (And.intro hown (HB.out.trans hbel))
    clear hown hbel
    go_wp2
    go_ret
    exact ⟨_, rfl, HR.out.1, HR.out.2⟩
end Go.Proofs.Ytihfdeihpdkjcaa.Goods.Stk
