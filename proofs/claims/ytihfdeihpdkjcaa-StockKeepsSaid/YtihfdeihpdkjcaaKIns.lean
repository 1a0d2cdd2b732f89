/-
  Contract of the library's slices.Insert over rows: one row into a row of the call's own.
-/
import Derived.Test.YtihfdeihpdkjcaaKMove
import Derived.Laws.CopyOwn
import Derived.Lib.Overlaps
import Derived.Lib.AppendZeros
import Derived.Lib.AppendZerosOnto
import Derived.Deep.RegionLaw
import Derived.Shelf.RegionOpen
namespace Go.Proofs.Ytihfdeihpdkjcaa.Goods.Stk
open Go.ChangeShapes Go.WideShapes Go.ChangeAt Go.RowKit Go.Shelf

/-- copy, at rows of six cells, into a block that is known whole. -/
theorem run_copy_six (w : World) (ty : TypeId) (g o dLen dCap : Nat) (a : Addr) (sLen sCap m : Nat) (cur : Array Value) (t : TypeId) (cs : List Value)
    (hg : w.heap[g]? = some (.cells cur t (0, 0))) (hm : m = Nat.min sLen dLen) (hn : cs.length = m * 6)
    (hsrc : ∀ j v, cs[j]? = some v → w.cell? (a.add j) = some v) (hfit : o + cs.length ≤ cur.size) (h1 : ∀ v ∈ cs, v.oneCell' = true) :
    (Builtin.copy_ #[22, 22] ty #[.slice (some ⟨g, o, none⟩) dLen dCap, .slice (some a) sLen sCap]).run Try.prog w =
      .ok (goInt m) (w.setRow g (cur.toList.take o ++ cs ++ cur.toList.drop (o + cs.length)).toArray) := by
  obtain ⟨i0, hi, hz0, hz1, hz2⟩ := info_parts infoR
  have hl := run_firstCells_some (P := Try.prog) (w := w) 6 m a sLen sCap cs hn hsrc
  have hst := run_storeCells_at Try.prog g o t cs 0 cur w hg (by simpa using hfit) h1
  simp [Builtin.copy_, run_underlying Try.underlying22, Builtin.lenOf, sizeOf, typeInfo, hi, hz1, ← hm, hl, hst]
theorem wpList_copy_six {w : World} {ops : Array Oper} {rest : List Oper} {o : Oper} {a : Act} {Q : Exit → Act → World → Prop} (hgd : o.guard = none) (d s : Operand)
    (ho : o.op = .call { callee := .builtin .copy, args := #[d, s], argTypes := #[22, 22] }) (v u : Value) (hd : a.eval d = v) (hs : a.eval s = u) {v' : Value} {w' : World}
    (hr : (Builtin.copy_ #[22, 22] o.type #[v, u]).run Try.prog w = .ok v' w') (h : wpList Try.prog ops Q rest (a.put o.dst v') w') : wpList Try.prog ops Q (o :: rest) a w :=
  wpList_plain hgd fun _ hK => by
    unfold Oper.wp
    simp only [execOp, ho, resolve, invoke, builtin, Sem.run_bind, Sem.run_pure, Result.andThen_ok, List.map_toArray, List.map_cons, List.map_nil, hd, hs, hr]
    exact hK _ _ h
theorem step_copy_six {w : World} {ops : Array Oper} {o : Oper} {a : Act} {K : Act → World → Prop} {Q : Exit → Act → World → Prop} {E : Prop} (hgd : o.guard = none) (d s : Operand)
    (ho : o.op = .call { callee := .builtin .copy, args := #[d, s], argTypes := #[22, 22] }) (v u : Value) (hd : a.eval d = v) (hs : a.eval s = u) {v' : Value} {w' : World}
    (hr : (Builtin.copy_ #[22, 22] o.type #[v, u]).run Try.prog w = .ok v' w') (h : K (a.put o.dst v') w') : if Region.wanted o (yielded ops a.tmps) = true then Oper.wp Try.prog o a w K Q else E := by
  have hw : Region.wanted o (yielded ops a.tmps) = true := by simp [Region.wanted, hgd]
  rw [if_pos hw]
  unfold Oper.wp
  simp only [execOp, ho, resolve, invoke, builtin, Sem.run_bind, Sem.run_pure, Result.andThen_ok, List.map_toArray, List.map_cons, List.map_nil, hd, hs, hr]
  exact h

/-- Room made, and one laid into it; and the other way round. -/
theorem lay_shift {A D X : List Value} {i k m : Nat} (hi : i ≤ k) (hk : k + 6 ≤ A.length) (hD : D.length = k - i) (hX : X.length = 6) (hm : m = k + 6) :
    ((A.take (i + 6) ++ D ++ A.drop (i + 6 + D.length)).take i ++ X ++ (A.take (i + 6) ++ D ++ A.drop (i + 6 + D.length)).drop (i + 6)).take m = A.take i ++ (X ++ D) := by
  subst hm
  have h1 : (A.take (i + 6) ++ D ++ A.drop (i + 6 + D.length)).take i = A.take i := by
    rw [List.append_assoc, List.take_append_of_le_length (by rw [List.length_take]; omega), List.take_take]
    congr 1; omega
  have h2 : (A.take (i + 6) ++ D ++ A.drop (i + 6 + D.length)).drop (i + 6) = D ++ A.drop (i + 6 + D.length) := by
    rw [List.append_assoc, List.drop_left' (by rw [List.length_take]; omega)]
  rw [h1, h2, ← List.append_assoc, List.take_left' (by simp only [List.length_append, List.length_take]; omega), List.append_assoc]
theorem lay_grow {R D X : List Value} {i k m : Nat} (hi : i ≤ k) (hk : k + 6 ≤ R.length) (hD : D.length = k - i) (hX : X.length = 6) (hm : m = k + 6) :
    ((R.take i ++ X ++ R.drop (i + X.length)).take (i + 6) ++ D ++ (R.take i ++ X ++ R.drop (i + X.length)).drop (i + 6 + D.length)).take m = R.take i ++ (X ++ D) := by
  subst hm
  rw [List.take_left' (by simp only [List.length_append, List.length_take]; omega)] 
  have h1 : (R.take i ++ X ++ R.drop (i + X.length)).take (i + 6) = R.take i ++ X := List.take_left' (by simp only [List.length_append, List.length_take]; omega)
  rw [h1, List.append_assoc]
theorem ins_cells (l : List Rw) (x : Rw) (i : Nat) : rcells (l.take i ++ x :: l.drop i) = rcells (l.take i) ++ (rcells [x] ++ rcells (l.drop i)) := by
  rw [rcells_append, show x :: l.drop i = [x] ++ l.drop i from rfl, rcells_append]
theorem ins_len (l : List Rw) (x : Rw) {i : Nat} (hi : i ≤ l.length) : (l.take i ++ x :: l.drop i).length = l.length + 1 := by
  simp only [List.length_append, List.length_take, List.length_cons, List.length_drop]; omega

/-- A row of one more is returned. -/
def InsE (B : Nat) (l : List Rw) (w : World) (e : Ending) (w' : World) : Prop := ∃ v, e = .returned v ∧ OwnR B v l w' ∧ Below B w w'

set_option maxRecDepth 100000 in
set_option maxHeartbeats 4000000 in
/-- At its end. -/
theorem Insert_end {B : Nat} {v : Value} {l : List Rw} {w : World} (h : OwnR B v l w) (hl : l.length ≤ 1000) (hB : B ≤ w.heap.size) {q : Nat} {x : Rw} (hq : SRow w (.slice (some ⟨q, 0, none⟩) 1 1) [x]) :
    Calls Try.prog 25 #[v, .int .i64 l.length, .slice (some ⟨q, 0, none⟩) 1 1] w (InsE B (l ++ [x]) w) := by
  obtain ⟨a, cap, rfl⟩ := h.row.slice
  obtain ⟨hc1, hc2⟩ := h.row.cap.2
  have HO := Lib.hid h
  have HQ := Lib.hid hq
  clear h hq
  go_enter Try.func25, Try.ntmps25
  by_cases hcl : cap = l.length
  all_goals (
    go_wp2_with (at_builtin; refine wpList_append_R rfl _ _ rfl B _ l rfl HO.out _ [x] rfl HQ.out (by omega) (by simp) hB ?_)
    intro v' w1 hown hbel _
    have HR := Lib.hid (And.intro hown hbel)
    clear hown hbel
    go_wp2
    go_ret
    exact ⟨_, rfl, HR.out.1, HR.out.2⟩)

end Go.Proofs.Ytihfdeihpdkjcaa.Goods.Stk
