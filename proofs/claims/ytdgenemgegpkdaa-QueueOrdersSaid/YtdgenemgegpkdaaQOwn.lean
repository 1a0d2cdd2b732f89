/-
  Rows of waits in blocks of their own: Clone, and the exchange of two.
-/
import Derived.Test.YtdgenemgegpkdaaQPtr
import Derived.Laws.OwnMore
import Derived.Lib.OwnKind
import Derived.Lib.LazyBuf
namespace Go.Proofs.Ytdgenemgegpkdaa.Queue
open Go.ChangeShapes Go.WideShapes Go.ChangeAt Go.RowKit Go.Shelf Go.Sort

theorem addr_add (b off j : Nat) : (⟨b, off, none⟩ : Addr).add j = ⟨b, off + j, none⟩ := by
  unfold Addr.add
  split
  · rename_i h; subst h; rfl
  · rfl
def qcells : List Wt → List Value
  | [] => []
  | x :: r => .int .i64 x.c :: .int .i64 x.s :: .int .i64 x.o :: qcells r
theorem qcells_len : ∀ l : List Wt, (qcells l).length = l.length * 3
  | [] => rfl
  | x :: r => by simp [qcells, qcells_len r]; omega
theorem qcells_append : ∀ (l m : List Wt), qcells (l ++ m) = qcells l ++ qcells m
  | [], m => rfl
  | x :: r, m => by simp [qcells, qcells_append r m]
theorem qcells_at : ∀ (l : List Wt) (j : Nat) (h : j < l.length), (qcells l)[j * 3]? = some (.int .i64 l[j].c) ∧ (qcells l)[j * 3 + 1]? = some (.int .i64 l[j].s) ∧ (qcells l)[j * 3 + 2]? = some (.int .i64 l[j].o)
  | x :: r, 0, _ => ⟨rfl, rfl, rfl⟩
  | x :: r, j + 1, h => by
    have := qcells_at r j (by simpa using h)
    rw [show (j + 1) * 3 = j * 3 + 1 + 1 + 1 by omega]
    simpa [qcells] using this
theorem qcells_one : ∀ (l : List Wt) u, u ∈ qcells l → u.oneCell' = true
  | x :: r, u, h => by
    simp only [qcells, List.mem_cons] at h
    rcases h with rfl | rfl | rfl | h
    · rfl
    · rfl
    · rfl
    · exact qcells_one r u h
theorem qcells_set : ∀ (l : List Wt) (i : Nat) (x : Wt), i < l.length → qcells (l.set i x) = (((qcells l).set (i * 3) (.int .i64 x.c)).set (i * 3 + 1) (.int .i64 x.s)).set (i * 3 + 2) (.int .i64 x.o)
  | y :: r, 0, x, _ => rfl
  | y :: r, i + 1, x, h => by
    have := qcells_set r i x (by simpa using h)
    rw [show (i + 1) * 3 = i * 3 + 1 + 1 + 1 by omega]
    simp only [List.set_cons_succ, qcells, this]
theorem infoQ : (Try.prog.info? 24).map (fun i => (i.zero, i.size, i.bytes)) = some (some (.agg #[.int .i64 0, .int .i64 0, .int .i64 0]), 3, 24) := by kernel_rfl

/-- A row of waits in a block of its own, that lies at B or behind it. -/
def OwnQ (B : Nat) (v : Value) (l : List Wt) (w : World) : Prop := w.ownsRow B 24 3 v l.length (qcells l)
theorem OwnQ.row {w : World} {B : Nat} {v : Value} {l : List Wt} (h : OwnQ B v l w) : QRow w v l := by
  have hw := h
  obtain ⟨_, ⟨rfl, h2⟩ | ⟨g, cap, cur, rfl, hg, hh, hn, hm, _⟩⟩ := h
  · exact ⟨none, 0, by rw [h2], by omega, by omega, fun h => by omega⟩
  · refine ⟨_, cap, rfl, hn, by unfold maxLen at hm; omega, fun _ => ⟨g, 0, rfl, (Array.getElem?_eq_some_iff.1 hh).1, fun j hj => ?_⟩⟩
    have h1 := World.ownsRow.cells hw (g := g) rfl (j * 3) _ (qcells_at l j hj).1
    have h2 := World.ownsRow.cells hw (g := g) rfl (j * 3 + 1) _ (qcells_at l j hj).2.1
    have h3 := World.ownsRow.cells hw (g := g) rfl (j * 3 + 2) _ (qcells_at l j hj).2.2
    rw [addr_add] at h1 h2 h3
    exact ⟨h1, h2, h3⟩
theorem OwnQ.below {B : Nat} {v : Value} {l : List Wt} {w w' : World} (h : OwnQ B v l w) (hb : Below w.heap.size w w') : OwnQ B v l w' := by
  obtain ⟨h0, h1 | ⟨g, cap, cur, hv, hg, hh, hrest⟩⟩ := h
  · exact ⟨h0, .inl h1⟩
  · exact ⟨h0, .inr ⟨g, cap, cur, hv, hg, (hb.block g (Array.getElem?_eq_some_iff.1 hh).1).trans hh, hrest⟩⟩
theorem OwnQ.at {B : Nat} {v : Value} {l : List Wt} {w : World} (h : OwnQ B v l w) {i : Nat} (hi : i < l.length) :
    ∃ g cap, v = .slice (some ⟨g, 0, none⟩) l.length cap ∧ B ≤ g ∧ g < w.heap.size ∧ (w.cell? ⟨g, i * 3, none⟩ = some (.int .i64 l[i].c) ∧ w.cell? ⟨g, i * 3 + 1, none⟩ = some (.int .i64 l[i].s) ∧ w.cell? ⟨g, i * 3 + 2, none⟩ = some (.int .i64 l[i].o)) ∧ ∀ j, w.frozen? ⟨g, j, none⟩ = false := by
  have hw := h
  obtain ⟨_, ⟨rfl, h2⟩ | ⟨g, cap, cur, rfl, hg, hh, hn, hm, _⟩⟩ := h
  · omega
  · refine ⟨g, cap, rfl, hg, (Array.getElem?_eq_some_iff.1 hh).1, ?_, fun j => by simp [World.frozen?, hh]⟩
    have h1 := World.ownsRow.cells hw (g := g) rfl (i * 3) _ (qcells_at l i hi).1
    have h2 := World.ownsRow.cells hw (g := g) rfl (i * 3 + 1) _ (qcells_at l i hi).2.1
    have h3 := World.ownsRow.cells hw (g := g) rfl (i * 3 + 2) _ (qcells_at l i hi).2.2
    rw [addr_add] at h1 h2 h3
    simp only [Nat.zero_add] at h1 h2 h3
    exact ⟨h1, h2, h3⟩
/-- One is stored. -/
theorem OwnQ.set {B g n cap : Nat} {l : List Wt} {w : World} (h : OwnQ B (.slice (some ⟨g, 0, none⟩) n cap) l w) (hn : n = l.length) {i : Nat} (hi : i < l.length) (x : Wt) :
    OwnQ B (.slice (some ⟨g, 0, none⟩) n cap) (l.set i x) (((w.setCell ⟨g, i * 3, none⟩ (.int .i64 x.c)).setCell ⟨g, i * 3 + 1, none⟩ (.int .i64 x.s)).setCell ⟨g, i * 3 + 2, none⟩ (.int .i64 x.o)) ∧
    ∀ k, k ≠ g → (((w.setCell ⟨g, i * 3, none⟩ (.int .i64 x.c)).setCell ⟨g, i * 3 + 1, none⟩ (.int .i64 x.s)).setCell ⟨g, i * 3 + 2, none⟩ (.int .i64 x.o)).heap[k]? = w.heap[k]? := by
  subst hn
  obtain ⟨h1, _⟩ := World.ownsRow.stored h (i * 3) (.int .i64 x.c)
  obtain ⟨h2, _⟩ := World.ownsRow.stored h1 (i * 3 + 1) (.int .i64 x.s)
  obtain ⟨h3, _⟩ := World.ownsRow.stored h2 (i * 3 + 2) (.int .i64 x.o)
  refine ⟨?_, fun k hk => ?_⟩
  · unfold OwnQ
    rw [qcells_set l i x hi, List.length_set]
    exact h3
  · have hk' : k ≠ g := hk
    rw [heap_setCell_other _ ⟨g, _, none⟩ _ _ hk', heap_setCell_other _ ⟨g, _, none⟩ _ _ hk', heap_setCell_other _ ⟨g, _, none⟩ _ _ hk']

/-- A new row is returned. -/
def NewQ (l : List Wt) (w : World) (e : Ending) (w' : World) : Prop := ∃ v, e = .returned v ∧ OwnQ w.heap.size v l w' ∧ Below w.heap.size w w'
theorem QRow.news {w : World} {ad : Addr} {cap : Nat} {l : List Wt} (h : QRow w (.slice (some ad) l.length cap) l) : ∀ j u, (qcells l)[j]? = some u → w.cell? (ad.add j) = some u := by
  intro j u hu
  have hj : j < l.length * 3 := by
    have := (List.getElem?_eq_some_iff.1 hu).1
    rwa [qcells_len] at this
  have hq : j / 3 < l.length := by omega
  obtain ⟨b, off, e, _, _, _, c1, c2, c3⟩ := h.at hq
  cases e
  have hA := qcells_at l (j / 3) hq
  rw [addr_add]
  rcases (by omega : j % 3 = 0 ∨ j % 3 = 1 ∨ j % 3 = 2) with hm | hm | hm
  · rw [show j = j / 3 * 3 by omega] at hu ⊢
    rw [hA.1] at hu
    cases hu
    exact c1
  · rw [show j = j / 3 * 3 + 1 by omega] at hu ⊢
    rw [hA.2.1] at hu
    cases hu
    exact c2
  · rw [show j = j / 3 * 3 + 2 by omega] at hu ⊢
    rw [hA.2.2] at hu
    cases hu
    exact c3

set_option maxHeartbeats 1000000 in
set_option maxRecDepth 100000 in
theorem Clone_any {v : Value} {l : List Wt} {w : World} (h : QRow w v l) (hl : l.length ≤ 1000) : Calls Try.prog 22 #[v] w (NewQ l w) := by
  obtain ⟨i0, hi, hz0, hz1, hz2⟩ := info_parts infoQ
  have H := Lib.hid h
  obtain ⟨a, cap, rfl⟩ := h.slice
  cases a with
  | none =>
    have h0 : l = [] := by
      obtain ⟨a', c', e, _, _, h3⟩ := h
      cases e
      cases l with
      | nil => rfl
      | cons x r => obtain ⟨b, off, e, _⟩ := h3 (by simp); cases e
    subst h0
    have hnil : (binOp .eql 22 (.slice none 0 cap) (.slice none 0 0)).run Try.prog w = .ok (.bool true) w := run_eql_slice_nil w 22 24 _ _ _ Try.underlying22
    clear h
    go_enter Try.func22, Try.ntmps22
    go_wp2
    go_ret
    exact ⟨_, rfl, World.ownsRow_nil _ _ _ _, Below.refl _ _⟩
  | some ad =>
    have hb : Below w.heap.size w (w.alloc (.cells #[] 24)) := al _ _
    have HB := Lib.hid hb
    have HN := Lib.hid (H.out.below hb).news
    have hnil : (binOp .eql 22 (.slice (some ad) l.length cap) (.slice none 0 0)).run Try.prog w = .ok (.bool false) w := run_eql_slice_nil w 22 24 _ _ _ Try.underlying22
    clear h hb
    go_enter Try.func22, Try.ntmps22
    go_wp2_with (at_builtin; refine wpList_append_own _ rfl _ _ 22 rfl w.heap.size 24 i0 (.agg #[.int .i64 0, .int .i64 0, .int .i64 0]) 3 24 Try.underlying22 hi hz0 hz1 hz2 rfl (by decide) _ 0 [] rfl (World.ownsRow_made w #[] 0 (Nat.le_refl _) (Nat.zero_le _) rfl) ad l.length cap (qcells l) rfl ?c0 HN.out (qcells_one l) ?c3 ?c4 ?c5 ?_)
    case c0 => rw [qcells_len]
    case c3 => unfold maxLen; omega
    case c4 => omega
    case c5 => simp
    intro v' w1 hown' hgrow _
    have R : OwnQ w.heap.size v' l w1 := hown'
    have B : Below w.heap.size w w1 := HB.out.grown hgrow (by simp) (fun j hj => by cases hj; exact Nat.le_refl _)
    have HR := Lib.hid (And.intro R B)
    clear R B hown' hgrow
    go_wp2
    go_ret
    exact ⟨_, rfl, HR.out.1, HR.out.2⟩

/-- Two places are exchanged. -/
def lsw (l : List Wt) (i j : Nat) : List Wt := (l.set i l.toArray[j]!).set j l.toArray[i]!
theorem lsw_len (l : List Wt) (i j : Nat) : (lsw l i j).length = l.length := by simp [lsw]
theorem lsw_swp (l : List Wt) (i j : Nat) : (lsw l i j).toArray = swp l.toArray i j := by
  unfold lsw swp
  simp
/-- Behind the exchange. -/
def SwapE (B g : Nat) (v : Value) (l : List Wt) (w : World) (e : Ending) (w' : World) : Prop := e = .returned (.tuple #[]) ∧ OwnQ B v l w' ∧ Below B w w' ∧ ∀ k, k ≠ g → k < w.heap.size → w'.heap[k]? = w.heap[k]?

set_option maxHeartbeats 2000000 in
set_option maxRecDepth 100000 in
theorem Swap_any {B g n cap : Nat} {l : List Wt} {w : World} (h : OwnQ B (.slice (some ⟨g, 0, none⟩) n cap) l w) (hn : n = l.length) {i j : Nat} (hi : i < l.length) (hj : j < l.length) : Calls Try.prog 73 #[.slice (some ⟨g, 0, none⟩) n cap, .int .i64 i, .int .i64 j] w (SwapE B g (.slice (some ⟨g, 0, none⟩) n cap) (lsw l i j) w) := by
  subst hn
  have H := Lib.hid h
  obtain ⟨g', cap', e, hBg, hgw, ⟨x0, x1, x2⟩, hfr⟩ := h.at hi
  obtain ⟨g'', cap'', e', _, _, ⟨y0, y1, y2⟩, _⟩ := h.at hj
  cases e
  cases e'
  have i0 : (0 : Int) ≤ (i : Int) := by omega
  have i1 : (i : Int) < (l.length : Int) := by omega
  have j0 : (0 : Int) ≤ (j : Int) := by omega
  have j1 : (j : Int) < (l.length : Int) := by omega
  have hay : l.toArray[j]! = l[j] := arr_get hj
  have hax : l.toArray[i]! = l[i] := arr_get hi
  obtain ⟨hs1, hs2⟩ := h.set rfl hi l[j]
  obtain ⟨hs3, hs4⟩ := hs1.set (by simp) (i := j) (by simpa using hj) l[i]
  obtain ⟨g3, cap3, e, _, _, ⟨z0, z1, z2⟩, hfz⟩ := hs1.at (i := j) (by simpa using hj)
  rw [List.length_set] at e
  cases e
  obtain ⟨q0, z0⟩ : ∃ q, (((w.setCell ⟨g, i * 3, none⟩ (.int .i64 l[j].c)).setCell ⟨g, i * 3 + 1, none⟩ (.int .i64 l[j].s)).setCell ⟨g, i * 3 + 2, none⟩ (.int .i64 l[j].o)).cell? ⟨g, j * 3, none⟩ = some q := ⟨_, z0⟩
  obtain ⟨q1, z1⟩ : ∃ q, (((w.setCell ⟨g, i * 3, none⟩ (.int .i64 l[j].c)).setCell ⟨g, i * 3 + 1, none⟩ (.int .i64 l[j].s)).setCell ⟨g, i * 3 + 2, none⟩ (.int .i64 l[j].o)).cell? ⟨g, j * 3 + 1, none⟩ = some q := ⟨_, z1⟩
  obtain ⟨q2, z2⟩ : ∃ q, (((w.setCell ⟨g, i * 3, none⟩ (.int .i64 l[j].c)).setCell ⟨g, i * 3 + 1, none⟩ (.int .i64 l[j].s)).setCell ⟨g, i * 3 + 2, none⟩ (.int .i64 l[j].o)).cell? ⟨g, j * 3 + 2, none⟩ = some q := ⟨_, z2⟩
  have HE : Hid (OwnQ B (.slice (some ⟨g, 0, none⟩) l.length cap) (lsw l i j) ((((((w.setCell ⟨g, i * 3, none⟩ (.int .i64 l[j].c)).setCell ⟨g, i * 3 + 1, none⟩ (.int .i64 l[j].s)).setCell ⟨g, i * 3 + 2, none⟩ (.int .i64 l[j].o)).setCell ⟨g, j * 3, none⟩ (.int .i64 l[i].c)).setCell ⟨g, j * 3 + 1, none⟩ (.int .i64 l[i].s)).setCell ⟨g, j * 3 + 2, none⟩ (.int .i64 l[i].o))) := Lib.hid (by unfold lsw; rw [hay, hax]; exact hs3)
  have HK := Lib.hid (fun k (hk : k ≠ g) => (hs4 k hk).trans (hs2 k hk))
  have HBE : Hid (Below B w ((((((w.setCell ⟨g, i * 3, none⟩ (.int .i64 l[j].c)).setCell ⟨g, i * 3 + 1, none⟩ (.int .i64 l[j].s)).setCell ⟨g, i * 3 + 2, none⟩ (.int .i64 l[j].o)).setCell ⟨g, j * 3, none⟩ (.int .i64 l[i].c)).setCell ⟨g, j * 3 + 1, none⟩ (.int .i64 l[i].s)).setCell ⟨g, j * 3 + 2, none⟩ (.int .i64 l[i].o))) :=
    Lib.hid (((((((Below.refl B w).setCell (p := ⟨g, i * 3, none⟩) hBg _).setCell (p := ⟨g, i * 3 + 1, none⟩) hBg _).setCell (p := ⟨g, i * 3 + 2, none⟩) hBg _).setCell (p := ⟨g, j * 3, none⟩) hBg _).setCell (p := ⟨g, j * 3 + 1, none⟩) hBg _).setCell (p := ⟨g, j * 3 + 2, none⟩) hBg _)
  clear h hs1 hs2 hs3 hs4 hay hax hfz
  go_enter Try.func73, Try.ntmps73
  go_region
  generalize hWf : World.setCell _ ⟨g, j * 3 + 2, none⟩ _ = Wf at HE HK HBE ⊢
  have HD : Hid (Wf.drew.heap = Wf.heap) := rfl
  clear hWf
  go_end0
  exact ⟨rfl, HE.out.below (dr _), HBE.out.drew, fun k hk _ => by rw [HD.out]; exact HK.out k hk⟩
end Go.Proofs.Ytdgenemgegpkdaa.Queue
