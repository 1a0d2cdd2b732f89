/-
  NetOnce: how its loops' heads stand (what is there, what was sent, how often each is left), and what each act makes of them.
-/
import Derived.Test.YtkfjhfneagjejaaNOwn
import Derived.Test.YtkfjhfneagjejaaUMap
namespace Go.Proofs.Ytkfjhfneagjejaa.Net
open Go.ChangeShapes Go.WideShapes Go.ChangeAt Go.RowKit Go.Shelf Go.Lib
open Go.Proofs.Ytkfjhfneagjejaa.Queue (Box al dr below_trans ret_bool BoolB)
open Go.Proofs.Ytkfjhfneagjejaa.Outbox (Kind MapN RangeN InI grown_below)

theorem zeroI (w : World) : (zeroValue 3).run Try.prog w = .ok (.int .i64 0) w := by kernel_rfl
/-- A block that is a map from numbers to numbers; an iterator over one. -/
abbrev MapI (W : World) (B n : Nat) (f : Int → Int) (h : Int → Bool) (m : Nat) : Prop := MapN (Kind.int Try.underlying3 zeroI) 3 W B n f h m
abbrev RangeI (W : World) (B r n : Nat) (f : Int → Int) (h left : Int → Bool) (cnt : Nat) : Prop := RangeN (Kind.int Try.underlying3 zeroI) 3 W B r n f h left cnt
theorem in_key {x : Int} (h : 1 ≤ x ∧ x ≤ 1099511627776) : InI x := by unfold InI; omega
theorem grownBy_set (W : World) (g j : Nat) (u : Value) : W.grownBy (W.setCell ⟨g, j, none⟩ u) (some g) :=
  ⟨rfl, rfl, rfl, by simp, fun k _ hk => heap_setCell_other W ⟨g, j, none⟩ k u (fun e => hk (by simp [e]))⟩
theorem map_two {e : TypeId} {α : Type} {K : Kind Try.prog e α} {k : TypeId} {W : World} {B n m g : Nat} {f : Int → α} {h : Int → Bool} (hm : MapN K k W B n f h m) (hne : g ≠ B) (u0 u1 : Value) : MapN K k ((W.setCell ⟨g, 0, none⟩ u0).setCell ⟨g, 1, none⟩ u1) B n f h m :=
  (hm.kept (row := some g) (grownBy_set W g 0 u0) (by simp; omega)).kept (row := some g) (grownBy_set _ g 1 u1) (by simp; omega)
theorem row_kept {v : Value} {l : List Pc} {w w' : World} (h : NRow w v l) {row : Option Nat} (hg : w.grownBy w' row) (hne : ∀ a n c, v = .slice (some a) n c → 0 < l.length → row ≠ some a.block) : NRow w' v l := by
  obtain ⟨a, cap, e, h1, h2, h3⟩ := h
  refine ⟨a, cap, e, h1, h2, fun h0 => ?_⟩
  obtain ⟨b, off, ea, hb, hc⟩ := h3 h0
  subst ea
  have hk := hg.block b hb (Ne.symm (hne _ _ _ e h0))
  refine ⟨b, off, rfl, Nat.lt_of_lt_of_le hb hg.size, fun j hj => ?_⟩
  obtain ⟨c0, c1, c2, c3, c4, c5⟩ := hc j hj
  exact ⟨(World.cell?_of_block (a := ⟨b, _, none⟩) hk).trans c0, (World.cell?_of_block (a := ⟨b, _, none⟩) hk).trans c1, (World.cell?_of_block (a := ⟨b, _, none⟩) hk).trans c2, (World.cell?_of_block (a := ⟨b, _, none⟩) hk).trans c3, (World.cell?_of_block (a := ⟨b, _, none⟩) hk).trans c4, (World.cell?_of_block (a := ⟨b, _, none⟩) hk).trans c5⟩
theorem own_kept {B : Nat} {v : Value} {l : List Pc} {w w' : World} (h : OwnN B v l w) {row : Option Nat} (hg : w.grownBy w' row) (hne : ∀ r, row = some r → v.ownBlock ≠ some r) : OwnN B v l w' := by
  unfold OwnN at h ⊢
  cases row with
  | none =>
    refine World.ownsRow.kept h hg ?_
    cases e : v.ownBlock with
    | none => exact .inl rfl
    | some g => exact .inr (by simp)
  | some r => exact World.ownsRow.kept h hg (.inr (hne r rfl))

/-- At the loops' heads: the net, what was sent, and the map of what is left. -/
structure Head (w : World) (l : List Pc) (t : Int) (sent : List Pc) (left : Int → Int) (h : Int → Bool) (m c : Nat) (v u : Value) (W : World) : Prop where
  once : Once l t sent left
  box : Box w.heap.size [v, .int .i64 t] W
  row : NRow W v l
  far : Far (w.heap.size + 2) v
  own : OwnN (w.heap.size + 2) u sent W
  sep : ∀ g, u.ownBlock = some g → 0 < l.length → ∀ a n k, v = .slice (some a) n k → a.block ≠ g
  map : MapI W (w.heap.size + 1) c left h m
  bel : Below w.heap.size w W
theorem Head.start (w W : World) (hW : (w.alloc (.cells #[.slice none 0 0, .int .i64 0] 24)).alloc (.map #[] 0) = W) : Head w [] 0 [] (fun _ => 0) (fun _ => false) 0 0 (.slice none 0 0) (.slice none 0 0) W := by
  subst hW
  have h1 := Box.made w [.slice none 0 0, .int .i64 0] 24
  have h2 := MapN.made (K := Kind.int Try.underlying3 zeroI) (k := 3) (w.alloc (.cells #[.slice none 0 0, .int .i64 0] 24))
  have a1 := al w (.cells #[.slice none 0 0, .int .i64 0] 24)
  have a2 := al (w.alloc (.cells #[.slice none 0 0, .int .i64 0] 24)) (.map #[] 0)
  simp only [World.size_alloc] at h2
  exact ⟨Once.start, h1.below a2, NRow.nil _, far_nil _ _ _, OwnN.nil _ _, fun g e => by simp [Value.ownBlock] at e, h2, below_trans a1 a2⟩
section
variable {w : World} {l l' : List Pc} {t t' : Int} {sent : List Pc} {left : Int → Int} {h : Int → Bool} {m c : Nat} {v u : Value} {W : World}
theorem Head.mono (hd : Head w l t sent left h m c v u W) {W' : World} (hb : Below W.heap.size W W') : Head w l t sent left h m c v u W' :=
  ⟨hd.once, hd.box.below hb, hd.row.below hb, hd.far, hd.own.below hb, hd.sep, hd.map.below hb, below_trans hd.bel hb⟩
theorem Head.look (hd : Head w l t sent left h m c v u W) {y : Int} (hy : InI y) : (Instr.lookup 41 (.map (some (w.heap.size + 1))) (.int .i64 y) false).run Try.prog W = .ok (.int .i64 (left y)) W :=
  hd.map.look Try.underlying3 Try.underlying41 hy
theorem Head.few (hd : Head w l t sent left h m c v u W) (y : Int) : 0 ≤ left y ∧ left y ≤ 64 := by
  have h1 := hd.once.right.1
  have h2 := cnt_le l y
  rw [hd.once.left]
  omega
/-- The net is stored, and what is left of one number: a world that has grown by a row's block before. -/
theorem Head.stored (hd : Head w l t sent left h m c v u W) {W2 W3 : World} {v' u' : Value} {sent' : List Pc} (hb : Below W.heap.size W W2) (hv : NRow W2 v' l') (hf : Far W.heap.size v') (ho : OwnN (w.heap.size + 2) u' sent' W3) (hg : W2.grownBy W3 u.ownBlock) (hl : ∀ g, u'.ownBlock = some g → u.ownBlock = some g ∨ g = W2.heap.size)
    {y q : Int} (hy : InI y) (hq : -9223372036854775808 ≤ q ∧ q ≤ 9223372036854775807) (hc : c < 1000000) (hon : Once l' t' sent' (fun z => if z = y then q else left z)) :
    (Instr.lookup 41 (.map (some (w.heap.size + 1))) (.int .i64 y) false).run Try.prog ((W3.setCell ⟨w.heap.size, 0, none⟩ v').setCell ⟨w.heap.size, 1, none⟩ (.int .i64 t')) = .ok (.int .i64 (left y)) ((W3.setCell ⟨w.heap.size, 0, none⟩ v').setCell ⟨w.heap.size, 1, none⟩ (.int .i64 t')) ∧
    ∃ W5, (Instr.mapUpdate 41 (.map (some (w.heap.size + 1))) (.int .i64 y) (.int .i64 q)).run Try.prog ((W3.setCell ⟨w.heap.size, 0, none⟩ v').setCell ⟨w.heap.size, 1, none⟩ (.int .i64 t')) = .ok () W5 ∧
      ∃ h' m', Head w l' t' sent' (fun z => if z = y then q else left z) h' m' (c + 1) v' u' W5 := by
  have hml := hd.map.lt
  have hw := hd.bel.size
  have hb2 := hb.size
  have hown : ∀ g, u.ownBlock = some g → w.heap.size + 2 ≤ g ∧ g < W.heap.size := fun g e => World.ownsRow.lt hd.own g e
  have hrow : ∀ g, u.ownBlock = some g → g ≠ w.heap.size ∧ g ≠ w.heap.size + 1 := fun g e => by have := hown g e; omega
  have box3 : Box w.heap.size [v, .int .i64 t] W3 := Box.keptN (hd.box.below hb) hg (fun e => (hrow _ e).1 rfl)
  have map3 : MapI W3 (w.heap.size + 1) c left h m := (hd.map.below hb).kept hg (fun e => (hrow _ e.symm).2 rfl)
  have row3 : NRow W3 v' l' := row_kept hv hg (fun a n k e _ e2 => by have := hown _ e2; have := hf a n k e; omega)
  have hgsz := hg.size
  have bel3 : Below w.heap.size w W3 := (below_trans hd.bel hb).grown hg (by omega) (fun j hj => by have := hown j hj; omega)
  have fr : Far (w.heap.size + 2) v' := hf.mono (by omega)
  have box4 : Box w.heap.size [v', .int .i64 t'] ((W3.setCell ⟨w.heap.size, 0, none⟩ v').setCell ⟨w.heap.size, 1, none⟩ (.int .i64 t')) := box_put (box_put box3 0 v' (by simp)) 1 (.int .i64 t') (by simp)
  have map4 : MapI ((W3.setCell ⟨w.heap.size, 0, none⟩ v').setCell ⟨w.heap.size, 1, none⟩ (.int .i64 t')) (w.heap.size + 1) c left h m := map_two map3 (by omega) _ _
  have row4 := NRow.far_two (g := w.heap.size) v' (.int .i64 t') row3 fr (by omega)
  have hu4 : ∀ g, g = w.heap.size → SepB g u' := fun g e e2 => by
    have := (World.ownsRow.lt ho g e2).1
    omega
  have own4 := (ho.sep_set (j := 0) (u := v') (hu4 _ rfl)).sep_set (j := 1) (u := .int .i64 t') (hu4 _ rfl)
  have bel4 := below_two (b := w.heap.size) v' (.int .i64 t') bel3 (Nat.le_refl _)
  refine ⟨map4.look Try.underlying3 Try.underlying41 hy, ?_⟩
  obtain ⟨W5, p1, map5, hg5, hz5⟩ := map4.put Try.underlying3 Try.underlying41 hc hy (v := q) hq
  refine ⟨W5, p1, _, _, ⟨hon, Box.keptN box4 hg5 (by simp), row_kept row4 hg5 (fun a n k e _ e2 => ?_), fr, own_kept own4 hg5 (fun r e e2 => ?_), fun g e h0 a n k e2 => ?_, map5, bel4.grown hg5 bel4.size (fun j hj => by cases hj; omega)⟩⟩
  · have := fr a n k e
    have := Option.some.inj e2
    omega
  · have := (World.ownsRow.lt own4 r e2).1
    have := Option.some.inj e
    omega
  · have h1 := hf a n k e2
    have h2 : a.block < W2.heap.size := by
      obtain ⟨a', cap, e3, _, _, h3⟩ := hv
      obtain ⟨b, off, e4, hb3, _⟩ := h3 h0
      rw [e2] at e3
      cases e3
      cases e4
      exact hb3
    rcases hl g e with h3 | h3
    · have := hown g h3
      omega
    · omega
/-- The net alone is stored. -/
theorem Head.turned (hd : Head w l t sent left h m c v u W) {W2 : World} {v' : Value} (hb : Below W.heap.size W W2) (hv : NRow W2 v' l') (hf : Far W.heap.size v') (hon : Once l' t' sent left) :
    Head w l' t' sent left h m c v' u ((W2.setCell ⟨w.heap.size, 0, none⟩ v').setCell ⟨w.heap.size, 1, none⟩ (.int .i64 t')) := by
  have hml := hd.map.lt
  have hw := hd.bel.size
  have hown : ∀ g, u.ownBlock = some g → w.heap.size + 2 ≤ g ∧ g < W.heap.size := fun g e => World.ownsRow.lt hd.own g e
  have fr : Far (w.heap.size + 2) v' := hf.mono (by omega)
  have hu4 : ∀ g, g = w.heap.size → SepB g u := fun g e e2 => by
    have := hown g e2
    omega
  refine ⟨hon, box_put (box_put (hd.box.below hb) 0 v' (by simp)) 1 (.int .i64 t') (by simp), NRow.far_two (g := w.heap.size) v' (.int .i64 t') hv fr (by omega), fr, ((hd.own.below hb).sep_set (j := 0) (u := v') (hu4 _ rfl)).sep_set (j := 1) (u := .int .i64 t') (hu4 _ rfl), fun g e _ a n k e2 => ?_, map_two (hd.map.below hb) (by omega) _ _, below_two (b := w.heap.size) v' (.int .i64 t') (below_trans hd.bel hb) (Nat.le_refl _)⟩
  have h1 := hf a n k e2
  have h2 := hown g e
  omega
/-- One of a number is left less, while the net is gone through. -/
theorem Head.less (hd : MapI W (w.heap.size + 1) c left h m) (hc : c < 1000000) {y q : Int} (hy : InI y) (hq : -9223372036854775808 ≤ q ∧ q ≤ 9223372036854775807) :
    ∃ W5, (Instr.mapUpdate 41 (.map (some (w.heap.size + 1))) (.int .i64 y) (.int .i64 q)).run Try.prog W = .ok () W5 ∧ (∃ h' m', MapI W5 (w.heap.size + 1) (c + 1) (fun z => if z = y then q else left z) h' m') ∧ W.grownBy W5 (some (w.heap.size + 1)) ∧ W5.heap.size = W.heap.size := by
  obtain ⟨W5, p1, map5, hg5, hz5⟩ := hd.put Try.underlying3 Try.underlying41 hc hy (v := q) hq
  exact ⟨W5, p1, ⟨_, _, map5⟩, hg5, hz5⟩
end
end Go.Proofs.Ytkfjhfneagjejaa.Net
