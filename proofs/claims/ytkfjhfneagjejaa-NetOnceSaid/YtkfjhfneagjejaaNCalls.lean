/-
  Contracts of package net's Post, Take, Twice and Last.
-/
import Derived.Test.YtkfjhfneagjejaaNCut
namespace Go.Proofs.Ytkfjhfneagjejaa.Net
open Go.ChangeShapes Go.WideShapes Go.ChangeAt Go.RowKit Go.Shelf Go.Lib
open Go.Proofs.Ytkfjhfneagjejaa.Queue (Box al dr below_trans ret_bool BoolB)

/-- A cell of another block is turned. -/
theorem box_set_other {b g j : Nat} {vs : List Value} {w : World} (h : Box b vs w) (hne : g ≠ b) (x : Value) : Box b vs (w.setCell ⟨g, j, none⟩ x) := by
  refine ⟨by simpa using h.1, fun i v hi => ?_⟩
  obtain ⟨h1, h2⟩ := h.2 i v hi
  constructor
  · simp [go_sem, h1]
  · simp [go_sem, h2]
theorem box_put {b : Nat} {vs : List Value} {w : World} (h : Box b vs w) (j : Nat) (x : Value) (hj : j < vs.length) : Box b (vs.set j x) (w.setCell ⟨b, j, none⟩ x) := by
  refine ⟨by simpa using h.1, fun i v hi => ?_⟩
  by_cases e : i = j
  · subst e
    rw [List.getElem?_set_self hj] at hi
    cases hi
    obtain ⟨h1, h2⟩ := h.2 i vs[i] (List.getElem?_eq_getElem hj)
    constructor
    · simp [go_sem, h1]
    · simp [go_sem, h2]
  · rw [List.getElem?_set_ne (Ne.symm e)] at hi
    obtain ⟨h1, h2⟩ := h.2 i v hi
    constructor
    · simp [go_sem, h1]
    · simp [go_sem, h2]
theorem NRow.far {v : Value} {l : List Pc} {w : World} {g : Nat} {u : Value} {j : Nat} (h : NRow w v l) (hne : ∀ a n c, v = .slice (some a) n c → 0 < l.length → a.block ≠ g) : NRow (w.setCell ⟨g, j, none⟩ u) v l := by
  obtain ⟨a, cap, e, h1, h2, h3⟩ := h
  refine ⟨a, cap, e, h1, h2, fun h0 => ?_⟩
  obtain ⟨b, off, ea, hbl, hc⟩ := h3 h0
  subst ea
  have hn : g ≠ b := fun c => hne _ _ _ e h0 c.symm
  refine ⟨b, off, rfl, by simpa using hbl, fun i hi => ?_⟩
  obtain ⟨c0, c1, c2, c3, c4, c5⟩ := hc i hi
  refine ⟨?_, ?_, ?_, ?_, ?_, ?_⟩ <;> simp [go_sem, *]
theorem below_set {w W : World} {b j : Nat} (u : Value) (h : Below w.heap.size w W) (hb : w.heap.size ≤ b) : Below w.heap.size w (W.setCell ⟨b, j, none⟩ u) := h.grown (row := some b) ⟨rfl, rfl, rfl, by simp, fun k _ hk => heap_setCell_other W ⟨b, j, none⟩ k u (fun e => hk (by simp [e]))⟩ h.size (fun k hk => by cases hk; exact hb)
theorem below_two {w W : World} {b : Nat} (u0 u1 : Value) (h : Below w.heap.size w W) (hb : w.heap.size ≤ b) : Below w.heap.size w ((W.setCell ⟨b, 0, none⟩ u0).setCell ⟨b, 1, none⟩ u1) := below_set _ (below_set _ h hb) hb
theorem below_six {w W : World} {b : Nat} (u0 u1 u2 u3 u4 u5 : Value) (h : Below w.heap.size w W) (hb : w.heap.size ≤ b) : Below w.heap.size w ((((((W.setCell ⟨b, 0, none⟩ u0).setCell ⟨b, 1, none⟩ u1).setCell ⟨b, 2, none⟩ u2).setCell ⟨b, 3, none⟩ u3).setCell ⟨b, 4, none⟩ u4).setCell ⟨b, 5, none⟩ u5) := below_set _ (below_set _ (below_set _ (below_set _ (below_set _ (below_set _ h hb) hb) hb) hb) hb) hb
theorem three_boxes (w : World) (us vs xs : List Value) (T T' T'' : TypeId) (W : World) (hW : ((w.alloc (.cells us.toArray T)).alloc (.cells vs.toArray T')).alloc (.cells xs.toArray T'') = W) :
    Box w.heap.size us W ∧ Box (w.heap.size + 1) vs W ∧ Box (w.heap.size + 2) xs W ∧ Below w.heap.size w W := by
  subst hW
  obtain ⟨h0, h1⟩ := two_boxes w us vs T T'
  have hb := al ((w.alloc (.cells us.toArray T)).alloc (.cells vs.toArray T')) (.cells xs.toArray T'')
  have h2 := Box.made ((w.alloc (.cells us.toArray T)).alloc (.cells vs.toArray T')) xs T''
  simp only [World.size_alloc] at h2
  exact ⟨h0.below hb, h1.below hb, h2, below_trans (two_al w _ _) hb⟩
theorem two_boxes_at (w : World) (us vs : List Value) (T T' : TypeId) (W : World) (hW : (w.alloc (.cells us.toArray T)).alloc (.cells vs.toArray T') = W) : Box w.heap.size us W ∧ Box (w.heap.size + 1) vs W ∧ Below w.heap.size w W := by
  subst hW
  obtain ⟨h0, h1⟩ := two_boxes w us vs T T'
  exact ⟨h0, h1, two_al w _ _⟩
theorem NRow.far_two {v : Value} {l : List Pc} {w : World} {B g : Nat} (u0 u1 : Value) (h : NRow w v l) (hf : Far B v) (hg : g < B) : NRow ((w.setCell ⟨g, 0, none⟩ u0).setCell ⟨g, 1, none⟩ u1) v l := by
  have hne : ∀ a n c, v = .slice (some a) n c → 0 < l.length → a.block ≠ g := fun a n c e _ => by have := hf a n c e; omega
  exact (h.far hne).far hne
theorem NRow.far_six {v : Value} {l : List Pc} {w : World} {B g : Nat} (u0 u1 u2 u3 u4 u5 : Value) (h : NRow w v l) (hf : Far B v) (hg : g < B) : NRow ((((((w.setCell ⟨g, 0, none⟩ u0).setCell ⟨g, 1, none⟩ u1).setCell ⟨g, 2, none⟩ u2).setCell ⟨g, 3, none⟩ u3).setCell ⟨g, 4, none⟩ u4).setCell ⟨g, 5, none⟩ u5) v l := by
  have hne : ∀ a n c, v = .slice (some a) n c → 0 < l.length → a.block ≠ g := fun a n c e _ => by have := hf a n c e; omega
  exact (((((h.far hne).far hne).far hne).far hne).far hne).far hne
theorem six_one {w : World} {g o : Nat} {x : Pc} (h : NRow w (.slice (some ⟨g, o, none⟩) 1 1) [x]) : w.cell? ⟨g, o, none⟩ = some (.int .i64 x.n) ∧ w.cell? ⟨g, o + 1, none⟩ = some (.bool x.b) ∧ w.cell? ⟨g, o + 2, none⟩ = some (.int .i64 x.y) ∧ w.cell? ⟨g, o + 3, none⟩ = some (.int .i64 x.k) ∧ w.cell? ⟨g, o + 4, none⟩ = some (.int .i64 x.o) ∧ w.cell? ⟨g, o + 5, none⟩ = some (.bool x.s) := by
  obtain ⟨b, off, e, _, _, _, hs⟩ := NRow.at (l := [x]) h (q := 0) (by simp)
  cases e
  simpa [Six] using hs
theorem six_lt {w : World} {g o : Nat} {x : Pc} (h : NRow w (.slice (some ⟨g, o, none⟩) 1 1) [x]) : g < w.heap.size := by
  obtain ⟨b, off, e, _, _, hb, _⟩ := NRow.at (l := [x]) h (q := 0) (by simp)
  cases e
  exact hb
theorem take_one {l : List Pc} {k : Nat} (hk : k < l.length) : l.take k ++ [l[k]] ++ l.drop (k + 1) = l := by
  rw [List.append_assoc, List.singleton_append, ← List.drop_eq_getElem_cons hk, List.take_append_drop]
theorem Far.mono {B B' : Nat} {v : Value} (h : Far B v) (hb : B' ≤ B) : Far B' v := fun a n c e => Nat.le_trans hb (h a n c e)
theorem far_nil (B n c : Nat) : Far B (.slice none n c) := fun a n' c' e => by cases e
/-- A net, a parcel, and an error are returned; a net, and an error; a net, a number, and an error. -/
def TakeE (l : List Pc) (t : Int) (x : Pc) (z : Int) (w : World) (e : Ending) (w' : World) : Prop := ∃ v, e = .returned (.tuple #[tv v t, nv x, .int .i64 z]) ∧ NRow w' v l ∧ Far w.heap.size v ∧ Below w.heap.size w w'
def NetE (l : List Pc) (t z : Int) (w : World) (e : Ending) (w' : World) : Prop := ∃ v, e = .returned (.tuple #[tv v t, .int .i64 z]) ∧ NRow w' v l ∧ Far w.heap.size v ∧ Below w.heap.size w w'
def PostE (l : List Pc) (t z : Int) (w : World) (e : Ending) (w' : World) : Prop := ∃ v, e = .returned (.tuple #[tv v t, .int .i64 t, .int .i64 z]) ∧ NRow w' v l ∧ Far w.heap.size v ∧ Below w.heap.size w w'

set_option maxRecDepth 100000 in
set_option maxHeartbeats 8000000 in
theorem Take_bad {v : Value} {l : List Pc} {w : World} (t i : Int) (h : NRow w v l) (hr : rightB l t = false) : Calls Try.prog 8 #[tv v t, .int .i64 i] w (TakeE [] 0 noP 1 w) := by
  obtain ⟨a, cap, rfl⟩ := h.slice
  have H := Lib.hid h
  obtain ⟨W0, hW0⟩ : ∃ W, (((w.alloc (.cells #[.slice a l.length cap, .int .i64 t] 24)).alloc (.cells #[.slice none 0 0, .int .i64 0] 24)).alloc (.cells #[.int .i64 0, .bool false, .int .i64 0, .int .i64 0, .int .i64 0, .bool false] 26)) = W := ⟨_, rfl⟩
  obtain ⟨hx0, hx1, hx2, hb0⟩ := three_boxes w (tcs (.slice a l.length cap) t) (tcs (.slice none 0 0) 0) (ncs noP) _ _ _ W0 hW0
  have HP0 := Lib.hid hx2
  have HX0 := Lib.hid hx0
  have HR0 := Lib.hid hx1
  have HB0 := Lib.hid hb0
  have hc := cut_bad t i (h.below hb0) hr
  unfold tv at hc ⊢
  have HC := Lib.hid hc
  clear h hx0 hx1 hx2 hb0 hc hr
  go_enter Try.func8, Try.ntmps8
  go_upto_region 1 with (fail)
  clear hW0
  obtain ⟨c0, c1⟩ := box2 HX0.out
  have hs0 := HX0.out.1
  go_wp2_with fail
  (with_reducible refine HC.out.mono ?_)
  rintro e w1 ⟨rfl, hz⟩
  have HX1 := Lib.hid (HX0.out.below hz)
  have HR1 := Lib.hid (HR0.out.below hz)
  have HP1 := Lib.hid (HP0.out.below hz)
  have HB1 := Lib.hid (below_trans HB0.out hz)
  clear hz c0 c1 hs0 HC
  obtain ⟨y0, y1⟩ := box2 HR1.out
  obtain ⟨z0, z1⟩ := frz2 HR1.out
  have hsz := HR1.out.1
  obtain ⟨x0, x1, x2, x3, x4, x5⟩ := box6 HP1.out
  obtain ⟨u0, u1, u2, u3, u4, u5⟩ := frz6 HP1.out
  have hsz2 := HP1.out.1
  have HE := Lib.hid (below_six (b := w.heap.size + 2) (.int .i64 0) (.bool false) (.int .i64 0) (.int .i64 0) (.int .i64 0) (.bool false) (below_two (b := w.heap.size + 1) (.slice none 0 0) (.int .i64 0) HB1.out (by omega)) (by omega))
  go_wp2_with fail
  exact bodyPost_ret (by simp [results, Try.results8, go_sem, tv, nv, noP, y0, y1, x0, x1, x2, x3, x4, x5]) rfl ⟨_, rfl, NRow.nil _, far_nil _ _ _, HE.out⟩
set_option maxRecDepth 100000 in
set_option maxHeartbeats 8000000 in
theorem Take_none {v : Value} {l : List Pc} {w : World} (t i : Int) (h : NRow w v l) (hr : rightB l t = true) (hi : ¬ (0 ≤ i ∧ i < l.length)) : Calls Try.prog 8 #[tv v t, .int .i64 i] w (TakeE [] 0 noP 8 w) := by
  obtain ⟨a, cap, rfl⟩ := h.slice
  have H := Lib.hid h
  obtain ⟨W0, hW0⟩ : ∃ W, (((w.alloc (.cells #[.slice a l.length cap, .int .i64 t] 24)).alloc (.cells #[.slice none 0 0, .int .i64 0] 24)).alloc (.cells #[.int .i64 0, .bool false, .int .i64 0, .int .i64 0, .int .i64 0, .bool false] 26)) = W := ⟨_, rfl⟩
  obtain ⟨hx0, hx1, hx2, hb0⟩ := three_boxes w (tcs (.slice a l.length cap) t) (tcs (.slice none 0 0) 0) (ncs noP) _ _ _ W0 hW0
  have HP0 := Lib.hid hx2
  have HX0 := Lib.hid hx0
  have HR0 := Lib.hid hx1
  have HB0 := Lib.hid hb0
  have hc := cut_none t i (h.below hb0) hr hi
  unfold tv at hc ⊢
  have HC := Lib.hid hc
  clear h hx0 hx1 hx2 hb0 hc hr hi
  go_enter Try.func8, Try.ntmps8
  go_upto_region 1 with (fail)
  clear hW0
  obtain ⟨c0, c1⟩ := box2 HX0.out
  have hs0 := HX0.out.1
  go_wp2_with fail
  (with_reducible refine HC.out.mono ?_)
  rintro e w1 ⟨rfl, hz⟩
  have HX1 := Lib.hid (HX0.out.below hz)
  have HR1 := Lib.hid (HR0.out.below hz)
  have HP1 := Lib.hid (HP0.out.below hz)
  have HB1 := Lib.hid (below_trans HB0.out hz)
  clear hz c0 c1 hs0 HC
  obtain ⟨y0, y1⟩ := box2 HR1.out
  obtain ⟨z0, z1⟩ := frz2 HR1.out
  have hsz := HR1.out.1
  obtain ⟨x0, x1, x2, x3, x4, x5⟩ := box6 HP1.out
  obtain ⟨u0, u1, u2, u3, u4, u5⟩ := frz6 HP1.out
  have hsz2 := HP1.out.1
  have HE := Lib.hid (below_six (b := w.heap.size + 2) (.int .i64 0) (.bool false) (.int .i64 0) (.int .i64 0) (.int .i64 0) (.bool false) (below_two (b := w.heap.size + 1) (.slice none 0 0) (.int .i64 0) HB1.out (by omega)) (by omega))
  go_wp2_with fail
  exact bodyPost_ret (by simp [results, Try.results8, go_sem, tv, nv, noP, y0, y1, x0, x1, x2, x3, x4, x5]) rfl ⟨_, rfl, NRow.nil _, far_nil _ _ _, HE.out⟩
set_option maxRecDepth 100000 in
set_option maxHeartbeats 8000000 in
theorem Twice_bad {v : Value} {l : List Pc} {w : World} (t i : Int) (h : NRow w v l) (hr : rightB l t = false) : Calls Try.prog 9 #[tv v t, .int .i64 i] w (NetE [] 0 1 w) := by
  obtain ⟨a, cap, rfl⟩ := h.slice
  have H := Lib.hid h
  obtain ⟨W0, hW0⟩ : ∃ W, ((w.alloc (.cells #[.slice a l.length cap, .int .i64 t] 24)).alloc (.cells #[.slice none 0 0, .int .i64 0] 24)) = W := ⟨_, rfl⟩
  obtain ⟨hx0, hx1, hb0⟩ := two_boxes_at w (tcs (.slice a l.length cap) t) (tcs (.slice none 0 0) 0) _ _ W0 hW0
  have HX0 := Lib.hid hx0
  have HR0 := Lib.hid hx1
  have HB0 := Lib.hid hb0
  have hc := cut_bad t i (h.below hb0) hr
  unfold tv at hc ⊢
  have HC := Lib.hid hc
  clear h hx0 hx1 hb0 hc hr
  go_enter Try.func9, Try.ntmps9
  go_upto_region 1 with (fail)
  clear hW0
  obtain ⟨c0, c1⟩ := box2 HX0.out
  have hs0 := HX0.out.1
  go_wp2_with fail
  (with_reducible refine HC.out.mono ?_)
  rintro e w1 ⟨rfl, hz⟩
  have HX1 := Lib.hid (HX0.out.below hz)
  have HR1 := Lib.hid (HR0.out.below hz)
  have HB1 := Lib.hid (below_trans HB0.out hz)
  clear hz c0 c1 hs0 HC
  obtain ⟨y0, y1⟩ := box2 HR1.out
  obtain ⟨z0, z1⟩ := frz2 HR1.out
  have hsz := HR1.out.1
  have HE := Lib.hid (below_two (b := w.heap.size + 1) (.slice none 0 0) (.int .i64 0) HB1.out (by omega))
  go_wp2_with fail
  exact bodyPost_ret (by simp [results, Try.results9, go_sem, tv, y0, y1]) rfl ⟨_, rfl, NRow.nil _, far_nil _ _ _, HE.out⟩
set_option maxRecDepth 100000 in
set_option maxHeartbeats 8000000 in
theorem Twice_none {v : Value} {l : List Pc} {w : World} (t i : Int) (h : NRow w v l) (hr : rightB l t = true) (hi : ¬ (0 ≤ i ∧ i < l.length)) : Calls Try.prog 9 #[tv v t, .int .i64 i] w (NetE [] 0 8 w) := by
  obtain ⟨a, cap, rfl⟩ := h.slice
  have H := Lib.hid h
  obtain ⟨W0, hW0⟩ : ∃ W, ((w.alloc (.cells #[.slice a l.length cap, .int .i64 t] 24)).alloc (.cells #[.slice none 0 0, .int .i64 0] 24)) = W := ⟨_, rfl⟩
  obtain ⟨hx0, hx1, hb0⟩ := two_boxes_at w (tcs (.slice a l.length cap) t) (tcs (.slice none 0 0) 0) _ _ W0 hW0
  have HX0 := Lib.hid hx0
  have HR0 := Lib.hid hx1
  have HB0 := Lib.hid hb0
  have hc := cut_none t i (h.below hb0) hr hi
  unfold tv at hc ⊢
  have HC := Lib.hid hc
  clear h hx0 hx1 hb0 hc hr hi
  go_enter Try.func9, Try.ntmps9
  go_upto_region 1 with (fail)
  clear hW0
  obtain ⟨c0, c1⟩ := box2 HX0.out
  have hs0 := HX0.out.1
  go_wp2_with fail
  (with_reducible refine HC.out.mono ?_)
  rintro e w1 ⟨rfl, hz⟩
  have HX1 := Lib.hid (HX0.out.below hz)
  have HR1 := Lib.hid (HR0.out.below hz)
  have HB1 := Lib.hid (below_trans HB0.out hz)
  clear hz c0 c1 hs0 HC
  obtain ⟨y0, y1⟩ := box2 HR1.out
  obtain ⟨z0, z1⟩ := frz2 HR1.out
  have hsz := HR1.out.1
  have HE := Lib.hid (below_two (b := w.heap.size + 1) (.slice none 0 0) (.int .i64 0) HB1.out (by omega))
  go_wp2_with fail
  exact bodyPost_ret (by simp [results, Try.results9, go_sem, tv, y0, y1]) rfl ⟨_, rfl, NRow.nil _, far_nil _ _ _, HE.out⟩
set_option maxRecDepth 100000 in
set_option maxHeartbeats 8000000 in
theorem Last_bad {v : Value} {l : List Pc} {w : World} (t i : Int) (h : NRow w v l) (hr : rightB l t = false) : Calls Try.prog 10 #[tv v t, .int .i64 i] w (NetE [] 0 1 w) := by
  obtain ⟨a, cap, rfl⟩ := h.slice
  have H := Lib.hid h
  obtain ⟨W0, hW0⟩ : ∃ W, ((w.alloc (.cells #[.slice a l.length cap, .int .i64 t] 24)).alloc (.cells #[.slice none 0 0, .int .i64 0] 24)) = W := ⟨_, rfl⟩
  obtain ⟨hx0, hx1, hb0⟩ := two_boxes_at w (tcs (.slice a l.length cap) t) (tcs (.slice none 0 0) 0) _ _ W0 hW0
  have HX0 := Lib.hid hx0
  have HR0 := Lib.hid hx1
  have HB0 := Lib.hid hb0
  have hc := cut_bad t i (h.below hb0) hr
  unfold tv at hc ⊢
  have HC := Lib.hid hc
  clear h hx0 hx1 hb0 hc hr
  go_enter Try.func10, Try.ntmps10
  go_upto_region 1 with (fail)
  clear hW0
  obtain ⟨c0, c1⟩ := box2 HX0.out
  have hs0 := HX0.out.1
  go_wp2_with fail
  (with_reducible refine HC.out.mono ?_)
  rintro e w1 ⟨rfl, hz⟩
  have HX1 := Lib.hid (HX0.out.below hz)
  have HR1 := Lib.hid (HR0.out.below hz)
  have HB1 := Lib.hid (below_trans HB0.out hz)
  clear hz c0 c1 hs0 HC
  obtain ⟨y0, y1⟩ := box2 HR1.out
  obtain ⟨z0, z1⟩ := frz2 HR1.out
  have hsz := HR1.out.1
  have HE := Lib.hid (below_two (b := w.heap.size + 1) (.slice none 0 0) (.int .i64 0) HB1.out (by omega))
  go_wp2_with fail
  exact bodyPost_ret (by simp [results, Try.results10, go_sem, tv, y0, y1]) rfl ⟨_, rfl, NRow.nil _, far_nil _ _ _, HE.out⟩
set_option maxRecDepth 100000 in
set_option maxHeartbeats 8000000 in
theorem Last_none {v : Value} {l : List Pc} {w : World} (t i : Int) (h : NRow w v l) (hr : rightB l t = true) (hi : ¬ (0 ≤ i ∧ i < l.length)) : Calls Try.prog 10 #[tv v t, .int .i64 i] w (NetE [] 0 8 w) := by
  obtain ⟨a, cap, rfl⟩ := h.slice
  have H := Lib.hid h
  obtain ⟨W0, hW0⟩ : ∃ W, ((w.alloc (.cells #[.slice a l.length cap, .int .i64 t] 24)).alloc (.cells #[.slice none 0 0, .int .i64 0] 24)) = W := ⟨_, rfl⟩
  obtain ⟨hx0, hx1, hb0⟩ := two_boxes_at w (tcs (.slice a l.length cap) t) (tcs (.slice none 0 0) 0) _ _ W0 hW0
  have HX0 := Lib.hid hx0
  have HR0 := Lib.hid hx1
  have HB0 := Lib.hid hb0
  have hc := cut_none t i (h.below hb0) hr hi
  unfold tv at hc ⊢
  have HC := Lib.hid hc
  clear h hx0 hx1 hb0 hc hr hi
  go_enter Try.func10, Try.ntmps10
  go_upto_region 1 with (fail)
  clear hW0
  obtain ⟨c0, c1⟩ := box2 HX0.out
  have hs0 := HX0.out.1
  go_wp2_with fail
  (with_reducible refine HC.out.mono ?_)
  rintro e w1 ⟨rfl, hz⟩
  have HX1 := Lib.hid (HX0.out.below hz)
  have HR1 := Lib.hid (HR0.out.below hz)
  have HB1 := Lib.hid (below_trans HB0.out hz)
  clear hz c0 c1 hs0 HC
  obtain ⟨y0, y1⟩ := box2 HR1.out
  obtain ⟨z0, z1⟩ := frz2 HR1.out
  have hsz := HR1.out.1
  have HE := Lib.hid (below_two (b := w.heap.size + 1) (.slice none 0 0) (.int .i64 0) HB1.out (by omega))
  go_wp2_with fail
  exact bodyPost_ret (by simp [results, Try.results10, go_sem, tv, y0, y1]) rfl ⟨_, rfl, NRow.nil _, far_nil _ _ _, HE.out⟩
set_option maxRecDepth 100000 in
set_option maxHeartbeats 8000000 in
theorem Take_yes {v : Value} {l : List Pc} {w : World} (t : Int) {k : Nat} (h : NRow w v l) (hr : rightB l t = true) (hk : k < l.length) : Calls Try.prog 8 #[tv v t, .int .i64 k] w (TakeE (rest l k) t l[k] 0 w) := by
  obtain ⟨a, cap, rfl⟩ := h.slice
  have H := Lib.hid h
  obtain ⟨W0, hW0⟩ : ∃ W, (((w.alloc (.cells #[.slice a l.length cap, .int .i64 t] 24)).alloc (.cells #[.slice none 0 0, .int .i64 0] 24)).alloc (.cells #[.int .i64 0, .bool false, .int .i64 0, .int .i64 0, .int .i64 0, .bool false] 26)) = W := ⟨_, rfl⟩
  obtain ⟨hx0, hx1, hx2, hb0⟩ := three_boxes w (tcs (.slice a l.length cap) t) (tcs (.slice none 0 0) 0) (ncs noP) _ _ _ W0 hW0
  have HP0 := Lib.hid hx2
  have HX0 := Lib.hid hx0
  have HR0 := Lib.hid hx1
  have HB0 := Lib.hid hb0
  have hln := (rightB_t.1 hr).1
  have hc := cut_yes t (h.below hb0) hr hk
  unfold tv at hc ⊢
  have HC := Lib.hid hc
  clear h hx0 hx1 hx2 hb0 hc hr
  go_enter Try.func8, Try.ntmps8
  go_upto_region 1 with (fail)
  clear hW0
  obtain ⟨c0, c1⟩ := box2 HX0.out
  have hs0 := HX0.out.1
  go_wp2_with fail
  (with_reducible refine HC.out.mono ?_)
  rintro e w1 ⟨g, oa, oi, ob, n, rfl, ha, hi, hb, hg, hz⟩
  have hgl : w.heap.size + 3 ≤ g := Nat.le_trans (by have := HP0.out.1; omega) hg
  have HX1 := Lib.hid (HX0.out.below hz)
  have HR1 := Lib.hid (HR0.out.below hz)
  have HP1 := Lib.hid (HP0.out.below hz)
  have HB1 := Lib.hid (below_trans HB0.out hz)
  clear hz c0 c1 hs0 HC
  have HA := Lib.hid ha
  have HI := Lib.hid hi
  have HN := Lib.hid hb
  clear ha hi hb hg
  go_upto_region 4 with (fail)
  have hgo : ∀ W', Below w1.heap.size w1 W' → Box w.heap.size (tcs (.slice a l.length cap) t) W' ∧ NRow W' (.slice (some ⟨g, oi, none⟩) 1 1) [l[k]] := fun W' hW => ⟨HX1.out.below hW, HI.out.below hW⟩
  refine wp_region_noPanic ?_
  refine till_region (fun W' => Box w.heap.size (tcs (.slice a l.length cap) t) W' ∧ NRow W' (.slice (some ⟨g, oi, none⟩) 1 1) [l[k]]) (fun j => decide (11 ≤ j)) (by kernel_rfl) ?_
  have HWD := Lib.hid (dr w1)
  generalize w1.drew = WD at HWD ⊢
  have hS := hgo _ HWD.out
  try simp only [Act.put, List.setIfInBounds_toArray, List.set_cons_zero, List.set_cons_succ]
  refine takeT 0 24 [11, 12] (.slice (some ⟨g, oa, none⟩) k k) calm_np rfl rfl (by kernel_rfl) (by rfl) (by kernel_rfl) (by kernel_rfl) (by kernel_rfl) (by kernel_rfl) (by rfl) (fun w' hSw => by go_simp) hS ?_
  try simp only [Act.put, List.setIfInBounds_toArray, List.set_cons_zero, List.set_cons_succ]
  refine takeT 1 25 [11, 12] (.slice (some ⟨g, ob, none⟩) n n) calm_np rfl rfl (by kernel_rfl) (by rfl) (by kernel_rfl) (by kernel_rfl) (by kernel_rfl) (by kernel_rfl) (by rfl) (fun w' hSw => by go_simp) hS ?_
  try simp only [Act.put, List.setIfInBounds_toArray, List.set_cons_zero, List.set_cons_succ]
  refine takeT 4 28 [11, 12] (.pointer (some ⟨w.heap.size, 1, none⟩)) calm_np rfl rfl (by kernel_rfl) (by rfl) (by kernel_rfl) (by kernel_rfl) (by kernel_rfl) (by kernel_rfl) (by rfl) (fun w' hSw => by go_simp) hS ?_
  try simp only [Act.put, List.setIfInBounds_toArray, List.set_cons_zero, List.set_cons_succ]
  refine takeT 5 29 [11, 12] (.int .i64 t) calm_np rfl rfl (by kernel_rfl) (by rfl) (by kernel_rfl) (by kernel_rfl) (by kernel_rfl) (by kernel_rfl) (by rfl) (fun w' hSw => by obtain ⟨f0, f1⟩ := box2 hSw.1; have hsl := hSw.1.1; go_simp) hS ?_
  try simp only [Act.put, List.setIfInBounds_toArray, List.set_cons_zero, List.set_cons_succ]
  refine takeT 7 31 [11, 12] (.slice (some ⟨g, oi, none⟩) 1 1) calm_np rfl rfl (by kernel_rfl) (by rfl) (by kernel_rfl) (by kernel_rfl) (by kernel_rfl) (by kernel_rfl) (by rfl) (fun w' hSw => by go_simp) hS ?_
  try simp only [Act.put, List.setIfInBounds_toArray, List.set_cons_zero, List.set_cons_succ]
  refine takeT 8 32 [11, 12] (.pointer (some ⟨g, oi, none⟩)) calm_np rfl rfl (by kernel_rfl) (by rfl) (by kernel_rfl) (by kernel_rfl) (by kernel_rfl) (by kernel_rfl) (by rfl) (fun w' hSw => by go_simp) hS ?_
  try simp only [Act.put, List.setIfInBounds_toArray, List.set_cons_zero, List.set_cons_succ]
  refine takeT 9 33 [11, 12] (.agg #[.int .i64 l[k].n, .bool l[k].b, .int .i64 l[k].y, .int .i64 l[k].k, .int .i64 l[k].o, .bool l[k].s]) calm_np rfl rfl (by kernel_rfl) (by rfl) (by kernel_rfl) (by kernel_rfl) (by kernel_rfl) (by kernel_rfl) (by rfl) (fun w' hSw => by obtain ⟨f0, f1, f2, f3, f4, f5⟩ := six_one hSw.2; have hsl := six_lt hSw.2; go_simp) hS ?_
  try simp only [Act.put, List.setIfInBounds_toArray, List.set_cons_zero, List.set_cons_succ]
  refine till_ready (rs := [2]) (by kernel_rfl) (by simp) (Each.cons rfl (fun K hK => ?_) Each.nil)
  go_simp
  have hbx := Box.made WD [.slice (some ⟨g, ob, none⟩) n n] 22
  have hba := al WD (.cells #[.slice (some ⟨g, ob, none⟩) n n] 22)
  obtain ⟨W5, hW5⟩ : ∃ W, WD.alloc (.cells #[.slice (some ⟨g, ob, none⟩) n n] 22) = W := ⟨_, rfl⟩
  have hbx5 : Box WD.heap.size [.slice (some ⟨g, ob, none⟩) n n] W5 := hW5 ▸ hbx
  rw [hW5] at hba
  rw [hW5]
  have hd5 := below_trans HWD.out hba
  have hS5 := hgo _ hd5
  have HTG := Lib.hid (together_1 hbx5 (l := l.take k) ⟨HA.out.below hd5, .inl ⟨_, by rw [List.length_take, Nat.min_eq_left (by omega)]⟩⟩ (HN.out.below hd5) (by rw [List.length_take]; omega) (by rw [List.length_drop]; omega) (Nat.le_refl _) (B0 := w.heap.size + 3) (by have := hd5.size; have := HP1.out.1; omega) (fun a n c e => by cases e; exact hgl))
  have HD5 := Lib.hid hd5
  refine hK.out _ _ (fun _ => hS5) ?_
  clear hK hS hW5 hbx hbx5 hba hd5
  have hS := hS5
  clear hS5
  try simp only [Act.put, List.setIfInBounds_toArray, List.set_cons_zero, List.set_cons_succ]
  refine till_ready (rs := [3]) (by kernel_rfl) (by simp) (Each.cons rfl (fun K hK => ?_) Each.nil)
  go_simp
  (with_reducible refine HTG.out.mono ?_)
  rintro e W6 ⟨v6, rfl, hrow, hfr, hz⟩
  obtain ⟨a6, n6, c6, rfl⟩ : ∃ a n c, v6 = .slice a n c := (by obtain ⟨a', c', e⟩ := hrow.slice; exact ⟨a', _, c', e⟩)
  have hd6 := below_trans HD5.out hz
  have hS6 := hgo _ hd6
  go_simp
  refine hK.out _ _ (fun _ => hS6) ?_
  clear hK hS
  have hS := hS6
  have HO := Lib.hid hrow
  have HF := Lib.hid hfr
  have HD6 := Lib.hid (below_trans HB1.out hd6)
  have hr6 := HR1.out.below hd6
  have hp6 := HP1.out.below hd6
  clear hrow hfr hz hS6 hd6 HTG
  try simp only [Act.put, List.setIfInBounds_toArray, List.set_cons_zero, List.set_cons_succ]
  refine takeT 6 30 [11, 12] (.agg #[.slice a6 n6 c6, .int .i64 t]) calm_np rfl rfl (by kernel_rfl) (by rfl) (by kernel_rfl) (by kernel_rfl) (by kernel_rfl) (by kernel_rfl) (by rfl) (fun w' hSw => by go_simp) hS ?_
  try simp only [Act.put, List.setIfInBounds_toArray, List.set_cons_zero, List.set_cons_succ]
  obtain ⟨y0, y1⟩ := box2 hr6
  obtain ⟨z0, z1⟩ := frz2 hr6
  have hsz := hr6.1
  have hp7 := box_set_other (j := 1) (box_set_other (j := 0) hp6 (g := w.heap.size + 1) (by omega) (.slice a6 n6 c6)) (g := w.heap.size + 1) (by omega) (.int .i64 t)
  obtain ⟨x0, x1, x2, x3, x4, x5⟩ := box6 hp7
  obtain ⟨u0, u1, u2, u3, u4, u5⟩ := frz6 hp7
  have hsz2 := hp7.1
  have HE := Lib.hid (below_six (b := w.heap.size + 2) (.int .i64 l[k].n) (.bool l[k].b) (.int .i64 l[k].y) (.int .i64 l[k].k) (.int .i64 l[k].o) (.bool l[k].s) (below_two (b := w.heap.size + 1) (.slice a6 n6 c6) (.int .i64 t) HD6.out (by omega)) (by omega))
  have HS7 := Lib.hid (box_set_other (j := 1) (box_set_other (j := 0) hS.1 (g := w.heap.size + 1) (by omega) (.slice a6 n6 c6)) (g := w.heap.size + 1) (by omega) (.int .i64 t))
  have HI7 := Lib.hid (NRow.far (g := w.heap.size + 1) (j := 1) (u := .int .i64 t) (NRow.far (g := w.heap.size + 1) (j := 0) (u := .slice a6 n6 c6) hS.2 (fun a n c e _ => by cases e; show g ≠ _; omega)) (fun a n c e _ => by cases e; show g ≠ _; omega))
  refine till_ready (rs := [10]) (by kernel_rfl) (by simp) (Each.cons rfl (fun K hK => ?_) Each.nil)
  go_simp
  refine hK.out _ _ (fun _ => ⟨HS7.out, HI7.out⟩) ?_
  clear hK hS
  try simp only [Act.put, List.setIfInBounds_toArray, List.set_cons_zero, List.set_cons_succ]
  refine till_ready (rs := [11]) (by kernel_rfl) (by simp) (Each.cons rfl (fun K hK => ?_) Each.nil)
  go_simp
  refine hK.out _ _ (fun h => by cases h) ?_
  clear hK
  try simp only [Act.put, List.setIfInBounds_toArray, List.set_cons_zero, List.set_cons_succ]
  refine till_ready (rs := [12]) (by kernel_rfl) (by simp) (Each.cons rfl (fun K hK => ?_) Each.nil)
  go_simp
  refine hK.out _ _ (fun h => by cases h) ?_
  clear hK
  try simp only [Act.put, List.setIfInBounds_toArray, List.set_cons_zero, List.set_cons_succ]
  have HL := Lib.hid (NRow.far_six (g := w.heap.size + 2) (.int .i64 l[k].n) (.bool l[k].b) (.int .i64 l[k].y) (.int .i64 l[k].k) (.int .i64 l[k].o) (.bool l[k].s) (NRow.far_two (g := w.heap.size + 1) (.slice a6 n6 c6) (.int .i64 t) HO.out HF.out (by omega)) HF.out (by omega))
  refine till_done (by kernel_rfl) ?_ _
  refine NoPanic.normal ?_
  go_wp2_with fail
  exact bodyPost_ret (by simp [results, Try.results8, go_sem, tv, nv, y0, y1, x0, x1, x2, x3, x4, x5]) rfl ⟨.slice a6 n6 c6, rfl, HL.out, HF.out.mono (by omega), HE.out⟩
set_option maxRecDepth 100000 in
set_option maxHeartbeats 8000000 in
theorem Twice_yes {v : Value} {l : List Pc} {w : World} (t : Int) {k : Nat} (h : NRow w v l) (hr : rightB l t = true) (hk : k < l.length) (h64 : l.length ≠ 64) : Calls Try.prog 9 #[tv v t, .int .i64 k] w (NetE (twice l k hk) t 0 w) := by
  obtain ⟨a, cap, rfl⟩ := h.slice
  have H := Lib.hid h
  obtain ⟨W0, hW0⟩ : ∃ W, ((w.alloc (.cells #[.slice a l.length cap, .int .i64 t] 24)).alloc (.cells #[.slice none 0 0, .int .i64 0] 24)) = W := ⟨_, rfl⟩
  obtain ⟨hx0, hx1, hb0⟩ := two_boxes_at w (tcs (.slice a l.length cap) t) (tcs (.slice none 0 0) 0) _ _ W0 hW0
  have HX0 := Lib.hid hx0
  have HR0 := Lib.hid hx1
  have HB0 := Lib.hid hb0
  have hln := (rightB_t.1 hr).1
  have hc := cut_yes t (h.below hb0) hr hk
  unfold tv at hc ⊢
  have HC := Lib.hid hc
  clear h hx0 hx1 hb0 hc hr
  have hne : ((l.length : Int) == 64) = false := by simpa using (by omega : ¬ (l.length : Int) = 64)
  go_enter Try.func9, Try.ntmps9
  go_upto_region 1 with (fail)
  clear hW0
  obtain ⟨c0, c1⟩ := box2 HX0.out
  have hs0 := HX0.out.1
  go_wp2_with fail
  (with_reducible refine HC.out.mono ?_)
  rintro e w1 ⟨g, oa, oi, ob, n, rfl, ha, hi, hb, hg, hz⟩
  have hgl : w.heap.size + 2 ≤ g := Nat.le_trans (by have := HR0.out.1; omega) hg
  have HX1 := Lib.hid (HX0.out.below hz)
  have HR1 := Lib.hid (HR0.out.below hz)
  have HB1 := Lib.hid (below_trans HB0.out hz)
  clear hz c0 c1 hs0 HC
  have HA := Lib.hid ha
  have HI := Lib.hid hi
  have HN := Lib.hid hb
  clear ha hi hb hg
  obtain ⟨c0, c1⟩ := box2 HX1.out
  have hs0 := HX1.out.1
  go_upto_region 6 with (fail)
  clear c0 c1 hs0
  have hgo : ∀ W', Below w1.heap.size w1 W' → Box w.heap.size (tcs (.slice a l.length cap) t) W' ∧ True := fun W' hW => ⟨HX1.out.below hW, trivial⟩
  refine wp_region_noPanic ?_
  refine till_region (fun W' => Box w.heap.size (tcs (.slice a l.length cap) t) W' ∧ True) (fun j => decide (9 ≤ j)) (by kernel_rfl) ?_
  have HWD := Lib.hid (dr w1)
  generalize w1.drew = WD at HWD ⊢
  have hS := hgo _ HWD.out
  try simp only [Act.put, List.setIfInBounds_toArray, List.set_cons_zero, List.set_cons_succ]
  refine takeT 0 27 [9, 10] (.slice (some ⟨g, oa, none⟩) k k) calm_np rfl rfl (by kernel_rfl) (by rfl) (by kernel_rfl) (by kernel_rfl) (by kernel_rfl) (by kernel_rfl) (by rfl) (fun w' hSw => by go_simp) hS ?_
  try simp only [Act.put, List.setIfInBounds_toArray, List.set_cons_zero, List.set_cons_succ]
  refine takeT 1 28 [9, 10] (.slice (some ⟨g, oi, none⟩) 1 1) calm_np rfl rfl (by kernel_rfl) (by rfl) (by kernel_rfl) (by kernel_rfl) (by kernel_rfl) (by kernel_rfl) (by rfl) (fun w' hSw => by go_simp) hS ?_
  try simp only [Act.put, List.setIfInBounds_toArray, List.set_cons_zero, List.set_cons_succ]
  refine takeT 2 29 [9, 10] (.slice (some ⟨g, ob, none⟩) n n) calm_np rfl rfl (by kernel_rfl) (by rfl) (by kernel_rfl) (by kernel_rfl) (by kernel_rfl) (by kernel_rfl) (by rfl) (fun w' hSw => by go_simp) hS ?_
  try simp only [Act.put, List.setIfInBounds_toArray, List.set_cons_zero, List.set_cons_succ]
  refine takeT 3 30 [9, 10] (.slice (some ⟨g, oi, none⟩) 1 1) calm_np rfl rfl (by kernel_rfl) (by rfl) (by kernel_rfl) (by kernel_rfl) (by kernel_rfl) (by kernel_rfl) (by rfl) (fun w' hSw => by go_simp) hS ?_
  try simp only [Act.put, List.setIfInBounds_toArray, List.set_cons_zero, List.set_cons_succ]
  refine takeT 6 33 [9, 10] (.pointer (some ⟨w.heap.size, 1, none⟩)) calm_np rfl rfl (by kernel_rfl) (by rfl) (by kernel_rfl) (by kernel_rfl) (by kernel_rfl) (by kernel_rfl) (by rfl) (fun w' hSw => by go_simp) hS ?_
  try simp only [Act.put, List.setIfInBounds_toArray, List.set_cons_zero, List.set_cons_succ]
  refine takeT 7 34 [9, 10] (.int .i64 t) calm_np rfl rfl (by kernel_rfl) (by rfl) (by kernel_rfl) (by kernel_rfl) (by kernel_rfl) (by kernel_rfl) (by rfl) (fun w' hSw => by obtain ⟨f0, f1⟩ := box2 hSw.1; have hsl := hSw.1.1; go_simp) hS ?_
  try simp only [Act.put, List.setIfInBounds_toArray, List.set_cons_zero, List.set_cons_succ]
  refine till_ready (rs := [4]) (by kernel_rfl) (by simp) (Each.cons rfl (fun K hK => ?_) Each.nil)
  go_simp
  have hbx := Box.made WD [.slice (some ⟨g, oi, none⟩) 1 1, .slice (some ⟨g, ob, none⟩) n n, .slice (some ⟨g, oi, none⟩) 1 1] 22
  have hba := al WD (.cells #[.slice (some ⟨g, oi, none⟩) 1 1, .slice (some ⟨g, ob, none⟩) n n, .slice (some ⟨g, oi, none⟩) 1 1] 22)
  obtain ⟨W5, hW5⟩ : ∃ W, WD.alloc (.cells #[.slice (some ⟨g, oi, none⟩) 1 1, .slice (some ⟨g, ob, none⟩) n n, .slice (some ⟨g, oi, none⟩) 1 1] 22) = W := ⟨_, rfl⟩
  have hbx5 : Box WD.heap.size [.slice (some ⟨g, oi, none⟩) 1 1, .slice (some ⟨g, ob, none⟩) n n, .slice (some ⟨g, oi, none⟩) 1 1] W5 := hW5 ▸ hbx
  rw [hW5] at hba
  rw [hW5]
  have hd5 := below_trans HWD.out hba
  have hS5 := hgo _ hd5
  have HTG := Lib.hid (together_3 hbx5 (l := l.take k) ⟨HA.out.below hd5, .inl ⟨_, by rw [List.length_take, Nat.min_eq_left (by omega)]⟩⟩ (HI.out.below hd5) (HN.out.below hd5) (HI.out.below hd5) (by rw [List.length_take]; omega) (by simp) (by rw [List.length_drop]; omega) (by simp) (B0 := w.heap.size + 2) (by have := hd5.size; have := HR1.out.1; omega) (fun a n c e => by cases e; exact hgl))
  have HD5 := Lib.hid hd5
  refine hK.out _ _ (fun _ => hS5) ?_
  clear hK hS hW5 hbx hbx5 hba hd5
  have hS := hS5
  clear hS5
  try simp only [Act.put, List.setIfInBounds_toArray, List.set_cons_zero, List.set_cons_succ]
  refine till_ready (rs := [5]) (by kernel_rfl) (by simp) (Each.cons rfl (fun K hK => ?_) Each.nil)
  go_simp
  (with_reducible refine HTG.out.mono ?_)
  rintro e W6 ⟨v6, rfl, hrow, hfr, hz⟩
  obtain ⟨a6, n6, c6, rfl⟩ : ∃ a n c, v6 = .slice a n c := (by obtain ⟨a', c', e⟩ := hrow.slice; exact ⟨a', _, c', e⟩)
  have hd6 := below_trans HD5.out hz
  have hS6 := hgo _ hd6
  go_simp
  refine hK.out _ _ (fun _ => hS6) ?_
  clear hK hS
  have hS := hS6
  have HO := Lib.hid hrow
  have HF := Lib.hid hfr
  have HD6 := Lib.hid (below_trans HB1.out hd6)
  have hr6 := HR1.out.below hd6
  clear hrow hfr hz hS6 hd6 HTG
  try simp only [Act.put, List.setIfInBounds_toArray, List.set_cons_zero, List.set_cons_succ]
  refine takeT 8 35 [9, 10] (.agg #[.slice a6 n6 c6, .int .i64 t]) calm_np rfl rfl (by kernel_rfl) (by rfl) (by kernel_rfl) (by kernel_rfl) (by kernel_rfl) (by kernel_rfl) (by rfl) (fun w' hSw => by go_simp) hS ?_
  try simp only [Act.put, List.setIfInBounds_toArray, List.set_cons_zero, List.set_cons_succ]
  obtain ⟨y0, y1⟩ := box2 hr6
  obtain ⟨z0, z1⟩ := frz2 hr6
  have hsz := hr6.1
  have HE := Lib.hid (below_two (b := w.heap.size + 1) (.slice a6 n6 c6) (.int .i64 t) HD6.out (by omega))
  refine till_ready (rs := [9]) (by kernel_rfl) (by simp) (Each.cons rfl (fun K hK => ?_) Each.nil)
  go_simp
  refine hK.out _ _ (fun h => by cases h) ?_
  clear hK
  try simp only [Act.put, List.setIfInBounds_toArray, List.set_cons_zero, List.set_cons_succ]
  refine till_ready (rs := [10]) (by kernel_rfl) (by simp) (Each.cons rfl (fun K hK => ?_) Each.nil)
  go_simp
  refine hK.out _ _ (fun h => by cases h) ?_
  clear hK
  try simp only [Act.put, List.setIfInBounds_toArray, List.set_cons_zero, List.set_cons_succ]
  have HL := Lib.hid (NRow.far_two (g := w.heap.size + 1) (.slice a6 n6 c6) (.int .i64 t) HO.out HF.out (by omega))
  rw [take_one hk] at HL
  refine till_done (by kernel_rfl) ?_ _
  refine NoPanic.normal ?_
  go_wp2_with fail
  exact bodyPost_ret (by simp [results, Try.results9, go_sem, tv, y0, y1]) rfl ⟨.slice a6 n6 c6, rfl, HL.out, HF.out.mono (by omega), HE.out⟩
set_option maxRecDepth 100000 in
set_option maxHeartbeats 8000000 in
theorem Last_yes {v : Value} {l : List Pc} {w : World} (t : Int) {k : Nat} (h : NRow w v l) (hr : rightB l t = true) (hk : k < l.length) : Calls Try.prog 10 #[tv v t, .int .i64 k] w (NetE (last l k hk) t 0 w) := by
  obtain ⟨a, cap, rfl⟩ := h.slice
  have H := Lib.hid h
  obtain ⟨W0, hW0⟩ : ∃ W, ((w.alloc (.cells #[.slice a l.length cap, .int .i64 t] 24)).alloc (.cells #[.slice none 0 0, .int .i64 0] 24)) = W := ⟨_, rfl⟩
  obtain ⟨hx0, hx1, hb0⟩ := two_boxes_at w (tcs (.slice a l.length cap) t) (tcs (.slice none 0 0) 0) _ _ W0 hW0
  have HX0 := Lib.hid hx0
  have HR0 := Lib.hid hx1
  have HB0 := Lib.hid hb0
  have hln := (rightB_t.1 hr).1
  have hc := cut_yes t (h.below hb0) hr hk
  unfold tv at hc ⊢
  have HC := Lib.hid hc
  clear h hx0 hx1 hb0 hc hr
  go_enter Try.func10, Try.ntmps10
  go_upto_region 1 with (fail)
  clear hW0
  obtain ⟨c0, c1⟩ := box2 HX0.out
  have hs0 := HX0.out.1
  go_wp2_with fail
  (with_reducible refine HC.out.mono ?_)
  rintro e w1 ⟨g, oa, oi, ob, n, rfl, ha, hi, hb, hg, hz⟩
  have hgl : w.heap.size + 2 ≤ g := Nat.le_trans (by have := HR0.out.1; omega) hg
  have HX1 := Lib.hid (HX0.out.below hz)
  have HR1 := Lib.hid (HR0.out.below hz)
  have HB1 := Lib.hid (below_trans HB0.out hz)
  clear hz c0 c1 hs0 HC
  have HA := Lib.hid ha
  have HI := Lib.hid hi
  have HN := Lib.hid hb
  clear ha hi hb hg
  go_upto_region 4 with (fail)
  have hgo : ∀ W', Below w1.heap.size w1 W' → Box w.heap.size (tcs (.slice a l.length cap) t) W' ∧ True := fun W' hW => ⟨HX1.out.below hW, trivial⟩
  refine wp_region_noPanic ?_
  refine till_region (fun W' => Box w.heap.size (tcs (.slice a l.length cap) t) W' ∧ True) (fun j => decide (8 ≤ j)) (by kernel_rfl) ?_
  have HWD := Lib.hid (dr w1)
  generalize w1.drew = WD at HWD ⊢
  have hS := hgo _ HWD.out
  try simp only [Act.put, List.setIfInBounds_toArray, List.set_cons_zero, List.set_cons_succ]
  refine takeT 0 22 [8, 9] (.slice (some ⟨g, oa, none⟩) k k) calm_np rfl rfl (by kernel_rfl) (by rfl) (by kernel_rfl) (by kernel_rfl) (by kernel_rfl) (by kernel_rfl) (by rfl) (fun w' hSw => by go_simp) hS ?_
  try simp only [Act.put, List.setIfInBounds_toArray, List.set_cons_zero, List.set_cons_succ]
  refine takeT 1 23 [8, 9] (.slice (some ⟨g, ob, none⟩) n n) calm_np rfl rfl (by kernel_rfl) (by rfl) (by kernel_rfl) (by kernel_rfl) (by kernel_rfl) (by kernel_rfl) (by rfl) (fun w' hSw => by go_simp) hS ?_
  try simp only [Act.put, List.setIfInBounds_toArray, List.set_cons_zero, List.set_cons_succ]
  refine takeT 2 24 [8, 9] (.slice (some ⟨g, oi, none⟩) 1 1) calm_np rfl rfl (by kernel_rfl) (by rfl) (by kernel_rfl) (by kernel_rfl) (by kernel_rfl) (by kernel_rfl) (by rfl) (fun w' hSw => by go_simp) hS ?_
  try simp only [Act.put, List.setIfInBounds_toArray, List.set_cons_zero, List.set_cons_succ]
  refine takeT 5 27 [8, 9] (.pointer (some ⟨w.heap.size, 1, none⟩)) calm_np rfl rfl (by kernel_rfl) (by rfl) (by kernel_rfl) (by kernel_rfl) (by kernel_rfl) (by kernel_rfl) (by rfl) (fun w' hSw => by go_simp) hS ?_
  try simp only [Act.put, List.setIfInBounds_toArray, List.set_cons_zero, List.set_cons_succ]
  refine takeT 6 28 [8, 9] (.int .i64 t) calm_np rfl rfl (by kernel_rfl) (by rfl) (by kernel_rfl) (by kernel_rfl) (by kernel_rfl) (by kernel_rfl) (by rfl) (fun w' hSw => by obtain ⟨f0, f1⟩ := box2 hSw.1; have hsl := hSw.1.1; go_simp) hS ?_
  try simp only [Act.put, List.setIfInBounds_toArray, List.set_cons_zero, List.set_cons_succ]
  refine till_ready (rs := [3]) (by kernel_rfl) (by simp) (Each.cons rfl (fun K hK => ?_) Each.nil)
  go_simp
  have hbx := Box.made WD [.slice (some ⟨g, ob, none⟩) n n, .slice (some ⟨g, oi, none⟩) 1 1] 22
  have hba := al WD (.cells #[.slice (some ⟨g, ob, none⟩) n n, .slice (some ⟨g, oi, none⟩) 1 1] 22)
  obtain ⟨W5, hW5⟩ : ∃ W, WD.alloc (.cells #[.slice (some ⟨g, ob, none⟩) n n, .slice (some ⟨g, oi, none⟩) 1 1] 22) = W := ⟨_, rfl⟩
  have hbx5 : Box WD.heap.size [.slice (some ⟨g, ob, none⟩) n n, .slice (some ⟨g, oi, none⟩) 1 1] W5 := hW5 ▸ hbx
  rw [hW5] at hba
  rw [hW5]
  have hd5 := below_trans HWD.out hba
  have hS5 := hgo _ hd5
  have HTG := Lib.hid (together_2 hbx5 (l := l.take k) ⟨HA.out.below hd5, .inl ⟨_, by rw [List.length_take, Nat.min_eq_left (by omega)]⟩⟩ (HN.out.below hd5) (HI.out.below hd5) (by rw [List.length_take]; omega) (by rw [List.length_drop]; omega) (by simp) (B0 := w.heap.size + 2) (by have := hd5.size; have := HR1.out.1; omega) (fun a n c e => by cases e; exact hgl))
  have HD5 := Lib.hid hd5
  refine hK.out _ _ (fun _ => hS5) ?_
  clear hK hS hW5 hbx hbx5 hba hd5
  have hS := hS5
  clear hS5
  try simp only [Act.put, List.setIfInBounds_toArray, List.set_cons_zero, List.set_cons_succ]
  refine till_ready (rs := [4]) (by kernel_rfl) (by simp) (Each.cons rfl (fun K hK => ?_) Each.nil)
  go_simp
  (with_reducible refine HTG.out.mono ?_)
  rintro e W6 ⟨v6, rfl, hrow, hfr, hz⟩
  obtain ⟨a6, n6, c6, rfl⟩ : ∃ a n c, v6 = .slice a n c := (by obtain ⟨a', c', e⟩ := hrow.slice; exact ⟨a', _, c', e⟩)
  have hd6 := below_trans HD5.out hz
  have hS6 := hgo _ hd6
  go_simp
  refine hK.out _ _ (fun _ => hS6) ?_
  clear hK hS
  have hS := hS6
  have HO := Lib.hid hrow
  have HF := Lib.hid hfr
  have HD6 := Lib.hid (below_trans HB1.out hd6)
  have hr6 := HR1.out.below hd6
  clear hrow hfr hz hS6 hd6 HTG
  try simp only [Act.put, List.setIfInBounds_toArray, List.set_cons_zero, List.set_cons_succ]
  refine takeT 7 29 [8, 9] (.agg #[.slice a6 n6 c6, .int .i64 t]) calm_np rfl rfl (by kernel_rfl) (by rfl) (by kernel_rfl) (by kernel_rfl) (by kernel_rfl) (by kernel_rfl) (by rfl) (fun w' hSw => by go_simp) hS ?_
  try simp only [Act.put, List.setIfInBounds_toArray, List.set_cons_zero, List.set_cons_succ]
  obtain ⟨y0, y1⟩ := box2 hr6
  obtain ⟨z0, z1⟩ := frz2 hr6
  have hsz := hr6.1
  have HE := Lib.hid (below_two (b := w.heap.size + 1) (.slice a6 n6 c6) (.int .i64 t) HD6.out (by omega))
  refine till_ready (rs := [8]) (by kernel_rfl) (by simp) (Each.cons rfl (fun K hK => ?_) Each.nil)
  go_simp
  refine hK.out _ _ (fun h => by cases h) ?_
  clear hK
  try simp only [Act.put, List.setIfInBounds_toArray, List.set_cons_zero, List.set_cons_succ]
  refine till_ready (rs := [9]) (by kernel_rfl) (by simp) (Each.cons rfl (fun K hK => ?_) Each.nil)
  go_simp
  refine hK.out _ _ (fun h => by cases h) ?_
  clear hK
  try simp only [Act.put, List.setIfInBounds_toArray, List.set_cons_zero, List.set_cons_succ]
  have HL := Lib.hid (NRow.far_two (g := w.heap.size + 1) (.slice a6 n6 c6) (.int .i64 t) HO.out HF.out (by omega))
  refine till_done (by kernel_rfl) ?_ _
  refine NoPanic.normal ?_
  go_wp2_with fail
  exact bodyPost_ret (by simp [results, Try.results10, go_sem, tv, y0, y1]) rfl ⟨.slice a6 n6 c6, rfl, HL.out, HF.out.mono (by omega), HE.out⟩
end Go.Proofs.Ytkfjhfneagjejaa.Net
