/-
  Contracts of the reference: Same and Like of the same, Find, Get, Done, Told, Tell.
-/
import Derived.Test.YtlhepocjcdbhjaaUHead
namespace Go.Proofs.Ytlhepocjcdbhjaa.Outbox
open Go.ChangeShapes Go.WideShapes Go.ChangeAt Go.RowKit Go.Shelf Go.Lib
open Go.Proofs.Ytlhepocjcdbhjaa.Queue (Box al dr below_trans ret_bool BoolB)

set_option maxRecDepth 100000 in
set_option maxHeartbeats 1000000 in
theorem Same_yes {v u : Value} {l : List Ot} {w : World} (h : URow w v l) (hu : URow w u l) : Calls Try.prog 17 #[v, u] w (BoolB true w) := by
  obtain ⟨a, cap, rfl⟩ := h.slice
  obtain ⟨a', cap', rfl⟩ := hu.slice
  have H := Lib.hid h
  have HU := Lib.hid hu
  clear h hu
  go_enter Try.func17, Try.ntmps17
  go_wp2
  go_loopw [5, 13] (fun _ i wr => ∃ k : Nat, k ≤ l.length ∧ i = .int .i64 k ∧ Below w.heap.size w wr) (fun _ i _ => l.length - (Go.RowKit.intOf i).toNat)
  case atStart => exact ⟨0, Nat.zero_le _, rfl, Below.refl _ _⟩
  case round =>
    obtain ⟨k, hk, rfl, hr⟩ := hrel
    have HR := Lib.hid hr
    clear hr
    by_cases hlt : k < l.length
    · obtain ⟨b, off, rfl, hlc, hcap, hb, k0, k1, k2, k3⟩ := (H.out.below HR.out).at hlt
      obtain ⟨b', off', rfl, hlc', hcap', hb', j0, j1, j2, j3⟩ := (HU.out.below HR.out).at hlt
      go_upto_region 6 with fail
      go_region
      go_wp2_with fail
      go_roundw
      case rel => exact ⟨k + 1, by omega, by go_num, below_trans HR.out (dr _)⟩
      case measure => simp [Go.RowKit.intOf]; omega
    · obtain rfl : k = l.length := by omega
      go_wp2
      go_ret
      exact ⟨rfl, HR.out⟩

set_option maxRecDepth 100000 in
set_option maxHeartbeats 1000000 in
theorem Like_yes {v u : Value} {l : List Ot} {w : World} (t : Int) (h : URow w v l) (hu : URow w u l) : Calls Try.prog 13 #[bv t v, bv t u] w (BoolB true w) := by
  obtain ⟨a, cap, rfl⟩ := h.slice
  obtain ⟨a', cap', rfl⟩ := hu.slice
  obtain ⟨hx0, hx1⟩ := two_boxes w (bcs t (.slice a l.length cap)) (bcs t (.slice a' l.length cap')) 24 24
  have hb0 := two_al w (.cells #[.int .i64 t, .slice a l.length cap] 24) (.cells #[.int .i64 t, .slice a' l.length cap'] 24)
  obtain ⟨W0, hW0⟩ : ∃ W, (w.alloc (.cells #[.int .i64 t, .slice a l.length cap] 24)).alloc (.cells #[.int .i64 t, .slice a' l.length cap'] 24) = W := ⟨_, rfl⟩
  have HX0 : Hid (Box w.heap.size (bcs t (.slice a l.length cap)) W0) := Lib.hid (hW0 ▸ hx0)
  have HX1 : Hid (Box (w.heap.size + 1) (bcs t (.slice a' l.length cap')) W0) := Lib.hid (hW0 ▸ hx1)
  have HB0 : Hid (Below w.heap.size w W0) := Lib.hid (hW0 ▸ hb0)
  have HS := Lib.hid (Same_yes (h.below HB0.out) (hu.below HB0.out))
  unfold bv
  clear h hu hx0 hx1 hb0
  go_enter Try.func13, Try.ntmps13
  go_upto_region 1 with (fail)
  clear hW0
  obtain ⟨c0, c1⟩ := box2 HX0.out
  have hs0 := HX0.out.1
  obtain ⟨e0, e1⟩ := box2 HX1.out
  have hs1 := HX1.out.1
  go_wp2_with fail
  (with_reducible refine HS.out.mono ?_)
  rintro e w1 ⟨rfl, hz⟩
  have HZ := Lib.hid (below_trans HB0.out hz)
  clear hz
  go_wp2_with fail
  go_ret
  exact ⟨rfl, HZ.out⟩

/-- Something told is returned. -/
def OutE (x : Ot) (w : World) (e : Ending) (w' : World) : Prop := e = .returned (uv x) ∧ Below w.heap.size w w'
/-- The first of which it holds, or none. -/
def fst (p : Ot → Bool) (l : List Ot) : Ot := (l.find? p).getD noT
def SeekF (p : Ot → Bool) (l : List Ot) (k : Nat) (w W : World) : Prop := (l.take k).any p = false ∧ Below w.heap.size w W ∧ Box (w.heap.size + 1) (ocs noT) W
theorem fst_at {p : Ot → Bool} {l : List Ot} {k : Nat} (hk : k < l.length) (h : p l[k] = true) (h0 : (l.take k).any p = false) : fst p l = l[k] := by
  unfold fst
  rw [first_of hk h h0]
  rfl
theorem fst_no {p : Ot → Bool} {l : List Ot} (h : l.any p = false) : fst p l = noT := by
  unfold fst
  rw [none_of h]
  rfl

set_option maxRecDepth 100000 in
set_option maxHeartbeats 2000000 in
theorem refFind_any {v : Value} {l : List Ot} {w : World} (t c o : Int) (h : URow w v l) : Calls Try.prog 15 #[bv t v, .int .i64 c, .int .i64 o] w (OutE (fst (ofB c o) l) w) := by
  obtain ⟨a, cap, rfl⟩ := h.slice
  have H := Lib.hid h
  obtain ⟨hx0, hx1⟩ := two_boxes w (bcs t (.slice a l.length cap)) (ocs noT) 24 30
  have hb0 := two_al w (.cells #[.int .i64 t, .slice a l.length cap] 24) (.cells #[.int .i64 0, .int .i64 0, .int .i64 0, .int .i64 0] 30)
  obtain ⟨W0, hW0⟩ : ∃ W, (w.alloc (.cells #[.int .i64 t, .slice a l.length cap] 24)).alloc (.cells #[.int .i64 0, .int .i64 0, .int .i64 0, .int .i64 0] 30) = W := ⟨_, rfl⟩
  have HX0 : Hid (Box w.heap.size (bcs t (.slice a l.length cap)) W0) := Lib.hid (hW0 ▸ hx0)
  have HR0 : Hid (Box (w.heap.size + 1) (ocs noT) W0) := Lib.hid (hW0 ▸ hx1)
  have HB0 : Hid (Below w.heap.size w W0) := Lib.hid (hW0 ▸ hb0)
  unfold bv
  clear h hx0 hx1 hb0
  go_enter Try.func15, Try.ntmps15
  go_upto_region 1 with (fail)
  clear hW0
  obtain ⟨c0, c1⟩ := box2 HX0.out
  have hs0 := HX0.out.1
  go_wp2
  clear c0 c1 hs0
  go_loopw [8, 12] (fun _ i wr => ∃ k : Nat, k ≤ l.length ∧ i = .int .i64 k ∧ SeekF (ofB c o) l k w wr) (fun _ i _ => l.length - (Go.RowKit.intOf i).toNat)
  case atStart => exact ⟨0, Nat.zero_le _, rfl, by simp, HB0.out, HR0.out⟩
  case round =>
    obtain ⟨k, hk, rfl, hr⟩ := hrel
    have HR := Lib.hid hr
    clear hr
    by_cases hlt : k < l.length
    · obtain ⟨b, off, rfl, hlc, hcap, hb, k0, k1, k2, k3⟩ := (H.out.below HR.out.2.1).at hlt
      have hba := al wr (.cells #[.int .i64 l[k].y, .int .i64 l[k].k, .int .i64 l[k].o, .int .i64 l[k].d] 30)
      have HAT := Lib.hid (any_take (p := ofB c o) hlt)
      have HFA := Lib.hid (fun e => fst_at (p := ofB c o) hlt e HR.out.1)
      generalize l[k] = x at *
      have hx2 := HR.out.2.2.below hba
      have HB2 := Lib.hid (below_trans HR.out.2.1 hba)
      obtain ⟨W1, hW1⟩ : ∃ W, wr.alloc (.cells #[.int .i64 x.y, .int .i64 x.k, .int .i64 x.o, .int .i64 x.d] 30) = W := ⟨_, rfl⟩
      have hbx : Box wr.heap.size (ocs x) W1 := hW1 ▸ Box.made wr (ocs x) 30
      rw [hW1] at hx2 HB2 hba
      have HX2 := Lib.hid hx2
      obtain ⟨d0, d1, d2, d3⟩ := box4 hbx
      have hds := hbx.1
      clear hba hbx hx2
      rcases (show (x.k = c ∧ x.o = o) ∨ (x.k = c ∧ ¬ x.o = o) ∨ ¬ x.k = c by by_cases e1 : x.k = c <;> by_cases e2 : x.o = o <;> simp [e1, e2]) with ⟨h1, h2⟩ | ⟨h1, h2⟩ | h1
      · have hpt : ofB c o x = true := ofB_t.2 ⟨h1, h2⟩
        have h3 : (x.k == c) = true := by simpa using h1
        have h4 : (x.o == o) = true := by simpa using h2
        clear h1 h2
        have HF := Lib.hid (HFA.out hpt)
        obtain ⟨y0, y1, y2, y3⟩ := box4 HX2.out
        obtain ⟨z0, z1, z2, z3⟩ := frz4 HX2.out
        have hsz := HX2.out.1
        have HE := Lib.hid (below_four (b := w.heap.size + 1) (.int .i64 x.y) (.int .i64 x.k) (.int .i64 x.o) (.int .i64 x.d) HB2.out (by omega))
        clear hpt
        go_upto_region 4 with (fail)
        try rw [hW1]
        clear hW1
        go_wp2_with fail
        exact bodyPost_ret (by simp [results, Try.results15, go_sem, y0, y1, y2, y3]) rfl ⟨(by rw [HF.out]; rfl : Ending.returned (.agg #[.int .i64 x.y, .int .i64 x.k, .int .i64 x.o, .int .i64 x.d]) = .returned (uv (fst (ofB c o) l))), HE.out⟩
      · have hpf : ofB c o x = false := ofB_f.2 (fun e => h2 e.2)
        have h3 : (x.k == c) = true := by simpa using h1
        have h4 : (x.o == o) = false := by simpa using h2
        clear h1 h2
        have HT := Lib.hid (show (l.take (k + 1)).any (ofB c o) = false by rw [HAT.out, HR.out.1, hpf]; rfl)
        clear hpf
        go_upto_region 4 with (fail)
        try rw [hW1]
        clear hW1
        go_wp2_with fail
        go_roundw
        case rel => exact ⟨k + 1, by omega, by go_num, HT.out, HB2.out, HX2.out⟩
        case measure => simp [Go.RowKit.intOf]; omega
      · have hpf : ofB c o x = false := ofB_f.2 (fun e => h1 e.1)
        have h3 : (x.k == c) = false := by simpa using h1
        clear h1
        have HT := Lib.hid (show (l.take (k + 1)).any (ofB c o) = false by rw [HAT.out, HR.out.1, hpf]; rfl)
        clear hpf
        go_upto_region 4 with (fail)
        try rw [hW1]
        clear hW1
        go_wp2_with fail
        go_roundw
        case rel => exact ⟨k + 1, by omega, by go_num, HT.out, HB2.out, HX2.out⟩
        case measure => simp [Go.RowKit.intOf]; omega
    · obtain rfl : k = l.length := by omega
      have HF := Lib.hid (fst_no (p := ofB c o) (l := l) (by have := HR.out.1; rwa [List.take_length] at this))
      obtain ⟨y0, y1, y2, y3⟩ := box4 HR.out.2.2
      obtain ⟨z0, z1, z2, z3⟩ := frz4 HR.out.2.2
      have hsz := HR.out.2.2.1
      have HE := Lib.hid (below_four (b := w.heap.size + 1) (.int .i64 0) (.int .i64 0) (.int .i64 0) (.int .i64 0) HR.out.2.1 (by omega))
      go_wp2
      exact bodyPost_ret (by simp [results, Try.results15, go_sem, y0, y1, y2, y3]) rfl ⟨(by rw [HF.out]; rfl : Ending.returned (.agg #[.int .i64 0, .int .i64 0, .int .i64 0, .int .i64 0]) = .returned (uv (fst (ofB c o) l))), HE.out⟩

set_option maxRecDepth 100000 in
set_option maxHeartbeats 2000000 in
theorem refGet_any {v : Value} {l : List Ot} {w : World} (t y : Int) (h : URow w v l) : Calls Try.prog 19 #[bv t v, .int .i64 y] w (OutE (fst (keyB y) l) w) := by
  obtain ⟨a, cap, rfl⟩ := h.slice
  have H := Lib.hid h
  obtain ⟨hx0, hx1⟩ := two_boxes w (bcs t (.slice a l.length cap)) (ocs noT) 24 30
  have hb0 := two_al w (.cells #[.int .i64 t, .slice a l.length cap] 24) (.cells #[.int .i64 0, .int .i64 0, .int .i64 0, .int .i64 0] 30)
  obtain ⟨W0, hW0⟩ : ∃ W, (w.alloc (.cells #[.int .i64 t, .slice a l.length cap] 24)).alloc (.cells #[.int .i64 0, .int .i64 0, .int .i64 0, .int .i64 0] 30) = W := ⟨_, rfl⟩
  have HX0 : Hid (Box w.heap.size (bcs t (.slice a l.length cap)) W0) := Lib.hid (hW0 ▸ hx0)
  have HR0 : Hid (Box (w.heap.size + 1) (ocs noT) W0) := Lib.hid (hW0 ▸ hx1)
  have HB0 : Hid (Below w.heap.size w W0) := Lib.hid (hW0 ▸ hb0)
  unfold bv
  clear h hx0 hx1 hb0
  go_enter Try.func19, Try.ntmps19
  go_upto_region 1 with (fail)
  clear hW0
  obtain ⟨c0, c1⟩ := box2 HX0.out
  have hs0 := HX0.out.1
  go_wp2
  clear c0 c1 hs0
  go_loopw [6, 10] (fun _ i wr => ∃ k : Nat, k ≤ l.length ∧ i = .int .i64 k ∧ SeekF (keyB y) l k w wr) (fun _ i _ => l.length - (Go.RowKit.intOf i).toNat)
  case atStart => exact ⟨0, Nat.zero_le _, rfl, by simp, HB0.out, HR0.out⟩
  case round =>
    obtain ⟨k, hk, rfl, hr⟩ := hrel
    have HR := Lib.hid hr
    clear hr
    by_cases hlt : k < l.length
    · obtain ⟨b, off, rfl, hlc, hcap, hb, k0, k1, k2, k3⟩ := (H.out.below HR.out.2.1).at hlt
      have hba := al wr (.cells #[.int .i64 l[k].y, .int .i64 l[k].k, .int .i64 l[k].o, .int .i64 l[k].d] 30)
      have HAT := Lib.hid (any_take (p := keyB y) hlt)
      have HFA := Lib.hid (fun e => fst_at (p := keyB y) hlt e HR.out.1)
      generalize l[k] = x at *
      have hx2 := HR.out.2.2.below hba
      have HB2 := Lib.hid (below_trans HR.out.2.1 hba)
      obtain ⟨W1, hW1⟩ : ∃ W, wr.alloc (.cells #[.int .i64 x.y, .int .i64 x.k, .int .i64 x.o, .int .i64 x.d] 30) = W := ⟨_, rfl⟩
      have hbx : Box wr.heap.size (ocs x) W1 := hW1 ▸ Box.made wr (ocs x) 30
      rw [hW1] at hx2 HB2 hba
      have HX2 := Lib.hid hx2
      obtain ⟨d0, d1, d2, d3⟩ := box4 hbx
      have hds := hbx.1
      clear hba hbx hx2
      by_cases h1 : x.y = y
      · have hpt : keyB y x = true := keyB_t.2 h1
        have h3 : (x.y == y) = true := by simpa using h1
        clear h1
        have HF := Lib.hid (HFA.out hpt)
        obtain ⟨y0, y1, y2, y3⟩ := box4 HX2.out
        obtain ⟨z0, z1, z2, z3⟩ := frz4 HX2.out
        have hsz := HX2.out.1
        have HE := Lib.hid (below_four (b := w.heap.size + 1) (.int .i64 x.y) (.int .i64 x.k) (.int .i64 x.o) (.int .i64 x.d) HB2.out (by omega))
        clear hpt
        go_upto_region 4 with (fail)
        try rw [hW1]
        clear hW1
        go_wp2_with fail
        exact bodyPost_ret (by simp [results, Try.results19, go_sem, y0, y1, y2, y3]) rfl ⟨(by rw [HF.out]; rfl : Ending.returned (.agg #[.int .i64 x.y, .int .i64 x.k, .int .i64 x.o, .int .i64 x.d]) = .returned (uv (fst (keyB y) l))), HE.out⟩
      · have hpf : keyB y x = false := keyB_f.2 h1
        have h3 : (x.y == y) = false := by simpa using h1
        clear h1
        have HT := Lib.hid (show (l.take (k + 1)).any (keyB y) = false by rw [HAT.out, HR.out.1, hpf]; rfl)
        clear hpf
        go_upto_region 4 with (fail)
        try rw [hW1]
        clear hW1
        go_wp2_with fail
        go_roundw
        case rel => exact ⟨k + 1, by omega, by go_num, HT.out, HB2.out, HX2.out⟩
        case measure => simp [Go.RowKit.intOf]; omega
    · obtain rfl : k = l.length := by omega
      have HF := Lib.hid (fst_no (p := keyB y) (l := l) (by have := HR.out.1; rwa [List.take_length] at this))
      obtain ⟨y0, y1, y2, y3⟩ := box4 HR.out.2.2
      obtain ⟨z0, z1, z2, z3⟩ := frz4 HR.out.2.2
      have hsz := HR.out.2.2.1
      have HE := Lib.hid (below_four (b := w.heap.size + 1) (.int .i64 0) (.int .i64 0) (.int .i64 0) (.int .i64 0) HR.out.2.1 (by omega))
      go_wp2
      exact bodyPost_ret (by simp [results, Try.results19, go_sem, y0, y1, y2, y3]) rfl ⟨(by rw [HF.out]; rfl : Ending.returned (.agg #[.int .i64 0, .int .i64 0, .int .i64 0, .int .i64 0]) = .returned (uv (fst (keyB y) l))), HE.out⟩

/-- An outbox, or a row, is returned. -/
def RefE (t : Int) (l : List Ot) (w : World) (e : Ending) (w' : World) : Prop := ∃ v, e = .returned (bv t v) ∧ OwnU w.heap.size v l w' ∧ Below w.heap.size w w'
/-- The outbox that is made, its row so far, and the result's block. -/
def RowsR (t : Int) (m : List Ot) (u : Value) (w W : World) : Prop := Box (w.heap.size + 2) (bcs t u) W ∧ OwnU (w.heap.size + 3) u m W ∧ Box (w.heap.size + 1) (bcs 0 (.slice none 0 0)) W ∧ Below w.heap.size w W
theorem RowsR.below {t : Int} {m : List Ot} {u : Value} {w W W' : World} (h : RowsR t m u w W) (hb : Below W.heap.size W W') : RowsR t m u w W' := ⟨h.1.below hb, h.2.1.below hb, h.2.2.1.below hb, below_trans h.2.2.2 hb⟩
theorem RowsR.step {t : Int} {m m' : List Ot} {u v' : Value} {w W w3 : World} (h : RowsR t m u w W) (hown : OwnU (w.heap.size + 3) v' m' w3) (hg : W.grownBy w3 u.ownBlock) :
    RowsR t m' v' w (w3.setCell ⟨w.heap.size + 2, 1, none⟩ v') ∧ w3.cell? ⟨w.heap.size + 2, 1, none⟩ = some u ∧ w3.frozen? ⟨w.heap.size + 2, 1, none⟩ = false ∧ w.heap.size + 2 < w3.heap.size := by
  have hl := h.2.1.lies
  have ne : ∀ b, b < w.heap.size + 3 → some b ≠ u.ownBlock := fun b hb e => by have := (hl b e.symm).1; omega
  have h1 := Box.keptN h.1 hg (ne _ (by omega))
  have h2 := Box.keptN h.2.2.1 hg (ne _ (by omega))
  refine ⟨⟨box_put h1 1 v' (by simp [bcs]), hown.far (by omega) 1 v', box_set_other h2 (by omega) v', ?_⟩, (box2 h1).2, (frz2 h1).2, h1.1⟩
  exact (h.2.2.2.grown hg h.2.2.2.size (fun j hj => by have := (hl j hj).1; omega)).setCell (p := ⟨w.heap.size + 2, 1, none⟩) (show w.heap.size ≤ w.heap.size + 2 by omega) v'
theorem len_le (l : List Ot) (p : Ot → Bool) (k : Nat) : ((l.take k).filter p).length ≤ l.length := Nat.le_trans (List.length_filter_le _ _) (by rw [List.length_take]; omega)

set_option maxRecDepth 100000 in
set_option maxHeartbeats 2000000 in
theorem refDone_any {v : Value} {l : List Ot} {w : World} (t y : Int) (h : URow w v l) (hl : l.length ≤ 1000) : Calls Try.prog 20 #[bv t v, .int .i64 y] w (RefE t (done l y) w) := by
  obtain ⟨a, cap, rfl⟩ := h.slice
  have H := Lib.hid h
  have HL := Lib.hid hl
  obtain ⟨hx0, hx1⟩ := two_boxes w (bcs t (.slice a l.length cap)) (bcs 0 (.slice none 0 0)) 24 24
  have hb0 := two_al w (.cells #[.int .i64 t, .slice a l.length cap] 24) (.cells #[.int .i64 0, .slice none 0 0] 24)
  obtain ⟨W0, hW0⟩ : ∃ W, (w.alloc (.cells #[.int .i64 t, .slice a l.length cap] 24)).alloc (.cells #[.int .i64 0, .slice none 0 0] 24) = W := ⟨_, rfl⟩
  have HX0 : Hid (Box w.heap.size (bcs t (.slice a l.length cap)) W0) := Lib.hid (hW0 ▸ hx0)
  have HR0 : Hid (Box (w.heap.size + 1) (bcs 0 (.slice none 0 0)) W0) := Lib.hid (hW0 ▸ hx1)
  have HB0 : Hid (Below w.heap.size w W0) := Lib.hid (hW0 ▸ hb0)
  have hsz0 : W0.heap.size = w.heap.size + 2 := by rw [← hW0]; simp
  have hbo := Box.made W0 (bcs t (.slice none 0 0)) 24
  have hbl := al W0 (.cells #[.int .i64 t, .slice none 0 0] 24)
  obtain ⟨W1, hW1⟩ : ∃ W, W0.alloc (.cells #[.int .i64 t, .slice none 0 0] 24) = W := ⟨_, rfl⟩
  have HS1 : Hid (RowsR t [] (.slice none 0 0) w W1) := Lib.hid (by
    rw [← hW1]
    rw [hsz0] at hbo
    exact ⟨hbo, OwnU.nil _ _, HR0.out.below hbl, below_trans HB0.out hbl⟩)
  have hbl1 : Below W0.heap.size W0 W1 := hW1 ▸ hbl
  have HX1 := Lib.hid (HX0.out.below hbl1)
  unfold bv
  have HW1 := Lib.hid hW1
  have HSZ := Lib.hid hsz0
  clear h hl hx0 hx1 hb0 hbo hbl hbl1 hW1 hsz0
  go_enter Try.func20, Try.ntmps20
  go_upto_region 1 with (fail)
  clear hW0
  obtain ⟨c0, c1⟩ := box2 HX0.out
  have hs0 := HX0.out.1
  go_upto_region 2 with (fail)
  rw [HW1.out]
  simp only [HSZ.out]
  clear HW1 HSZ c0 c1 hs0
  obtain ⟨c0, c1⟩ := box2 HX1.out
  have hs0 := HX1.out.1
  go_wp2
  clear c0 c1 hs0
  go_loopw [7, 14] (fun _ i wr => ∃ (k : Nat) (u : Value), k ≤ l.length ∧ i = .int .i64 k ∧ RowsR t ((l.take k).filter (fun x => !keyB y x)) u w wr) (fun _ i _ => l.length - (Go.RowKit.intOf i).toNat)
  case atStart => exact ⟨0, _, Nat.zero_le _, rfl, HS1.out⟩
  case round =>
    obtain ⟨k, u, hk, rfl, hr⟩ := hrel
    obtain ⟨ua, un, uc, rfl⟩ : ∃ a n c, u = .slice a n c := (by obtain ⟨a', c', e⟩ := hr.2.1.row.slice; exact ⟨a', _, c', e⟩)
    have HR := Lib.hid hr
    clear hr HS1
    by_cases hlt : k < l.length
    · obtain ⟨b, off, rfl, hlc, hcap, hb, k0, k1, k2, k3⟩ := (H.out.below HR.out.2.2.2).at hlt
      have HFT := Lib.hid (filter_take l (fun x => !keyB y x) hlt)
      have HFL := Lib.hid (len_le l (fun x => !keyB y x) k)
      generalize l[k] = x at *
      have hba := al wr (.cells #[.int .i64 x.y, .int .i64 x.k, .int .i64 x.o, .int .i64 x.d] 30)
      obtain ⟨W2, hW2⟩ : ∃ W, wr.alloc (.cells #[.int .i64 x.y, .int .i64 x.k, .int .i64 x.o, .int .i64 x.d] 30) = W := ⟨_, rfl⟩
      have hbx : Box wr.heap.size (ocs x) W2 := hW2 ▸ Box.made wr (ocs x) 30
      rw [hW2] at hba
      have HR2 := Lib.hid (HR.out.below hba)
      obtain ⟨d0, d1, d2, d3⟩ := box4 hbx
      have hds := hbx.1
      by_cases h1 : x.y = y
      · have h2 : (x.y != y) = false := by simpa using h1
        have HR3 := Lib.hid (show RowsR t ((l.take (k + 1)).filter (fun x => !keyB y x)) (.slice ua un uc) w W2 by rw [HFT.out, keyB_t.2 h1, if_neg (by decide)]; exact HR2.out)
        clear h1 hba hbx
        go_upto_region 5 with (fail)
        try rw [hW2]
        clear hW2
        go_wp2_with fail
        go_roundw
        case rel => exact ⟨k + 1, _, by omega, by go_num, HR3.out⟩
        case measure => simp [Go.RowKit.intOf]; omega
      · have h2 : (x.y != y) = true := by simpa using h1
        have HFT2 : Hid ((l.take (k + 1)).filter (fun x => !keyB y x) = (l.take k).filter (fun x => !keyB y x) ++ [x]) := Lib.hid (by rw [HFT.out, keyB_f.2 h1, if_pos (by decide)])
        obtain ⟨f0, f1⟩ := box2 HR2.out.1
        have hfs := HR2.out.1.1
        have hbb := al W2 (.cells #[.int .i64 x.y, .int .i64 x.k, .int .i64 x.o, .int .i64 x.d] 30)
        have HONE := Lib.hid (URow.one W2 x)
        have HR3 := Lib.hid (HR2.out.below hbb)
        have hsz : w.heap.size + 3 ≤ (W2.alloc (.cells #[.int .i64 x.y, .int .i64 x.k, .int .i64 x.o, .int .i64 x.d] 30)).heap.size := HR3.out.1.1
        clear h1 hba hbx hbb
        go_upto_region 5 with (fail)
        try rw [hW2]
        clear hW2
        go_wp2_with (at_builtin; refine wpList_append_U rfl _ _ rfl (w.heap.size + 3) _ ((l.take k).filter (fun x => !keyB y x)) rfl HR3.out.2.1 _ [x] rfl HONE.out (by have := HFL.out; have := HL.out; omega) (by simp) hsz ?_)
        intro v' w3 hown hbel hg
        obtain ⟨va, vn, vc, rfl⟩ : ∃ a n c, v' = .slice a n c := (by obtain ⟨a', c', e⟩ := hown.row.slice; exact ⟨a', _, c', e⟩)
        obtain ⟨hst, q0, q1, q2⟩ := HR3.out.step hown hg
        have HR4 := Lib.hid (show RowsR t ((l.take (k + 1)).filter (fun x => !keyB y x)) (.slice va vn vc) w _ by rw [HFT2.out]; exact hst)
        clear hown hbel hg hst
        go_wp2_with fail
        go_roundw
        case rel => exact ⟨k + 1, _, by omega, by go_num, HR4.out⟩
        case measure => simp [intOf]; omega
    · obtain rfl : k = l.length := by omega
      have HLL : Hid ((l.take l.length).filter (fun x => !keyB y x) = done l y) := Lib.hid (by rw [List.take_length]; rfl)
      obtain ⟨f0, f1⟩ := box2 HR.out.1
      have hfs := HR.out.1.1
      obtain ⟨y0, y1⟩ := box2 HR.out.2.2.1
      obtain ⟨z0, z1⟩ := frz2 HR.out.2.2.1
      have hsz := HR.out.2.2.1.1
      have HE := Lib.hid (below_two (b := w.heap.size + 1) (.int .i64 t) (.slice ua un uc) HR.out.2.2.2 (by omega))
      have HO := Lib.hid (((HR.out.2.1.far (g := w.heap.size + 1) (by omega) 0 (.int .i64 t)).far (g := w.heap.size + 1) (by omega) 1 (.slice ua un uc)).mono (B' := w.heap.size) (by omega))
      go_wp2
      exact bodyPost_ret (by simp [results, Try.results20, go_sem, bv, y0, y1]) rfl ⟨.slice ua un uc, rfl, by rw [← HLL.out]; exact HO.out, HE.out⟩

/-- A row is returned. -/
def RowE (l : List Ot) (w : World) (e : Ending) (w' : World) : Prop := ∃ v, e = .returned v ∧ OwnU w.heap.size v l w' ∧ Below w.heap.size w w'
def FilR (p : Ot → Bool) (l : List Ot) (k : Nat) (u : Value) (w W : World) : Prop := OwnU w.heap.size u ((l.take k).filter p) W ∧ Below w.heap.size w W
set_option maxRecDepth 100000 in
set_option maxHeartbeats 2000000 in
theorem refTold_any {v : Value} {l : List Ot} {w : World} (t n : Int) (h : URow w v l) (hl : l.length ≤ 1000) : Calls Try.prog 18 #[bv t v, .int .i64 n] w (RowE (told l n) w) := by
  obtain ⟨a, cap, rfl⟩ := h.slice
  have H := Lib.hid h
  have HL := Lib.hid hl
  have hba := al w (.cells #[.int .i64 t, .slice a l.length cap] 24)
  have hbx := Box.made w (bcs t (.slice a l.length cap)) 24
  have hbb := al (w.alloc (.cells #[.int .i64 t, .slice a l.length cap] 24)) (.cells #[] 30)
  have hem := OwnU.empty (B := w.heap.size) (w.alloc (.cells #[.int .i64 t, .slice a l.length cap] 24)) (by simp)
  obtain ⟨W0, hW0⟩ : ∃ W, (w.alloc (.cells #[.int .i64 t, .slice a l.length cap] 24)).alloc (.cells #[] 30) = W := ⟨_, rfl⟩
  simp only [World.size_alloc] at hem
  have HX0 : Hid (Box w.heap.size (bcs t (.slice a l.length cap)) W0) := Lib.hid (hW0 ▸ hbx.below hbb)
  have HE0 : Hid (OwnU w.heap.size (.slice (some ⟨w.heap.size + 1, 0, none⟩) 0 0) [] W0) := Lib.hid (hW0 ▸ hem)
  have HB0 : Hid (Below w.heap.size w W0) := Lib.hid (hW0 ▸ below_trans hba hbb)
  unfold bv
  clear h hl hba hbx hbb hem
  go_enter Try.func18, Try.ntmps18
  go_upto_region 2 with (fail)
  clear hW0
  obtain ⟨c0, c1⟩ := box2 HX0.out
  have hs0 := HX0.out.1
  go_wp2
  clear c0 c1 hs0
  go_loopw [5, 7, 12] (fun u _ i wr => ∃ k : Nat, k ≤ l.length ∧ i = .int .i64 k ∧ FilR (fun x => decide (x.d ≤ n)) l k u w wr) (fun _ _ i _ => l.length - (Go.RowKit.intOf i).toNat)
  case atStart => exact ⟨0, Nat.zero_le _, rfl, HE0.out, HB0.out⟩
  case round =>
    obtain ⟨k, hk, rfl, hr⟩ := hrel
    obtain ⟨ua, un, uc, rfl⟩ : ∃ a n c, u5 = .slice a n c := (by obtain ⟨a', c', e⟩ := hr.1.row.slice; exact ⟨a', _, c', e⟩)
    have HR := Lib.hid hr
    clear hr
    by_cases hlt : k < l.length
    · obtain ⟨b, off, rfl, hlc, hcap, hb, k0, k1, k2, k3⟩ := (H.out.below HR.out.2).at hlt
      have HFT := Lib.hid (filter_take l (fun x => decide (x.d ≤ n)) hlt)
      have HFL := Lib.hid (len_le l (fun x => decide (x.d ≤ n)) k)
      generalize l[k] = x at *
      have hba := al wr (.cells #[.int .i64 x.y, .int .i64 x.k, .int .i64 x.o, .int .i64 x.d] 30)
      obtain ⟨W2, hW2⟩ : ∃ W, wr.alloc (.cells #[.int .i64 x.y, .int .i64 x.k, .int .i64 x.o, .int .i64 x.d] 30) = W := ⟨_, rfl⟩
      have hbx : Box wr.heap.size (ocs x) W2 := hW2 ▸ Box.made wr (ocs x) 30
      rw [hW2] at hba
      have HR2 := Lib.hid (show OwnU w.heap.size (.slice ua un uc) ((l.take k).filter (fun x => decide (x.d ≤ n))) W2 ∧ Below w.heap.size w W2 from ⟨HR.out.1.below hba, below_trans HR.out.2 hba⟩)
      obtain ⟨d0, d1, d2, d3⟩ := box4 hbx
      have hds := hbx.1
      by_cases h1 : x.d ≤ n
      · have HFT2 : Hid ((l.take (k + 1)).filter (fun x => decide (x.d ≤ n)) = (l.take k).filter (fun x => decide (x.d ≤ n)) ++ [x]) := Lib.hid (by rw [HFT.out, decide_eq_true h1, if_pos rfl])
        have hbb := al W2 (.cells #[.int .i64 x.y, .int .i64 x.k, .int .i64 x.o, .int .i64 x.d] 30)
        have HONE := Lib.hid (URow.one W2 x)
        have HR3 := Lib.hid (show OwnU w.heap.size (.slice ua un uc) ((l.take k).filter (fun x => decide (x.d ≤ n))) _ ∧ Below w.heap.size w _ from ⟨HR2.out.1.below hbb, below_trans HR2.out.2 hbb⟩)
        have hsz := HR3.out.2.size
        clear hba hbx hbb
        go_upto_region 5 with (fail)
        try rw [hW2]
        clear hW2
        go_wp2_with (at_builtin; refine wpList_append_U rfl _ _ rfl w.heap.size _ ((l.take k).filter (fun x => decide (x.d ≤ n))) rfl HR3.out.1 _ [x] rfl HONE.out (by have := HFL.out; have := HL.out; omega) (by simp) hsz ?_)
        intro v' w3 hown hbel hg
        obtain ⟨va, vn, vc, rfl⟩ : ∃ a n c, v' = .slice a n c := (by obtain ⟨a', c', e⟩ := hown.row.slice; exact ⟨a', _, c', e⟩)
        have HR4 := Lib.hid (show FilR (fun x => decide (x.d ≤ n)) l (k + 1) (.slice va vn vc) w w3 from ⟨by rw [HFT2.out]; exact hown, HR3.out.2.trans hbel⟩)
        clear hown hbel hg
        go_wp2_with fail
        go_roundw
        case rel => exact ⟨k + 1, by omega, by go_num, HR4.out⟩
        case measure => simp [intOf]; omega
      · have HR3 := Lib.hid (show FilR (fun x => decide (x.d ≤ n)) l (k + 1) (.slice ua un uc) w W2 from ⟨by rw [HFT.out, decide_eq_false h1, if_neg (by decide)]; exact HR2.out.1, HR2.out.2⟩)
        clear hba hbx
        go_upto_region 5 with (fail)
        try rw [hW2]
        clear hW2
        go_wp2_with fail
        go_roundw
        case rel => exact ⟨k + 1, by omega, by go_num, HR3.out⟩
        case measure => simp [Go.RowKit.intOf]; omega
    · obtain rfl : k = l.length := by omega
      have HLL : Hid ((l.take l.length).filter (fun x => decide (x.d ≤ n)) = told l n) := Lib.hid (by rw [List.take_length]; rfl)
      go_wp2_with fail
      go_ret
      exact ⟨_, rfl, by rw [← HLL.out]; exact HR.out.1, HR.out.2⟩

set_option maxRecDepth 100000 in
set_option maxHeartbeats 4000000 in
theorem refTell_lo {v : Value} {l : List Ot} {w : World} (t n : Int) (hn0 : 0 ≤ n) (hn1 : n ≤ 1099511627776) (h1 : ¬ (n + 10 > 1099511627776)) (h : URow w v l) (hl : l.length ≤ 1000) : Calls Try.prog 16 #[bv t v, .int .i64 n] w (RefE t (tell l n) w) := by
  obtain ⟨a, cap, rfl⟩ := h.slice
  have H := Lib.hid h
  have HL := Lib.hid hl
  obtain ⟨hx0, hx1⟩ := two_boxes w (bcs t (.slice a l.length cap)) (bcs 0 (.slice none 0 0)) 24 24
  have hb0 := two_al w (.cells #[.int .i64 t, .slice a l.length cap] 24) (.cells #[.int .i64 0, .slice none 0 0] 24)
  obtain ⟨W0, hW0⟩ : ∃ W, (w.alloc (.cells #[.int .i64 t, .slice a l.length cap] 24)).alloc (.cells #[.int .i64 0, .slice none 0 0] 24) = W := ⟨_, rfl⟩
  have HX0 : Hid (Box w.heap.size (bcs t (.slice a l.length cap)) W0) := Lib.hid (hW0 ▸ hx0)
  have HR0 : Hid (Box (w.heap.size + 1) (bcs 0 (.slice none 0 0)) W0) := Lib.hid (hW0 ▸ hx1)
  have HB0 : Hid (Below w.heap.size w W0) := Lib.hid (hW0 ▸ hb0)
  have hsz0 : W0.heap.size = w.heap.size + 2 := by rw [← hW0]; simp
  have hbo := Box.made W0 (bcs t (.slice none 0 0)) 24
  have hbl := al W0 (.cells #[.int .i64 t, .slice none 0 0] 24)
  obtain ⟨W1, hW1⟩ : ∃ W, W0.alloc (.cells #[.int .i64 t, .slice none 0 0] 24) = W := ⟨_, rfl⟩
  have HS1 : Hid (RowsR t [] (.slice none 0 0) w W1) := Lib.hid (by
    rw [← hW1]
    rw [hsz0] at hbo
    exact ⟨hbo, OwnU.nil _ _, HR0.out.below hbl, below_trans HB0.out hbl⟩)
  have hbl1 : Below W0.heap.size W0 W1 := hW1 ▸ hbl
  have HX1 := Lib.hid (HX0.out.below hbl1)
  unfold bv
  have HW1 := Lib.hid hW1
  have HSZ := Lib.hid hsz0
  clear h hl hx0 hx1 hb0 hbo hbl hbl1 hW1 hsz0
  have HNX : Hid (next n = n + 10) := Lib.hid (by unfold next; first | (rw [if_pos (by omega)]) | (rw [if_neg (by omega)]))
  go_enter Try.func16, Try.ntmps16
  go_upto_region 1 with (fail)
  clear hW0
  obtain ⟨c0, c1⟩ := box2 HX0.out
  have hs0 := HX0.out.1
  go_upto_region 5 with (fail)
  clear h1
  rw [HW1.out]
  simp only [HSZ.out]
  clear HW1 HSZ c0 c1 hs0
  obtain ⟨c0, c1⟩ := box2 HX1.out
  have hs0 := HX1.out.1
  go_wp2
  clear c0 c1 hs0
  go_loopw [8, 19] (fun _ i wr => ∃ (k : Nat) (u : Value), k ≤ l.length ∧ i = .int .i64 k ∧ RowsR t ((l.take k).map (later n)) u w wr) (fun _ i _ => l.length - (Go.RowKit.intOf i).toNat)
  case atStart => exact ⟨0, _, Nat.zero_le _, rfl, HS1.out⟩
  case round =>
    obtain ⟨k, u, hk, rfl, hr⟩ := hrel
    obtain ⟨ua, un, uc, rfl⟩ : ∃ a n c, u = .slice a n c := (by obtain ⟨a', c', e⟩ := hr.2.1.row.slice; exact ⟨a', _, c', e⟩)
    have HR := Lib.hid hr
    clear hr HS1
    by_cases hlt : k < l.length
    · obtain ⟨b, off, rfl, hlc, hcap, hb, k0, k1, k2, k3⟩ := (H.out.below HR.out.2.2.2).at hlt
      have HFT := Lib.hid (map_take l (later n) hlt)
      have HFL : Hid (((l.take k).map (later n)).length ≤ l.length) := Lib.hid (by rw [List.length_map, List.length_take]; omega)
      generalize l[k] = x at *
      have hba := al wr (.cells #[.int .i64 x.y, .int .i64 x.k, .int .i64 x.o, .int .i64 x.d] 30)
      obtain ⟨W2, hW2⟩ : ∃ W, wr.alloc (.cells #[.int .i64 x.y, .int .i64 x.k, .int .i64 x.o, .int .i64 x.d] 30) = W := ⟨_, rfl⟩
      have hbx : Box wr.heap.size (ocs x) W2 := hW2 ▸ Box.made wr (ocs x) 30
      rw [hW2] at hba
      have HR2 := Lib.hid (HR.out.below hba)
      have HX2 := Lib.hid hbx
      obtain ⟨d0, d1, d2, d3⟩ := box4 hbx
      have hds := hbx.1
      obtain ⟨e0, e1, e2, e3⟩ := frz4 hbx
      have hgt : w.heap.size + 2 < wr.heap.size := HR.out.1.1
      have hlies := HR.out.2.1.lies
      go_upto_region 8 with (fail)
      try rw [hW2]
      clear hW2 hba hbx
      generalize wr.heap.size = bo at *
      by_cases h1 : x.d ≤ n
      · have hbx : Box bo (ocs (later n x)) (W2.setCell ⟨bo, 3, none⟩ (.int .i64 (n + 10))) := by
          unfold later
          rw [if_pos h1, ← HNX.out]
          exact box_put HX2.out 3 (.int .i64 (next n)) (by simp [ocs])
        have hr : RowsR t ((l.take k).map (later n)) (.slice ua un uc) w (W2.setCell ⟨bo, 3, none⟩ (.int .i64 (n + 10))) := ⟨box_set_other HR2.out.1 (by omega) _, HR2.out.2.1.keptN (grownBy_set W2 bo 3 (.int .i64 (n + 10))) (fun r e e2 => by cases e; have := (hlies _ e2).2; omega), box_set_other HR2.out.2.2.1 (by omega) _, HR2.out.2.2.2.setCell (p := ⟨bo, 3, none⟩) (show w.heap.size ≤ bo by omega) _⟩
        have HBX := Lib.hid hbx
        have HRR := Lib.hid hr
        clear hbx hr
        go_upto_region 10 with (fail)
        have hbx := HBX.out
        have hr := HRR.out
        generalize (W2.setCell ⟨bo, 3, none⟩ (.int .i64 (n + 10))) = W3 at hbx hr ⊢
        clear d0 d1 d2 d3 hds e0 e1 e2 e3 h1 HBX HRR HX2 HR2
        generalize later n x = z at *
        obtain ⟨d0, d1, d2, d3⟩ := box4 hbx
        have hds := hbx.1
        obtain ⟨f0, f1⟩ := box2 hr.1
        have hfs := hr.1.1
        have hbb := al W3 (.cells #[.int .i64 z.y, .int .i64 z.k, .int .i64 z.o, .int .i64 z.d] 30)
        have HONE := Lib.hid (URow.one W3 z)
        have HR4 := Lib.hid (hr.below hbb)
        have hsz : w.heap.size + 3 ≤ (W3.alloc (.cells #[.int .i64 z.y, .int .i64 z.k, .int .i64 z.o, .int .i64 z.d] 30)).heap.size := HR4.out.1.1
        clear hbb hr hbx
        go_wp2_with (at_builtin; refine wpList_append_U rfl _ _ rfl (w.heap.size + 3) _ ((l.take k).map (later n)) rfl HR4.out.2.1 _ [z] rfl HONE.out (by have := HFL.out; have := HL.out; omega) (by simp) hsz ?_)
        intro v' w3 hown hbel hg
        obtain ⟨va, vn, vc, rfl⟩ : ∃ a n c, v' = .slice a n c := (by obtain ⟨a', c', e⟩ := hown.row.slice; exact ⟨a', _, c', e⟩)
        obtain ⟨hst, q0, q1, q2⟩ := HR4.out.step hown hg
        have HR5 := Lib.hid (show RowsR t ((l.take (k + 1)).map (later n)) (.slice va vn vc) w _ by rw [HFT.out, List.map_take]; exact hst)
        clear hown hbel hg hst
        go_wp2_with fail
        go_roundw
        case rel => exact ⟨k + 1, _, by omega, by go_num, HR5.out⟩
        case measure => simp [intOf]; omega
      · have hbx : Box bo (ocs (later n x)) W2 := by
          unfold later
          rw [if_neg h1]
          exact HX2.out
        have hr := HR2.out
        go_upto_region 10 with (fail)
        generalize hW3 : W2 = W3 at hbx hr ⊢
        clear d0 d1 d2 d3 hds e0 e1 e2 e3 h1 HX2 HR2 hW3
        generalize later n x = z at *
        obtain ⟨d0, d1, d2, d3⟩ := box4 hbx
        have hds := hbx.1
        obtain ⟨f0, f1⟩ := box2 hr.1
        have hfs := hr.1.1
        have hbb := al W3 (.cells #[.int .i64 z.y, .int .i64 z.k, .int .i64 z.o, .int .i64 z.d] 30)
        have HONE := Lib.hid (URow.one W3 z)
        have HR4 := Lib.hid (hr.below hbb)
        have hsz : w.heap.size + 3 ≤ (W3.alloc (.cells #[.int .i64 z.y, .int .i64 z.k, .int .i64 z.o, .int .i64 z.d] 30)).heap.size := HR4.out.1.1
        clear hbb hr hbx
        go_wp2_with (at_builtin; refine wpList_append_U rfl _ _ rfl (w.heap.size + 3) _ ((l.take k).map (later n)) rfl HR4.out.2.1 _ [z] rfl HONE.out (by have := HFL.out; have := HL.out; omega) (by simp) hsz ?_)
        intro v' w3 hown hbel hg
        obtain ⟨va, vn, vc, rfl⟩ : ∃ a n c, v' = .slice a n c := (by obtain ⟨a', c', e⟩ := hown.row.slice; exact ⟨a', _, c', e⟩)
        obtain ⟨hst, q0, q1, q2⟩ := HR4.out.step hown hg
        have HR5 := Lib.hid (show RowsR t ((l.take (k + 1)).map (later n)) (.slice va vn vc) w _ by rw [HFT.out, List.map_take]; exact hst)
        clear hown hbel hg hst
        go_wp2_with fail
        go_roundw
        case rel => exact ⟨k + 1, _, by omega, by go_num, HR5.out⟩
        case measure => simp [intOf]; omega
    · obtain rfl : k = l.length := by omega
      have HLL : Hid ((l.take l.length).map (later n) = tell l n) := Lib.hid (by rw [List.take_length]; rfl)
      obtain ⟨f0, f1⟩ := box2 HR.out.1
      have hfs := HR.out.1.1
      obtain ⟨y0, y1⟩ := box2 HR.out.2.2.1
      obtain ⟨z0, z1⟩ := frz2 HR.out.2.2.1
      have hsz := HR.out.2.2.1.1
      have HE := Lib.hid (below_two (b := w.heap.size + 1) (.int .i64 t) (.slice ua un uc) HR.out.2.2.2 (by omega))
      have HO := Lib.hid (((HR.out.2.1.far (g := w.heap.size + 1) (by omega) 0 (.int .i64 t)).far (g := w.heap.size + 1) (by omega) 1 (.slice ua un uc)).mono (B' := w.heap.size) (by omega))
      go_wp2
      exact bodyPost_ret (by simp [results, Try.results16, go_sem, bv, y0, y1]) rfl ⟨.slice ua un uc, rfl, by rw [← HLL.out]; exact HO.out, HE.out⟩

set_option maxRecDepth 100000 in
set_option maxHeartbeats 4000000 in
theorem refTell_hi {v : Value} {l : List Ot} {w : World} (t n : Int) (hn0 : 0 ≤ n) (hn1 : n ≤ 1099511627776) (h1 : n + 10 > 1099511627776) (h : URow w v l) (hl : l.length ≤ 1000) : Calls Try.prog 16 #[bv t v, .int .i64 n] w (RefE t (tell l n) w) := by
  obtain ⟨a, cap, rfl⟩ := h.slice
  have H := Lib.hid h
  have HL := Lib.hid hl
  obtain ⟨hx0, hx1⟩ := two_boxes w (bcs t (.slice a l.length cap)) (bcs 0 (.slice none 0 0)) 24 24
  have hb0 := two_al w (.cells #[.int .i64 t, .slice a l.length cap] 24) (.cells #[.int .i64 0, .slice none 0 0] 24)
  obtain ⟨W0, hW0⟩ : ∃ W, (w.alloc (.cells #[.int .i64 t, .slice a l.length cap] 24)).alloc (.cells #[.int .i64 0, .slice none 0 0] 24) = W := ⟨_, rfl⟩
  have HX0 : Hid (Box w.heap.size (bcs t (.slice a l.length cap)) W0) := Lib.hid (hW0 ▸ hx0)
  have HR0 : Hid (Box (w.heap.size + 1) (bcs 0 (.slice none 0 0)) W0) := Lib.hid (hW0 ▸ hx1)
  have HB0 : Hid (Below w.heap.size w W0) := Lib.hid (hW0 ▸ hb0)
  have hsz0 : W0.heap.size = w.heap.size + 2 := by rw [← hW0]; simp
  have hbo := Box.made W0 (bcs t (.slice none 0 0)) 24
  have hbl := al W0 (.cells #[.int .i64 t, .slice none 0 0] 24)
  obtain ⟨W1, hW1⟩ : ∃ W, W0.alloc (.cells #[.int .i64 t, .slice none 0 0] 24) = W := ⟨_, rfl⟩
  have HS1 : Hid (RowsR t [] (.slice none 0 0) w W1) := Lib.hid (by
    rw [← hW1]
    rw [hsz0] at hbo
    exact ⟨hbo, OwnU.nil _ _, HR0.out.below hbl, below_trans HB0.out hbl⟩)
  have hbl1 : Below W0.heap.size W0 W1 := hW1 ▸ hbl
  have HX1 := Lib.hid (HX0.out.below hbl1)
  unfold bv
  have HW1 := Lib.hid hW1
  have HSZ := Lib.hid hsz0
  clear h hl hx0 hx1 hb0 hbo hbl hbl1 hW1 hsz0
  have HNX : Hid (next n = 1099511627776) := Lib.hid (by unfold next; first | (rw [if_pos (by omega)]) | (rw [if_neg (by omega)]))
  go_enter Try.func16, Try.ntmps16
  go_upto_region 1 with (fail)
  clear hW0
  obtain ⟨c0, c1⟩ := box2 HX0.out
  have hs0 := HX0.out.1
  go_upto_region 5 with (fail)
  clear h1
  rw [HW1.out]
  simp only [HSZ.out]
  clear HW1 HSZ c0 c1 hs0
  obtain ⟨c0, c1⟩ := box2 HX1.out
  have hs0 := HX1.out.1
  go_wp2
  clear c0 c1 hs0
  go_loopw [8, 19] (fun _ i wr => ∃ (k : Nat) (u : Value), k ≤ l.length ∧ i = .int .i64 k ∧ RowsR t ((l.take k).map (later n)) u w wr) (fun _ i _ => l.length - (Go.RowKit.intOf i).toNat)
  case atStart => exact ⟨0, _, Nat.zero_le _, rfl, HS1.out⟩
  case round =>
    obtain ⟨k, u, hk, rfl, hr⟩ := hrel
    obtain ⟨ua, un, uc, rfl⟩ : ∃ a n c, u = .slice a n c := (by obtain ⟨a', c', e⟩ := hr.2.1.row.slice; exact ⟨a', _, c', e⟩)
    have HR := Lib.hid hr
    clear hr HS1
    by_cases hlt : k < l.length
    · obtain ⟨b, off, rfl, hlc, hcap, hb, k0, k1, k2, k3⟩ := (H.out.below HR.out.2.2.2).at hlt
      have HFT := Lib.hid (map_take l (later n) hlt)
      have HFL : Hid (((l.take k).map (later n)).length ≤ l.length) := Lib.hid (by rw [List.length_map, List.length_take]; omega)
      generalize l[k] = x at *
      have hba := al wr (.cells #[.int .i64 x.y, .int .i64 x.k, .int .i64 x.o, .int .i64 x.d] 30)
      obtain ⟨W2, hW2⟩ : ∃ W, wr.alloc (.cells #[.int .i64 x.y, .int .i64 x.k, .int .i64 x.o, .int .i64 x.d] 30) = W := ⟨_, rfl⟩
      have hbx : Box wr.heap.size (ocs x) W2 := hW2 ▸ Box.made wr (ocs x) 30
      rw [hW2] at hba
      have HR2 := Lib.hid (HR.out.below hba)
      have HX2 := Lib.hid hbx
      obtain ⟨d0, d1, d2, d3⟩ := box4 hbx
      have hds := hbx.1
      obtain ⟨e0, e1, e2, e3⟩ := frz4 hbx
      have hgt : w.heap.size + 2 < wr.heap.size := HR.out.1.1
      have hlies := HR.out.2.1.lies
      go_upto_region 8 with (fail)
      try rw [hW2]
      clear hW2 hba hbx
      generalize wr.heap.size = bo at *
      by_cases h1 : x.d ≤ n
      · have hbx : Box bo (ocs (later n x)) (W2.setCell ⟨bo, 3, none⟩ (.int .i64 (1099511627776))) := by
          unfold later
          rw [if_pos h1, ← HNX.out]
          exact box_put HX2.out 3 (.int .i64 (next n)) (by simp [ocs])
        have hr : RowsR t ((l.take k).map (later n)) (.slice ua un uc) w (W2.setCell ⟨bo, 3, none⟩ (.int .i64 (1099511627776))) := ⟨box_set_other HR2.out.1 (by omega) _, HR2.out.2.1.keptN (grownBy_set W2 bo 3 (.int .i64 (1099511627776))) (fun r e e2 => by cases e; have := (hlies _ e2).2; omega), box_set_other HR2.out.2.2.1 (by omega) _, HR2.out.2.2.2.setCell (p := ⟨bo, 3, none⟩) (show w.heap.size ≤ bo by omega) _⟩
        have HBX := Lib.hid hbx
        have HRR := Lib.hid hr
        clear hbx hr
        go_upto_region 10 with (fail)
        have hbx := HBX.out
        have hr := HRR.out
        generalize (W2.setCell ⟨bo, 3, none⟩ (.int .i64 (1099511627776))) = W3 at hbx hr ⊢
        clear d0 d1 d2 d3 hds e0 e1 e2 e3 h1 HBX HRR HX2 HR2
        generalize later n x = z at *
        obtain ⟨d0, d1, d2, d3⟩ := box4 hbx
        have hds := hbx.1
        obtain ⟨f0, f1⟩ := box2 hr.1
        have hfs := hr.1.1
        have hbb := al W3 (.cells #[.int .i64 z.y, .int .i64 z.k, .int .i64 z.o, .int .i64 z.d] 30)
        have HONE := Lib.hid (URow.one W3 z)
        have HR4 := Lib.hid (hr.below hbb)
        have hsz : w.heap.size + 3 ≤ (W3.alloc (.cells #[.int .i64 z.y, .int .i64 z.k, .int .i64 z.o, .int .i64 z.d] 30)).heap.size := HR4.out.1.1
        clear hbb hr hbx
        go_wp2_with (at_builtin; refine wpList_append_U rfl _ _ rfl (w.heap.size + 3) _ ((l.take k).map (later n)) rfl HR4.out.2.1 _ [z] rfl HONE.out (by have := HFL.out; have := HL.out; omega) (by simp) hsz ?_)
        intro v' w3 hown hbel hg
        obtain ⟨va, vn, vc, rfl⟩ : ∃ a n c, v' = .slice a n c := (by obtain ⟨a', c', e⟩ := hown.row.slice; exact ⟨a', _, c', e⟩)
        obtain ⟨hst, q0, q1, q2⟩ := HR4.out.step hown hg
        have HR5 := Lib.hid (show RowsR t ((l.take (k + 1)).map (later n)) (.slice va vn vc) w _ by rw [HFT.out, List.map_take]; exact hst)
        clear hown hbel hg hst
        go_wp2_with fail
        go_roundw
        case rel => exact ⟨k + 1, _, by omega, by go_num, HR5.out⟩
        case measure => simp [intOf]; omega
      · have hbx : Box bo (ocs (later n x)) W2 := by
          unfold later
          rw [if_neg h1]
          exact HX2.out
        have hr := HR2.out
        go_upto_region 10 with (fail)
        generalize hW3 : W2 = W3 at hbx hr ⊢
        clear d0 d1 d2 d3 hds e0 e1 e2 e3 h1 HX2 HR2 hW3
        generalize later n x = z at *
        obtain ⟨d0, d1, d2, d3⟩ := box4 hbx
        have hds := hbx.1
        obtain ⟨f0, f1⟩ := box2 hr.1
        have hfs := hr.1.1
        have hbb := al W3 (.cells #[.int .i64 z.y, .int .i64 z.k, .int .i64 z.o, .int .i64 z.d] 30)
        have HONE := Lib.hid (URow.one W3 z)
        have HR4 := Lib.hid (hr.below hbb)
        have hsz : w.heap.size + 3 ≤ (W3.alloc (.cells #[.int .i64 z.y, .int .i64 z.k, .int .i64 z.o, .int .i64 z.d] 30)).heap.size := HR4.out.1.1
        clear hbb hr hbx
        go_wp2_with (at_builtin; refine wpList_append_U rfl _ _ rfl (w.heap.size + 3) _ ((l.take k).map (later n)) rfl HR4.out.2.1 _ [z] rfl HONE.out (by have := HFL.out; have := HL.out; omega) (by simp) hsz ?_)
        intro v' w3 hown hbel hg
        obtain ⟨va, vn, vc, rfl⟩ : ∃ a n c, v' = .slice a n c := (by obtain ⟨a', c', e⟩ := hown.row.slice; exact ⟨a', _, c', e⟩)
        obtain ⟨hst, q0, q1, q2⟩ := HR4.out.step hown hg
        have HR5 := Lib.hid (show RowsR t ((l.take (k + 1)).map (later n)) (.slice va vn vc) w _ by rw [HFT.out, List.map_take]; exact hst)
        clear hown hbel hg hst
        go_wp2_with fail
        go_roundw
        case rel => exact ⟨k + 1, _, by omega, by go_num, HR5.out⟩
        case measure => simp [intOf]; omega
    · obtain rfl : k = l.length := by omega
      have HLL : Hid ((l.take l.length).map (later n) = tell l n) := Lib.hid (by rw [List.take_length]; rfl)
      obtain ⟨f0, f1⟩ := box2 HR.out.1
      have hfs := HR.out.1.1
      obtain ⟨y0, y1⟩ := box2 HR.out.2.2.1
      obtain ⟨z0, z1⟩ := frz2 HR.out.2.2.1
      have hsz := HR.out.2.2.1.1
      have HE := Lib.hid (below_two (b := w.heap.size + 1) (.int .i64 t) (.slice ua un uc) HR.out.2.2.2 (by omega))
      have HO := Lib.hid (((HR.out.2.1.far (g := w.heap.size + 1) (by omega) 0 (.int .i64 t)).far (g := w.heap.size + 1) (by omega) 1 (.slice ua un uc)).mono (B' := w.heap.size) (by omega))
      go_wp2
      exact bodyPost_ret (by simp [results, Try.results16, go_sem, bv, y0, y1]) rfl ⟨.slice ua un uc, rfl, by rw [← HLL.out]; exact HO.out, HE.out⟩

theorem refTell_any {v : Value} {l : List Ot} {w : World} (t n : Int) (hn0 : 0 ≤ n) (hn1 : n ≤ 1099511627776) (h : URow w v l) (hl : l.length ≤ 1000) : Calls Try.prog 16 #[bv t v, .int .i64 n] w (RefE t (tell l n) w) := by
  by_cases h1 : n + 10 > 1099511627776
  · exact refTell_hi t n hn0 hn1 h1 h hl
  · exact refTell_lo t n hn0 hn1 h1 h hl
end Go.Proofs.Ytlhepocjcdbhjaa.Outbox
