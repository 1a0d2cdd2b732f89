/-
  The law's own few and alive; outboxes and acts of five ints among a law's arguments, opened.
-/
import Derived.Test.YtlhepocjcdbhjaaUTellC
import Derived.Deep.Slices
namespace Go.Proofs.Ytlhepocjcdbhjaa.Outbox
open Go.ChangeShapes Go.WideShapes Go.ChangeAt Go.RowKit Go.Shelf Go.Lib Go.Deep
open Go.Proofs.Ytlhepocjcdbhjaa.Queue (Box al dr below_trans ret_bool BoolB)

/-- Rows of what is told that came in. -/
def ArgU (w : World) (v : Value) : Prop := ∃ l, URow w v l
/-- An outbox is returned. -/
def FewE (t : Int) (l : List Ot) (w : World) (e : Ending) (w' : World) : Prop := ∃ v, e = .returned (bv t v) ∧ URow w' v l ∧ Below w.heap.size w w'
set_option maxRecDepth 100000 in
set_option maxHeartbeats 2000000 in
theorem few_any {v : Value} {l : List Ot} {w : World} (t : Int) (h : URow w v l) : Calls Try.prog 5 #[bv t v] w (FewE t (l.take 98) w) := by
  obtain ⟨a, cap, rfl⟩ := h.slice
  obtain ⟨_, hlc, hcap⟩ := URow.cap h
  obtain ⟨hx0, hx1⟩ := two_boxes w (bcs t (.slice a l.length cap)) (bcs 0 (.slice none 0 0)) 24 24
  have hb0 := two_al w (.cells #[.int .i64 t, .slice a l.length cap] 24) (.cells #[.int .i64 0, .slice none 0 0] 24)
  obtain ⟨W0, hW0⟩ : ∃ W, (w.alloc (.cells #[.int .i64 t, .slice a l.length cap] 24)).alloc (.cells #[.int .i64 0, .slice none 0 0] 24) = W := ⟨_, rfl⟩
  have HX0 : Hid (Box w.heap.size (bcs t (.slice a l.length cap)) W0) := Lib.hid (hW0 ▸ hx0)
  have HR0 : Hid (Box (w.heap.size + 1) (bcs 0 (.slice none 0 0)) W0) := Lib.hid (hW0 ▸ hx1)
  have HB0 : Hid (Below w.heap.size w W0) := Lib.hid (hW0 ▸ hb0)
  unfold bv
  clear hx0 hx1 hb0
  have hT : URow w (.slice a (min l.length 98) cap) (l.take 98) := by
    by_cases hc : 98 < l.length
    · rw [Nat.min_eq_right (by omega)]
      exact URow.take h (by omega)
    · rw [Nat.min_eq_left (by omega), List.take_of_length_le (by omega)]
      exact h
  have HT := Lib.hid hT
  have hm1 : (0 : Int) ≤ (min l.length 98 : Nat) := by omega
  have hm2 : ((min l.length 98 : Nat) : Int) ≤ cap := by omega
  have HM : Hid ((98 < l.length ∧ min l.length 98 = 98) ∨ (¬ 98 < l.length ∧ min l.length 98 = l.length)) := Lib.hid (by omega)
  generalize min l.length 98 = m at *
  clear h hT
  rcases HM.out with ⟨hc, rfl⟩ | ⟨hc, e⟩
  · go_enter Try.func5, Try.ntmps5
    go_upto_region 1 with (fail)
    clear hW0
    obtain ⟨c0, c1⟩ := box2 HX0.out
    have hs0 := HX0.out.1
    obtain ⟨y0, y1⟩ := box2 HR0.out
    obtain ⟨z0, z1⟩ := frz2 HR0.out
    have hsz := HR0.out.1
    have HE := Lib.hid (below_two (b := w.heap.size + 1) (.int .i64 t) (.slice a 98 cap) (below_trans HB0.out (dr W0)) (by omega))
    go_region
    all_goals go_wp2_with fail
    all_goals exact bodyPost_ret (by simp [results, Try.results5, go_sem, bv, y0, y1]) rfl ⟨.slice a 98 cap, rfl, HT.out.below HE.out, HE.out⟩
  · subst e
    go_enter Try.func5, Try.ntmps5
    go_upto_region 1 with (fail)
    clear hW0
    obtain ⟨c0, c1⟩ := box2 HX0.out
    have hs0 := HX0.out.1
    obtain ⟨y0, y1⟩ := box2 HR0.out
    obtain ⟨z0, z1⟩ := frz2 HR0.out
    have hsz := HR0.out.1
    have HE := Lib.hid (below_two (b := w.heap.size + 1) (.int .i64 t) (.slice a l.length cap) (below_trans HB0.out (dr W0)) (by omega))
    go_region
    all_goals go_wp2_with fail
    all_goals exact bodyPost_ret (by simp [results, Try.results5, go_sem, bv, y0, y1]) rfl ⟨.slice a l.length cap, rfl, HT.out.below HE.out, HE.out⟩

def one : Ot := ⟨1, 3, 7, 0⟩
set_option maxRecDepth 100000 in
set_option maxHeartbeats 1000000 in
theorem alive_any (w : World) : Calls Try.prog 14 #[] w (BoolB true w) := by
  have h1 := Put_any 0 3 7 0 (URow.nil w) (by simp)
  rw [show putZ [] 0 3 7 0 = 0 by decide, show putL [] 0 3 7 0 = [one] by decide, show putT [] 0 3 7 0 = 1 by decide] at h1
  have h2 := fun (v : Value) W (h : URow W v [one]) => Tell_any 1 0 h (by simp)
  simp only [show tellZ [one] 1 0 = 0 by decide, show tellM [one] 1 0 = [one] by decide, show tellT [one] 1 0 = 1 by decide] at h2
  generalize tellL [one] 1 0 = r at h2
  unfold bv at h1 h2
  have H1 := Lib.hid h1
  have H2 := Lib.hid h2
  clear h1 h2
  go_enter Try.func14, Try.ntmps14
  go_wp2_with fail
  (with_reducible refine H1.out.mono ?_)
  rintro e w1 ⟨v1, rfl, ho, hz⟩
  unfold bv
  obtain ⟨va, vc, rfl⟩ : ∃ a c, v1 = .slice a 1 c := ho.row.slice
  have hbx := Box.made w1 (bcs 1 (.slice va 1 vc)) 24
  have hba := al w1 (.cells #[.int .i64 1, .slice va 1 vc] 24)
  obtain ⟨W2, hW2⟩ : ∃ W, w1.alloc (.cells #[.int .i64 1, .slice va 1 vc] 24) = W := ⟨_, rfl⟩
  rw [hW2] at hba
  have HX2 : Hid (Box w1.heap.size (bcs 1 (.slice va 1 vc)) W2) := Lib.hid (hW2 ▸ hbx)
  have HZ := Lib.hid (below_trans hz hba)
  have HR := Lib.hid (H2.out _ _ (ho.row.below hba))
  clear ho hz hba hbx
  go_upto_region 2 with (fail)
  try rw [hW2]
  clear hW2
  obtain ⟨c0, c1⟩ := box2 HX2.out
  have hs0 := HX2.out.1
  go_wp2_with fail
  (with_reducible refine HR.out.mono ?_)
  rintro e w2 ⟨v2, v3, rfl, ho2, ho3, hz⟩
  obtain ⟨a2, n2, c2, rfl⟩ : ∃ a n c, v2 = .slice a n c := (by obtain ⟨a', c', e⟩ := ho2.row.slice; exact ⟨a', _, c', e⟩)
  clear ho2
  unfold bv
  have HZ2 := Lib.hid (below_trans HZ.out hz)
  obtain ⟨a3, c3, rfl⟩ : ∃ a c, v3 = .slice a 1 c := ho3.row.slice
  obtain ⟨b, off, rfl, hlc, hcap, hb, k0, k1, k2, k3⟩ := URow.at (l := [one]) ho3.row (q := 0) (by simp)
  have hbl := al w2 (.cells #[.int .i64 1, .slice a2 n2 c2] 24)
  have e2 := (hbl.cell (p := ⟨b, off + 0 * 4 + 2, none⟩) hb).trans k2
  have hb2 : b < (w2.alloc (.cells #[.int .i64 1, .slice a2 n2 c2] 24)).heap.size := by have := hbl.size; omega
  have HZ3 := Lib.hid (below_trans HZ2.out hbl)
  obtain ⟨W3, hW3⟩ : ∃ W, w2.alloc (.cells #[.int .i64 1, .slice a2 n2 c2] 24) = W := ⟨_, rfl⟩
  rw [hW3] at e2 hb2 HZ3
  unfold one at *
  simp only [List.length_cons, List.length_nil, List.getElem_cons_zero, Nat.zero_mul, Nat.add_zero, Nat.zero_add] at *
  clear ho3 hz H1 H2 HR hbl k0 k1 k2 k3 c0 c1 hs0 hb
  go_upto_region 3 with (fail)
  try rw [hW3]
  clear hW3
  go_wp2_with fail
  go_ret
  exact ⟨rfl, HZ3.out⟩

section
variable {H : Type} {enc : TypeId × Value → H} {W : World} {base : Nat} {spare : Nat → Bool} {held : Bool}

theorem out_of {fuel : Nat} {c0 c1 c2 c3 : Value} {x : DataW H × List MemPlace} (h : DataW.trod enc Try.prog W base spare held fuel 30 [c0, c1, c2, c3] = some x) :
    ∃ y : Ot, c0 = .int .i64 y.y ∧ c1 = .int .i64 y.k ∧ c2 = .int .i64 y.o ∧ c3 = .int .i64 y.d := by
  obtain ⟨xs, n, _, _, _, hx, hf⟩ := DataW.trod_struct Try.underlying30 h
  have k1 : Try.prog.cellsOf 3 = 1 := by kernel_rfl
  match xs, hx with
  | [x0, x1, x2, x3], _ =>
    have g0 : DataW.trod enc Try.prog W base spare held n 3 (([c0, c1, c2, c3].drop 0).take (Try.prog.cellsOf 3)) = some x0 := hf 0 _ rfl
    have g1 : DataW.trod enc Try.prog W base spare held n 3 (([c0, c1, c2, c3].drop 1).take (Try.prog.cellsOf 3)) = some x1 := hf 1 _ rfl
    have g2 : DataW.trod enc Try.prog W base spare held n 3 (([c0, c1, c2, c3].drop 2).take (Try.prog.cellsOf 3)) = some x2 := hf 2 _ rfl
    have g3 : DataW.trod enc Try.prog W base spare held n 3 (([c0, c1, c2, c3].drop 3).take (Try.prog.cellsOf 3)) = some x3 := hf 3 _ rfl
    rw [k1] at g0 g1 g2 g3
    obtain ⟨a, e0, _, _⟩ := DataW.trod_int Try.underlying3 g0
    obtain ⟨b, e1, _, _⟩ := DataW.trod_int Try.underlying3 g1
    obtain ⟨c, e2, _, _⟩ := DataW.trod_int Try.underlying3 g2
    obtain ⟨d, e3, _, _⟩ := DataW.trod_int Try.underlying3 g3
    exact ⟨⟨a, b, c, d⟩, by simpa using e0, by simpa using e1, by simpa using e2, by simpa using e3⟩

theorem argU_of {fuel : Nat} {v : Value} {x : DataW H × List MemPlace} (h : DataW.trod enc Try.prog W base spare held fuel 22 [v] = some x) : ArgU W v := by
  rcases open_slice Try.underlying22 h with ⟨hcs, _⟩ | ⟨a, len, cap, m, n, D, Pl, hcs, hb, hl, hm, hmm, hx, hi⟩
  · obtain rfl : v = .slice none 0 0 := by simpa using hcs
    exact ⟨[], URow.nil _⟩
  · obtain rfl : v = .slice (some a) len cap := by simpa using hcs
    unfold maxLen at hm
    have hls : len ≤ m := by rw [hmm]; split <;> omega
    have k4 : Try.prog.cellsOf 30 = 4 := by kernel_rfl
    obtain ⟨b, off, spot⟩ := a
    have one : ∀ j, ∃ y : Ot, j < len → W.cell? ((⟨b, off, spot⟩ : Addr).add (j * 4)) = some (.int .i64 y.y) ∧ W.cell? (((⟨b, off, spot⟩ : Addr).add (j * 4)).add 1) = some (.int .i64 y.k) ∧ W.cell? (((⟨b, off, spot⟩ : Addr).add (j * 4)).add 2) = some (.int .i64 y.o) ∧ W.cell? (((⟨b, off, spot⟩ : Addr).add (j * 4)).add 3) = some (.int .i64 y.d) := by
      intro j
      by_cases hj : j < len
      · obtain ⟨cs', hc, ht'⟩ := hi j (by omega)
        rw [k4] at hc
        obtain ⟨_, hcl, hat⟩ := World.cells?_some hc
        match cs', hcl with
        | [c0, c1, c2, c3], _ =>
          obtain ⟨y, rfl, rfl, rfl, rfl⟩ := out_of ht'
          refine ⟨y, fun _ => ⟨?_, hat 1 (by omega), hat 2 (by omega), hat 3 (by omega)⟩⟩
          have := hat 0 (by omega)
          rwa [show ((⟨b, off, spot⟩ : Addr).add (j * 4)).add 0 = (⟨b, off, spot⟩ : Addr).add (j * 4) by unfold Addr.add; split <;> simp_all] at this
      · exact ⟨noT, fun h => absurd h hj⟩
    obtain ⟨f, hf⟩ := Classical.skolem.1 one
    have e1 : ((List.range len).map f).length = len := by simp
    refine ⟨(List.range len).map f, some ⟨b, off, spot⟩, cap, by rw [e1], by omega, by omega, fun h0 => ?_⟩
    rw [e1] at h0
    obtain ⟨z0, _⟩ := hf 0 h0
    have hspot : spot = none := by simpa [Addr.add] using World.cell?_spot z0
    subst hspot
    have ha : ∀ o j, (⟨b, o, none⟩ : Addr).add j = ⟨b, o + j, none⟩ := fun o j => addr_add b o j
    refine ⟨b, off, rfl, by simpa [Addr.add] using block_lt_of_cell z0, fun j hj => ?_⟩
    obtain ⟨y0, y1, y2, y3⟩ := hf j (by omega)
    rw [ha] at y0 y1 y2 y3
    rw [ha] at y1 y2 y3
    rw [List.getElem_map, List.getElem_range]
    exact ⟨y0, y1, y2, y3⟩

theorem open_outbox {v : Value} {fuel : Nat} {x : DataW H × List MemPlace} {r : Reach} {b0 : Nat} (hv : Value.okWide Try.prog W r b0 24 v) (h : DataW.trod enc Try.prog W base spare held fuel 24 v.cells.toList = some x) : ∃ (t : Int) (u : Value), v = bv t u ∧ ArgU W u := by
  obtain ⟨cs, rfl, hcs⟩ := okWide_struct Try.underlying24 hv
  have h2 : Try.prog.cellsOf 24 = 2 := by kernel_rfl
  rw [h2] at hcs
  obtain ⟨xs, n, _, _, _, hx, hf⟩ := DataW.trod_struct Try.underlying24 h
  have k0 : Try.prog.cellsOf 3 = 1 := by kernel_rfl
  have k1 : Try.prog.cellsOf 22 = 1 := by kernel_rfl
  clear h hv
  match cs, hcs with
  | ⟨[c0, c1]⟩, _ =>
    match xs, hx with
    | [x0, x1], _ =>
      have g0 : DataW.trod enc Try.prog W base spare held n 3 (([c0, c1].drop 0).take (Try.prog.cellsOf 3)) = some x0 := hf 0 _ rfl
      have g1 : DataW.trod enc Try.prog W base spare held n 22 (([c0, c1].drop 1).take (Try.prog.cellsOf 22)) = some x1 := hf 1 _ rfl
      rw [k0] at g0
      rw [k1] at g1
      obtain ⟨t, e0, _, _⟩ := DataW.trod_int Try.underlying3 g0
      obtain rfl : c0 = .int .i64 t := by simpa using e0
      exact ⟨t, c1, rfl, argU_of g1⟩

/-- A slice of acts that came in. -/
def ArgV (w : World) (v : Value) : Prop := ∃ (a : Option Addr) (len cap : Nat), v = .slice a len cap ∧ len ≤ cap ∧ cap ≤ 9223372036854775807 ∧
  (0 < len → ∃ b off, a = some ⟨b, off, none⟩ ∧ b < w.heap.size ∧ ∀ j, j < len → ∃ (k n o y z : Int), (-9223372036854775808 ≤ y ∧ y ≤ 9223372036854775807) ∧ w.cell? ⟨b, off + j * 5, none⟩ = some (.int .i64 k) ∧ w.cell? ⟨b, off + j * 5 + 1, none⟩ = some (.int .i64 n) ∧ w.cell? ⟨b, off + j * 5 + 2, none⟩ = some (.int .i64 o) ∧ w.cell? ⟨b, off + j * 5 + 3, none⟩ = some (.int .i64 y) ∧ w.cell? ⟨b, off + j * 5 + 4, none⟩ = some (.int .i64 z))
theorem act_of {fuel : Nat} {c0 c1 c2 c3 c4 : Value} {x : DataW H × List MemPlace} (h : DataW.trod enc Try.prog W base spare held fuel 53 [c0, c1, c2, c3, c4] = some x) :
    ∃ (k n o y z : Int), (-9223372036854775808 ≤ y ∧ y ≤ 9223372036854775807) ∧ c0 = .int .i64 k ∧ c1 = .int .i64 n ∧ c2 = .int .i64 o ∧ c3 = .int .i64 y ∧ c4 = .int .i64 z := by
  obtain ⟨xs, n, _, _, _, hx, hf⟩ := DataW.trod_struct Try.underlying53 h
  have k1 : Try.prog.cellsOf 3 = 1 := by kernel_rfl
  match xs, hx with
  | [x0, x1, x2, x3, x4], _ =>
    have g0 : DataW.trod enc Try.prog W base spare held n 3 (([c0, c1, c2, c3, c4].drop 0).take (Try.prog.cellsOf 3)) = some x0 := hf 0 _ rfl
    have g1 : DataW.trod enc Try.prog W base spare held n 3 (([c0, c1, c2, c3, c4].drop 1).take (Try.prog.cellsOf 3)) = some x1 := hf 1 _ rfl
    have g2 : DataW.trod enc Try.prog W base spare held n 3 (([c0, c1, c2, c3, c4].drop 2).take (Try.prog.cellsOf 3)) = some x2 := hf 2 _ rfl
    have g3 : DataW.trod enc Try.prog W base spare held n 3 (([c0, c1, c2, c3, c4].drop 3).take (Try.prog.cellsOf 3)) = some x3 := hf 3 _ rfl
    have g4 : DataW.trod enc Try.prog W base spare held n 3 (([c0, c1, c2, c3, c4].drop 4).take (Try.prog.cellsOf 3)) = some x4 := hf 4 _ rfl
    rw [k1] at g0 g1 g2 g3 g4
    obtain ⟨a, e0, _, _⟩ := DataW.trod_int Try.underlying3 g0
    obtain ⟨b, e1, _, _⟩ := DataW.trod_int Try.underlying3 g1
    obtain ⟨c, e2, _, _⟩ := DataW.trod_int Try.underlying3 g2
    obtain ⟨d, e3, _, w3⟩ := DataW.trod_int Try.underlying3 g3
    obtain ⟨f, e4, _, _⟩ := DataW.trod_int Try.underlying3 g4
    refine ⟨a, b, c, d, f, ?_, by simpa using e0, by simpa using e1, by simpa using e2, by simpa using e3, by simpa using e4⟩
    simp [Lit.wf, IntKind.min, IntKind.max, IntKind.bits, IntKind.signed] at w3
    omega

theorem argV_of {fuel : Nat} {v : Value} {x : DataW H × List MemPlace} (h : DataW.trod enc Try.prog W base spare held fuel 49 [v] = some x) : ArgV W v := by
  rcases open_slice Try.underlying49 h with ⟨hcs, _⟩ | ⟨a, len, cap, m, n, D, Pl, hcs, hb, hl, hm, hmm, hx, hi⟩
  · obtain rfl : v = .slice none 0 0 := by simpa using hcs
    exact ⟨none, 0, 0, rfl, Nat.le_refl _, by omega, fun h => absurd h (Nat.lt_irrefl _)⟩
  · obtain rfl : v = .slice (some a) len cap := by simpa using hcs
    unfold maxLen at hm
    refine ⟨some a, len, cap, rfl, hl, by omega, fun h0 => ?_⟩
    have hls : len ≤ m := by rw [hmm]; split <;> omega
    have k5 : Try.prog.cellsOf 53 = 5 := by kernel_rfl
    obtain ⟨b, off, spot⟩ := a
    have one : ∀ j, j < len → ∃ c0 c1 c2 c3 c4, DataW.trod enc Try.prog W base spare held n 53 [c0, c1, c2, c3, c4] = some (D j, Pl j) ∧ W.cell? ((⟨b, off, spot⟩ : Addr).add (j * 5)) = some c0 ∧ W.cell? (((⟨b, off, spot⟩ : Addr).add (j * 5)).add 1) = some c1 ∧ W.cell? (((⟨b, off, spot⟩ : Addr).add (j * 5)).add 2) = some c2 ∧ W.cell? (((⟨b, off, spot⟩ : Addr).add (j * 5)).add 3) = some c3 ∧ W.cell? (((⟨b, off, spot⟩ : Addr).add (j * 5)).add 4) = some c4 := by
      intro j hj
      obtain ⟨cs', hc, ht'⟩ := hi j (by omega)
      rw [k5] at hc
      obtain ⟨_, hcl, hat⟩ := World.cells?_some hc
      match cs', hcl with
      | [c0, c1, c2, c3, c4], _ =>
        refine ⟨c0, c1, c2, c3, c4, ht', ?_, hat 1 (by omega), hat 2 (by omega), hat 3 (by omega), hat 4 (by omega)⟩
        have := hat 0 (by omega)
        rwa [show ((⟨b, off, spot⟩ : Addr).add (j * 5)).add 0 = (⟨b, off, spot⟩ : Addr).add (j * 5) by unfold Addr.add; split <;> simp_all] at this
    obtain ⟨_, _, _, _, _, _, z0, _⟩ := one 0 h0
    have hspot : spot = none := by simpa [Addr.add] using World.cell?_spot z0
    subst hspot
    have ha : ∀ o j, (⟨b, o, none⟩ : Addr).add j = ⟨b, o + j, none⟩ := fun o j => addr_add b o j
    refine ⟨b, off, rfl, by simpa [Addr.add] using block_lt_of_cell z0, fun j hj => ?_⟩
    obtain ⟨c0, c1, c2, c3, c4, ht, z0, z1, z2, z3, z4⟩ := one j hj
    obtain ⟨k, t, o, y, z, hy, rfl, rfl, rfl, rfl, rfl⟩ := act_of ht
    rw [ha] at z0 z1 z2 z3 z4
    rw [ha] at z1 z2 z3 z4
    exact ⟨k, t, o, y, z, hy, z0, z1, z2, z3, z4⟩
end
end Go.Proofs.Ytlhepocjcdbhjaa.Outbox
