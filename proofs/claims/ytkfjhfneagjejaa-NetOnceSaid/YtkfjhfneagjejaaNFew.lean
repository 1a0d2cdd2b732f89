/-
  The law's own few, like and alive; nets, parcels, rows of parcels and of ints among a law's arguments, opened.
-/
import Derived.Test.YtkfjhfneagjejaaNPost
import Derived.Deep.Slices
namespace Go.Proofs.Ytkfjhfneagjejaa.Net
open Go.ChangeShapes Go.WideShapes Go.ChangeAt Go.RowKit Go.Shelf Go.Lib Go.Deep
open Go.Proofs.Ytkfjhfneagjejaa.Queue (Box al dr below_trans ret_bool BoolB)

/-- A net is returned. -/
theorem take_row {a : Option Addr} {cap : Nat} {l : List Pc} {w : World} (h : NRow w (.slice a l.length cap) l) : NRow w (.slice a (l.take 66).length cap) (l.take 66) := by
  rw [List.length_take]
  by_cases hc : 66 < l.length
  · rw [Nat.min_eq_left (by omega)]
    exact NRow.take h (by omega)
  · rw [Nat.min_eq_right (by omega), List.take_of_length_le (by omega)]
    exact h
set_option maxRecDepth 100000 in
set_option maxHeartbeats 2000000 in
theorem few_any {a : Option Addr} {cap : Nat} {l : List Pc} {w : World} (t : Int) (h : NRow w (.slice a l.length cap) l) : Calls Try.prog 6 #[tv (.slice a l.length cap) t] w (fun e w' => e = .returned (tv (.slice a (l.take 66).length cap) t) ∧ Below w.heap.size w w') := by
  obtain ⟨_, hlc, hcap⟩ := NRow.cap h
  obtain ⟨hx0, hx1⟩ := two_boxes w (tcs (.slice a l.length cap) t) (tcs (.slice none 0 0) 0) 24 24
  have hb0 := two_al w (.cells #[.slice a l.length cap, .int .i64 t] 24) (.cells #[.slice none 0 0, .int .i64 0] 24)
  obtain ⟨W0, hW0⟩ : ∃ W, (w.alloc (.cells #[.slice a l.length cap, .int .i64 t] 24)).alloc (.cells #[.slice none 0 0, .int .i64 0] 24) = W := ⟨_, rfl⟩
  have HX0 : Hid (Box w.heap.size (tcs (.slice a l.length cap) t) W0) := Lib.hid (hW0 ▸ hx0)
  have HR0 : Hid (Box (w.heap.size + 1) (tcs (.slice none 0 0) 0) W0) := Lib.hid (hW0 ▸ hx1)
  have HB0 : Hid (Below w.heap.size w W0) := Lib.hid (hW0 ▸ hb0)
  unfold tv
  clear hx0 hx1 hb0
  rw [show (l.take 66).length = min l.length 66 by rw [List.length_take]; omega]
  have hm1 : (0 : Int) ≤ (min l.length 66 : Nat) := by omega
  have hm2 : ((min l.length 66 : Nat) : Int) ≤ cap := by omega
  have HM : Hid ((66 < l.length ∧ min l.length 66 = 66) ∨ (¬ 66 < l.length ∧ min l.length 66 = l.length)) := Lib.hid (by omega)
  generalize min l.length 66 = m at *
  clear h
  rcases HM.out with ⟨hc, rfl⟩ | ⟨hc, e⟩
  · go_enter Try.func6, Try.ntmps6
    go_upto_region 1 with (fail)
    clear hW0
    obtain ⟨c0, c1⟩ := box2 HX0.out
    have hs0 := HX0.out.1
    obtain ⟨y0, y1⟩ := box2 HR0.out
    obtain ⟨z0, z1⟩ := frz2 HR0.out
    have hsz := HR0.out.1
    have HE := Lib.hid (below_two (b := w.heap.size + 1) (.slice a 66 cap) (.int .i64 t) (below_trans HB0.out (dr W0)) (by omega))
    go_region
    all_goals go_wp2_with fail
    all_goals exact bodyPost_ret (by simp [results, Try.results6, go_sem, y0, y1]) rfl ⟨rfl, HE.out⟩
  · subst e
    go_enter Try.func6, Try.ntmps6
    go_upto_region 1 with (fail)
    clear hW0
    obtain ⟨c0, c1⟩ := box2 HX0.out
    have hs0 := HX0.out.1
    obtain ⟨y0, y1⟩ := box2 HR0.out
    obtain ⟨z0, z1⟩ := frz2 HR0.out
    have hsz := HR0.out.1
    have HE := Lib.hid (below_two (b := w.heap.size + 1) (.slice a l.length cap) (.int .i64 t) (below_trans HB0.out (dr W0)) (by omega))
    go_region
    all_goals go_wp2_with fail
    all_goals exact bodyPost_ret (by simp [results, Try.results6, go_sem, y0, y1]) rfl ⟨rfl, HE.out⟩

set_option maxRecDepth 100000 in
set_option maxHeartbeats 2000000 in
theorem Like_yes {v u : Value} {l : List Pc} {w : World} (t : Int) (h : NRow w v l) (hu : NRow w u l) : Calls Try.prog 15 #[tv v t, tv u t] w (BoolB true w) := by
  obtain ⟨a, cap, rfl⟩ := h.slice
  obtain ⟨a', cap', rfl⟩ := hu.slice
  obtain ⟨W0, hW0⟩ : ∃ W, (w.alloc (.cells #[.slice a l.length cap, .int .i64 t] 24)).alloc (.cells #[.slice a' l.length cap', .int .i64 t] 24) = W := ⟨_, rfl⟩
  obtain ⟨hx0, hx1, hb0⟩ := two_boxes_at w (tcs (.slice a l.length cap) t) (tcs (.slice a' l.length cap') t) _ _ W0 hW0
  have HX0 := Lib.hid hx0
  have HX1 := Lib.hid hx1
  have HB0 := Lib.hid hb0
  have H := Lib.hid h
  have HU := Lib.hid hu
  unfold tv
  clear h hu hx0 hx1 hb0
  go_enter Try.func15, Try.ntmps15
  go_upto_region 1 with (fail)
  clear hW0
  obtain ⟨c0, c1⟩ := box2 HX0.out
  have hs0 := HX0.out.1
  obtain ⟨e0, e1⟩ := box2 HX1.out
  have hs1 := HX1.out.1
  go_wp2_with fail
  clear c0 c1 hs0 e0 e1 hs1
  go_loopw [5, 23] (fun _ i wr => ∃ k : Nat, k ≤ l.length ∧ i = .int .i64 k ∧ Below W0.heap.size W0 wr) (fun _ i _ => l.length - (Go.RowKit.intOf i).toNat)
  case atStart => exact ⟨0, Nat.zero_le _, rfl, Below.refl _ _⟩
  case round =>
    obtain ⟨k, hk, rfl, hr⟩ := hrel
    have HR := Lib.hid hr
    clear hr
    by_cases hlt : k < l.length
    · obtain ⟨b, off, rfl, hlc, hcap, hb, k0, k1, k2, k3, k4, k5⟩ := (H.out.below (below_trans HB0.out HR.out)).at hlt
      obtain ⟨b', off', rfl, hlc', hcap', hb', j0, j1, j2, j3, j4, j5⟩ := (HU.out.below (below_trans HB0.out HR.out)).at hlt
      have hX0 := HX0.out.below HR.out
      have hX1 := HX1.out.below HR.out
      obtain ⟨c0, c1⟩ := box2 hX0
      have hs0 := hX0.1
      obtain ⟨e0, e1⟩ := box2 hX1
      have hs1 := hX1.1
      clear hX0 hX1
      have heq := fun w => neq_pc l[k] l[k] w
      simp only [decide_true, Bool.not_true] at heq
      generalize l[k] = x at *
      go_upto_region 6 with fail
      go_region
      all_goals go_wp2_with fail
      all_goals go_roundw
      case rel => exact ⟨k + 1, by omega, by go_num, below_trans HR.out (dr _)⟩
      case measure => simp [Go.RowKit.intOf]; omega
    · obtain rfl : k = l.length := by omega
      go_wp2
      go_ret
      exact ⟨rfl, below_trans HB0.out HR.out⟩

def one : Pc := ⟨1, false, 5, 1, 7, false⟩
set_option maxRecDepth 100000 in
set_option maxHeartbeats 2000000 in
theorem alive_any (w : World) : Calls Try.prog 13 #[] w (BoolB true w) := by
  have h1 := Post_yes 0 ⟨0, false, 5, 1, 7, false⟩ (NRow.nil w) (by decide) (by decide) (by decide) (by decide)
  rw [show post [] 0 ⟨0, false, 5, 1, 7, false⟩ = [one] from rfl, show (0 : Int) + 1 = 1 from rfl] at h1
  have h2 := fun (v : Value) W (h : NRow W v [one]) => Take_yes 1 (k := 0) h (by decide) (by decide)
  simp only [show rest [one] 0 = [] from rfl, List.getElem_cons_zero] at h2
  have heq := fun w => eql_pc one one w
  simp only [decide_true] at heq
  simp only [show ((0 : Nat) : Int) = 0 from rfl] at h2
  unfold tv at h1 h2
  unfold nv at h1
  unfold one at heq
  dsimp only at heq h1
  have H1 := Lib.hid h1
  have H2 := Lib.hid h2
  clear h1 h2
  go_enter Try.func13, Try.ntmps13
  go_wp2_with fail
  (with_reducible refine H1.out.mono ?_)
  rintro e w1 ⟨v1, rfl, ho, _, hz⟩
  unfold tv
  obtain ⟨va, vc, rfl⟩ : ∃ a c, v1 = .slice a 1 c := ho.slice
  obtain ⟨W2, hW2⟩ : ∃ W, w1.alloc (.cells #[.slice (va) 1 vc, .int .i64 1] 24) = W := ⟨_, rfl⟩
  have hba : Below w1.heap.size w1 W2 := hW2 ▸ al _ _
  have HX2 : Hid (Box w1.heap.size (tcs (.slice va 1 vc) 1) W2) := Lib.hid (hW2 ▸ Box.made w1 (tcs (.slice va 1 vc) 1) 24)
  have HZ := Lib.hid (below_trans hz hba)
  have HR := Lib.hid (H2.out _ _ (ho.below hba))
  clear ho hz hba
  go_upto_region 2 with (fail)
  try rw [hW2]
  clear hW2
  obtain ⟨c0, c1⟩ := box2 HX2.out
  have hs0 := HX2.out.1
  go_wp2_with fail
  (with_reducible refine HR.out.mono ?_)
  rintro e w2 ⟨v2, rfl, ho2, _, hz⟩
  unfold tv nv one
  dsimp only
  obtain ⟨a2, n2, c2, rfl⟩ : ∃ a n c, v2 = .slice a n c := (by obtain ⟨a', c', e⟩ := ho2.slice; exact ⟨a', _, c', e⟩)
  clear ho2
  have HZ2 := Lib.hid (below_trans HZ.out hz)
  clear hz H1 H2 HR HX2 HZ c0 c1 hs0
  obtain ⟨W3, hW3⟩ : ∃ W, (w2.alloc (.cells #[.slice a2 n2 c2, .int .i64 1] 24)).alloc (.cells #[.int .i64 1, .bool false, .int .i64 5, .int .i64 1, .int .i64 7, .bool false] 26) = W := ⟨_, rfl⟩
  obtain ⟨_, hx3, hb3⟩ := two_boxes_at w2 (tcs (.slice a2 n2 c2) 1) (ncs one) _ _ W3 hW3
  have HX3 := Lib.hid hx3
  have HB3 := Lib.hid (below_trans HZ2.out hb3)
  have HW3 := Lib.hid hW3
  clear hx3 hb3 hW3
  go_upto_region 3 with (fail)
  rw [HW3.out]
  clear HW3
  obtain ⟨x0, x1, x2, x3, x4, x5⟩ := box6 HX3.out
  have hsx := HX3.out.1
  go_wp2_with fail
  go_ret
  exact ⟨rfl, HB3.out⟩

/-- A slice of parcels that came in; of ints. -/
def ArgN (w : World) (v : Value) : Prop := ∃ l, NRow w v l
def ArgI (w : World) (v : Value) : Prop := ∃ (a : Option Addr) (len cap : Nat), v = .slice a len cap ∧ len ≤ cap ∧ cap ≤ 9223372036854775807 ∧
  (0 < len → ∃ b off, a = some ⟨b, off, none⟩ ∧ b < w.heap.size ∧ ∀ j, j < len → ∃ (k : Int), (-9223372036854775808 ≤ k ∧ k ≤ 9223372036854775807) ∧ w.cell? ⟨b, off + j, none⟩ = some (.int .i64 k))
theorem addr_add0 (a : Addr) : a.add 0 = a := by unfold Addr.add; split <;> simp_all
section
variable {H : Type} {enc : TypeId × Value → H} {W : World} {base : Nat} {spare : Nat → Bool} {held : Bool}

theorem pc_of {fuel : Nat} {c0 c1 c2 c3 c4 c5 : Value} {x : DataW H × List MemPlace} (h : DataW.trod enc Try.prog W base spare held fuel 26 [c0, c1, c2, c3, c4, c5] = some x) :
    ∃ y : Pc, c0 = .int .i64 y.n ∧ c1 = .bool y.b ∧ c2 = .int .i64 y.y ∧ c3 = .int .i64 y.k ∧ c4 = .int .i64 y.o ∧ c5 = .bool y.s := by
  obtain ⟨xs, n, _, _, _, hx, hf⟩ := DataW.trod_struct Try.underlying26 h
  have k1 : Try.prog.cellsOf 3 = 1 := by kernel_rfl
  have k2 : Try.prog.cellsOf 4 = 1 := by kernel_rfl
  match xs, hx with
  | [x0, x1, x2, x3, x4, x5], _ =>
    have g0 : DataW.trod enc Try.prog W base spare held n 3 (([c0, c1, c2, c3, c4, c5].drop 0).take (Try.prog.cellsOf 3)) = some x0 := hf 0 _ rfl
    have g1 : DataW.trod enc Try.prog W base spare held n 4 (([c0, c1, c2, c3, c4, c5].drop 1).take (Try.prog.cellsOf 4)) = some x1 := hf 1 _ rfl
    have g2 : DataW.trod enc Try.prog W base spare held n 3 (([c0, c1, c2, c3, c4, c5].drop 2).take (Try.prog.cellsOf 3)) = some x2 := hf 2 _ rfl
    have g3 : DataW.trod enc Try.prog W base spare held n 3 (([c0, c1, c2, c3, c4, c5].drop 3).take (Try.prog.cellsOf 3)) = some x3 := hf 3 _ rfl
    have g4 : DataW.trod enc Try.prog W base spare held n 3 (([c0, c1, c2, c3, c4, c5].drop 4).take (Try.prog.cellsOf 3)) = some x4 := hf 4 _ rfl
    have g5 : DataW.trod enc Try.prog W base spare held n 4 (([c0, c1, c2, c3, c4, c5].drop 5).take (Try.prog.cellsOf 4)) = some x5 := hf 5 _ rfl
    rw [k1] at g0 g2 g3 g4
    rw [k2] at g1 g5
    obtain ⟨a0, e0, _, _⟩ := DataW.trod_int Try.underlying3 g0
    obtain ⟨a1, e1, _⟩ := DataW.trod_bool Try.underlying4 g1
    obtain ⟨a2, e2, _, _⟩ := DataW.trod_int Try.underlying3 g2
    obtain ⟨a3, e3, _, _⟩ := DataW.trod_int Try.underlying3 g3
    obtain ⟨a4, e4, _, _⟩ := DataW.trod_int Try.underlying3 g4
    obtain ⟨a5, e5, _⟩ := DataW.trod_bool Try.underlying4 g5
    exact ⟨⟨a0, a1, a2, a3, a4, a5⟩, by simpa using e0, by simpa using e1, by simpa using e2, by simpa using e3, by simpa using e4, by simpa using e5⟩

theorem open_parcel {v : Value} {fuel : Nat} {x : DataW H × List MemPlace} {r : Reach} {b0 : Nat} (hv : Value.okWide Try.prog W r b0 26 v) (h : DataW.trod enc Try.prog W base spare held fuel 26 v.cells.toList = some x) : ∃ y : Pc, v = nv y := by
  obtain ⟨cs, rfl, hcs⟩ := okWide_struct Try.underlying26 hv
  have h2 : Try.prog.cellsOf 26 = 6 := by kernel_rfl
  rw [h2] at hcs
  match cs, hcs with
  | ⟨[c0, c1, c2, c3, c4, c5]⟩, _ =>
    obtain ⟨y, rfl, rfl, rfl, rfl, rfl, rfl⟩ := pc_of h
    exact ⟨y, rfl⟩

theorem argN_of {fuel : Nat} {v : Value} {x : DataW H × List MemPlace} (h : DataW.trod enc Try.prog W base spare held fuel 22 [v] = some x) : ArgN W v := by
  rcases open_slice Try.underlying22 h with ⟨hcs, _⟩ | ⟨a, len, cap, m, n, D, Pl, hcs, hb, hl, hm, hmm, hx, hi⟩
  · obtain rfl : v = .slice none 0 0 := by simpa using hcs
    exact ⟨[], NRow.nil _⟩
  · obtain rfl : v = .slice (some a) len cap := by simpa using hcs
    unfold maxLen at hm
    have hls : len ≤ m := by rw [hmm]; split <;> omega
    have k4 : Try.prog.cellsOf 26 = 6 := by kernel_rfl
    obtain ⟨b, off, spot⟩ := a
    have one : ∀ j, ∃ y : Pc, j < len → W.cell? ((⟨b, off, spot⟩ : Addr).add (j * 6)) = some (.int .i64 y.n) ∧ W.cell? (((⟨b, off, spot⟩ : Addr).add (j * 6)).add 1) = some (.bool y.b) ∧ W.cell? (((⟨b, off, spot⟩ : Addr).add (j * 6)).add 2) = some (.int .i64 y.y) ∧ W.cell? (((⟨b, off, spot⟩ : Addr).add (j * 6)).add 3) = some (.int .i64 y.k) ∧ W.cell? (((⟨b, off, spot⟩ : Addr).add (j * 6)).add 4) = some (.int .i64 y.o) ∧ W.cell? (((⟨b, off, spot⟩ : Addr).add (j * 6)).add 5) = some (.bool y.s) := by
      intro j
      by_cases hj : j < len
      · obtain ⟨cs', hc, ht'⟩ := hi j (by omega)
        rw [k4] at hc
        obtain ⟨_, hcl, hat⟩ := World.cells?_some hc
        match cs', hcl with
        | [c0, c1, c2, c3, c4, c5], _ =>
          obtain ⟨y, rfl, rfl, rfl, rfl, rfl, rfl⟩ := pc_of ht'
          refine ⟨y, fun _ => ⟨?_, hat 1 (by omega), hat 2 (by omega), hat 3 (by omega), hat 4 (by omega), hat 5 (by omega)⟩⟩
          have := hat 0 (by omega)
          rwa [addr_add0] at this
      · exact ⟨noP, fun h => absurd h hj⟩
    obtain ⟨f, hf⟩ := Classical.skolem.1 one
    have e1 : ((List.range len).map f).length = len := by simp
    refine ⟨(List.range len).map f, some ⟨b, off, spot⟩, cap, by rw [e1], by omega, by omega, fun h0 => ?_⟩
    rw [e1] at h0
    obtain ⟨z0, _⟩ := hf 0 h0
    have hspot : spot = none := by simpa [Addr.add] using World.cell?_spot z0
    subst hspot
    have ha : ∀ o j, (⟨b, o, none⟩ : Addr).add j = ⟨b, o + j, none⟩ := fun o j => addr_add b o j
    refine ⟨b, off, rfl, by simpa [Addr.add] using block_lt_of_cell z0, fun j hj => ?_⟩
    obtain ⟨y0, y1, y2, y3, y4, y5⟩ := hf j (by omega)
    rw [ha] at y0 y1 y2 y3 y4 y5
    rw [ha] at y1 y2 y3 y4 y5
    rw [List.getElem_map, List.getElem_range]
    exact ⟨y0, y1, y2, y3, y4, y5⟩

theorem open_net {v : Value} {fuel : Nat} {x : DataW H × List MemPlace} {r : Reach} {b0 : Nat} (hv : Value.okWide Try.prog W r b0 24 v) (h : DataW.trod enc Try.prog W base spare held fuel 24 v.cells.toList = some x) : ∃ (t : Int) (u : Value), v = tv u t ∧ ArgN W u := by
  obtain ⟨cs, rfl, hcs⟩ := okWide_struct Try.underlying24 hv
  have h2 : Try.prog.cellsOf 24 = 2 := by kernel_rfl
  rw [h2] at hcs
  obtain ⟨xs, n, _, _, _, hx, hf⟩ := DataW.trod_struct Try.underlying24 h
  have k0 : Try.prog.cellsOf 3 = 1 := by kernel_rfl
  have k1 : Try.prog.cellsOf 22 = 1 := by kernel_rfl
  clear h hv
  match cs, hcs with
  | ⟨[c0, c1]⟩, _ =>
    match xs, hx with
    | [x0, x1], _ =>
      have g0 : DataW.trod enc Try.prog W base spare held n 22 (([c0, c1].drop 0).take (Try.prog.cellsOf 22)) = some x0 := hf 0 _ rfl
      have g1 : DataW.trod enc Try.prog W base spare held n 3 (([c0, c1].drop 1).take (Try.prog.cellsOf 3)) = some x1 := hf 1 _ rfl
      rw [k1] at g0
      rw [k0] at g1
      obtain ⟨t, e1, _, _⟩ := DataW.trod_int Try.underlying3 g1
      obtain rfl : c1 = .int .i64 t := by simpa using e1
      exact ⟨t, c0, rfl, argN_of g0⟩

theorem argI_of {fuel : Nat} {v : Value} {x : DataW H × List MemPlace} (h : DataW.trod enc Try.prog W base spare held fuel 40 [v] = some x) : ArgI W v := by
  rcases open_slice Try.underlying40 h with ⟨hcs, _⟩ | ⟨a, len, cap, m, n, D, Pl, hcs, hb, hl, hm, hmm, hx, hi⟩
  · obtain rfl : v = .slice none 0 0 := by simpa using hcs
    exact ⟨none, 0, 0, rfl, Nat.le_refl _, by omega, fun h => absurd h (Nat.lt_irrefl _)⟩
  · obtain rfl : v = .slice (some a) len cap := by simpa using hcs
    unfold maxLen at hm
    refine ⟨some a, len, cap, rfl, hl, by omega, fun h0 => ?_⟩
    have hls : len ≤ m := by rw [hmm]; split <;> omega
    have k3 : Try.prog.cellsOf 3 = 1 := by kernel_rfl
    obtain ⟨b, off, spot⟩ := a
    have one : ∀ j, j < len → ∃ c0, DataW.trod enc Try.prog W base spare held n 3 [c0] = some (D j, Pl j) ∧ W.cell? ((⟨b, off, spot⟩ : Addr).add (j * 1)) = some c0 := by
      intro j hj
      obtain ⟨cs', hc, ht'⟩ := hi j (by omega)
      rw [k3] at hc
      obtain ⟨_, hcl, hat⟩ := World.cells?_some hc
      match cs', hcl with
      | [c0], _ =>
        refine ⟨c0, ht', ?_⟩
        have := hat 0 (by omega)
        rwa [addr_add0] at this
    obtain ⟨_, _, z0⟩ := one 0 h0
    have hspot : spot = none := by simpa [Addr.add] using World.cell?_spot z0
    subst hspot
    have ha : ∀ o j, (⟨b, o, none⟩ : Addr).add j = ⟨b, o + j, none⟩ := fun o j => addr_add b o j
    refine ⟨b, off, rfl, by simpa [Addr.add] using block_lt_of_cell z0, fun j hj => ?_⟩
    obtain ⟨c0, ht, z0⟩ := one j hj
    obtain ⟨t, e, _, wt⟩ := DataW.trod_int Try.underlying3 ht
    obtain rfl : c0 = .int .i64 t := by simpa using e
    rw [ha, Nat.mul_one] at z0
    refine ⟨t, ?_, z0⟩
    simp [Lit.wf, IntKind.min, IntKind.max, IntKind.bits, IntKind.signed] at wt
    omega
end
end Go.Proofs.Ytkfjhfneagjejaa.Net
