/-
  Lines put together of two and of three rows (slices.Grow, slices.Concat); one more put into an index (put), and one left out (without).
-/
import Derived.Test.YtcehhgcfkoldfaaWPlace
import Derived.Lib.SliceRun
import Derived.Laws.OwnMore
import Derived.Lib.OwnKind
import Derived.Lib.LazyBuf
import Derived.Lib.AppendZerosOnto
namespace Go.Proofs.Ytcehhgcfkoldfaa.Waits
open Go.ChangeShapes Go.WideShapes Go.ChangeAt Go.RowKit Go.Shelf
open Go.Proofs.Ytcehhgcfkoldfaa.Goods
open Go.Proofs.Ytcehhgcfkoldfaa.Queue (Wt ltB wv QRow)

theorem box2 {b : Nat} {c0 c1 : Value} {w : World} (h : Box b [c0, c1] w) : w.cell? ⟨b, 0, none⟩ = some c0 ∧ w.cell? ⟨b, 1, none⟩ = some c1 := ⟨(h.2 0 _ rfl).1, (h.2 1 _ rfl).1⟩
theorem box3 {b : Nat} {c0 c1 c2 : Value} {w : World} (h : Box b [c0, c1, c2] w) : w.cell? ⟨b, 0, none⟩ = some c0 ∧ w.cell? ⟨b, 1, none⟩ = some c1 ∧ w.cell? ⟨b, 2, none⟩ = some c2 := ⟨(h.2 0 _ rfl).1, (h.2 1 _ rfl).1, (h.2 2 _ rfl).1⟩

set_option maxHeartbeats 1000000 in
set_option maxRecDepth 100000 in
theorem GrowL_nil (n : Nat) (h0 : 1 ≤ n) (hn : n ≤ 100000) (w : World) : Calls Try.prog 55 #[.slice none 0 0, .int .i64 n] w (NewL [] w) := by
  obtain ⟨i0, hi, hz0, hz1, hz2⟩ := info_parts infoL
  have hge := grownCap_ge w n 0 26
  have hcm : grownCap w n 0 26 ≤ maxLen := grownCap_le_maxLen w n 0 26 (by unfold maxLen; omega)
  have hr := fun ty => Lib.run_append_grow_zeros (P := Try.prog) w 22 3 ty 26 i0 (.agg #[.string ⟨#[]⟩, .int .i64 0, .int .i64 0, .int .i64 0]) .i64 .i64 Try.underlying22 Try.underlying3 hi hz0 none 0 0 [] (run_firstCells_none w.drew i0.size 0 0 0) n (by omega) (by omega) (by omega) (by omega) (by rw [hz2]; omega) (growslice_fits (by omega) (by rw [hz2]; omega))
  simp only [Nat.zero_add] at hr
  have hz3 : (Value.cells (.agg #[.string ⟨#[]⟩, .int .i64 0, .int .i64 0, .int .i64 0])).size = 4 := rfl
  have HO : Hid (∀ (G : Nat), G = grownCap w n 0 26 → OwnL w.heap.size (.slice (some ⟨w.heap.size, 0, none⟩) 0 G) [] (w.drew.alloc (.cells ((([] : List Value).toArray ++ Builtin.zeroCells (Value.cells (.agg #[.string ⟨#[]⟩, .int .i64 0, .int .i64 0, .int .i64 0])) n) ++ Builtin.zeroCells (Value.cells (.agg #[.string ⟨#[]⟩, .int .i64 0, .int .i64 0, .int .i64 0])) (G - n)) 26))) := by
    intro G hG
    refine World.ownsRow_made w.drew _ G (Nat.le_refl _) (by rw [hG]; exact hcm) ?_
    simp only [Array.size_append, List.size_toArray, size_zeroCells, hz3, List.length_nil, Nat.zero_add, ← Nat.add_mul]
    congr 1
    omega
  have HB : Hid (∀ o, Below w.heap.size w (w.drew.alloc o)) := Lib.hid fun o => below_trans (dr w) (al w.drew _)
  unfold maxLen at hcm
  generalize hG : grownCap w n 0 26 = G at *
  clear hG
  have hO := HO.out G rfl
  have hb1 := HB.out (.cells ((([] : List Value).toArray ++ Builtin.zeroCells (Value.cells (.agg #[.string ⟨#[]⟩, .int .i64 0, .int .i64 0, .int .i64 0])) n) ++ Builtin.zeroCells (Value.cells (.agg #[.string ⟨#[]⟩, .int .i64 0, .int .i64 0, .int .i64 0])) (G - n)) 26)
  generalize (w.drew.alloc (.cells ((([] : List Value).toArray ++ Builtin.zeroCells (Value.cells (.agg #[.string ⟨#[]⟩, .int .i64 0, .int .i64 0, .int .i64 0])) n) ++ Builtin.zeroCells (Value.cells (.agg #[.string ⟨#[]⟩, .int .i64 0, .int .i64 0, .int .i64 0])) (G - n)) 26)) = W1 at hO hr hb1
  have HO1 := Lib.hid hO
  have HB1 := Lib.hid hb1
  clear hO hb1 HO HB hi hz0 hz1 hz2 hz3
  have h1 : ¬ ((n : Int) < 0) := by omega
  have h2 : (n : Int) > 0 := by omega
  go_enter Try.func55, Try.ntmps55
  go_wp2_with (at_builtin; refine Lib.wpList_append_run _ rfl _ _ _ _ rfl _ _ rfl rfl _ _ (hr _) ?_)
  go_ret
  exact ⟨_, rfl, HO1.out, HB1.out⟩

set_option maxRecDepth 100000 in
theorem GrowL_zero (w : World) : Calls Try.prog 55 #[.slice none 0 0, .int .i64 0] w (NewL [] w) := by
  go_enter Try.func55, Try.ntmps55
  go_wp2
  go_ret
  exact ⟨_, rfl, OwnL.nil _ _, Below.refl _ _⟩
theorem GrowL_any (n : Nat) (hn : n ≤ 100000) (w : World) : Calls Try.prog 55 #[.slice none 0 0, .int .i64 n] w (NewL [] w) := by
  by_cases h : n = 0
  · subst h; exact GrowL_zero w
  · exact GrowL_nil n (by omega) hn w

set_option maxHeartbeats 2000000 in
set_option maxRecDepth 100000 in
theorem ConcatL_three {g cap : Nat} {va vb vc : Value} {la lb lc : List Ln} {w : World} (hg : Box g [va, vb, vc] w) (_hcap : 3 ≤ cap) (ha : LRow w va la) (hb : LRow w vb lb) (hc : LRow w vc lc) (hla : la.length ≤ 1000) (hlb : lb.length ≤ 1000) (hlc : lc.length ≤ 1000) : Calls Try.prog 42 #[.slice (some ⟨g, 0, none⟩) 3 cap] w (NewL (la ++ (lb ++ lc)) w) := by
  have hgr := fun W => GrowL_any (la.length + lb.length + lc.length) (by omega) W
  rw [show ((la.length + lb.length + lc.length : Nat) : Int) = (la.length : Int) + lb.length + lc.length by omega] at hgr
  have HG := Lib.hid hgr
  have HX := Lib.hid hg
  have HA := Lib.hid ha
  have HB := Lib.hid hb
  have HC := Lib.hid hc
  obtain ⟨aa, ca, rfl⟩ := ha.slice
  obtain ⟨ab, cb, rfl⟩ := hb.slice
  obtain ⟨ac, cc, rfl⟩ := hc.slice
  clear ha hb hc hgr
  have hs := hg.1
  obtain ⟨x0, x1, x2⟩ := box3 hg
  clear hg
  go_enter Try.func42, Try.ntmps42
  go_wp2
  refine wp_loop_rounds 4 ?_
  rw [rounds_succ]
  go_wp2
  rw [rounds_succ]
  go_wp2
  rw [rounds_succ]
  go_wp2
  rw [rounds_succ]
  go_wp2_with fail
  (with_reducible refine (HG.out _).mono ?_)
  rintro e w1 ⟨v1, rfl, hown, hz⟩
  obtain ⟨a1, c1, rfl⟩ := hown.row.slice
  have HO := Lib.hid hown
  have HZ := Lib.hid hz
  obtain ⟨y0, y1, y2⟩ := box3 (HX.out.below hz)
  have hs1 := (HX.out.below hz).1
  clear hown hz x0 x1 x2
  go_wp2_with fail
  refine wp_loop_rounds 4 ?_
  rw [rounds_succ]
  go_wp2_with (at_builtin; refine wpList_append_L rfl _ _ rfl w.heap.size _ [] rfl HO.out _ la rfl (HA.out.below HZ.out) (by simp) (by omega) (by have := HZ.out.size; omega) ?_)
  intro v2 w2 hown2 hbel2 _
  obtain ⟨a2, c2, e2⟩ := hown2.row.slice
  have HO2 := Lib.hid hown2
  have HZ2 := Lib.hid (HZ.out.trans hbel2)
  obtain ⟨z0, z1, z2⟩ := box3 (HX.out.below HZ2.out)
  have hs2 := (HX.out.below HZ2.out).1
  have hs2' := HZ2.out.size
  subst e2
  clear hown2 hbel2 y0 y1 y2
  go_wp2
  rw [rounds_succ]
  go_wp2_with (at_builtin; refine wpList_append_L rfl _ _ rfl w.heap.size _ la rfl HO2.out _ lb rfl (HB.out.below HZ2.out) (by omega) (by omega) (by omega) ?_)
  intro v3 w3 hown3 hbel3 _
  obtain ⟨a3, c3, e3⟩ := hown3.row.slice
  have HO3 := Lib.hid hown3
  have HZ3 := Lib.hid (HZ2.out.trans hbel3)
  obtain ⟨u0, u1, u2⟩ := box3 (HX.out.below HZ3.out)
  have hs3 := (HX.out.below HZ3.out).1
  have hs3' := HZ3.out.size
  subst e3
  clear hown3 hbel3 z0 z1 z2
  go_wp2
  rw [rounds_succ]
  go_wp2_with (at_builtin; refine wpList_append_L rfl _ _ rfl w.heap.size _ (la ++ lb) rfl HO3.out _ lc rfl (HC.out.below HZ3.out) (by rw [List.length_append]; omega) (by omega) (by omega) ?_)
  intro v4 w4 hown4 hbel4 _
  obtain ⟨a4, c4, e4⟩ := hown4.row.slice
  have HO4 := Lib.hid hown4
  have HZ4 := Lib.hid (HZ3.out.trans hbel4)
  subst e4
  clear hown4 hbel4
  go_wp2
  rw [rounds_succ]
  go_wp2
  go_ret
  exact ⟨_, rfl, HO4.out, HZ4.out⟩

set_option maxHeartbeats 2000000 in
set_option maxRecDepth 100000 in
theorem ConcatL_two {g cap : Nat} {va vb : Value} {la lb : List Ln} {w : World} (hg : Box g [va, vb] w) (_hcap : 2 ≤ cap) (ha : LRow w va la) (hb : LRow w vb lb) (hla : la.length ≤ 1000) (hlb : lb.length ≤ 1000) : Calls Try.prog 42 #[.slice (some ⟨g, 0, none⟩) 2 cap] w (NewL (la ++ lb) w) := by
  have hgr := fun W => GrowL_any (la.length + lb.length) (by omega) W
  rw [show ((la.length + lb.length : Nat) : Int) = (la.length : Int) + lb.length by omega] at hgr
  have HG := Lib.hid hgr
  have HX := Lib.hid hg
  have HA := Lib.hid ha
  have HB := Lib.hid hb
  obtain ⟨aa, ca, rfl⟩ := ha.slice
  obtain ⟨ab, cb, rfl⟩ := hb.slice
  clear ha hb hgr
  have hs := hg.1
  obtain ⟨x0, x1⟩ := box2 hg
  clear hg
  go_enter Try.func42, Try.ntmps42
  go_wp2
  refine wp_loop_rounds 3 ?_
  rw [rounds_succ]
  go_wp2
  rw [rounds_succ]
  go_wp2
  rw [rounds_succ]
  go_wp2_with fail
  (with_reducible refine (HG.out _).mono ?_)
  rintro e w1 ⟨v1, rfl, hown, hz⟩
  obtain ⟨a1, c1, rfl⟩ := hown.row.slice
  have HO := Lib.hid hown
  have HZ := Lib.hid hz
  obtain ⟨y0, y1⟩ := box2 (HX.out.below hz)
  have hs1 := (HX.out.below hz).1
  clear hown hz x0 x1
  go_wp2_with fail
  refine wp_loop_rounds 3 ?_
  rw [rounds_succ]
  go_wp2_with (at_builtin; refine wpList_append_L rfl _ _ rfl w.heap.size _ [] rfl HO.out _ la rfl (HA.out.below HZ.out) (by simp) (by omega) (by have := HZ.out.size; omega) ?_)
  intro v2 w2 hown2 hbel2 _
  obtain ⟨a2, c2, e2⟩ := hown2.row.slice
  have HO2 := Lib.hid hown2
  have HZ2 := Lib.hid (HZ.out.trans hbel2)
  obtain ⟨z0, z1⟩ := box2 (HX.out.below HZ2.out)
  have hs2 := (HX.out.below HZ2.out).1
  have hs2' := HZ2.out.size
  subst e2
  clear hown2 hbel2 y0 y1
  go_wp2
  rw [rounds_succ]
  go_wp2_with (at_builtin; refine wpList_append_L rfl _ _ rfl w.heap.size _ la rfl HO2.out _ lb rfl (HB.out.below HZ2.out) (by omega) (by omega) (by omega) ?_)
  intro v3 w3 hown3 hbel3 _
  obtain ⟨a3, c3, e3⟩ := hown3.row.slice
  have HO3 := Lib.hid hown3
  have HZ3 := Lib.hid (HZ2.out.trans hbel3)
  subst e3
  clear hown3 hbel3
  go_wp2
  rw [rounds_succ]
  go_wp2
  go_ret
  exact ⟨_, rfl, HO3.out, HZ3.out⟩

end Go.Proofs.Ytcehhgcfkoldfaa.Waits
