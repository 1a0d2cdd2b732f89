/-
  What is told, put together of two rows (slices.Grow, slices.Concat), and copied (slices.Clone).
-/
import Derived.Test.YtlhepocjcdbhjaaUHand
import Derived.Lib.SliceRun
import Derived.Lib.AppendZerosOnto
namespace Go.Proofs.Ytlhepocjcdbhjaa.Outbox
open Go.ChangeShapes Go.WideShapes Go.ChangeAt Go.RowKit Go.Shelf
open Go.Proofs.Ytlhepocjcdbhjaa.Queue (Box al dr below_trans ret_bool BoolB)

set_option maxHeartbeats 1000000 in
set_option maxRecDepth 100000 in
theorem GrowU_nil (n : Nat) (h0 : 1 ≤ n) (hn : n ≤ 100000) (w : World) : Calls Try.prog 33 #[.slice none 0 0, .int .i64 n] w (NewU [] w) := by
  obtain ⟨i0, hi, hz0, hz1, hz2⟩ := info_parts infoU
  have hge := grownCap_ge w n 0 30
  have hcm : grownCap w n 0 30 ≤ maxLen := grownCap_le_maxLen w n 0 30 (by unfold maxLen; omega)
  have hr := fun ty => Lib.run_append_grow_zeros (P := Try.prog) w 22 3 ty 30 i0 (.agg #[.int .i64 0, .int .i64 0, .int .i64 0, .int .i64 0]) .i64 .i64 Try.underlying22 Try.underlying3 hi hz0 none 0 0 [] (run_firstCells_none w.drew i0.size 0 0 0) n (by omega) (by omega) (by omega) (by omega) (by rw [hz2]; omega) (growslice_fits (by omega) (by rw [hz2]; omega))
  simp only [Nat.zero_add] at hr
  have hz3 : (Value.cells (.agg #[.int .i64 0, .int .i64 0, .int .i64 0, .int .i64 0])).size = 4 := rfl
  have HO : Hid (∀ (G : Nat), G = grownCap w n 0 30 → OwnU w.heap.size (.slice (some ⟨w.heap.size, 0, none⟩) 0 G) [] (w.drew.alloc (.cells ((([] : List Value).toArray ++ Builtin.zeroCells (Value.cells (.agg #[.int .i64 0, .int .i64 0, .int .i64 0, .int .i64 0])) n) ++ Builtin.zeroCells (Value.cells (.agg #[.int .i64 0, .int .i64 0, .int .i64 0, .int .i64 0])) (G - n)) 30))) := by
    intro G hG
    refine World.ownsRow_made w.drew _ G (Nat.le_refl _) (by rw [hG]; exact hcm) ?_
    simp only [Array.size_append, List.size_toArray, size_zeroCells, hz3, List.length_nil, Nat.zero_add, ← Nat.add_mul]
    congr 1
    omega
  have HB : Hid (∀ o, Below w.heap.size w (w.drew.alloc o)) := Lib.hid fun o => below_trans (dr w) (al w.drew _)
  unfold maxLen at hcm
  generalize hG : grownCap w n 0 30 = G at *
  clear hG
  have hO := HO.out G rfl
  have hb1 := HB.out (.cells ((([] : List Value).toArray ++ Builtin.zeroCells (Value.cells (.agg #[.int .i64 0, .int .i64 0, .int .i64 0, .int .i64 0])) n) ++ Builtin.zeroCells (Value.cells (.agg #[.int .i64 0, .int .i64 0, .int .i64 0, .int .i64 0])) (G - n)) 30)
  generalize (w.drew.alloc (.cells ((([] : List Value).toArray ++ Builtin.zeroCells (Value.cells (.agg #[.int .i64 0, .int .i64 0, .int .i64 0, .int .i64 0])) n) ++ Builtin.zeroCells (Value.cells (.agg #[.int .i64 0, .int .i64 0, .int .i64 0, .int .i64 0])) (G - n)) 30)) = W1 at hO hr hb1
  have HO1 := Lib.hid hO
  have HB1 := Lib.hid hb1
  clear hO hb1 HO HB hi hz0 hz1 hz2 hz3
  have h1 : ¬ ((n : Int) < 0) := by omega
  have h2 : (n : Int) > 0 := by omega
  go_enter Try.func33, Try.ntmps33
  go_wp2_with (at_builtin; refine Lib.wpList_append_run _ rfl _ _ _ _ rfl _ _ rfl rfl _ _ (hr _) ?_)
  go_ret
  exact ⟨_, rfl, HO1.out, HB1.out⟩

set_option maxRecDepth 100000 in
theorem GrowU_zero (w : World) : Calls Try.prog 33 #[.slice none 0 0, .int .i64 0] w (NewU [] w) := by
  go_enter Try.func33, Try.ntmps33
  go_wp2
  go_ret
  exact ⟨_, rfl, OwnU.nil _ _, Below.refl _ _⟩
theorem GrowU_any (n : Nat) (hn : n ≤ 100000) (w : World) : Calls Try.prog 33 #[.slice none 0 0, .int .i64 n] w (NewU [] w) := by
  by_cases h : n = 0
  · subst h; exact GrowU_zero w
  · exact GrowU_nil n (by omega) hn w

set_option maxHeartbeats 2000000 in
set_option maxRecDepth 100000 in
theorem ConcatU_two {g cap : Nat} {va vb : Value} {la lb : List Ot} {w : World} (hg : Box g [va, vb] w) (_hcap : 2 ≤ cap) (ha : URow w va la) (hb : URow w vb lb) (hla : la.length ≤ 1000) (hlb : lb.length ≤ 1000) : Calls Try.prog 25 #[.slice (some ⟨g, 0, none⟩) 2 cap] w (NewU (la ++ lb) w) := by
  have hgr := fun W => GrowU_any (la.length + lb.length) (by omega) W
  rw [show ((la.length + lb.length : Nat) : Int) = (la.length : Int) + lb.length by omega] at hgr
  have HG := Lib.hid hgr
  have HX := Lib.hid hg
  have HA := Lib.hid ha
  have HB := Lib.hid hb
  obtain ⟨aa, ca, rfl⟩ := ha.slice
  obtain ⟨ab, cb, rfl⟩ := hb.slice
  clear ha hb hgr
  have hs := hg.1
  obtain ⟨x0, x1⟩ := box2 hg
  clear hg
  go_enter Try.func25, Try.ntmps25
  go_wp2
  refine wp_loop_rounds 3 ?_
  rw [rounds_succ]
  go_wp2
  rw [rounds_succ]
  go_wp2
  rw [rounds_succ]
  go_wp2_with fail
  (with_reducible refine (HG.out _).mono ?_)
  rintro e w1 ⟨v1, rfl, hown, hz⟩
  obtain ⟨a1, c1, rfl⟩ := hown.row.slice
  have HO := Lib.hid hown
  have HZ := Lib.hid hz
  obtain ⟨y0, y1⟩ := box2 (HX.out.below hz)
  have hs1 := (HX.out.below hz).1
  clear hown hz x0 x1
  go_wp2_with fail
  refine wp_loop_rounds 3 ?_
  rw [rounds_succ]
  go_wp2_with (at_builtin; refine wpList_append_U rfl _ _ rfl w.heap.size _ [] rfl HO.out _ la rfl (HA.out.below HZ.out) (by simp) (by omega) (by have := HZ.out.size; omega) ?_)
  intro v2 w2 hown2 hbel2 _
  obtain ⟨a2, c2, e2⟩ := hown2.row.slice
  have HO2 := Lib.hid hown2
  have HZ2 := Lib.hid (HZ.out.trans hbel2)
  obtain ⟨z0, z1⟩ := box2 (HX.out.below HZ2.out)
  have hs2 := (HX.out.below HZ2.out).1
  have hs2' := HZ2.out.size
  subst e2
  clear hown2 hbel2 y0 y1
  go_wp2
  rw [rounds_succ]
  go_wp2_with (at_builtin; refine wpList_append_U rfl _ _ rfl w.heap.size _ la rfl HO2.out _ lb rfl (HB.out.below HZ2.out) (by omega) (by omega) (by omega) ?_)
  intro v3 w3 hown3 hbel3 _
  obtain ⟨a3, c3, e3⟩ := hown3.row.slice
  have HO3 := Lib.hid hown3
  have HZ3 := Lib.hid (HZ2.out.trans hbel3)
  subst e3
  clear hown3 hbel3
  go_wp2
  rw [rounds_succ]
  go_wp2
  go_ret
  exact ⟨_, rfl, HO3.out, HZ3.out⟩

set_option maxHeartbeats 1000000 in
set_option maxRecDepth 100000 in
theorem CloneU_any {v : Value} {l : List Ot} {w : World} (h : URow w v l) (hl : l.length ≤ 1000) : Calls Try.prog 29 #[v] w (NewU l w) := by
  have H := Lib.hid h
  obtain ⟨a, cap, rfl⟩ := h.slice
  cases a with
  | none =>
    have h0 : l = [] := h.no
    subst h0
    have hnil : (binOp .eql 22 (.slice none 0 cap) (.slice none 0 0)).run Try.prog w = .ok (.bool true) w := run_eql_slice_nil w 22 30 _ _ _ Try.underlying22
    clear h
    go_enter Try.func29, Try.ntmps29
    go_wp2
    go_ret
    exact ⟨_, rfl, OwnU.nil _ _, Below.refl _ _⟩
  | some ad =>
    have hb := al w (.cells #[] 30)
    have HB := Lib.hid hb
    have HE := Lib.hid (OwnU.empty w (Nat.le_refl _))
    have HN := Lib.hid (H.out.below hb)
    have hnil : (binOp .eql 22 (.slice (some ad) l.length cap) (.slice none 0 0)).run Try.prog w = .ok (.bool false) w := run_eql_slice_nil w 22 30 _ _ _ Try.underlying22
    clear h hb
    go_enter Try.func29, Try.ntmps29
    go_wp2_with (at_builtin; refine wpList_append_U rfl _ _ rfl w.heap.size _ [] rfl HE.out _ l rfl HN.out (by simp) (by omega) (by simp) ?_)
    intro v' w1 hown hbel _
    have HR := Lib.hid (And.intro hown (HB.out.trans hbel))
    clear hown hbel
    go_wp2
    go_ret
    exact ⟨_, rfl, HR.out.1, HR.out.2⟩
end Go.Proofs.Ytlhepocjcdbhjaa.Outbox
