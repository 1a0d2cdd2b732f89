/-
  Timers put together of three rows (slices.Grow, slices.Concat).
-/
import Derived.Test.YtncaohdnbibkfaaTRight
import Derived.Lib.SliceRun
import Derived.Lib.AppendZerosOnto
namespace Go.Proofs.Ytncaohdnbibkfaa.Timer
open Go.ChangeShapes Go.WideShapes Go.ChangeAt Go.RowKit Go.Shelf Go.Lib
open Go.Proofs.Ytncaohdnbibkfaa.Queue

theorem QRow.no {w : World} {n cap : Nat} {l : List Wt} (h : QRow w (.slice none n cap) l) : l = [] := by
  obtain ⟨a, c, e, h1, h2, h3⟩ := h
  cases e
  cases l with
  | nil => rfl
  | cons y r =>
    obtain ⟨b, off, ea, _⟩ := h3 (by simp)
    cases ea
theorem box3 {b : Nat} {c0 c1 c2 : Value} {w : World} (h : Box b [c0, c1, c2] w) : w.cell? ⟨b, 0, none⟩ = some c0 ∧ w.cell? ⟨b, 1, none⟩ = some c1 ∧ w.cell? ⟨b, 2, none⟩ = some c2 := ⟨(h.2 0 _ rfl).1, (h.2 1 _ rfl).1, (h.2 2 _ rfl).1⟩
theorem run_append_none_M {base cap : Nat} {v : Value} {l : List Wt} {w : World} (ty : TypeId) (hown : OwnM base v l w) : (Builtin.append_ #[22, 22] ty #[v, .slice none 0 cap]).run Try.prog w = .ok v w := by
  obtain ⟨i0, hi, hz0, hz1, hz2⟩ := info_parts infoM
  have hr := hown.row
  obtain ⟨a, c, rfl⟩ := hr.slice
  have hc := (QRow.cap hr).2.1
  have e : l.length + 0 ≤ c := by omega
  cases a with
  | none => simp [Builtin.append_, run_underlying Try.underlying22, sizeOf, typeInfo, hi, Builtin.lenOf, Builtin.firstCells, hc]
  | some ad => simp [Builtin.append_, run_underlying Try.underlying22, sizeOf, typeInfo, hi, Builtin.lenOf, Builtin.firstCells, storeCells, hc]
/-- Some, which may be none, are appended to a row of the call's own. -/
theorem wp_append_Mo {w : World} {o : Oper} {a : Act} {K : Act → World → Prop} {Q : Exit → Act → World → Prop} (s x : Operand)
    (ho : o.op = .call { callee := .builtin .append, args := #[s, x], argTypes := #[22, 22] })
    (base : Nat) (v : Value) (l0 : List Wt) (hs : a.eval s = v) (hown : OwnM base v l0 w) (u : Value) (l : List Wt) (hx : a.eval x = u) (hrow : QRow w u l) (h0 : l0.length ≤ 100000) (hl : l.length ≤ 100000) (hbase : base ≤ w.heap.size)
    (h : ∀ v' w', OwnM base v' (l0 ++ l) w' → Below base w w' → w.grownBy w' v.ownBlock → K (a.put o.dst v') w') : o.wp Try.prog a w K Q := by
  obtain ⟨i0, hi, hz0, hz1, hz2⟩ := info_parts infoM
  obtain ⟨ad, cap, rfl⟩ := hrow.slice
  cases ad with
  | none =>
    have e : l = [] := (QRow.no hrow)
    subst e
    have hrun := run_append_none_M (cap := cap) o.type hown
    unfold Oper.wp
    simp only [execOp, ho, resolve, invoke, builtin, Sem.run_bind, Sem.run_pure, Result.andThen_ok, List.map_toArray, List.map_cons, List.map_nil, hs, hx]
    simp only [List.length_nil, hrun]
    exact h v w (by rw [List.append_nil]; exact hown) ⟨rfl, rfl, rfl, Nat.le_refl _, fun _ _ => rfl⟩ ⟨rfl, rfl, rfl, Nat.le_refl _, fun _ _ _ => rfl⟩
  | some ad =>
    refine wp_append_own w s x 22 ho base 24 i0 (.agg #[.int .i64 0, .int .i64 0, .int .i64 0]) 3 24 Try.underlying22 hi hz0 hz1 hz2 rfl (by decide) v l0.length (mcells l0) hs hown ad l.length cap (mcells l) hx (by rw [mcells_len]) (news_M hrow) (mcells_one l) (by unfold maxLen; omega) (by omega) hbase ?_
    intro v' w1 hown' hgrow _
    refine h v' w1 ?_ ?_ hgrow
    · unfold OwnM
      rw [mcells_append, List.length_append]
      exact hown'
    · exact (show Below base w w from ⟨rfl, rfl, rfl, Nat.le_refl _, fun _ _ => rfl⟩).grown hgrow hbase (fun j hj => (hown.lt j hj).1)
theorem wpList_append_Mo {w : World} {ops : Array Oper} {rest : List Oper} {o : Oper} {a : Act} {Q : Exit → Act → World → Prop} (hgd : o.guard = none) (s x : Operand)
    (ho : o.op = .call { callee := .builtin .append, args := #[s, x], argTypes := #[22, 22] })
    (base : Nat) (v : Value) (l0 : List Wt) (hs : a.eval s = v) (hown : OwnM base v l0 w) (u : Value) (l : List Wt) (hx : a.eval x = u) (hrow : QRow w u l) (h0 : l0.length ≤ 100000) (hl : l.length ≤ 100000) (hbase : base ≤ w.heap.size)
    (h : ∀ v' w', OwnM base v' (l0 ++ l) w' → Below base w w' → w.grownBy w' v.ownBlock → wpList Try.prog ops Q rest (a.put o.dst v') w') : wpList Try.prog ops Q (o :: rest) a w :=
  wpList_plain hgd fun _ hK => wp_append_Mo s x ho base v l0 hs hown u l hx hrow h0 hl hbase fun v' w' h1 h2 h3 => hK _ _ (h v' w' h1 h2 h3)
set_option maxHeartbeats 1000000 in
set_option maxRecDepth 100000 in
theorem GrowM_nil (n : Nat) (h0 : 1 ≤ n) (hn : n ≤ 100000) (w : World) : Calls Try.prog 31 #[.slice none 0 0, .int .i64 n] w (NewM [] w) := by
  obtain ⟨i0, hi, hz0, hz1, hz2⟩ := info_parts infoM
  have hge := grownCap_ge w n 0 24
  have hcm : grownCap w n 0 24 ≤ maxLen := grownCap_le_maxLen w n 0 24 (by unfold maxLen; omega)
  have hr := fun ty => Lib.run_append_grow_zeros (P := Try.prog) w 22 3 ty 24 i0 (.agg #[.int .i64 0, .int .i64 0, .int .i64 0]) .i64 .i64 Try.underlying22 Try.underlying3 hi hz0 none 0 0 [] (run_firstCells_none w.drew i0.size 0 0 0) n (by omega) (by omega) (by omega) (by omega) (by rw [hz2]; omega) (growslice_fits (by omega) (by rw [hz2]; omega))
  simp only [Nat.zero_add] at hr
  have hz3 : (Value.cells (.agg #[.int .i64 0, .int .i64 0, .int .i64 0])).size = 3 := rfl
  have HO : Hid (∀ (G : Nat), G = grownCap w n 0 24 → OwnM w.heap.size (.slice (some ⟨w.heap.size, 0, none⟩) 0 G) [] (w.drew.alloc (.cells ((([] : List Value).toArray ++ Builtin.zeroCells (Value.cells (.agg #[.int .i64 0, .int .i64 0, .int .i64 0])) n) ++ Builtin.zeroCells (Value.cells (.agg #[.int .i64 0, .int .i64 0, .int .i64 0])) (G - n)) 24))) := by
    intro G hG
    refine World.ownsRow_made w.drew _ G (Nat.le_refl _) (by rw [hG]; exact hcm) ?_
    simp only [Array.size_append, List.size_toArray, size_zeroCells, hz3, List.length_nil, Nat.zero_add, ← Nat.add_mul]
    congr 1
    omega
  have HB : Hid (∀ o, Below w.heap.size w (w.drew.alloc o)) := Lib.hid fun o => below_trans (dr w) (al w.drew _)
  unfold maxLen at hcm
  generalize hG : grownCap w n 0 24 = G at *
  clear hG
  have hO := HO.out G rfl
  have hb1 := HB.out (.cells ((([] : List Value).toArray ++ Builtin.zeroCells (Value.cells (.agg #[.int .i64 0, .int .i64 0, .int .i64 0])) n) ++ Builtin.zeroCells (Value.cells (.agg #[.int .i64 0, .int .i64 0, .int .i64 0])) (G - n)) 24)
  generalize (w.drew.alloc (.cells ((([] : List Value).toArray ++ Builtin.zeroCells (Value.cells (.agg #[.int .i64 0, .int .i64 0, .int .i64 0])) n) ++ Builtin.zeroCells (Value.cells (.agg #[.int .i64 0, .int .i64 0, .int .i64 0])) (G - n)) 24)) = W1 at hO hr hb1
  have HO1 := Lib.hid hO
  have HB1 := Lib.hid hb1
  clear hO hb1 HO HB hi hz0 hz1 hz2 hz3
  have h1 : ¬ ((n : Int) < 0) := by omega
  have h2 : (n : Int) > 0 := by omega
  go_enter Try.func31, Try.ntmps31
  go_wp2_with (at_builtin; refine Lib.wpList_append_run _ rfl _ _ _ _ rfl _ _ rfl rfl _ _ (hr _) ?_)
  go_ret
  exact ⟨_, rfl, HO1.out, HB1.out⟩

set_option maxRecDepth 100000 in
theorem GrowM_zero (w : World) : Calls Try.prog 31 #[.slice none 0 0, .int .i64 0] w (NewM [] w) := by
  go_enter Try.func31, Try.ntmps31
  go_wp2
  go_ret
  exact ⟨_, rfl, OwnM.nil _ _, Below.refl _ _⟩
theorem GrowM_any (n : Nat) (hn : n ≤ 100000) (w : World) : Calls Try.prog 31 #[.slice none 0 0, .int .i64 n] w (NewM [] w) := by
  by_cases h : n = 0
  · subst h; exact GrowM_zero w
  · exact GrowM_nil n (by omega) hn w

set_option maxHeartbeats 2000000 in
set_option maxRecDepth 100000 in
theorem ConcatM_three {g cap : Nat} {va vb vc : Value} {la lb lc : List Wt} {w : World} (hg : Box g [va, vb, vc] w) (_hcap : 3 ≤ cap) (ha : QRow w va la) (hb : QRow w vb lb) (hc : QRow w vc lc) (hla : la.length ≤ 1000) (hlb : lb.length ≤ 1000) (hlc : lc.length ≤ 1000) : Calls Try.prog 24 #[.slice (some ⟨g, 0, none⟩) 3 cap] w (NewM (la ++ (lb ++ lc)) w) := by
  have hgr := fun W => GrowM_any (la.length + lb.length + lc.length) (by omega) W
  rw [show ((la.length + lb.length + lc.length : Nat) : Int) = (la.length : Int) + lb.length + lc.length by omega] at hgr
  have HG := Lib.hid hgr
  have HX := Lib.hid hg
  have HA := Lib.hid ha
  have HB := Lib.hid hb
  have HC := Lib.hid hc
  obtain ⟨aa, ca, rfl⟩ := ha.slice
  obtain ⟨ab, cb, rfl⟩ := hb.slice
  obtain ⟨ac, cc, rfl⟩ := hc.slice
  clear ha hb hc hgr
  have hs := hg.1
  obtain ⟨x0, x1, x2⟩ := box3 hg
  clear hg
  go_enter Try.func24, Try.ntmps24
  go_wp2
  refine wp_loop_rounds 4 ?_
  rw [rounds_succ]
  go_wp2
  rw [rounds_succ]
  go_wp2
  rw [rounds_succ]
  go_wp2
  rw [rounds_succ]
  go_wp2_with fail
  (with_reducible refine (HG.out _).mono ?_)
  rintro e w1 ⟨v1, rfl, hown, hz⟩
  obtain ⟨a1, c1, rfl⟩ := hown.row.slice
  have HO := Lib.hid hown
  have HZ := Lib.hid hz
  obtain ⟨y0, y1, y2⟩ := box3 (HX.out.below hz)
  have hs1 := (HX.out.below hz).1
  clear hown hz x0 x1 x2
  go_wp2_with fail
  refine wp_loop_rounds 4 ?_
  rw [rounds_succ]
  go_wp2_with (at_builtin; refine wpList_append_Mo rfl _ _ rfl w.heap.size _ [] rfl HO.out _ la rfl (HA.out.below HZ.out) (by simp) (by omega) (by have := HZ.out.size; omega) ?_)
  intro v2 w2 hown2 hbel2 _
  obtain ⟨a2, c2, e2⟩ := hown2.row.slice
  have HO2 := Lib.hid hown2
  have HZ2 := Lib.hid (HZ.out.trans hbel2)
  obtain ⟨z0, z1, z2⟩ := box3 (HX.out.below HZ2.out)
  have hs2 := (HX.out.below HZ2.out).1
  have hs2' := HZ2.out.size
  subst e2
  clear hown2 hbel2 y0 y1 y2
  go_wp2
  rw [rounds_succ]
  go_wp2_with (at_builtin; refine wpList_append_Mo rfl _ _ rfl w.heap.size _ la rfl HO2.out _ lb rfl (HB.out.below HZ2.out) (by omega) (by omega) (by omega) ?_)
  intro v3 w3 hown3 hbel3 _
  obtain ⟨a3, c3, e3⟩ := hown3.row.slice
  have HO3 := Lib.hid hown3
  have HZ3 := Lib.hid (HZ2.out.trans hbel3)
  obtain ⟨u0, u1, u2⟩ := box3 (HX.out.below HZ3.out)
  have hs3 := (HX.out.below HZ3.out).1
  have hs3' := HZ3.out.size
  subst e3
  clear hown3 hbel3 z0 z1 z2
  go_wp2
  rw [rounds_succ]
  go_wp2_with (at_builtin; refine wpList_append_Mo rfl _ _ rfl w.heap.size _ (la ++ lb) rfl HO3.out _ lc rfl (HC.out.below HZ3.out) (by rw [List.length_append]; omega) (by omega) (by omega) ?_)
  intro v4 w4 hown4 hbel4 _
  obtain ⟨a4, c4, e4⟩ := hown4.row.slice
  have HO4 := Lib.hid hown4
  have HZ4 := Lib.hid (HZ3.out.trans hbel4)
  subst e4
  clear hown4 hbel4
  go_wp2
  rw [rounds_succ]
  go_wp2
  go_ret
  exact ⟨_, rfl, HO4.out, HZ4.out⟩


end Go.Proofs.Ytncaohdnbibkfaa.Timer
