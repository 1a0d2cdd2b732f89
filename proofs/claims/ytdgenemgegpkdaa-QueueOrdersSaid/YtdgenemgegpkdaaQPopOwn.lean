/-
  Pop, with what it returns in a row of its own; and a wait appended to a row beside it.
-/
import Derived.Test.YtdgenemgegpkdaaQGoes3
namespace Go.Proofs.Ytdgenemgegpkdaa.Queue
open Go.ChangeShapes Go.WideShapes Go.ChangeAt Go.RowKit Go.Shelf Go.Sort

/-- A row of its own, a wait and an error's number are returned. -/
def PopO (l : List Wt) (x : Wt) (k : Int) (w : World) (e : Ending) (w' : World) : Prop := ∃ v, e = .returned (.tuple #[v, wv x, .int .i64 k]) ∧ OwnQ w.heap.size v l w' ∧ Below w.heap.size w w'
set_option maxHeartbeats 2000000 in
set_option maxRecDepth 100000 in
theorem Pop_own {v : Value} {l : List Wt} {w : World} (h : QRow w v l) (hr : rightB l = true) (h0 : 0 < l.length) (hl : l.length ≤ 64) : Calls Try.prog 19 #[v] w (PopO (down (l.length - 1) 0 (swp l.toArray 0 (l.length - 1))).toList.dropLast (down (l.length - 1) 0 (swp l.toArray 0 (l.length - 1)))[l.length - 1]! 0 w) := by
  have HA := Lib.hid (al w (.cells #[.int .i64 0, .int .i64 0, .int .i64 0] 24))
  have HX := Lib.hid (Box.made w [.int .i64 0, .int .i64 0, .int .i64 0] 24)
  have hra := Right_any (h.below HA.out) (by omega)
  rw [hr] at hra
  have HR := Lib.hid hra
  have HC := Lib.hid (fun W (hb : Below w.heap.size w W) => Clone_any (h.below hb) (by omega))
  obtain ⟨a, cap, rfl⟩ := h.slice
  have hne : ((l.length : Int) == 0) = false := beq_eq_false_iff_ne.2 (by omega)
  obtain ⟨x, hx⟩ : ∃ x, (down (l.length - 1) 0 (swp l.toArray 0 (l.length - 1)))[l.length - 1]! = x := ⟨_, rfl⟩
  have HXX := Lib.hid hx
  rw [hx]
  have hta : ∀ W, Sem.run Try.prog (Instr.typeAssert (.iface 24 (.agg #[.int .i64 x.c, .int .i64 x.s, .int .i64 x.o])) 20 24 false) W = .ok (.agg #[.int .i64 x.c, .int .i64 x.s, .int .i64 x.o]) W := fun _ => by kernel_rfl
  clear h hra hr hx
  go_enter Try.func19, Try.ntmps19
  go_upto_region 7 with (first
    | (go_at_call 12; (with_reducible refine HR.out.mono ?_); rintro e w1 ⟨rfl, hz⟩; have HX1 := Lib.hid (HX.out.below hz); have HZ := Lib.hid (below_trans HA.out hz); clear hz)
    | (go_at_call 22; (with_reducible refine (HC.out _ HZ.out).mono ?_); rintro e w3 ⟨vC, rfl, ho, hb⟩; have hs := HS.made ho hb.size; have HPO := Lib.hid (HPop_any hs h0 (by omega)); have HX3 := Lib.hid (HX1.out.below (below_trans hb (al w3 (.cells #[vC] 40)))); have HXL := Lib.hid HX1.out.1; have HBC := Lib.hid (below_trans HZ.out (below_trans hb (al w3 (.cells #[vC] 40)))); have HBS := Lib.hid HZ.out.size; have HLT := Lib.hid hb.size; obtain ⟨aC, cC, rfl⟩ := ho.row.slice; clear hs ho hb)
    | (go_at_call 30; (with_reducible refine HPO.out.mono ?_); rintro e w4 ⟨rfl, v4, h4, b4⟩; rw [HXX.out]; unfold wv; have H4 := Lib.hid h4; have HB4 := Lib.hid (HBC.out.trans (b4.mono HBS.out)); have HX4 := Lib.hid (HX3.out.keep HXL.out b4); obtain ⟨c4, f4⟩ := h4.cell; clear h4 b4))
  obtain ⟨a4, n4, c4', rfl⟩ : ∃ a n c, v4 = .slice a n c := by obtain ⟨a', c', e⟩ := H4.out.2.1.row.slice; exact ⟨a', _, c', e⟩
  obtain ⟨W4, hW4⟩ : ∃ W, w4.alloc (.cells #[.int .i64 x.c, .int .i64 x.s, .int .i64 x.o] 24) = W := ⟨_, rfl⟩
  have hal : Below w4.heap.size w4 W4 := hW4 ▸ al w4 _
  have hbx : Box w4.heap.size [.int .i64 x.c, .int .i64 x.s, .int .i64 x.o] W4 := hW4 ▸ Box.made w4 _ _
  have hbz : Box w.heap.size [.int .i64 0, .int .i64 0, .int .i64 0] W4 := HX4.out.below hal
  have H5 := Lib.hid (H4.out.below hal)
  have HB5 := Lib.hid (HB4.out.trans (hal.mono HB4.out.size))
  have hlz : w.heap.size < W4.heap.size := hbz.1
  obtain ⟨k5, g5⟩ := H5.out.cell
  obtain ⟨x0, x1, x2⟩ := hbx.c3
  obtain ⟨z0, z1, z2⟩ := hbz.c3
  have y0 := (hbz.2 0 _ rfl).2
  have y1 := (hbz.2 1 _ rfl).2
  have y2 := (hbz.2 2 _ rfl).2
  rw [hW4]
  clear hW4 hal hbx hbz c4 f4 HX4 H4 HB4 HX HX1 HX3 HPO HC HR HA hta
  generalize w4.heap.size = gx at *
  obtain ⟨gz, hgz⟩ : ∃ g, w.heap.size = g := ⟨_, rfl⟩
  rw [hgz] at hlz z0 z1 z2 y0 y1 y2 ⊢
  have hgB : gz < w1.heap.size := hgz ▸ HXL.out
  have hown : (Value.slice a4 n4 c4').ownBlock ≠ some gz := fun e => by have := (H5.out.2.1.lt gz e).1; omega
  obtain ⟨W5, hW5⟩ : ∃ W, (((W4.setCell ⟨gz, 0, none⟩ (.int .i64 x.c)).setCell ⟨gz, 1, none⟩ (.int .i64 x.s)).setCell ⟨gz, 2, none⟩ (.int .i64 x.o)).drew = W := ⟨_, rfl⟩
  have HR5 : Hid (OwnQ w.heap.size (.slice a4 n4 c4') (down (l.length - 1) 0 (swp l.toArray 0 (l.length - 1))).toList.dropLast W5) := Lib.hid (by
    have h1 := ownsRow_setCell_other (a := ⟨gz, 0, none⟩) H5.out.2.1 hown (.int .i64 x.c)
    have h2 := ownsRow_setCell_other (a := ⟨gz, 1, none⟩) h1 hown (.int .i64 x.s)
    have h3 := ownsRow_setCell_other (a := ⟨gz, 2, none⟩) h2 hown (.int .i64 x.o)
    rw [← hW5]
    exact OwnQ.below (World.ownsRow.mono h3 HBS.out) (dr _))
  have HB6 : Hid (Below w.heap.size w W5) := Lib.hid (by
    rw [← hW5]
    have hgw : w.heap.size ≤ gz := Nat.le_of_eq hgz
    have hb1 := ((HB5.out.setCell (p := ⟨gz, 0, none⟩) hgw (.int .i64 x.c)).setCell (p := ⟨gz, 1, none⟩) hgw (.int .i64 x.s)).setCell (p := ⟨gz, 2, none⟩) hgw (.int .i64 x.o)
    exact below_trans hb1 (dr _))
  have q0 : W5.cell? ⟨gz, 0, none⟩ = some (.int .i64 x.c) := by rw [← hW5]; simp [go_sem, z0]
  have q1 : W5.cell? ⟨gz, 1, none⟩ = some (.int .i64 x.s) := by rw [← hW5]; simp [go_sem, z1]
  have q2 : W5.cell? ⟨gz, 2, none⟩ = some (.int .i64 x.o) := by rw [← hW5]; simp [go_sem, z2]
  go_region
  clear hW5
  go_wp2_with fail
  exact bodyPost_ret (v := .tuple #[.slice a4 n4 c4', .agg #[.int .i64 x.c, .int .i64 x.s, .int .i64 x.o], .int .i64 0]) (by simp [results, Try.results19, go_sem, q0, q1, q2]) rfl ⟨_, rfl, HR5.out, HB6.out⟩

theorem popsO (l : List Wt) (hr : rightB l = true) (h0 : 0 < l.length) (hl : l.length ≤ 64) : ∃ (M : List Wt) (y : Wt), (∀ W v, QRow W v l → Calls Try.prog 19 #[v] W (PopO M y 0 W)) ∧ rightB M = true ∧ M.length + 1 = l.length ∧ sortL l = y :: sortL M := by
  obtain ⟨M, y, e1, e2, e3, e4, e5⟩ := goes_pop hr h0
  refine ⟨M, y, fun W v h => ?_, e3, by omega, e5⟩
  have := Pop_own h hr h0 hl
  rwa [e1, e2] at this
/-- What pushing makes of a heap. -/
theorem pushes (l : List Wt) (x : Wt) (hr : rightB l = true) (hl : l.length < 64) : ∃ (L : List Wt) (k : Int), (∀ W v, QRow W v l → Calls Try.prog 18 #[v, wv x] W (RowE L k W)) ∧
    ((mayB x = false ∧ L = [] ∧ k = 1) ∨ (mayB x = true ∧ rightB L = true ∧ L.length = l.length + 1 ∧ sortL L = sortL (l ++ [x]) ∧ k = 0)) := by
  cases hm : mayB x with
  | true =>
    obtain ⟨L, e1, e2, e3, e4⟩ := goes_push hr hm hl
    refine ⟨L, 0, fun W v h => ?_, .inr ⟨rfl, e2, e3, e4, rfl⟩⟩
    have := Push_yes h x hr hm hl
    rwa [e1] at this
  | false =>
    have hk : pushK l x = 1 := by unfold pushK; rw [hr, hm]; rfl
    refine ⟨[], 1, fun W v h => ?_, .inl ⟨rfl, rfl, rfl⟩⟩
    have := Push_no h (by omega) x (by rw [hk]; decide)
    rwa [hk] at this
theorem rightB_nil : rightB [] = true := by
  unfold rightB
  rw [Bool.and_eq_true, hpB_t]
  exact ⟨rfl, fun k h1 h2 => by simp at h2⟩
/-- A row that was made later lies apart. -/
theorem own_apart {B1 B2 : Nat} {v u : Value} {l m : List Wt} {w W : World} (h1 : OwnQ B1 v l w) (h2 : OwnQ B2 u m W) (hle : w.heap.size ≤ B2) : u.ownBlock = none ∨ u.ownBlock ≠ v.ownBlock := by
  cases hu : u.ownBlock with
  | none => exact .inl rfl
  | some k =>
    refine .inr fun e => ?_
    have := (h2.lt k hu).1
    have := (h1.lt k e.symm).2
    omega
theorem wpList_append_out {w : World} {ops : Array Oper} {rest : List Oper} {o : Oper} {a : Act} {Q : Exit → Act → World → Prop} (hgd : o.guard = none) (s y : Operand)
    (ho : o.op = .call { callee := .builtin .append, args := #[s, y], argTypes := #[22, 22] })
    (base : Nat) (v : Value) (l0 : List Wt) (hs : a.eval s = v) (hown : OwnQ base v l0 w) (ad : Addr) (x : Wt) (hy : a.eval y = .slice (some ad) 1 1) (hrow : QRow w (.slice (some ad) 1 1) [x]) (h0 : l0.length ≤ 1000) (hbase : base ≤ w.heap.size)
    {B2 : Nat} {u : Value} {m : List Wt} (hu : OwnQ B2 u m w) (hne : u.ownBlock = none ∨ u.ownBlock ≠ v.ownBlock)
    (h : ∀ v' w', OwnQ base v' (l0 ++ [x]) w' → Below base w w' → OwnQ B2 u m w' → wpList Try.prog ops Q rest (a.put o.dst v') w') : wpList Try.prog ops Q (o :: rest) a w := by
  obtain ⟨i0, hi, hz0, hz1, hz2⟩ := info_parts infoQ
  refine wpList_append_own w hgd s y 22 ho base 24 i0 (.agg #[.int .i64 0, .int .i64 0, .int .i64 0]) 3 24 Try.underlying22 hi hz0 hz1 hz2 rfl (by decide) v l0.length (qcells l0) hs hown ad 1 1 (qcells [x]) hy rfl (show QRow w (.slice (some ad) [x].length 1) [x] from hrow).news (qcells_one [x]) (by unfold maxLen; omega) (by omega) hbase ?_
  intro v' w1 hown' hgrow _
  refine h v' w1 ?_ ((show Below base w w from Below.refl _ _).grown hgrow hbase (fun j hj => (hown.lt j hj).1)) (World.ownsRow.kept hu hgrow hne)
  unfold OwnQ
  rw [qcells_append, List.length_append]
  exact hown'
section
variable {w : World} {ops : Array Oper} {o : Oper} {a : Act} {K : Act → World → Prop} {Q : Exit → Act → World → Prop} {E : Prop}
/-- Some, or none, are appended to a row of the call's own, or of none. -/
theorem step_some (hw : Region.wanted o (yielded ops a.tmps) = true) (d : Nat) (hd : o.dst = some d) (s y : Operand)
    (ho : o.op = .call { callee := .builtin .append, args := #[s, y], argTypes := #[22, 22] })
    (base : Nat) (v : Value) (l0 : List Wt) (hs : a.eval s = v) (hown : FreeQ base v l0 w) (hp : 0 < l0.length) (ad : Addr) (n c : Nat) (hy : a.eval y = .slice (some ad) n c) (l : List Wt) (hn : l.length = n) (hl0 : l0.length ≤ 1000) (hl : n ≤ 1000) (hrow : QRow w (.slice (some ad) n c) l) (hbase : base ≤ w.heap.size)
    (h : ∀ v' w', QRow w' v' (l0 ++ l) → Below base w w' → K (a.put (some d) v') w') : if Region.wanted o (yielded ops a.tmps) = true then Oper.wp Try.prog o a w K Q else E := by
  subst hn
  rw [if_pos hw]
  rw [← hd] at h
  rcases hown with hown | ⟨rfl, _⟩
  · exact wp_append_waits s y ho base v l0 hs hown ad c l _ rfl hy hrow hl0 hl hbase (fun v' w' h1 h2 => h v' w' h1.row h2)
  · exact absurd hp (by simp)
end
/-- Turned about: the same waits. -/
theorem turn_perm (l : List Wt) (k : Nat) : (l.drop k ++ l.take k).Perm l := (List.perm_append_comm).trans (by rw [List.take_append_drop])
theorem allB_of {l r : List Wt} (hp : r.Perm l) (hl : l.length ≤ 64) (h : ∀ y ∈ r, mayB y = true) : allB l = true := by
  unfold allB
  rw [Bool.and_eq_true, decide_eq_true_eq, List.all_eq_true]
  exact ⟨hl, fun y hy => h y (hp.mem_iff.2 hy)⟩
theorem allB_not {l : List Wt} {x : Wt} (hx : x ∈ l) (h : mayB x = false) : allB l = false := by
  cases ha : allB l with
  | false => rfl
  | true =>
    unfold allB at ha
    rw [Bool.and_eq_true, decide_eq_true_eq, List.all_eq_true] at ha
    rw [ha.2 x hx] at h
    cases h
end Go.Proofs.Ytdgenemgegpkdaa.Queue
