/-
  Contracts of package waits: where an order's line stands (placeOf), and Drop.
-/
import Derived.Test.YtcehhgcfkoldfaaWCalls
namespace Go.Proofs.Ytcehhgcfkoldfaa.Waits
open Go.ChangeShapes Go.WideShapes Go.ChangeAt Go.RowKit Go.Shelf
open Go.Proofs.Ytcehhgcfkoldfaa.Goods
open Go.Proofs.Ytcehhgcfkoldfaa.Queue (Wt ltB wv QRow)

/-- Where an order's line stands, and what is left without it. -/
theorem getO_idx {l : List Ln} {o : Int} {x : Ln} (hp : l.Pairwise Apart) (h : getO o l = some x) : ∃ (i : Nat) (hi : i < l.length), idx (isO o) l = i ∧ l[i] = x ∧ withoutL l o = l.take i ++ l.drop (i + 1) := by
  obtain ⟨h1, h2⟩ := getO_is h
  have ha : l.any (isO o) = true := List.any_eq_true.2 ⟨x, h2, decide_eq_true h1⟩
  obtain ⟨i, hi, e1, e2⟩ := idx_get (idx_any.2 ha)
  have e3 : l[i].w.o = o := by simpa [isO] using e2
  have e4 : l[i] = x := by
    have := getO_mem hp (List.getElem_mem hi) e3
    rw [h] at this
    exact (Option.some.inj this).symm
  refine ⟨i, hi, e1, e4, ?_⟩
  have hsp : l = l.take i ++ l[i] :: l.drop (i + 1) := by rw [← List.drop_eq_getElem_cons hi, List.take_append_drop]
  have hp2 := hp
  rw [hsp] at hp2
  obtain ⟨_, q2, q3⟩ := List.pairwise_append.1 hp2
  have q4 := (List.pairwise_cons.1 q2).1
  have f1 : (l.take i).filter (fun y => decide (y.w.o ≠ o)) = l.take i := List.filter_eq_self.2 fun y hy => by
    have := (q3 y hy l[i] List.mem_cons_self).1
    rw [e3] at this
    simpa using this
  have f2 : (l.drop (i + 1)).filter (fun y => decide (y.w.o ≠ o)) = l.drop (i + 1) := List.filter_eq_self.2 fun y hy => by
    have := (q4 y hy).1
    rw [e3] at this
    simpa using fun e => this e.symm
  unfold withoutL
  conv => lhs; rw [hsp]
  rw [List.filter_append, List.filter_cons, f1, f2, if_neg (by simp [e3])]
theorem getO_no {l : List Ln} {o : Int} (h : getO o l = none) : idx (isO o) l = -1 := idx_none (List.any_eq_false.2 fun x hx => by
  have := getO_none h x hx
  simpa [isO] using this)

/-- A place and an error are returned. -/
def PlE (z k : Int) (w : World) (e : Ending) (w' : World) : Prop := e = .returned (.tuple #[.int .i64 z, .int .i64 k]) ∧ Below w.heap.size w w'
set_option maxRecDepth 100000 in
set_option maxHeartbeats 1000000 in
theorem placeOf_no {v : Value} {l : List Ln} {w : World} (h : LRow w v l) (hl : Brief l) (o : Int) (hr : Waits.rightB l = false) : Calls Try.prog 37 #[v, .int .i64 o] w (PlE 0 1 w) := by
  have hm := Waits.Right_any h hl
  rw [hr] at hm
  have HM := Lib.hid hm
  obtain ⟨a, cap, rfl⟩ := h.slice
  clear h hl hr hm
  go_enter Try.func37, Try.ntmps37
  go_wp2_with fail
  (with_reducible refine HM.out.mono ?_)
  rintro e w' ⟨rfl, hz⟩
  have HZ := Lib.hid hz
  clear hz
  go_wp2_with fail
  go_ret2
  exact ⟨rfl, HZ.out⟩
set_option maxRecDepth 100000 in
set_option maxHeartbeats 1000000 in
theorem placeOf_is {v : Value} {l : List Ln} {w : World} (h : LRow w v l) (hl : Brief l) (o : Int) (hr : Waits.rightB l = true) {z k : Int} (hz : (idx (isO o) l = -1 ∧ z = 0 ∧ k = 8) ∨ (0 ≤ idx (isO o) l ∧ z = idx (isO o) l ∧ k = 0)) : Calls Try.prog 37 #[v, .int .i64 o] w (PlE z k w) := by
  have hmf := makes
  have hm := Waits.Right_any h hl
  rw [hr] at hm
  have HM := Lib.hid hm
  have HI := Lib.hid (fun W (hb : Below w.heap.size w W) => IndexFuncB_any 51 (enters_of Try.func51 (by kernel_rfl) rfl) o (isO o) (fun x _ W' _ => isOf_any o x W') (h.below hb) hl.1)
  obtain ⟨a, cap, rfl⟩ := h.slice
  clear h hl hr hm
  generalize idx (isO o) l = q at *
  rcases hz with ⟨rfl, rfl, rfl⟩ | ⟨hq, rfl, rfl⟩
  · go_enter Try.func37, Try.ntmps37
    go_wp2_with fail
    (with_reducible refine HM.out.mono ?_)
    rintro e w' ⟨rfl, hz⟩
    have HZ := Lib.hid hz
    clear hz
    go_wp2_with fail
    (with_reducible refine (HI.out _ HZ.out).mono ?_)
    rintro e w2 ⟨rfl, hz⟩
    have HZ2 := Lib.hid (below_trans HZ.out hz)
    clear hz
    go_wp2_with fail
    go_ret2
    exact ⟨rfl, HZ2.out⟩
  · go_enter Try.func37, Try.ntmps37
    go_wp2_with fail
    (with_reducible refine HM.out.mono ?_)
    rintro e w' ⟨rfl, hz⟩
    have HZ := Lib.hid hz
    clear hz
    go_wp2_with fail
    (with_reducible refine (HI.out _ HZ.out).mono ?_)
    rintro e w2 ⟨rfl, hz⟩
    have HZ2 := Lib.hid (below_trans HZ.out hz)
    clear hz
    have hn : ¬ z < 0 := by omega
    go_wp2_with fail
    go_ret2
    exact ⟨rfl, HZ2.out⟩

set_option maxRecDepth 100000 in
set_option maxHeartbeats 1000000 in
theorem Drop_any {v : Value} {l : List Ln} {w : World} (h : LRow w v l) (hl : Brief l) (o : Int) : Calls Try.prog 20 #[v, .int .i64 o] w (LinesE (dropO l o) (dropE l o) w) := by
  have hlen := hl.1
  have H := Lib.hid h
  rcases drop_ways l o with ⟨e1, e2, e3⟩ | ⟨e1, e2, e3, e4⟩ | ⟨x, e1, e2, e3, e4⟩
  · rw [e2, e3]
    have HP := Lib.hid (placeOf_no h hl o e1)
    obtain ⟨a, cap, rfl⟩ := h.slice
    clear h hl e1 e2 e3
    go_enter Try.func20, Try.ntmps20
    go_wp2_with fail
    (with_reducible refine HP.out.mono ?_)
    rintro e w' ⟨rfl, hz⟩
    have HZ := Lib.hid hz
    clear hz
    go_wp2_with fail
    go_ret2
    exact ⟨_, rfl, LRow.nil _, HZ.out⟩
  · rw [e3, e4]
    have HP := Lib.hid (placeOf_is h hl o e1 (.inl ⟨getO_no e2, rfl, rfl⟩))
    obtain ⟨a, cap, rfl⟩ := h.slice
    clear h hl e1 e2 e3 e4
    go_enter Try.func20, Try.ntmps20
    go_wp2_with fail
    (with_reducible refine HP.out.mono ?_)
    rintro e w' ⟨rfl, hz⟩
    have HZ := Lib.hid hz
    clear hz
    go_wp2_with fail
    go_ret2
    exact ⟨_, rfl, LRow.nil _, HZ.out⟩
  · obtain ⟨i, hi, hx, _, hwo⟩ := getO_idx (rightB_t.1 e1).1.2.2 e2
    rw [e3, e4, hwo]
    have HP := Lib.hid (placeOf_is h hl o e1 (.inr ⟨by rw [hx]; omega, hx.symm, rfl⟩))
    have HW := Lib.hid (fun W (hb : Below w.heap.size w W) => Waits.without_any (H.out.below hb) hlen i hi)
    obtain ⟨a, cap, rfl⟩ := h.slice
    clear h hl e1 e2 e3 e4 hx hwo
    go_enter Try.func20, Try.ntmps20
    go_wp2_with fail
    (with_reducible refine HP.out.mono ?_)
    rintro e w' ⟨rfl, hz⟩
    have HZ := Lib.hid hz
    clear hz
    go_wp2_with fail
    (with_reducible refine (HW.out _ HZ.out).mono ?_)
    rintro e w2 ⟨v2, rfl, ho, hz⟩
    obtain ⟨va, vn, vc, rfl⟩ : ∃ a n c, v2 = .slice a n c := (by obtain ⟨a', c', e⟩ := ho.row.slice; exact ⟨a', _, c', e⟩)
    have HO := Lib.hid ho.row
    have HZ2 := Lib.hid (below_trans HZ.out hz)
    clear ho hz
    go_wp2_with fail
    go_ret2
    exact ⟨_, rfl, HO.out, HZ2.out⟩
end Go.Proofs.Ytcehhgcfkoldfaa.Waits
