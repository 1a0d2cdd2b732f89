/-
  Contract of due (package outbox): what is told at a time, handed on one by one, each with its place.
-/
import Derived.Test.YtlhepocjcdbhjaaUDone
import Derived.RangeFuncNested
import Derived.RangeFuncBound
import Derived.RangeFuncCalls
import Derived.RangeFuncLeaves
import Derived.RangeFuncBox
import Derived.Shelf.RegionOpen
import Derived.OwnWalkIn
import Derived.TacticsInMore
import Derived.LoopNIn
import Derived.LoopIn
namespace Go.Proofs.Ytlhepocjcdbhjaa.Outbox
open Go.ChangeShapes Go.WideShapes Go.ChangeAt Go.RowKit Go.Shelf Go.Lib
open Go.Proofs.Ytlhepocjcdbhjaa.Queue (Box al dr below_trans ret_bool BoolB)
attribute [local go_sem] Oper.semAt_some

/-- What yield is handed: a place, and what stands there. -/
def encU (l : List Ot) (i : Fin l.length) : Array Value := #[.int .i64 ((i.1 : Nat) : Int), uv l[i]]
/-- The places that are due, up to place k; all of them. -/
def dueTo (l : List Ot) (t : Int) (k : Nat) : List (Fin l.length) := ((List.finRange l.length).take k).filter (fun i => decide (l[i].d ≤ t))
def dueF (l : List Ot) (t : Int) : List (Fin l.length) := (List.finRange l.length).filter (fun i => decide (l[i].d ≤ t))
theorem dueTo_all (l : List Ot) (t : Int) : dueTo l t l.length = dueF l t := by
  unfold dueTo dueF
  rw [List.take_of_length_le (by rw [List.length_finRange]; exact Nat.le_refl _)]
theorem dueTo_len (l : List Ot) (t : Int) (k : Nat) : (dueTo l t k).length ≤ k := by
  refine Nat.le_trans (List.length_filter_le _ _) ?_
  rw [List.length_take]
  omega
theorem dueTo_step {l : List Ot} (t : Int) {k : Nat} (h : k < l.length) : dueTo l t (k + 1) = if l[k].d ≤ t then dueTo l t k ++ [⟨k, h⟩] else dueTo l t k := by
  have e : (List.finRange l.length).take (k + 1) = (List.finRange l.length).take k ++ [⟨k, h⟩] := by
    rw [List.take_succ_eq_append_getElem (by rw [List.length_finRange]; exact h), List.getElem_finRange]
    rfl
  unfold dueTo
  rw [e, List.filter_append]
  by_cases hd : l[k].d ≤ t
  · rw [if_pos hd, List.filter_cons_of_pos (by show decide (l[k].d ≤ t) = true; exact decide_eq_true hd), List.filter_nil]
  · rw [if_neg hd, List.filter_cons_of_neg (by show ¬ decide (l[k].d ≤ t) = true; simpa using hd), List.filter_nil, List.append_nil]
theorem dueF_told (l : List Ot) (t : Int) : (dueF l t).map (fun i => l[i]) = told l t := by
  have h : l = (List.finRange l.length).map (fun i => l[i]) := by
    refine List.ext_getElem (by rw [List.length_map, List.length_finRange]) fun i h1 h2 => ?_
    rw [List.getElem_map, List.getElem_finRange]
    rfl
  unfold told
  rw [show l.filter (fun x => decide (x.d ≤ t)) = ((List.finRange l.length).map (fun i => l[i])).filter (fun x => decide (x.d ≤ t)) by rw [← h], List.filter_map]
  rfl

theorem grown_of_below {W W' : World} (h : Below W.heap.size W W') : W.grownBy W' none := ⟨h.os, h.tape, h.output, h.size, fun k hk _ => h.block k hk⟩
theorem belowK_b {n₀ : Nat} {w : World} (hn : n₀ ≤ w.heap.size) (W : World) (l : Nat) (o o' : Obj) (hl : w.heap.size ≤ l) (_h : W.heap[l]? = some o) (_h1 : o.isCells = false) (_h2 : o.isWalk = false) : Below n₀ W (W.putObj l o') :=
  ⟨rfl, rfl, rfl, by simp, fun k hk => World.putObj_heap_other (by omega)⟩
/-- What a round keeps: what lay below n₀, and the two blocks of the closure. -/
def KeepD (g g' n₀ : Nat) (A B : World) : Prop := Below n₀ A B ∧ B.heap[g]? = A.heap[g]? ∧ B.heap[g']? = A.heap[g']?
theorem KeepD.refl (g g' n₀ : Nat) (W : World) : KeepD g g' n₀ W W := ⟨Below.refl _ _, rfl, rfl⟩
theorem KeepD.trans {g g' n₀ : Nat} {A B C : World} (h : KeepD g g' n₀ A B) (k : KeepD g g' n₀ B C) : KeepD g g' n₀ A C := ⟨h.1.trans k.1, k.2.1.trans h.2.1, k.2.2.trans h.2.2⟩
theorem KeepD.of_below {g g' n₀ : Nat} {A B : World} (h : Below A.heap.size A B) (hg : g < A.heap.size) (hg' : g' < A.heap.size) (hn : n₀ ≤ A.heap.size) : KeepD g g' n₀ A B := ⟨h.mono hn, h.block _ hg, h.block _ hg'⟩
theorem KeepD.put {g g' n₀ : Nat} {w : World} (hg : g < w.heap.size) (hg' : g' < w.heap.size) (hn : n₀ ≤ w.heap.size) (W : World) (l : Nat) (o o' : Obj) (hl : w.heap.size ≤ l) (h : W.heap[l]? = some o) (h1 : o.isCells = false) (h2 : o.isWalk = false) : KeepD g g' n₀ W (W.putObj l o') :=
  ⟨belowK_b hn W l o o' hl h h1 h2, World.putObj_heap_other (by omega), World.putObj_heap_other (by omega)⟩

set_option maxRecDepth 100000 in
set_option maxHeartbeats 4000000 in
theorem due1_in (n : Nat) (hn : 1 ≤ n) (lp g g' : Nat) {w : World} {v : Value} {l : List Ot} (t : Int) (hl : l.length ≤ 1000) (hrow : URow w v l) (J Jx : List (Fin l.length) → World → Prop)
    (hJ : ∀ pre W W', J pre W → Below W.heap.size W W' → J pre W')
    (hY : ∀ pre x W, J pre W → pre.length < l.length → YieldAt Fence.wide (n - 1) Try.prog lp (encU l x) W fun e W' =>
      (e = .returned (.bool true) ∧ J (pre ++ [x]) W' ∧ KeepD g g' w.heap.size W W') ∨ (e = .returned (.bool false) ∧ Jx (pre ++ [x]) W'))
    (W : World) (hc : W.cell? ⟨g, 0, none⟩ = some v) (hc' : W.cell? ⟨g', 0, none⟩ = some (.int .i64 t)) (hgl : g < W.heap.size) (hgl' : g' < W.heap.size) (hB : Below w.heap.size w W) (h0 : J [] W) :
    CallsIn Fence.wide n Try.prog 35 #[.func (.yield lp) #[] #[], .pointer (some ⟨g, 0, none⟩), .pointer (some ⟨g', 0, none⟩)] W fun e W' => (∃ v, e = .returned v) ∧
      ((∃ ys, ys = dueF l t ∧ J ys W') ∨ (∃ pre, True ∧ Jx pre W')) := by
  obtain ⟨a, cap, rfl⟩ := hrow.slice
  have H := Lib.hid hrow
  have HBW := Lib.hid hB
  have HJ := Lib.hid hJ
  have HY := Lib.hid hY
  have HDL := Lib.hid (dueTo_len l t)
  have HDS := Lib.hid (fun k (h : k < l.length) => dueTo_step t h)
  have HDA := Lib.hid (dueTo_all l t)
  clear hrow hJ hY
  refine callsIn_of_wp Try.func35 rfl trivial ?_ rfl
  simp only [Try.ntmps35, List.size_toArray, List.length_cons, List.length_nil, Nat.reduceAdd, Nat.reduceSub, Array.replicate_succ, Array.replicate_zero, List.push_toArray, List.append_toArray, List.nil_append, List.cons_append]
  gi_wp2
  gi_loopw [4, 5, 8] (fun _ _ i wr => ∃ k : Nat, k ≤ l.length ∧ i = .int .i64 k ∧ J (dueTo l t k) wr ∧ KeepD g g' w.heap.size W wr ∧ W.heap.size ≤ wr.heap.size)
    (fun _ _ i _ => l.length - (RowKit.intOf i).toNat)
  case atStart => exact ⟨0, Nat.zero_le _, rfl, by unfold dueTo; exact h0, KeepD.refl _ _ _ _, Nat.le_refl _⟩
  case round =>
    obtain ⟨k, hk, rfl, hJs, hnx, hwz⟩ := hrel
    have hgz : g < wr.heap.size := by omega
    have hgz' : g' < wr.heap.size := by omega
    have HN := Lib.hid hnx
    have HJS := Lib.hid hJs
    have HBN := Lib.hid (HBW.out.trans hnx.1)
    clear hJs hnx
    by_cases hlt : k < l.length
    · obtain ⟨b, off, rfl, hlc, hcap, hb, k0, k1, k2, k3⟩ := (H.out.below HBN.out).at hlt
      have hbx := Box.made wr (ocs l[k]) 30
      have hba := al wr (.cells #[.int .i64 l[k].y, .int .i64 l[k].k, .int .i64 l[k].o, .int .i64 l[k].d] 30)
      have hst := HDS.out k hlt
      have hlen := HDL.out k
      have hYY := fun W' h => HY.out (dueTo l t k) ⟨k, hlt⟩ W' h (by omega)
      have hcw : wr.cell? ⟨g, 0, none⟩ = some (.slice (some ⟨b, off, none⟩) l.length cap) := (World.cell?_of_block HN.out.2.1).trans hc
      have hcw' : wr.cell? ⟨g', 0, none⟩ = some (.int .i64 t) := (World.cell?_of_block HN.out.2.2).trans hc'
      unfold encU at hYY
      dsimp only [Fin.getElem_fin] at hYY
      unfold uv at hYY
      generalize l[k] = x at *
      obtain ⟨W1, hW1⟩ : ∃ W, wr.alloc (.cells #[.int .i64 x.y, .int .i64 x.k, .int .i64 x.o, .int .i64 x.d] 30) = W := ⟨_, rfl⟩
      have HX1 : Hid (Box wr.heap.size (ocs x) W1) := Lib.hid (hW1 ▸ hbx)
      have HB1 : Hid (Below wr.heap.size wr W1) := Lib.hid (hW1 ▸ hba)
      have HN1 := Lib.hid (HN.out.trans (KeepD.of_below HB1.out hgz hgz' (by have := HBW.out.size; omega)))
      have HJ1 := Lib.hid (HJ.out _ _ _ HJS.out HB1.out)
      have HYY := Lib.hid hYY
      have hwz1 := HB1.out.size
      clear hbx hba hYY
      obtain ⟨d0, d1, d2, d3⟩ := box4 HX1.out
      have hs1 := HX1.out.1
      have hcw1 : W1.cell? ⟨g', 0, none⟩ = some (.int .i64 t) := (World.cell?_of_block HN1.out.2.2).trans hc'
      by_cases hd : x.d ≤ t
      · rw [if_pos hd] at hst
        have HST := Lib.hid hst
        obtain ⟨fn, tmps, assign, body, hy, hR⟩ := HYY.out W1 HJ1.out
        clear hst
        gi_wp2
        refine hR.mono ?_
        rintro e W3 (⟨rfl, hJ3, hk3⟩ | ⟨rfl, hJx3⟩)
        · gi_wp2
          go_roundw
          case rel => exact ⟨k + 1, by omega, by go_num, by rw [HST.out]; exact hJ3, HN1.out.trans hk3, by have := hk3.1.size; omega⟩
          case measure => simp [RowKit.intOf]; omega
        · gi_wp2
          refine bodyPost_ret (results_none rfl _ _ _) rfl ?_
          exact ⟨⟨_, rfl⟩, .inr ⟨_, trivial, hJx3⟩⟩
      · rw [if_neg hd] at hst
        have HST := Lib.hid hst
        clear hst
        gi_wp2_with fail
        refine ⟨fun _ h => (by cases h), ?_⟩
        gi_wp2_with fail
        go_roundw
        case rel => exact ⟨k + 1, by omega, by go_num, by rw [HST.out]; exact HJ1.out, HN1.out, by omega⟩
        case measure => simp [RowKit.intOf]; omega
    · obtain rfl : k = l.length := by omega
      gi_wp2
      go_end0
      exact ⟨⟨_, rfl⟩, .inl ⟨_, dueTo_all _ _, HJS.out⟩⟩
end Go.Proofs.Ytlhepocjcdbhjaa.Outbox
