/-
  Contract of slices.Backward over a row of writes: they come from behind, each with its place.
-/
import Derived.Test.YthoeidgekogfiaaDiskRow
import Derived.RangeFuncNested
import Derived.RangeFuncBound
import Derived.RangeFuncCalls
import Derived.RangeFuncLeaves
import Derived.RangeFuncBox
import Derived.Shelf.Abstract
import Derived.Shelf.RegionOpen
import Derived.OwnWalkIn
import Derived.TacticsInMore
import Derived.LoopNIn
import Derived.LoopIn
namespace Go.Proofs.Ythoeidgekogfiaa.Disk
open Go.ChangeShapes Go.WideShapes Go.ChangeAt Go.RowKit Go.Lib Go.Shelf
attribute [local go_sem] Oper.semAt_some

/-- A write, with its place. -/
abbrev PW := Nat × Int × ByteArray
/-- What yield is handed. -/
def encPW (x : PW) : Array Value := #[.int .i64 (x.1 : Int), .agg #[.int .i64 x.2.1, .string x.2.2]]
/-- The writes from the last one down to number r. -/
def down (ws : List (Int × ByteArray)) (r : Nat) : List PW := (List.range (ws.length - r)).map fun j => (ws.length - 1 - j, ws[ws.length - 1 - j]?.getD (0, ⟨#[]⟩))
theorem down_top (ws : List (Int × ByteArray)) : down ws ws.length = [] := by simp [down]
theorem down_step {ws : List (Int × ByteArray)} {q : Nat} (h : q < ws.length) : down ws q = down ws (q + 1) ++ [(q, ws[q])] := by
  unfold down
  rw [show ws.length - q = (ws.length - (q + 1)) + 1 by omega, List.range_succ, List.map_append]
  congr 1
  have e : ws.length - 1 - (ws.length - (q + 1)) = q := by omega
  simp [e, List.getElem?_eq_getElem h]
theorem down_len (ws : List (Int × ByteArray)) (r : Nat) : (down ws r).length = ws.length - r := by simp [down]

set_option maxRecDepth 100000 in
set_option maxHeartbeats 2000000 in
theorem back1_in (F : Fence) (n : Nat) (h8 : F.fn 36) (hro : F.round = none) (hn : 1 ≤ n) (l Bs n₀ g cap : Nat) (ws : List (Int × ByteArray)) (hl : ws.length ≤ 1000) (hb : g < n₀) (hBn : Bs < n₀) (J Jx : List PW → World → Prop)
    (hY : ∀ pre x W, J pre W → pre.length < ws.length → YieldAt F (n - 1) Try.prog l (encPW x) W fun e W' =>
      (e = .returned (.bool true) ∧ J (pre ++ [x]) W' ∧ Below n₀ W W') ∨ (e = .returned (.bool false) ∧ Jx (pre ++ [x]) W'))
    (W : World) (hBs : W.cell? ⟨Bs, 0, none⟩ = some (.slice (some ⟨g, 0, none⟩) ws.length cap)) (hc : WRow W (.slice (some ⟨g, 0, none⟩) ws.length cap) ws) (h0 : J [] W) :
    CallsIn F n Try.prog 36 #[.func (.yield l) #[] #[], .pointer (some ⟨Bs, 0, none⟩)] W fun e W' => (∃ v, e = .returned v) ∧
      ((∃ ys, ys = down ws 0 ∧ J ys W') ∨ (∃ pre, (∃ r, r < ws.length ∧ pre = down ws r) ∧ Jx pre W')) := by
  have HC := Lib.hid hc
  clear hc
  refine callsIn_of_wp Try.func36 rfl h8 ?_ hro
  simp only [Try.ntmps36, List.size_toArray, List.length_cons, List.length_nil, Nat.reduceAdd, Nat.reduceSub, Array.replicate_succ, Array.replicate_zero, List.push_toArray, List.append_toArray, List.nil_append, List.cons_append]
  gi_wp2
  gi_loopw [3] (fun i wr => ∃ (r : Nat) (x : Int), r ≤ ws.length ∧ i = .int .i64 x ∧ x = r - 1 ∧ J (down ws r) wr ∧ Below n₀ W wr)
    (fun i _ => (RowKit.intOf i + 1).toNat)
  case atStart => exact ⟨ws.length, _, Nat.le_refl _, rfl, by go_num, by rw [down_top]; exact h0, Below.refl _ _⟩
  case round =>
    obtain ⟨r, x, hr, rfl, hx, hJs, hnx⟩ := hrel
    have HN := Lib.hid hnx
    have hbox := (hnx.cell (p := ⟨Bs, 0, none⟩) hBn).trans hBs
    cases r with
    | zero =>
      obtain rfl : x = -1 := by simpa using hx
      clear hnx hx
      gi_wp2
      go_end0
      exact ⟨⟨_, rfl⟩, .inl ⟨_, rfl, hJs⟩⟩
    | succ q =>
      obtain rfl : x = (q : Int) := by omega
      clear hx
      have hq : q < ws.length := by omega
      obtain ⟨g', e, hcap, hg', c1, c2⟩ := HC.out.at hq
      cases e
      have c1' := (hnx.cell (p := ⟨g, q * 2, none⟩) hb).trans c1
      have c2' := (hnx.cell (p := ⟨g, q * 2 + 1, none⟩) hb).trans c2
      have HS := Lib.hid (down_step hq)
      obtain ⟨fn, tmps, assign, body, hy, hR⟩ := hY _ (q, ws[q]) wr hJs (by rw [down_len]; omega)
      unfold encPW at hy
      dsimp only at hy
      clear hnx c1 c2
      generalize ws[q] = y at c1' c2' hy hR HS
      obtain ⟨ya, yd⟩ := y
      dsimp only at c1' c2' hy hR HS
      gi_wp2
      refine hR.mono ?_
      rintro e W3 (⟨rfl, hJ3, hk3⟩ | ⟨rfl, hJx3⟩)
      · gi_wp2
        go_roundw
        case rel => exact ⟨q, _, by omega, rfl, by go_num, by rw [HS.out]; exact hJ3, HN.out.trans hk3⟩
        case measure => simp [RowKit.intOf]
      · gi_wp2
        refine bodyPost_ret (results_none rfl _ _ _) rfl ?_
        exact ⟨⟨_, rfl⟩, .inr ⟨_, ⟨q, hq, HS.out.symm⟩, hJx3⟩⟩

set_option maxRecDepth 100000 in
set_option maxHeartbeats 1000000 in
theorem back1_nil_in (F : Fence) (n : Nat) (h8 : F.fn 36) (hro : F.round = none) (l Bs : Nat) (J : List PW → World → Prop) (W : World) (hBs : W.cell? ⟨Bs, 0, none⟩ = some (.slice none 0 0)) (h0 : J [] W) :
    CallsIn F n Try.prog 36 #[.func (.yield l) #[] #[], .pointer (some ⟨Bs, 0, none⟩)] W fun e W' => (∃ v, e = .returned v) ∧ J [] W' := by
  refine callsIn_of_wp Try.func36 rfl h8 ?_ hro
  simp only [Try.ntmps36, List.size_toArray, List.length_cons, List.length_nil, Nat.reduceAdd, Nat.reduceSub, Array.replicate_succ, Array.replicate_zero, List.push_toArray, List.append_toArray, List.nil_append, List.cons_append]
  gi_wp2
  gi_loopw [3] (fun i wr => i = .int .i64 (-1) ∧ J [] wr) (fun _ _ => 0)
  case atStart => exact ⟨rfl, h0⟩
  case round =>
    obtain ⟨rfl, hJs⟩ := hrel
    gi_wp2
    go_end0
    exact ⟨⟨_, rfl⟩, hJs⟩

set_option maxHeartbeats 1000000 in
theorem back_in (F : Fence) (n : Nat) (h6 : F.fn 24) (hro : F.round = none) (a : Option Addr) (len cap : Nat) (w : World) :
    CallsIn F n Try.prog 24 #[.slice a len cap] w fun e w' => e = .returned (.func (.func 36) #[] #[.pointer (some ⟨w.heap.size, 0, none⟩)]) ∧ w' = w.alloc (.cells #[.slice a len cap] 23) := by
  refine callsIn_of_wp Try.func24 rfl h6 ?_ hro
  simp only [Try.ntmps24, List.size_toArray, List.length_cons, List.length_nil, Nat.reduceAdd, Nat.reduceSub, Array.replicate_succ, Array.replicate_zero, List.push_toArray, List.append_toArray, List.nil_append, List.cons_append]
  gi_wp2
  go_ret
  exact ⟨rfl, rfl⟩

/-- What slices.Backward hands back goes through the writes from behind; n₀ lies behind its box and the row. -/
theorem back_stops (F : Fence) (n : Nat) (h8 : F.fn 36) (hro : F.round = none) (hn : 1 ≤ n) (Bs n₀ : Nat) (sv : Value) (ws : List (Int × ByteArray)) (hl : ws.length ≤ 1000) (w : World) (hBn : Bs < n₀) (hn₀ : n₀ ≤ w.heap.size)
    (hc : w.cell? ⟨Bs, 0, none⟩ = some sv) (hI : WRow w sv ws) (hlow : ∀ g len cap, sv = .slice (some ⟨g, 0, none⟩) len cap → g < n₀) :
    SeqStopsK F n Try.prog 36 #[.pointer (some ⟨Bs, 0, none⟩)] encPW (Below n₀) (fun ys => ys = down ws 0)
      (fun pre => ∃ r, r < ws.length ∧ pre = down ws r) ws.length w := fun l J Jx W hW _ _ hY h0 => by
  have hc' := (hW.cell (p := ⟨Bs, 0, none⟩) (by show Bs < _; omega)).trans hc
  have hI' := hI.below hW
  obtain ⟨a, cap, rfl⟩ := hI'.slice
  cases a with
  | none =>
    rcases hI' with ⟨e, rfl⟩ | ⟨_, _, e, _⟩
    · obtain rfl : cap = 0 := by cases e; rfl
      exact (back1_nil_in F n h8 hro l Bs J W hc' h0).mono fun e W' ⟨he, hj⟩ => ⟨he, .inl ⟨_, by simp [down], hj⟩⟩
    · cases e
  | some ad =>
    rcases hI' with ⟨e, _⟩ | ⟨g, cap', e, hrest⟩
    · cases e
    · cases e
      exact back1_in F n h8 hro hn l Bs n₀ g cap ws hl (hlow g _ _ rfl) hBn J Jx hY W hc' (.inr ⟨g, cap, rfl, hrest⟩) h0
end Go.Proofs.Ythoeidgekogfiaa.Disk
