/-
  The library's heap over a row of waits behind its address: Init; and Make, Push of package queue.
-/
import Derived.Test.YtdgenemgegpkdaaQHeap
namespace Go.Proofs.Ytdgenemgegpkdaa.Queue
open Go.ChangeShapes Go.WideShapes Go.ChangeAt Go.RowKit Go.Shelf Go.Sort

/-- k rounds are left. -/
def InR (B hb : Nat) (v : Value) (l : List Wt) (w : World) (k : Nat) (W : World) : Prop := ∃ l', HS B hb v l' W ∧ l'.length = l.length ∧ k ≤ l.length / 2 ∧ Below B w W ∧ heapBuild gtB l.length 0 k l'.toArray = heapBuild gtB l.length 0 (l.length / 2) l.toArray
set_option maxHeartbeats 2000000 in
set_option maxRecDepth 100000 in
theorem Init_any {B hb : Nat} {v : Value} {l : List Wt} {w : World} (h : HS B hb v l w) (hl : l.length ≤ 100) :
    Calls Try.prog 23 #[.iface 42 (.pointer (some ⟨hb, 0, none⟩))] w (ToE B hb v (heapBuild gtB l.length 0 (l.length / 2) l.toArray) w) := by
  have eN := ent_Len
  have mN := find_Len hb v w h.cell.1
  have HLN := Lib.hid (LenH h)
  have HST : Hid (InR B hb v l w (l.length / 2) w) := ⟨l, h, rfl, Nat.le_refl _, Below.refl _ _, rfl⟩
  obtain ⟨q, hq⟩ : ∃ q : Nat, l.length / 2 = q := ⟨_, rfl⟩
  have hqi : (l.length : Int) / 2 = (q : Int) := by omega
  rw [hq] at HST
  have HQ := Lib.hid hq
  have hq50 : q ≤ 50 := by omega
  clear h hq
  go_enter Try.func23, Try.ntmps23
  have i1 : 0 ≤ (l.length : Int) := by omega
  go_wp2_with (go_at_fn 71; (with_reducible refine HLN.out.mono ?_); rintro e w' ⟨rfl, rfl⟩)
  clear mN HLN
  go_loopw [3] (fun x wr => ∃ k : Nat, x = .int .i64 ((k : Int) - 1) ∧ InR B hb v l w k wr) (fun x _ => (Go.RowKit.intOf x + 1).toNat)
  case atStart => exact ⟨q, rfl, HST.out⟩
  case round =>
    clear HST
    obtain ⟨k, rfl, l', h', hl', hk, hbel, hbd⟩ := hrel
    have HB := Lib.hid hbel
    have HU := Lib.hid hbd
    have HLL := Lib.hid hl'
    cases k with
    | zero =>
      have H := Lib.hid h'
      clear hbel hbd hl' h'
      go_wp2
      go_end0
      exact ⟨rfl, by rw [← HU.out]; exact H.out, HB.out⟩
    | succ r =>
      have e1 : ((r + 1 : Nat) : Int) - 1 = (r : Int) := by omega
      have hr0 : 0 ≤ (r : Int) := by omega
      have hr1 : (r : Int) ≤ 100 := by omega
      have hdn := down_any h' (n := l.length) (i0 := r) (by omega) (by omega) (by omega) (by omega)
      have HDN := Lib.hid hdn
      clear hbel hbd hl' h' hdn
      rw [e1]
      go_wp2_with (go_at_call 33; (with_reducible refine HDN.out.mono ?_); rintro e w1 ⟨⟨bb, rfl⟩, h1, b1⟩; have H1 := Lib.hid h1; have HB1 := Lib.hid (HB.out.trans b1); clear h1 b1)
      go_roundw
      case rel => exact ⟨r, rfl, _, H1.out, by rw [Array.length_toList, down_size]; simpa using HLL.out, by omega, HB1.out, by rw [← HU.out]; rfl⟩
      case measure => simp [Go.RowKit.intOf]

theorem HS.made {B : Nat} {v : Value} {l : List Wt} {V : World} (ho : OwnQ B v l V) (hB : B ≤ V.heap.size) : HS B V.heap.size v l (V.alloc (.cells #[v] 40)) := ⟨heap_alloc_new V _, ho.below (al _ _), hB⟩

/-- A row and an error's number are returned. -/
def RowE (l : List Wt) (k : Int) (w : World) (e : Ending) (w' : World) : Prop := ∃ v, e = .returned (.tuple #[v, .int .i64 k]) ∧ QRow w' v l ∧ Below w.heap.size w w'
theorem nil_row (w : World) : QRow w (.slice none 0 0) [] := ⟨none, 0, rfl, Nat.le_refl _, by omega, fun h => absurd h (Nat.lt_irrefl _)⟩

set_option maxHeartbeats 2000000 in
set_option maxRecDepth 100000 in
theorem Make_yes {v : Value} {l : List Wt} {w : World} (h : QRow w v l) (ha : allB l = true) : Calls Try.prog 8 #[v] w (RowE (heapBuild gtB l.length 0 (l.length / 2) l.toArray).toList 0 w) := by
  have hl : l.length ≤ 64 := by unfold allB at ha; simp at ha; exact ha.1
  have hm := mayBe_any h (by omega)
  rw [ha] at hm
  have HM := Lib.hid hm
  have HC := Lib.hid (fun W (hb : Below w.heap.size w W) => Clone_any (h.below hb) (by omega))
  obtain ⟨a, cap, rfl⟩ := h.slice
  clear h ha hm
  go_enter Try.func8, Try.ntmps8
  go_wp2_with (first
    | (go_at_call 21; (with_reducible refine HM.out.mono ?_); rintro e w1 ⟨rfl, hz⟩; have HZ := Lib.hid hz; clear hz)
    | (go_at_call 22; (with_reducible refine (HC.out _ HZ.out).mono ?_); rintro e w2 ⟨vC, rfl, ho, hb⟩; have hs := HS.made ho hb.size; have HIN := Lib.hid (Init_any hs (by omega)); have HBC := Lib.hid (below_trans HZ.out (below_trans hb (al w2 (.cells #[vC] 40)))); have HBS := Lib.hid HZ.out.size; obtain ⟨aC, cC, rfl⟩ := ho.row.slice; clear hs ho hb)
    | (go_at_call 23; (with_reducible refine HIN.out.mono ?_); rintro e w3 ⟨rfl, h3, b3⟩; have H3 := Lib.hid h3; have HB3 := Lib.hid (HBC.out.trans (b3.mono HBS.out)); obtain ⟨c3, f3⟩ := h3.cell; clear h3 b3))
  go_ret2
  exact ⟨_, rfl, H3.out.2.1.row, HB3.out⟩
set_option maxRecDepth 100000 in
theorem Make_no {v : Value} {l : List Wt} {w : World} (h : QRow w v l) (hl : l.length ≤ 1000) (ha : allB l = false) : Calls Try.prog 8 #[v] w (RowE [] 1 w) := by
  have hm := mayBe_any h hl
  rw [ha] at hm
  have HM := Lib.hid hm
  obtain ⟨a, cap, rfl⟩ := h.slice
  clear h ha hm
  go_enter Try.func8, Try.ntmps8
  go_wp2_with (go_at_call 21; (with_reducible refine HM.out.mono ?_); rintro e w1 ⟨rfl, hz⟩; have HZ := Lib.hid hz; clear hz)
  go_ret2
  exact ⟨_, rfl, nil_row _, HZ.out⟩
end Go.Proofs.Ytdgenemgegpkdaa.Queue
