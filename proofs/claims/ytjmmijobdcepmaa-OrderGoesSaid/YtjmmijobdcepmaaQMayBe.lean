/-
  Contracts of package queue: which waits may be (mayBe, by the library's ContainsFunc), and whether they stand as a heap (stand, Right).
-/
import Derived.Test.YtjmmijobdcepmaaQLess
namespace Go.Proofs.Ytjmmijobdcepmaa.Queue
open Go.ChangeShapes Go.WideShapes Go.ChangeAt Go.RowKit Go.Shelf

/-- A place is returned, that of one that may not be, or none. -/
def IdxE (l : List Wt) (w : World) (e : Ending) (w' : World) : Prop := ∃ z : Int, e = .returned (.int .i64 z) ∧ (0 ≤ z ↔ l.all mayB = false) ∧ Below w.heap.size w w'
def IdxR (l : List Wt) (k : Nat) (w : World) (W : World) : Prop := (l.take k).all mayB = true ∧ Below w.heap.size w W
theorem all_take {l : List Wt} {k : Nat} (h : k < l.length) : (l.take (k + 1)).all mayB = ((l.take k).all mayB && mayB l[k]) := by
  rw [List.take_succ_eq_append_getElem h, List.all_append]
  simp
theorem not_all {l : List Wt} {k : Nat} (h : k < l.length) (hf : mayB l[k] = false) : l.all mayB = false := by
  cases hc : l.all mayB with
  | false => rfl
  | true => rw [List.all_eq_true.1 hc _ (List.getElem_mem h)] at hf; cases hf

set_option maxRecDepth 100000 in
set_option maxHeartbeats 1000000 in
theorem IndexFunc_any {v : Value} {l : List Wt} {w : World} (h : QRow w v l) (_hl : l.length ≤ 1000) : Calls Try.prog 84 #[v, .func (.func 71) #[] #[]] w (IdxE l w) := by
  obtain ⟨a, cap, rfl⟩ := h.slice
  have H := Lib.hid h
  clear h
  go_enter Try.func84, Try.ntmps84
  go_wp2
  go_loopw [5, 8] (fun _ i wr => ∃ k : Nat, k ≤ l.length ∧ i = .int .i64 k ∧ IdxR l k w wr) (fun _ i _ => l.length - (Go.RowKit.intOf i).toNat)
  case atStart => exact ⟨0, Nat.zero_le _, rfl, by simp, Below.refl _ _⟩
  case round =>
    obtain ⟨k, hk, rfl, hr⟩ := hrel
    have HR := Lib.hid hr
    clear hr
    by_cases hlt : k < l.length
    · obtain ⟨b, off, rfl, hlc, hcap, hb, k0, k1, k2⟩ := (H.out.below HR.out.2).at hlt
      have HN := Lib.hid (notMay_any l[k] wr)
      unfold wv at HN
      have HAT := Lib.hid (all_take hlt)
      have HNA := Lib.hid (not_all hlt)
      cases hm : mayB l[k] with
      | true =>
        rw [hm] at HN HAT
        clear hm HNA
        go_wp2_with (go_at_call 71; (with_reducible refine HN.out.mono ?_); rintro e w' ⟨rfl, hz⟩; have HZ := Lib.hid (below_trans HR.out.2 hz); clear hz)
        go_roundw
        case rel => exact ⟨k + 1, by omega, by go_num, by rw [HAT.out, HR.out.1]; rfl, HZ.out⟩
        case measure => simp [Go.RowKit.intOf]; omega
      | false =>
        rw [hm] at HN
        have HNA2 := Lib.hid (HNA.out hm)
        clear hm HNA HAT
        go_wp2_with (go_at_call 71; (with_reducible refine HN.out.mono ?_); rintro e w' ⟨rfl, hz⟩; have HZ := Lib.hid (below_trans HR.out.2 hz); clear hz)
        go_ret
        exact ⟨k, rfl, ⟨fun _ => HNA2.out, fun _ => by omega⟩, HZ.out⟩
    · obtain rfl : k = l.length := by omega
      have HA : Hid (l.all mayB = true) := Lib.hid (by have := HR.out.1; rwa [List.take_length] at this)
      go_wp2
      go_ret
      exact ⟨-1, rfl, ⟨fun h => by omega, fun h => by rw [HA.out] at h; cases h⟩, HR.out.2⟩

set_option maxRecDepth 100000 in
theorem ContainsFunc_any {v : Value} {l : List Wt} {w : World} (h : QRow w v l) (hl : l.length ≤ 1000) : Calls Try.prog 70 #[v, .func (.func 71) #[] #[]] w (BoolB (!l.all mayB) w) := by
  have HI := Lib.hid (IndexFunc_any h hl)
  obtain ⟨a, cap, rfl⟩ := h.slice
  clear h
  go_enter Try.func70, Try.ntmps70
  go_wp2_with fail
  (with_reducible refine HI.out.mono ?_)
  rintro e w' ⟨z, rfl, hz, hb⟩
  have HZ := Lib.hid hz
  have HB := Lib.hid hb
  clear hz hb HI
  go_wp2_with fail
  go_ret
  refine ⟨ret_bool ?_, HB.out⟩
  cases hm : l.all mayB with
  | true => exact decide_eq_false (fun h => by rw [HZ.out.1 h] at hm; cases hm)
  | false => exact decide_eq_true (HZ.out.2 hm)

/-- May waits be? -/
def allB (l : List Wt) : Bool := decide (l.length ≤ 64) && l.all mayB
set_option maxRecDepth 100000 in
theorem mayBe_any {v : Value} {l : List Wt} {w : World} (h : QRow w v l) (hl : l.length ≤ 1000) : Calls Try.prog 57 #[v] w (BoolB (allB l) w) := by
  have HC := Lib.hid (ContainsFunc_any h hl)
  obtain ⟨a, cap, rfl⟩ := h.slice
  clear h
  unfold allB
  generalize l.all mayB = m at HC ⊢
  by_cases h64 : l.length ≤ 64
  · rw [decide_eq_true h64, Bool.true_and]
    go_enter Try.func57, Try.ntmps57
    go_wp2_with (go_at_call 70; (with_reducible refine HC.out.mono ?_); rintro e w' ⟨rfl, hz⟩; have HZ := Lib.hid hz; clear hz)
    go_ret
    exact ⟨ret_bool (by simp), HZ.out⟩
  · rw [decide_eq_false h64, Bool.false_and]
    go_enter Try.func57, Try.ntmps57
    go_wp2_with fail
    go_ret
    exact ⟨rfl, Below.refl _ _⟩
end Go.Proofs.Ytjmmijobdcepmaa.Queue
