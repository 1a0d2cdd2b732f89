/-
  Contract of Table of package check: an array of 256 numbers, each with eight bits off.
-/
import Derived.Test.YtbipkbcmcidalaaOff
import Derived.Deep.MidRow
import Derived.Deep.WholeRow
import Derived.Laws.ResultCell
import Derived.Laws.CopyOwn
import Derived.Below
namespace Go.Proofs.Ytbipkbcmcidalaa.Crc
open Go.ChangeShapes Go.WideShapes Go.ChangeAt Go.RowKit

/-- The table's cells, as far as k of them are filled. -/
def tabN (k : Nat) : Array Value := Array.ofFn (n := 256) fun i => if i.val < k then .int .u32 (off 8 i.val : Nat) else .int .u32 0
theorem tabN_size (k : Nat) : (tabN k).size = 256 := by simp [tabN]
theorem tabN_at (k j : Nat) (h : j < 256) (hk : j < k) : (tabN k)[j]? = some (.int .u32 (off 8 j : Nat)) := by simp [tabN, h, hk]
theorem tabN_zero : tabN 0 = Array.replicate 256 (.int .u32 0) := by
  apply Array.ext
  · simp [tabN]
  · intro i h1 h2; simp [tabN]
theorem tabN_step (k : Nat) : (tabN k).setIfInBounds k (.int .u32 (off 8 k : Nat)) = tabN (k + 1) := by
  apply Array.ext
  · simp [tabN]
  · intro i h1 h2
    rw [Array.getElem_setIfInBounds (by simpa using h1)]
    by_cases h : k = i
    · subst h; simp [tabN]
    · have e : (i < k + 1) = (i < k) := by apply propext; omega
      simp [tabN, h, e]

theorem info23 : (Try.prog.info? 60).map (fun i => (i.zero, i.size)) = some (some (.agg (Array.replicate 256 (.int .u32 0))), 256) := by kernel_rfl

theorem tabN_one (k : Nat) : (tabN k).all (·.oneCell') = true := by
  rw [Array.all_eq_true]
  intro i h
  simp only [tabN, Array.getElem_ofFn]
  split <;> rfl

def TabB (w : World) (e : Ending) (w' : World) : Prop := e = .returned (.agg (tabN 256)) ∧ Below w.heap.size w w'

set_option maxHeartbeats 1000000 in
set_option maxRecDepth 100000 in
theorem Table_any (w : World) : Calls Try.prog 33 #[] w (TabB w) := by
  obtain ⟨hz, hi⟩ := zero_of_info info23
  have HI := Lib.hid hi
  clear hi
  go_enter Try.func33, Try.ntmps33
  go_wp2
  rw [← tabN_zero]
  clear hz
  go_loopw [3] (fun i wr => ∃ k : Nat, k ≤ 256 ∧ i = .int .i64 k ∧ wr = (w.alloc (.cells (tabN 0) 60)).alloc (.cells (tabN k) 60)) (fun i _ => 256 - (intOf i).toNat)
  case atStart => exact ⟨0, Nat.zero_le _, rfl, rfl⟩
  case round =>
    obtain ⟨k, hk, rfl, rfl⟩ := hrel
    have hsz := tabN_size k
    by_cases hlt : k < 256
    · have HT := Lib.hid (tabN_step k)
      have hcell : ∃ v, (tabN k)[k]? = some v := ⟨_, Array.getElem?_eq_getElem (by omega)⟩
      obtain ⟨v, hv⟩ := hcell
      generalize tabN k = T at HT hv hsz
      generalize tabN 0 = Z
      go_wp2_with (go_at_call 37; (with_reducible refine (eightOff_any k (by omega) _).mono ?_); rintro e w' ⟨rfl, rfl⟩)
      go_roundw
      case rel => exact ⟨k + 1, by omega, by go_num, by rw [← HT.out]⟩
      case measure => simp [intOf]; omega
    · obtain rfl : k = 256 := by omega
      have HL := Lib.hid (heap_alloc_new (w.alloc (.cells (tabN 0) 60)) (.cells (tabN 256) 60))
      have HO := Lib.hid (heap_alloc2_old w (.cells (tabN 0) 60) (.cells (tabN 256) 60))
      clear hsz
      go_wp2_with (first
        | (refine wpList_load_row rfl 60 _ rfl (w.heap.size + 1) rfl 60 (tabN 256) (0, 0) _ (by simpa using HL.out) Try.underlying60 rfl (by rw [tabN_size]; exact HI.out) ?_)
        | (refine wpList_store_row rfl 60 _ _ rfl w.heap.size (tabN 256) rfl rfl 60 (tabN 0) HO.out (by rw [tabN_size]; exact HI.out) (by rw [tabN_size, tabN_size]) (tabN_one _) ?_))
      refine bodyPost_ret (v := .agg (tabN 256)) (results_cell_row rfl _ _ w.heap.size 60 (tabN 256) (0, 0) _ rfl (setRow_heap _ _ _ _ _ _ HO.out) Try.underlying60 rfl (by rw [tabN_size]; exact HI.out)) rfl ⟨rfl, ?_⟩
      exact below_setRow (((Below.refl _ _).alloc (Nat.le_refl _) _).alloc (by simp) _) (Nat.le_refl _) _
end Go.Proofs.Ytbipkbcmcidalaa.Crc
