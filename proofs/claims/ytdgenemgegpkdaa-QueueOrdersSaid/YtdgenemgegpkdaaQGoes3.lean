/-
  What making, and sorting, makes of any waits: contracts in one form, for the laws.
-/
import Derived.Test.YtdgenemgegpkdaaQSorts
import Derived.Test.YtdgenemgegpkdaaQFresh
import Derived.Test.YtdgenemgegpkdaaQAlive
namespace Go.Proofs.Ytdgenemgegpkdaa.Queue
open Go.ChangeShapes Go.WideShapes Go.ChangeAt Go.RowKit Go.Lib Go.Sort

theorem makes (l : List Wt) (hl : l.length ≤ 66) : ∃ (L : List Wt) (k : Int), (∀ W v, QRow W v l → Calls Try.prog 8 #[v] W (RowE L k W)) ∧
    ((allB l = false ∧ L = [] ∧ k = 1) ∨ (allB l = true ∧ k = 0 ∧ rightB L = true ∧ sortL L = sortL l ∧ L.length = l.length)) := by
  cases ha : allB l with
  | false => exact ⟨[], 1, fun W v h => Make_no h (by omega) ha, .inl ⟨rfl, rfl, rfl⟩⟩
  | true =>
    refine ⟨_, 0, fun W v h => Make_yes h ha, .inr ⟨rfl, rfl, ?_⟩⟩
    obtain ⟨h1, h2, h3⟩ := build_holds l.toArray
    rw [show l.toArray.size = l.length by simp] at h1 h2 h3
    generalize heapBuild gtB l.length 0 (l.length / 2) l.toArray = d at h1 h2 h3 ⊢
    have h3' : d.toList.Perm l := h3
    refine ⟨?_, sortL_eq h3', h3'.length_eq⟩
    unfold rightB
    rw [Bool.and_eq_true, hpB_t]
    exact ⟨allB_perm h3' ha, h1⟩
theorem sorts (l : List Wt) (hl : l.length ≤ 66) : ∃ (L : List Wt) (k : Int), (∀ W v, QRow W v l → Calls Try.prog 9 #[v] W (RowE L k W)) ∧
    ((allB l = false ∧ L = [] ∧ k = 1) ∨ (allB l = true ∧ k = 0 ∧ L = sortL l)) := by
  cases ha : allB l with
  | false => exact ⟨[], 1, fun W v h => Sorted_no h (by omega) ha, .inl ⟨rfl, rfl, rfl⟩⟩
  | true => exact ⟨_, 0, fun W v h => Sorted_yes h ha, .inr ⟨rfl, rfl, rfl⟩⟩
theorem Box.made2 (w : World) (us vs : List Value) (T U : TypeId) : Box w.heap.size us ((w.alloc (.cells us.toArray T)).alloc (.cells vs.toArray U)) ∧ Box (w.heap.size + 1) vs ((w.alloc (.cells us.toArray T)).alloc (.cells vs.toArray U)) := by
  refine ⟨(Box.made w us T).below (al _ _), ?_⟩
  have := Box.made (w.alloc (.cells us.toArray T)) vs U
  rwa [show (w.alloc (.cells us.toArray T)).heap.size = w.heap.size + 1 by simp] at this
end Go.Proofs.Ytdgenemgegpkdaa.Queue
