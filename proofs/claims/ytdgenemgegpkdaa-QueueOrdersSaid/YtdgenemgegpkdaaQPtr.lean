/-
  How the methods of a row of waits are found behind its address.
-/
import Derived.Test.YtdgenemgegpkdaaQStand
namespace Go.Proofs.Ytdgenemgegpkdaa.Queue
open Go.ChangeShapes Go.WideShapes Go.ChangeAt Go.RowKit Go.Shelf Go.Sort
theorem find_Push (p : Value) : ∀ w, Sem.run Try.prog (method 203 42 p "Push") w = .ok (75, p) w := fun _ => by kernel_rfl
theorem find_Pop (p : Value) : ∀ w, Sem.run Try.prog (method 203 42 p "Pop") w = .ok (74, p) w := fun _ => by kernel_rfl
theorem find_Len (b : Nat) (v : Value) (w : World) (h : w.cell? ⟨b, 0, none⟩ = some v) : Sem.run Try.prog (method 203 42 (.pointer (some ⟨b, 0, none⟩)) "Len") w = .ok (71, v) w := by
  have e : Sem.run Try.prog (method 203 42 (.pointer (some ⟨b, 0, none⟩)) "Len") w = Sem.run Try.prog (do let v ← loadVar 40 ⟨b, 0, none⟩; pure (71, v)) w := by kernel_rfl
  rw [e]
  have hg := Try.isAgg40
  simp [loadVar, go_sem, h, hg]
theorem find_Less (b : Nat) (v : Value) (w : World) (h : w.cell? ⟨b, 0, none⟩ = some v) : Sem.run Try.prog (method 203 42 (.pointer (some ⟨b, 0, none⟩)) "Less") w = .ok (72, v) w := by
  have e : Sem.run Try.prog (method 203 42 (.pointer (some ⟨b, 0, none⟩)) "Less") w = Sem.run Try.prog (do let v ← loadVar 40 ⟨b, 0, none⟩; pure (72, v)) w := by kernel_rfl
  rw [e]
  have hg := Try.isAgg40
  simp [loadVar, go_sem, h, hg]
theorem find_Swap (b : Nat) (v : Value) (w : World) (h : w.cell? ⟨b, 0, none⟩ = some v) : Sem.run Try.prog (method 203 42 (.pointer (some ⟨b, 0, none⟩)) "Swap") w = .ok (73, v) w := by
  have e : Sem.run Try.prog (method 203 42 (.pointer (some ⟨b, 0, none⟩)) "Swap") w = Sem.run Try.prog (do let v ← loadVar 40 ⟨b, 0, none⟩; pure (73, v)) w := by kernel_rfl
  rw [e]
  have hg := Try.isAgg40
  simp [loadVar, go_sem, h, hg]
end Go.Proofs.Ytdgenemgegpkdaa.Queue
