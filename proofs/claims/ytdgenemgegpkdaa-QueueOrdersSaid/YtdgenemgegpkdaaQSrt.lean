/-
  The library's sort over a row of waits in a block of the call's own: its methods, as steps.
-/
import Derived.Test.YtdgenemgegpkdaaQUp
import Derived.Test.YtdgenemgegpkdaaQIns
import Derived.Sort.AssemblyPlain
namespace Go.Proofs.Ytdgenemgegpkdaa.Queue
open Go.ChangeShapes Go.WideShapes Go.ChangeAt Go.RowKit Go.Shelf Go.Sort

/-- The row reads as d; what lay at w0 has not turned. -/
def LR (B : Nat) (v : Value) (n : Nat) (w0 : World) (d : Array Wt) (W : World) : Prop := OwnQ B v d.toList W ∧ d.size = n ∧ B ≤ W.heap.size ∧ RowKit.Below B w0 W
/-- Nothing is returned; the row reads as d. -/
def Ends (B : Nat) (v : Value) (n : Nat) (w0 : World) (d : Array Wt) (e : Ending) (W : World) : Prop := e = .returned (.tuple #[]) ∧ LR B v n w0 d W
def Says (B : Nat) (v : Value) (n : Nat) (w0 : World) (d : Array Wt) (m : Bool) (e : Ending) (W : World) : Prop := e = .returned (.bool m) ∧ LR B v n w0 d W
theorem LR.below {B n : Nat} {v : Value} {w0 W W' : World} {d : Array Wt} (h : LR B v n w0 d W) (hb : RowKit.Below W.heap.size W W') : LR B v n w0 d W' :=
  ⟨h.1.below hb, h.2.1, by have := hb.size; have := h.2.2.1; omega, h.2.2.2.trans (hb.mono h.2.2.1)⟩
theorem LR.size {B n : Nat} {v : Value} {w0 W : World} {d : Array Wt} (h : LR B v n w0 d W) : d.size = n := h.2.1
theorem LessN {B n : Nat} {v : Value} {w0 W : World} {d : Array Wt} (h : LR B v n w0 d W) (I J : Int) (i j : Nat) (hI : I = i) (hJ : J = j) (hi : i < n) (hj : j < n) :
    Calls Try.prog 72 #[v, .int .i64 I, .int .i64 J] W (Says B v n w0 d (ltB d[i]! d[j]!)) := by
  subst hI
  subst hJ
  refine (LessM_any h.1.row (i := i) (j := j) (by simpa [h.2.1] using hi) (by simpa [h.2.1] using hj)).mono ?_
  rintro e W' ⟨rfl, hb⟩
  exact ⟨by simp, h.below hb⟩
theorem SwapN {B n : Nat} {v : Value} {w0 W : World} {d : Array Wt} (h : LR B v n w0 d W) (I J : Int) (i j : Nat) (hI : I = i) (hJ : J = j) (hi : i < n) (hj : j < n) :
    Calls Try.prog 73 #[v, .int .i64 I, .int .i64 J] W (Ends B v n w0 (swp d i j)) := by
  subst hI
  subst hJ
  have hl : d.toList.length = n := by simpa using h.2.1
  obtain ⟨g, cap, rfl⟩ := h.1.form (by omega)
  refine (Swap_any h.1 rfl (i := i) (j := j) (by omega) (by omega)).mono ?_
  rintro e W' ⟨rfl, h1, h2, h3⟩
  have e2 : (lsw d.toList i j) = (swp d i j).toList := by
    have := lsw_swp d.toList i j
    rw [show d.toList.toArray = d by simp] at this
    rw [← this]
  rw [e2] at h1
  exact ⟨rfl, h1, by rw [size_swp]; exact h.2.1, by have := h2.size; have := h.2.2.1; omega, h.2.2.2.trans h2⟩
theorem get_Less (v : Value) : ∀ w, Sem.run Try.prog (method 203 40 v "Less") w = .ok (72, v) w := fun _ => by kernel_rfl
theorem get_Swap (v : Value) : ∀ w, Sem.run Try.prog (method 203 40 v "Swap") w = .ok (73, v) w := fun _ => by kernel_rfl
theorem get_Len (v : Value) : ∀ w, Sem.run Try.prog (method 203 40 v "Len") w = .ok (71, v) w := fun _ => by kernel_rfl
end Go.Proofs.Ytdgenemgegpkdaa.Queue
