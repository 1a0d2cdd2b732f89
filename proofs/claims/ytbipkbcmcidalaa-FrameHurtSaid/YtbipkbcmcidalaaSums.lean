/-
  Contracts of Add, Mul64 and Times of package pack, for all integers that an int holds.
-/
import Derived.Test.YtbipkbcmcidalaaSmall
import Derived.Lib.Mul64
import Derived.Laws.Bits64b
import Derived.Shelf.Bits.Mul64
namespace Go.Proofs.Ytbipkbcmcidalaa
open Go.ChangeShapes Go.WideShapes Go.ChangeAt Go.RowKit Go.Lib

def TwoI (a : Int) (b : Int) (w : World) (e : Ending) (w' : World) : Prop := e = .returned (.tuple #[.int .i64 a, .int .i64 b]) ∧ w = w'
theorem two_i {a b c d : Int} {w : World} (h : a = c) (h' : b = d) : TwoI c d w (.returned (.tuple #[.int .i64 a, .int .i64 b])) w := by subst h; subst h'; exact ⟨rfl, rfl⟩

/-- What Add answers. -/
def addV (a b : Int) : Int := if mayB a = true ∧ mayB b = true ∧ mayB (a + b) = true then a + b else 0
def addE (a b : Int) : Int := if mayB a = true ∧ mayB b = true then (if mayB (a + b) = true then 0 else 2) else 1

def TwoU (a : Nat) (b : Nat) (w : World) (e : Ending) (w' : World) : Prop := e = .returned (.tuple #[.int .u64 a, .int .u64 b]) ∧ w = w'

/-- What Times answers. -/
def timesV (a b : Int) : Int := if mayB a = true ∧ mayB b = true ∧ mayB (a * b) = true then a * b else 0
def timesE (a b : Int) : Int := if mayB a = true ∧ mayB b = true then (if mayB (a * b) = true then 0 else 2) else 1

theorem nat_may {a b : Int} : mayB (a * b) = true ↔ a.natAbs * b.natAbs ≤ 1152921504606846976 := by
  rw [mayB_t, ← Int.natAbs_mul]; omega

end Go.Proofs.Ytbipkbcmcidalaa
