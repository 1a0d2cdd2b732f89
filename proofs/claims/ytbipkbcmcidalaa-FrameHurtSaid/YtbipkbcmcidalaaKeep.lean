/-
  Contracts of keep and all of package pack: a channel of the call's own, kept to its room, and emptied.
-/
import Derived.Test.YtbipkbcmcidalaaComm
import Derived.Test.YtbipkbcmcidalaaNum
import Derived.Deep.Cut
import Derived.Conc.SmallLaws
import Derived.Conc.EventLaws
namespace Go.Proofs.Ytbipkbcmcidalaa
open Go.ChangeShapes Go.WideShapes Go.ChangeAt Go.RowKit Go.Lib Go.Conc

theorem Try.info9 : (Try.prog.info? 9).map (fun i => (i.zero, i.size, i.bytes)) = some (some (.string ⟨#[]⟩), 1, 16) := by kernel_rfl

def scells (l : List ByteArray) : List Value := l.map Value.string
theorem scells_len (l : List ByteArray) : (scells l).length = l.length := by simp [scells]
def chanLen (c : Nat) (w : World) : Nat := match w.heap[c]? with
  | some (.chan _ buf _ _ _ _) => buf.size
  | _ => 0

/-- The row of texts ts is returned, in blocks from B on; below c all is as it was. -/
def Texts (B c : Nat) (ts : List ByteArray) (w : World) (e : Ending) (w' : World) : Prop :=
  ∃ v, e = .returned v ∧ w'.ownsRow B 9 1 v ts.length (scells ts) ∧ Below c w w'

theorem scells_tail (t : ByteArray) (m : List ByteArray) : (scells (t :: m)).toArray.extract 1 (scells (t :: m)).toArray.size = (scells m).toArray := by
  simp [scells]
  exact List.take_of_length_le (by simp)
theorem scells_snoc (l : List ByteArray) (t : ByteArray) : scells (l ++ [t]) = scells l ++ [Value.string t] := by simp [scells]

theorem str_snoc {B c : Nat} {e : TypeId} {v v' : Value} {l : List ByteArray} (t : ByteArray) {w wr w1 : World} {o oc : Obj} (hcB : c < B) (hB : B ≤ wr.heap.size)
    (hown : wr.ownsRow B e 1 v l.length (scells l)) (hc : wr.heap[c]? = some oc) (hnx : Below c w wr)
    (hown' : w1.ownsRow B e 1 v' (l.length + 1) (scells l ++ [.string t])) (hgrow : (wr.alloc o).grownBy w1 v.ownBlock) :
    w1.ownsRow B e 1 v' (l ++ [t]).length (scells (l ++ [t])) ∧ w1.heap[c]? = some oc ∧ Below c w w1 ∧ B ≤ w1.heap.size := by
  have hs := hgrow.size
  have hs' : (wr.alloc o).heap.size = wr.heap.size + 1 := by simp
  refine ⟨by rw [scells_snoc]; simpa using hown', ?_, (hnx.alloc (by omega) o).grown hgrow (by omega) (fun j hj => by have := (hown.lt j hj).1; omega), by omega⟩
  rw [hgrow.block c (by omega) (fun h => by have := (hown.lt c h.symm).1; omega), Below.heap_alloc _ _ _ (by omega)]
  exact hc

/-- A store into the channel's block leaves the row alone. -/
theorem own_setChan {B c : Nat} {e : TypeId} {v : Value} {n : Nat} {xs : List Value} {w : World} (hcB : c < B) (h : w.ownsRow B e 1 v n xs) (cap : Nat) (buf : Array Value) (cl : Bool) (s r : Nat) (tm : Bool) :
    (w.setChan c cap buf cl s r tm).ownsRow B e 1 v n xs := by
  obtain ⟨h1, h2 | ⟨g, cp, cur, hv, hg, hb, h3⟩⟩ := h
  · exact ⟨h1, .inl h2⟩
  · refine ⟨h1, .inr ⟨g, cp, cur, hv, hg, ?_, h3⟩⟩
    simp only [World.setChan]
    rw [Array.getElem?_setIfInBounds_ne (by omega)]
    exact hb

/-- What holds at the head of a loop that empties a closed channel into a row of texts. -/
def Draining (B c cap s : Nat) (tm : Bool) (ts : List ByteArray) (w : World) (v : Value) (wr : World) : Prop :=
  ∃ (l m : List ByteArray) (r : Nat), l ++ m = ts ∧ wr.heap[c]? = some (.chan cap (scells m).toArray true s r tm) ∧ wr.ownsRow B 9 1 v l.length (scells l) ∧ Below c w wr ∧ B ≤ wr.heap.size

theorem chanLen_of {c cap s r : Nat} {buf : Array Value} {cl tm : Bool} {w : World} (h : w.heap[c]? = some (.chan cap buf cl s r tm)) : chanLen c w = buf.size := by unfold chanLen; rw [h]

end Go.Proofs.Ytbipkbcmcidalaa
