/-
  Joined: BRow.
-/
import Derived.Test.YtndakbjmahkjdaaMq
import Derived.Laws.IdiomStrings

/-
  A row of bytes in a block of its own, told by a list: made of a text, read, written, turned back into a text; a check's contract that keeps it.
-/
namespace Go.Proofs.Ytndakbjmahkjdaa.Crc
open Go.ChangeShapes Go.WideShapes Go.ChangeAt Go.RowKit

/-- Block g holds the bytes l, from its head on, and they may be written. -/
def BRow (g : Nat) (l : List UInt8) (w : World) : Prop := g < w.heap.size ∧ ∀ j (h : j < l.length), w.cell? ⟨g, j, none⟩ = some (.int .u8 (l[j].toNat : Int)) ∧ w.frozen? ⟨g, j, none⟩ = false
theorem BRow.cell {g : Nat} {l : List UInt8} {w : World} (h : BRow g l w) {j : Nat} (hj : j < l.length) : w.cell? ⟨g, j, none⟩ = some (.int .u8 (l[j].toNat : Int)) := (h.2 j hj).1
theorem BRow.free {g : Nat} {l : List UInt8} {w : World} (h : BRow g l w) {j : Nat} (hj : j < l.length) : w.frozen? ⟨g, j, none⟩ = false := (h.2 j hj).2
theorem BRow.below {g : Nat} {l : List UInt8} {w w' : World} (h : BRow g l w) (hb : Below w.heap.size w w') : BRow g l w' :=
  ⟨Nat.lt_of_lt_of_le h.1 hb.size, fun j hj => ⟨by rw [hb.cell (p := ⟨g, j, none⟩) h.1]; exact h.cell hj, by rw [hb.frozen (p := ⟨g, j, none⟩) h.1]; exact h.free hj⟩⟩
theorem BRow.drewN {g : Nat} {l : List UInt8} {w : World} (h : BRow g l w) (n : Nat) : BRow g l (w.drewN n) := h.below (drawnB w n)
theorem BRow.drew {g : Nat} {l : List UInt8} {w : World} (h : BRow g l w) : BRow g l w.drew := h.drewN 1

theorem BRow.set {g : Nat} {l : List UInt8} {w : World} (h : BRow g l w) {k : Nat} (hk : k < l.length) (b : UInt8) {x : Int} (hx : x = (b.toNat : Int)) : BRow g (l.set k b) (w.setCell ⟨g, k, none⟩ (.int .u8 x)) := by
  subst hx
  refine ⟨by simpa using h.1, fun j hj => ?_⟩
  have hj' : j < l.length := by simpa using hj
  refine ⟨?_, ?_⟩
  · by_cases e : k = j
    · subst e
      rw [World.cell?_setCell_same _ _ _ (h.cell hk)]
      simp
    · rw [World.cell?_setCell_other _ _ _ _ (by intro hh; injection hh; contradiction), h.cell hj', List.getElem_set_ne e]
  · rw [World.frozen?_setCell]; exact h.free hj'

/-- '[]byte(s)'. -/
theorem BRow.made (s : ByteArray) (w : World) : ∃ (cap : Nat) (w0 : World), s.size ≤ cap ∧ (convert 9 46 (.string s)).run Try.prog w = .ok (.slice (some ⟨w.heap.size, 0, none⟩) s.size cap) w0 ∧ BRow w.heap.size s.data.toList w0 ∧ Below w.heap.size w w0 := by
  refine ⟨_, _, ?_, run_bytes_of_string w 9 46 5 s Try.underlying9 Try.underlying46 Try.underlying5, ⟨?_, fun j hj => ⟨?_, ?_⟩⟩, ?_⟩
  · have := grownCap_ge w s.size 0 5
    omega
  · show w.heap.size < (w.drew.heap.push _).size
    simp
  · have := World.cell?_alloc_mark w.drew (bytesRow s (grownCap w s.size 0 5)) 5 ((bytesRow s (grownCap w s.size 0 5)).size, (bytesRow s (grownCap w s.size 0 5)).size + 1) j
    rw [show w.drew.heap.size = w.heap.size from rfl] at this
    rw [this, bytesRow_at s _ j (by simpa using hj)]
    simp
  · have := World.frozen?_alloc_mark w.drew (bytesRow s (grownCap w s.size 0 5)) 5 (bytesRow s (grownCap w s.size 0 5)).size ((bytesRow s (grownCap w s.size 0 5)).size + 1) j
    rw [show w.drew.heap.size = w.heap.size from rfl] at this
    have hs : j < s.data.size := by simpa using hj
    have hb : s.data.size ≤ (bytesRow s (grownCap w s.size 0 5)).size := by unfold bytesRow; simp
    rw [this]
    simp
    omega
  · exact (Below.refl _ _).drew.alloc (Nat.le_refl _) _

/-- 'string(b)'. -/
theorem BRow.back {g n cap : Nat} {l : List UInt8} {w : World} (h : BRow g l w) (hn : l.length = n) : (convert 46 9 (.slice (some ⟨g, 0, none⟩) n cap)).run Try.prog w = .ok (.string ⟨l.toArray⟩) w := by
  subst hn
  refine run_convert_bytes_back w 46 9 5 ⟨g, 0, none⟩ cap l Try.underlying46 Try.underlying5 Try.underlying9 ?_
  intro j hj
  rw [Addr.add_mid, Nat.zero_add]
  exact h.cell hj

/-- Bytes that stay, and all that lay before the call is as it was. -/
def Kept (w0 : World) (g : Nat) (l : List UInt8) (w : World) : Prop := BRow g l w ∧ Below w0.heap.size w0 w
theorem Kept.below {w0 : World} {g : Nat} {l : List UInt8} {w w' : World} (h : Kept w0 g l w) (hb : Below w.heap.size w w') : Kept w0 g l w' := ⟨h.1.below hb, below_trans h.2 hb⟩
theorem Kept.drew {w0 : World} {g : Nat} {l : List UInt8} {w : World} (h : Kept w0 g l w) : Kept w0 g l w.drew := h.below (drawnB w 1)
theorem Of_kept {w0 : World} {g : Nat} {l : List UInt8} {n : Nat} {s : ByteArray} (hs : s.size ≤ maxLen) (e : crcOn 0 s.data.toList = n) {w : World} (h : Kept w0 g l w) :
    Calls Try.prog 69 #[.string s] w fun e w' => e = .returned (.int .u32 n) ∧ Kept w0 g l w' := (Of_eq hs e w).mono fun _ _ ⟨he, hb⟩ => ⟨he, h.below hb⟩
end Go.Proofs.Ytndakbjmahkjdaa.Crc
