/-
  Contract of the law's own alive: the check of a known text.
-/
import Derived.Test.YthfiojiihjmndaaOn
namespace Go.Proofs.Ythfiojiihjmndaa.Crc
open Go.ChangeShapes Go.WideShapes Go.ChangeAt Go.RowKit

def BoolB (b : Bool) (w : World) (e : Ending) (w' : World) : Prop := e = .returned (.bool b) ∧ Below w.heap.size w w'

theorem alive_any (w : World) : Calls Try.prog 9 #[] w (BoolB true w) := by
  have hk : crcOn 0 (ByteArray.mk #[49, 50, 51, 52, 53, 54, 55, 56, 57]).data.toList = 3808858755 := crc_known
  go_enter Try.func9, Try.ntmps9
  go_wp2_with (go_at_call 10; refine (Of_any _ (by decide) _).mono ?_; rintro e w' ⟨rfl, hb⟩; rw [hk])
  go_ret
  exact ⟨rfl, hb⟩
theorem below_trans {w w1 w2 : World} (h : Below w.heap.size w w1) (k : Below w1.heap.size w1 w2) : Below w.heap.size w w2 := h.trans (k.mono h.size)
end Go.Proofs.Ythfiojiihjmndaa.Crc
