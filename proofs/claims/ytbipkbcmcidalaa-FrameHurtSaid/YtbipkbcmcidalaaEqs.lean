/-
  The contracts of On and Of with their answer under a name; small facts.
-/
import Derived.Test.YtbipkbcmcidalaaAliveCrc
import Derived.Deep.Draws
namespace Go.Proofs.Ytbipkbcmcidalaa.Crc
open Go.ChangeShapes Go.WideShapes Go.ChangeAt Go.RowKit

theorem app_data (a b : ByteArray) : (a ++ b).data.toList = a.data.toList ++ b.data.toList := by simp
theorem drawnB (w : World) (n : Nat) : Below w.heap.size w (w.drewN n) := ⟨rfl, rfl, rfl, Nat.le_refl _, fun _ _ => rfl⟩
theorem On_eq {c n : Nat} {s : ByteArray} (h : c < 4294967296) (hs : s.size ≤ maxLen) (e : crcOn c s.data.toList = n) (w : World) : Calls Try.prog 27 #[.int .u32 c, .string s] w (U32B n w) := e ▸ On_any c h s hs w
theorem Of_eq {n : Nat} {s : ByteArray} (hs : s.size ≤ maxLen) (e : crcOn 0 s.data.toList = n) (w : World) : Calls Try.prog 18 #[.string s] w (U32B n w) := e ▸ Of_any s hs w
end Go.Proofs.Ytbipkbcmcidalaa.Crc
