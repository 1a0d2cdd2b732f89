/-
  No cell of these rows narrows 'for every input' (looked for: loops, veiled, ifaces, maps, wideKeys, modest, calm, conditions, laid).
  DERIVED. THE GIVEN ROWS OF THIS SEAT. 4 by the template 'for every input the law returns true; each argument reads behind the call as it read before'; 0 by the template 'total and deterministic' (their statements: YtfegnaafodcnlaaTotals.lean).
  GIVEN WITH THE SEED: the statements are not yours to turn. If you find one false, say at which input.
  Laid BY PROGRAM, IN A SANDBOX (cutbox-rows.mjs): the forced cells as the released guide's own fill.sh prints them over the translation a8403518406f723a… (all of the seat's roots in one cut). By AI agents, Wed Nov 11 2026. No macro, syntax, notation, axiom, sorry.
-/
import Derived.Test.YtfegnaafodcnlaaChecked
import GoSem.Claim
import GoSem.ClaimJoined
import GoSem.ClaimMapViews
import Derived.JoinedTies
import Derived.KernelRfl
namespace Go.Proofs.Ytfegnaafodcnlaa
/- THE CELL 'sum', in the pinned program and in every row, IS THE sha256 OF THE DUMP (.gsa) THAT YtfegnaafodcnlaaProg.lean LOADS. Nothing in Lean hashes anything: it is a label: what it is worth is what the hold of that sum in a sandbox is worth. -/
noncomputable def Try.pinned : Pinned := { name := "ytfegnaafodcnlaa", sum := "a8403518406f723a9e02fe13b9f769293eb77bdf3c65271f47275f4698a5fd4f", checked := Try.checked }
namespace Rows
def none {H : Type} : Left H := { results := [], args := [] }

/-- 'tarrylaw11.PayBegins': WHATEVER THE INPUT: true; the input reads as it did. -/
def payBeginsSpec : ChangeSpec := { name := "payBegins", fn := fun _ => fun
  | [d1, d2, d3, d4, d5] => { results := [.lit (.bool true)], args := [d1, d2, d3, d4, d5] }
  | _ => none }
def payBeginsRow : OpenClaim := { program := "ytfegnaafodcnlaa", sum := "a8403518406f723a9e02fe13b9f769293eb77bdf3c65271f47275f4698a5fd4f", func := "tarry/tarrylaw11.PayBegins", spec := "payBegins", unfollowed := true, recurses := true, apart := false }
def PayBeginsSaid : Prop := payBeginsRow.holds Try.pinned (OpenSpec.ofChange payBeginsSpec)

/-- ITS FALSE NEIGHBOUR: 'it returns false'. Refute it at one input. -/
def payBeginsWrong : ChangeSpec := { name := "payBegins", fn := fun _ => fun
  | [d1, d2, d3, d4, d5] => { results := [.lit (.bool false)], args := [d1, d2, d3, d4, d5] }
  | _ => none }
def PayBeginsWrongFalsely : Prop := payBeginsRow.holds Try.pinned (OpenSpec.ofChange payBeginsWrong)

/-- 'tarrylaw11.PayGoes': WHATEVER THE INPUT: true; the input reads as it did. -/
def payGoesSpec : ChangeSpec := { name := "payGoes", fn := fun _ => fun
  | [d1, d2, d3, d4] => { results := [.lit (.bool true)], args := [d1, d2, d3, d4] }
  | _ => none }
def payGoesRow : OpenClaim := { program := "ytfegnaafodcnlaa", sum := "a8403518406f723a9e02fe13b9f769293eb77bdf3c65271f47275f4698a5fd4f", func := "tarry/tarrylaw11.PayGoes", spec := "payGoes", unfollowed := true, recurses := true, apart := false }
def PayGoesSaid : Prop := payGoesRow.holds Try.pinned (OpenSpec.ofChange payGoesSpec)

/-- ITS FALSE NEIGHBOUR: 'it returns false'. Refute it at one input. -/
def payGoesWrong : ChangeSpec := { name := "payGoes", fn := fun _ => fun
  | [d1, d2, d3, d4] => { results := [.lit (.bool false)], args := [d1, d2, d3, d4] }
  | _ => none }
def PayGoesWrongFalsely : Prop := payGoesRow.holds Try.pinned (OpenSpec.ofChange payGoesWrong)

/-- 'tarrylaw11.PayKeeps': WHATEVER THE INPUT: true; the input reads as it did. -/
def payKeepsSpec : ChangeSpec := { name := "payKeeps", fn := fun _ => fun
  | [d1, d2, d3] => { results := [.lit (.bool true)], args := [d1, d2, d3] }
  | _ => none }
def payKeepsRow : OpenClaim := { program := "ytfegnaafodcnlaa", sum := "a8403518406f723a9e02fe13b9f769293eb77bdf3c65271f47275f4698a5fd4f", func := "tarry/tarrylaw11.PayKeeps", spec := "payKeeps", unfollowed := true, recurses := true, apart := false }
def PayKeepsSaid : Prop := payKeepsRow.holds Try.pinned (OpenSpec.ofChange payKeepsSpec)

/-- ITS FALSE NEIGHBOUR: 'it returns false'. Refute it at one input. -/
def payKeepsWrong : ChangeSpec := { name := "payKeeps", fn := fun _ => fun
  | [d1, d2, d3] => { results := [.lit (.bool false)], args := [d1, d2, d3] }
  | _ => none }
def PayKeepsWrongFalsely : Prop := payKeepsRow.holds Try.pinned (OpenSpec.ofChange payKeepsWrong)

/-- 'tarrylaw11.PaySums': WHATEVER THE INPUT: true; the input reads as it did. -/
def paySumsSpec : ChangeSpec := { name := "paySums", fn := fun _ => fun
  | [d1, d2, d3, d4] => { results := [.lit (.bool true)], args := [d1, d2, d3, d4] }
  | _ => none }
def paySumsRow : OpenClaim := { program := "ytfegnaafodcnlaa", sum := "a8403518406f723a9e02fe13b9f769293eb77bdf3c65271f47275f4698a5fd4f", func := "tarry/tarrylaw11.PaySums", spec := "paySums", unfollowed := true, recurses := true, apart := false }
def PaySumsSaid : Prop := paySumsRow.holds Try.pinned (OpenSpec.ofChange paySumsSpec)

/-- ITS FALSE NEIGHBOUR: 'it returns false'. Refute it at one input. -/
def paySumsWrong : ChangeSpec := { name := "paySums", fn := fun _ => fun
  | [d1, d2, d3, d4] => { results := [.lit (.bool false)], args := [d1, d2, d3, d4] }
  | _ => none }
def PaySumsWrongFalsely : Prop := paySumsRow.holds Try.pinned (OpenSpec.ofChange paySumsWrong)

/- THE SECOND FORM. 'bulk': how many values and letters a reading holds, each counted each time it is reached (what is shared counts as often as it is met; a slice's spare places count too). A statement '..UptoSaid' is the law's where the arguments, and the package variables that the reading takes, are together of bulk at most 1048576: NARROWER than '..Said'. Prove '..Said' where nothing that the law and all that it calls make is longer than what came in: it says more and counts as full. Else prove '..UptoSaid'. A law counts once. -/
mutual
def uptoBulk {H : Type} : DataW H → Nat
  | .lit (.string bytes) => bytes.length + 1
  | .lit _ => 1
  | .nil => 1
  | .ptr d => uptoBulk d + 1
  | .slice elems spare => uptoBulkAll elems + uptoBulkAll spare + 1
  | .agg parts => uptoBulkAll parts + 1
  | .iface _ d => uptoBulk d + 1
  | .map entries => uptoBulkEntries entries + 1
  | .held _ => 1
def uptoBulkAll {H : Type} : List (DataW H) → Nat
  | [] => 0
  | d :: r => uptoBulk d + uptoBulkAll r
def uptoBulkEntries {H : Type} : List (Lit × DataW H) → Nat
  | [] => 0
  | x :: r => uptoBulkEntry x + uptoBulkEntries r
def uptoBulkEntry {H : Type} : Lit × DataW H → Nat
  | (.string bytes, d) => bytes.length + uptoBulk d + 1
  | (_, d) => uptoBulk d + 1
 end
def uptoSmall : (H : Type) → List (DataW H) → Bool := fun _ ds => decide (uptoBulkAll ds ≤ 1048576)
def OpenSpec.upto (s : _root_.Go.ChangeSpec) : _root_.Go.OpenSpec := { _root_.Go.OpenSpec.ofChange s with cond := some uptoSmall }

/-- 'tarrylaw11.PayBegins', WHERE WHAT IT READS IS OF BULK AT MOST 1048576: true; the input reads as it did. -/
def payBeginsUptoRow : OpenClaim := { program := "ytfegnaafodcnlaa", sum := "a8403518406f723a9e02fe13b9f769293eb77bdf3c65271f47275f4698a5fd4f", func := "tarry/tarrylaw11.PayBegins", spec := "payBegins", unfollowed := true, recurses := true, apart := false, narrowed := true }
def PayBeginsUptoSaid : Prop := payBeginsUptoRow.holds Try.pinned (OpenSpec.upto payBeginsSpec)

/-- 'tarrylaw11.PayGoes', WHERE WHAT IT READS IS OF BULK AT MOST 1048576: true; the input reads as it did. -/
def payGoesUptoRow : OpenClaim := { program := "ytfegnaafodcnlaa", sum := "a8403518406f723a9e02fe13b9f769293eb77bdf3c65271f47275f4698a5fd4f", func := "tarry/tarrylaw11.PayGoes", spec := "payGoes", unfollowed := true, recurses := true, apart := false, narrowed := true }
def PayGoesUptoSaid : Prop := payGoesUptoRow.holds Try.pinned (OpenSpec.upto payGoesSpec)

/-- 'tarrylaw11.PayKeeps', WHERE WHAT IT READS IS OF BULK AT MOST 1048576: true; the input reads as it did. -/
def payKeepsUptoRow : OpenClaim := { program := "ytfegnaafodcnlaa", sum := "a8403518406f723a9e02fe13b9f769293eb77bdf3c65271f47275f4698a5fd4f", func := "tarry/tarrylaw11.PayKeeps", spec := "payKeeps", unfollowed := true, recurses := true, apart := false, narrowed := true }
def PayKeepsUptoSaid : Prop := payKeepsUptoRow.holds Try.pinned (OpenSpec.upto payKeepsSpec)

/-- 'tarrylaw11.PaySums', WHERE WHAT IT READS IS OF BULK AT MOST 1048576: true; the input reads as it did. -/
def paySumsUptoRow : OpenClaim := { program := "ytfegnaafodcnlaa", sum := "a8403518406f723a9e02fe13b9f769293eb77bdf3c65271f47275f4698a5fd4f", func := "tarry/tarrylaw11.PaySums", spec := "paySums", unfollowed := true, recurses := true, apart := false, narrowed := true }
def PaySumsUptoSaid : Prop := paySumsUptoRow.holds Try.pinned (OpenSpec.upto paySumsSpec)

end Rows
end Go.Proofs.Ytfegnaafodcnlaa
