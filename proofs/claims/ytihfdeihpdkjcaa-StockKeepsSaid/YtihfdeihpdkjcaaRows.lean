/-
  No cell of these rows narrows 'for every input' (looked for: loops, veiled, ifaces, maps, wideKeys, modest, calm, conditions, laid).
  DERIVED. THE GIVEN ROWS OF THIS SEAT. 4 by the template 'for every input the law returns true; each argument reads behind the call as it read before'; 0 by the template 'total and deterministic' (their statements: YtihfdeihpdkjcaaTotals.lean).
  GIVEN WITH THE SEED: the statements are not yours to turn. If you find one false, say at which input.
  Laid BY PROGRAM, IN A SANDBOX (cutbox-rows.mjs): the forced cells as the released guide's own fill.sh prints them over the translation c5e2347e152b43a7… (all of the seat's roots in one cut). By AI agents, Wed Nov 11 2026. No macro, syntax, notation, axiom, sorry.
-/
import Derived.Test.YtihfdeihpdkjcaaChecked
import GoSem.Claim
import GoSem.ClaimJoined
import GoSem.ClaimMapViews
import Derived.JoinedTies
import Derived.KernelRfl
namespace Go.Proofs.Ytihfdeihpdkjcaa
/- THE CELL 'sum', in the pinned program and in every row, IS THE sha256 OF THE DUMP (.gsa) THAT YtihfdeihpdkjcaaProg.lean LOADS. Nothing in Lean hashes anything: it is a label: what it is worth is what the hold of that sum in a sandbox is worth. -/
noncomputable def Try.pinned : Pinned := { name := "ytihfdeihpdkjcaa", sum := "c5e2347e152b43a73d7df600c5aba8490d27df5ed947787dcd2e01ea3c4cf2b1", checked := Try.checked }
namespace Rows
def none {H : Type} : Left H := { results := [], args := [] }

/-- 'tarrylaw08.StockMoves': WHATEVER THE INPUT: true; the input reads as it did. -/
def stockMovesSpec : ChangeSpec := { name := "stockMoves", fn := fun _ => fun
  | [d1, d2, d3] => { results := [.lit (.bool true)], args := [d1, d2, d3] }
  | _ => none }
def stockMovesRow : OpenClaim := { program := "ytihfdeihpdkjcaa", sum := "c5e2347e152b43a73d7df600c5aba8490d27df5ed947787dcd2e01ea3c4cf2b1", func := "tarry/tarrylaw08.StockMoves", spec := "stockMoves", inPlace := ["internal/bytealg.abigen_runtime_cmpstring", "slices.overlaps[tarry/api.Row]"], unfollowed := true, recurses := true, apart := false }
def StockMovesSaid : Prop := stockMovesRow.holds Try.pinned (OpenSpec.ofChange stockMovesSpec)

/-- ITS FALSE NEIGHBOUR: 'it returns false'. Refute it at one input. -/
def stockMovesWrong : ChangeSpec := { name := "stockMoves", fn := fun _ => fun
  | [d1, d2, d3] => { results := [.lit (.bool false)], args := [d1, d2, d3] }
  | _ => none }
def StockMovesWrongFalsely : Prop := stockMovesRow.holds Try.pinned (OpenSpec.ofChange stockMovesWrong)

/-- 'tarrylaw08.StockKeeps': WHATEVER THE INPUT: true; the input reads as it did. -/
def stockKeepsSpec : ChangeSpec := { name := "stockKeeps", fn := fun _ => fun
  | [d] => { results := [.lit (.bool true)], args := [d] }
  | _ => none }
def stockKeepsRow : OpenClaim := { program := "ytihfdeihpdkjcaa", sum := "c5e2347e152b43a73d7df600c5aba8490d27df5ed947787dcd2e01ea3c4cf2b1", func := "tarry/tarrylaw08.StockKeeps", spec := "stockKeeps", inPlace := ["internal/bytealg.abigen_runtime_cmpstring", "slices.overlaps[tarry/api.Row]"], unfollowed := true, recurses := true, apart := false }
def StockKeepsSaid : Prop := stockKeepsRow.holds Try.pinned (OpenSpec.ofChange stockKeepsSpec)

/-- ITS FALSE NEIGHBOUR: 'it returns false'. Refute it at one input. -/
def stockKeepsWrong : ChangeSpec := { name := "stockKeeps", fn := fun _ => fun
  | [d] => { results := [.lit (.bool false)], args := [d] }
  | _ => none }
def StockKeepsWrongFalsely : Prop := stockKeepsRow.holds Try.pinned (OpenSpec.ofChange stockKeepsWrong)

/-- 'tarrylaw08.StockBack': WHATEVER THE INPUT: true; the input reads as it did. -/
def stockBackSpec : ChangeSpec := { name := "stockBack", fn := fun _ => fun
  | [d1, d2, d3] => { results := [.lit (.bool true)], args := [d1, d2, d3] }
  | _ => none }
def stockBackRow : OpenClaim := { program := "ytihfdeihpdkjcaa", sum := "c5e2347e152b43a73d7df600c5aba8490d27df5ed947787dcd2e01ea3c4cf2b1", func := "tarry/tarrylaw08.StockBack", spec := "stockBack", inPlace := ["internal/bytealg.abigen_runtime_cmpstring", "slices.overlaps[tarry/api.Row]"], unfollowed := true, recurses := true, apart := false }
def StockBackSaid : Prop := stockBackRow.holds Try.pinned (OpenSpec.ofChange stockBackSpec)

/-- ITS FALSE NEIGHBOUR: 'it returns false'. Refute it at one input. -/
def stockBackWrong : ChangeSpec := { name := "stockBack", fn := fun _ => fun
  | [d1, d2, d3] => { results := [.lit (.bool false)], args := [d1, d2, d3] }
  | _ => none }
def StockBackWrongFalsely : Prop := stockBackRow.holds Try.pinned (OpenSpec.ofChange stockBackWrong)

/-- 'tarrylaw08.StockApart': WHATEVER THE INPUT: true; the input reads as it did. -/
def stockApartSpec : ChangeSpec := { name := "stockApart", fn := fun _ => fun
  | [d1, d2, d3, d4, d5, d6, d7] => { results := [.lit (.bool true)], args := [d1, d2, d3, d4, d5, d6, d7] }
  | _ => none }
def stockApartRow : OpenClaim := { program := "ytihfdeihpdkjcaa", sum := "c5e2347e152b43a73d7df600c5aba8490d27df5ed947787dcd2e01ea3c4cf2b1", func := "tarry/tarrylaw08.StockApart", spec := "stockApart", inPlace := ["internal/bytealg.abigen_runtime_cmpstring", "slices.overlaps[tarry/api.Row]"], unfollowed := true, recurses := true, apart := false }
def StockApartSaid : Prop := stockApartRow.holds Try.pinned (OpenSpec.ofChange stockApartSpec)

/-- ITS FALSE NEIGHBOUR: 'it returns false'. Refute it at one input. -/
def stockApartWrong : ChangeSpec := { name := "stockApart", fn := fun _ => fun
  | [d1, d2, d3, d4, d5, d6, d7] => { results := [.lit (.bool false)], args := [d1, d2, d3, d4, d5, d6, d7] }
  | _ => none }
def StockApartWrongFalsely : Prop := stockApartRow.holds Try.pinned (OpenSpec.ofChange stockApartWrong)

/- THE SECOND FORM. 'bulk': how many values and letters a reading holds, each counted each time it is reached (what is shared counts as often as it is met; a slice's spare places count too). A statement '..UptoSaid' is the law's where the arguments, and the package variables that the reading takes, are together of bulk at most 1048576: NARROWER than '..Said'. Prove '..Said' where nothing that the law and all that it calls make is longer than what came in: it says more and counts as full. Else prove '..UptoSaid'. A law counts once. -/
mutual
def uptoBulk {H : Type} : DataW H → Nat
  | .lit (.string bytes) => bytes.length + 1
  | .lit _ => 1
  | .nil => 1
  | .ptr d => uptoBulk d + 1
  | .slice elems spare => uptoBulkAll elems + uptoBulkAll spare + 1
  | .agg parts => uptoBulkAll parts + 1
  | .iface _ d => uptoBulk d + 1
  | .map entries => uptoBulkEntries entries + 1
  | .held _ => 1
def uptoBulkAll {H : Type} : List (DataW H) → Nat
  | [] => 0
  | d :: r => uptoBulk d + uptoBulkAll r
def uptoBulkEntries {H : Type} : List (Lit × DataW H) → Nat
  | [] => 0
  | x :: r => uptoBulkEntry x + uptoBulkEntries r
def uptoBulkEntry {H : Type} : Lit × DataW H → Nat
  | (.string bytes, d) => bytes.length + uptoBulk d + 1
  | (_, d) => uptoBulk d + 1
 end
def uptoSmall : (H : Type) → List (DataW H) → Bool := fun _ ds => decide (uptoBulkAll ds ≤ 1048576)
def OpenSpec.upto (s : _root_.Go.ChangeSpec) : _root_.Go.OpenSpec := { _root_.Go.OpenSpec.ofChange s with cond := some uptoSmall }

/-- 'tarrylaw08.StockMoves', WHERE WHAT IT READS IS OF BULK AT MOST 1048576: true; the input reads as it did. -/
def stockMovesUptoRow : OpenClaim := { program := "ytihfdeihpdkjcaa", sum := "c5e2347e152b43a73d7df600c5aba8490d27df5ed947787dcd2e01ea3c4cf2b1", func := "tarry/tarrylaw08.StockMoves", spec := "stockMoves", inPlace := ["internal/bytealg.abigen_runtime_cmpstring", "slices.overlaps[tarry/api.Row]"], unfollowed := true, recurses := true, apart := false, narrowed := true }
def StockMovesUptoSaid : Prop := stockMovesUptoRow.holds Try.pinned (OpenSpec.upto stockMovesSpec)

/-- 'tarrylaw08.StockKeeps', WHERE WHAT IT READS IS OF BULK AT MOST 1048576: true; the input reads as it did. -/
def stockKeepsUptoRow : OpenClaim := { program := "ytihfdeihpdkjcaa", sum := "c5e2347e152b43a73d7df600c5aba8490d27df5ed947787dcd2e01ea3c4cf2b1", func := "tarry/tarrylaw08.StockKeeps", spec := "stockKeeps", inPlace := ["internal/bytealg.abigen_runtime_cmpstring", "slices.overlaps[tarry/api.Row]"], unfollowed := true, recurses := true, apart := false, narrowed := true }
def StockKeepsUptoSaid : Prop := stockKeepsUptoRow.holds Try.pinned (OpenSpec.upto stockKeepsSpec)

/-- 'tarrylaw08.StockBack', WHERE WHAT IT READS IS OF BULK AT MOST 1048576: true; the input reads as it did. -/
def stockBackUptoRow : OpenClaim := { program := "ytihfdeihpdkjcaa", sum := "c5e2347e152b43a73d7df600c5aba8490d27df5ed947787dcd2e01ea3c4cf2b1", func := "tarry/tarrylaw08.StockBack", spec := "stockBack", inPlace := ["internal/bytealg.abigen_runtime_cmpstring", "slices.overlaps[tarry/api.Row]"], unfollowed := true, recurses := true, apart := false, narrowed := true }
def StockBackUptoSaid : Prop := stockBackUptoRow.holds Try.pinned (OpenSpec.upto stockBackSpec)

/-- 'tarrylaw08.StockApart', WHERE WHAT IT READS IS OF BULK AT MOST 1048576: true; the input reads as it did. -/
def stockApartUptoRow : OpenClaim := { program := "ytihfdeihpdkjcaa", sum := "c5e2347e152b43a73d7df600c5aba8490d27df5ed947787dcd2e01ea3c4cf2b1", func := "tarry/tarrylaw08.StockApart", spec := "stockApart", inPlace := ["internal/bytealg.abigen_runtime_cmpstring", "slices.overlaps[tarry/api.Row]"], unfollowed := true, recurses := true, apart := false, narrowed := true }
def StockApartUptoSaid : Prop := stockApartUptoRow.holds Try.pinned (OpenSpec.upto stockApartSpec)

end Rows
end Go.Proofs.Ytihfdeihpdkjcaa
