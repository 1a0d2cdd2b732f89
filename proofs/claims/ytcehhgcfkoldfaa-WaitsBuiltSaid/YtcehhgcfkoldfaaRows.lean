/-
  No cell of these rows narrows 'for every input' (looked for: loops, veiled, ifaces, maps, wideKeys, modest, calm, conditions, laid).
  DERIVED. THE GIVEN ROWS OF THIS SEAT. 4 by the template 'for every input the law returns true; each argument reads behind the call as it read before'; 0 by the template 'total and deterministic' (their statements: YtcehhgcfkoldfaaTotals.lean).
  GIVEN WITH THE SEED: the statements are not yours to turn. If you find one false, say at which input.
  Laid BY PROGRAM, IN A SANDBOX (cutbox-rows.mjs): the forced cells as the released guide's own fill.sh prints them over the translation c8947d667f0f3d14… (all of the seat's roots in one cut). By AI agents, Wed Nov 11 2026. No macro, syntax, notation, axiom, sorry.
-/
import Derived.Test.YtcehhgcfkoldfaaChecked
import GoSem.Claim
import GoSem.ClaimJoined
import GoSem.ClaimMapViews
import Derived.JoinedTies
import Derived.KernelRfl
namespace Go.Proofs.Ytcehhgcfkoldfaa
/- THE CELL 'sum', in the pinned program and in every row, IS THE sha256 OF THE DUMP (.gsa) THAT YtcehhgcfkoldfaaProg.lean LOADS. Nothing in Lean hashes anything: it is a label: what it is worth is what the hold of that sum in a sandbox is worth. -/
noncomputable def Try.pinned : Pinned := { name := "ytcehhgcfkoldfaa", sum := "c8947d667f0f3d14b391735cbfe9f8ba666810e99df20f602702f1a91f7d3b57", checked := Try.checked }
namespace Rows
def none {H : Type} : Left H := { results := [], args := [] }

/-- 'tarrylaw09.WaitsStand': WHATEVER THE INPUT: true; the input reads as it did. -/
def waitsStandSpec : ChangeSpec := { name := "waitsStand", fn := fun _ => fun
  | [d1, d2] => { results := [.lit (.bool true)], args := [d1, d2] }
  | _ => none }
def waitsStandRow : OpenClaim := { program := "ytcehhgcfkoldfaa", sum := "c8947d667f0f3d14b391735cbfe9f8ba666810e99df20f602702f1a91f7d3b57", func := "tarry/tarrylaw09.WaitsStand", spec := "waitsStand", unfollowed := true, recurses := true, apart := false }
def WaitsStandSaid : Prop := waitsStandRow.holds Try.pinned (OpenSpec.ofChange waitsStandSpec)

/-- ITS FALSE NEIGHBOUR: 'it returns false'. Refute it at one input. -/
def waitsStandWrong : ChangeSpec := { name := "waitsStand", fn := fun _ => fun
  | [d1, d2] => { results := [.lit (.bool false)], args := [d1, d2] }
  | _ => none }
def WaitsStandWrongFalsely : Prop := waitsStandRow.holds Try.pinned (OpenSpec.ofChange waitsStandWrong)

/-- 'tarrylaw09.WaitsGo': WHATEVER THE INPUT: true; the input reads as it did. -/
def waitsGoSpec : ChangeSpec := { name := "waitsGo", fn := fun _ => fun
  | [d1, d2, d3, d4] => { results := [.lit (.bool true)], args := [d1, d2, d3, d4] }
  | _ => none }
def waitsGoRow : OpenClaim := { program := "ytcehhgcfkoldfaa", sum := "c8947d667f0f3d14b391735cbfe9f8ba666810e99df20f602702f1a91f7d3b57", func := "tarry/tarrylaw09.WaitsGo", spec := "waitsGo", unfollowed := true, recurses := true, apart := false }
def WaitsGoSaid : Prop := waitsGoRow.holds Try.pinned (OpenSpec.ofChange waitsGoSpec)

/-- ITS FALSE NEIGHBOUR: 'it returns false'. Refute it at one input. -/
def waitsGoWrong : ChangeSpec := { name := "waitsGo", fn := fun _ => fun
  | [d1, d2, d3, d4] => { results := [.lit (.bool false)], args := [d1, d2, d3, d4] }
  | _ => none }
def WaitsGoWrongFalsely : Prop := waitsGoRow.holds Try.pinned (OpenSpec.ofChange waitsGoWrong)

/-- 'tarrylaw09.WaitsBuilt': WHATEVER THE INPUT: true; the input reads as it did. -/
def waitsBuiltSpec : ChangeSpec := { name := "waitsBuilt", fn := fun _ => fun
  | [d1, d2, d3] => { results := [.lit (.bool true)], args := [d1, d2, d3] }
  | _ => none }
def waitsBuiltRow : OpenClaim := { program := "ytcehhgcfkoldfaa", sum := "c8947d667f0f3d14b391735cbfe9f8ba666810e99df20f602702f1a91f7d3b57", func := "tarry/tarrylaw09.WaitsBuilt", spec := "waitsBuilt", unfollowed := true, recurses := true, apart := false }
def WaitsBuiltSaid : Prop := waitsBuiltRow.holds Try.pinned (OpenSpec.ofChange waitsBuiltSpec)

/-- ITS FALSE NEIGHBOUR: 'it returns false'. Refute it at one input. -/
def waitsBuiltWrong : ChangeSpec := { name := "waitsBuilt", fn := fun _ => fun
  | [d1, d2, d3] => { results := [.lit (.bool false)], args := [d1, d2, d3] }
  | _ => none }
def WaitsBuiltWrongFalsely : Prop := waitsBuiltRow.holds Try.pinned (OpenSpec.ofChange waitsBuiltWrong)

/-- 'tarrylaw09.WaitsFair': WHATEVER THE INPUT: true; the input reads as it did. -/
def waitsFairSpec : ChangeSpec := { name := "waitsFair", fn := fun _ => fun
  | [d1, d2, d3] => { results := [.lit (.bool true)], args := [d1, d2, d3] }
  | _ => none }
def waitsFairRow : OpenClaim := { program := "ytcehhgcfkoldfaa", sum := "c8947d667f0f3d14b391735cbfe9f8ba666810e99df20f602702f1a91f7d3b57", func := "tarry/tarrylaw09.WaitsFair", spec := "waitsFair", unfollowed := true, recurses := true, apart := false }
def WaitsFairSaid : Prop := waitsFairRow.holds Try.pinned (OpenSpec.ofChange waitsFairSpec)

/-- ITS FALSE NEIGHBOUR: 'it returns false'. Refute it at one input. -/
def waitsFairWrong : ChangeSpec := { name := "waitsFair", fn := fun _ => fun
  | [d1, d2, d3] => { results := [.lit (.bool false)], args := [d1, d2, d3] }
  | _ => none }
def WaitsFairWrongFalsely : Prop := waitsFairRow.holds Try.pinned (OpenSpec.ofChange waitsFairWrong)

/- THE SECOND FORM. 'bulk': how many values and letters a reading holds, each counted each time it is reached (what is shared counts as often as it is met; a slice's spare places count too). A statement '..UptoSaid' is the law's where the arguments, and the package variables that the reading takes, are together of bulk at most 1048576: NARROWER than '..Said'. Prove '..Said' where nothing that the law and all that it calls make is longer than what came in: it says more and counts as full. Else prove '..UptoSaid'. A law counts once. -/
mutual
def uptoBulk {H : Type} : DataW H → Nat
  | .lit (.string bytes) => bytes.length + 1
  | .lit _ => 1
  | .nil => 1
  | .ptr d => uptoBulk d + 1
  | .slice elems spare => uptoBulkAll elems + uptoBulkAll spare + 1
  | .agg parts => uptoBulkAll parts + 1
  | .iface _ d => uptoBulk d + 1
  | .map entries => uptoBulkEntries entries + 1
  | .held _ => 1
def uptoBulkAll {H : Type} : List (DataW H) → Nat
  | [] => 0
  | d :: r => uptoBulk d + uptoBulkAll r
def uptoBulkEntries {H : Type} : List (Lit × DataW H) → Nat
  | [] => 0
  | x :: r => uptoBulkEntry x + uptoBulkEntries r
def uptoBulkEntry {H : Type} : Lit × DataW H → Nat
  | (.string bytes, d) => bytes.length + uptoBulk d + 1
  | (_, d) => uptoBulk d + 1
 end
def uptoSmall : (H : Type) → List (DataW H) → Bool := fun _ ds => decide (uptoBulkAll ds ≤ 1048576)
def OpenSpec.upto (s : _root_.Go.ChangeSpec) : _root_.Go.OpenSpec := { _root_.Go.OpenSpec.ofChange s with cond := some uptoSmall }

/-- 'tarrylaw09.WaitsStand', WHERE WHAT IT READS IS OF BULK AT MOST 1048576: true; the input reads as it did. -/
def waitsStandUptoRow : OpenClaim := { program := "ytcehhgcfkoldfaa", sum := "c8947d667f0f3d14b391735cbfe9f8ba666810e99df20f602702f1a91f7d3b57", func := "tarry/tarrylaw09.WaitsStand", spec := "waitsStand", unfollowed := true, recurses := true, apart := false, narrowed := true }
def WaitsStandUptoSaid : Prop := waitsStandUptoRow.holds Try.pinned (OpenSpec.upto waitsStandSpec)

/-- 'tarrylaw09.WaitsGo', WHERE WHAT IT READS IS OF BULK AT MOST 1048576: true; the input reads as it did. -/
def waitsGoUptoRow : OpenClaim := { program := "ytcehhgcfkoldfaa", sum := "c8947d667f0f3d14b391735cbfe9f8ba666810e99df20f602702f1a91f7d3b57", func := "tarry/tarrylaw09.WaitsGo", spec := "waitsGo", unfollowed := true, recurses := true, apart := false, narrowed := true }
def WaitsGoUptoSaid : Prop := waitsGoUptoRow.holds Try.pinned (OpenSpec.upto waitsGoSpec)

/-- 'tarrylaw09.WaitsBuilt', WHERE WHAT IT READS IS OF BULK AT MOST 1048576: true; the input reads as it did. -/
def waitsBuiltUptoRow : OpenClaim := { program := "ytcehhgcfkoldfaa", sum := "c8947d667f0f3d14b391735cbfe9f8ba666810e99df20f602702f1a91f7d3b57", func := "tarry/tarrylaw09.WaitsBuilt", spec := "waitsBuilt", unfollowed := true, recurses := true, apart := false, narrowed := true }
def WaitsBuiltUptoSaid : Prop := waitsBuiltUptoRow.holds Try.pinned (OpenSpec.upto waitsBuiltSpec)

/-- 'tarrylaw09.WaitsFair', WHERE WHAT IT READS IS OF BULK AT MOST 1048576: true; the input reads as it did. -/
def waitsFairUptoRow : OpenClaim := { program := "ytcehhgcfkoldfaa", sum := "c8947d667f0f3d14b391735cbfe9f8ba666810e99df20f602702f1a91f7d3b57", func := "tarry/tarrylaw09.WaitsFair", spec := "waitsFair", unfollowed := true, recurses := true, apart := false, narrowed := true }
def WaitsFairUptoSaid : Prop := waitsFairUptoRow.holds Try.pinned (OpenSpec.upto waitsFairSpec)

end Rows
end Go.Proofs.Ytcehhgcfkoldfaa
