/-
  No cell of these rows narrows 'for every input' (looked for: loops, veiled, ifaces, maps, wideKeys, modest, calm, conditions, laid).
  DERIVED. THE GIVEN ROWS OF THIS SEAT. 3 by the template 'for every input the law returns true; each argument reads behind the call as it read before'; 0 by the template 'total and deterministic' (their statements: YtgpkhpheomaiaaaTotals.lean).
  GIVEN WITH THE SEED: the statements are not yours to turn. If you find one false, say at which input.
  Laid BY PROGRAM, IN A SANDBOX (cutbox-rows.mjs): the forced cells as the released guide's own fill.sh prints them over the translation d5bd3b9a4a7a6016… (all of the seat's roots in one cut). By AI agents, Wed Nov 11 2026. No macro, syntax, notation, axiom, sorry.
-/
import Derived.Test.YtgpkhpheomaiaaaChecked
import GoSem.Claim
import GoSem.ClaimJoined
import GoSem.ClaimMapViews
import Derived.JoinedTies
import Derived.KernelRfl
namespace Go.Proofs.Ytgpkhpheomaiaaa
/- THE CELL 'sum', in the pinned program and in every row, IS THE sha256 OF THE DUMP (.gsa) THAT YtgpkhpheomaiaaaProg.lean LOADS. Nothing in Lean hashes anything: it is a label: what it is worth is what the hold of that sum in a sandbox is worth. -/
noncomputable def Try.pinned : Pinned := { name := "ytgpkhpheomaiaaa", sum := "d5bd3b9a4a7a6016f9edcd60ea10007aaad4ce706af54d7f6bb5e59318a94003", checked := Try.checked }
namespace Rows
def none {H : Type} : Left H := { results := [], args := [] }

/-- 'shyardlaw05.WordAssigns': WHATEVER THE INPUT: true; the input reads as it did. -/
def wordAssignsSpec : ChangeSpec := { name := "wordAssigns", fn := fun _ => fun
  | [d] => { results := [.lit (.bool true)], args := [d] }
  | _ => none }
def wordAssignsRow : OpenClaim := { program := "ytgpkhpheomaiaaa", sum := "d5bd3b9a4a7a6016f9edcd60ea10007aaad4ce706af54d7f6bb5e59318a94003", func := "shyard/shyardlaw05.WordAssigns", spec := "wordAssigns", inPlace := ["internal/bytealg.IndexByteString", "internal/bytealg.IndexString"], recurses := true, named := ["internal/bytealg.MaxLen"], apart := false }
def WordAssignsSaid : Prop := wordAssignsRow.holds Try.pinned (OpenSpec.ofChange wordAssignsSpec)

/-- ITS FALSE NEIGHBOUR: 'it returns false'. Refute it at one input. -/
def wordAssignsWrong : ChangeSpec := { name := "wordAssigns", fn := fun _ => fun
  | [d] => { results := [.lit (.bool false)], args := [d] }
  | _ => none }
def WordAssignsWrongFalsely : Prop := wordAssignsRow.holds Try.pinned (OpenSpec.ofChange wordAssignsWrong)

/-- 'shyardlaw05.WordWalks': WHATEVER THE INPUT: true; the input reads as it did. -/
def wordWalksSpec : ChangeSpec := { name := "wordWalks", fn := fun _ => fun
  | [d1, d2, d3] => { results := [.lit (.bool true)], args := [d1, d2, d3] }
  | _ => none }
def wordWalksRow : OpenClaim := { program := "ytgpkhpheomaiaaa", sum := "d5bd3b9a4a7a6016f9edcd60ea10007aaad4ce706af54d7f6bb5e59318a94003", func := "shyard/shyardlaw05.WordWalks", spec := "wordWalks", inPlace := ["internal/bytealg.IndexByteString"], unfollowed := true, recurses := true, apart := false }
def WordWalksSaid : Prop := wordWalksRow.holds Try.pinned (OpenSpec.ofChange wordWalksSpec)

/-- ITS FALSE NEIGHBOUR: 'it returns false'. Refute it at one input. -/
def wordWalksWrong : ChangeSpec := { name := "wordWalks", fn := fun _ => fun
  | [d1, d2, d3] => { results := [.lit (.bool false)], args := [d1, d2, d3] }
  | _ => none }
def WordWalksWrongFalsely : Prop := wordWalksRow.holds Try.pinned (OpenSpec.ofChange wordWalksWrong)

/-- 'shyardlaw05.WordDoubles': WHATEVER THE INPUT: true; the input reads as it did. -/
def wordDoublesSpec : ChangeSpec := { name := "wordDoubles", fn := fun _ => fun
  | [d] => { results := [.lit (.bool true)], args := [d] }
  | _ => none }
def wordDoublesRow : OpenClaim := { program := "ytgpkhpheomaiaaa", sum := "d5bd3b9a4a7a6016f9edcd60ea10007aaad4ce706af54d7f6bb5e59318a94003", func := "shyard/shyardlaw05.WordDoubles", spec := "wordDoubles", inPlace := ["internal/bytealg.IndexByteString", "internal/abi.NoEscape"], recurses := true, apart := false }
def WordDoublesSaid : Prop := wordDoublesRow.holds Try.pinned (OpenSpec.ofChange wordDoublesSpec)

/-- ITS FALSE NEIGHBOUR: 'it returns false'. Refute it at one input. -/
def wordDoublesWrong : ChangeSpec := { name := "wordDoubles", fn := fun _ => fun
  | [d] => { results := [.lit (.bool false)], args := [d] }
  | _ => none }
def WordDoublesWrongFalsely : Prop := wordDoublesRow.holds Try.pinned (OpenSpec.ofChange wordDoublesWrong)

/- THE SECOND FORM. 'bulk': how many values and letters a reading holds, each counted each time it is reached (what is shared counts as often as it is met; a slice's spare places count too). A statement '..UptoSaid' is the law's where the arguments, and the package variables that the reading takes, are together of bulk at most 1048576: NARROWER than '..Said'. Prove '..Said' where nothing that the law and all that it calls make is longer than what came in: it says more and counts as full. Else prove '..UptoSaid'. A law counts once. -/
mutual
def uptoBulk {H : Type} : DataW H → Nat
  | .lit (.string bytes) => bytes.length + 1
  | .lit _ => 1
  | .nil => 1
  | .ptr d => uptoBulk d + 1
  | .slice elems spare => uptoBulkAll elems + uptoBulkAll spare + 1
  | .agg parts => uptoBulkAll parts + 1
  | .iface _ d => uptoBulk d + 1
  | .map entries => uptoBulkEntries entries + 1
  | .held _ => 1
def uptoBulkAll {H : Type} : List (DataW H) → Nat
  | [] => 0
  | d :: r => uptoBulk d + uptoBulkAll r
def uptoBulkEntries {H : Type} : List (Lit × DataW H) → Nat
  | [] => 0
  | x :: r => uptoBulkEntry x + uptoBulkEntries r
def uptoBulkEntry {H : Type} : Lit × DataW H → Nat
  | (.string bytes, d) => bytes.length + uptoBulk d + 1
  | (_, d) => uptoBulk d + 1
 end
def uptoSmall : (H : Type) → List (DataW H) → Bool := fun _ ds => decide (uptoBulkAll ds ≤ 1048576)
def OpenSpec.upto (s : _root_.Go.ChangeSpec) : _root_.Go.OpenSpec := { _root_.Go.OpenSpec.ofChange s with cond := some uptoSmall }

/-- 'shyardlaw05.WordAssigns', WHERE WHAT IT READS IS OF BULK AT MOST 1048576: true; the input reads as it did. -/
def wordAssignsUptoRow : OpenClaim := { program := "ytgpkhpheomaiaaa", sum := "d5bd3b9a4a7a6016f9edcd60ea10007aaad4ce706af54d7f6bb5e59318a94003", func := "shyard/shyardlaw05.WordAssigns", spec := "wordAssigns", inPlace := ["internal/bytealg.IndexByteString", "internal/bytealg.IndexString"], recurses := true, named := ["internal/bytealg.MaxLen"], apart := false, narrowed := true }
def WordAssignsUptoSaid : Prop := wordAssignsUptoRow.holds Try.pinned (OpenSpec.upto wordAssignsSpec)

/-- 'shyardlaw05.WordWalks', WHERE WHAT IT READS IS OF BULK AT MOST 1048576: true; the input reads as it did. -/
def wordWalksUptoRow : OpenClaim := { program := "ytgpkhpheomaiaaa", sum := "d5bd3b9a4a7a6016f9edcd60ea10007aaad4ce706af54d7f6bb5e59318a94003", func := "shyard/shyardlaw05.WordWalks", spec := "wordWalks", inPlace := ["internal/bytealg.IndexByteString"], unfollowed := true, recurses := true, apart := false, narrowed := true }
def WordWalksUptoSaid : Prop := wordWalksUptoRow.holds Try.pinned (OpenSpec.upto wordWalksSpec)

/-- 'shyardlaw05.WordDoubles', WHERE WHAT IT READS IS OF BULK AT MOST 1048576: true; the input reads as it did. -/
def wordDoublesUptoRow : OpenClaim := { program := "ytgpkhpheomaiaaa", sum := "d5bd3b9a4a7a6016f9edcd60ea10007aaad4ce706af54d7f6bb5e59318a94003", func := "shyard/shyardlaw05.WordDoubles", spec := "wordDoubles", inPlace := ["internal/bytealg.IndexByteString", "internal/abi.NoEscape"], recurses := true, apart := false, narrowed := true }
def WordDoublesUptoSaid : Prop := wordDoublesUptoRow.holds Try.pinned (OpenSpec.upto wordDoublesSpec)

end Rows
end Go.Proofs.Ytgpkhpheomaiaaa
