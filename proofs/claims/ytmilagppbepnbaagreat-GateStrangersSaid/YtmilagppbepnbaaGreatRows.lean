/-
  No cell of these rows narrows 'for every input' (looked for: loops, veiled, ifaces, maps, wideKeys, modest, calm, conditions, laid).
  DERIVED. THE GIVEN ROWS OF THIS SEAT. 7 by the template 'for every input the law returns true; each argument reads behind the call as it read before'; 0 by the template 'total and deterministic' (their statements: YtmilagppbepnbaaGreatTotals.lean).
  GIVEN WITH THE SEED: the statements are not yours to turn. If you find one false, say at which input.
  Laid BY PROGRAM, IN A SANDBOX (cutbox-rows.mjs): the forced cells as the released guide's own fill.sh prints them over the translation 507f4f57c7986573… (all of the seat's roots in one cut). By AI agents, Wed Nov 11 2026. No macro, syntax, notation, axiom, sorry.
-/
import Derived.Test.YtmilagppbepnbaaGreatChecked
import GoSem.Claim
import GoSem.ClaimJoined
import GoSem.ClaimMapViews
import Derived.JoinedTies
import Derived.KernelRfl
namespace Go.Proofs.YtmilagppbepnbaaGreat
/- THE CELL 'sum', in the pinned program and in every row, IS THE sha256 OF THE DUMP (.gsa) THAT YtmilagppbepnbaaGreatProg.lean LOADS. Nothing in Lean hashes anything: it is a label: what it is worth is what the hold of that sum in a sandbox is worth. -/
noncomputable def Tryz.pinned : Pinned := { name := "ytmilagppbepnbaagreat", sum := "507f4f57c7986573da2eabad58affec188845eedc23d0880b1aafcf72fe4690e", checked := Tryz.checked }
namespace Rows
def none {H : Type} : Left H := { results := [], args := [] }

/-- 'shyardlaw12.GateRuns': WHATEVER THE INPUT: true; the input reads as it did. -/
def gateRunsSpec : ChangeSpec := { name := "gateRuns", fn := fun _ => fun
  | [d] => { results := [.lit (.bool true)], args := [d] }
  | _ => none }
def gateRunsRow : OpenClaim := { program := "ytmilagppbepnbaagreat", sum := "507f4f57c7986573da2eabad58affec188845eedc23d0880b1aafcf72fe4690e", func := "shyard/shyardlaw12.GateRuns", spec := "gateRuns", inPlace := ["internal/bytealg.IndexByteString", "internal/bytealg.IndexString", "internal/bytealg.abigen_runtime_cmpstring", "slices.overlaps[shyard/files.entry]", "internal/abi.NoEscape"], unfollowed := true, recurses := true, named := ["internal/bytealg.MaxLen"], plainKeys := false, apart := false }
def GateRunsSaid : Prop := gateRunsRow.holds Tryz.pinned (OpenSpec.ofChange gateRunsSpec)

/-- ITS FALSE NEIGHBOUR: 'it returns false'. Refute it at one input. -/
def gateRunsWrong : ChangeSpec := { name := "gateRuns", fn := fun _ => fun
  | [d] => { results := [.lit (.bool false)], args := [d] }
  | _ => none }
def GateRunsWrongFalsely : Prop := gateRunsRow.holds Tryz.pinned (OpenSpec.ofChange gateRunsWrong)

/-- 'shyardlaw12.GateCounts': WHATEVER THE INPUT: true; the input reads as it did. -/
def gateCountsSpec : ChangeSpec := { name := "gateCounts", fn := fun _ => fun
  | [d] => { results := [.lit (.bool true)], args := [d] }
  | _ => none }
def gateCountsRow : OpenClaim := { program := "ytmilagppbepnbaagreat", sum := "507f4f57c7986573da2eabad58affec188845eedc23d0880b1aafcf72fe4690e", func := "shyard/shyardlaw12.GateCounts", spec := "gateCounts", inPlace := ["internal/bytealg.IndexByteString", "internal/bytealg.IndexString", "internal/bytealg.abigen_runtime_cmpstring", "slices.overlaps[shyard/files.entry]", "internal/abi.NoEscape"], unfollowed := true, recurses := true, named := ["internal/bytealg.MaxLen"], plainKeys := false, apart := false }
def GateCountsSaid : Prop := gateCountsRow.holds Tryz.pinned (OpenSpec.ofChange gateCountsSpec)

/-- ITS FALSE NEIGHBOUR: 'it returns false'. Refute it at one input. -/
def gateCountsWrong : ChangeSpec := { name := "gateCounts", fn := fun _ => fun
  | [d] => { results := [.lit (.bool false)], args := [d] }
  | _ => none }
def GateCountsWrongFalsely : Prop := gateCountsRow.holds Tryz.pinned (OpenSpec.ofChange gateCountsWrong)

/-- 'shyardlaw12.GateRefuses': WHATEVER THE INPUT: true; the input reads as it did. -/
def gateRefusesSpec : ChangeSpec := { name := "gateRefuses", fn := fun _ => fun
  | [d] => { results := [.lit (.bool true)], args := [d] }
  | _ => none }
def gateRefusesRow : OpenClaim := { program := "ytmilagppbepnbaagreat", sum := "507f4f57c7986573da2eabad58affec188845eedc23d0880b1aafcf72fe4690e", func := "shyard/shyardlaw12.GateRefuses", spec := "gateRefuses", inPlace := ["internal/bytealg.IndexByteString", "internal/bytealg.IndexString", "internal/bytealg.abigen_runtime_cmpstring", "slices.overlaps[shyard/files.entry]", "internal/abi.NoEscape"], unfollowed := true, recurses := true, named := ["internal/bytealg.MaxLen"], plainKeys := false, apart := false }
def GateRefusesSaid : Prop := gateRefusesRow.holds Tryz.pinned (OpenSpec.ofChange gateRefusesSpec)

/-- ITS FALSE NEIGHBOUR: 'it returns false'. Refute it at one input. -/
def gateRefusesWrong : ChangeSpec := { name := "gateRefuses", fn := fun _ => fun
  | [d] => { results := [.lit (.bool false)], args := [d] }
  | _ => none }
def GateRefusesWrongFalsely : Prop := gateRefusesRow.holds Tryz.pinned (OpenSpec.ofChange gateRefusesWrong)

/-- 'shyardlaw12.GateEnds': WHATEVER THE INPUT: true; the input reads as it did. -/
def gateEndsSpec : ChangeSpec := { name := "gateEnds", fn := fun _ => fun
  | [d] => { results := [.lit (.bool true)], args := [d] }
  | _ => none }
def gateEndsRow : OpenClaim := { program := "ytmilagppbepnbaagreat", sum := "507f4f57c7986573da2eabad58affec188845eedc23d0880b1aafcf72fe4690e", func := "shyard/shyardlaw12.GateEnds", spec := "gateEnds", inPlace := ["internal/bytealg.IndexByteString", "internal/bytealg.IndexString", "internal/bytealg.abigen_runtime_cmpstring", "slices.overlaps[shyard/files.entry]", "internal/abi.NoEscape"], unfollowed := true, recurses := true, named := ["internal/bytealg.MaxLen"], plainKeys := false, apart := false }
def GateEndsSaid : Prop := gateEndsRow.holds Tryz.pinned (OpenSpec.ofChange gateEndsSpec)

/-- ITS FALSE NEIGHBOUR: 'it returns false'. Refute it at one input. -/
def gateEndsWrong : ChangeSpec := { name := "gateEnds", fn := fun _ => fun
  | [d] => { results := [.lit (.bool false)], args := [d] }
  | _ => none }
def GateEndsWrongFalsely : Prop := gateEndsRow.holds Tryz.pinned (OpenSpec.ofChange gateEndsWrong)

/-- 'shyardlaw12.GateOffsets': WHATEVER THE INPUT: true; the input reads as it did. -/
def gateOffsetsSpec : ChangeSpec := { name := "gateOffsets", fn := fun _ => fun
  | [d1, d2] => { results := [.lit (.bool true)], args := [d1, d2] }
  | _ => none }
def gateOffsetsRow : OpenClaim := { program := "ytmilagppbepnbaagreat", sum := "507f4f57c7986573da2eabad58affec188845eedc23d0880b1aafcf72fe4690e", func := "shyard/shyardlaw12.GateOffsets", spec := "gateOffsets", inPlace := ["internal/bytealg.IndexByteString", "internal/bytealg.IndexString", "internal/bytealg.abigen_runtime_cmpstring", "slices.overlaps[shyard/files.entry]", "internal/abi.NoEscape"], unfollowed := true, recurses := true, named := ["internal/bytealg.MaxLen"], plainKeys := false, apart := false }
def GateOffsetsSaid : Prop := gateOffsetsRow.holds Tryz.pinned (OpenSpec.ofChange gateOffsetsSpec)

/-- ITS FALSE NEIGHBOUR: 'it returns false'. Refute it at one input. -/
def gateOffsetsWrong : ChangeSpec := { name := "gateOffsets", fn := fun _ => fun
  | [d1, d2] => { results := [.lit (.bool false)], args := [d1, d2] }
  | _ => none }
def GateOffsetsWrongFalsely : Prop := gateOffsetsRow.holds Tryz.pinned (OpenSpec.ofChange gateOffsetsWrong)

/-- 'shyardlaw12.GateStrangers': WHATEVER THE INPUT: true; the input reads as it did. -/
def gateStrangersSpec : ChangeSpec := { name := "gateStrangers", fn := fun _ => fun
  | [d] => { results := [.lit (.bool true)], args := [d] }
  | _ => none }
def gateStrangersRow : OpenClaim := { program := "ytmilagppbepnbaagreat", sum := "507f4f57c7986573da2eabad58affec188845eedc23d0880b1aafcf72fe4690e", func := "shyard/shyardlaw12.GateStrangers", spec := "gateStrangers", inPlace := ["internal/bytealg.IndexByteString", "internal/bytealg.IndexString", "internal/bytealg.abigen_runtime_cmpstring", "slices.overlaps[shyard/files.entry]", "internal/abi.NoEscape"], unfollowed := true, recurses := true, named := ["internal/bytealg.MaxLen"], plainKeys := false, apart := false }
def GateStrangersSaid : Prop := gateStrangersRow.holds Tryz.pinned (OpenSpec.ofChange gateStrangersSpec)

/-- ITS FALSE NEIGHBOUR: 'it returns false'. Refute it at one input. -/
def gateStrangersWrong : ChangeSpec := { name := "gateStrangers", fn := fun _ => fun
  | [d] => { results := [.lit (.bool false)], args := [d] }
  | _ => none }
def GateStrangersWrongFalsely : Prop := gateStrangersRow.holds Tryz.pinned (OpenSpec.ofChange gateStrangersWrong)

/-- 'shyardlaw12.GateNobody': WHATEVER THE INPUT: true; the input reads as it did. -/
def gateNobodySpec : ChangeSpec := { name := "gateNobody", fn := fun _ => fun
  | [d1, d2] => { results := [.lit (.bool true)], args := [d1, d2] }
  | _ => none }
def gateNobodyRow : OpenClaim := { program := "ytmilagppbepnbaagreat", sum := "507f4f57c7986573da2eabad58affec188845eedc23d0880b1aafcf72fe4690e", func := "shyard/shyardlaw12.GateNobody", spec := "gateNobody", inPlace := ["internal/bytealg.IndexByteString", "internal/bytealg.IndexString", "internal/bytealg.abigen_runtime_cmpstring", "slices.overlaps[shyard/files.entry]", "internal/abi.NoEscape"], unfollowed := true, recurses := true, named := ["internal/bytealg.MaxLen"], plainKeys := false, apart := false }
def GateNobodySaid : Prop := gateNobodyRow.holds Tryz.pinned (OpenSpec.ofChange gateNobodySpec)

/-- ITS FALSE NEIGHBOUR: 'it returns false'. Refute it at one input. -/
def gateNobodyWrong : ChangeSpec := { name := "gateNobody", fn := fun _ => fun
  | [d1, d2] => { results := [.lit (.bool false)], args := [d1, d2] }
  | _ => none }
def GateNobodyWrongFalsely : Prop := gateNobodyRow.holds Tryz.pinned (OpenSpec.ofChange gateNobodyWrong)

/- THE SECOND FORM. 'bulk': how many values and letters a reading holds, each counted each time it is reached (what is shared counts as often as it is met; a slice's spare places count too). A statement '..UptoSaid' is the law's where the arguments, and the package variables that the reading takes, are together of bulk at most 1048576: NARROWER than '..Said'. Prove '..Said' where nothing that the law and all that it calls make is longer than what came in: it says more and counts as full. Else prove '..UptoSaid'. A law counts once. -/
mutual
def uptoBulk {H : Type} : DataW H → Nat
  | .lit (.string bytes) => bytes.length + 1
  | .lit _ => 1
  | .nil => 1
  | .ptr d => uptoBulk d + 1
  | .slice elems spare => uptoBulkAll elems + uptoBulkAll spare + 1
  | .agg parts => uptoBulkAll parts + 1
  | .iface _ d => uptoBulk d + 1
  | .map entries => uptoBulkEntries entries + 1
  | .held _ => 1
def uptoBulkAll {H : Type} : List (DataW H) → Nat
  | [] => 0
  | d :: r => uptoBulk d + uptoBulkAll r
def uptoBulkEntries {H : Type} : List (Lit × DataW H) → Nat
  | [] => 0
  | x :: r => uptoBulkEntry x + uptoBulkEntries r
def uptoBulkEntry {H : Type} : Lit × DataW H → Nat
  | (.string bytes, d) => bytes.length + uptoBulk d + 1
  | (_, d) => uptoBulk d + 1
 end
def uptoSmall : (H : Type) → List (DataW H) → Bool := fun _ ds => decide (uptoBulkAll ds ≤ 1048576)
def OpenSpec.upto (s : _root_.Go.ChangeSpec) : _root_.Go.OpenSpec := { _root_.Go.OpenSpec.ofChange s with cond := some uptoSmall }

/-- 'shyardlaw12.GateRuns', WHERE WHAT IT READS IS OF BULK AT MOST 1048576: true; the input reads as it did. -/
def gateRunsUptoRow : OpenClaim := { program := "ytmilagppbepnbaagreat", sum := "507f4f57c7986573da2eabad58affec188845eedc23d0880b1aafcf72fe4690e", func := "shyard/shyardlaw12.GateRuns", spec := "gateRuns", inPlace := ["internal/bytealg.IndexByteString", "internal/bytealg.IndexString", "internal/bytealg.abigen_runtime_cmpstring", "slices.overlaps[shyard/files.entry]", "internal/abi.NoEscape"], unfollowed := true, recurses := true, named := ["internal/bytealg.MaxLen"], plainKeys := false, apart := false, narrowed := true }
def GateRunsUptoSaid : Prop := gateRunsUptoRow.holds Tryz.pinned (OpenSpec.upto gateRunsSpec)

/-- 'shyardlaw12.GateCounts', WHERE WHAT IT READS IS OF BULK AT MOST 1048576: true; the input reads as it did. -/
def gateCountsUptoRow : OpenClaim := { program := "ytmilagppbepnbaagreat", sum := "507f4f57c7986573da2eabad58affec188845eedc23d0880b1aafcf72fe4690e", func := "shyard/shyardlaw12.GateCounts", spec := "gateCounts", inPlace := ["internal/bytealg.IndexByteString", "internal/bytealg.IndexString", "internal/bytealg.abigen_runtime_cmpstring", "slices.overlaps[shyard/files.entry]", "internal/abi.NoEscape"], unfollowed := true, recurses := true, named := ["internal/bytealg.MaxLen"], plainKeys := false, apart := false, narrowed := true }
def GateCountsUptoSaid : Prop := gateCountsUptoRow.holds Tryz.pinned (OpenSpec.upto gateCountsSpec)

/-- 'shyardlaw12.GateRefuses', WHERE WHAT IT READS IS OF BULK AT MOST 1048576: true; the input reads as it did. -/
def gateRefusesUptoRow : OpenClaim := { program := "ytmilagppbepnbaagreat", sum := "507f4f57c7986573da2eabad58affec188845eedc23d0880b1aafcf72fe4690e", func := "shyard/shyardlaw12.GateRefuses", spec := "gateRefuses", inPlace := ["internal/bytealg.IndexByteString", "internal/bytealg.IndexString", "internal/bytealg.abigen_runtime_cmpstring", "slices.overlaps[shyard/files.entry]", "internal/abi.NoEscape"], unfollowed := true, recurses := true, named := ["internal/bytealg.MaxLen"], plainKeys := false, apart := false, narrowed := true }
def GateRefusesUptoSaid : Prop := gateRefusesUptoRow.holds Tryz.pinned (OpenSpec.upto gateRefusesSpec)

/-- 'shyardlaw12.GateEnds', WHERE WHAT IT READS IS OF BULK AT MOST 1048576: true; the input reads as it did. -/
def gateEndsUptoRow : OpenClaim := { program := "ytmilagppbepnbaagreat", sum := "507f4f57c7986573da2eabad58affec188845eedc23d0880b1aafcf72fe4690e", func := "shyard/shyardlaw12.GateEnds", spec := "gateEnds", inPlace := ["internal/bytealg.IndexByteString", "internal/bytealg.IndexString", "internal/bytealg.abigen_runtime_cmpstring", "slices.overlaps[shyard/files.entry]", "internal/abi.NoEscape"], unfollowed := true, recurses := true, named := ["internal/bytealg.MaxLen"], plainKeys := false, apart := false, narrowed := true }
def GateEndsUptoSaid : Prop := gateEndsUptoRow.holds Tryz.pinned (OpenSpec.upto gateEndsSpec)

/-- 'shyardlaw12.GateOffsets', WHERE WHAT IT READS IS OF BULK AT MOST 1048576: true; the input reads as it did. -/
def gateOffsetsUptoRow : OpenClaim := { program := "ytmilagppbepnbaagreat", sum := "507f4f57c7986573da2eabad58affec188845eedc23d0880b1aafcf72fe4690e", func := "shyard/shyardlaw12.GateOffsets", spec := "gateOffsets", inPlace := ["internal/bytealg.IndexByteString", "internal/bytealg.IndexString", "internal/bytealg.abigen_runtime_cmpstring", "slices.overlaps[shyard/files.entry]", "internal/abi.NoEscape"], unfollowed := true, recurses := true, named := ["internal/bytealg.MaxLen"], plainKeys := false, apart := false, narrowed := true }
def GateOffsetsUptoSaid : Prop := gateOffsetsUptoRow.holds Tryz.pinned (OpenSpec.upto gateOffsetsSpec)

/-- 'shyardlaw12.GateStrangers', WHERE WHAT IT READS IS OF BULK AT MOST 1048576: true; the input reads as it did. -/
def gateStrangersUptoRow : OpenClaim := { program := "ytmilagppbepnbaagreat", sum := "507f4f57c7986573da2eabad58affec188845eedc23d0880b1aafcf72fe4690e", func := "shyard/shyardlaw12.GateStrangers", spec := "gateStrangers", inPlace := ["internal/bytealg.IndexByteString", "internal/bytealg.IndexString", "internal/bytealg.abigen_runtime_cmpstring", "slices.overlaps[shyard/files.entry]", "internal/abi.NoEscape"], unfollowed := true, recurses := true, named := ["internal/bytealg.MaxLen"], plainKeys := false, apart := false, narrowed := true }
def GateStrangersUptoSaid : Prop := gateStrangersUptoRow.holds Tryz.pinned (OpenSpec.upto gateStrangersSpec)

/-- 'shyardlaw12.GateNobody', WHERE WHAT IT READS IS OF BULK AT MOST 1048576: true; the input reads as it did. -/
def gateNobodyUptoRow : OpenClaim := { program := "ytmilagppbepnbaagreat", sum := "507f4f57c7986573da2eabad58affec188845eedc23d0880b1aafcf72fe4690e", func := "shyard/shyardlaw12.GateNobody", spec := "gateNobody", inPlace := ["internal/bytealg.IndexByteString", "internal/bytealg.IndexString", "internal/bytealg.abigen_runtime_cmpstring", "slices.overlaps[shyard/files.entry]", "internal/abi.NoEscape"], unfollowed := true, recurses := true, named := ["internal/bytealg.MaxLen"], plainKeys := false, apart := false, narrowed := true }
def GateNobodyUptoSaid : Prop := gateNobodyUptoRow.holds Tryz.pinned (OpenSpec.upto gateNobodySpec)

end Rows
end Go.Proofs.YtmilagppbepnbaaGreat
