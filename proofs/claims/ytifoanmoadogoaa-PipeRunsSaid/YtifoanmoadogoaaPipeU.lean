/- The walk of the law PipeRuns, its hypotheses as the row's frame hands them. No condition. -/
import Derived.Test.YtifoanmoadogoaaPipeT
namespace Go.Proofs.Ytifoanmoadogoaa
open Go.RowKit
theorem pipeRuns_w (size : Int) (A : Option Addr) (len cap : Nat) (w : World) (_ : (Lit.int .i64 size).wf = true) (hA : CallsAt w.heap.size w A len ∧ len ≤ maxLen) :
    Calls Try.prog 3 #[.int .i64 size, .slice A len cap] w fun e w' => e = .returned (.bool true) ∧ Below w.heap.size w w' :=
  pipeRuns_walk size A len cap w hA.1 hA.2
end Go.Proofs.Ytifoanmoadogoaa
