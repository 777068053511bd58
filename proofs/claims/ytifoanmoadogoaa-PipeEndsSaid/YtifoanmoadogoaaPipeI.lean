/- The walk of the law PipeEnds, its hypotheses as the row's frame hands them. No condition. -/
import Derived.Test.YtifoanmoadogoaaPipeH
namespace Go.Proofs.Ytifoanmoadogoaa
open Go.RowKit
theorem pipeEnds_w (size : Int) (A : Option Addr) (len cap : Nat) (w : World) (_ : (Lit.int .i64 size).wf = true) (hA : CallsAt w.heap.size w A len ∧ len ≤ maxLen) :
    Calls Try.prog 5 #[.int .i64 size, .slice A len cap] w fun e w' => e = .returned (.bool true) ∧ Below w.heap.size w w' :=
  pipeEnds_walk size A len cap w hA.1 hA.2
end Go.Proofs.Ytifoanmoadogoaa
