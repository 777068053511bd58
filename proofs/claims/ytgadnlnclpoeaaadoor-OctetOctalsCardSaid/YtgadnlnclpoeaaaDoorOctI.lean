/- OctetSigns' walk over what its row hands. Condition: the library's tables and sentinels lie as they were laid (Gl). -/
import Derived.Test.YtgadnlnclpoeaaaDoorOctH
import Derived.Test.YtgadnlnclpoeaaaDoorOctF
namespace Go.Proofs.YtgadnlnclpoeaaaDoor
open Go.RowKit

theorem i64_of {n : Int} (h : (Lit.int .i64 n).wf = true) : -9223372036854775808 ≤ n ∧ n ≤ 9223372036854775807 := by
  simpa [Lit.wf, IntKind.min, IntKind.max, IntKind.bits, IntKind.signed] using h

theorem octetSigns_w (n z : Int) (W : World) (wn : (Lit.int .i64 n).wf = true) (wz : (Lit.int .i64 z).wf = true) (g : Gl W) :
    Calls Tryd.prog 7 #[.int .i64 n, .int .i64 z] W fun e w' => e = .returned (.bool true) ∧ Below W.heap.size W w' :=
  octetSigns_walk n z W (i64_of wn).1 (i64_of wn).2 (i64_of wz).1 (i64_of wz).2 g
end Go.Proofs.YtgadnlnclpoeaaaDoor
