/- OctetJoined's walk over what its row hands. Condition: the library's tables and sentinels lie as they were laid (Gl). -/
import Derived.Test.YtgadnlnclpoeaaaDoorOctV
import Derived.Test.YtgadnlnclpoeaaaDoorOctG
namespace Go.Proofs.YtgadnlnclpoeaaaDoor
open Go.RowKit

theorem octetJoined_w (a b : ByteArray) (W : World) (za : a.data.toList.length ≤ reachBytes) (zb : b.data.toList.length ≤ reachBytes) (g : Gl W) :
    Calls Tryd.prog 8 #[.string a, .string b] W fun e w' => e = .returned (.bool true) ∧ Below W.heap.size W w' :=
  callsIn_wide.1 (octetJoined_in a b W (reach_size za) (reach_size zb) g)
end Go.Proofs.YtgadnlnclpoeaaaDoor
