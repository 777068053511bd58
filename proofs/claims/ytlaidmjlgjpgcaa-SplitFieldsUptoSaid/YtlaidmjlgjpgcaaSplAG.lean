/- SplitFields over what its row hands. Condition: the bulk. -/
import Derived.Test.YtlaidmjlgjpgcaaSplAF
import Derived.Test.YtlaidmjlgjpgcaaSplZ
namespace Go.Proofs.Ytlaidmjlgjpgcaa
open Go.RowKit

theorem splitFields_w (av : Option Addr) (n cv : Nat) (ps : List Pc) (ifs : ByteArray) (w : World) (hn : ps.length = n) (hP : PcsAt w.heap.size w av ps) (hz : (bytesCat ps).length + ps.length * 4 ≤ 1048576) (_ : ifs.size ≤ maxLen) (hi : ifs.size ≤ reachBytes) :
    Calls Try.prog 9 #[.slice av n cv, .string ifs] w fun e w' => e = .returned (.bool true) ∧ Below w.heap.size w w' :=
  splitFields_walk av n cv ps ifs w hn hP hz (Nat.le_trans hi (by decide))
end Go.Proofs.Ytlaidmjlgjpgcaa
