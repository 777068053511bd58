/- SplitPieces over what its row hands. Condition: the bulk. -/
import Derived.Test.YtlaidmjlgjpgcaaSplAB
import Derived.Test.YtlaidmjlgjpgcaaSplZ
namespace Go.Proofs.Ytlaidmjlgjpgcaa
open Go.RowKit

theorem splitPieces_w (av : Option Addr) (n cv : Nat) (ps : List Pc) (ifs : ByteArray) (c : Int) (w : World) (hn : ps.length = n) (hP : PcsAt w.heap.size w av ps) (hz : (bytesCat ps).length + ps.length * 4 ≤ 1048576) (_ : ifs.size ≤ maxLen) (_ : (Lit.int .i64 c).wf = true) :
    Calls Try.prog 13 #[.slice av n cv, .string ifs, .int .i64 c] w fun e w' => e = .returned (.bool true) ∧ Below w.heap.size w w' :=
  splitPieces_walk av n cv ps ifs c w hn hP hz
end Go.Proofs.Ytlaidmjlgjpgcaa
