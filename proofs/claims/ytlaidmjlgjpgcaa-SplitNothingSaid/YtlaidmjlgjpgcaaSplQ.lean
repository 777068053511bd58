/- SplitNothing over what its row hands. No condition. -/
import Derived.Test.YtlaidmjlgjpgcaaSplO
import Derived.Test.YtlaidmjlgjpgcaaSplP
namespace Go.Proofs.Ytlaidmjlgjpgcaa
open Go.RowKit

theorem splitNothing_w (av : Option Addr) (n cv : Nat) (ps : List Pc) (ifs : ByteArray) (w : World) (hn : ps.length = n) (hP : PcsAt w.heap.size w av ps) (hz : ps.length * 24 ≤ reachBytes ∧ ∀ p ∈ ps, p.t.size ≤ reachBytes) (_ : ifs.size ≤ maxLen) :
    Calls Try.prog 10 #[.slice av n cv, .string ifs] w fun e w' => e = .returned (.bool true) ∧ Below w.heap.size w w' :=
  splitNothing_walk av n cv ps ifs w hn hP (fun p hp => Nat.le_trans (hz.2 p hp) (by decide)) (by have := hz.1; rw [hn] at this; exact Nat.le_trans this (by decide))
end Go.Proofs.Ytlaidmjlgjpgcaa
