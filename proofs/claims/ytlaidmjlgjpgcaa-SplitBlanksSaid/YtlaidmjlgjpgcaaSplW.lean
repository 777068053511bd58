/- SplitBlanks over what its row hands. No condition. -/
import Derived.Test.YtlaidmjlgjpgcaaSplV
namespace Go.Proofs.Ytlaidmjlgjpgcaa
open Go.RowKit

theorem splitBlanks_w (s : ByteArray) (c : Int) (w : World) (_ : s.size ≤ maxLen) (wc : (Lit.int .u8 c).wf = true) :
    Calls Try.prog 11 #[.string s, .int .u8 c] w fun e w' => e = .returned (.bool true) ∧ Below w.heap.size w w' := by
  obtain ⟨b, rfl⟩ := byte_of wc
  exact splitBlanks_walk s b w
end Go.Proofs.Ytlaidmjlgjpgcaa
