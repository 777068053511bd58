/- VarsFixed's walk over what came in. No condition. -/
import Derived.Test.YtklepnldoajghaaVarAE
namespace Go.Proofs.Ytklepnldoajghaa
open Go.RowKit

theorem varsFixed_w (v : ByteArray) (A : Option Addr) (len cap : Nat) (w : World) (hv : v.size ≤ maxLen) (h : (∃ Q : List Cl, Q.length = len ∧ ClsAt w A Q) ∧ len ≤ maxLen) :
    Calls Try.prog 5 #[.string v, .slice A len cap] w fun e w' => e = .returned (.bool true) ∧ Below w.heap.size w w' := by
  obtain ⟨⟨Q, hQ, hC⟩, hl⟩ := h
  by_cases hb : 65536 < v.size
  · exact fixedLong v A len cap w hb hv
  · exact fixed_walk v A len cap Q w (by omega) hQ hC hl
end Go.Proofs.Ytklepnldoajghaa
