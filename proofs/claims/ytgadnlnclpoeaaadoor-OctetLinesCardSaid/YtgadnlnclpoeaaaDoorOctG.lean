/- OctetNames' walk over what its row hands. Condition: the library's tables and sentinels lie as they were laid (Gl). -/
import Derived.Test.YtgadnlnclpoeaaaDoorOctD
import Derived.Test.YtgadnlnclpoeaaaDoorOctF
namespace Go.Proofs.YtgadnlnclpoeaaaDoor
open Go.RowKit

theorem byte_of {c : Int} (h : (Lit.int .u8 c).wf = true) : ∃ b : UInt8, c = (b.toNat : Int) := by
  have h0 : 0 ≤ c ∧ c ≤ 255 := by simpa [Lit.wf, IntKind.min, IntKind.max, IntKind.bits, IntKind.signed] using h
  exact ⟨UInt8.ofNat c.toNat, by rw [UInt8.toNat_ofNat_of_lt' (by show c.toNat < 256; omega)]; omega⟩

theorem reach_size {s : ByteArray} (h : s.data.toList.length ≤ reachBytes) : s.size ≤ 140737488351232 := by
  rw [Lib.size_eq]; exact h

theorem octetNames_w (s : ByteArray) (c : Int) (W : World) (z : s.data.toList.length ≤ reachBytes) (wc : (Lit.int .u8 c).wf = true) (g : Gl W) :
    Calls Tryd.prog 9 #[.string s, .int .u8 c] W fun e w' => e = .returned (.bool true) ∧ Below W.heap.size W w' := by
  obtain ⟨b, rfl⟩ := byte_of wc
  have := reach_size z
  exact octetNames_walk s b W (by omega) g
end Go.Proofs.YtgadnlnclpoeaaaDoor
