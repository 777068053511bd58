/- A list of numbers that came in, as TableFills' row hands it. No condition. -/
import Derived.Test.YtifoanmoadogoaaTabH
namespace Go.Proofs.Ytifoanmoadogoaa
open Go.RowKit
theorem open_nums {H : Type} {enc : TypeId × Value → H} {w : World} {d : DataW H} {p : List MemPlace} {A : Option Addr} {len cap : Nat}
    (h : DataW.Trod enc Try.prog w 0 (fun _ => true) true 50 (.slice A len cap) d p) : IntsAt w.heap.size w A len := by
  obtain ⟨fuel, hf⟩ := h
  exact ints_of (cap := cap) (by simpa [Value.cells] using hf)
end Go.Proofs.Ytifoanmoadogoaa
