/- The walk of the law PipeOrder, its hypotheses as the row's frame hands them. No condition. -/
import Derived.Test.YtifoanmoadogoaaPipeQ
namespace Go.Proofs.Ytifoanmoadogoaa
open Go.RowKit
theorem open_steps' {H : Type} {enc : TypeId × Value → H} {w : World} {r : Reach} {base : Nat} {v : Value} {d : DataW H} {p : List MemPlace} (hv : Value.okWide Try.prog w r base 51 v)
    (h : DataW.Trod enc Try.prog w 0 (fun _ => true) true 51 v d p) :
    ∃ A0 l0 c0 A1 l1 c1, v = .agg #[.slice A0 l0 c0, .slice A1 l1 c1] ∧ IntsAt w.heap.size w A0 l0 ∧ IntsAt w.heap.size w A1 l1 := by
  obtain ⟨V, rfl, h⟩ := open_steps hv h
  exact h
theorem pipeOrder_w (size : Int) (x : ByteArray) (V : Value) (w : World) (hs : (Lit.int .i64 size).wf = true) (hx : x.size ≤ maxLen)
    (h : ∃ A0 l0 c0 A1 l1 c1, V = .agg #[.slice A0 l0 c0, .slice A1 l1 c1] ∧ IntsAt w.heap.size w A0 l0 ∧ IntsAt w.heap.size w A1 l1) :
    Calls Try.prog 4 #[.int .i64 size, .string x, V] w fun e w' => e = .returned (.bool true) ∧ Below w.heap.size w w' := by
  obtain ⟨A0, l0, c0, A1, l1, c1, rfl, h0, h1⟩ := h
  exact pipeOrder_walk size x A0 l0 c0 A1 l1 c1 w (bounds_i64 hs) hx h0 h1
end Go.Proofs.Ytifoanmoadogoaa
