/- PatternCuts over what its row hands. No condition. -/
import Derived.Test.YtlaidmjlgjpgcaaPatCA
import Derived.OpenShut
namespace Go.Proofs.Ytlaidmjlgjpgcaa
open Go.RowKit Go.ChangeShapes Go.WideShapes

set_option maxRecDepth 100000 in
theorem open_ends {H : Type} {enc : TypeId × Value → H} {w : World} {r : Reach} {base : Nat} {v : Value} {d : DataW H} {p : List MemPlace} (hv : Value.okWide Try.prog w r base 27 v)
    (h : DataW.Trod enc Try.prog w 0 (fun _ => true) true 27 v d p) : ∃ e0 e1 : Bool, v = .agg #[.bool e0, .bool e1] := by
  have hcs : ∃ cs : Array Value, v = .agg cs ∧ cs.size = 2 := by
    simp only [Value.okWide, Try.underlying27] at hv
    obtain ⟨cs, h1, h2, _⟩ := hv
    exact ⟨cs, h1, h2.trans (by kernel_rfl)⟩
  obtain ⟨⟨l⟩, rfl, hsz⟩ := hcs
  obtain ⟨x0, x1, rfl⟩ := pair (l := l) (by simpa using hsz)
  obtain ⟨fuel, hf⟩ := h
  obtain ⟨xs, m, _, _, _, hxl, hg⟩ := DataW.trod_array Try.underlying27 hf
  obtain ⟨y0, y1, rfl⟩ := pair hxl
  have k4 : Try.prog.cellsOf 4 = 1 := by kernel_rfl
  have g0 := hg 0 (by omega)
  have g1 := hg 1 (by omega)
  simp only [k4, Value.cells] at g0 g1
  obtain ⟨b0, h0, _⟩ := DataW.trod_bool Try.underlying4 (show DataW.trod enc Try.prog w 0 (fun _ => true) true m 4 [x0] = some y0 from g0)
  obtain ⟨b1, h1, _⟩ := DataW.trod_bool Try.underlying4 (show DataW.trod enc Try.prog w 0 (fun _ => true) true m 4 [x1] = some y1 from g1)
  obtain rfl : x0 = .bool b0 := by simpa using h0
  obtain rfl : x1 = .bool b1 := by simpa using h1
  exact ⟨b0, b1, rfl⟩
theorem patternCuts_w (av : Option Addr) (n cv : Nat) (p : List Ch) (s : ByteArray) (V : Value) (w : World) (hn : p.length = n) (hP : ChsAt w.heap.size w av p) (_ : av = none → cv = 0) (hn63 : n ≤ maxLen) (hs : s.size ≤ maxLen) (h : ∃ e0 e1 : Bool, V = .agg #[.bool e0, .bool e1]) : Calls Try.prog 4 #[.slice av n cv, .string s, V] w (TrueR w) := by
  obtain ⟨e0, e1, rfl⟩ := h
  exact patternCuts_walk av n cv p s e0 e1 w hn hP hn63 hs
end Go.Proofs.Ytlaidmjlgjpgcaa
