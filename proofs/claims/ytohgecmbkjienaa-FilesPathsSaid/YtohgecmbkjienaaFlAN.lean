/- A call as it came in. No condition. -/
import Derived.Test.YtohgecmbkjienaaFlAM
import Derived.OpenShut
import Derived.ProofKit
namespace Go.Proofs.Ytohgecmbkjienaa
open Go.ChangeShapes Go.WideShapes Go.RowKit Go.Deep
theorem six {α : Type} (l : List α) (h : l.length = 6) : ∃ a b c d e f, l = [a, b, c, d, e, f] := by
  match l, h with
  | [a, b, c, d, e, f], _ => exact ⟨a, b, c, d, e, f, rfl⟩
/-- A call's value. -/
def CallV (v : Value) : Prop := ∃ (q N M K : Int) (s t : ByteArray), v = .agg #[.int .i64 q, .int .i64 N, .int .i64 M, .int .i64 K, .string s, .string t] ∧ s.size ≤ maxLen ∧ t.size ≤ maxLen ∧
  (Lit.int .i64 q).wf = true ∧ (Lit.int .i64 N).wf = true ∧ (Lit.int .i64 M).wf = true ∧ (Lit.int .i64 K).wf = true
theorem call_fields {H : Type} {enc : TypeId × Value → H} {w : World} {m : Nat} {cs : List Value} {x : DataW H × List MemPlace} (hl : cs.length = 6) (h : DataW.trod enc Try.prog w 0 (fun _ => true) true m 27 cs = some x) :
    ∃ (q N M K : Int) (s t : ByteArray), cs = [.int .i64 q, .int .i64 N, .int .i64 M, .int .i64 K, .string s, .string t] ∧ s.size ≤ maxLen ∧ t.size ≤ maxLen ∧
  (Lit.int .i64 q).wf = true ∧ (Lit.int .i64 N).wf = true ∧ (Lit.int .i64 M).wf = true ∧ (Lit.int .i64 K).wf = true := by
  obtain ⟨x0, x1, x2, x3, x4, x5, rfl⟩ := six cs hl
  obtain ⟨xs, n', _, _, _, hxl, hg⟩ := DataW.trod_struct Try.underlying27 h
  obtain ⟨y0, y1, y2, y3, y4, y5, rfl⟩ := six xs hxl
  have k3 : Try.prog.cellsOf 3 = 1 := by kernel_rfl
  have k9 : Try.prog.cellsOf 9 = 1 := by kernel_rfl
  have g0 : DataW.trod enc Try.prog w 0 (fun _ => true) true n' 3 ((([x0, x1, x2, x3, x4, x5] : List Value).drop 0).take (Try.prog.cellsOf 3)) = some y0 := hg 0 _ rfl
  have g1 : DataW.trod enc Try.prog w 0 (fun _ => true) true n' 3 ((([x0, x1, x2, x3, x4, x5] : List Value).drop 1).take (Try.prog.cellsOf 3)) = some y1 := hg 1 _ rfl
  have g2 : DataW.trod enc Try.prog w 0 (fun _ => true) true n' 3 ((([x0, x1, x2, x3, x4, x5] : List Value).drop 2).take (Try.prog.cellsOf 3)) = some y2 := hg 2 _ rfl
  have g3 : DataW.trod enc Try.prog w 0 (fun _ => true) true n' 3 ((([x0, x1, x2, x3, x4, x5] : List Value).drop 3).take (Try.prog.cellsOf 3)) = some y3 := hg 3 _ rfl
  have g4 : DataW.trod enc Try.prog w 0 (fun _ => true) true n' 9 ((([x0, x1, x2, x3, x4, x5] : List Value).drop 4).take (Try.prog.cellsOf 9)) = some y4 := hg 4 _ rfl
  have g5 : DataW.trod enc Try.prog w 0 (fun _ => true) true n' 9 ((([x0, x1, x2, x3, x4, x5] : List Value).drop 5).take (Try.prog.cellsOf 9)) = some y5 := hg 5 _ rfl
  rw [k3] at g0 g1 g2 g3
  rw [k9] at g4 g5
  obtain ⟨q, e0, _, w0⟩ := DataW.trod_int Try.underlying3 g0
  obtain ⟨N, e1, _, w1⟩ := DataW.trod_int Try.underlying3 g1
  obtain ⟨M, e2, _, w2⟩ := DataW.trod_int Try.underlying3 g2
  obtain ⟨K, e3, _, w3⟩ := DataW.trod_int Try.underlying3 g3
  obtain ⟨s, e4, _, hs⟩ := DataW.trod_string Try.underlying9 g4
  obtain ⟨t, e5, _, ht⟩ := DataW.trod_string Try.underlying9 g5
  simp only [List.drop_zero, List.drop_succ_cons, List.take_succ_cons, List.take_zero, List.cons.injEq, and_true] at e0 e1 e2 e3 e4 e5
  subst e0 e1 e2 e3 e4 e5
  exact ⟨q, N, M, K, s, t, rfl, hs, ht, w0, w1, w2, w3⟩
set_option maxRecDepth 100000 in
theorem open_call {H : Type} {enc : TypeId × Value → H} {w : World} {r : Reach} {base : Nat} {v : Value} {d : DataW H} {p : List MemPlace} (hv : Value.okWide Try.prog w r base 27 v)
    (h : DataW.Trod enc Try.prog w 0 (fun _ => true) true 27 v d p) : CallV v := by
  obtain ⟨cs, hcs, hsz⟩ : ∃ cs : Array Value, v = .agg cs ∧ cs.size = 6 := by
    simp only [Value.okWide, Try.underlying27] at hv
    obtain ⟨cs, h1, h2, _⟩ := hv
    exact ⟨cs, h1, h2.trans (by kernel_rfl)⟩
  obtain ⟨l⟩ := cs
  obtain ⟨m, hf⟩ := h
  subst hcs
  have hf' : DataW.trod enc Try.prog w 0 (fun _ => true) true m 27 l = some (d, p) := by simpa [Value.cells] using hf
  obtain ⟨q, N, M, K, s, t, e, h9⟩ := call_fields (by simpa using hsz) hf'
  subst e
  exact ⟨q, N, M, K, s, t, rfl, h9⟩
theorem filesNil_law (V : Value) (w : World) (h : CallV V) : Calls Try.prog 5 #[V] w fun e w' => e = .returned (.bool true) ∧ Below w.heap.size w w' := by
  obtain ⟨q, N, M, K, s, t, rfl, _⟩ := h
  exact filesNil_any q N M K s t w
end Go.Proofs.Ytohgecmbkjienaa
