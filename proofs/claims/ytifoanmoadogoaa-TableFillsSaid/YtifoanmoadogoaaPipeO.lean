/- The walk of the law PipeOrder: true at every input. No condition. -/
import Derived.Test.YtifoanmoadogoaaPipeG
import Derived.Deep.DeepCutAuto
import Derived.Deep.CutBlock
namespace Go.Proofs.Ytifoanmoadogoaa
open Go.ChangeShapes Go.WideShapes Go.RowKit Go.Deep

/-- A slice of ints that came in. -/
def IntsAt (n0 : Nat) (w : World) (A : Option Addr) (len : Nat) : Prop :=
  len ≤ maxLen ∧ ∀ i, i < len → ∃ (b off : Nat) (v : Int), A = some ⟨b, off, none⟩ ∧ b < n0 ∧ w.cell? ⟨b, off + i, none⟩ = some (.int .i64 v) ∧ (-9223372036854775808 ≤ v ∧ v ≤ 9223372036854775807)

theorem IntsAt.below {n0 len : Nat} {w w' : World} {A : Option Addr} (h : IntsAt n0 w A len) (hb : Below n0 w w') : IntsAt n0 w' A len :=
  ⟨h.1, fun i hi => by
    obtain ⟨b, off, v, hA, hlt, h0, hv⟩ := h.2 i hi
    exact ⟨b, off, v, hA, hlt, (hb.cell hlt).trans h0, hv⟩⟩

theorem ints_of {H : Type} {enc : TypeId × Value → H} {w : World} {fuel : Nat} {x : DataW H × List MemPlace} {A : Option Addr} {len cap : Nat}
    (h : DataW.trod enc Try.prog w 0 (fun _ => true) true fuel 50 [.slice A len cap] = some x) : IntsAt w.heap.size w A len := by
  rcases open_ints Try.underlying50 Try.underlying3 (by kernel_rfl) h with ⟨hcs, _⟩ | ⟨a, l, c, zs, hcs, _, hl, hm, hz, _, hcell, hwz⟩
  · simp at hcs
    obtain ⟨rfl, rfl, rfl⟩ := hcs
    exact ⟨by unfold maxLen; omega, fun i hi => absurd hi (by omega)⟩
  · simp at hcs
    obtain ⟨rfl, rfl, rfl⟩ := hcs
    refine ⟨by omega, fun i hi => ?_⟩
    have hz' : zs.length = cap := by simpa using hz
    have h0 := hcell 0 (by omega)
    have hsp : a.spot = none := by simpa [Addr.add] using World.cell?_spot h0
    have hi' := hcell i (by omega)
    rw [addr_at _ _ hsp] at hi'
    refine ⟨a.block, a.off, zs.getD i 0, ?_, block_of_cell (a := ⟨a.block, a.off + i, none⟩) hi', hi', bounds_i64 (hwz _ ?_)⟩
    · obtain ⟨b, o, sp⟩ := a
      obtain rfl : sp = none := hsp
      rfl
    · rw [List.getD_eq_getElem?_getD, List.getElem?_eq_getElem (by omega)]
      exact List.getElem_mem _

theorem two {α : Type} {l : List α} (h : l.length = 2) : ∃ a b, l = [a, b] := by
  match l, h with
  | [a, b], _ => exact ⟨a, b, rfl⟩

theorem slice_of {H : Type} {enc : TypeId × Value → H} {w : World} {fuel : Nat} {x : DataW H × List MemPlace} {v : Value}
    (h : DataW.trod enc Try.prog w 0 (fun _ => true) true fuel 50 [v] = some x) : ∃ A len cap, v = .slice A len cap ∧ IntsAt w.heap.size w A len := by
  have h' := h
  rcases open_ints Try.underlying50 Try.underlying3 (by kernel_rfl) h with ⟨hcs, _⟩ | ⟨a, l, c, zs, hcs, _⟩
  · simp at hcs; subst hcs; exact ⟨_, _, _, rfl, ints_of h'⟩
  · simp at hcs; subst hcs; exact ⟨_, _, _, rfl, ints_of h'⟩

theorem open_steps {H : Type} {enc : TypeId × Value → H} {w : World} {r : Reach} {base : Nat} {v : Value} {d : DataW H} {p : List MemPlace} (hv : Value.okWide Try.prog w r base 51 v)
    (h : DataW.Trod enc Try.prog w 0 (fun _ => true) true 51 v d p) :
    ∃ V, v = V ∧ ∃ A0 l0 c0 A1 l1 c1, V = .agg #[.slice A0 l0 c0, .slice A1 l1 c1] ∧ IntsAt w.heap.size w A0 l0 ∧ IntsAt w.heap.size w A1 l1 := by
  have hcs : ∃ cs : Array Value, v = .agg cs ∧ cs.size = 2 := by
    simp only [Value.okWide, Try.underlying51] at hv
    obtain ⟨cs, h1, h2, _⟩ := hv
    exact ⟨cs, h1, h2.trans (by kernel_rfl)⟩
  obtain ⟨⟨l⟩, rfl, hsz⟩ := hcs
  obtain ⟨x0, x1, rfl⟩ := two (l := l) (by simpa using hsz)
  obtain ⟨fuel, hf⟩ := h
  obtain ⟨xs, m, _, _, _, hxl, hg⟩ := DataW.trod_array Try.underlying51 hf
  obtain ⟨y0, y1, rfl⟩ := two hxl
  have k50 : Try.prog.cellsOf 50 = 1 := by kernel_rfl
  have g0 := hg 0 (by omega)
  have g1 := hg 1 (by omega)
  simp only [k50, Value.cells] at g0 g1
  obtain ⟨A0, l0, c0, rfl, i0⟩ := slice_of (show DataW.trod enc Try.prog w 0 (fun _ => true) true m 50 [x0] = some y0 from g0)
  obtain ⟨A1, l1, c1, rfl, i1⟩ := slice_of (show DataW.trod enc Try.prog w 0 (fun _ => true) true m 50 [x1] = some y1 from g1)
  exact ⟨_, rfl, A0, l0, c0, A1, l1, c1, rfl, i0, i1⟩
end Go.Proofs.Ytifoanmoadogoaa
