/- A list of numbers that came in, as a row hands it. No condition. -/
import Derived.Test.YtmilagppbepnbaaGreatKhK
import Derived.OpenShut
import Derived.ShutString
import Derived.ChangeOld
namespace Go.Proofs.YtmilagppbepnbaaGreat.Kn
open Go.ChangeShapes Go.WideShapes Go.RowKit Go.Deep
set_option linter.unusedVariables false
theorem addr_at (a : Addr) (k : Nat) (hs : a.spot = none) : a.add k = ⟨a.block, a.off + k, none⟩ := by
  unfold Addr.add
  obtain ⟨b, o, s⟩ := a
  obtain rfl : s = none := hs
  split <;> simp_all
set_option maxRecDepth 100000 in
theorem ints_of {H : Type} {enc : TypeId × Value → H} {w : World} {fuel : Nat} {x : DataW H × List MemPlace} {A : Option Addr} {len cap : Nat}
    (h : DataW.trod enc Tryz.prog w 0 (fun _ => true) true fuel 49 [.slice A len cap] = some x) : IntsAt w.heap.size w A len := by
  rcases open_ints Tryz.underlying49 Tryz.underlying3 (by kernel_rfl) h with ⟨hcs, _⟩ | ⟨a, l, c, zs, hcs, _, hl, hm, hz, _, hcell, hwz⟩
  · simp at hcs
    obtain ⟨rfl, rfl, rfl⟩ := hcs
    exact ⟨by unfold maxLen; omega, fun i hi => absurd hi (by omega)⟩
  · simp at hcs
    obtain ⟨rfl, rfl, rfl⟩ := hcs
    refine ⟨by omega, fun i hi => ?_⟩
    have hz' : zs.length = cap := by simpa using hz
    have h0 := hcell 0 (by omega)
    have hsp : a.spot = none := by simpa [Addr.add] using World.cell?_spot h0
    have hi' := hcell i (by omega)
    rw [addr_at _ _ hsp] at hi'
    refine ⟨a.block, a.off, zs.getD i 0, ?_, block_of_cell (a := ⟨a.block, a.off + i, none⟩) hi', hi', bounds_i64 (hwz _ ?_)⟩
    · obtain ⟨b, o, sp⟩ := a
      obtain rfl : sp = none := hsp
      rfl
    · rw [List.getD_eq_getElem?_getD, List.getElem?_eq_getElem (by omega)]
      exact List.getElem_mem _
theorem open_nums {H : Type} {enc : TypeId × Value → H} {w : World} {d : DataW H} {p : List MemPlace} {A : Option Addr} {len cap : Nat}
    (h : DataW.Trod enc Tryz.prog w 0 (fun _ => true) true 49 (.slice A len cap) d p) : IntsAt w.heap.size w A len := by
  obtain ⟨fuel, hf⟩ := h
  exact ints_of (cap := cap) (by simpa [Value.cells] using hf)
end Go.Proofs.YtmilagppbepnbaaGreat.Kn
