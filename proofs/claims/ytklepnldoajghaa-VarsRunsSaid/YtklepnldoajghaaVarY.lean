/- Texts that came in, as a row hands them. No condition. -/
import Derived.Test.YtklepnldoajghaaVarX
import Derived.OpenShut
import Derived.SliceStrings
namespace Go.Proofs.Ytklepnldoajghaa
open Go.ChangeShapes Go.WideShapes Go.RowKit

theorem spot_of {w : World} {base len cap : Nat} {a : Addr} (h : Value.okWide Try.prog w .any base 28 (.slice (some a) len cap)) : a.spot = none := by
  unfold Value.okWide at h
  rw [Try.underlying28] at h
  unfold Cell.okWide Cell.ok at h
  rw [Try.underlying28] at h
  exact h.2.2.2.1

theorem open_tx {H : Type} {enc : TypeId × Value → H} {w : World} {d : DataW H} {p : List MemPlace} {A : Option Addr} {base len cap : Nat} (hv : Value.okWide Try.prog w .any base 28 (.slice A len cap))
    (h : DataW.Trod enc Try.prog w 0 (fun _ => true) true 28 (.slice A len cap) d p) : ∃ K : List ByteArray, K.length = len ∧ TxAt w (.slice A len cap) K ∧ len ≤ maxLen ∧ ∀ x ∈ K, x.size ≤ maxLen := by
  obtain ⟨fuel, hf⟩ := h
  rcases open_strings Try.underlying28 Try.underlying9 (by kernel_rfl) hf with ⟨hcs, _⟩ | ⟨a, l, c, ss, hcs, _, hl, hm, hs, hx, hcell, hss⟩
  · simp [Value.cells] at hcs
    obtain ⟨rfl, rfl, rfl⟩ := hcs
    exact ⟨[], rfl, .inl ⟨rfl, rfl⟩, Nat.zero_le _, fun x hx => by cases hx⟩
  · simp [Value.cells] at hcs
    obtain ⟨rfl, rfl, rfl⟩ := hcs
    have hs' : ss.length = cap := by simpa using hs
    have hsp := spot_of hv
    obtain ⟨b, o, sp⟩ := a
    obtain rfl : sp = none := hsp
    have hlen : (ss.take len).length = len := by rw [List.length_take]; omega
    refine ⟨ss.take len, hlen, .inr ⟨b, o, cap, by rw [hlen], by rw [hlen]; exact hl, fun j u hj => ?_⟩, Nat.le_trans hl hm, fun x hx => hss x (List.mem_of_mem_take hx)⟩
    rw [flat_kcs, List.getElem?_map] at hj
    obtain ⟨t, ht, rfl⟩ := Option.map_eq_some_iff.1 hj
    obtain ⟨hil, hit⟩ := List.getElem?_eq_some_iff.1 ht
    rw [List.length_take] at hil
    have hi' := hcell j (by omega)
    rw [Addr.add_lit] at hi'
    rw [List.getElem_take] at hit
    rw [hi', List.getD_eq_getElem?_getD, List.getElem?_eq_getElem (by omega), Option.getD_some, hit]

theorem varsShifts_w (A : Option Addr) (len cap : Nat) (a b : Int) (w : World) (h : ∃ K : List ByteArray, K.length = len ∧ TxAt w (.slice A len cap) K ∧ len ≤ maxLen ∧ ∀ x ∈ K, x.size ≤ maxLen) (_ : (Lit.int .i64 a).wf = true) (_ : (Lit.int .i64 b).wf = true) :
    Calls Try.prog 6 #[.slice A len cap, .int .i64 a, .int .i64 b] w fun e w' => e = .returned (.bool true) ∧ Below w.heap.size w w' := by
  obtain ⟨K, hK, hv, hm, _⟩ := h
  by_cases hout : (200 : Int) < len ∨ a < 0 ∨ b < 0 ∨ 300 < a ∨ 300 < b
  · exact shifts_out A len cap a b w hm hout
  · obtain ⟨i, rfl⟩ : ∃ i : Nat, a = i := ⟨a.toNat, by omega⟩
    obtain ⟨j, rfl⟩ : ∃ j : Nat, b = j := ⟨b.toNat, by omega⟩
    exact shifts_in _ K i j w hv (by omega) (by omega) (by omega)
end Go.Proofs.Ytklepnldoajghaa
