/- Texts that came in, as a row hands them, with the bound of what is read. No condition. -/
import Derived.Test.YtnhbcmhinhncfaaGreatDoorPdH
import Derived.Test.YtnhbcmhinhncfaaGreatDoorPdJ
import Derived.Test.YtnhbcmhinhncfaaGreatDoorRows
import Derived.SizedLaws
import Derived.SliceStrings
import Derived.OpenShut
namespace Go.Proofs.YtnhbcmhinhncfaaGreatDoor
open Go.ChangeShapes Go.WideShapes Go.RowKit

theorem at_plain (a : Addr) (i : Nat) (h : a.spot = none) : a.add i = ⟨a.block, a.off + i, none⟩ := by
  obtain ⟨b, o, sp⟩ := a
  obtain rfl : sp = none := h
  exact Lib.add_plain _ _ _
theorem cell_lt {w : World} {b o : Nat} {v : Value} (h : w.cell? ⟨b, o, none⟩ = some v) : b < w.heap.size := by
  rcases Nat.lt_or_ge b w.heap.size with h1 | h1
  · exact h1
  · unfold World.cell? at h
    rw [Array.getElem?_eq_none (by simpa using h1)] at h
    cases h
theorem bulk_mem {H : Type} : ∀ {ds : List (DataW H)} {d : DataW H}, d ∈ ds → Rows.uptoBulk d ≤ Rows.uptoBulkAll ds
  | d0 :: ds, d, hd => by
    rw [Rows.uptoBulkAll]
    rcases List.mem_cons.1 hd with rfl | h
    · omega
    · have := bulk_mem h; omega
theorem upto_texts {H : Type} {d : DataW H} {r : List (DataW H)} (h : Rows.uptoSmall H (d :: r) = true) (elems spare : List (DataW H)) (hd : d = .slice elems spare) (bytes : List UInt8) (hb : (.lit (.string bytes) : DataW H) ∈ elems) : bytes.length ≤ 1048576 := by
  subst hd
  have h1 : Rows.uptoBulkAll ((.slice elems spare : DataW H) :: r) ≤ 1048576 := of_decide_eq_true h
  have h2 := bulk_mem hb
  rw [Rows.uptoBulkAll, Rows.uptoBulk] at h1
  rw [Rows.uptoBulk] at h2
  omega
theorem open_texts {H : Type} {enc : TypeId × Value → H} {w : World} {d : DataW H} {p : List MemPlace} {A : Option Addr} {len cap : Nat}
    (h : DataW.Trod enc Tryz.prog w 0 (fun _ => true) true 27 (.slice A len cap) d p) (hz : ∀ elems spare, d = .slice elems spare → ∀ bytes, (.lit (.string bytes) : DataW H) ∈ elems → bytes.length ≤ 1048576) :
    ∃ ts : List ByteArray, ts.length = len ∧ Txts w A ts ∧ ∀ t ∈ ts, t.size ≤ 10000000 := by
  obtain ⟨fuel, hf⟩ := h
  rcases open_strings Tryz.underlying27 Tryz.underlying9 (by kernel_rfl) hf with ⟨hcs, _⟩ | ⟨a, l, c, ss, hcs, _, hl, hm, hs, hx, hcell, _⟩
  · simp [Value.cells] at hcs
    obtain ⟨rfl, rfl, rfl⟩ := hcs
    exact ⟨[], rfl, (fun i t hi => by simp at hi), (fun t ht => by cases ht)⟩
  · simp [Value.cells] at hcs
    obtain ⟨rfl, rfl, rfl⟩ := hcs
    have hs' : ss.length = cap := by simpa using hs
    obtain ⟨hd, _⟩ := Prod.mk.inj hx
    refine ⟨ss.take len, by rw [List.length_take]; omega, fun i t hi => ?_, fun t ht => ?_⟩
    · obtain ⟨hil, hit⟩ := List.getElem?_eq_some_iff.1 hi
      rw [List.length_take] at hil
      have h0 := hcell 0 (by omega)
      have hsp : a.spot = none := by simpa [Addr.add] using World.cell?_spot h0
      have hi' := hcell i (by omega)
      rw [at_plain _ _ hsp] at hi'
      have hgt : ss.getD i ByteArray.empty = t := by
        rw [List.getD_eq_getElem?_getD, List.getElem?_eq_getElem (by omega)]
        rw [List.getElem_take] at hit
        exact hit
      rw [hgt] at hi'
      refine ⟨a.block, a.off, ?_, cell_lt hi', hi'⟩
      obtain ⟨b, o, sp⟩ := a
      obtain rfl : sp = none := hsp
      rfl
    · have := hz _ _ hd t.data.toList (by
        unfold strs
        exact List.mem_map.2 ⟨t, ht, rfl⟩)
      rw [Array.length_toList] at this
      have e : t.size = t.data.size := rfl
      omega
end Go.Proofs.YtnhbcmhinhncfaaGreatDoor
