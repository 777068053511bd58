/- Texts that came in, as a row hands them. No condition. -/
import Derived.Test.YtlaidmjlgjpgcaaSplK
import Derived.SizedLaws
import Derived.SliceStrings
namespace Go.Proofs.Ytlaidmjlgjpgcaa
open Go.ChangeShapes Go.WideShapes Go.RowKit

theorem weights_mem_all {H : Type} {P : Program} {e : TypeId} : ∀ {ds : List (DataW H)} {d : DataW H}, d ∈ ds → ∀ n ∈ d.weights P e, n ∈ DataW.weightsAll P e ds
  | d0 :: ds, d, hd, n, hn => by
    simp only [DataW.weightsAll, List.mem_append]
    rcases List.mem_cons.1 hd with rfl | h
    · exact .inl hn
    · exact .inr (weights_mem_all h n hn)
theorem sized_elem {H : Type} {P : Program} {ts : List TypeId} {ds : List (DataW H)} (h : (DataW.weightsEach P ts ds).all (· ≤ reachBytes) = true) {j : Nat} {t e : TypeId} {elems spare : List (DataW H)} (ht : ts[j]? = some t) (hd : ds[j]? = some (.slice elems spare)) (hu : P.underlying t = some (.slice e))
    {bytes : List UInt8} (hb : (.lit (.string bytes) : DataW H) ∈ elems) : bytes.length ≤ reachBytes := by
  have := List.all_eq_true.1 h _ (DataW.weights_mem_each ht hd bytes.length (by
    simp only [DataW.weights, hu]
    exact List.mem_cons_of_mem _ (List.mem_append_left _ (weights_mem_all hb _ (by simp [DataW.weights])))))
  simpa using this

theorem at_plain (a : Addr) (i : Nat) (h : a.spot = none) : a.add i = ⟨a.block, a.off + i, none⟩ := by
  obtain ⟨b, o, sp⟩ := a
  obtain rfl : sp = none := h
  exact Lib.add_plain _ _ _
theorem blk_lt {w : World} {b o : Nat} {v : Value} (h : w.cell? ⟨b, o, none⟩ = some v) : b < w.heap.size := by
  rcases Nat.lt_or_ge b w.heap.size with h1 | h1
  · exact h1
  · unfold World.cell? at h
    rw [Array.getElem?_eq_none (by simpa using h1)] at h
    cases h

theorem open_texts {H : Type} {enc : TypeId × Value → H} {w : World} {d : DataW H} {p : List MemPlace} {A : Option Addr} {len cap : Nat}
    (h : DataW.Trod enc Try.prog w 0 (fun _ => true) true 49 (.slice A len cap) d p) (hz : ∀ elems spare, d = .slice elems spare → ∀ bytes, (.lit (.string bytes) : DataW H) ∈ elems → bytes.length ≤ reachBytes) :
    ∃ ts : List ByteArray, ts.length = len ∧ StrsAt w.heap.size w A ts := by
  obtain ⟨fuel, hf⟩ := h
  rcases open_strings Try.underlying49 Try.underlying9 (by kernel_rfl) hf with ⟨hcs, _⟩ | ⟨a, l, c, ss, hcs, _, hl, hm, hs, hx, hcell, _⟩
  · simp [Value.cells] at hcs
    obtain ⟨rfl, rfl, rfl⟩ := hcs
    exact ⟨[], rfl, fun i t hi => by simp at hi⟩
  · simp [Value.cells] at hcs
    obtain ⟨rfl, rfl, rfl⟩ := hcs
    have hs' : ss.length = cap := by simpa using hs
    obtain ⟨hd, _⟩ := Prod.mk.inj hx
    refine ⟨ss.take len, by rw [List.length_take]; omega, fun i t hi => ?_⟩
    obtain ⟨hil, hit⟩ := List.getElem?_eq_some_iff.1 hi
    rw [List.length_take] at hil
    have h0 := hcell 0 (by omega)
    have hsp : a.spot = none := by simpa [Addr.add] using World.cell?_spot h0
    have hi' := hcell i (by omega)
    rw [at_plain _ _ hsp] at hi'
    have hgt : ss.getD i ByteArray.empty = t := by
      rw [List.getD_eq_getElem?_getD, List.getElem?_eq_getElem (by omega)]
      rw [List.getElem_take] at hit
      exact hit
    rw [hgt] at hi'
    refine ⟨a.block, a.off, ?_, blk_lt hi', hi', ?_⟩
    · obtain ⟨b, o, sp⟩ := a
      obtain rfl : sp = none := hsp
      rfl
    · have := hz _ _ hd t.data.toList (by
        unfold strs
        exact List.mem_map.2 ⟨t, List.mem_of_getElem? hi, rfl⟩)
      rw [Array.length_toList] at this
      unfold reachBytes at this
      have e : t.size = t.data.size := rfl
      omega

theorem byte_of {c : Int} (h : (Lit.int .u8 c).wf = true) : ∃ b : UInt8, c = (b.toNat : Int) := by
  have h1 : 0 ≤ c ∧ c ≤ 255 := by simpa [Lit.wf, IntKind.min, IntKind.max, IntKind.bits, IntKind.signed] using h
  refine ⟨UInt8.ofNat c.toNat, ?_⟩
  rw [UInt8.toNat_ofNat_of_lt' (by show c.toNat < 256; omega)]
  omega
theorem splitBack_w (av : Option Addr) (n cv : Nat) (ts : List ByteArray) (c : Int) (w : World) (hn : ts.length = n) (hS : StrsAt w.heap.size w av ts) (wc : (Lit.int .u8 c).wf = true) :
    Calls Try.prog 12 #[.slice av n cv, .int .u8 c] w fun e w' => e = .returned (.bool true) ∧ Below w.heap.size w w' := by
  obtain ⟨b, rfl⟩ := byte_of wc
  exact splitBack_walk av n cv ts b w hn hS
end Go.Proofs.Ytlaidmjlgjpgcaa
