/- VarsExports' walk over what came in. Condition: the reach. -/
import Derived.Test.YtklepnldoajghaaVarBD
import Derived.SizedLaws
import Derived.SliceStrings
namespace Go.Proofs.Ytklepnldoajghaa
open Go.ChangeShapes Go.WideShapes Go.RowKit

theorem weights_mem_all {H : Type} {P : Program} {e : TypeId} : ∀ {ds : List (DataW H)} {d : DataW H}, d ∈ ds → ∀ n ∈ d.weights P e, n ∈ DataW.weightsAll P e ds
  | d0 :: ds, d, hd, n, hn => by
    simp only [DataW.weightsAll, List.mem_append]
    rcases List.mem_cons.1 hd with rfl | h
    · exact .inl hn
    · exact .inr (weights_mem_all h n hn)
theorem sized_elem {H : Type} {P : Program} {ts : List TypeId} {ds : List (DataW H)} (h : (DataW.weightsEach P ts ds).all (· ≤ reachBytes) = true) {j : Nat} {t e : TypeId} {elems spare : List (DataW H)} (ht : ts[j]? = some t) (hd : ds[j]? = some (.slice elems spare)) (hu : P.underlying t = some (.slice e))
    {bytes : List UInt8} (hb : (.lit (.string bytes) : DataW H) ∈ elems) : bytes.length ≤ reachBytes := by
  have := List.all_eq_true.1 h _ (DataW.weights_mem_each ht hd bytes.length (by
    simp only [DataW.weights, hu]
    exact List.mem_cons_of_mem _ (List.mem_append_left _ (weights_mem_all hb _ (by simp [DataW.weights])))))
  simpa using this

theorem open_texts {H : Type} {enc : TypeId × Value → H} {w : World} {d : DataW H} {p : List MemPlace} {A : Option Addr} {len cap : Nat}
    (h : DataW.Trod enc Try.prog w 0 (fun _ => true) true 28 (.slice A len cap) d p) (hz : ∀ elems spare, d = .slice elems spare → ∀ bytes, (.lit (.string bytes) : DataW H) ∈ elems → bytes.length ≤ reachBytes) :
    ∃ ts : List ByteArray, ts.length = len ∧ (LsAt w A ts ∧ len ≤ maxLen ∧ ∀ x ∈ ts, x.size ≤ 140737488355328) := by
  obtain ⟨fuel, hf⟩ := h
  rcases open_strings Try.underlying28 Try.underlying9 (by kernel_rfl) hf with ⟨hcs, _⟩ | ⟨a, l, c, ss, hcs, _, hl, hm, hs, hx, hcell, _⟩
  · simp [Value.cells] at hcs
    obtain ⟨rfl, rfl, rfl⟩ := hcs
    exact ⟨[], rfl, fun i t hi => by simp at hi, Nat.zero_le _, fun x hx => by cases hx⟩
  · simp [Value.cells] at hcs
    obtain ⟨rfl, rfl, rfl⟩ := hcs
    have hs' : ss.length = cap := by simpa using hs
    obtain ⟨hd, _⟩ := Prod.mk.inj hx
    refine ⟨ss.take len, by rw [List.length_take]; omega, fun i t hi => ?_, Nat.le_trans hl hm, fun x hx => ?_⟩
    · obtain ⟨hil, hit⟩ := List.getElem?_eq_some_iff.1 hi
      rw [List.length_take] at hil
      have h0 := hcell 0 (by omega)
      have hsp : a.spot = none := by simpa [Addr.add] using World.cell?_spot h0
      obtain ⟨b, o, sp⟩ := a
      obtain rfl : sp = none := hsp
      have hi' := hcell i (by omega)
      rw [Addr.add_lit] at hi'
      rw [List.getElem_take] at hit
      rw [List.getD_eq_getElem?_getD, List.getElem?_eq_getElem (by omega), Option.getD_some, hit] at hi'
      exact ⟨b, o, rfl, block_of_cell hi', hi'⟩
    · have := hz _ _ hd x.data.toList (by
        unfold strs
        exact List.mem_map.2 ⟨x, hx, rfl⟩)
      rw [Array.length_toList] at this
      unfold reachBytes at this
      have e : x.size = x.data.size := rfl
      omega

theorem varsExports_w (A : Option Addr) (len cap : Nat) (K : List ByteArray) (v : ByteArray) (w : World) (hK : K.length = len) (h : LsAt w A K ∧ len ≤ maxLen ∧ ∀ x ∈ K, x.size ≤ 140737488355328) (hv : v.size ≤ maxLen) :
    Calls Try.prog 7 #[.slice A len cap, .string v] w fun e w' => e = .returned (.bool true) ∧ Below w.heap.size w w' := by
  obtain ⟨hL, hm, hz⟩ := h
  by_cases hout : (40 : Int) < len ∨ (1000 : Int) < v.size
  · exact exports_out A len cap v w hm hv hout
  · exact exports_walk A len cap v K w hK hL (by omega) (by omega) hz
end Go.Proofs.Ytklepnldoajghaa
