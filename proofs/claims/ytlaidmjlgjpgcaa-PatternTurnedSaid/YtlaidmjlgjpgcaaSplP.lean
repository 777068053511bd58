/- Pieces that came in, as a row hands them. No condition. -/
import Derived.Test.YtlaidmjlgjpgcaaSplL
import Derived.Deep.Slices
import Derived.Deep.Fields
namespace Go.Proofs.Ytlaidmjlgjpgcaa
open Go.ChangeShapes Go.WideShapes Go.RowKit Go.Deep

/-- A piece as data. -/
def pcData {H : Type} (p : Pc) : DataW H := .agg [.lit (.string p.t.data.toList), .lit (.bool p.q), .lit (.bool p.sp)]
def PcCells (w : World) (a : Addr) (p : Pc) : Prop := w.cell? a = some (.string p.t) ∧ w.cell? (a.add 1) = some (.bool p.q) ∧ w.cell? (a.add 2) = some (.bool p.sp) ∧ p.t.size ≤ maxLen

theorem triple {α : Type} {l : List α} (h : l.length = 3) : ∃ a b c, l = [a, b, c] := by
  match l, h with
  | [a, b, c], _ => exact ⟨a, b, c, rfl⟩
theorem open_piece {H : Type} {enc : TypeId × Value → H} {P : Program} {w : World} {base : Nat} {spare : Nat → Bool} {held : Bool} {e : TypeId} {f0 f1 f2 : Field} (he : P.underlying e = some (.struct #[f0, f1, f2])) (hone : oneCellFields P #[f0, f1, f2] = true) (hC : P.cellsOf e = 3)
    (h0 : P.underlying f0.type = some .string) (h1 : P.underlying f1.type = some .bool) (h2 : P.underlying f2.type = some .bool) {n : Nat} {a : Addr} {cs : List Value} {y : DataW H × List MemPlace}
    (hc : w.cells? base a 3 = some cs) (ht : DataW.trod enc P w base spare held n e cs = some y) : ∃ p : Pc, y.1 = pcData p ∧ PcCells w a p := by
  obtain ⟨xs, m, _, rfl, hl, hxl, hf⟩ := DataW.trod_struct he ht
  obtain ⟨_, _, hat⟩ := World.cells?_some hc
  obtain ⟨v0, v1, v2, rfl⟩ := triple (hl.trans hC)
  obtain ⟨y0, y1, y2, rfl⟩ := triple (l := xs) hxl
  obtain ⟨o0, k0⟩ := hone_of hone 0 f0 rfl
  obtain ⟨o1, k1⟩ := hone_of hone 1 f1 rfl
  obtain ⟨o2, k2⟩ := hone_of hone 2 f2 rfl
  have g0 := hf 0 f0 rfl
  have g1 := hf 1 f1 rfl
  have g2 := hf 2 f2 rfl
  rw [o0, k0] at g0
  rw [o1, k1] at g1
  rw [o2, k2] at g2
  obtain ⟨s, e0, rfl, hs⟩ := DataW.trod_string h0 (g0 : DataW.trod enc P w base spare held m f0.type [v0] = some y0)
  obtain ⟨b1, e1, rfl⟩ := DataW.trod_bool h1 (g1 : DataW.trod enc P w base spare held m f1.type [v1] = some y1)
  obtain ⟨b2, e2, rfl⟩ := DataW.trod_bool h2 (g2 : DataW.trod enc P w base spare held m f2.type [v2] = some y2)
  obtain rfl : v0 = .string s := by simpa using e0
  obtain rfl : v1 = .bool b1 := by simpa using e1
  obtain rfl : v2 = .bool b2 := by simpa using e2
  have a0 := hat 0 (by decide)
  refine ⟨⟨s, b1, b2⟩, rfl, ?_, hat 1 (by decide), hat 2 (by decide), hs⟩
  have hsp : a.spot = none := by simpa [Addr.add] using World.cell?_spot a0
  obtain ⟨b, o, sp⟩ := a
  obtain rfl : sp = none := hsp
  exact a0

theorem open_pieces {H : Type} {enc : TypeId × Value → H} {P : Program} {w : World} {spare : Nat → Bool} {held : Bool} {t e : TypeId} {f0 f1 f2 : Field} (ht : P.underlying t = some (.slice e)) (he : P.underlying e = some (.struct #[f0, f1, f2])) (hone : oneCellFields P #[f0, f1, f2] = true) (hC : P.cellsOf e = 3)
    (h0 : P.underlying f0.type = some .string) (h1 : P.underlying f1.type = some .bool) (h2 : P.underlying f2.type = some .bool) {A : Option Addr} {len cap : Nat} {d : DataW H} {p : List MemPlace}
    (h : DataW.Trod enc P w 0 spare held t (.slice A len cap) d p) :
    ∃ ps : List Pc, ps.length = len ∧ PcsAt w.heap.size w A ps ∧ (ps = [] ∨ ∃ sp, d = .slice (ps.map pcData) sp) := by
  obtain ⟨fuel, hf⟩ := h
  rcases open_slice ht hf with ⟨hcs, _⟩ | ⟨a, l, c, m, n, D, Pl, hcs, _, hl, hm, hmm, hx, hi⟩
  · simp [Value.cells] at hcs
    obtain ⟨rfl, rfl, rfl⟩ := hcs
    exact ⟨[], rfl, fun i t hi => by simp at hi, .inl rfl⟩
  · simp [Value.cells] at hcs
    obtain ⟨rfl, rfl, rfl⟩ := hcs
    have hlm : len ≤ m := by rw [hmm]; split <;> omega
    have hex : ∀ i, ∃ q : Pc, i < len → D i = pcData q ∧ PcCells w (a.add (i * 3)) q := fun i => by
      by_cases hil : i < len
      · obtain ⟨cs', hc, hy⟩ := hi i (by omega)
        rw [hC] at hc
        obtain ⟨q, h3, h4⟩ := open_piece he hone hC h0 h1 h2 hc hy
        exact ⟨q, fun _ => ⟨h3, h4⟩⟩
      · exact ⟨⟨ByteArray.empty, false, false⟩, fun h => absurd h hil⟩
    refine ⟨(List.range len).map fun i => Classical.choose (hex i), by simp, fun i q hq => ?_, .inr ⟨(List.range (m - len)).map fun j => D (len + j), (Prod.mk.inj hx).1.trans ?_⟩⟩
    · have hil : i < len := by have := (List.getElem?_eq_some_iff.1 hq).1; simpa using this
      have hspec := Classical.choose_spec (hex i) hil
      rw [List.getElem?_map, List.getElem?_range hil] at hq
      have hqe : Classical.choose (hex i) = q := by simpa using hq
      rw [hqe] at hspec
      obtain ⟨_, k0, k1, k2, k3⟩ := hspec
      have hsp : a.spot = none := by
        have z := (Classical.choose_spec (hex 0) (by omega)).2.1
        simpa [Addr.add] using World.cell?_spot z
      rw [at_plain _ _ hsp] at k0 k1 k2
      rw [Lib.add_plain] at k1 k2
      refine ⟨a.block, a.off, ?_, blk_lt k0, k0, k1, k2, k3⟩
      obtain ⟨b, o, sp⟩ := a
      obtain rfl : sp = none := hsp
      rfl
    · congr 1
      rw [List.map_map]
      exact List.map_congr_left (fun i hi => (Classical.choose_spec (hex i) (List.mem_range.1 hi)).1)

/-- The reach: the texts' and the list's own. -/
theorem sized_pieces {H : Type} {P : Program} {ts : List TypeId} {ds : List (DataW H)} (h : (DataW.weightsEach P ts ds).all (· ≤ reachBytes) = true) {j : Nat} {t e : TypeId} {f0 f1 f2 : Field} {ps : List Pc} {d : DataW H} (ht : ts[j]? = some t) (hd : ds[j]? = some d) (hu : P.underlying t = some (.slice e))
    (he : P.underlying e = some (.struct #[f0, f1, f2])) (hd' : ps = [] ∨ ∃ sp, d = .slice (ps.map pcData) sp) : ps.length * P.bytesOf e ≤ reachBytes ∧ ∀ p ∈ ps, p.t.size ≤ reachBytes := by
  rcases hd' with rfl | ⟨sp, rfl⟩
  · exact ⟨by simp, fun p hp => by simp at hp⟩
  · constructor
    · have := sized_slice h ht hd hu
      rw [List.length_map] at this
      exact Nat.le_trans (Nat.mul_le_mul_right _ (Nat.le_add_right _ _)) this
    · intro p hp
      have := List.all_eq_true.1 h _ (DataW.weights_mem_each ht hd p.t.data.toList.length (by
        simp only [DataW.weights, hu]
        refine List.mem_cons_of_mem _ (List.mem_append_left _ (weights_mem_all (d := pcData p) (List.mem_map.2 ⟨p, hp, rfl⟩) _ ?_))
        unfold pcData
        simp [DataW.weights, he, DataW.weightsEach]))
      rw [Array.length_toList] at this
      simpa using this
end Go.Proofs.Ytlaidmjlgjpgcaa
