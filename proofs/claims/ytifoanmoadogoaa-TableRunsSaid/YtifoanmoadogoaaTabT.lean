/- A list of calls of a table that came in: its elements' fields in memory. No condition. -/
import Derived.Test.YtifoanmoadogoaaTabS
import Derived.Deep.Slices
import Derived.OpenShut
import Derived.ProofKit
namespace Go.Proofs.Ytifoanmoadogoaa
open Go.ChangeShapes Go.WideShapes Go.RowKit Go.Deep

/-- The slice value A, of len calls, all below block n0: each call's four fields. -/
def CallsT (n0 : Nat) (w : World) (A : Option Addr) (len : Nat) : Prop :=
  ∀ i, i < len → ∃ (b off : Nat) (c x d : Int) (o : Bool), A = some ⟨b, off, none⟩ ∧ b < n0 ∧
    w.cell? ⟨b, off + i * 4, none⟩ = some (.int .i64 c) ∧ w.cell? ⟨b, off + i * 4 + 1, none⟩ = some (.int .i64 x) ∧ w.cell? ⟨b, off + i * 4 + 2, none⟩ = some (.int .i64 d) ∧ w.cell? ⟨b, off + i * 4 + 3, none⟩ = some (.bool o)
theorem CallsT.below {n0 len : Nat} {w w' : World} {A : Option Addr} (h : CallsT n0 w A len) (hb : Below n0 w w') : CallsT n0 w' A len := by
  intro i hi
  obtain ⟨b, off, c, x, d, o, hA, hlt, h0, h1, h2, h3⟩ := h i hi
  exact ⟨b, off, c, x, d, o, hA, hlt, (hb.cell hlt).trans h0, (hb.cell hlt).trans h1, (hb.cell hlt).trans h2, (hb.cell hlt).trans h3⟩
theorem four_t {α : Type} (l : List α) (h : l.length = 4) : ∃ a b c d, l = [a, b, c, d] := by
  match l, h with
  | [a, b, c, d], _ => exact ⟨a, b, c, d, rfl⟩
theorem addr_t (a : Addr) (k : Nat) (hs : a.spot = none) : a.add k = ⟨a.block, a.off + k, none⟩ := by
  unfold Addr.add
  obtain ⟨b, o, s⟩ := a
  obtain rfl : s = none := hs
  split <;> simp_all

theorem open_callsT {H : Type} {enc : TypeId × Value → H} {w : World} {d : DataW H} {p : List MemPlace} {A : Option Addr} {len cap : Nat}
    (h : DataW.Trod enc Try.prog w 0 (fun _ => true) true 53 (.slice A len cap) d p) : CallsT w.heap.size w A len ∧ len ≤ maxLen := by
  obtain ⟨fuel, hf⟩ := h
  rcases open_slice Try.underlying53 hf with ⟨hcs, _⟩ | ⟨a, l, c, m, n, D, Pl, hcs, _, hl, hm, hmm, _, hi⟩
  · simp [Value.cells] at hcs
    obtain ⟨rfl, rfl, rfl⟩ := hcs
    exact ⟨fun i hi => absurd hi (by omega), by omega⟩
  · simp [Value.cells] at hcs
    obtain ⟨rfl, rfl, rfl⟩ := hcs
    simp only [if_true] at hmm
    subst hmm
    have hC : Try.prog.cellsOf 65 = 4 := by kernel_rfl
    have k3 : Try.prog.cellsOf 3 = 1 := by kernel_rfl
    have k4 : Try.prog.cellsOf 4 = 1 := by kernel_rfl
    simp only [hC] at hi
    refine ⟨fun i hil => ?_, by omega⟩
    have hsp : a.spot = none := by
      obtain ⟨cs', hc, _⟩ := hi 0 (by omega)
      obtain ⟨_, hcl, hat⟩ := World.cells?_some hc
      obtain ⟨x0, x1, x2, x3, rfl⟩ := four_t cs' hcl
      have := World.cell?_spot (hat 0 (by omega))
      simpa [Addr.add] using this
    obtain ⟨cs', hc, ht⟩ := hi i (by omega)
    obtain ⟨_, hcl, hat⟩ := World.cells?_some hc
    obtain ⟨x0, x1, x2, x3, rfl⟩ := four_t cs' hcl
    obtain ⟨xs, n', _, _, _, hxl, hg⟩ := DataW.trod_struct Try.underlying65 ht
    obtain ⟨y0, y1, y2, y3, rfl⟩ := four_t xs hxl
    have g0 : DataW.trod enc Try.prog w 0 (fun _ => true) true n' 3 ((([x0, x1, x2, x3] : List Value).drop 0).take (Try.prog.cellsOf 3)) = some y0 := hg 0 _ rfl
    have g1 : DataW.trod enc Try.prog w 0 (fun _ => true) true n' 3 ((([x0, x1, x2, x3] : List Value).drop 1).take (Try.prog.cellsOf 3)) = some y1 := hg 1 _ rfl
    have g2 : DataW.trod enc Try.prog w 0 (fun _ => true) true n' 3 ((([x0, x1, x2, x3] : List Value).drop 2).take (Try.prog.cellsOf 3)) = some y2 := hg 2 _ rfl
    have g3 : DataW.trod enc Try.prog w 0 (fun _ => true) true n' 4 ((([x0, x1, x2, x3] : List Value).drop 3).take (Try.prog.cellsOf 4)) = some y3 := hg 3 _ rfl
    rw [k3] at g0 g1 g2
    rw [k4] at g3
    obtain ⟨c, e0, _, _⟩ := DataW.trod_int Try.underlying3 g0
    obtain ⟨v, e1, _, _⟩ := DataW.trod_int Try.underlying3 g1
    obtain ⟨u, e2, _, _⟩ := DataW.trod_int Try.underlying3 g2
    obtain ⟨s, e3, _⟩ := DataW.trod_bool Try.underlying4 g3
    simp only [List.drop_zero, List.drop_succ_cons, List.take_succ_cons, List.take_zero, List.cons.injEq, and_true] at e0 e1 e2 e3
    subst e0 e1 e2 e3
    have h0 := hat 0 (by omega)
    have h1 := hat 1 (by omega)
    have h2 := hat 2 (by omega)
    have h3 := hat 3 (by omega)
    rw [add_add, addr_t _ _ hsp] at h0 h1 h2 h3
    refine ⟨a.block, a.off, c, v, u, s, ?_, ?_, by simpa using h0, ?_, ?_, ?_⟩
    · obtain ⟨b, o, sp⟩ := a
      obtain rfl : sp = none := hsp
      rfl
    · exact block_of_cell (a := ⟨a.block, a.off + (i * 4 + 0), none⟩) h0
    · rw [Nat.add_assoc]; exact h1
    · rw [Nat.add_assoc]; exact h2
    · rw [Nat.add_assoc]; exact h3

theorem rowP_at {w : World} {b n c : Nat} {e : TypeId} {a : Option Addr} {xs : List Nat} {N : Nat} (h : w.ownsRow b e 1 (.slice a N c) n (xs.map fun x => .pointer (some ⟨x, 0, none⟩))) {k x : Nat} (hx : xs[k]? = some x) (hk : k < n) : ∃ g, a = some ⟨g, 0, none⟩ ∧ w.cell? ⟨g, k, none⟩ = some (.pointer (some ⟨x, 0, none⟩)) := by
  rcases h.2 with ⟨_, h0⟩ | ⟨g, cap, cur, e1, hg0, hg, hc, _, hs, htk⟩
  · omega
  · refine ⟨g, by simp at e1; exact e1.1, ?_⟩
    have : (cur.toList.take (n * 1))[k]? = some (Value.pointer (some ⟨x, 0, none⟩)) := by rw [htk, List.getElem?_map, hx]; rfl
    rw [List.getElem?_take_of_lt (by omega), Array.getElem?_toList] at this
    exact (Blk.cell (show Blk w g e cur from hg) k).trans this
end Go.Proofs.Ytifoanmoadogoaa
