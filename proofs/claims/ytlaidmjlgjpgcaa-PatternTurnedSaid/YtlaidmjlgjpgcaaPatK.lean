/- Toward Of: the text as a pattern, plainly; make; rows as patterns. Condition: lengths. -/
import Derived.Test.YtlaidmjlgjpgcaaPatJ
namespace Go.Proofs.Ytlaidmjlgjpgcaa
open Go.RowKit
attribute [local go_sem] Oper.semAt_some

theorem make_chs (m n : Nat) (hmn : m ≤ n) (hn : n ≤ 1000000) (w : World) : ∃ cur : Array Value, cur.size = n * 2 ∧ (Instr.makeSlice 22 (.int .i64 (m : Int)) (.int .i64 (n : Int))).run Try.prog w = .ok (.slice (some ⟨w.heap.size, 0, none⟩) m n) (w.alloc (.cells cur 33)) := by
  obtain ⟨i0, hi, hz0, hz1, hz2⟩ := info_parts info33
  have hb : (i0.bytes : Int) * (n : Int) ≤ 281474976710656 := by rw [hz2]; omega
  have hr := run_make (P := Try.prog) w 22 33 i0 _ Try.underlying22 hi hz0 .i64 .i64 m n (by omega) (by omega) hb (by omega)
  simp only [Int.toNat_natCast] at hr
  exact ⟨_, by simp [madeCells, hz1], hr⟩
/-- A text with backslashes, as a pattern. -/
def ofL : List UInt8 → List Ch
  | [] => []
  | [c] => [(c, c == 92)]
  | c :: d :: t => if c = 92 then (d, true) :: ofL t else (c, false) :: ofL (d :: t)
theorem ofL_last (c : UInt8) : ofL [c] = [(c, c == 92)] := rfl
theorem ofL_take (d : UInt8) (t : List UInt8) : ofL (92 :: d :: t) = (d, true) :: ofL t := by rw [ofL, if_pos rfl]
theorem ofL_plain {c : UInt8} (h : c ≠ 92) (t : List UInt8) : ofL (c :: t) = (c, false) :: ofL t := by
  cases t with
  | nil => rw [ofL_last, beq_eq_false_iff_ne.2 h]; rfl
  | cons d t => rw [ofL, if_neg h]
theorem own_chs {n₀ : Nat} {W : World} {v : Value} {l : List Ch} (h : W.ownsRow n₀ 33 2 v l.length (chv l)) : ∃ av cv, v = .slice av l.length cv ∧ ChsAt W.heap.size W av l := by
  have hc := @World.ownsRow.cells _ _ _ _ _ _ _ h
  rcases h.2 with ⟨rfl, h0⟩ | ⟨g, cap, cur, rfl, _, hb, _⟩
  · exact ⟨none, 0, by rw [h0], fun i x hx => by have := (List.getElem?_eq_some_iff.1 hx).1; omega⟩
  · refine ⟨_, _, rfl, fun i x hx => ?_⟩
    have a0 := hc (g := g) rfl _ _ (chv_get hx).1
    have a1 := hc (g := g) rfl _ _ (chv_get hx).2
    rw [Lib.add_plain] at a0 a1
    exact ⟨g, 0, rfl, (Array.getElem?_eq_some_iff.1 hb).1, a0, a1⟩
def OfR (l : List Ch) (w : World) (e : Ending) (w' : World) : Prop := Below w.heap.size w w' ∧ ∃ v, e = .returned v ∧ w'.ownsRow w.heap.size 33 2 v l.length (chv l)

end Go.Proofs.Ytlaidmjlgjpgcaa
