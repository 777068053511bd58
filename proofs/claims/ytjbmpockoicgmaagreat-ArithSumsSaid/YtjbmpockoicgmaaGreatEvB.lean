/- What texts are worth, reckoned; awake. No condition. -/
import Derived.Test.YtjbmpockoicgmaaGreatEvA
namespace Go.Proofs.YtjbmpockoicgmaaGreat
open Go.RowKit Go.Shelf Go.PlainAid
set_option linter.unusedVariables false
set_option linter.unusedSimpArgs false
attribute [local go_sem] Oper.semAt_some

theorem eval_awake : evalM ⟨#[120, 61, 49, 43, 50, 42, 51]⟩ [] = (7, [(⟨#[120]⟩, ⟨7, by omega⟩)], 0) := by kernel_rfl
/-- What a row of assignments reads as. -/
theorem set_of_row {W : World} {base : Nat} {v : Value} {l : List (ByteArray × I64)} (h : W.ownsRow base 37 2 v l.length (flat scs l)) :
    ∃ a c, v = .slice a l.length c ∧ l.length ≤ c ∧ (l ≠ [] → ∃ g, a = some ⟨g, 0, none⟩ ∧ ∀ i x, l[i]? = some x → W.cell? ⟨g, i * 2, none⟩ = some (.string x.1) ∧ W.cell? ⟨g, i * 2 + 1, none⟩ = some (.int .i64 x.2.1)) := by
  rcases h.2 with ⟨rfl, h0⟩ | ⟨g, cap, cur, rfl, hg0, hg, hc, _, hs, htk⟩
  · obtain rfl : l = [] := List.eq_nil_of_length_eq_zero h0
    exact ⟨none, 0, rfl, Nat.le_refl _, fun e => absurd rfl e⟩
  · refine ⟨_, cap, rfl, hc, fun _ => ⟨g, rfl, fun i t hi => ?_⟩⟩
    have key : ∀ j u, (scs t)[j]? = some u → j < 2 → W.cell? ⟨g, i * 2 + j, none⟩ = some u := fun j u hj hj3 => by
      have hlt : i * 2 + j < l.length * 2 := by
        have := (List.getElem?_eq_some_iff.1 hi).1
        omega
      have e := cell_of_row W g (i * 2 + j) cur 37 (0, 0) hg
      have e2 := flat_get (k := 2) scs_len hi j hj3
      rw [← htk, List.getElem?_take_of_lt hlt, Array.getElem?_toList] at e2
      exact (e.trans e2).trans hj
    exact ⟨key 0 _ rfl (by decide), key 1 _ rfl (by decide)⟩
theorem vat_nil (S : Nat → Prop) (w : World) (a : Option Addr) : VAt S w a [] := ⟨by simp, fun v h => by simp at h, fun h => absurd rfl h⟩
set_option maxRecDepth 100000 in
set_option maxHeartbeats 4000000 in
theorem awake_in (n : Nat) (hn : 6 ≤ n) (w : World) : CallsIn Fence.wide n Tryz.prog 7 #[] w fun e w' => e = .returned (.bool true) ∧ Below w.heap.size w w' := by
  have h1 : 1 ≤ n := by omega
  have hev := Lib.hid (eval_in (n - 1) (by omega) w ⟨#[120, 61, 49, 43, 50, 42, 51]⟩ (by decide) none 0 [] (Nat.le_refl _) (vat_nil _ _ _))
  rw [eval_awake] at hev
  refine callsIn_of_wp Tryz.func7 rfl trivial ?_ rfl
  simp only [Tryz.ntmps7, List.size_toArray, List.length_cons, List.length_nil, Nat.reduceAdd, Nat.reduceSub, Array.replicate_succ, Array.replicate_zero, List.push_toArray, List.append_toArray, List.nil_append, List.cons_append]
  gi_wp2_with (refine ⟨trivial, ?_⟩; gi_at_call 8; refine hev.out.mono ?_; rintro e w2 ⟨sv, rfl, hrow, hb⟩; obtain ⟨a, c, rfl, hc, hcell⟩ := set_of_row hrow; obtain ⟨g, rfl, hg⟩ := hcell (by simp); have k0 : w2.cell? ⟨g, 0, none⟩ = some (.string ⟨#[120]⟩) := (hg 0 _ rfl).1; have k1 : w2.cell? ⟨g, 1, none⟩ = some (.int .i64 7) := (hg 0 _ rfl).2; have hbH := Lib.hid hb; clear hb hg hcell hrow)
  go_ret
  exact ⟨rfl, hbH.out⟩
end Go.Proofs.YtjbmpockoicgmaaGreat
