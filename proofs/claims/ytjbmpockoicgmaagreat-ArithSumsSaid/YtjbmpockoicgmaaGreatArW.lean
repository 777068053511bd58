/- The worker over numbers: the four functions at whatever fuel; a text's tokens as a row; work. Condition: the maker lies as stated, the text is short. -/
import Derived.Test.YtjbmpockoicgmaaGreatArV
import Derived.Maps.OwnIn
namespace Go.Proofs.YtjbmpockoicgmaaGreat.I
open Go.RowKit Go.Shelf Go.PlainAid
set_option linter.unusedVariables false
set_option linter.unusedSimpArgs false
attribute [local go_sem] Oper.semAt_some

theorem all_w (b G np : Nat) : ∀ f, (∀ g, g ≤ f → CB b G np g) ∧ CA b G np f ∧ CC b G np f ∧ CO b G np f
  | 0 => ⟨fun g hg S w s r _ _ _ h => by omega, fun S w s _ _ h => by omega, fun S w s _ _ h => by omega, fun S w s _ _ h => by omega⟩
  | f + 1 => by
    obtain ⟨hb, ha, hc, ho⟩ := all_w b G np f
    refine ⟨fun g hg => ?_, asg_w ha hc, cho_w ha hc (hb f (Nat.le_refl _)), opd_w ha ho⟩
    by_cases e : g = f + 1
    · subst e
      exact bin_w ho hb
    · exact hb g (by omega)
theorem assignment_any (b G np : Nat) (S : Nat → Prop) (w : World) (s : Ws Nm) (h : At b G np S w s) (hD : D2 s) : Calls Tryz.prog 18 #[ptr b] w (Post b G np S w (go NM (6 * s.toks.length + 5) .asg s)) :=
  (all_w b G np (6 * s.toks.length + 5)).2.1 S w s h hD (Nat.le_refl _)
theorem infoTk : (Tryz.prog.info? 64).map (fun i => (i.zero, i.size, i.bytes)) = some (some (.agg #[.int .i64 0, .string ⟨#[]⟩, .int .i64 0]), 3, 32) := by kernel_rfl
theorem tcs_all (l : List Tk) : ∀ u ∈ flat tcs l, u.oneCell' = true := flat_one tcs_one l

/-- What the tokens' loop holds. -/
structure WkI (b p np : Nat) (w : World) (T : List Nat) (pre : List Tk) (W : World) : Prop where
  below : Below w.heap.size w W
  ts : ∀ k ∈ T, w.heap.size ≤ k ∧ k ≠ b ∧ k ≠ p ∧ k < W.heap.size
  vp : Blk W p 56 #[ptr b]
  row : ∃ v, Blk W b 59 #[mv np, v, .int .i64 0, .int .i64 0, .int .i64 0] ∧ W.ownsRow w.heap.size 64 3 v pre.length (flat tcs pre) ∧ ∀ g, v.ownBlock = some g → g ∉ T
theorem wk_abide {b p np : Nat} {w : World} : Abide (WkI b p np w) := fun T T' pre A B h he => by
  obtain ⟨hbel, hts, hvp, v, hb, hrow, hv⟩ := h
  have hbT : b ∉ T := fun e => (hts b e).2.1 rfl
  have hpT : p ∉ T := fun e => (hts p e).2.2.1 rfl
  refine ⟨⟨he.os.trans hbel.os, he.tape.trans hbel.tape, he.output.trans hbel.output, Nat.le_trans hbel.size he.size, fun g hg => (he.block g (Nat.lt_of_lt_of_le hg hbel.size) (fun e => by have := (hts g e).1; omega)).trans (hbel.block g hg)⟩, fun k hk => ?_, (he.block p hvp.lt hpT).trans hvp, v, (he.block b hb.lt hbT).trans hb, row_keep hrow (fun g hg => he.block g (row_lt hrow hg) (hv g hg)), fun g hg hm => ?_⟩
  · rcases he.new k hk with h5 | h5
    · have := hts k h5
      exact ⟨this.1, this.2.1, this.2.2.1, Nat.lt_of_lt_of_le this.2.2.2 he.size⟩
    · have h1 := hb.lt
      have h2 := hvp.lt
      have h3 := hbel.size
      exact ⟨by omega, by omega, by omega, h5.2⟩
  · rcases he.new g hm with h5 | h5
    · exact hv g hg h5
    · have := row_lt hrow hg
      omega
section
variable {b p np : Nat} {w : World}
/-- A row of tokens is what a slice reads as. -/
theorem tk_of_row {W : World} {base : Nat} {v : Value} {l : List Tk} (h : W.ownsRow base 64 3 v l.length (flat tcs l)) (hl : l.length ≤ 200000) (ht : ∀ t ∈ l, t.text.size ≤ 100000 ∧ -9223372036854775808 ≤ t.num ∧ t.num ≤ 9223372036854775807) :
    ∃ a c G, v = .slice a l.length c ∧ TkAt G W a c l ∧ (l ≠ [] → base ≤ G ∧ G < W.heap.size ∧ v.ownBlock = some G) := by
  rcases h.2 with ⟨rfl, h0⟩ | ⟨g, cap, cur, rfl, hg0, hg, hc, _, hs, htk⟩
  · obtain rfl : l = [] := List.eq_nil_of_length_eq_zero h0
    exact ⟨none, 0, 0, rfl, TkAt.nil _ _ _ _, fun e => absurd rfl e⟩
  · refine ⟨_, cap, g, rfl, ⟨hc, hl, ht, fun _ => ⟨0, rfl, fun i t hi => ?_⟩⟩, fun _ => ⟨hg0, (Array.getElem?_eq_some_iff.1 hg).1, rfl⟩⟩
    have key : ∀ j u, (tcs t)[j]? = some u → j < 3 → W.cell? ⟨g, i * 3 + j, none⟩ = some u := fun j u hj hj3 => by
      have hlt : i * 3 + j < l.length * 3 := by
        have := (List.getElem?_eq_some_iff.1 hi).1
        omega
      have e := cell_of_row W g (i * 3 + j) cur 64 (0, 0) hg
      have e2 := flat_get (k := 3) tcs_len hi j hj3
      rw [← htk, List.getElem?_take_of_lt hlt, Array.getElem?_toList] at e2
      exact (e.trans e2).trans hj
    rw [Nat.zero_add]
    exact ⟨key 0 _ rfl (by decide), key 1 _ rfl (by decide), key 2 _ rfl (by decide)⟩
end
end Go.Proofs.YtjbmpockoicgmaaGreat.I
