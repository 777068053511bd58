/- What a text within parentheses is worth. No condition. -/
import Derived.Test.YtjbmpockoicgmaaGreatPrB
import Derived.Test.YtjbmpockoicgmaaGreatEvB
namespace Go.Proofs.YtjbmpockoicgmaaGreat
open Go.RowKit Go.Shelf Go.PlainAid
set_option linter.unusedVariables false
set_option linter.unusedSimpArgs false
theorem failM_ms' (e : Int) (s : Ws Nm) : (failM e s).ms = s.ms := by unfold failM; split <;> rfl
theorem blanks_all (s : ByteArray) : ∀ f n, s.size - n ≤ f → n ≤ s.size → (∀ j, n ≤ j → j < s.size → blankB (bt s j) = true) → blanks s f n = s.size
  | 0, n, h1, h2, _ => by unfold blanks; omega
  | f + 1, n, h1, h2, h3 => by
    unfold blanks
    by_cases hn : n < s.size
    · rw [if_pos ⟨hn, h3 n (Nat.le_refl _) hn⟩]
      exact blanks_all s f (n + 1) (by omega) (by omega) (fun j hj hs => h3 j (by omega) hs)
    · rw [if_neg (fun e => hn e.1)]; omega
theorem blanks_stop (s : ByteArray) : ∀ f n j, n ≤ j → j < s.size → blankB (bt s j) = false → blanks s f n ≤ j
  | 0, n, j, h1, _, _ => by unfold blanks; exact h1
  | f + 1, n, j, h1, h2, h3 => by
    unfold blanks
    split
    · rename_i h
      by_cases e : n = j
      · subst e; rw [h3] at h; exact absurd h.2 (by decide)
      · exact blanks_stop s f (n + 1) j (by omega) h2 h3
    · exact h1
/-- All of a text is blank. -/
def Blank (s : ByteArray) : Prop := ∀ j, j < s.size → blankB (bt s j) = true
theorem toks_blank {s : ByteArray} (h : Blank s) : toksM s = [tk0] := by
  have h1 := blanks_all s s.size 0 (by omega) (Nat.zero_le _) (fun j _ hj => h j hj)
  have ht : tokAt s 0 = tk0 := by
    unfold tokAt
    rw [h1]
    unfold tokM
    rw [if_pos (by rw [ByteArray.size_extract]; omega)]
  unfold toksM toksF
  rw [ht]
  rfl
theorem blank_no {s : ByteArray} (h : ¬ Blank s) : tokAt s 0 ≠ tk0 := by
  have : ∃ j, j < s.size ∧ blankB (bt s j) = false := Classical.byContradiction fun k => h fun j hj => by
    cases hb : blankB (bt s j) with
    | true => rfl
    | false => exact absurd ⟨j, hj, hb⟩ k
  obtain ⟨j, hj, hb⟩ := this
  have h1 := blanks_stop s s.size 0 j (Nat.zero_le _) hj hb
  intro e
  unfold tokAt at e
  exact tok_kind0 (t := s.extract (blanks s s.size 0) s.size) (by rw [ByteArray.size_extract]; omega) (by rw [e]; rfl)
theorem blank_eval {s : ByteArray} (h : Blank s) (L : List Vr) : evalM s L = (0, [], 0) ∧ evalM (parT s) L = (0, [], 60) := by
  have ht := toks_blank h
  have hw : ∀ (T σ : Type) (M : Mk T σ) (m : σ), workM M [tk0] m = (M.number 0, 0, m) := fun T σ M m => rfl
  have hc : chkM s = 0 := by unfold chkM; rw [ht, hw]
  have hk : (wrkM s L).2.1 = 0 := by unfold wrkM; rw [ht, hw]
  obtain ⟨p, x, q1, q2, q3, q4⟩ := toksM_par s
  rw [ht] at q1
  have hp : p = [] ∧ x = tk0 := by
    cases p with
    | nil => simp at q1; exact ⟨rfl, q1.symm⟩
    | cons a p => simp at q1
  have ht2 := q4 hp.2
  rw [hp.1] at ht2
  have hc2 : chkM (parT s) = 60 := by
    unfold chkM
    rw [ht2]
    kernel_rfl
  refine ⟨?_, ?_⟩
  · rw [eval_ok hc hk]
    unfold wrkM
    rw [ht, hw]
    dsimp only
    rw [show (NM.number 0).1 = 0 from mkI_in (by omega)]
  · rw [eval_bad (by rw [hc2]; decide), hc2]
theorem eval_cases (s : ByteArray) (L : List Vr) : ∃ c k v S, chkM s = c ∧ (wrkM s L).2.1 = k ∧ (wrkM s L).1.1 = v ∧ (wrkM s L).2.2.sets = S ∧ evalM s L = if c ≠ 0 then (0, [], c) else if k ≠ 0 then (0, [], k) else (v, S, 0) := ⟨_, _, _, _, rfl, rfl, rfl, rfl, rfl⟩
theorem eval_zero {s : ByteArray} {L : List Vr} (h : (evalM s L).2.2 = 0) : chkM s = 0 ∧ (wrkM s L).2.1 = 0 := by
  obtain ⟨c, k, v, S, h1, h2, _, _, h3⟩ := eval_cases s L
  rw [h1, h2]
  rw [h3] at h
  clear h1 h2 h3
  by_cases hc : c = 0
  · rw [if_neg (fun e => e hc)] at h
    by_cases hk : k = 0
    · exact ⟨hc, hk⟩
    · rw [if_pos hk] at h
      exact absurd h hk
  · rw [if_pos hc] at h
    exact absurd h hc
theorem eval_none {s : ByteArray} {L : List Vr} (h : (evalM s L).2.2 ≠ 0) : (evalM s L).1 = 0 ∧ (evalM s L).2.1 = [] := by
  obtain ⟨c, k, v, S, _, _, _, _, h3⟩ := eval_cases s L
  rw [h3] at h ⊢
  clear h3
  by_cases hc : c = 0
  · rw [if_neg (fun e => e hc)] at h ⊢
    by_cases hk : k = 0
    · rw [if_neg (fun e => e hk)] at h
      exact absurd rfl h
    · rw [if_pos hk]
      exact ⟨rfl, rfl⟩
  · rw [if_pos hc]
    exact ⟨rfl, rfl⟩
theorem work_tk4 : (workM F.NM [tk4] ()).2.1 = 60 := by kernel_rfl
theorem par_work {T σ : Type} (M : Mk T σ) (m : σ) {l l' p : List Tk} {x : Tk} (q1 : l = p ++ [x]) (hp : p ≠ []) (hall : ∀ t ∈ p, t.kind ≠ 0 ∧ t.kind ≠ 4) (hk : x.kind = 0 ∨ x.kind = 4) (hx : x.text = noT) (q4 : x.kind = 0 → l' = lpT :: (p ++ rpT :: [tk0])) (h : (workM M l m).2.1 = 0) :
    x.kind = 0 ∧ ((workM M l' m).2.1 = 52 ∨ workM M l' m = workM M l m) := by
  subst q1
  have h1 := work_par M hp hall hk hx h
  rw [q4 h1.1]
  exact h1
theorem par_eval {s : ByteArray} (hb : ¬ Blank s) (L : List Vr) (h : (evalM s L).2.2 = 0) : evalM (parT s) L = (0, [], 52) ∨ evalM (parT s) L = evalM s L := by
  obtain ⟨hc, hk⟩ := eval_zero h
  obtain ⟨p, x, q1, q2, q3, q4⟩ := toksM_par s
  have hx : x.kind = 0 ∨ x.kind = 4 := by rcases q2 with rfl | rfl <;> decide
  have hxt : x.text = noT := by rcases q2 with rfl | rfl <;> rfl
  have q5 : x.kind = 0 → toksM (parT s) = lpT :: (p ++ rpT :: [tk0]) := fun hx0 => q4 (by
    rcases q2 with e | e
    · exact e
    · rw [e] at hx0; exact absurd hx0 (by decide))
  have hft : tokAt s 0 ≠ tk0 := blank_no hb
  have hp : p ≠ [] := by
    rintro rfl
    have ht : toksM s = [x] := q1
    rcases q2 with rfl | rfl
    · apply hft
      have e : toksM s = if lastTk (tokAt s 0) then [tokAt s 0] else tokAt s 0 :: toksF s s.size (blanks s s.size 0 + (tokAt s 0).text.size) := rfl
      rw [ht] at e
      split at e
      · exact (List.cons.inj e).1.symm
      · exact (List.cons.inj e).1.symm
    · have e : chkM s = (workM F.NM (toksM s) ()).2.1 := rfl
      rw [e, ht, work_tk4] at hc
      exact absurd hc (by decide)
  have eC : ∀ s, chkM s = (workM F.NM (toksM s) ()).2.1 := fun _ => rfl
  have eW : ∀ s, wrkM s L = workM NM (toksM s) ⟨L, fun _ => none, []⟩ := fun _ => rfl
  obtain ⟨l, hl⟩ : ∃ l, toksM s = l := ⟨_, rfl⟩
  obtain ⟨l', hl'⟩ : ∃ l', toksM (parT s) = l' := ⟨_, rfl⟩
  have c1 := eC s
  have c2 := eC (parT s)
  have w1 := eW s
  have w2 := eW (parT s)
  rw [hl] at c1 w1 q1
  rw [hl'] at c2 w2 q5
  obtain ⟨K1, hK1⟩ : ∃ K, chkM s = K := ⟨_, rfl⟩
  obtain ⟨K2, hK2⟩ : ∃ K, chkM (parT s) = K := ⟨_, rfl⟩
  obtain ⟨W1, hW1⟩ : ∃ W, wrkM s L = W := ⟨_, rfl⟩
  obtain ⟨W2, hW2⟩ : ∃ W, wrkM (parT s) L = W := ⟨_, rfl⟩
  have h1 := par_work F.NM () q1 hp q3 hx hxt q5
  have h2 := par_work NM ⟨L, fun _ => none, []⟩ q1 hp q3 hx hxt q5
  rw [← w1, ← w2, hW1, hW2] at h2
  rw [hW1] at hk
  rw [← c1, ← c2, hK1, hK2] at h1
  rw [hK1] at hc
  have h1 := (h1 hc).2
  have h2 := (h2 hk).2
  have k1 := eval_ok (s := s) (L := L) (by rw [hK1]; exact hc) (by rw [hW1]; exact hk)
  rw [k1, hW1]
  by_cases hK : K2 = 0
  · rcases h2 with h4 | h4
    · left
      rw [eval_err (by rw [hK2]; exact hK) (by rw [hW2, h4]; decide), hW2, h4]
    · right
      rw [eval_ok (by rw [hK2]; exact hK) (by rw [hW2, h4]; exact hk), hW2, h4]
  · left
    rcases h1 with h3 | h3
    · rw [eval_bad (by rw [hK2]; exact hK), hK2, h3]
    · have h3 := congrArg (fun r : F.I64 × Int × F.Nm => r.2.1) h3
      exact absurd ((hK2.symm.trans c2).trans (h3.trans (c1.symm.trans (hK1.trans hc)))) hK
theorem fin_ms (s : Ws Nm) : (if (peekM s).kind = 0 then s else failM 60 s).ms = s.ms := by
  split
  · rfl
  · exact failM_ms' 60 s
theorem work_sets (l : List Tk) (m : Nm) (hm : m.sets.length = 0) : (workM NM l m).2.2.sets.length ≤ l.length := by
  have hl := (go_le (fun m : Nm => m.sets.length) NM (fun m nm x => by show (m.sets ++ [(nm, x)]).length ≤ _; simp) (6 * l.length + 5) .asg ⟨l, 0, 0, 0, m⟩).sets
  dsimp only at hl
  rw [hm] at hl
  obtain ⟨r, hr⟩ : ∃ r, go NM (6 * l.length + 5) .asg ⟨l, 0, 0, 0, m⟩ = r := ⟨_, rfl⟩
  rw [hr] at hl
  unfold workM
  rw [hr]
  split
  · dsimp only; omega
  · dsimp only
    rw [fin_ms]
    omega
theorem sets_len (s : ByteArray) (L : List Vr) : (evalM s L).2.1.length ≤ s.size + 1 := by
  obtain ⟨c, k, v, S, _, _, _, h4, h5⟩ := eval_cases s L
  have hS : S.length ≤ s.size + 1 := by
    have e : wrkM s L = workM NM (toksM s) ⟨L, fun _ => none, []⟩ := rfl
    have hll : (toksM s).length ≤ s.size + 1 := by unfold toksM; exact toksF_len s (s.size + 1) 0
    obtain ⟨l, hl⟩ : ∃ l, toksM s = l := ⟨_, rfl⟩
    rw [hl] at e hll
    have hw := work_sets l ⟨L, fun _ => none, []⟩ rfl
    rw [← e, h4] at hw
    exact Nat.le_trans hw hll
  rw [h5]
  split
  · exact Nat.zero_le _
  · split
    · exact Nat.zero_le _
    · exact hS
end Go.Proofs.YtjbmpockoicgmaaGreat
