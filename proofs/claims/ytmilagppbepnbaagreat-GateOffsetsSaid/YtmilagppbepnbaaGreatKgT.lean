/- The kernel: what fork does, plain. No condition. -/
import Derived.Test.YtmilagppbepnbaaGreatKgQ
namespace Go.Proofs.YtmilagppbepnbaaGreat.Kn
open Go.RowKit Go.PlainAid
set_option linter.unusedVariables false
set_option linter.unusedSimpArgs false
/-- Each of these names one more. -/
def incL (K : Ker) (l : List (Fin 32 × Int)) : Ker := l.foldl (fun K x => incM K x.2.toNat) K
theorem incL_snoc (K : Ker) (l : List (Fin 32 × Int)) (x : Fin 32 × Int) : incL K (l ++ [x]) = incM (incL K l) x.2.toNat := by unfold incL; rw [List.foldl_append]; rfl
theorem incM_eq (K : Ker) (m : Nat) : (incM K m).fs = K.fs ∧ (incM K m).pipes = K.pipes ∧ (incM K m).procs = K.procs ∧ (incM K m).lastX = K.lastX ∧ (incM K m).lastD = K.lastD ∧ (incM K m).lastR = K.lastR := by
  unfold incM
  split <;> exact ⟨rfl, rfl, rfl, rfl, rfl, rfl⟩
theorem incL_eq (K : Ker) : ∀ l : List (Fin 32 × Int), (incL K l).fs = K.fs ∧ (incL K l).pipes = K.pipes ∧ (incL K l).procs = K.procs ∧ (incL K l).lastX = K.lastX ∧ (incL K l).lastD = K.lastD ∧ (incL K l).lastR = K.lastR := by
  intro l
  induction l generalizing K with
  | nil => exact ⟨rfl, rfl, rfl, rfl, rfl, rfl⟩
  | cons x l ih =>
    obtain ⟨a, b, c, d, e, f⟩ := ih (incM K x.2.toNat)
    obtain ⟨a', b', c', d', e', f'⟩ := incM_eq K x.2.toNat
    show (incL (incM K x.2.toNat) l).fs = _ ∧ _
    exact ⟨a.trans a', b.trans b', c.trans c', d.trans d', e.trans e', f.trans f'⟩
theorem incM_ask {K : Ker} {m : Nat} (j : Nat) {D : Dsc} (h : ask K.descs j = some D) : ask (incM K m).descs j = some (if j = m then { D with refs := D.refs + 1 } else D) := by
  unfold incM
  cases hm : ask K.descs m with
  | none =>
    dsimp only
    rw [if_neg (fun e => by rw [← e, h] at hm; cases hm)]
    exact h
  | some E =>
    show ask (put1 K.descs m _) j = _
    rw [ask_put hm]
    by_cases e : j = m
    · rw [if_pos e, if_pos e]
      rw [e, hm] at h
      cases h
      rfl
    · rw [if_neg e, if_neg e]
      exact h
theorem incL_has {K : Ker} (l : List (Fin 32 × Int)) {j : Nat} {D : Dsc} (h : ask K.descs j = some D) : ∃ n : Nat, n ≤ l.length ∧ ask (incL K l).descs j = some { D with refs := D.refs + n } := by
  induction l generalizing K D with
  | nil => exact ⟨0, Nat.le_refl _, by simp only [Int.natCast_zero, Int.add_zero]; exact h⟩
  | cons x l ih =>
    have h1 := incM_ask (m := x.2.toNat) j h
    by_cases e : j = x.2.toNat
    · rw [if_pos e] at h1
      obtain ⟨n, hn, hk⟩ := ih h1
      refine ⟨n + 1, by simp; omega, ?_⟩
      show ask (incL (incM K x.2.toNat) l).descs j = _
      rw [hk]
      dsimp only
      rw [show D.refs + 1 + (n : Int) = D.refs + ((n + 1 : Nat) : Int) by push_cast; omega]
    · rw [if_neg e] at h1
      obtain ⟨n, hn, hk⟩ := ih h1
      exact ⟨n, by simp; omega, hk⟩
def kidP (K : Ker) (P : Prc) : Prc := ⟨K.lastR + 1, P.num, P.tab, P.dir, P.mask, false, 0⟩
/-- fork: the new process's number, the error, what is left. -/
def forkM (K : Ker) (P : Prc) : Int × Int × Ker :=
  if 24 ≤ K.procs.length then (0, 11, K)
  else ((K.lastR : Int) + 1, 0, putR (setF (incL K (Pp.upto P.tab 32)) (HoldM K.fs P.dir).2) (kidP K P))
theorem setR_put {K : Ker} (hn : ∀ p ∈ K.procs, 1 ≤ p.1 ∧ p.1 ≤ K.lastR) (P Q : Prc) : setR (putR K P) (K.lastR + 1) Q = putR K Q := by
  unfold setR putR put1
  dsimp only
  rw [List.map_append]
  have : K.procs.map (fun p => if p.1 = K.lastR + 1 then (K.lastR + 1, Q) else p) = K.procs := by
    conv => rhs; rw [← List.map_id K.procs]
    refine List.map_congr_left (fun p hp => ?_)
    rw [if_neg (by have := (hn p hp).2; omega)]
    rfl
  rw [this]
  simp
end Go.Proofs.YtmilagppbepnbaaGreat.Kn
