/- An own law of regions that draw their order and end in a phase of their own ('x.f = append(..)', where x.f is read): what reads may be taken first where a condition on the world holds as long as the last phase has not begun. No condition. -/
import Derived.OrdersHeld
import Derived.RegionTactic
namespace Go.Proofs.YtjbmpockoicgmaaGreat
variable {P : Program} {ops : Array Oper} {Q : Exit → Act → World → Prop} {md : Region.Mode} {S : World → Prop} {stop : Nat}

/-- Whatever comes up next; the condition is shown anew behind what comes ahead of the last phase. -/
def Phased (P : Program) (md : Region.Mode) (ops : Array Oper) (Q : Exit → Act → World → Prop) (S : World → Prop) (stop : Nat) : Nat → Array Bool → Act → World → Prop
  | 0, listed, a, w => wpAny P md ops Q 0 listed a w
  | k + 1, listed, a, w => (Region.ready md ops listed = [] → Q .normal a w) ∧ ∀ i ∈ Region.ready md ops listed, wpOp P ops Q i (fun b v => (i < stop → S v) ∧ Phased P md ops Q S stop k (listed.setIfInBounds i true) b v) a w

theorem phased_any : ∀ (k : Nat) (listed : Array Bool) (a : Act) (w : World), Phased P md ops Q S stop k listed a w → wpAny P md ops Q k listed a w
  | 0, _, _, _, h => h
  | k + 1, _, _, _, h => ⟨h.1, fun i hi => wpOp_mono (fun b v hb => phased_any k _ b v hb.2) (h.2 i hi)⟩

/-- In the last phase the condition is asked no more. -/
theorem phased_of_any : ∀ (k : Nat) (listed : Array Bool) (a : Act) (w : World), (∀ i, i < stop → listed.getD i true = true) → wpAny P md ops Q k listed a w → Phased P md ops Q S stop k listed a w
  | 0, _, _, _, _, h => h
  | k + 1, listed, a, w, hl, h => ⟨h.1, fun i hi => by
    have hun := (mem_ready.1 hi).1
    have hge : ¬ i < stop := fun g => by rw [hl i g] at hun; cases hun
    refine wpOp_mono (fun b v hb => ⟨fun g => absurd g hge, phased_of_any k _ b v (fun j hj => ?_) hb⟩) (h.2 i hi)
    rw [getD_set_ne true (fun e => hge (by omega))]
    exact hl j hj⟩

theorem phased_first {i : Nat} {oi : Oper} {v : Value} (hi : ops[i]? = some oi) (hst : i < stop) (hph : ∀ (j : Nat) (o : Oper), ops[j]? = some o → stop ≤ j → ∃ e ∈ o.after, Region.binds md e = true ∧ e.on = i)
    (hsel : ∀ (j : Nat) (o : Oper) cs b, ops[j]? = some o → o.op ≠ .select cs b) (hQ : ∀ c a w, Q (.panic c) (a.put oi.dst v) w → Q (.panic c) a w) :
    ∀ (k : Nat) (listed : Array Bool) (a : Act) (w : World),
      (∀ j oj, ops[j]? = some oj → j ≠ i → listed.getD j true = false → (∀ e ∈ oj.after, Region.binds md e = true → e.on ≠ i) → oi.apart ops oj = true) →
      i ∈ Region.ready md ops listed → YieldsIf P ops S oi v a → S w →
      Phased P md ops Q S stop k (listed.setIfInBounds i true) (a.put oi.dst v) w → Phased P md ops Q S stop (k + 1) listed a w := by
  intro k
  induction k with
  | zero =>
    intro listed a w _ hr hy hS H
    refine ⟨fun h => (by rw [h] at hr; cases hr), fun j hj => ?_⟩
    by_cases e : j = i
    · subst e
      exact hy.wpOp hi hS ⟨fun _ => hS, H⟩
    · have h := ready_mono hj e
      rw [H.1] at h
      cases h
  | succ k ih =>
    intro listed a w hfree hr hy hS H
    refine ⟨fun h => (by rw [h] at hr; cases hr), fun j hj => ?_⟩
    by_cases e : j = i
    · subst e
      exact hy.wpOp hi hS ⟨fun _ => hS, H⟩
    · obtain ⟨hun, oj, hoj, hall⟩ := mem_ready.1 hj
      have hno : ∀ d ∈ oj.after, Region.binds md d = true → d.on ≠ i := fun d hd hb q => by
        have h1 := hall d hd hb
        have h0 := (mem_ready.1 hr).1
        rw [q] at h1
        rcases Nat.lt_or_ge i listed.size with g | g
        · simp [g] at h0 h1
          rw [h0] at h1
          cases h1
        · simp [Array.getElem?_eq_none g] at h1
      have hjs : j < stop := by
        rcases Nat.lt_or_ge j stop with g | g
        · exact g
        · obtain ⟨d, hd, hb, hon⟩ := hph j oj hoj g
          exact absurd hon (hno d hd hb)
      have h2 := wpOp_putIf hoj (hfree j oj hoj e hun hno) (fun cs b => hsel i oi cs b hi) (fun cs b => hsel j oj cs b hoj) hQ hy (H.2 j (ready_mono hj e))
      refine wpOp_mono (fun b v' hb => ⟨hb.2.1, ih (listed.setIfInBounds j true) b v' (fun l ol hl hli hlu hln => ?_) (ready_mono hr (Ne.symm e)) hb.1 (hb.2.1 hjs) ?_⟩) h2
      · refine hfree l ol hl hli ?_ hln
        by_cases q : j = l
        · subst q; exact hun
        · rw [getD_set_ne true q] at hlu
          exact hlu
      · rw [Array.setIfInBounds_comm _ _ e]
        exact hb.2.2
end Go.Proofs.YtjbmpockoicgmaaGreat
