/- A region that writes and draws its order, in a round of a range over a function, by the plain laws of regions. Condition: no defer statement in it; the round isn't left by want of room. -/
import Derived.Test.YtjbmpockoicgmaaGreatPhB
import Derived.OrdersIn
import Derived.RangeFuncCalls
import Derived.RangeFuncBound
import Derived.Deep.Draws
import Derived.Sort.QuietIn
namespace Go.Proofs.YtjbmpockoicgmaaGreat
variable {P : Program}
def noDefer (l : List Oper) : Bool := l.all fun o => match o.op with | .defer _ => false | _ => true
theorem noDefer_spec {l : List Oper} (h : noDefer l = true) {o : Oper} (ho : o ∈ l) (c : Call) : o.op ≠ .defer c := by
  intro e
  have := List.all_eq_true.1 h o ho
  rw [e] at this
  cases this
theorem oper_in {o : Oper} {a : Act} {w : World} {K : Act → World → Prop} {Q : Exit → Act → World → Prop} {r n : Nat} (hd : ∀ c, o.op ≠ .defer c) (h : o.wp P a w K Q) : o.wpIn (Fence.wide.inRound r) n P a w K Q := by
  refine ⟨fun _ _ => trivial, ?_⟩
  rw [Oper.semAt_eq _ _ _ hd]
  unfold Oper.wp at h
  generalize (execOp a.eval o).run P w = res at h ⊢
  cases res with
  | ok v w' =>
    cases v with
    | value v => exact h
    | skip => exact h
    | defer d => exact h
    | enter f args => exact ⟨fun e => (by cases e), (callsIn_wide.2 h)⟩
    | row row args => exact ⟨fun e => (by cases e), fun c cs _ => by obtain ⟨v, w'', hr, hs⟩ := h c cs; exact ⟨v, w'', hr, stepsIn_wide.2 hs⟩⟩
    | _ => exact h.elim
  | halt hh w' => cases hh <;> exact h
theorem any_in {md : Region.Mode} {l : List Oper} {Q : Exit → Act → World → Prop} {r n : Nat} (hd : noDefer l = true) (hno : ¬ LetsOut Q) :
    ∀ (fuel : Nat) (listed : Array Bool) (a : Act) (w : World), wpAny P md l.toArray Q fuel listed a w → wpAnyIn (Fence.wide.inRound r) n P md l.toArray Q fuel listed a w := by
  intro fuel
  induction fuel with
  | zero => exact fun _ _ _ h => h
  | succ fuel ih =>
    intro listed a w h
    refine ⟨h.1, fun i hi => ?_⟩
    have h2 := h.2 i hi
    unfold wpOp at h2
    unfold wpOpIn
    cases ho : l.toArray[i]? with
    | none => rw [ho] at h2; exact ih _ _ _ h2
    | some o =>
      rw [ho] at h2
      dsimp only at h2 ⊢
      split
      · rename_i g
        rw [if_pos g] at h2
        rcases h2 with h2 | h2
        · exact oper_in (noDefer_spec hd (by rw [List.getElem?_toArray] at ho; exact List.mem_of_getElem? ho)) (Oper.wp_mono (fun a' w' h' => ih _ _ _ h') h2)
        · exact absurd h2.2 hno
      · rename_i g
        rw [if_neg g] at h2
        exact ⟨fun _ _ => trivial, ih _ _ _ h2⟩
/-- The region, in a round, with a last phase. -/
theorem region_round {id : Nat} {l : List Oper} {Q : Exit → Act → World → Prop} {r n : Nat} {a : Act} {w : World} {S : World → Prop} {stop : Nat} (hm : P.follows .mixedOrders = true) (hd : noDefer l = true) (hno : ¬ LetsOut Q)
    (h : Phased P .any l.toArray Q S stop l.toArray.size (Array.replicate l.toArray.size false) a w.drew) : (Code.region id l.toArray true).wpIn (Fence.wide.inRound r) n P Q a w :=
  wpIn_region_any hm (any_in hd hno _ _ _ _ (phased_any _ _ _ _ h))
end Go.Proofs.YtjbmpockoicgmaaGreat
