/- The moves of a walk through a region with a last phase. No condition. -/
import Derived.Test.YtjbmpockoicgmaaGreatPhA
namespace Go.Proofs.YtjbmpockoicgmaaGreat
variable {P : Program} {ops : Array Oper} {Q : Exit → Act → World → Prop} {md : Region.Mode} {S : World → Prop} {stop : Nat}

/-- The last phase waits for operation i. -/
def lastWaits (md : Region.Mode) (ops : Array Oper) (stop i : Nat) : Bool :=
  (List.range ops.size).all fun j => decide (j < stop) || ((ops[j]?).map fun o => o.after.any fun e => Region.binds md e && (e.on == i)).getD true
theorem lastWaits_spec {i : Nat} (h : lastWaits md ops stop i = true) (j : Nat) (o : Oper) (ho : ops[j]? = some o) (hj : stop ≤ j) : ∃ e ∈ o.after, Region.binds md e = true ∧ e.on = i := by
  have hlt : j < ops.size := (Array.getElem?_eq_some_iff.1 ho).1
  have h1 := List.all_eq_true.1 h j (List.mem_range.2 hlt)
  rw [ho] at h1
  simp only [Option.map_some, Option.getD_some, Bool.or_eq_true, decide_eq_true_iff] at h1
  rcases h1 with h1 | h1
  · omega
  · obtain ⟨e, he, hb⟩ := Array.any_eq_true'.1 h1
    rw [Bool.and_eq_true, beq_iff_eq] at hb
    exact ⟨e, he, hb.1, hb.2⟩

/-- Take number i first. -/
theorem phased_take {i : Nat} {oi : Oper} {v : Value} {k : Nat} {listed : Array Bool} {a : Act} {w : World} (hi : ops[i]? = some oi) (hst : i < stop) (hw : lastWaits md ops stop i = true)
    (hs : Region.noSelect ops = true) (hf : Region.free md ops listed i = true) (hr : (Region.ready md ops listed).contains i = true)
    (hQ : ∀ c a w, Q (.panic c) (a.put oi.dst v) w → Q (.panic c) a w) (hy : YieldsIf P ops S oi v a) (hS : S w)
    (h : Phased P md ops Q S stop k (listed.setIfInBounds i true) (a.put oi.dst v) w) : Phased P md ops Q S stop (k + 1) listed a w :=
  phased_first hi hst (lastWaits_spec hw) (Region.noSelect_spec hs) hQ k listed a w (Region.free_spec hi hf) (by simpa using hr) hy hS h

/-- Those that may come up. -/
def PhReady (P : Program) (md : Region.Mode) (ops : Array Oper) (Q : Exit → Act → World → Prop) (S : World → Prop) (stop k : Nat) (listed : Array Bool) (a : Act) (w : World) (rs : List Nat) : Prop :=
  ∀ i ∈ rs, wpOp P ops Q i (fun b v => (i < stop → S v) ∧ Phased P md ops Q S stop k (listed.setIfInBounds i true) b v) a w
theorem PhReady.nil {k : Nat} {listed : Array Bool} {a : Act} {w : World} : PhReady P md ops Q S stop k listed a w [] := fun _ h => by cases h
theorem PhReady.cons {k : Nat} {listed : Array Bool} {a : Act} {w : World} {i : Nat} {o : Oper} {rs : List Nat} (ho : ops[i]? = some o)
    (h : ∀ K' : Act → World → Prop, (∀ b v, (i < stop → S v) → Phased P md ops Q S stop k (listed.setIfInBounds i true) b v → K' b v) → if Region.wanted o (yielded ops a.tmps) = true then Oper.wp P o a w K' Q else K' (a.put o.dst undef) w)
    (hs : PhReady P md ops Q S stop k listed a w rs) : PhReady P md ops Q S stop k listed a w (i :: rs) := fun j hj => by
  rcases List.mem_cons.1 hj with rfl | hj
  · exact wpOp_step ho (fun K' hK => h K' (fun b v h1 h2 => hK b v ⟨h1, h2⟩))
  · exact hs j hj
theorem phased_ready {rs : List Nat} {k : Nat} {listed : Array Bool} {a : Act} {w : World} (hr : Region.ready md ops listed = rs) (hne : rs ≠ [])
    (h : PhReady P md ops Q S stop k listed a w rs) : Phased P md ops Q S stop (k + 1) listed a w :=
  ⟨fun h0 => absurd (hr ▸ h0) hne, hr ▸ h⟩
/-- The beginning. -/
theorem wp_region_phased {id : Nat} {a : Act} {w : World} (hm : P.follows .mixedOrders = true)
    (h : Phased P .any ops Q S stop ops.size (Array.replicate ops.size false) a { w with drawn := w.drawn + 1 }) : (Code.region id ops true).wp P Q a w :=
  wp_region_any hm (phased_any _ _ _ _ h)
end Go.Proofs.YtjbmpockoicgmaaGreat
