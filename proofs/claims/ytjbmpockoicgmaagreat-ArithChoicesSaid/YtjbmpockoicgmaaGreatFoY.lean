/- Check. Condition: the text is short. -/
import Derived.Test.YtjbmpockoicgmaaGreatFoX
namespace Go.Proofs.YtjbmpockoicgmaaGreat
open Go.RowKit Go.Shelf Go.PlainAid
set_option linter.unusedVariables false
set_option linter.unusedSimpArgs false
attribute [local go_sem] Oper.semAt_some

/-- What is wrong with a text's form. -/
def chkM (s : ByteArray) : Int := (workM F.NM (toksM s) ()).2.1
set_option maxRecDepth 100000 in
set_option maxHeartbeats 4000000 in
theorem check_in (n : Nat) (hn : 4 ≤ n) (w : World) (s : ByteArray) (hs : s.size ≤ 100000) : CallsIn Fence.wide n Tryz.prog 12 #[.string s] w fun e w' => e = .returned (.int .i64 (chkM s)) ∧ Below w.heap.size w w' := by
  have h1 : 1 ≤ n := by omega
  have h49 := F.ld49
  have s49 := F.st49
  have hwk := Lib.hid (F.work_in (n - 1) (by omega) 0 (fun _ => False) w () s hs trivial (fun _ h => h.elim))
  refine callsIn_of_wp Tryz.func12 rfl trivial ?_ rfl
  simp only [Tryz.ntmps12, List.size_toArray, List.length_cons, List.length_nil, Nat.reduceAdd, Nat.reduceSub, Array.replicate_succ, Array.replicate_zero, List.push_toArray, List.append_toArray, List.nil_append, List.cons_append]
  gi_wp2_with (refine ⟨trivial, ?_⟩; gi_at_call 15; refine hwk.out.mono ?_; rintro e w2 ⟨rfl, S', _, hF⟩; have hb2 := Lib.hid (hF.below (n := w.heap.size) (fun _ h => h.elim) (Nat.le_refl _)); clear hF)
  go_ret
  exact ⟨rfl, hb2.out.alloc hb2.out.size _⟩

end Go.Proofs.YtjbmpockoicgmaaGreat
