/- The laws' awake and evaluation as plain calls. Condition: what comes in lies as stated. -/
import Derived.Test.YtjbmpockoicgmaaGreatEvB
namespace Go.Proofs.YtjbmpockoicgmaaGreat
open Go.RowKit Go.Shelf Go.PlainAid
set_option linter.unusedVariables false
set_option linter.unusedSimpArgs false
def Rg (a : Int) : Prop := -9223372036854775808 ≤ a ∧ a ≤ 9223372036854775807
theorem i64_of {n : Int} (h : (Lit.int .i64 n).wf = true) : Rg n := by
  simpa [Rg, Lit.wf, IntKind.min, IntKind.max, IntKind.bits, IntKind.signed] using h
theorem awake_c (w : World) : Calls Tryz.prog 7 #[] w fun e w' => e = .returned (.bool true) ∧ Below w.heap.size w w' := callsIn_wide.1 (awake_in 6 (Nat.le_refl _) w)
theorem eval_c (w : World) (s : ByteArray) (hs : s.size ≤ 100000) (va : Option Addr) (vc : Nat) (L : List Vr) (hL : L.length ≤ vc) (hV : VAt (fun _ => False) w va L) :
    Calls Tryz.prog 8 #[.string s, .slice va L.length vc] w fun e w' => ∃ sv, e = .returned (.tuple #[.int .i64 (evalM s L).1, sv, .int .i64 (evalM s L).2.2]) ∧ w'.ownsRow 0 37 2 sv (evalM s L).2.1.length (flat scs (evalM s L).2.1) ∧ Below w.heap.size w w' := callsIn_wide.1 (eval_in 5 (Nat.le_refl _) w s hs va vc L hL hV)
end Go.Proofs.YtjbmpockoicgmaaGreat
