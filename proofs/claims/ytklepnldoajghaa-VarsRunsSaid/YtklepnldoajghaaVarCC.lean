/- The reference's Get. Condition: the rows lie as stated. -/
import Derived.Test.YtklepnldoajghaaVarCB
namespace Go.Proofs.Ytklepnldoajghaa
open Go.RowKit Go.PlainAid
attribute [local go_sem] Oper.semAt_some

set_option maxHeartbeats 2000000 in
theorem getR_any {n₀ q : Nat} {L : Vl} {A : List ByteArray} {lv av : Value} (x : ByteArray) (w : World) (h : RefAt n₀ w q L A lv av) :
    Calls Try.prog 23 #[.pointer (some ⟨q, 0, none⟩), .string x] w fun e w' => e = .returned (.tuple #[.string (got L x).val, .bool (got L x).st]) ∧ Below w.heap.size w w' := by
  have hcall := Lib.hid (at_any x w h)
  obtain ⟨⟨yv, ys, ye, yr⟩, hy⟩ : ∃ y, got L x = y := ⟨_, rfl⟩
  have hyH := Lib.hid hy
  rw [hy]
  clear h hy
  go_enter Try.func23, Try.ntmps23
  go_wp2_with fail
  refine hcall.out.mono ?_
  rintro e W ⟨rfl, hB⟩
  rw [hyH.out]
  have hBH := Lib.hid hB
  clear hB
  unfold rcs
  cases ys
  all_goals
    go_wp2_with fail
    go_region
    all_goals
      go_wp2_with fail
      go_ret2
      exact ⟨rfl, (hBH.out.alloc hBH.out.size _).drew⟩
end Go.Proofs.Ytklepnldoajghaa
