/- The reference's Unset, whole. Condition: the rows lie as stated. -/
import Derived.Test.YtklepnldoajghaaVarCG
namespace Go.Proofs.Ytklepnldoajghaa
open Go.RowKit Go.PlainAid
attribute [local go_sem] Oper.semAt_some

set_option maxHeartbeats 2000000 in
theorem unsetR_any {n₀ q : Nat} {L : Vl} {A : List ByteArray} {lv av : Value} (x : ByteArray) (w : World) (h : RefAt n₀ w q L A lv av) (hn0 : n₀ ≤ w.heap.size) (hx : x.size ≤ maxLen) :
    Calls Try.prog 13 #[.pointer (some ⟨q, 0, none⟩), .string x] w fun e w' => e = .returned (.int .i64 (unsetE L x)) ∧ REnds n₀ q (unsetR L x) A w w' := by
  have hH := Lib.hid h
  cases hnm : isName x with
  | false =>
    have hE : Hid (unsetE L x = 22) := Lib.hid (by unfold unsetE; rw [if_pos hnm])
    have hR : Hid (unsetR L x = L) := Lib.hid (by unfold unsetR; rw [hE.out]; rfl)
    have hnmH := Lib.hid hnm
    clear h hnm
    go_enter Try.func13, Try.ntmps13
    go_wp2_with (go_at_call 34; refine (nameR_any x _ hx).mono ?_; rintro e w' ⟨rfl, rfl⟩; rw [hnmH.out])
    go_ret
    exact ⟨by rw [hE.out]; rfl, by rw [hR.out]; exact .same hH.out (Below.refl _ _)⟩
  | true =>
    have hnmH := Lib.hid hnm
    have hatcall := Lib.hid (at_any x w h)
    obtain ⟨y, hy⟩ : ∃ y, got L x = y := ⟨_, rfl⟩
    have hyH := Lib.hid hy
    cases hro : y.ro with
    | true =>
      have hE : Hid (unsetE L x = 63) := Lib.hid (by unfold unsetE; rw [if_neg (by rw [hnm]; simp), if_pos (by rw [hy]; exact hro)])
      have hR : Hid (unsetR L x = L) := Lib.hid (by unfold unsetR; rw [hE.out]; rfl)
      have hroH := Lib.hid hro
      clear h hnm hy hro
      go_enter Try.func13, Try.ntmps13
      go_wp2_with (go_at_call 34; refine (nameR_any x _ hx).mono ?_; rintro e w' ⟨rfl, rfl⟩; rw [hnmH.out])
      refine hatcall.out.mono ?_
      rintro e W ⟨rfl, hB⟩
      rw [hyH.out]
      unfold rcs
      rw [hroH.out]
      have hBH := Lib.hid hB
      clear hB
      have hfd : ∀ w : World, (Instr.field 73 (.agg #[.string x, .string y.val, .bool y.ex, .bool true, .bool (!y.st)]) 3).run Try.prog w = .ok (.bool true) w := fun _ => by kernel_rfl
      go_wp2_with fail
      go_ret
      exact ⟨by rw [hE.out]; rfl, by rw [hR.out]; exact .same hH.out hBH.out⟩
    | false =>
      have hE : Hid (unsetE L x = 0) := Lib.hid (by unfold unsetE; rw [if_neg (by rw [hnm]; simp), if_neg (by rw [hy, hro]; simp)])
      have hR : Hid (unsetR L x = cutL L x) := Lib.hid (by unfold unsetR; rw [if_pos hE.out])
      cases hh : has (ks L) x with
      | false =>
        have hC : Hid (cutL L x = L) := Lib.hid (by unfold cutL; rw [hh]; rfl)
        have hf := Lib.hid (fnd_not hh)
        have hroH := Lib.hid hro
        clear h hnm hy hro hh
        go_enter Try.func13, Try.ntmps13
        go_wp2_with (go_at_call 34; refine (nameR_any x _ hx).mono ?_; rintro e w' ⟨rfl, rfl⟩; rw [hnmH.out])
        refine hatcall.out.mono ?_
        rintro e W ⟨rfl, hB⟩
        rw [hyH.out]
        unfold rcs
        rw [hroH.out]
        have hcall := Lib.hid (find_any x W (hH.out.beneath hB))
        have hBH := Lib.hid hB
        clear hB
        have hfd : ∀ w : World, (Instr.field 73 (.agg #[.string x, .string y.val, .bool y.ex, .bool false, .bool (!y.st)]) 3).run Try.prog w = .ok (.bool false) w := fun _ => by kernel_rfl
        go_wp2_with fail
        refine hcall.out.mono ?_
        rintro e w' ⟨rfl, rfl⟩
        rw [hf.out]
        go_wp2_with fail
        go_ret
        exact ⟨by rw [hE.out]; rfl, by rw [hR.out, hC.out]; exact .same hH.out hBH.out⟩
      | true =>
        have hC : Hid (cutL L x = L.eraseIdx (pos (ks L) x)) := Lib.hid (by unfold cutL; rw [hh]; rfl)
        rw [hE.out, hR.out, hC.out]
        exact unsetR_cut x w h hn0 hx hnm (by rw [hy]; exact hro) hh
end Go.Proofs.Ytklepnldoajghaa
