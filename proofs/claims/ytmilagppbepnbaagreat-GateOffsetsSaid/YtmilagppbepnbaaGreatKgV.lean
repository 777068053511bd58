/- The kernel: what is told of a pipe. Condition: it lies as stated. -/
import Derived.Test.YtmilagppbepnbaaGreatKgK
namespace Go.Proofs.YtmilagppbepnbaaGreat.Kn
open Go.RowKit Go.PlainAid
set_option linter.unusedVariables false
set_option linter.unusedSimpArgs false
attribute [local go_sem] Oper.semAt_some
theorem ends_nil (w : World) : Calls Tryz.prog 93 #[.pointer none] w fun e w' => e = .returned (.tuple #[.int .i64 0, .int .i64 0]) ∧ w' = w := by
  go_enter Tryz.func93, Tryz.ntmps93
  go_wp2
  go_ret2
  exact ⟨rfl, rfl⟩
theorem len_nil (w : World) : Calls Tryz.prog 94 #[.pointer none] w fun e w' => e = .returned (.int .i64 0) ∧ w' = w := by
  go_enter Tryz.func94, Tryz.ntmps94
  go_wp2
  go_ret
  exact ⟨rfl, rfl⟩
theorem waits_nil (b : Bool) (w : World) : Calls Tryz.prog 86 #[.pointer none, .bool b] w fun e w' => e = .returned (.bool false) ∧ w' = w := by
  go_enter Tryz.func86, Tryz.ntmps86
  go_wp2
  go_ret
  exact ⟨rfl, rfl⟩
section
variable {w w' : World} {B : Ix → Nat → Prop} {q : Nat} {K : Ker} {M : Mp} {c : Nat}
theorem pipe_none (h : KerIs w B q K M) (x : Int) (hx : askI K.pipes x = none) : Calls Tryz.prog 49 #[.pointer (some ⟨q, 0, none⟩), .int .i64 x] w fun e w' => e = .returned (.tuple #[.int .i64 0, .int .i64 0, .int .i64 0]) ∧ Below w.heap.size w w' := by
  have hg := getX_any h x
  rw [hx] at hg
  have hgH : Hid (Calls Tryz.prog 92 #[.pointer (some ⟨q, 1, none⟩), .int .i64 x] w fun e w' => e = .returned (.pointer none) ∧ Below w.heap.size w w') := Lib.hid hg
  clear h hg hx
  go_enter Tryz.func49, Tryz.ntmps49
  go_wp2_with (first
    | (go_at_call 92; refine hgH.out.mono ?_; rintro e w1 ⟨rfl, hb1⟩)
    | (go_at_call 93; refine (ends_nil _).mono ?_; rintro e w2 ⟨rfl, rfl⟩)
    | (go_at_call 94; refine (len_nil _).mono ?_; rintro e w2 ⟨rfl, rfl⟩))
  refine bodyPost_ret (results_tmp3 rfl _ _ _) rfl ?_
  exact ⟨rfl, hb1⟩
theorem pipe_some (h : KerIs w B q K M) (x : Int) {m : Nat} (hx : askI K.pipes x = some m) {s : Pp.St} (hs : ask K.pipes m = some s) : Calls Tryz.prog 49 #[.pointer (some ⟨q, 0, none⟩), .int .i64 x] w fun e w' => e = .returned (.tuple #[.int .i64 s.r, .int .i64 s.t, .int .i64 s.data.length]) ∧ Below w.heap.size w w' := by
  have hg := getX_any h x
  rw [hx] at hg
  have hP := Lib.hid (fun (W : World) (hW : Below w.heap.size w W) => ((h.below hW).part (.pipe m)) s hs)
  obtain ⟨p, hp⟩ : ∃ p, M.bx m = p := ⟨_, rfl⟩
  have hgH : Hid (Calls Tryz.prog 92 #[.pointer (some ⟨q, 1, none⟩), .int .i64 x] w fun e w' => e = .returned (.pointer (some ⟨p, 0, none⟩)) ∧ Below w.heap.size w w') := Lib.hid (by rw [← hp]; exact hg)
  have hE : Hid (∀ W : World, Below w.heap.size w W → Calls Tryz.prog 93 #[.pointer (some ⟨p, 0, none⟩)] W fun e w' => e = .returned (.tuple #[.int .i64 s.r, .int .i64 s.t]) ∧ ∃ n, w' = W.drewN n) := Lib.hid (fun W hW => by
    obtain ⟨rb, h1, _⟩ := hP.out W hW
    rw [hp] at h1
    exact Pp.endsOf_any W h1)
  have hL : Hid (∀ W : World, Below w.heap.size w W → Calls Tryz.prog 94 #[.pointer (some ⟨p, 0, none⟩)] W fun e w' => e = .returned (.int .i64 s.data.length) ∧ w' = W) := Lib.hid (fun W hW => by
    obtain ⟨rb, h1, _⟩ := hP.out W hW
    rw [hp] at h1
    exact Pp.len_any W h1)
  clear h hg hx hs hP hp
  go_enter Tryz.func49, Tryz.ntmps49
  go_wp2_with (first
    | (go_at_call 92; refine hgH.out.mono ?_; rintro e w1 ⟨rfl, hb1⟩)
    | (go_at_call 93; refine (hE.out w1 hb1).mono ?_; rintro e w2 ⟨rfl, n2, rfl⟩; have hb2 : Below w.heap.size w (w1.drewN n2) := ⟨hb1.os, hb1.tape, hb1.output, hb1.size, hb1.block⟩)
    | (go_at_call 94; refine (hL.out _ hb2).mono ?_; rintro e w3 ⟨rfl, rfl⟩))
  refine bodyPost_ret (results_tmp3 rfl _ _ _) rfl ?_
  exact ⟨rfl, hb2⟩
end
end Go.Proofs.YtmilagppbepnbaaGreat.Kn
