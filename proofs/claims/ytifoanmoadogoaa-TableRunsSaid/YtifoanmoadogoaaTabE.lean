/- The contract of the first look ('awake') of the statements of layer 11: it answers true and leaves what was there. No condition. -/
import Derived.Test.YtifoanmoadogoaaTabD
namespace Go.Proofs.Ytifoanmoadogoaa
open Go.RowKit

def f2 : Nat → Sl := upd (upd (fun _ => Sl.none) 0 ⟨true, false, 7⟩) 1 ⟨true, false, 8⟩

theorem tput_7 {T : Nat} (w : World) (h : TabAt w T (fun _ => Sl.none)) :
    Calls Try.prog 26 #[.pointer (some ⟨T, 0, none⟩), .int .i64 7, .int .i64 0] w fun e w' => e = .returned (.tuple #[.int .i64 0, .int .i64 0]) ∧ TabAt w' T (upd (fun _ => Sl.none) 0 ⟨true, false, 7⟩) ∧ Frame T T w w' :=
  put_in 7 0 0 (Nat.le_refl _) (by decide) w h (fun k h1 h2 => absurd h2 (by omega)) rfl
theorem tput_8 {T : Nat} (w : World) (h : TabAt w T (upd (fun _ => Sl.none) 0 ⟨true, false, 7⟩)) :
    Calls Try.prog 26 #[.pointer (some ⟨T, 0, none⟩), .int .i64 8, .int .i64 0] w fun e w' => e = .returned (.tuple #[.int .i64 1, .int .i64 0]) ∧ TabAt w' T f2 ∧ Frame T T w w' :=
  put_in 8 0 1 (by decide) (by decide) w h (fun k h1 h2 => by
    obtain rfl : k = 0 := by omega
    rfl) rfl
theorem tget_1 {T : Nat} (w : World) (h : TabAt w T f2) : Calls Try.prog 30 #[.pointer (some ⟨T, 0, none⟩), .int .i64 1] w fun e w' => e = .returned (.tuple #[.int .i64 8, .int .i64 0]) ∧ w' = w := get_in 1 (by decide) w h
theorem tfree_2 {T : Nat} (w : World) (h : TabAt w T f2) : Calls Try.prog 42 #[.pointer (some ⟨T, 0, none⟩)] w fun e w' => e = .returned (.int .i64 30) ∧ Below w.heap.size w w' :=
  (free_any w h).mono fun _ _ ⟨he, hw⟩ => ⟨by rw [he]; exact congrArg (fun n : Int => Ending.returned (.int .i64 n)) (by decide +kernel), hw⟩

set_option maxHeartbeats 600000 in
theorem tawake_any (w : World) : Calls Try.prog 24 #[] w fun e w' => e = .returned (.bool true) ∧ Below w.heap.size w w' := by
  go_enter Try.func24, Try.ntmps24
  go_wp2_with fail
  refine (tnew_any w).mono ?_
  rintro e w1 ⟨rfl, hT1, hB1⟩
  have h1 := Lib.hid hT1
  clear hT1
  go_wp2_with fail
  refine (tput_7 w1 h1.out).mono ?_
  rintro e w2 ⟨rfl, hT2, hF2⟩
  have h2 := Lib.hid hT2
  clear hT2
  go_wp2_with fail
  refine (tput_8 w2 h2.out).mono ?_
  rintro e w3 ⟨rfl, hT3, hF3⟩
  have h3 := Lib.hid hT3
  clear hT3
  go_wp2_with fail
  refine (tget_1 w3 h3.out).mono ?_
  rintro e w4 ⟨rfl, rfl⟩
  go_wp2_with fail
  refine (tfree_2 _ h3.out).mono ?_
  rintro e w5 ⟨rfl, hB5⟩
  go_wp2
  go_ret
  have l1 := hB1.size
  have l2 := hF2.size
  have l3 := hF3.size
  exact ⟨rfl, ((hB1.trans (hF2.below l1 (Nat.le_refl _) (Nat.le_refl _))).trans (hF3.below (by omega) (Nat.le_refl _) (Nat.le_refl _))).trans (hB5.mono (by omega))⟩
end Go.Proofs.Ytifoanmoadogoaa
