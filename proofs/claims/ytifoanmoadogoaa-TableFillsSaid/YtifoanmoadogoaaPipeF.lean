/- The contract of the first look ('awake') of the statements of layer 10: it answers true and leaves what was there. No condition. -/
import Derived.Test.YtifoanmoadogoaaPipeE
namespace Go.Proofs.Ytifoanmoadogoaa
open Go.RowKit

theorem new_1 (w : World) : Calls Try.prog 10 #[.int .i64 1] w fun e w' => e = .returned (.tuple #[.pointer (some ⟨w.heap.size + 2, 0, none⟩), .int .i64 0]) ∧
      PipeAt w' (w.heap.size + 2) (w.heap.size + 1) ⟨1, 0, 0, []⟩ ∧ Below w.heap.size w w' := new_yes 1 (by omega) (by omega) w

theorem write_ab {P B : Nat} (w : World) (h : PipeAt w P B ⟨1, 1, 1, []⟩) :
    Calls Try.prog 12 #[.pointer (some ⟨P, 0, none⟩), .string ⟨#[97, 98]⟩] w fun e w' => e = .returned (.tuple #[.int .i64 1, .int .i64 0]) ∧ PipeAt w' P B ⟨1, 1, 1, [97]⟩ ∧ Frame P B w w' :=
  write_any (s := ⟨1, 1, 1, []⟩) ⟨#[97, 98]⟩ w h (by decide)

theorem read_5 {P B : Nat} (w : World) (h : PipeAt w P B ⟨1, 1, 1, [97]⟩) :
    Calls Try.prog 13 #[.pointer (some ⟨P, 0, none⟩), .int .i64 5] w fun e w' => e = .returned (.tuple #[.string ⟨#[97]⟩, .int .i64 0]) ∧ PipeAt w' P B ⟨1, 1, 1, []⟩ ∧ Frame P B w w' :=
  read_any (s := ⟨1, 1, 1, [97]⟩) 5 w h (by decide)

set_option maxHeartbeats 600000 in
theorem awake_any (w : World) : Calls Try.prog 9 #[] w fun e w' => e = .returned (.bool true) ∧ Below w.heap.size w w' := by
  go_enter Try.func9, Try.ntmps9
  go_wp2_with fail
  refine (new_1 w).mono ?_
  rintro e w1 ⟨rfl, hP1, hB1⟩
  have h1 := Lib.hid hP1
  clear hP1
  go_wp2_with fail
  refine (open_any true w1 h1.out (by decide) (by decide)).mono ?_
  rintro e w2 ⟨rfl, hP2, hB2⟩
  have h2 : Hid (PipeAt w2 (w.heap.size + 2) (w.heap.size + 1) ⟨1, 0, 1, []⟩) := hP2
  clear hP2
  go_wp2_with fail
  refine (open_any false w2 h2.out (by decide) (by decide)).mono ?_
  rintro e w3 ⟨rfl, hP3, hB3⟩
  have h3 : Hid (PipeAt w3 (w.heap.size + 2) (w.heap.size + 1) ⟨1, 1, 1, []⟩) := hP3
  clear hP3
  go_wp2_with fail
  refine (write_ab w3 h3.out).mono ?_
  rintro e w4 ⟨rfl, hP4, hB4⟩
  have h4 := Lib.hid hP4
  clear hP4
  go_wp2_with fail
  refine (read_5 w4 h4.out).mono ?_
  rintro e w5 ⟨rfl, hP5, hB5⟩
  clear hP5
  go_wp2
  go_ret
  have l1 := hB1.size
  have l2 := hB2.size
  have l3 := hB3.size
  have l4 := hB4.size
  exact ⟨rfl, (((hB1.trans (hB2.below l1 (by omega) (by omega))).trans (hB3.below (by omega) (by omega) (by omega))).trans (hB4.below (by omega) (by omega) (by omega))).trans (hB5.below (by omega) (by omega) (by omega))⟩
end Go.Proofs.Ytifoanmoadogoaa
