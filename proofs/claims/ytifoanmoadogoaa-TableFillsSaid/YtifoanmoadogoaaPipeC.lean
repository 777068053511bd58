/- The contract of a pipe's making: New, at every size. No condition. -/
import Derived.Test.YtifoanmoadogoaaPipeB
namespace Go.Proofs.Ytifoanmoadogoaa
open Go.RowKit

theorem Try.info5 : (Try.prog.info? 5).map (fun i => (i.zero, i.size, i.bytes)) = some (some (.int .u8 0), 1, 1) := by kernel_rfl

set_option maxHeartbeats 400000 in
theorem newRing_any (n : Nat) (hn : 0 < n) (hm : n ≤ 65536) (w : World) :
    Calls Try.prog 43 #[.int .i64 n] w fun e w' => e = .returned (.agg #[.slice (some ⟨w.heap.size + 1, 0, none⟩) n n, .int .i64 0, .int .i64 0]) ∧
      ∃ o, w' = (w.alloc o).alloc (.cells (madeCells #[.int .u8 0] n) 5) := by
  obtain ⟨i0, hi, hz0, hz1, hz2⟩ := info_parts Try.info5
  have hmk := fun w => run_make (P := Try.prog) w 86 5 i0 _ Try.underlying86 hi hz0 .i64 .i64 n n (by omega) (by omega) (by rw [hz2]; omega) (by omega)
  simp only [Int.toNat_natCast, hz1, Nat.mul_one] at hmk
  clear hi hz0 hz1 hz2
  go_enter Try.func43, Try.ntmps43
  go_wp2
  exact bodyPost_ret (v := .agg #[.slice (some ⟨w.heap.size + 1, 0, none⟩) n n, .int .i64 0, .int .i64 0]) (by simp [results, Try.results43, go_sem]) rfl ⟨rfl, _, rfl⟩

theorem made_byte (n i : Nat) (hi : i < n) : (madeCells #[.int .u8 0] n)[i]? = some (.int .u8 ((0 : UInt8).toNat : Int)) := by
  simp [madeCells, hi, Nat.mod_one]

theorem heap_new (w : World) (o : Obj) : (w.alloc o).heap[w.heap.size]? = some o := by
  show (w.heap.push o)[w.heap.size]? = _
  simp

theorem pipe_made (w : World) (o : Obj) (n : Nat) (h0 : 0 < n) (h1 : n ≤ 65536) :
    PipeAt (((w.alloc o).alloc (.cells (madeCells #[.int .u8 0] n) 5)).alloc (.cells #[.slice (some ⟨w.heap.size + 1, 0, none⟩) n n, .int .i64 0, .int .i64 0, .int .i64 0, .int .i64 0] 91)) (w.heap.size + 2) (w.heap.size + 1) ⟨n, 0, 0, []⟩ := by
  have hb : ∀ W : World, W.heap.size = w.heap.size + 2 → W.heap[w.heap.size + 1]? = some (.cells (madeCells #[.int .u8 0] n) 5 (0, 0)) →
      PipeAt (W.alloc (.cells #[.slice (some ⟨w.heap.size + 1, 0, none⟩) n n, .int .i64 0, .int .i64 0, .int .i64 0, .int .i64 0] 91)) (w.heap.size + 2) (w.heap.size + 1) ⟨n, 0, 0, []⟩ := by
    intro W hs hB
    have hP : (W.alloc (.cells #[.slice (some ⟨w.heap.size + 1, 0, none⟩) n n, .int .i64 0, .int .i64 0, .int .i64 0, .int .i64 0] 91)).heap[w.heap.size + 2]? = some (.cells #[.slice (some ⟨w.heap.size + 1, 0, none⟩) n n, .int .i64 0, .int .i64 0, .int .i64 0, .int .i64 0] 91 (0, 0)) := by
      rw [← hs]; exact heap_new _ _
    have hB' : (W.alloc (.cells #[.slice (some ⟨w.heap.size + 1, 0, none⟩) n n, .int .i64 0, .int .i64 0, .int .i64 0, .int .i64 0] 91)).heap[w.heap.size + 1]? = some (.cells (madeCells #[.int .u8 0] n) 5 (0, 0)) :=
      (Below.heap_alloc _ _ _ (by omega)).trans hB
    generalize W.alloc (.cells #[.slice (some ⟨w.heap.size + 1, 0, none⟩) n n, .int .i64 0, .int .i64 0, .int .i64 0, .int .i64 0] 91) = V at hP hB'
    refine ⟨⟨0, ?_, ?_, ?_, ?_, ?_, ?_, ?_, h0, by simp, h1, by omega⟩, ?_, ?_, ?_, ?_⟩
    all_goals try (simp [World.cell?, World.frozen?, hP]; done)
    · intro i hi
      refine ⟨by simp [World.frozen?, hB'], 0, ?_⟩
      simp only [World.cell?, hB']
      exact made_byte n i hi
  refine hb _ (by simp) ?_
  have : ((w.alloc o).alloc (.cells (madeCells #[.int .u8 0] n) 5)).heap[(w.alloc o).heap.size]? = some (.cells (madeCells #[.int .u8 0] n) 5 (0, 0)) := heap_new _ _
  simpa using this

set_option maxHeartbeats 400000 in
theorem new_no (n : Int) (hn : n < 1 ∨ 65536 < n) (w : World) :
    Calls Try.prog 10 #[.int .i64 n] w fun e w' => e = .returned (.tuple #[.pointer none, .int .i64 22]) ∧ w' = w := by
  by_cases h : n < 1
  · go_enter Try.func10, Try.ntmps10
    go_wp2
    go_ret2
    exact ⟨rfl, rfl⟩
  · have h' : 65536 < n := by omega
    clear hn
    go_enter Try.func10, Try.ntmps10
    go_wp2
    go_ret2
    exact ⟨rfl, rfl⟩

set_option maxHeartbeats 400000 in
theorem new_yes (n : Nat) (h0 : 0 < n) (h1 : n ≤ 65536) (w : World) :
    Calls Try.prog 10 #[.int .i64 n] w fun e w' => e = .returned (.tuple #[.pointer (some ⟨w.heap.size + 2, 0, none⟩), .int .i64 0]) ∧
      PipeAt w' (w.heap.size + 2) (w.heap.size + 1) ⟨n, 0, 0, []⟩ ∧ Below w.heap.size w w' := by
  go_enter Try.func10, Try.ntmps10
  go_wp2_with (go_at_call 43; refine (newRing_any _ h0 h1 _).mono ?_; rintro e w' ⟨rfl, o, rfl⟩)
  go_ret2
  exact ⟨rfl, pipe_made w o n h0 h1, (((Below.refl _ w).alloc (Nat.le_refl _) _).alloc (by simp) _).alloc (by simp; omega) _⟩
end Go.Proofs.Ytifoanmoadogoaa
