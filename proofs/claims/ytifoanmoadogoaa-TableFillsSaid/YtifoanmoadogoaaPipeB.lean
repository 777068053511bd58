/- The contracts of a pipe's small calls: Open, Close, Ends, Len, Waits; also of no pipe. Condition: the pipe's cells are as stated; fewer than 2^62 ends. -/
import Derived.Test.YtifoanmoadogoaaPipeA
namespace Go.Proofs.Ytifoanmoadogoaa
open Go.RowKit

set_option maxHeartbeats 400000 in
theorem ends_any (P : Nat) (b : Bool) (w : World) :
    Calls Try.prog 47 #[.pointer (some ⟨P, 0, none⟩), .bool b] w fun e w' => e = .returned (.pointer (some ⟨P, if b then 4 else 3, none⟩)) ∧ w' = w := by
  cases b
  all_goals
    go_enter Try.func47, Try.ntmps47
    go_wp2
    go_ret
    exact ⟨rfl, rfl⟩

theorem PipeAt.setEnds {w : World} {P B : Nat} {s : St} (h : PipeAt w P B s) (r t : Nat) (w' : World) (hb : w'.heap[B]? = w.heap[B]?)
    (hc : ∀ o, o < 3 → w'.cell? ⟨P, o, none⟩ = w.cell? ⟨P, o, none⟩) (hf : ∀ o, w'.frozen? ⟨P, o, none⟩ = w.frozen? ⟨P, o, none⟩)
    (h3 : w'.cell? ⟨P, 3, none⟩ = some (.int .i64 r)) (h4 : w'.cell? ⟨P, 4, none⟩ = some (.int .i64 t)) : PipeAt w' P B { s with r := r, t := t } := by
  obtain ⟨f, hr⟩ := h.ring
  exact ⟨⟨f, (hc 0 (by omega)).trans hr.c0, (hc 1 (by omega)).trans hr.c1, (hc 2 (by omega)).trans hr.c2, (hf 1).trans hr.f1, (hf 2).trans hr.f2,
    fun i hi => ⟨(frozen_of_heap (a := ⟨B, i, none⟩) hb).trans (hr.hb i hi).1, by
      obtain ⟨v, hv⟩ := (hr.hb i hi).2
      exact ⟨v, (cell_of_heap (a := ⟨B, i, none⟩) hb).trans hv⟩⟩,
    fun i hi => (cell_of_heap (a := ⟨B, _, none⟩) hb).trans (hr.hd i hi), hr.lt, hr.le, hr.top, hr.ne⟩, h3, h4, (hf 3).trans h.f3, (hf 4).trans h.f4⟩

theorem PipeAt.set3 {w : World} {P B : Nat} {s : St} (h : PipeAt w P B s) (n : Nat) : PipeAt (w.setCell ⟨P, 3, none⟩ (.int .i64 n)) P B { s with r := n } :=
  h.setEnds n s.t _ (Below.heap_setCell _ _ _ _ (Ne.symm h.neq)) (fun o ho => cell_set_ne (by omega)) (fun o => World.frozen?_setCell _ _ _ _)
    (cell_set_same h.c3 rfl) ((cell_set_ne (by omega)).trans h.c4)
theorem PipeAt.set4 {w : World} {P B : Nat} {s : St} (h : PipeAt w P B s) (n : Nat) : PipeAt (w.setCell ⟨P, 4, none⟩ (.int .i64 n)) P B { s with t := n } :=
  h.setEnds s.r n _ (Below.heap_setCell _ _ _ _ (Ne.symm h.neq)) (fun o ho => cell_set_ne (by omega)) (fun o => World.frozen?_setCell _ _ _ _)
    ((cell_set_ne (by omega)).trans h.c3) (cell_set_same h.c4 rfl)

set_option maxHeartbeats 400000 in
theorem open_any {P B : Nat} {s : St} (b : Bool) (w : World) (h : PipeAt w P B s) (hr : s.r < 4611686018427387904) (ht : s.t < 4611686018427387904) :
    Calls Try.prog 15 #[.pointer (some ⟨P, 0, none⟩), .bool b] w fun e w' => e = .returned (.tuple #[]) ∧ PipeAt w' P B (s.opened b) ∧ Frame P B w w' := by
  have c3 := h.c3
  have c4 := h.c4
  have f3 := h.f3
  have f4 := h.f4
  cases b
  · go_enter Try.func15, Try.ntmps15
    go_wp2_with (go_at_call 47; refine (ends_any P _ _).mono ?_; rintro e w' ⟨rfl, rfl⟩)
    go_end0
    exact ⟨rfl, h.set3 (s.r + 1), (Frame.refl P B _).setP _ _⟩
  · go_enter Try.func15, Try.ntmps15
    go_wp2_with (go_at_call 47; refine (ends_any P _ _).mono ?_; rintro e w' ⟨rfl, rfl⟩)
    go_end0
    exact ⟨rfl, h.set4 (s.t + 1), (Frame.refl P B _).setP _ _⟩

set_option maxHeartbeats 400000 in
theorem close_any {P B : Nat} {s : St} (b : Bool) (w : World) (h : PipeAt w P B s) (hr : s.r < 4611686018427387904) (ht : s.t < 4611686018427387904) :
    Calls Try.prog 16 #[.pointer (some ⟨P, 0, none⟩), .bool b] w fun e w' => e = .returned (.int .i64 (s.closeErr b)) ∧ PipeAt w' P B (s.closed b) ∧ Frame P B w w' := by
  have c3 := h.c3
  have c4 := h.c4
  have f3 := h.f3
  have f4 := h.f4
  cases b
  · by_cases e : s.r = 0
    · have e' : ((s.r : Int) == 0) = true := by simp [e]
      have h' : PipeAt w P B (s.closed false) := by
        have : s.closed false = s := by cases s; simp_all [St.closed]
        rw [this]; exact h
      have hn : s.closeErr false = 9 := by simp [St.closeErr, St.closes, e]
      rw [hn]; clear hn e
      go_enter Try.func16, Try.ntmps16
      go_wp2_with (go_at_call 47; refine (ends_any P _ _).mono ?_; rintro e w' ⟨rfl, rfl⟩)
      go_ret
      exact ⟨rfl, h', Frame.refl P B _⟩
    · have e' : ((s.r : Int) == 0) = false := by simp [e]
      have hn : s.closeErr false = 0 := by simp [St.closeErr, St.closes]; omega
      have h' := h.set3 (s.r - 1)
      rw [show ((s.r - 1 : Nat) : Int) = (s.r : Int) - 1 by omega] at h'
      rw [hn]; clear hn
      go_enter Try.func16, Try.ntmps16
      go_wp2_with (go_at_call 47; refine (ends_any P _ _).mono ?_; rintro e w' ⟨rfl, rfl⟩)
      go_ret
      exact ⟨rfl, h', (Frame.refl P B _).setP _ _⟩
  · by_cases e : s.t = 0
    · have e' : ((s.t : Int) == 0) = true := by simp [e]
      have h' : PipeAt w P B (s.closed true) := by
        have : s.closed true = s := by cases s; simp_all [St.closed]
        rw [this]; exact h
      have hn : s.closeErr true = 9 := by simp [St.closeErr, St.closes, e]
      rw [hn]; clear hn e
      go_enter Try.func16, Try.ntmps16
      go_wp2_with (go_at_call 47; refine (ends_any P _ _).mono ?_; rintro e w' ⟨rfl, rfl⟩)
      go_ret
      exact ⟨rfl, h', Frame.refl P B _⟩
    · have e' : ((s.t : Int) == 0) = false := by simp [e]
      have hn : s.closeErr true = 0 := by simp [St.closeErr, St.closes]; omega
      have h' := h.set4 (s.t - 1)
      rw [show ((s.t - 1 : Nat) : Int) = (s.t : Int) - 1 by omega] at h'
      rw [hn]; clear hn
      go_enter Try.func16, Try.ntmps16
      go_wp2_with (go_at_call 47; refine (ends_any P _ _).mono ?_; rintro e w' ⟨rfl, rfl⟩)
      go_ret
      exact ⟨rfl, h', (Frame.refl P B _).setP _ _⟩

set_option maxHeartbeats 400000 in
theorem endsOf_any {P B : Nat} {s : St} (w : World) (h : PipeAt w P B s) :
    Calls Try.prog 14 #[.pointer (some ⟨P, 0, none⟩)] w fun e w' => e = .returned (.tuple #[.int .i64 s.r, .int .i64 s.t]) ∧ ∃ n, w' = w.drewN n := by
  have c3 := h.c3
  have c4 := h.c4
  go_enter Try.func14, Try.ntmps14
  go_wp2
  go_quiet (fail)
  go_wp2
  go_ret2
  exact ⟨rfl, _, rfl⟩

set_option maxHeartbeats 400000 in
theorem len_any {P B : Nat} {s : St} (w : World) (h : PipeAt w P B s) :
    Calls Try.prog 17 #[.pointer (some ⟨P, 0, none⟩)] w fun e w' => e = .returned (.int .i64 s.data.length) ∧ w' = w := by
  obtain ⟨f, hr⟩ := h.ring
  have c2 := hr.c2
  clear hr
  go_enter Try.func17, Try.ntmps17
  go_wp2
  go_ret
  exact ⟨rfl, rfl⟩

set_option maxHeartbeats 400000 in
theorem waits_any {P B : Nat} {s : St} (b : Bool) (w : World) (h : PipeAt w P B s) :
    Calls Try.prog 18 #[.pointer (some ⟨P, 0, none⟩), .bool b] w fun e w' => e = .returned (.bool (s.waits b)) ∧ ∃ n, w' = w.drewN n := by
  have hH := Lib.hid h
  have c3 := h.c3
  have c4 := h.c4
  obtain ⟨f, hr⟩ := h.ring
  have c2 := hr.c2
  have hle := hr.le
  clear hr h
  cases b
  · by_cases e : 0 < s.t
    · by_cases g : s.data.length = 0
      · have g' : ((s.data.length : Int) == 0) = true := by simp [g]
        have hn : s.waits false = true := by simp [St.waits, e, g]
        rw [hn]; clear hn g
        go_enter Try.func18, Try.ntmps18
        go_wp2
        go_ret
        exact ⟨rfl, 0, rfl⟩
      · have g' : ((s.data.length : Int) == 0) = false := by simpa using g
        have hn : s.waits false = false := by simp [St.waits, g]
        rw [hn]; clear hn
        go_enter Try.func18, Try.ntmps18
        go_wp2
        go_ret
        exact ⟨rfl, 0, rfl⟩
    · have hn : s.waits false = false := by simp [St.waits, e]
      have e' : decide ((0 : Int) < s.t) = false := by simp; omega
      rw [hn]; clear hn
      go_enter Try.func18, Try.ntmps18
      go_wp2
      go_ret
      exact ⟨rfl, 0, rfl⟩
  · by_cases e : 0 < s.r
    · by_cases g : s.data.length = s.size
      · have g' : ((s.size : Int) - s.data.length == 0) = true := by rw [g]; simp
        have hn : s.waits true = true := by simp [St.waits, e, g]
        rw [hn]; clear hn g
        go_enter Try.func18, Try.ntmps18
        go_wp2_with (go_at_call 44; refine (room_pipe _ hH.out).mono ?_; rintro e w' ⟨rfl, n, rfl⟩)
        go_ret
        exact ⟨rfl, _, rfl⟩
      · have g' : ((s.size : Int) - s.data.length == 0) = false := by simp; omega
        have hn : s.waits true = false := by simp [St.waits, g]
        rw [hn]; clear hn
        go_enter Try.func18, Try.ntmps18
        go_wp2_with (go_at_call 44; refine (room_pipe _ hH.out).mono ?_; rintro e w' ⟨rfl, n, rfl⟩)
        go_ret
        exact ⟨rfl, _, rfl⟩
    · have hn : s.waits true = false := by simp [St.waits, e]
      have e' : decide ((0 : Int) < s.r) = false := by simp; omega
      rw [hn]; clear hn
      go_enter Try.func18, Try.ntmps18
      go_wp2
      go_ret
      exact ⟨rfl, 0, rfl⟩
end Go.Proofs.Ytifoanmoadogoaa
