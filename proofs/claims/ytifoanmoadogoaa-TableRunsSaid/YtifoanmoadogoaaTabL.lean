/- The contracts of a table's Set, Mark and Marked. Condition: the table's cells are as stated. -/
import Derived.Test.YtifoanmoadogoaaTabE
namespace Go.Proofs.Ytifoanmoadogoaa
open Go.RowKit
attribute [local go_sem] Oper.semAt_some

section
set_option maxHeartbeats 400000
theorem set_out {T : Nat} (fd x : Int) (h : ¬ (0 ≤ fd ∧ fd < 32)) (w : World) : Calls Try.prog 28 #[.pointer (some ⟨T, 0, none⟩), .int .i64 fd, .int .i64 x] w fun e w' => e = .returned (.tuple #[.int .i64 0, .bool false, .int .i64 9]) ∧ w' = w := by
  have hb : Hid (decide (0 ≤ fd ∧ fd < 32) = false) := decide_eq_false h
  clear h
  go_enter Try.func28, Try.ntmps28
  go_wp2_with (go_at_call 48; refine (isNumber_b _ _ hb _).mono ?_; rintro e w' ⟨rfl, rfl⟩)
  go_ret3
  exact ⟨rfl, rfl⟩

theorem set_in {T : Nat} {f : Nat → Sl} (x : Int) (i : Nat) (hi : i < 32) (w : World) (h : TabAt w T f) :
    Calls Try.prog 28 #[.pointer (some ⟨T, 0, none⟩), .int .i64 i, .int .i64 x] w fun e w' => e = .returned (.tuple #[.int .i64 (f i).x, .bool (f i).tk, .int .i64 0]) ∧ TabAt w' T (upd f i ⟨true, false, x⟩) ∧ Frame T T w w' := by
  have hb : Hid (decide (0 ≤ (i : Int) ∧ (i : Int) < 32) = true) := decide_eq_true (by omega)
  have hi' : (i : Int) < 32 := by omega
  have hTl := h.lt
  have c0 := h.c0 i hi
  have c1 := h.c1 i hi
  have c2 := h.c2 i hi
  have f0 := h.fz (i * 3)
  have f1 := h.fz (i * 3 + 1)
  have f2 := h.fz (i * 3 + 2)
  have hne : T ≠ w.heap.size := by omega
  have hz := zero97
  obtain ⟨w3, hw3⟩ : ∃ w3, (((w.setCell ⟨T, i * 3, none⟩ (.bool true)).setCell ⟨T, i * 3 + 1, none⟩ (.bool false)).setCell ⟨T, i * 3 + 2, none⟩ (.int .i64 x)) = w3 := ⟨_, rfl⟩
  have hs3 : w3.heap.size = w.heap.size := by rw [← hw3]; simp [World.setCell]
  obtain ⟨wq, hwq⟩ : ∃ wq, w3.alloc (.cells #[.bool (f i).tk, .bool (f i).mr, .int .i64 (f i).x] 97) = wq := ⟨_, rfl⟩
  have hm := heap_made w3 (.cells #[.bool (f i).tk, .bool (f i).mr, .int .i64 (f i).x] 97)
  rw [hwq, hs3] at hm
  have q0 : wq.cell? ⟨w.heap.size, 0, none⟩ = some (.bool (f i).tk) := by simp only [World.cell?, hm]; rfl
  have q2 : wq.cell? ⟨w.heap.size, 2, none⟩ = some (.int .i64 (f i).x) := by simp only [World.cell?, hm]; rfl
  have hp0 := h.put i hi ⟨true, false, x⟩
  rw [hw3] at hp0
  have hp := Lib.hid (hwq ▸ hp0.keep (Below.heap_alloc w3 (.cells #[.bool (f i).tk, .bool (f i).mr, .int .i64 (f i).x] 97) T hp0.lt))
  have hF0 : Frame T T w w3 := by rw [← hw3]; exact (((Frame.refl T T w).setP _ _).setP _ _).setP _ _
  have hF := Lib.hid (hwq ▸ hF0.alloc (.cells #[.bool (f i).tk, .bool (f i).mr, .int .i64 (f i).x] 97))
  have hwH := Lib.hid (hw3.symm ▸ hwq)
  clear h hp0 hF0 hs3 hm hwq hw3
  go_enter Try.func28, Try.ntmps28
  go_wp2_with (go_at_call 48; refine (isNumber_b _ _ hb _).mono ?_; rintro e w' ⟨rfl, rfl⟩)
  rw [hwH.out]
  clear hwH c0 c1 c2 f0 f1 f2
  go_quiet (fail)
  go_wp2
  go_ret3
  exact ⟨rfl, hp.out.keep rfl, hF.out.drewN _⟩

theorem mark_out {T : Nat} (fd : Int) (b : Bool) (h : ¬ (0 ≤ fd ∧ fd < 32)) (w : World) : Calls Try.prog 34 #[.pointer (some ⟨T, 0, none⟩), .int .i64 fd, .bool b] w fun e w' => e = .returned (.int .i64 9) ∧ w' = w := by
  go_enter Try.func34, Try.ntmps34
  go_wp2_with (go_at_call 50; refine (slot_out _ h _).mono ?_; rintro e w' ⟨rfl, rfl⟩)
  go_ret
  exact ⟨rfl, rfl⟩

theorem upd_self (f : Nat → Sl) (i : Nat) : upd f i (f i) = f := by
  funext j
  unfold upd
  split
  · rename_i h; rw [h]
  · rfl
theorem TabAt.mark {w : World} {T : Nat} {f : Nat → Sl} (h : TabAt w T f) (i : Nat) (hi : i < 32) (b : Bool) : TabAt (w.setCell ⟨T, i * 3 + 1, none⟩ (.bool b)) T (upd f i { f i with mr := b }) := by
  refine ⟨fun j hj => ?_, fun j hj => ?_, fun j hj => ?_, fun o => by rw [World.frozen?_setCell]; exact h.fz o⟩
  · rw [cell_set_ne (by omega), h.c0 j hj]
    by_cases e : j = i
    · subst e; simp [upd]
    · simp [upd, e]
  · by_cases e : j = i
    · subst e
      rw [cell_set_same (h.c1 j hi) rfl]; simp [upd]
    · rw [cell_set_ne (by omega), h.c1 j hj]; simp [upd, e]
  · rw [cell_set_ne (by omega), h.c2 j hj]
    by_cases e : j = i
    · subst e; simp [upd]
    · simp [upd, e]

theorem mark_none {T : Nat} {f : Nat → Sl} (b : Bool) (i : Nat) (hi : i < 32) (w : World) (h : TabAt w T f) (ht : (f i).tk = false) :
    Calls Try.prog 34 #[.pointer (some ⟨T, 0, none⟩), .int .i64 i, .bool b] w fun e w' => e = .returned (.int .i64 9) ∧ w' = w := by
  have hs := slot_in i hi w h
  rw [ht] at hs
  have hs' := Lib.hid hs
  clear hs ht h
  simp only [Bool.false_eq_true, if_false] at hs'
  go_enter Try.func34, Try.ntmps34
  go_wp2_with (go_at_call 50; refine hs'.out.mono ?_; rintro e w' ⟨rfl, rfl⟩)
  go_ret
  exact ⟨rfl, rfl⟩
theorem mark_in {T : Nat} {f : Nat → Sl} (b : Bool) (i : Nat) (hi : i < 32) (w : World) (h : TabAt w T f) (ht : (f i).tk = true) :
    Calls Try.prog 34 #[.pointer (some ⟨T, 0, none⟩), .int .i64 i, .bool b] w fun e w' => e = .returned (.int .i64 0) ∧ TabAt w' T (upd f i { f i with mr := b }) ∧ Frame T T w w' := by
  have hs := slot_in i hi w h
  rw [ht] at hs
  have hs' := Lib.hid hs
  have hp := Lib.hid (h.mark i hi b)
  have c1 := h.c1 i hi
  have f1 := h.fz (i * 3 + 1)
  clear hs ht h
  simp only [if_true] at hs'
  go_enter Try.func34, Try.ntmps34
  go_wp2_with (go_at_call 50; refine hs'.out.mono ?_; rintro e w' ⟨rfl, rfl⟩)
  go_ret
  exact ⟨rfl, hp.out, (Frame.refl T T _).setP _ _⟩

theorem marked_in {T : Nat} {f : Nat → Sl} (i : Nat) (hi : i < 32) (w : World) (h : TabAt w T f) :
    Calls Try.prog 41 #[.pointer (some ⟨T, 0, none⟩), .int .i64 i] w fun e w' => e = .returned (.bool ((f i).tk && (f i).mr)) ∧ w' = w := by
  have hs := slot_in i hi w h
  have c1 := h.c1 i hi
  clear h
  cases ht : (f i).tk
  · rw [ht] at hs
    have hs' := Lib.hid hs
    clear hs ht
    simp only [Bool.false_eq_true, if_false] at hs'
    go_enter Try.func41, Try.ntmps41
    go_wp2_with (go_at_call 50; refine hs'.out.mono ?_; rintro e w' ⟨rfl, rfl⟩)
    go_ret
    exact ⟨rfl, rfl⟩
  · rw [ht] at hs
    have hs' := Lib.hid hs
    clear hs ht
    simp only [if_true] at hs'
    go_enter Try.func41, Try.ntmps41
    go_wp2_with (go_at_call 50; refine hs'.out.mono ?_; rintro e w' ⟨rfl, rfl⟩)
    go_ret
    exact ⟨rfl, rfl⟩
end

end Go.Proofs.Ytifoanmoadogoaa
