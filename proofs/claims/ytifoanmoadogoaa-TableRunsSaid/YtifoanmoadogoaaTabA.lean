/- A table of 32 slots in memory, and the contracts of its small calls: isNumber, slot, New, Put, Get, Cut; also of no table. Condition: the table's cells are as stated. -/
import Derived.Test.YtifoanmoadogoaaPipeM
import Derived.Deep.QuietTactic
import Derived.BigQuiet
import Derived.Lib.Hide
import Derived.Deep.DeepCutAuto
import Derived.Deep.CutBlock
namespace Go.Proofs.Ytifoanmoadogoaa
open Go.RowKit

structure Sl where
  tk : Bool
  mr : Bool
  x : Int

def Sl.none : Sl := ⟨false, false, 0⟩
def upd (f : Nat → Sl) (i : Nat) (s : Sl) : Nat → Sl := fun j => if j = i then s else f j

structure TabAt (w : World) (T : Nat) (f : Nat → Sl) : Prop where
  c0 : ∀ i, i < 32 → w.cell? ⟨T, i * 3, none⟩ = some (.bool (f i).tk)
  c1 : ∀ i, i < 32 → w.cell? ⟨T, i * 3 + 1, none⟩ = some (.bool (f i).mr)
  c2 : ∀ i, i < 32 → w.cell? ⟨T, i * 3 + 2, none⟩ = some (.int .i64 (f i).x)
  fz : ∀ o, w.frozen? ⟨T, o, none⟩ = false

theorem TabAt.keep {w w' : World} {T : Nat} {f : Nat → Sl} (h : TabAt w T f) (k : w'.heap[T]? = w.heap[T]?) : TabAt w' T f :=
  ⟨fun i hi => (cell_of_heap (a := ⟨T, i * 3, none⟩) k).trans (h.c0 i hi), fun i hi => (cell_of_heap (a := ⟨T, i * 3 + 1, none⟩) k).trans (h.c1 i hi),
    fun i hi => (cell_of_heap (a := ⟨T, i * 3 + 2, none⟩) k).trans (h.c2 i hi), fun o => (frozen_of_heap (a := ⟨T, o, none⟩) k).trans (h.fz o)⟩

theorem TabAt.lt {w : World} {T : Nat} {f : Nat → Sl} (h : TabAt w T f) : T < w.heap.size := block_of_cell (h.c0 0 (by omega))

/-- Three stores: a slot. -/
theorem TabAt.put {w : World} {T : Nat} {f : Nat → Sl} (h : TabAt w T f) (i : Nat) (hi : i < 32) (s : Sl) :
    TabAt (((w.setCell ⟨T, i * 3, none⟩ (.bool s.tk)).setCell ⟨T, i * 3 + 1, none⟩ (.bool s.mr)).setCell ⟨T, i * 3 + 2, none⟩ (.int .i64 s.x)) T (upd f i s) := by
  refine ⟨fun j hj => ?_, fun j hj => ?_, fun j hj => ?_, fun o => by rw [World.frozen?_setCell, World.frozen?_setCell, World.frozen?_setCell]; exact h.fz o⟩
  · by_cases e : j = i
    · subst e
      rw [cell_set_ne (by omega), cell_set_ne (by omega), cell_set_same (h.c0 j hi) rfl]; simp [upd]
    · rw [cell_set_ne (by omega), cell_set_ne (by omega), cell_set_ne (by omega), h.c0 j hj]; simp [upd, e]
  · by_cases e : j = i
    · subst e
      rw [cell_set_ne (by omega), cell_set_same (u := .bool (f j).mr) (by rw [cell_set_ne (by omega)]; exact h.c1 j hi) rfl]; simp [upd]
    · rw [cell_set_ne (by omega), cell_set_ne (by omega), cell_set_ne (by omega), h.c1 j hj]; simp [upd, e]
  · by_cases e : j = i
    · subst e
      rw [cell_set_same (u := .int .i64 (f j).x) (by rw [cell_set_ne (by omega), cell_set_ne (by omega)]; exact h.c2 j hi) rfl]; simp [upd]
    · rw [cell_set_ne (by omega), cell_set_ne (by omega), cell_set_ne (by omega), h.c2 j hj]; simp [upd, e]

section
set_option maxHeartbeats 400000
theorem isNumber_any (fd : Int) (w : World) : Calls Try.prog 48 #[.int .i64 fd] w fun e w' => e = .returned (.bool (decide (0 ≤ fd ∧ fd < 32))) ∧ w' = w := by
  by_cases h1 : 0 ≤ fd
  · by_cases h2 : fd < 32
    · rw [decide_eq_true ⟨h1, h2⟩]
      go_enter Try.func48, Try.ntmps48
      go_wp2
      go_ret
      exact ⟨rfl, rfl⟩
    · rw [decide_eq_false (fun g => h2 g.2)]
      go_enter Try.func48, Try.ntmps48
      go_wp2
      go_ret
      exact ⟨rfl, rfl⟩
  · rw [decide_eq_false (fun g => h1 g.1)]
    go_enter Try.func48, Try.ntmps48
    go_wp2
    go_ret
    exact ⟨rfl, rfl⟩

theorem isNumber_b (fd : Int) (b : Bool) (hb : Hid (decide (0 ≤ fd ∧ fd < 32) = b)) (w : World) : Calls Try.prog 48 #[.int .i64 fd] w fun e w' => e = .returned (.bool b) ∧ w' = w :=
  (isNumber_any fd w).mono fun _ _ ⟨he, hw⟩ => ⟨by rw [he, hb.out], hw⟩

theorem slot_nil (fd : Int) (w : World) : Calls Try.prog 50 #[.pointer none, .int .i64 fd] w fun e w' => e = .returned (.pointer none) ∧ w' = w := by
  go_enter Try.func50, Try.ntmps50
  go_wp2
  go_ret
  exact ⟨rfl, rfl⟩

theorem slot_out {T : Nat} (fd : Int) (h : ¬ (0 ≤ fd ∧ fd < 32)) (w : World) : Calls Try.prog 50 #[.pointer (some ⟨T, 0, none⟩), .int .i64 fd] w fun e w' => e = .returned (.pointer none) ∧ w' = w := by
  have hb : Hid (decide (0 ≤ fd ∧ fd < 32) = false) := decide_eq_false h
  clear h
  go_enter Try.func50, Try.ntmps50
  go_wp2_with (go_at_call 48; refine (isNumber_b _ _ hb _).mono ?_; rintro e w' ⟨rfl, rfl⟩)
  go_ret
  exact ⟨rfl, rfl⟩

theorem slot_in {T : Nat} {f : Nat → Sl} (i : Nat) (hi : i < 32) (w : World) (h : TabAt w T f) :
    Calls Try.prog 50 #[.pointer (some ⟨T, 0, none⟩), .int .i64 i] w fun e w' => e = .returned (.pointer (if (f i).tk then some ⟨T, i * 3, none⟩ else none)) ∧ w' = w := by
  have hb : Hid (decide (0 ≤ (i : Int) ∧ (i : Int) < 32) = true) := decide_eq_true (by omega)
  have c0 := h.c0 i hi
  have hi' : (i : Int) < 32 := by omega
  clear h
  cases ht : (f i).tk
  · rw [ht] at c0
    clear ht
    go_enter Try.func50, Try.ntmps50
    go_wp2_with (go_at_call 48; refine (isNumber_b _ _ hb _).mono ?_; rintro e w' ⟨rfl, rfl⟩)
    go_ret
    exact ⟨rfl, rfl⟩
  · rw [ht] at c0
    clear ht
    go_enter Try.func50, Try.ntmps50
    go_wp2_with (go_at_call 48; refine (isNumber_b _ _ hb _).mono ?_; rintro e w' ⟨rfl, rfl⟩)
    go_ret
    exact ⟨rfl, rfl⟩
end
end Go.Proofs.Ytifoanmoadogoaa
