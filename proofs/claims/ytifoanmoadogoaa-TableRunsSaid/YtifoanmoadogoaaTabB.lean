/- The contracts of a table's New, Put, Get and Cut. Condition: the table's cells are as stated. -/
import Derived.Test.YtifoanmoadogoaaTabA
namespace Go.Proofs.Ytifoanmoadogoaa
open Go.RowKit

def tabZero : Array Value := (Array.range 96).map fun j => if j % 3 = 2 then .int .i64 0 else .bool false

theorem zero100 (w : World) : (zeroValue 100).run Try.prog w = .ok (.agg tabZero) w := by kernel_rfl

theorem tabZero_at (j : Nat) (hj : j < 96) : tabZero[j]? = some (if j % 3 = 2 then .int .i64 0 else .bool false) := by
  simp [tabZero, hj]

theorem heap_made (w : World) (o : Obj) : (w.alloc o).heap[w.heap.size]? = some o := by
  show (w.heap.push o)[w.heap.size]? = _
  simp

theorem tab_made (w : World) : TabAt (w.alloc (.cells tabZero 100)) w.heap.size (fun _ => Sl.none) := by
  have hB := heap_made w (.cells tabZero 100)
  refine ⟨fun i hi => ?_, fun i hi => ?_, fun i hi => ?_, fun o => by unfold World.frozen?; rw [hB]; simp⟩
  · simp only [World.cell?, hB]
    simp [tabZero_at (i * 3) (by omega), Sl.none]
  · simp only [World.cell?, hB]
    simp [tabZero_at (i * 3 + 1) (by omega), Sl.none]
  · simp only [World.cell?, hB]
    have : (i * 3 + 2) % 3 = 2 := by omega
    simp [tabZero_at (i * 3 + 2) (by omega), this, Sl.none]

set_option maxRecDepth 100000 in
set_option maxHeartbeats 400000 in
theorem tnew_any (w : World) : Calls Try.prog 25 #[] w fun e w' => e = .returned (.pointer (some ⟨w.heap.size, 0, none⟩)) ∧ TabAt w' w.heap.size (fun _ => Sl.none) ∧ Below w.heap.size w w' := by
  have hz := zero100
  go_enter Try.func25, Try.ntmps25
  go_wp2
  go_ret
  exact ⟨rfl, tab_made w, (Below.refl _ w).alloc (Nat.le_refl _) _⟩

section
set_option maxHeartbeats 400000
theorem get_nil (fd : Int) (w : World) : Calls Try.prog 30 #[.pointer none, .int .i64 fd] w fun e w' => e = .returned (.tuple #[.int .i64 0, .int .i64 9]) ∧ w' = w := by
  go_enter Try.func30, Try.ntmps30
  go_wp2_with (go_at_call 50; refine (slot_nil _ _).mono ?_; rintro e w' ⟨rfl, rfl⟩)
  go_ret2
  exact ⟨rfl, rfl⟩
theorem get_out {T : Nat} (fd : Int) (h : ¬ (0 ≤ fd ∧ fd < 32)) (w : World) : Calls Try.prog 30 #[.pointer (some ⟨T, 0, none⟩), .int .i64 fd] w fun e w' => e = .returned (.tuple #[.int .i64 0, .int .i64 9]) ∧ w' = w := by
  go_enter Try.func30, Try.ntmps30
  go_wp2_with (go_at_call 50; refine (slot_out _ h _).mono ?_; rintro e w' ⟨rfl, rfl⟩)
  go_ret2
  exact ⟨rfl, rfl⟩

/-- What a slot tells. -/
def Sl.val (s : Sl) : Int := if s.tk then s.x else 0
def Sl.err (s : Sl) : Int := if s.tk then 0 else 9

theorem get_in {T : Nat} {f : Nat → Sl} (i : Nat) (hi : i < 32) (w : World) (h : TabAt w T f) :
    Calls Try.prog 30 #[.pointer (some ⟨T, 0, none⟩), .int .i64 i] w fun e w' => e = .returned (.tuple #[.int .i64 (f i).val, .int .i64 (f i).err]) ∧ w' = w := by
  have hs := slot_in i hi w h
  have c2 := h.c2 i hi
  clear h
  unfold Sl.val Sl.err
  cases ht : (f i).tk
  · rw [ht] at hs
    have hs' := Lib.hid hs
    clear hs ht
    simp only [Bool.false_eq_true, if_false] at hs' ⊢
    go_enter Try.func30, Try.ntmps30
    go_wp2_with (go_at_call 50; refine hs'.out.mono ?_; rintro e w' ⟨rfl, rfl⟩)
    go_ret2
    exact ⟨rfl, rfl⟩
  · rw [ht] at hs
    have hs' := Lib.hid hs
    clear hs ht
    simp only [if_true] at hs' ⊢
    go_enter Try.func30, Try.ntmps30
    go_wp2_with (go_at_call 50; refine hs'.out.mono ?_; rintro e w' ⟨rfl, rfl⟩)
    go_ret2
    exact ⟨rfl, rfl⟩

theorem zero97 (w : World) : (zeroValue 97).run Try.prog w = .ok (.agg #[.bool false, .bool false, .int .i64 0]) w := by kernel_rfl

theorem cut_none {p : Option Addr} (fd : Int) (w : World) (hg : Hid (Calls Try.prog 30 #[.pointer p, .int .i64 fd] w fun e w' => e = .returned (.tuple #[.int .i64 0, .int .i64 9]) ∧ w' = w)) :
    Calls Try.prog 32 #[.pointer p, .int .i64 fd] w fun e w' => e = .returned (.tuple #[.int .i64 0, .int .i64 9]) ∧ w' = w := by
  go_enter Try.func32, Try.ntmps32
  go_wp2_with (go_at_call 30; refine hg.out.mono ?_; rintro e w' ⟨rfl, rfl⟩)
  go_ret2
  exact ⟨rfl, rfl⟩

theorem cut_in {T : Nat} {f : Nat → Sl} (i : Nat) (hi : i < 32) (w : World) (h : TabAt w T f) (ht : (f i).tk = true) :
    Calls Try.prog 32 #[.pointer (some ⟨T, 0, none⟩), .int .i64 i] w fun e w' => e = .returned (.tuple #[.int .i64 (f i).x, .int .i64 0]) ∧ TabAt w' T (upd f i Sl.none) ∧ Frame T T w w' := by
  have hg := get_in i hi w h
  have hi' : (i : Int) < 32 := by omega
  have c0 := h.c0 i hi
  have c1 := h.c1 i hi
  have c2 := h.c2 i hi
  have f0 := h.fz (i * 3)
  have f1 := h.fz (i * 3 + 1)
  have f2 := h.fz (i * 3 + 2)
  have hz := zero97
  have hp := Lib.hid (h.put i hi Sl.none)
  rw [Sl.val, Sl.err, ht, if_pos rfl, if_pos rfl] at hg
  have hg' := Lib.hid hg
  clear hg h ht
  go_enter Try.func32, Try.ntmps32
  go_wp2_with (go_at_call 30; refine hg'.out.mono ?_; rintro e w' ⟨rfl, rfl⟩)
  go_ret2
  exact ⟨rfl, hp.out, (((Frame.refl T T _).setP _ _).setP _ _).setP _ _⟩

theorem put_nil (x least : Int) (w : World) : Calls Try.prog 26 #[.pointer none, .int .i64 x, .int .i64 least] w fun e w' => e = .returned (.tuple #[.int .i64 0, .int .i64 9]) ∧ w' = w := by
  go_enter Try.func26, Try.ntmps26
  go_wp2
  go_ret2
  exact ⟨rfl, rfl⟩

theorem put_bad {T : Nat} (x least : Int) (h : ¬ (0 ≤ least ∧ least < 32)) (w : World) : Calls Try.prog 26 #[.pointer (some ⟨T, 0, none⟩), .int .i64 x, .int .i64 least] w fun e w' => e = .returned (.tuple #[.int .i64 0, .int .i64 22]) ∧ w' = w := by
  have hb : Hid (decide (0 ≤ least ∧ least < 32) = false) := decide_eq_false h
  clear h
  go_enter Try.func26, Try.ntmps26
  go_wp2_with (go_at_call 48; refine (isNumber_b _ _ hb _).mono ?_; rintro e w' ⟨rfl, rfl⟩)
  go_ret2
  exact ⟨rfl, rfl⟩

set_option maxHeartbeats 800000 in
theorem put_full {T : Nat} {f : Nat → Sl} (x : Int) (a : Nat) (ha : a < 32) (w : World) (h : TabAt w T f) (hf : Hid (∀ k, a ≤ k → k < 32 → (f k).tk = true)) :
    Calls Try.prog 26 #[.pointer (some ⟨T, 0, none⟩), .int .i64 x, .int .i64 a] w fun e w' => e = .returned (.tuple #[.int .i64 0, .int .i64 24]) ∧ w' = w := by
  have hb : Hid (decide (0 ≤ (a : Int) ∧ (a : Int) < 32) = true) := decide_eq_true (by omega)
  have hH := Lib.hid h
  clear h
  go_enter Try.func26, Try.ntmps26
  go_wp2_with (go_at_call 48; refine (isNumber_b _ _ hb _).mono ?_; rintro e w' ⟨rfl, rfl⟩)
  go_loop [8] (fun s8 => ∃ k : Nat, a ≤ k ∧ k ≤ 32 ∧ s8 = .int .i64 k) (fun s8 => 32 - (intOf s8).toNat)
  case atStart => exact ⟨a, Nat.le_refl _, by omega, rfl⟩
  case round =>
    obtain ⟨k, hk1, hk2, rfl⟩ := hrel
    by_cases hk : k < 32
    · have c0 := hH.out.c0 k hk
      rw [hf.out k hk1 hk] at c0
      have hk' : (k : Int) < 32 := by omega
      go_wp2
      go_round
      case rel => exact ⟨k + 1, by omega, by omega, by go_num⟩
      case measure => simp [intOf]; omega
    · go_wp2
      go_ret2
      exact ⟨rfl, rfl⟩

set_option maxHeartbeats 800000 in
theorem put_in {T : Nat} {f : Nat → Sl} (x : Int) (a j : Nat) (haj : a ≤ j) (hj : j < 32) (w : World) (h : TabAt w T f) (hf : Hid (∀ k, a ≤ k → k < j → (f k).tk = true)) (hfj : Hid ((f j).tk = false)) :
    Calls Try.prog 26 #[.pointer (some ⟨T, 0, none⟩), .int .i64 x, .int .i64 a] w fun e w' => e = .returned (.tuple #[.int .i64 j, .int .i64 0]) ∧ TabAt w' T (upd f j ⟨true, false, x⟩) ∧ Frame T T w w' := by
  have hb : Hid (decide (0 ≤ (a : Int) ∧ (a : Int) < 32) = true) := decide_eq_true (by omega)
  have hH := Lib.hid h
  clear h
  go_enter Try.func26, Try.ntmps26
  go_wp2_with (go_at_call 48; refine (isNumber_b _ _ hb _).mono ?_; rintro e w' ⟨rfl, rfl⟩)
  go_loop [8] (fun s8 => ∃ k : Nat, a ≤ k ∧ k ≤ j ∧ s8 = .int .i64 k) (fun s8 => 32 - (intOf s8).toNat)
  case atStart => exact ⟨a, Nat.le_refl _, by omega, rfl⟩
  case round =>
    obtain ⟨k, hk1, hk2, rfl⟩ := hrel
    have hk' : (k : Int) < 32 := by omega
    by_cases hk : k < j
    · have c0 := hH.out.c0 k (by omega)
      rw [hf.out k hk1 hk] at c0
      go_wp2
      go_round
      case rel => exact ⟨k + 1, by omega, by omega, by go_num⟩
      case measure => simp [intOf]; omega
    · obtain rfl : k = j := by omega
      have c0 := hH.out.c0 k hj
      rw [hfj.out] at c0
      have c1 := hH.out.c1 k hj
      have c2 := hH.out.c2 k hj
      have f0 := hH.out.fz (k * 3)
      have f1 := hH.out.fz (k * 3 + 1)
      have f2 := hH.out.fz (k * 3 + 2)
      have hz := zero97
      have hp := Lib.hid (hH.out.put k hj ⟨true, false, x⟩)
      go_wp2
      go_ret2
      exact ⟨rfl, hp.out, (((Frame.refl T T _).setP _ _).setP _ _).setP _ _⟩
end
end Go.Proofs.Ytifoanmoadogoaa
