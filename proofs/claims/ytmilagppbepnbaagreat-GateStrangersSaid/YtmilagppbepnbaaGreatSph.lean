/- A table of 32 slots in memory, and the contracts of its small calls: isNumber, slot, New, Put, Get, Cut; also of no table. Condition: the table's cells are as stated. -/
import Derived.Test.YtmilagppbepnbaaGreatSpc
import Derived.Deep.QuietTactic
import Derived.BigQuiet
import Derived.Lib.Hide
import Derived.Deep.DeepCutAuto
import Derived.Deep.CutBlock
import Derived.RangeFuncNested
import Derived.RangeFuncBound
import Derived.RangeFuncCalls
import Derived.RangeFuncLeaves
import Derived.RangeFuncFrom
import Derived.Shelf.Abstract
import Derived.Shelf.RegionOpen
import Derived.WalkKit
import Derived.OwnWalkIn
import Derived.TacticsInMore
import Derived.LoopNIn
import Derived.LoopIn
import Derived.Deep.WholeRow
import Derived.Deep.MidRow
import Derived.Maps.OwnIn
import Derived.Maps.AppendAt
namespace Go.Proofs.YtmilagppbepnbaaGreat.Pp
open Go.RowKit

structure Sl where
  tk : Bool
  mr : Bool
  x : Int

def Sl.none : Sl := ⟨false, false, 0⟩
def upd (f : Nat → Sl) (i : Nat) (s : Sl) : Nat → Sl := fun j => if j = i then s else f j

structure TabAt (w : World) (T : Nat) (f : Nat → Sl) : Prop where
  c0 : ∀ i, i < 32 → w.cell? ⟨T, i * 3, none⟩ = some (.bool (f i).tk)
  c1 : ∀ i, i < 32 → w.cell? ⟨T, i * 3 + 1, none⟩ = some (.bool (f i).mr)
  c2 : ∀ i, i < 32 → w.cell? ⟨T, i * 3 + 2, none⟩ = some (.int .i64 (f i).x)
  fz : ∀ o, w.frozen? ⟨T, o, none⟩ = false

theorem TabAt.keep {w w' : World} {T : Nat} {f : Nat → Sl} (h : TabAt w T f) (k : w'.heap[T]? = w.heap[T]?) : TabAt w' T f :=
  ⟨fun i hi => (cell_of_heap (a := ⟨T, i * 3, none⟩) k).trans (h.c0 i hi), fun i hi => (cell_of_heap (a := ⟨T, i * 3 + 1, none⟩) k).trans (h.c1 i hi),
    fun i hi => (cell_of_heap (a := ⟨T, i * 3 + 2, none⟩) k).trans (h.c2 i hi), fun o => (frozen_of_heap (a := ⟨T, o, none⟩) k).trans (h.fz o)⟩

theorem TabAt.lt {w : World} {T : Nat} {f : Nat → Sl} (h : TabAt w T f) : T < w.heap.size := block_of_cell (h.c0 0 (by omega))

/-- Three stores: a slot. -/
theorem TabAt.put {w : World} {T : Nat} {f : Nat → Sl} (h : TabAt w T f) (i : Nat) (hi : i < 32) (s : Sl) :
    TabAt (((w.setCell ⟨T, i * 3, none⟩ (.bool s.tk)).setCell ⟨T, i * 3 + 1, none⟩ (.bool s.mr)).setCell ⟨T, i * 3 + 2, none⟩ (.int .i64 s.x)) T (upd f i s) := by
  refine ⟨fun j hj => ?_, fun j hj => ?_, fun j hj => ?_, fun o => by rw [World.frozen?_setCell, World.frozen?_setCell, World.frozen?_setCell]; exact h.fz o⟩
  · by_cases e : j = i
    · subst e
      rw [cell_set_ne (by omega), cell_set_ne (by omega), cell_set_same (h.c0 j hi) rfl]; simp [upd]
    · rw [cell_set_ne (by omega), cell_set_ne (by omega), cell_set_ne (by omega), h.c0 j hj]; simp [upd, e]
  · by_cases e : j = i
    · subst e
      rw [cell_set_ne (by omega), cell_set_same (u := .bool (f j).mr) (by rw [cell_set_ne (by omega)]; exact h.c1 j hi) rfl]; simp [upd]
    · rw [cell_set_ne (by omega), cell_set_ne (by omega), cell_set_ne (by omega), h.c1 j hj]; simp [upd, e]
  · by_cases e : j = i
    · subst e
      rw [cell_set_same (u := .int .i64 (f j).x) (by rw [cell_set_ne (by omega), cell_set_ne (by omega)]; exact h.c2 j hi) rfl]; simp [upd]
    · rw [cell_set_ne (by omega), cell_set_ne (by omega), cell_set_ne (by omega), h.c2 j hj]; simp [upd, e]

section
set_option maxHeartbeats 400000
theorem isNumber_any (fd : Int) (w : World) : Calls Tryz.prog 103 #[.int .i64 fd] w fun e w' => e = .returned (.bool (decide (0 ≤ fd ∧ fd < 32))) ∧ w' = w := by
  by_cases h1 : 0 ≤ fd
  · by_cases h2 : fd < 32
    · rw [decide_eq_true ⟨h1, h2⟩]
      go_enter Tryz.func103, Tryz.ntmps103
      go_wp2
      go_ret
      exact ⟨rfl, rfl⟩
    · rw [decide_eq_false (fun g => h2 g.2)]
      go_enter Tryz.func103, Tryz.ntmps103
      go_wp2
      go_ret
      exact ⟨rfl, rfl⟩
  · rw [decide_eq_false (fun g => h1 g.1)]
    go_enter Tryz.func103, Tryz.ntmps103
    go_wp2
    go_ret
    exact ⟨rfl, rfl⟩

theorem isNumber_b (fd : Int) (b : Bool) (hb : Hid (decide (0 ≤ fd ∧ fd < 32) = b)) (w : World) : Calls Tryz.prog 103 #[.int .i64 fd] w fun e w' => e = .returned (.bool b) ∧ w' = w :=
  (isNumber_any fd w).mono fun _ _ ⟨he, hw⟩ => ⟨by rw [he, hb.out], hw⟩


theorem slot_out {T : Nat} (fd : Int) (h : ¬ (0 ≤ fd ∧ fd < 32)) (w : World) : Calls Tryz.prog 96 #[.pointer (some ⟨T, 0, none⟩), .int .i64 fd] w fun e w' => e = .returned (.pointer none) ∧ w' = w := by
  have hb : Hid (decide (0 ≤ fd ∧ fd < 32) = false) := decide_eq_false h
  clear h
  go_enter Tryz.func96, Tryz.ntmps96
  go_wp2_with (go_at_call 103; refine (isNumber_b _ _ hb _).mono ?_; rintro e w' ⟨rfl, rfl⟩)
  go_ret
  exact ⟨rfl, rfl⟩

theorem slot_in {T : Nat} {f : Nat → Sl} (i : Nat) (hi : i < 32) (w : World) (h : TabAt w T f) :
    Calls Tryz.prog 96 #[.pointer (some ⟨T, 0, none⟩), .int .i64 i] w fun e w' => e = .returned (.pointer (if (f i).tk then some ⟨T, i * 3, none⟩ else none)) ∧ w' = w := by
  have hb : Hid (decide (0 ≤ (i : Int) ∧ (i : Int) < 32) = true) := decide_eq_true (by omega)
  have c0 := h.c0 i hi
  have hi' : (i : Int) < 32 := by omega
  clear h
  cases ht : (f i).tk
  · rw [ht] at c0
    clear ht
    go_enter Tryz.func96, Tryz.ntmps96
    go_wp2_with (go_at_call 103; refine (isNumber_b _ _ hb _).mono ?_; rintro e w' ⟨rfl, rfl⟩)
    go_ret
    exact ⟨rfl, rfl⟩
  · rw [ht] at c0
    clear ht
    go_enter Tryz.func96, Tryz.ntmps96
    go_wp2_with (go_at_call 103; refine (isNumber_b _ _ hb _).mono ?_; rintro e w' ⟨rfl, rfl⟩)
    go_ret
    exact ⟨rfl, rfl⟩
end
end Go.Proofs.YtmilagppbepnbaaGreat.Pp
/- The contracts of a table's New, Put, Get and Cut. Condition: the table's cells are as stated. -/
namespace Go.Proofs.YtmilagppbepnbaaGreat.Pp
open Go.RowKit

def tabZero : Array Value := (Array.range 96).map fun j => if j % 3 = 2 then .int .i64 0 else .bool false

theorem zero100 (w : World) : (zeroValue 163).run Tryz.prog w = .ok (.agg tabZero) w := by kernel_rfl

theorem tabZero_at (j : Nat) (hj : j < 96) : tabZero[j]? = some (if j % 3 = 2 then .int .i64 0 else .bool false) := by
  simp [tabZero, hj]

theorem heap_made (w : World) (o : Obj) : (w.alloc o).heap[w.heap.size]? = some o := by
  show (w.heap.push o)[w.heap.size]? = _
  simp

theorem tab_made (w : World) : TabAt (w.alloc (.cells tabZero 163)) w.heap.size (fun _ => Sl.none) := by
  have hB := heap_made w (.cells tabZero 163)
  refine ⟨fun i hi => ?_, fun i hi => ?_, fun i hi => ?_, fun o => by unfold World.frozen?; rw [hB]; simp⟩
  · simp only [World.cell?, hB]
    simp [tabZero_at (i * 3) (by omega), Sl.none]
  · simp only [World.cell?, hB]
    simp [tabZero_at (i * 3 + 1) (by omega), Sl.none]
  · simp only [World.cell?, hB]
    have : (i * 3 + 2) % 3 = 2 := by omega
    simp [tabZero_at (i * 3 + 2) (by omega), this, Sl.none]

set_option maxRecDepth 100000 in
set_option maxHeartbeats 400000 in
theorem tnew_any (w : World) : Calls Tryz.prog 28 #[] w fun e w' => e = .returned (.pointer (some ⟨w.heap.size, 0, none⟩)) ∧ TabAt w' w.heap.size (fun _ => Sl.none) ∧ Below w.heap.size w w' := by
  have hz := zero100
  go_enter Tryz.func28, Tryz.ntmps28
  go_wp2
  go_ret
  exact ⟨rfl, tab_made w, (Below.refl _ w).alloc (Nat.le_refl _) _⟩

section
set_option maxHeartbeats 400000
theorem get_out {T : Nat} (fd : Int) (h : ¬ (0 ≤ fd ∧ fd < 32)) (w : World) : Calls Tryz.prog 188 #[.pointer (some ⟨T, 0, none⟩), .int .i64 fd] w fun e w' => e = .returned (.tuple #[.int .i64 0, .int .i64 9]) ∧ w' = w := by
  go_enter Tryz.func188, Tryz.ntmps188
  go_wp2_with (go_at_call 96; refine (slot_out _ h _).mono ?_; rintro e w' ⟨rfl, rfl⟩)
  go_ret2
  exact ⟨rfl, rfl⟩

/-- What a slot tells. -/
def Sl.val (s : Sl) : Int := if s.tk then s.x else 0
def Sl.err (s : Sl) : Int := if s.tk then 0 else 9

theorem get_in {T : Nat} {f : Nat → Sl} (i : Nat) (hi : i < 32) (w : World) (h : TabAt w T f) :
    Calls Tryz.prog 188 #[.pointer (some ⟨T, 0, none⟩), .int .i64 i] w fun e w' => e = .returned (.tuple #[.int .i64 (f i).val, .int .i64 (f i).err]) ∧ w' = w := by
  have hs := slot_in i hi w h
  have c2 := h.c2 i hi
  clear h
  unfold Sl.val Sl.err
  cases ht : (f i).tk
  · rw [ht] at hs
    have hs' := Lib.hid hs
    clear hs ht
    simp only [Bool.false_eq_true, if_false] at hs' ⊢
    go_enter Tryz.func188, Tryz.ntmps188
    go_wp2_with (go_at_call 96; refine hs'.out.mono ?_; rintro e w' ⟨rfl, rfl⟩)
    go_ret2
    exact ⟨rfl, rfl⟩
  · rw [ht] at hs
    have hs' := Lib.hid hs
    clear hs ht
    simp only [if_true] at hs' ⊢
    go_enter Tryz.func188, Tryz.ntmps188
    go_wp2_with (go_at_call 96; refine hs'.out.mono ?_; rintro e w' ⟨rfl, rfl⟩)
    go_ret2
    exact ⟨rfl, rfl⟩

theorem zero97 (w : World) : (zeroValue 160).run Tryz.prog w = .ok (.agg #[.bool false, .bool false, .int .i64 0]) w := by kernel_rfl

theorem cut_none {p : Option Addr} (fd : Int) (w : World) (hg : Hid (Calls Tryz.prog 188 #[.pointer p, .int .i64 fd] w fun e w' => e = .returned (.tuple #[.int .i64 0, .int .i64 9]) ∧ w' = w)) :
    Calls Tryz.prog 198 #[.pointer p, .int .i64 fd] w fun e w' => e = .returned (.tuple #[.int .i64 0, .int .i64 9]) ∧ w' = w := by
  go_enter Tryz.func198, Tryz.ntmps198
  go_wp2_with (go_at_call 188; refine hg.out.mono ?_; rintro e w' ⟨rfl, rfl⟩)
  go_ret2
  exact ⟨rfl, rfl⟩

theorem cut_in {T : Nat} {f : Nat → Sl} (i : Nat) (hi : i < 32) (w : World) (h : TabAt w T f) (ht : (f i).tk = true) :
    Calls Tryz.prog 198 #[.pointer (some ⟨T, 0, none⟩), .int .i64 i] w fun e w' => e = .returned (.tuple #[.int .i64 (f i).x, .int .i64 0]) ∧ TabAt w' T (upd f i Sl.none) ∧ Frame T T w w' := by
  have hg := get_in i hi w h
  have hi' : (i : Int) < 32 := by omega
  have c0 := h.c0 i hi
  have c1 := h.c1 i hi
  have c2 := h.c2 i hi
  have f0 := h.fz (i * 3)
  have f1 := h.fz (i * 3 + 1)
  have f2 := h.fz (i * 3 + 2)
  have hz := zero97
  have hp := Lib.hid (h.put i hi Sl.none)
  rw [Sl.val, Sl.err, ht, if_pos rfl, if_pos rfl] at hg
  have hg' := Lib.hid hg
  clear hg h ht
  go_enter Tryz.func198, Tryz.ntmps198
  go_wp2_with (go_at_call 188; refine hg'.out.mono ?_; rintro e w' ⟨rfl, rfl⟩)
  go_ret2
  exact ⟨rfl, hp.out, (((Frame.refl T T _).setP _ _).setP _ _).setP _ _⟩


theorem put_bad {T : Nat} (x least : Int) (h : ¬ (0 ≤ least ∧ least < 32)) (w : World) : Calls Tryz.prog 59 #[.pointer (some ⟨T, 0, none⟩), .int .i64 x, .int .i64 least] w fun e w' => e = .returned (.tuple #[.int .i64 0, .int .i64 22]) ∧ w' = w := by
  have hb : Hid (decide (0 ≤ least ∧ least < 32) = false) := decide_eq_false h
  clear h
  go_enter Tryz.func59, Tryz.ntmps59
  go_wp2_with (go_at_call 103; refine (isNumber_b _ _ hb _).mono ?_; rintro e w' ⟨rfl, rfl⟩)
  go_ret2
  exact ⟨rfl, rfl⟩

set_option maxHeartbeats 800000 in
theorem put_full {T : Nat} {f : Nat → Sl} (x : Int) (a : Nat) (ha : a < 32) (w : World) (h : TabAt w T f) (hf : Hid (∀ k, a ≤ k → k < 32 → (f k).tk = true)) :
    Calls Tryz.prog 59 #[.pointer (some ⟨T, 0, none⟩), .int .i64 x, .int .i64 a] w fun e w' => e = .returned (.tuple #[.int .i64 0, .int .i64 24]) ∧ w' = w := by
  have hb : Hid (decide (0 ≤ (a : Int) ∧ (a : Int) < 32) = true) := decide_eq_true (by omega)
  have hH := Lib.hid h
  clear h
  go_enter Tryz.func59, Tryz.ntmps59
  go_wp2_with (go_at_call 103; refine (isNumber_b _ _ hb _).mono ?_; rintro e w' ⟨rfl, rfl⟩)
  go_loop [8] (fun s8 => ∃ k : Nat, a ≤ k ∧ k ≤ 32 ∧ s8 = .int .i64 k) (fun s8 => 32 - (intOf s8).toNat)
  case atStart => exact ⟨a, Nat.le_refl _, by omega, rfl⟩
  case round =>
    obtain ⟨k, hk1, hk2, rfl⟩ := hrel
    by_cases hk : k < 32
    · have c0 := hH.out.c0 k hk
      rw [hf.out k hk1 hk] at c0
      have hk' : (k : Int) < 32 := by omega
      go_wp2
      go_round
      case rel => exact ⟨k + 1, by omega, by omega, by go_num⟩
      case measure => simp [intOf]; omega
    · go_wp2
      go_ret2
      exact ⟨rfl, rfl⟩

set_option maxHeartbeats 800000 in
theorem put_in {T : Nat} {f : Nat → Sl} (x : Int) (a j : Nat) (haj : a ≤ j) (hj : j < 32) (w : World) (h : TabAt w T f) (hf : Hid (∀ k, a ≤ k → k < j → (f k).tk = true)) (hfj : Hid ((f j).tk = false)) :
    Calls Tryz.prog 59 #[.pointer (some ⟨T, 0, none⟩), .int .i64 x, .int .i64 a] w fun e w' => e = .returned (.tuple #[.int .i64 j, .int .i64 0]) ∧ TabAt w' T (upd f j ⟨true, false, x⟩) ∧ Frame T T w w' := by
  have hb : Hid (decide (0 ≤ (a : Int) ∧ (a : Int) < 32) = true) := decide_eq_true (by omega)
  have hH := Lib.hid h
  clear h
  go_enter Tryz.func59, Tryz.ntmps59
  go_wp2_with (go_at_call 103; refine (isNumber_b _ _ hb _).mono ?_; rintro e w' ⟨rfl, rfl⟩)
  go_loop [8] (fun s8 => ∃ k : Nat, a ≤ k ∧ k ≤ j ∧ s8 = .int .i64 k) (fun s8 => 32 - (intOf s8).toNat)
  case atStart => exact ⟨a, Nat.le_refl _, by omega, rfl⟩
  case round =>
    obtain ⟨k, hk1, hk2, rfl⟩ := hrel
    have hk' : (k : Int) < 32 := by omega
    by_cases hk : k < j
    · have c0 := hH.out.c0 k (by omega)
      rw [hf.out k hk1 hk] at c0
      go_wp2
      go_round
      case rel => exact ⟨k + 1, by omega, by omega, by go_num⟩
      case measure => simp [intOf]; omega
    · obtain rfl : k = j := by omega
      have c0 := hH.out.c0 k hj
      rw [hfj.out] at c0
      have c1 := hH.out.c1 k hj
      have c2 := hH.out.c2 k hj
      have f0 := hH.out.fz (k * 3)
      have f1 := hH.out.fz (k * 3 + 1)
      have f2 := hH.out.fz (k * 3 + 2)
      have hz := zero97
      have hp := Lib.hid (hH.out.put k hj ⟨true, false, x⟩)
      go_wp2
      go_ret2
      exact ⟨rfl, hp.out, (((Frame.refl T T _).setP _ _).setP _ _).setP _ _⟩
end
end Go.Proofs.YtmilagppbepnbaaGreat.Pp
/- The iterator All of a table, and Free. Condition: the table's cells are as stated. -/
namespace Go.Proofs.YtmilagppbepnbaaGreat.Pp
open Go.RowKit Go.Shelf
attribute [local go_sem] Oper.semAt_some

/-- What has come when the slots below k have been gone through. -/
def upto (f : Nat → Sl) : Nat → List (Fin 32 × Int)
  | 0 => []
  | k + 1 => if h : k < 32 then (if (f k).tk then upto f k ++ [(⟨k, h⟩, (f k).x)] else upto f k) else upto f k

theorem upto_len (f : Nat → Sl) (k : Nat) : (upto f k).length ≤ k := by
  induction k with
  | zero => simp [upto]
  | succ k ih =>
    unfold upto
    split
    · split
      · simp; omega
      · omega
    · omega

theorem upto_mono (f : Nat → Sl) {k m : Nat} (h : k ≤ m) : upto f k <+: upto f m := by
  induction m with
  | zero =>
    have : k = 0 := by omega
    rw [this]
    exact List.prefix_refl _
  | succ m ih =>
    by_cases e : k = m + 1
    · subst e; exact List.prefix_refl _
    · refine (ih (by omega)).trans ?_
      rw [upto]
      split
      · split
        · exact List.prefix_append _ _
        · exact List.prefix_refl _
      · exact List.prefix_refl _

theorem upto_yes {f : Nat → Sl} {k : Nat} (h : k < 32) (ht : (f k).tk = true) : upto f (k + 1) = upto f k ++ [(⟨k, h⟩, (f k).x)] := by
  rw [upto, dif_pos h, if_pos ht]
theorem upto_no {f : Nat → Sl} {k : Nat} (ht : (f k).tk = false) : upto f (k + 1) = upto f k := by
  rw [upto]; split
  · rw [if_neg (by rw [ht]; decide)]
  · rfl

abbrev encT (x : Fin 32 × Int) : Array Value := #[.int .i64 (x.1.1 : Nat), .int .i64 x.2]

set_option maxHeartbeats 400000 in
theorem all_any (p : Option Addr) (w : World) : Calls Tryz.prog 51 #[.pointer p] w fun e w' => e = .returned (.func (.func 95) #[] #[.pointer (some ⟨w.heap.size, 0, none⟩)]) ∧ w' = w.alloc (.cells #[.pointer p] 81) := by
  go_enter Tryz.func51, Tryz.ntmps51
  go_wp2
  go_ret
  exact ⟨rfl, rfl⟩

/-- What a round keeps: what lies below n₀, and the block that holds the table's address. -/
def KeepT (n₀ Bn : Nat) (W W' : World) : Prop := Below n₀ W W' ∧ W'.heap[Bn]? = W.heap[Bn]?

theorem keepT_t {n₀ Bn : Nat} {A B C : World} (h : KeepT n₀ Bn A B) (k : KeepT n₀ Bn B C) : KeepT n₀ Bn A C := ⟨h.1.trans k.1, k.2.trans h.2⟩
theorem keepT_b {n₀ Bn : Nat} {w : World} (hn : n₀ ≤ w.heap.size) (hB : Bn < w.heap.size) (W : World) (l : Nat) (o o' : Obj) (hl : w.heap.size ≤ l) (h : W.heap[l]? = some o) (h1 : o.isCells = false) (h2 : o.isWalk = false) : KeepT n₀ Bn W (W.putObj l o') :=
  ⟨belowK_b hn W l o o' hl h h1 h2, World.putObj_heap_other (by omega)⟩

set_option maxRecDepth 100000 in
set_option maxHeartbeats 1000000 in
theorem all53_in (n : Nat) (hn : 1 ≤ n) (l Bn n₀ T : Nat) (f : Nat → Sl) (J Jx : List (Fin 32 × Int) → World → Prop)
    (hY : ∀ pre x W, J pre W → pre.length < 32 → YieldAt Fence.wide (n - 1) Tryz.prog l (encT x) W fun e W' =>
      (e = .returned (.bool true) ∧ J (pre ++ [x]) W' ∧ KeepT n₀ Bn W W') ∨ (e = .returned (.bool false) ∧ Jx (pre ++ [x]) W'))
    (W : World) (hBn : W.cell? ⟨Bn, 0, none⟩ = some (.pointer (some ⟨T, 0, none⟩))) (hT : TabAt W T f) (hT0 : T < n₀) (h0 : J [] W) :
    CallsIn Fence.wide n Tryz.prog 95 #[.func (.yield l) #[] #[], .pointer (some ⟨Bn, 0, none⟩)] W fun e W' => (∃ v, e = .returned v) ∧
      ((∃ ys, ys = upto f 32 ∧ J ys W') ∨ (∃ pre, pre <+: upto f 32 ∧ Jx pre W')) := by
  refine callsIn_of_wp Tryz.func95 rfl trivial ?_ rfl
  simp only [Tryz.ntmps95, List.size_toArray, List.length_cons, List.length_nil, Nat.reduceAdd, Nat.reduceSub, Array.replicate_succ, Array.replicate_zero, List.push_toArray, List.append_toArray, List.nil_append, List.cons_append]
  gi_wp2
  gi_loopw [5] (fun s5 wr => ∃ k : Nat, k ≤ 32 ∧ s5 = .int .i64 k ∧ wr.cell? ⟨Bn, 0, none⟩ = some (.pointer (some ⟨T, 0, none⟩)) ∧ TabAt wr T f ∧ J (upto f k) wr) (fun s5 _ => 32 - (intOf s5).toNat)
  case atStart => exact ⟨0, by omega, rfl, hBn, hT, h0⟩
  case round =>
    obtain ⟨k, hk, rfl, hb, ht, hJ⟩ := hrel
    have hTH := Lib.hid ht
    have hJH := Lib.hid hJ
    by_cases hk2 : k < 32
    · have hk' : (k : Int) < 32 := by omega
      cases htk : (f k).tk
      · have hs := slot_in k hk2 wr ht
        rw [htk] at hs
        simp only [Bool.false_eq_true, if_false] at hs
        have hs' := Lib.hid hs
        have hno := Lib.hid (upto_no htk)
        clear hs ht hJ htk
        gi_wp2_with (refine ⟨trivial, ?_⟩; gi_at_call 96; refine (callsIn_wide.2 hs'.out).mono ?_; rintro e w' ⟨rfl, rfl⟩)
        refine ⟨fun _ h => (by cases h), ?_⟩
        gi_wp2
        go_roundw
        case rel => exact ⟨k + 1, by omega, by go_num, hb, hTH.out, by rw [hno.out]; exact hJH.out⟩
        case measure => simp [intOf]; omega
      · have hs := slot_in k hk2 wr ht
        rw [htk] at hs
        simp only [if_true] at hs
        have hs' := Lib.hid hs
        have hyes := Lib.hid (upto_yes hk2 htk)
        have c2 := ht.c2 k hk2
        obtain ⟨fn, tmps, assign, body, hy, hR⟩ := hY (upto f k) (⟨k, hk2⟩, (f k).x) wr hJ (by have := upto_len f k; omega)
        dsimp only [encT] at hy
        have hRH := Lib.hid hR
        have hpre := Lib.hid (upto_mono f (show k + 1 ≤ 32 by omega))
        clear hs ht hJ htk hR
        gi_wp2_with (refine ⟨trivial, ?_⟩; gi_at_call 96; refine (callsIn_wide.2 hs'.out).mono ?_; rintro e w' ⟨rfl, rfl⟩)
        refine hRH.out.mono ?_
        rintro e W3 (⟨rfl, hJ3, hk3⟩ | ⟨rfl, hJx3⟩)
        · have hb3 := (cell_of_heap (a := ⟨Bn, 0, none⟩) hk3.2).trans hb
          have hT3 := Lib.hid (hTH.out.keep (hk3.1.block T hT0))
          have hJ3' := Lib.hid hJ3
          clear hJ3 hk3
          gi_wp2
          go_roundw
          case rel => exact ⟨k + 1, by omega, by go_num, hb3, hT3.out, by rw [hyes.out]; exact hJ3'.out⟩
          case measure => simp [intOf]; omega
        · have hJx' := Lib.hid hJx3
          clear hJx3
          gi_wp2
          refine bodyPost_ret (results_none rfl _ _ _) rfl ?_
          exact ⟨⟨_, rfl⟩, .inr ⟨_, by have := hpre.out; rw [hyes.out] at this; exact this, hJx'.out⟩⟩
    · obtain rfl : k = 32 := by omega
      gi_wp2
      go_end0
      exact ⟨⟨_, rfl⟩, .inl ⟨_, rfl, hJ⟩⟩

theorem all_stops (n : Nat) (hn : 1 ≤ n) (Bn n₀ T : Nat) (f : Nat → Sl) (w : World) (hnw : n₀ ≤ w.heap.size) (hB0 : Bn < w.heap.size) (hBn : w.cell? ⟨Bn, 0, none⟩ = some (.pointer (some ⟨T, 0, none⟩))) (hT0 : T < n₀) (hT : TabAt w T f) :
    SeqStopsK Fence.wide n Tryz.prog 95 #[.pointer (some ⟨Bn, 0, none⟩)] encT (KeepT n₀ Bn) (fun xs => xs = upto f 32) (fun pre => pre <+: upto f 32) 32 w := by
  intro l J Jx W hW _ _ hY h0
  exact all53_in n hn l Bn n₀ T f J Jx hY W ((hW.cell (p := ⟨Bn, 0, none⟩) hB0).trans hBn) (hT.keep (hW.block T (by omega))) hT0 h0
end Go.Proofs.YtmilagppbepnbaaGreat.Pp
/- Free of a table, and of none. Condition: the table's cells are as stated. -/
namespace Go.Proofs.YtmilagppbepnbaaGreat.Pp
open Go.RowKit Go.Shelf
attribute [local go_sem] Oper.semAt_some

theorem cell_new_at (w : World) (v : Value) (t : TypeId) : (w.alloc (.cells #[v] t)).cell? ⟨w.heap.size, 0, none⟩ = some v ∧ (w.alloc (.cells #[v] t)).frozen? ⟨w.heap.size, 0, none⟩ = false := by
  have h := heap_made w (.cells #[v] t)
  exact ⟨by simp only [World.cell?, h]; rfl, by unfold World.frozen?; rw [h]; simp⟩


set_option maxRecDepth 100000 in
set_option maxHeartbeats 2000000 in
theorem free_in (n : Nat) (hn : 3 ≤ n) (T : Nat) (f : Nat → Sl) (w : World) (hT : TabAt w T f) :
    CallsIn Fence.wide n Tryz.prog 194 #[.pointer (some ⟨T, 0, none⟩)] w fun e w' => e = .returned (.int .i64 (32 - (upto f 32).length)) ∧ Below w.heap.size w w' := by
  have h1 : 1 ≤ n := by omega
  have hTl := hT.lt
  have hTH := Lib.hid hT
  clear hT
  refine callsIn_of_wp_marks Tryz.func194 rfl trivial ?_ rfl
  simp only [Tryz.ntmps194, List.size_toArray, List.length_cons, List.length_nil, Nat.reduceAdd, Nat.reduceSub, Array.replicate_succ, Array.replicate_zero, List.push_toArray, List.append_toArray, List.nil_append, List.cons_append]
  gi_wp2_with (refine ⟨trivial, ?_⟩; gi_at_call 51; refine (callsIn_wide.2 (all_any _ _)).mono ?_; rintro e w' ⟨rfl, rfl⟩)
  have hs := cell_new_at w (.int .i64 32) 3
  have hb := cell_new_at (w.alloc (.cells #[.int .i64 32] 3)) (.pointer (some ⟨T, 0, none⟩)) 81
  rw [World.size_alloc] at hb
  have hs' : ((w.alloc (.cells #[.int .i64 32] 3)).alloc (.cells #[.pointer (some ⟨T, 0, none⟩)] 81)).cell? ⟨w.heap.size, 0, none⟩ = some (.int .i64 32) ∧
      ((w.alloc (.cells #[.int .i64 32] 3)).alloc (.cells #[.pointer (some ⟨T, 0, none⟩)] 81)).frozen? ⟨w.heap.size, 0, none⟩ = false :=
    ⟨(cell_of_heap (a := ⟨w.heap.size, 0, none⟩) (Below.heap_alloc _ _ _ (by simp))).trans hs.1, (frozen_of_heap (a := ⟨w.heap.size, 0, none⟩) (Below.heap_alloc _ _ _ (by simp))).trans hs.2⟩
  have hB0 : Below w.heap.size w ((w.alloc (.cells #[.int .i64 32] 3)).alloc (.cells #[.pointer (some ⟨T, 0, none⟩)] 81)) := ((Below.refl _ w).alloc (Nat.le_refl _) _).alloc (by simp) _
  refine wpIn_rangeFunc_ownF rfl h1 (gf := 95) (lb := #[.pointer (some ⟨w.heap.size + 1, 0, none⟩)]) rfl trivial (enters_of Tryz.func95 (by kernel_rfl) rfl)
    (all_stops (n - 1) (by omega) (w.heap.size + 1) w.heap.size T f _ (by simp; omega) (by simp) hb.1 hTl (hTH.out.keep (hB0.block T hTl))) (fun h k => keepT_t h k) (keepT_b (by simp; omega) (by simp)) (Below.refl _ _) (fun _ => rfl)
    (fun pre W => (W.cell? ⟨w.heap.size, 0, none⟩ = some (.int .i64 (32 - pre.length)) ∧ W.frozen? ⟨w.heap.size, 0, none⟩ = false) ∧ Below w.heap.size w W)
    (fun _ _ _ => False)
    (OwnFrom.and (Own.from (fun s A B row hs hg hr => ⟨cell_kept hs.1 hg hr, (frozen_kept hs.1 hg hr).trans hs.2⟩) _) (ownFrom_below (Nat.le_refl _) (by simp; omega)))
    (fun _ _ _ _ _ hs _ _ => hs)
    ⟨⟨hs'.1, hs'.2⟩, hB0⟩
    (fun x => { tmps := #[.pointer (some ⟨T, 0, none⟩), undef, .int .i64 0, .pointer (some ⟨w.heap.size, 0, none⟩), .pointer (some ⟨T, 0, none⟩), .bool false, .pointer (some ⟨T, 0, none⟩), .func (.func 95) #[] #[.pointer (some ⟨w.heap.size + 1, 0, none⟩)], .int .i64 (x.1.1 : Nat), .int .i64 x.2, undef, undef, undef], defers := [] }) ?assign ?body ?done ?stop
  case assign =>
    intro l x W K hK
    gi_wp2
    simpa [encT] using hK
  case body =>
    rintro l pre x W ⟨⟨hc, hf⟩, hB⟩ hlen
    have hlen' : (pre.length : Int) < 32 := by omega
    have hcH := Lib.hid hc
    gi_wp2
    refine ⟨KeepsOthers.setCell _ _ _, ⟨(Below.refl w.heap.size W).setCell (p := ⟨w.heap.size, 0, none⟩) (Nat.le_refl _) _, Below.heap_setCell _ _ _ _ (by simp)⟩, ⟨?_, by rw [World.frozen?_setCell]; exact hf⟩, hB.setCell (p := ⟨w.heap.size, 0, none⟩) (Nat.le_refl _) _⟩
    rw [cell_set_same hcH.out rfl]
    simp
    omega
  case done =>
    rintro D ys W hD rfl ⟨⟨hc, _⟩, hB⟩ hK
    gi_wp2
    refine ⟨by simp, .inl ⟨_, _, rfl, run_takeDeferred hK, ?_⟩⟩
    exact ⟨_, results_tmp rfl _ _ _, rfl, hB.trans (belowK_b (w := w) (Nat.le_refl _) W D _ _ (by simp at hD; omega) hK rfl rfl)⟩
  case stop =>
    rintro D c pre W _ _ h _
    exact h.elim

theorem free_any {T : Nat} {f : Nat → Sl} (w : World) (hT : TabAt w T f) : Calls Tryz.prog 194 #[.pointer (some ⟨T, 0, none⟩)] w fun e w' => e = .returned (.int .i64 (32 - (upto f 32).length)) ∧ Below w.heap.size w w' :=
  callsIn_wide.1 (free_in 3 (Nat.le_refl _) T f w hT)
end Go.Proofs.YtmilagppbepnbaaGreat.Pp
/- A range over a function whose iterator has blocks of its own: a law of the statement. The iterator tells which blocks are its own (T); the body leaves them as they lay; the caller's invariant abides what the iterator does to them. So an iterator may itself range over an iterator. No condition. -/
namespace Go.Proofs.YtmilagppbepnbaaGreat.Pp
open Go.RowKit

/-- What an iterator may do between two rounds: turn its own blocks, and make new ones. -/
structure Ext (T : List Nat) (A : World) (T' : List Nat) (B : World) : Prop where
  os : B.os = A.os
  tape : B.tape = A.tape
  output : B.output = A.output
  size : A.heap.size ≤ B.heap.size
  block : ∀ k, k < A.heap.size → k ∉ T → B.heap[k]? = A.heap[k]?
  new : ∀ k, k ∈ T' → k ∈ T ∨ (A.heap.size ≤ k ∧ k < B.heap.size)

theorem Ext.cons {T T' : List Nat} {A B : World} (h : Ext T A T' B) (j : Nat) : Ext (j :: T) A (j :: T') B :=
  ⟨h.os, h.tape, h.output, h.size, fun k hk hj => h.block k hk (fun e => hj (List.mem_cons_of_mem _ e)), fun k hk => by
    rcases List.mem_cons.1 hk with rfl | hk
    · exact .inl (List.mem_cons_self ..)
    · rcases h.new k hk with e | e
      · exact .inl (List.mem_cons_of_mem _ e)
      · exact .inr e⟩
theorem Ext.below {T : List Nat} {A B : World} (h : Below A.heap.size A B) : Ext T A T B := ⟨h.os, h.tape, h.output, h.size, fun k hk _ => h.block k hk, fun _ h => .inl h⟩
theorem Ext.put {T : List Nat} {A : World} {l : Nat} (hl : l ∈ T) (o : Obj) : Ext T A T (A.putObj l o) :=
  ⟨rfl, rfl, rfl, by simp [World.putObj], fun k _ hk => World.putObj_heap_other (fun e => hk (e ▸ hl)), fun _ h => .inl h⟩

/-- The iterator's own blocks lie as they lay. -/
structure Keeps (T : List Nat) (A B : World) : Prop where
  size : A.heap.size ≤ B.heap.size
  block : ∀ k, k ∈ T → k < A.heap.size → B.heap[k]? = A.heap[k]?

/-- An invariant abides what the iterator does. -/
def Abide {α : Type} (I : List Nat → List α → World → Prop) : Prop := ∀ T T' pre A B, I T pre A → Ext T A T' B → I T' pre B

/-- The contract of an iterator with blocks of its own. -/
def SeqT {α : Type} (F : Fence) (n : Nat) (P : Program) (g : Nat) (lb : Array Value) (encs : α → Array Value) (Kp : List α → α → World → World → Prop) (S Sp : List α → Prop) (w : World) : Prop :=
  ∀ (l : Nat) (J Jx : List Nat → List α → World → Prop) (W : World), Below w.heap.size w W → Abide J → Abide Jx →
    (∀ T pre x W1, Sp (pre ++ [x]) → J T pre W1 → YieldAt F (n - 1) P l (encs x) W1 fun e W' =>
      (e = .returned (.bool true) ∧ J T (pre ++ [x]) W' ∧ Keeps T W1 W' ∧ Kp pre x W1 W') ∨ (e = .returned (.bool false) ∧ Jx T (pre ++ [x]) W' ∧ Keeps T W1 W')) →
    J [] [] W →
    CallsIn F n P g (#[.func (.yield l) #[] #[]] ++ lb) W fun e W' => (∃ v, e = .returned v) ∧ ((∃ T xs, S xs ∧ J T xs W') ∨ (∃ T pre, Sp pre ∧ Jx T pre W'))

/-- How a body ends. -/
def postT {α : Type} (Kp : World → World → Prop) (I : List Nat → List α → World → Prop) (Ix : Code → List Nat → List α → World → Prop) (T : List Nat) (xs : List α) (W : World) : Exit → Act → World → Prop
  | .normal, _, W' => I T xs W' ∧ Keeps T W W' ∧ Kp W W'
  | .ret, _, W' => Ix .ret T xs W' ∧ Keeps T W W'
  | .exit id, _, W' => Ix (.exit id) T xs W' ∧ Keeps T W W'
  | .goto t, _, W' => Ix (.goto t) T xs W' ∧ Keeps T W W'
  | .panic _, _, _ => False
  | .outgrown, _, _ => False

variable {F : Fence} {n : Nat} {P : Program}

theorem range_law {α : Type} {g : Operand} {ps : Array Tmp} {assign body : Code} {Q : Exit → Act → World → Prop} {a : Act} {w : World}
    (hro : F.round = none) (h1 : 1 ≤ n) {gf : Nat} {lb : Array Value} (hg : a.eval g = .func (.func gf) #[] lb) (hFg : F.fn gf) (eg : ∀ args w, (callFunc gf args).run P w = .ok (.enter gf args) w)
    {encs : α → Array Value} {Kp : List α → α → World → World → Prop} {S Sp : List α → Prop} {w0 : World} (hseq : SeqT F (n - 1) P gf lb encs Kp S Sp w0)
    (hKb : ∀ pre x (A B : World) (k : Nat) (o o' : Obj), w.heap.size ≤ k → Kp pre x (A.putObj k o) B → Kp pre x A (B.putObj k o')) (hb0 : Below w0.heap.size w0 w) (hps : ∀ x, (encs x).size = ps.size)
    (I : List Nat → List α → World → Prop) (Ix : Code → List Nat → List α → World → Prop) (hI : Abide I) (hIx : ∀ c, Abide (Ix c)) (h0 : I [] [] w) (a₁ : α → World → Act) (W₁ : α → World → World) (hW₁ : ∀ x W, Below W.heap.size W (W₁ x W)) (hKa : ∀ pre x A B, Kp pre x (W₁ x A) B → Kp pre x A B)
    (hassign : ∀ (l : Nat) (x : α) (W : World) (K : Act → World → Prop), K (a₁ x W) (W₁ x W) →
      assign.wpIn (F.inRound l) (n - 1 - 1) P (Exit.then K (fun _ _ _ => False)) { tmps := (ps.zip (encs x)).foldl (fun t (p, v) => t.setIfInBounds p v) a.tmps, defers := [] } W)
    (hbody : ∀ (l : Nat) (T : List Nat) (pre : List α) (x : α) (W W' : World) (o : Obj), Sp (pre ++ [x]) → I T pre W → l < W.heap.size → W' = (W₁ x W).putObj l o → I T pre W' → body.wpIn (F.inRound l) (n - 1 - 1) P (postT (Kp pre x) I Ix T (pre ++ [x]) W') (a₁ x W) W')
    (hdone : ∀ (D : Nat) (T : List Nat) (xs : List α) (W : World), w.heap.size ≤ D → D ∈ T → S xs → I T xs W → W.heap[D]? = some (.deferred (some [])) → Q .normal { a with defers := { target := .collected D, args := #[] } :: a.defers } W)
    (hstop : ∀ (D : Nat) (c : Code) (T : List Nat) (pre : List α) (W : World), w.heap.size ≤ D → D ∈ T → Sp pre → Ix c T pre W → W.heap[D]? = some (.deferred (some [])) → c.wpIn F n P Q { a with defers := { target := .collected D, args := #[] } :: a.defers } W) :
    (Code.rangeFunc g ps assign body).wpIn F n P Q a w := by
  refine wpIn_rangeFunc ?_
  intro fn hfn
  rw [hro]
  obtain ⟨d, hd⟩ : ∃ d, w.heap.size = d := ⟨_, rfl⟩
  obtain ⟨rec, hrec⟩ : ∃ rec : LoopState → Option Code → Loop, rec = fun st pe => { state := st, pending := pe, fn, tmps := a.tmps, params := ps, assign, body, defers := w.heap.size } := ⟨_, rfl⟩
  obtain ⟨W1, hW1⟩ : ∃ W1, (w.alloc (.deferred (some []))).alloc (.loop (rec .ready none)) = W1 := ⟨_, rfl⟩
  have hs1 : W1.heap.size = d + 2 := by rw [← hW1, ← hd]; simp
  have hL1 : W1.heap[d + 1]? = some (.loop (rec .ready none)) := by
    rw [← hW1, ← hd]
    have := World.alloc_heap_new (w.alloc (.deferred (some []))) (.loop (rec .ready none))
    rwa [World.size_alloc] at this
  have hD1 : W1.heap[d]? = some (.deferred (some [])) := by
    rw [← hW1, ← hd]
    exact (Below.heap_alloc _ _ _ (by simp)).trans (World.alloc_heap_new w _)
  have hbel : Below w.heap.size w W1 := by rw [← hW1]; exact ((Below.refl _ w).alloc (Nat.le_refl _) _).alloc (by simp) _
  have hI1 : I [d + 1, d] [] W1 := hI _ _ _ _ _ h0 ⟨hbel.os, hbel.tape, hbel.output, hbel.size, fun k hk _ => hbel.block k hk, fun k hk => .inr (by
    rcases List.mem_cons.1 hk with rfl | hk
    · omega
    · rcases List.mem_cons.1 hk with rfl | hk
      · omega
      · cases hk)⟩
  refine ⟨d + 1, [{ target := .collected d, args := #[] }], W1, { target := .fn (.func gf) lb, args := #[.func (.yield (d + 1)) #[] #[]] }, W1, gf, #[.func (.yield (d + 1)) #[] #[]] ++ lb, W1, ?_, ?_, ?_, ?_, fun _ => h1, ?_⟩
  · rw [← hW1, hrec, ← hd]; exact run_enterLoop_outer _ _ _ _ _
  · simp only [resolve, hg]
    simp [go_sem]
  · intro f' hf'; simp [Target.leads] at hf'; subst hf'; exact hFg
  · simp [invoke, go_sem, eg]
  have hb1 : Below w0.heap.size w0 W1 := hb0.trans (hbel.mono hb0.size)
  have keepRec : ∀ {T T' : List Nat} {A B : World} {st : Loop}, Ext T A T' B → A.heap[d + 1]? = some (.loop st) → A.heap[d]? = some (.deferred (some [])) → (∀ k ∈ T, d + 2 ≤ k) →
      B.heap[d + 1]? = some (.loop st) ∧ B.heap[d]? = some (.deferred (some [])) ∧ ∀ k ∈ T', d + 2 ≤ k := fun {T T' A B st} he hl hk hT => by
    have hlt := (Array.getElem?_eq_some_iff.1 hl).1
    refine ⟨(he.block (d + 1) hlt (fun e => by have := hT _ e; omega)).trans hl, (he.block d (by omega) (fun e => by have := hT _ e; omega)).trans hk, fun k hk => ?_⟩
    rcases he.new k hk with e | e
    · exact hT k e
    · omega
  refine (hseq (d + 1)
    (fun T pre W => I ((d + 1) :: d :: T) pre W ∧ W.heap[d + 1]? = some (.loop (rec .ready none)) ∧ W.heap[d]? = some (.deferred (some [])) ∧ ∀ k ∈ T, d + 2 ≤ k)
    (fun T pre W => ∃ c, Ix c ((d + 1) :: d :: T) pre W ∧ W.heap[d + 1]? = some (.loop (rec .done (some c))) ∧ W.heap[d]? = some (.deferred (some [])) ∧ ∀ k ∈ T, d + 2 ≤ k)
    W1 hb1
    (fun T T' pre A B hs he => by
      obtain ⟨hi, hl, hk, hT⟩ := hs
      exact ⟨hI _ _ _ _ _ hi ((he.cons d).cons (d + 1)), keepRec he hl hk hT⟩)
    (fun T T' pre A B hs he => by
      obtain ⟨c, hi, hl, hk, hT⟩ := hs
      exact ⟨c, hIx c _ _ _ _ _ hi ((he.cons d).cons (d + 1)), keepRec he hl hk hT⟩)
    ?_ ⟨hI1, hL1, hD1, fun k hk => by cases hk⟩).mono ?_
  · rintro T pre x W hsp ⟨hi, hl, hk, hT⟩
    have hlt : d + 1 < W.heap.size := (Array.getElem?_eq_some_iff.1 hl).1
    have hy := run_yield (P := P) (args := encs x) hl (by rw [hrec]; exact hps x)
    rw [hrec] at hy
    have hx1 := hW₁ x W
    have hlx : (W₁ x W).heap[d + 1]? = some (.loop (rec .ready none)) := (hx1.block _ hlt).trans hl
    have hltx : d + 1 < (W₁ x W).heap.size := (Array.getElem?_eq_some_iff.1 hlx).1
    refine ⟨fn, _, assign, body, hy, roundIn_of_wpIn hfn (hassign _ x W _ ⟨_, run_beginRound hlx (by rw [hrec]), ?_⟩)⟩
    obtain ⟨Wb, hWb⟩ : ∃ Wb, (W₁ x W).putObj (d + 1) (.loop { rec .ready none with state := .busy }) = Wb := ⟨_, rfl⟩
    have hl2 : Wb.heap[d + 1]? = some (.loop { rec .ready none with state := .busy }) := by rw [← hWb]; exact World.putObj_heap_same hltx
    have hfar : ∀ k, k < W.heap.size → k ≠ d + 1 → Wb.heap[k]? = W.heap[k]? := fun k hks hk => by rw [← hWb]; exact (World.putObj_heap_other hk).trans (hx1.block k hks)
    have hk2 : Wb.heap[d]? = some (.deferred (some [])) := (hfar d (by omega) (by omega)).trans hk
    have hsb : W.heap.size ≤ Wb.heap.size := by rw [← hWb]; have := hx1.size; simpa [World.putObj] using this
    have hib : I ((d + 1) :: d :: T) pre Wb := by rw [← hWb]; exact hI _ _ _ _ _ (hI _ _ _ _ _ hi (.below hx1)) (.put (List.mem_cons_self ..) _)
    rw [hWb]
    refine wpIn_mono (hbody _ ((d + 1) :: d :: T) pre x W Wb _ hsp hi hlt hWb.symm hib) ?_
    have fin : ∀ (jump : Option Code) (W3 : World), Keeps ((d + 1) :: d :: T) Wb W3 →
        (Instr.endRound (d + 1) jump).run P W3 = .ok (.bool jump.isNone) (W3.putObj (d + 1) (.loop (rec (if jump.isNone then .ready else .done) jump))) ∧
        (W3.putObj (d + 1) (.loop (rec (if jump.isNone then .ready else .done) jump))).heap[d + 1]? = some (.loop (rec (if jump.isNone then .ready else .done) jump)) ∧
        (W3.putObj (d + 1) (.loop (rec (if jump.isNone then .ready else .done) jump))).heap[d]? = some (.deferred (some [])) ∧
        Keeps T W (W3.putObj (d + 1) (.loop (rec (if jump.isNone then .ready else .done) jump))) := fun jump W3 hk3 => by
      have hl3 := (hk3.block (d + 1) (List.mem_cons_self ..) (by omega)).trans hl2
      have hd3 := (hk3.block d (List.mem_cons_of_mem _ (List.mem_cons_self ..)) (by omega)).trans hk2
      have := run_endRound (P := P) jump hl3
      rw [hrec] at this ⊢
      refine ⟨this, World.putObj_heap_same (Array.getElem?_eq_some_iff.1 hl3).1, (World.putObj_heap_other (by omega)).trans hd3, ?_, fun k hk hks => ?_⟩
      · have := hk3.size
        simp [World.putObj]
        omega
      · have hkd : k ≠ d + 1 := fun e => by have := hT k hk; omega
        exact (World.putObj_heap_other hkd).trans ((hk3.block k (List.mem_cons_of_mem _ (List.mem_cons_of_mem _ hk)) (by omega)).trans (hfar k hks hkd))
    rintro e a3 W3 hp
    cases e with
    | normal =>
      obtain ⟨hi3, hk3, hkp3⟩ := hp
      obtain ⟨hr, hl4, hd4, hk4⟩ := fin none W3 hk3
      refine ⟨_, _, hr, .inl ⟨rfl, ⟨hI _ _ _ _ _ hi3 (.put (List.mem_cons_self ..) _), hl4, hd4, hT⟩, hk4, ?_⟩⟩
      rw [← hWb] at hkp3
      exact hKa pre x W _ (hKb pre x (W₁ x W) W3 (d + 1) _ _ (by omega) hkp3)
    | ret =>
      obtain ⟨hi3, hk3⟩ := hp
      obtain ⟨hr, hl4, hd4, hk4⟩ := fin (some .ret) W3 hk3
      exact ⟨_, _, hr, .inr ⟨rfl, ⟨.ret, hIx _ _ _ _ _ _ hi3 (.put (List.mem_cons_self ..) _), hl4, hd4, hT⟩, hk4⟩⟩
    | exit id =>
      obtain ⟨hi3, hk3⟩ := hp
      obtain ⟨hr, hl4, hd4, hk4⟩ := fin (some (.exit id)) W3 hk3
      exact ⟨_, _, hr, .inr ⟨rfl, ⟨.exit id, hIx _ _ _ _ _ _ hi3 (.put (List.mem_cons_self ..) _), hl4, hd4, hT⟩, hk4⟩⟩
    | goto c =>
      obtain ⟨hi3, hk3⟩ := hp
      obtain ⟨hr, hl4, hd4, hk4⟩ := fin (some (.goto c)) W3 hk3
      exact ⟨_, _, hr, .inr ⟨rfl, ⟨.goto c, hIx _ _ _ _ _ _ hi3 (.put (List.mem_cons_self ..) _), hl4, hd4, hT⟩, hk4⟩⟩
    | panic ch => exact hp.elim
    | outgrown => exact hp.elim
  · rintro e W2 ⟨⟨v, rfl⟩, (⟨T, xs, hS, hi, hl, hk, hT⟩ | ⟨T, pre, hSp, c, hi, hl, hk, hT⟩)⟩
    · exact ⟨none, _, by have := run_endLoop (P := P) hl (by rw [hrec]; simp); rw [hrec] at this; exact this,
        hdone d ((d + 1) :: d :: T) xs _ (by omega) (List.mem_cons_of_mem _ (List.mem_cons_self ..)) hS (hI _ _ _ _ _ hi (.put (List.mem_cons_self ..) _)) ((World.putObj_heap_other (by omega)).trans hk)⟩
    · exact ⟨some c, _, by have := run_endLoop (P := P) hl (by rw [hrec]; simp); rw [hrec] at this; exact this,
        hstop d c ((d + 1) :: d :: T) pre _ (by omega) (List.mem_cons_of_mem _ (List.mem_cons_self ..)) hSp (hIx c _ _ _ _ _ hi (.put (List.mem_cons_self ..) _)) ((World.putObj_heap_other (by omega)).trans hk)⟩

end Go.Proofs.YtmilagppbepnbaaGreat.Pp
/- The iterator All of a table, whose slots may be cut as they come. Condition: the table's cells are as stated. -/
namespace Go.Proofs.YtmilagppbepnbaaGreat.Pp
open Go.RowKit Go.Shelf
attribute [local go_sem] Oper.semAt_some

/-- What a round keeps: the block that holds the table's address, and the slots behind the one that came. -/
def KeepX (T Bn : Nat) (_ : List (Fin 32 × Int)) (x : Fin 32 × Int) (A B : World) : Prop :=
  B.heap[Bn]? = A.heap[Bn]? ∧ ∀ f, TabAt A T f → ∃ g, TabAt B T g ∧ ∀ i, x.1.1 < i → g i = f i
theorem keepX_b {T Bn : Nat} {w0 : World} (hT : T < w0.heap.size) (hB : Bn < w0.heap.size) (pre : List (Fin 32 × Int)) (x : Fin 32 × Int) (A B : World) (k : Nat) (o o' : Obj) (hk : w0.heap.size ≤ k) (h : KeepX T Bn pre x (A.putObj k o) B) : KeepX T Bn pre x A (B.putObj k o') := by
  refine ⟨(World.putObj_heap_other (by omega)).trans (h.1.trans (World.putObj_heap_other (by omega))), fun f hf => ?_⟩
  obtain ⟨g, h1, h2⟩ := h.2 f (hf.keep (World.putObj_heap_other (by omega)))
  exact ⟨g, h1.keep (World.putObj_heap_other (by omega)), h2⟩

set_option maxRecDepth 100000 in
set_option maxHeartbeats 1000000 in
theorem all53_x (n : Nat) (hn : 1 ≤ n) (l Bn T : Nat) (f : Nat → Sl) (J Jx : List Nat → List (Fin 32 × Int) → World → Prop)
    (hY : ∀ U pre x W, pre ++ [x] <+: upto f 32 → J U pre W → YieldAt Fence.wide (n - 1) Tryz.prog l (encT x) W fun e W' =>
      (e = .returned (.bool true) ∧ J U (pre ++ [x]) W' ∧ Keeps U W W' ∧ KeepX T Bn pre x W W') ∨ (e = .returned (.bool false) ∧ Jx U (pre ++ [x]) W' ∧ Keeps U W W'))
    (W : World) (hBn : W.cell? ⟨Bn, 0, none⟩ = some (.pointer (some ⟨T, 0, none⟩))) (hT : TabAt W T f) (h0 : J [] [] W) :
    CallsIn Fence.wide n Tryz.prog 95 #[.func (.yield l) #[] #[], .pointer (some ⟨Bn, 0, none⟩)] W fun e W' => (∃ v, e = .returned v) ∧
      ((∃ U ys, ys = upto f 32 ∧ J U ys W') ∨ (∃ U pre, pre <+: upto f 32 ∧ Jx U pre W')) := by
  refine callsIn_of_wp Tryz.func95 rfl trivial ?_ rfl
  simp only [Tryz.ntmps95, List.size_toArray, List.length_cons, List.length_nil, Nat.reduceAdd, Nat.reduceSub, Array.replicate_succ, Array.replicate_zero, List.push_toArray, List.append_toArray, List.nil_append, List.cons_append]
  gi_wp2
  gi_loopw [5] (fun s5 wr => ∃ k : Nat, k ≤ 32 ∧ s5 = .int .i64 k ∧ wr.cell? ⟨Bn, 0, none⟩ = some (.pointer (some ⟨T, 0, none⟩)) ∧ (∃ g, TabAt wr T g ∧ ∀ i, k ≤ i → g i = f i) ∧ J [] (upto f k) wr) (fun s5 _ => 32 - (intOf s5).toNat)
  case atStart => exact ⟨0, by omega, rfl, hBn, ⟨f, hT, fun _ _ => rfl⟩, h0⟩
  case round =>
    obtain ⟨k, hk, rfl, hb, ⟨g, ht, hg⟩, hJ⟩ := hrel
    have hTH := Lib.hid ht
    have hJH := Lib.hid hJ
    have hgH := Lib.hid hg
    by_cases hk2 : k < 32
    · have hk' : (k : Int) < 32 := by omega
      have hgk := hg k (Nat.le_refl _)
      cases htk : (f k).tk
      · have hs := slot_in k hk2 wr ht
        rw [hgk, htk] at hs
        simp only [Bool.false_eq_true, if_false] at hs
        have hs' := Lib.hid hs
        have hno := Lib.hid (upto_no htk)
        clear hs ht hJ htk hg hgk
        gi_wp2_with (refine ⟨trivial, ?_⟩; gi_at_call 96; refine (callsIn_wide.2 hs'.out).mono ?_; rintro e w' ⟨rfl, rfl⟩)
        refine ⟨fun _ h => (by cases h), ?_⟩
        gi_wp2
        go_roundw
        case rel => exact ⟨k + 1, by omega, by go_num, hb, ⟨g, hTH.out, fun i hi => hgH.out i (by omega)⟩, by rw [hno.out]; exact hJH.out⟩
        case measure => simp [intOf]; omega
      · have hs := slot_in k hk2 wr ht
        rw [hgk, htk] at hs
        simp only [if_true] at hs
        have hs' := Lib.hid hs
        have hyes := Lib.hid (upto_yes hk2 htk)
        have c2 := ht.c2 k hk2
        rw [hgk] at c2
        have hpre0 := upto_mono f (show k + 1 ≤ 32 by omega)
        obtain ⟨fn, tmps, assign, body, hy, hR⟩ := hY [] (upto f k) (⟨k, hk2⟩, (f k).x) wr (by rw [upto_yes hk2 htk] at hpre0; exact hpre0) hJ
        dsimp only [encT] at hy
        have hRH := Lib.hid hR
        have hpre := Lib.hid hpre0
        clear hs ht hJ htk hR hg hgk hpre0
        gi_wp2_with (refine ⟨trivial, ?_⟩; gi_at_call 96; refine (callsIn_wide.2 hs'.out).mono ?_; rintro e w' ⟨rfl, rfl⟩)
        refine hRH.out.mono ?_
        rintro e W3 (⟨rfl, hJ3, _, hk3⟩ | ⟨rfl, hJx3, _⟩)
        · have hb3 := (cell_of_heap (a := ⟨Bn, 0, none⟩) hk3.1).trans hb
          obtain ⟨g3, hT3, hg3⟩ := hk3.2 g hTH.out
          have hT3' := Lib.hid hT3
          have hg3' := Lib.hid hg3
          have hJ3' := Lib.hid hJ3
          clear hJ3 hk3 hT3 hg3
          gi_wp2
          go_roundw
          case rel => exact ⟨k + 1, by omega, by go_num, hb3, ⟨g3, hT3'.out, fun i hi => (hg3'.out i (by show k < i; omega)).trans (hgH.out i (by omega))⟩, by rw [hyes.out]; exact hJ3'.out⟩
          case measure => simp [intOf]; omega
        · have hJx' := Lib.hid hJx3
          clear hJx3
          gi_wp2
          refine bodyPost_ret (results_none rfl _ _ _) rfl ?_
          exact ⟨⟨_, rfl⟩, .inr ⟨_, _, by have := hpre.out; rw [hyes.out] at this; exact this, hJx'.out⟩⟩
    · obtain rfl : k = 32 := by omega
      gi_wp2
      go_end0
      exact ⟨⟨_, rfl⟩, .inl ⟨_, _, rfl, hJ⟩⟩

theorem all_x (n : Nat) (hn : 1 ≤ n) (Bn T : Nat) (f : Nat → Sl) (w : World) (hB0 : Bn < w.heap.size) (hBn : w.cell? ⟨Bn, 0, none⟩ = some (.pointer (some ⟨T, 0, none⟩))) (hT : TabAt w T f) :
    SeqT Fence.wide n Tryz.prog 95 #[.pointer (some ⟨Bn, 0, none⟩)] encT (KeepX T Bn) (fun xs => xs = upto f 32) (fun pre => pre <+: upto f 32) w := by
  intro l J Jx W hW _ _ hY h0
  exact all53_x n hn l Bn T f J Jx hY W ((hW.cell (p := ⟨Bn, 0, none⟩) hB0).trans hBn) (hT.keep (hW.block T hT.lt)) h0
end Go.Proofs.YtmilagppbepnbaaGreat.Pp
/- The contracts of a table's Set, Mark and Marked. Condition: the table's cells are as stated. -/
namespace Go.Proofs.YtmilagppbepnbaaGreat.Pp
open Go.RowKit
attribute [local go_sem] Oper.semAt_some

section
set_option maxHeartbeats 400000
theorem set_out {T : Nat} (fd x : Int) (h : ¬ (0 ≤ fd ∧ fd < 32)) (w : World) : Calls Tryz.prog 199 #[.pointer (some ⟨T, 0, none⟩), .int .i64 fd, .int .i64 x] w fun e w' => e = .returned (.tuple #[.int .i64 0, .bool false, .int .i64 9]) ∧ w' = w := by
  have hb : Hid (decide (0 ≤ fd ∧ fd < 32) = false) := decide_eq_false h
  clear h
  go_enter Tryz.func199, Tryz.ntmps199
  go_wp2_with (go_at_call 103; refine (isNumber_b _ _ hb _).mono ?_; rintro e w' ⟨rfl, rfl⟩)
  go_ret3
  exact ⟨rfl, rfl⟩

theorem set_in {T : Nat} {f : Nat → Sl} (x : Int) (i : Nat) (hi : i < 32) (w : World) (h : TabAt w T f) :
    Calls Tryz.prog 199 #[.pointer (some ⟨T, 0, none⟩), .int .i64 i, .int .i64 x] w fun e w' => e = .returned (.tuple #[.int .i64 (f i).x, .bool (f i).tk, .int .i64 0]) ∧ TabAt w' T (upd f i ⟨true, false, x⟩) ∧ Frame T T w w' := by
  have hb : Hid (decide (0 ≤ (i : Int) ∧ (i : Int) < 32) = true) := decide_eq_true (by omega)
  have hi' : (i : Int) < 32 := by omega
  have hTl := h.lt
  have c0 := h.c0 i hi
  have c1 := h.c1 i hi
  have c2 := h.c2 i hi
  have f0 := h.fz (i * 3)
  have f1 := h.fz (i * 3 + 1)
  have f2 := h.fz (i * 3 + 2)
  have hne : T ≠ w.heap.size := by omega
  have hz := zero97
  obtain ⟨w3, hw3⟩ : ∃ w3, (((w.setCell ⟨T, i * 3, none⟩ (.bool true)).setCell ⟨T, i * 3 + 1, none⟩ (.bool false)).setCell ⟨T, i * 3 + 2, none⟩ (.int .i64 x)) = w3 := ⟨_, rfl⟩
  have hs3 : w3.heap.size = w.heap.size := by rw [← hw3]; simp [World.setCell]
  obtain ⟨wq, hwq⟩ : ∃ wq, w3.alloc (.cells #[.bool (f i).tk, .bool (f i).mr, .int .i64 (f i).x] 160) = wq := ⟨_, rfl⟩
  have hm := heap_made w3 (.cells #[.bool (f i).tk, .bool (f i).mr, .int .i64 (f i).x] 160)
  rw [hwq, hs3] at hm
  have q0 : wq.cell? ⟨w.heap.size, 0, none⟩ = some (.bool (f i).tk) := by simp only [World.cell?, hm]; rfl
  have q2 : wq.cell? ⟨w.heap.size, 2, none⟩ = some (.int .i64 (f i).x) := by simp only [World.cell?, hm]; rfl
  have hp0 := h.put i hi ⟨true, false, x⟩
  rw [hw3] at hp0
  have hp := Lib.hid (hwq ▸ hp0.keep (Below.heap_alloc w3 (.cells #[.bool (f i).tk, .bool (f i).mr, .int .i64 (f i).x] 160) T hp0.lt))
  have hF0 : Frame T T w w3 := by rw [← hw3]; exact (((Frame.refl T T w).setP _ _).setP _ _).setP _ _
  have hF := Lib.hid (hwq ▸ hF0.alloc (.cells #[.bool (f i).tk, .bool (f i).mr, .int .i64 (f i).x] 160))
  have hwH := Lib.hid (hw3.symm ▸ hwq)
  clear h hp0 hF0 hs3 hm hwq hw3
  go_enter Tryz.func199, Tryz.ntmps199
  go_wp2_with (go_at_call 103; refine (isNumber_b _ _ hb _).mono ?_; rintro e w' ⟨rfl, rfl⟩)
  rw [hwH.out]
  clear hwH c0 c1 c2 f0 f1 f2
  go_quiet (fail)
  go_wp2
  go_ret3
  exact ⟨rfl, hp.out.keep rfl, hF.out.drewN _⟩

theorem mark_out {T : Nat} (fd : Int) (b : Bool) (h : ¬ (0 ≤ fd ∧ fd < 32)) (w : World) : Calls Tryz.prog 145 #[.pointer (some ⟨T, 0, none⟩), .int .i64 fd, .bool b] w fun e w' => e = .returned (.int .i64 9) ∧ w' = w := by
  go_enter Tryz.func145, Tryz.ntmps145
  go_wp2_with (go_at_call 96; refine (slot_out _ h _).mono ?_; rintro e w' ⟨rfl, rfl⟩)
  go_ret
  exact ⟨rfl, rfl⟩

theorem TabAt.mark {w : World} {T : Nat} {f : Nat → Sl} (h : TabAt w T f) (i : Nat) (hi : i < 32) (b : Bool) : TabAt (w.setCell ⟨T, i * 3 + 1, none⟩ (.bool b)) T (upd f i { f i with mr := b }) := by
  refine ⟨fun j hj => ?_, fun j hj => ?_, fun j hj => ?_, fun o => by rw [World.frozen?_setCell]; exact h.fz o⟩
  · rw [cell_set_ne (by omega), h.c0 j hj]
    by_cases e : j = i
    · subst e; simp [upd]
    · simp [upd, e]
  · by_cases e : j = i
    · subst e
      rw [cell_set_same (h.c1 j hi) rfl]; simp [upd]
    · rw [cell_set_ne (by omega), h.c1 j hj]; simp [upd, e]
  · rw [cell_set_ne (by omega), h.c2 j hj]
    by_cases e : j = i
    · subst e; simp [upd]
    · simp [upd, e]

theorem mark_none {T : Nat} {f : Nat → Sl} (b : Bool) (i : Nat) (hi : i < 32) (w : World) (h : TabAt w T f) (ht : (f i).tk = false) :
    Calls Tryz.prog 145 #[.pointer (some ⟨T, 0, none⟩), .int .i64 i, .bool b] w fun e w' => e = .returned (.int .i64 9) ∧ w' = w := by
  have hs := slot_in i hi w h
  rw [ht] at hs
  have hs' := Lib.hid hs
  clear hs ht h
  simp only [Bool.false_eq_true, if_false] at hs'
  go_enter Tryz.func145, Tryz.ntmps145
  go_wp2_with (go_at_call 96; refine hs'.out.mono ?_; rintro e w' ⟨rfl, rfl⟩)
  go_ret
  exact ⟨rfl, rfl⟩
theorem mark_in {T : Nat} {f : Nat → Sl} (b : Bool) (i : Nat) (hi : i < 32) (w : World) (h : TabAt w T f) (ht : (f i).tk = true) :
    Calls Tryz.prog 145 #[.pointer (some ⟨T, 0, none⟩), .int .i64 i, .bool b] w fun e w' => e = .returned (.int .i64 0) ∧ TabAt w' T (upd f i { f i with mr := b }) ∧ Frame T T w w' := by
  have hs := slot_in i hi w h
  rw [ht] at hs
  have hs' := Lib.hid hs
  have hp := Lib.hid (h.mark i hi b)
  have c1 := h.c1 i hi
  have f1 := h.fz (i * 3 + 1)
  clear hs ht h
  simp only [if_true] at hs'
  go_enter Tryz.func145, Tryz.ntmps145
  go_wp2_with (go_at_call 96; refine hs'.out.mono ?_; rintro e w' ⟨rfl, rfl⟩)
  go_ret
  exact ⟨rfl, hp.out, (Frame.refl T T _).setP _ _⟩

theorem marked_in {T : Nat} {f : Nat → Sl} (i : Nat) (hi : i < 32) (w : World) (h : TabAt w T f) :
    Calls Tryz.prog 226 #[.pointer (some ⟨T, 0, none⟩), .int .i64 i] w fun e w' => e = .returned (.bool ((f i).tk && (f i).mr)) ∧ w' = w := by
  have hs := slot_in i hi w h
  have c1 := h.c1 i hi
  clear h
  cases ht : (f i).tk
  · rw [ht] at hs
    have hs' := Lib.hid hs
    clear hs ht
    simp only [Bool.false_eq_true, if_false] at hs'
    go_enter Tryz.func226, Tryz.ntmps226
    go_wp2_with (go_at_call 96; refine hs'.out.mono ?_; rintro e w' ⟨rfl, rfl⟩)
    go_ret
    exact ⟨rfl, rfl⟩
  · rw [ht] at hs
    have hs' := Lib.hid hs
    clear hs ht
    simp only [if_true] at hs'
    go_enter Tryz.func226, Tryz.ntmps226
    go_wp2_with (go_at_call 96; refine hs'.out.mono ?_; rintro e w' ⟨rfl, rfl⟩)
    go_ret
    exact ⟨rfl, rfl⟩
end

end Go.Proofs.YtmilagppbepnbaaGreat.Pp
/- A table's cells, all; Copy. Condition: the table's cells are as stated. -/
namespace Go.Proofs.YtmilagppbepnbaaGreat.Pp
open Go.RowKit
attribute [local go_sem] Oper.semAt_some

/-- A table's cells, all. -/
def tabArr (f : Nat → Sl) : Array Value := (Array.range 96).map fun j => if j % 3 = 0 then .bool (f (j / 3)).tk else if j % 3 = 1 then .bool (f (j / 3)).mr else .int .i64 (f (j / 3)).x
theorem tabArr_size (f : Nat → Sl) : (tabArr f).size = 96 := by simp [tabArr]
theorem tabArr_at (f : Nat → Sl) (j : Nat) (hj : j < 96) : (tabArr f)[j]? = some (if j % 3 = 0 then .bool (f (j / 3)).tk else if j % 3 = 1 then .bool (f (j / 3)).mr else .int .i64 (f (j / 3)).x) := by
  simp [tabArr, hj]
theorem tabArr_one (f : Nat → Sl) : (tabArr f).all (·.oneCell') = true := by
  rw [Array.all_eq_true]
  intro i hi
  have h1 := tabArr_at f i (by rw [tabArr_size] at hi; exact hi)
  rw [Array.getElem?_eq_getElem hi] at h1
  rw [Option.some.inj h1]
  split
  · rfl
  · split <;> rfl
theorem TabAt.range {w : World} {T : Nat} {f : Nat → Sl} (h : TabAt w T f) : w.rangeAt T 0 (tabArr f).toList := fun j v hv => by
  rw [Array.getElem?_toList] at hv
  have hj : j < 96 := by
    have := (Array.getElem?_eq_some_iff.1 hv).1
    rwa [tabArr_size] at this
  rw [tabArr_at f j hj] at hv
  obtain rfl := Option.some.inj hv
  rw [Nat.zero_add]
  have h3 : j % 3 = 0 ∨ j % 3 = 1 ∨ j % 3 = 2 := by omega
  rcases h3 with e | e | e
  · rw [if_pos e]
    have := h.c0 (j / 3) (by omega)
    rwa [show j / 3 * 3 = j by omega] at this
  · rw [if_neg (by omega), if_pos e]
    have := h.c1 (j / 3) (by omega)
    rwa [show j / 3 * 3 + 1 = j by omega] at this
  · rw [if_neg (by omega), if_neg (by omega)]
    have := h.c2 (j / 3) (by omega)
    rwa [show j / 3 * 3 + 2 = j by omega] at this
theorem tab_made2 (w : World) (f : Nat → Sl) : TabAt (w.alloc (.cells (tabArr f) 163)) w.heap.size f := by
  have hB := heap_made w (.cells (tabArr f) 163)
  refine ⟨fun i hi => ?_, fun i hi => ?_, fun i hi => ?_, fun o => by unfold World.frozen?; rw [hB]; simp⟩
  · simp only [World.cell?, hB]
    have : i * 3 % 3 = 0 := by omega
    simp [tabArr_at f (i * 3) (by omega)]
  · simp only [World.cell?, hB]
    have h1 : (i * 3 + 1) % 3 = 1 := by omega
    have h2 : (i * 3 + 1) / 3 = i := by omega
    simp [tabArr_at f (i * 3 + 1) (by omega), h1, h2]
  · simp only [World.cell?, hB]
    have h1 : (i * 3 + 2) % 3 = 2 := by omega
    have h2 : (i * 3 + 2) / 3 = i := by omega
    simp [tabArr_at f (i * 3 + 2) (by omega), h1, h2]
theorem tab_store (w : World) (f : Nat → Sl) : (storeCells ⟨w.heap.size, 0, none⟩ (tabArr f).toList).run Tryz.prog (w.alloc (.cells tabZero 163)) = .ok () (w.alloc (.cells (tabArr f) 163)) :=
  run_storeCells_new w 163 tabZero (tabArr f) (by rw [tabArr_size]; kernel_rfl) (by rw [tabArr_size]; simp [tabZero]) (tabArr_one f)

set_option maxRecDepth 100000 in
set_option maxHeartbeats 1000000 in
theorem tcopy_any {T : Nat} {f : Nat → Sl} (w : World) (h : TabAt w T f) :
    Calls Tryz.prog 225 #[.pointer (some ⟨T, 0, none⟩)] w fun e w' => e = .returned (.pointer (some ⟨w.heap.size, 0, none⟩)) ∧ TabAt w' w.heap.size f ∧ Below w.heap.size w w' := by
  have hz := zero100
  have hl := Lib.hid h.range
  have hst := tab_store w f
  have hbs := tabArr_size f
  have hsz : Hid ((Tryz.prog.info? 163).map (·.size) = some (tabArr f).toList.length) := Lib.hid (by rw [Array.length_toList, tabArr_size]; kernel_rfl)
  have hm := Lib.hid (tab_made2 w f)
  clear h
  go_enter Tryz.func225, Tryz.ntmps225
  go_wp2_with fail
  refine wp_load_mid 163 (.tmp 7) rfl T 0 rfl (tabArr f).toList _ hl.out Tryz.underlying163 rfl hsz.out ?_
  go_wp2_with fail
  go_ret
  exact ⟨rfl, hm.out, (Below.refl _ w).alloc (Nat.le_refl _) _⟩
end Go.Proofs.YtmilagppbepnbaaGreat.Pp
/- Exec of a table. Condition: the table's cells are as stated. -/
namespace Go.Proofs.YtmilagppbepnbaaGreat.Pp
open Go.RowKit Go.Shelf
attribute [local go_sem] Oper.semAt_some

theorem mem_upto {f : Nat → Sl} {k : Nat} (hk : k ≤ 32) {x : Fin 32 × Int} : x ∈ upto f k ↔ x.1.1 < k ∧ (f x.1.1).tk = true ∧ x.2 = (f x.1.1).x := by
  induction k with
  | zero => simp [upto]
  | succ k ih =>
    cases ht : (f k).tk
    · rw [upto_no ht, ih (by omega)]
      constructor
      · exact fun ⟨a, b⟩ => ⟨by omega, b⟩
      · rintro ⟨a, b⟩
        refine ⟨?_, b⟩
        by_cases e : x.1.1 = k
        · rw [e, ht] at b; cases b.1
        · omega
    · rw [upto_yes (by omega) ht, List.mem_append, ih (by omega), List.mem_singleton]
      constructor
      · rintro (⟨a, b⟩ | rfl)
        · exact ⟨by omega, b⟩
        · exact ⟨Nat.lt_succ_self k, ht, rfl⟩
      · rintro ⟨a, b, c⟩
        by_cases e : x.1.1 = k
        · refine .inr ?_
          obtain ⟨⟨i, hi⟩, v⟩ := x
          dsimp only at e c b
          subst e
          rw [c]
        · exact .inl ⟨by omega, b, c⟩
theorem pre_upto {f : Nat → Sl} {n : Nat} (hn : n ≤ 32) {pre : List (Fin 32 × Int)} {x : Fin 32 × Int} (h : pre ++ [x] <+: upto f n) : pre = upto f x.1.1 := by
  induction n with
  | zero => simp [upto] at h
  | succ n ih =>
    cases ht : (f n).tk
    · rw [upto_no ht] at h
      exact ih (by omega) h
    · rw [upto_yes (by omega) ht] at h
      rcases List.prefix_concat_iff.1 h with h | h
      · obtain ⟨h1, h2⟩ := List.append_inj' h rfl
        obtain rfl : x = (⟨n, by omega⟩, (f n).x) := by simpa using h2
        exact h1
      · exact ih (by omega) h

/-- What Exec leaves and tells when these have come. -/
def gP (f : Nat → Sl) (pre : List (Fin 32 × Int)) : Nat → Sl := fun j => if (f j).mr = true ∧ j ∈ pre.map (·.1.1) then Sl.none else f j
def lsP (f : Nat → Sl) (pre : List (Fin 32 × Int)) : List Int := (pre.filter (fun x => (f x.1.1).mr)).map (·.2)
theorem gP_nil (f : Nat → Sl) : gP f [] = f := by funext j; simp [gP]
theorem mem_snoc {pre : List (Fin 32 × Int)} {x : Fin 32 × Int} {j : Nat} : j ∈ (pre ++ [x]).map (fun x => x.1.1) ↔ j ∈ pre.map (fun x => x.1.1) ∨ j = x.1.1 := by
  rw [List.map_append, List.mem_append, List.map_singleton, List.mem_singleton]
theorem gP_yes {f : Nat → Sl} {pre : List (Fin 32 × Int)} {x : Fin 32 × Int} (h : (f x.1.1).mr = true) : gP f (pre ++ [x]) = upd (gP f pre) x.1.1 Sl.none := by
  funext j
  unfold gP upd
  by_cases e : j = x.1.1
  · rw [if_pos e, if_pos ⟨by rw [e]; exact h, mem_snoc.2 (.inr e)⟩]
  · rw [if_neg e]
    simp only [mem_snoc, e, or_false]
theorem gP_no {f : Nat → Sl} {pre : List (Fin 32 × Int)} {x : Fin 32 × Int} (h : (f x.1.1).mr = false) : gP f (pre ++ [x]) = gP f pre := by
  funext j
  unfold gP
  by_cases e : j = x.1.1
  · rw [if_neg (by rw [e, h]; simp), if_neg (by rw [e, h]; simp)]
  · simp only [mem_snoc, e, or_false]
theorem lsP_yes {f : Nat → Sl} {pre : List (Fin 32 × Int)} {x : Fin 32 × Int} (h : (f x.1.1).mr = true) : lsP f (pre ++ [x]) = lsP f pre ++ [x.2] := by simp [lsP, h]
theorem lsP_no {f : Nat → Sl} {pre : List (Fin 32 × Int)} {x : Fin 32 × Int} (h : (f x.1.1).mr = false) : lsP f (pre ++ [x]) = lsP f pre := by simp [lsP, h]
theorem gP_at {f : Nat → Sl} {pre : List (Fin 32 × Int)} {k : Nat} (hk : k ≤ 32) (h : pre = upto f k) (j : Nat) (hj : k ≤ j) : gP f pre j = f j := by
  unfold gP
  rw [if_neg]
  rintro ⟨_, h2⟩
  obtain ⟨y, hy, rfl⟩ := List.mem_map.1 h2
  rw [h] at hy
  have := ((mem_upto hk).1 hy).1
  omega
theorem lsP_len {f : Nat → Sl} {n : Nat} {pre : List (Fin 32 × Int)} (h : pre <+: upto f n) : (lsP f pre).length ≤ n := by
  unfold lsP
  rw [List.length_map]
  exact Nat.le_trans (List.length_filter_le _ _) (Nat.le_trans h.length_le (upto_len f n))

abbrev rowI (b : Nat) (w : World) (v : Value) (l : List Int) : Prop := w.ownsRow b 3 1 v l.length (l.map (.int .i64))
theorem TabAt.same {w : World} {T : Nat} {f g : Nat → Sl} (h : TabAt w T f) (k : TabAt w T g) (i : Nat) (hi : i < 32) : f i = g i := by
  have a0 := (h.c0 i hi).symm.trans (k.c0 i hi)
  have a1 := (h.c1 i hi).symm.trans (k.c1 i hi)
  have a2 := (h.c2 i hi).symm.trans (k.c2 i hi)
  cases hf : f i
  cases hg : g i
  rw [hf, hg] at a0 a1 a2
  simp at a0 a1 a2
  rw [a0, a1, a2]
theorem TabAt.congr {w : World} {T : Nat} {f g : Nat → Sl} (h : TabAt w T f) (e : ∀ i, i < 32 → f i = g i) : TabAt w T g :=
  ⟨fun i hi => by rw [← e i hi]; exact h.c0 i hi, fun i hi => by rw [← e i hi]; exact h.c1 i hi, fun i hi => by rw [← e i hi]; exact h.c2 i hi, h.fz⟩
theorem info3 : (Tryz.prog.info? 3).map (fun i => (i.zero, i.size, i.bytes)) = some (some (.int .i64 0), 1, 8) := by kernel_rfl
theorem info_parts {t : TypeId} {z : Value} {s b : Nat} (h : (Tryz.prog.info? t).map (fun i => (i.zero, i.size, i.bytes)) = some (some z, s, b)) : ∃ i, Tryz.prog.info? t = some i ∧ i.zero = some z ∧ i.size = s ∧ i.bytes = b := by
  cases hi : Tryz.prog.info? t with
  | none => rw [hi] at h; cases h
  | some i => rw [hi] at h; simp at h; exact ⟨i, rfl, h.1, h.2.1, h.2.2⟩
/-- A block known whole. -/
def Blk (W : World) (g : Nat) (t : TypeId) (cs : Array Value) : Prop := W.heap[g]? = some (.cells cs t (0, 0))
theorem Blk.lt {W : World} {g : Nat} {t : TypeId} {cs : Array Value} (h : Blk W g t cs) : g < W.heap.size := (Array.getElem?_eq_some_iff.1 h).1
theorem Blk.cell {W : World} {g : Nat} {t : TypeId} {cs : Array Value} (h : Blk W g t cs) (i : Nat) : W.cell? ⟨g, i, none⟩ = cs[i]? := by
  unfold Blk at h
  simp [World.cell?, h]
theorem Blk.frozen {W : World} {g : Nat} {t : TypeId} {cs : Array Value} (h : Blk W g t cs) (i : Nat) : W.frozen? ⟨g, i, none⟩ = false := by
  unfold Blk at h
  simp [World.frozen?, h]
theorem Blk.new (w : World) (t : TypeId) (cs : Array Value) : Blk (w.alloc (.cells cs t)) w.heap.size t cs := World.alloc_heap_new w _
theorem Blk.alloc {W : World} {g : Nat} {t : TypeId} {cs : Array Value} (h : Blk W g t cs) (o : Obj) : Blk (W.alloc o) g t cs := (Below.heap_alloc W o g h.lt).trans h
theorem Blk.set_ {W : World} {g : Nat} {t : TypeId} {cs : Array Value} (h : Blk W g t cs) (i : Nat) (u : Value) : Blk (W.setCell ⟨g, i, none⟩ u) g t (cs.setIfInBounds i u) := by
  unfold Blk at h ⊢
  simp [World.setCell, Array.getElem?_modify, h]
theorem row_keep {w w1 : World} {base : Nat} {e : TypeId} {size : Nat} {v : Value} {n : Nat} {xs : List Value} (h : w.ownsRow base e size v n xs) (hb : ∀ g, v.ownBlock = some g → w1.heap[g]? = w.heap[g]?) : w1.ownsRow base e size v n xs := by
  refine ⟨h.1, ?_⟩
  rcases h.2 with h | ⟨g, cap, cur, e1, e2, e3, e4⟩
  · exact .inl h
  · refine .inr ⟨g, cap, cur, e1, e2, ?_, e4⟩
    rw [hb g (by rw [e1]; rfl)]; exact e3
theorem row_lt {w : World} {base : Nat} {e : TypeId} {size : Nat} {v : Value} {n : Nat} {xs : List Value} (h : w.ownsRow base e size v n xs) {g : Nat} (hg : v.ownBlock = some g) : g < w.heap.size := (h.lt g hg).2

theorem row_off {W : World} {g : Nat} {t e : TypeId} {cs : Array Value} {base size n : Nat} {v : Value} {xs : List Value} (hB : Blk W g t cs) (hte : t ≠ e) (h : W.ownsRow base e size v n xs) : some g ≠ v.ownBlock := by
  rcases h.2 with ⟨rfl, _⟩ | ⟨g1, cap, cur, rfl, _, hb, _⟩
  · simp [Value.ownBlock]
  · intro e
    obtain rfl : g = g1 := by simpa [Value.ownBlock] using e
    have := hB.symm.trans hb
    simp at this
    exact hte this.2

theorem ownsRow_slice {w : World} {M : Nat} {e : TypeId} {size : Nat} {v : Value} {n : Nat} {xs : List Value} (h : w.ownsRow M e size v n xs) : ∃ a c, v = .slice a n c := by
  rcases h.2 with ⟨rfl, rfl⟩ | ⟨g, cap, _, rfl, _⟩
  · exact ⟨none, 0, rfl⟩
  · exact ⟨_, cap, rfl⟩

set_option maxRecDepth 100000 in
set_option maxHeartbeats 4000000 in
theorem exec_in (n : Nat) (hn : 5 ≤ n) {T : Nat} {f : Nat → Sl} (w : World) (hT : TabAt w T f) :
    CallsIn Fence.wide n Tryz.prog 159 #[.pointer (some ⟨T, 0, none⟩)] w fun e w' => ∃ v, e = .returned v ∧ rowI w.heap.size w' v (lsP f (upto f 32)) ∧ TabAt w' T (gP f (upto f 32)) ∧ Frame T T w w' := by
  obtain ⟨i0, hi0, hz0, hz1, hz2⟩ := info_parts info3
  obtain ⟨m, hm⟩ : ∃ m, w.heap.size = m := ⟨_, rfl⟩
  have hTm : T < m := by rw [← hm]; exact hT.lt
  have h1 : 1 ≤ n := by omega
  refine callsIn_of_wp_marks Tryz.func159 rfl trivial ?_ rfl
  simp only [Tryz.ntmps159, List.size_toArray, List.length_cons, List.length_nil, Nat.reduceAdd, Nat.reduceSub, Array.replicate_succ, Array.replicate_zero, List.push_toArray, List.append_toArray, List.nil_append, List.cons_append]
  gi_wp2_with (refine ⟨trivial, ?_⟩; gi_at_call 51; refine (callsIn_wide.2 (all_any _ _)).mono ?_; rintro e w' ⟨rfl, rfl⟩)
  obtain ⟨W0, hW0⟩ : ∃ W0, ((w.alloc (.cells #[.pointer (some ⟨T, 0, none⟩)] 81)).alloc (.cells #[.slice none 0 0] 49)).alloc (.cells #[.pointer (some ⟨T, 0, none⟩)] 81) = W0 := ⟨_, rfl⟩
  have hs0 : W0.heap.size = m + 3 := by rw [← hW0, ← hm]; simp
  have g0 : Blk W0 m 81 #[.pointer (some ⟨T, 0, none⟩)] := by rw [← hW0, ← hm]; exact ((Blk.new w 81 _).alloc _).alloc _
  have g1 : Blk W0 (m + 1) 49 #[.slice none 0 0] := by
    have h := (Blk.new (w.alloc (.cells #[.pointer (some ⟨T, 0, none⟩)] 81)) 49 #[.slice none 0 0]).alloc (.cells #[.pointer (some ⟨T, 0, none⟩)] 81)
    rw [World.size_alloc, hW0, hm] at h
    exact h
  have g2 : Blk W0 (m + 2) 81 #[.pointer (some ⟨T, 0, none⟩)] := by
    have h := Blk.new ((w.alloc (.cells #[.pointer (some ⟨T, 0, none⟩)] 81)).alloc (.cells #[.slice none 0 0] 49)) 81 #[.pointer (some ⟨T, 0, none⟩)]
    rw [World.size_alloc, World.size_alloc, hW0, hm] at h
    exact h
  have hBel : Below m w W0 := by rw [← hW0]; exact (((Below.refl _ w).alloc (by omega) _).alloc (by simp; omega) _).alloc (by simp; omega) _
  have hT0 : TabAt W0 T f := hT.keep (hBel.block T hTm)
  have hF0 : Frame T T w W0 := ⟨hBel.os, hBel.tape, hBel.output, hBel.size, fun k hk _ _ => hBel.block k (by omega)⟩
  rw [hW0]
  refine range_law rfl h1 (gf := 95) (lb := #[.pointer (some ⟨m + 2, 0, none⟩)]) rfl trivial (enters_of Tryz.func95 (by kernel_rfl) rfl)
    (all_x (n - 1) (by omega) (m + 2) T f W0 (by omega) (g2.cell 0) hT0) (keepX_b (by omega) (by omega)) (Below.refl _ _) (fun _ => rfl)
    (fun U pre X => ∃ v, Blk X m 81 #[.pointer (some ⟨T, 0, none⟩)] ∧ Blk X (m + 1) 49 #[v] ∧ rowI m X v (lsP f pre) ∧ TabAt X T (gP f pre) ∧ Frame T T w X ∧ m + 3 ≤ X.heap.size ∧ v.ownBlock ≠ some (m + 2) ∧ ∀ k ∈ U, m + 2 < k ∧ k < X.heap.size ∧ v.ownBlock ≠ some k)
    (fun _ _ _ _ => False)
    (fun U U' pre A B hs he => by
      obtain ⟨v, hb0, hb1, hr, ht, hF, hsz, hv2, hU⟩ := hs
      have hs2 := he.size
      have old : ∀ k, k ≤ m + 1 → B.heap[k]? = A.heap[k]? := fun k hk => he.block k (by omega) (fun e => by have := (hU _ e).1; omega)
      refine ⟨v, (old m (by omega)).trans hb0, (old _ (by omega)).trans hb1, row_keep hr (fun g hg => he.block g (row_lt hr hg) (fun e => (hU g e).2.2 hg)), ht.keep (old T (by omega)),
        ⟨he.os.trans hF.os, he.tape.trans hF.tape, he.output.trans hF.output, by have := hF.size; omega, fun k hk h1 h2 => (old k (by omega)).trans (hF.block k hk h1 h2)⟩, by omega, hv2, fun k hk => ?_⟩
      rcases he.new k hk with e | e
      · have h := hU k e
        exact ⟨h.1, by omega, h.2.2⟩
      · exact ⟨by omega, e.2, fun g => by have := row_lt hr g; omega⟩)
    (fun _ _ _ _ _ _ h _ => h)
    ⟨_, g0, g1, World.ownsRow_nil _ _ _ _, by rw [gP_nil]; exact hT0, hF0, by omega, (fun e => by cases e), fun k hk => by cases hk⟩
    ?_ (fun _ X => X) (fun x X => Below.refl _ X) (fun _ _ _ _ h => h) ?assign ?body ?done ?stop
  case assign =>
    intro l' x X K hK
    gi_wp2
    exact hK
  case body =>
    rintro l' U pre x X X' o hsp - hl' hX' ⟨v, hb0, hb1, hr, ht, hF, hsz, hv2, hU⟩
    obtain ⟨⟨k, hk⟩, xv⟩ := x
    have hpre := pre_upto (Nat.le_refl 32) hsp
    have hmem := (mem_upto (Nat.le_refl 32)).1 (hsp.subset (List.mem_append_right _ (List.mem_singleton.2 rfl)))
    dsimp only at hpre hmem
    have hgk : gP f pre k = f k := gP_at (by omega) hpre k (Nat.le_refl _)
    have p0 : X'.cell? ⟨m, 0, none⟩ = some (.pointer (some ⟨T, 0, none⟩)) := hb0.cell 0
    have hlen : (lsP f pre).length ≤ 32 := lsP_len ((List.prefix_append _ _).trans hsp)
    have hXs : X'.heap.size = X.heap.size := by rw [hX']; simp [World.putObj]
    clear hX'
    dsimp only
    have hmk := marked_in k hk X' ht
    rw [hgk] at hmk
    have hmkH := Lib.hid hmk
    cases hmr : (f k).mr
    · rw [hmr, Bool.and_false] at hmkH
      have hgn := Lib.hid (gP_no (f := f) (pre := pre) (x := (⟨k, hk⟩, xv)) hmr)
      have hln := Lib.hid (lsP_no (f := f) (pre := pre) (x := (⟨k, hk⟩, xv)) hmr)
      clear hmk hmr hgk hpre hmem
      gi_wp2
      refine ⟨trivial, fun h => (by cases h), ?_⟩
      refine (CallsIn.inRound l' (callsIn_wide.2 hmkH.out)).mono ?_
      rintro e w5 ⟨rfl, rfl⟩
      gi_wp2
      exact ⟨⟨v, hb0, hb1, by rw [hln.out]; exact hr, by rw [hgn.out]; exact ht, hF, hsz, hv2, hU⟩, ⟨Nat.le_refl _, fun _ _ _ => rfl⟩, rfl, fun g hg => ⟨g, hg, fun _ _ => rfl⟩⟩
    · rw [hmr, hmem.2.1] at hmkH
      have hgy := Lib.hid (gP_yes (f := f) (pre := pre) (x := (⟨k, hk⟩, xv)) hmr)
      have hly := Lib.hid (lsP_yes (f := f) (pre := pre) (x := (⟨k, hk⟩, xv)) hmr)
      have hcutH := Lib.hid (cut_in k hk X' ht (by rw [hgk]; exact hmem.2.1))
      have hb0H := Lib.hid hb0
      have hb1H := Lib.hid hb1
      have hrH := Lib.hid hr
      have htH := Lib.hid ht
      have hFH := Lib.hid hF
      have hUH := Lib.hid hU
      have hTX : T < X'.heap.size := ht.lt
      clear hmk hmr hgk hpre hmem hb0 hb1 hr ht hF hU
      gi_wp2
      refine ⟨trivial, fun h => (by cases h), ?_⟩
      refine (CallsIn.inRound l' (callsIn_wide.2 hmkH.out)).mono ?_
      rintro e w5 ⟨rfl, rfl⟩
      gi_wp2
      refine ⟨trivial, fun h => (by cases h), ?_⟩
      refine (CallsIn.inRound l' (callsIn_wide.2 hcutH.out)).mono ?_
      rintro e w6 ⟨rfl, ht6, hF6⟩
      have hs6 := hF6.size
      have hb1' : Blk w6 (m + 1) 49 #[v] := (hF6.block _ hb1H.out.lt (by omega) (by omega)).trans hb1H.out
      have hr6 : rowI m w6 v (lsP f pre) := row_keep hrH.out (fun g hg => hF6.block g (row_lt hrH.out hg) (fun e => by have := (hrH.out.lt g hg).1; omega) (fun e => by have := (hrH.out.lt g hg).1; omega))
      have ht6H := Lib.hid ht6
      have hF6H := Lib.hid hF6
      obtain ⟨a0, c0, rfl⟩ := ownsRow_slice hr6
      have r0 : w6.cell? ⟨m + 1, 0, none⟩ = some (.slice a0 (lsP f pre).length c0) := hb1'.cell 0
      have hr6H := Lib.hid hr6
      have hb1H' := Lib.hid hb1'
      clear ht6 hF6 hr6 hb1'
      gi_wp2_with (gi_at_builtin; refine wpListIn_append_own_at _ rfl _ _ 49 rfl m 3 i0 (.int .i64 0) 1 8 Tryz.underlying49 hi0 hz0 hz1 hz2 rfl (by decide) (.slice a0 (lsP f pre).length c0) (lsP f pre).length ((lsP f pre).map (.int .i64)) rfl (hr6H.out.alloc _) ⟨w6.heap.size, 0, none⟩ 1 1 [.int .i64 xv] rfl rfl ?_ (by simp [Value.oneCell']) (by unfold maxLen; omega) (by omega) (by simp; omega) ?_; rotate_left; intro v' w7 hown' hgrow _ hat; obtain ⟨a1, c1, rfl⟩ := ownsRow_slice hown'; have hm1 : Blk w7 (m + 1) 49 #[.slice a0 (lsP f pre).length c0] := (hgrow.block (m + 1) (by simp; omega) (row_off hb1H'.out (by decide) hr6H.out)).trans (hb1H'.out.alloc _); have s0 : w7.cell? ⟨m + 1, 0, none⟩ = some (.slice a0 (lsP f pre).length c0) := hm1.cell 0; have s1 : w7.frozen? ⟨m + 1, 0, none⟩ = false := hm1.frozen 0; have hownH := Lib.hid hown'; have hgrowH := Lib.hid hgrow; have hatH := Lib.hid hat; have hm1H := Lib.hid hm1; clear hown' hgrow hat hm1)
      · have hgrow := hgrowH.out
        have hown := hownH.out
        have hU := hUH.out
        have hsz7 : w6.heap.size + 1 ≤ w7.heap.size := by have := hgrow.size; simpa using this
        obtain ⟨w8, hw8⟩ : ∃ w8, w7.setCell ⟨m + 1, 0, none⟩ (.slice a1 ((lsP f pre).length + 1) c1) = w8 := ⟨_, rfl⟩
        have hs8 : w8.heap.size = w7.heap.size := by rw [← hw8]; simp [World.setCell]
        have hfar : ∀ i, i ≠ m + 1 → w8.heap[i]? = w7.heap[i]? := fun i hi => by rw [← hw8]; exact Below.heap_setCell _ _ _ i hi
        have hm8 : Blk w8 (m + 1) 49 #[.slice a1 ((lsP f pre).length + 1) c1] := by rw [← hw8]; exact hm1H.out.set_ 0 _
        have hr6 := hr6H.out
        have h67 : ∀ i, i < w6.heap.size → i ≠ m + 1 → (Value.slice a0 (lsP f pre).length c0).ownBlock ≠ some i → w8.heap[i]? = w6.heap[i]? := fun i hi h1 h2 => (hfar i h1).trans ((hgrow.block i (by simp; omega) (fun e => h2 e.symm)).trans (Below.heap_alloc w6 _ i hi))
        have hTo : (Value.slice a0 (lsP f pre).length c0).ownBlock ≠ some T := fun e => by have := (hr6.lt T e).1; omega
        have ho : w8.os = w7.os ∧ w8.tape = w7.tape ∧ w8.output = w7.output := by rw [← hw8]; exact ⟨rfl, rfl, rfl⟩
        rw [hw8]
        refine ⟨⟨.slice a1 ((lsP f pre).length + 1) c1, ?_, hm8, ?_, ?_, ?_, by omega, ?_, fun i hi => ?_⟩, ⟨by omega, fun i hi his => ?_⟩, ?_, fun g hg => ?_⟩
        · exact (h67 m (by omega) (by omega) (fun e => row_off ((hF6H.out.block m hb0H.out.lt (by omega) (by omega)).trans hb0H.out) (by decide) hr6 e.symm)).trans ((hF6H.out.block m hb0H.out.lt (by omega) (by omega)).trans hb0H.out)
        · have e : (lsP f (pre ++ [(⟨k, hk⟩, xv)])) = lsP f pre ++ [xv] := hly.out
          show w8.ownsRow m 3 1 _ _ _
          rw [e, List.length_append, List.map_append]
          exact row_keep hown (fun g hg => hfar g (fun e => row_off hm1H.out (by decide) hown (by rw [← e]; exact hg.symm)))
        · rw [hgy.out]
          exact ht6H.out.keep (h67 T (by omega) (by omega) hTo)
        · refine ⟨ho.1.trans (hgrow.os.trans (hF6H.out.os.trans hFH.out.os)), ho.2.1.trans (hgrow.tape.trans (hF6H.out.tape.trans hFH.out.tape)), ho.2.2.trans (hgrow.output.trans (hF6H.out.output.trans hFH.out.output)), by have := hFH.out.size; omega, fun i hi h1 h2 => ?_⟩
          exact (h67 i (by omega) (by omega) (fun e => by have := (hr6.lt i e).1; omega)).trans ((hF6H.out.block i (by omega) h1 h2).trans (hFH.out.block i hi h1 h2))
        · intro e
          rcases hatH.out with g | g
          · exact hv2 (by rw [← g]; exact e)
          · rw [g] at e
            have : w6.heap.size + 1 = m + 2 := by simpa using e
            omega
        · obtain ⟨h1, h2, h3⟩ := hU i hi
          refine ⟨h1, by omega, fun e => ?_⟩
          rcases hatH.out with g | g
          · exact h3 (by rw [← g]; exact e)
          · rw [g] at e
            have : w6.heap.size + 1 = i := by simpa using e
            omega
        · obtain ⟨h1, h2, h3⟩ := hU i hi
          exact (h67 i (by omega) (by omega) h3).trans (hF6H.out.block i his (by omega) (by omega))
        · exact (h67 (m + 2) (by omega) (by omega) hv2).trans (hF6H.out.block (m + 2) (by omega) (by omega) (by omega))
        · exact ⟨upd g k Sl.none, (ht6H.out.keep (h67 T (by omega) (by omega) hTo)).congr (fun i hi => by unfold upd; rw [htH.out.same hg i hi]), fun i hi => by
            have : k < i := hi
            unfold upd
            rw [if_neg (by omega)]⟩
      · intro j u hj
        cases j with
        | zero =>
          obtain rfl : (.int .i64 xv : Value) = u := by simpa using hj
          rw [Addr.add_lit]
          exact (Blk.new w6 3 #[.int .i64 xv]).cell 0
        | succ j => simp at hj
  case done =>
    rintro D U ys X hD hDU rfl ⟨v, hb0, hb1, hr, ht, hF, hsz, hv2, hU⟩ hK
    obtain ⟨a0, c0, rfl⟩ := ownsRow_slice hr
    have r0 : X.cell? ⟨m + 1, 0, none⟩ = some (.slice a0 (lsP f (upto f 32)).length c0) := hb1.cell 0
    gi_wp2
    refine ⟨by simp, .inl ⟨_, _, rfl, run_takeDeferred hK, ?_⟩⟩
    have hmD : m + 2 < D := (hU D hDU).1
    refine ⟨_, results_tmp rfl _ _ _, _, rfl, ?_, ht.keep (World.putObj_heap_other (by omega)), ?_⟩
    · rw [hm]
      exact row_keep hr (fun g hg => World.putObj_heap_other (fun e => (hU D hDU).2.2 (by rw [← e]; exact hg)))
    · exact ⟨hF.os, hF.tape, hF.output, by have := hF.size; simpa [World.putObj] using this, fun k hk h1 h2 => (World.putObj_heap_other (by omega)).trans (hF.block k hk h1 h2)⟩
  case stop =>
    rintro D c U pre X hD hDU hpre h hK
    exact h.elim

theorem exec_any {T : Nat} {f : Nat → Sl} (w : World) (hT : TabAt w T f) : Calls Tryz.prog 159 #[.pointer (some ⟨T, 0, none⟩)] w fun e w' => ∃ v, e = .returned v ∧ rowI w.heap.size w' v (lsP f (upto f 32)) ∧ TabAt w' T (gP f (upto f 32)) ∧ Frame T T w w' :=
  callsIn_wide.1 (exec_in 5 (Nat.le_refl _) w hT)
end Go.Proofs.YtmilagppbepnbaaGreat.Pp
