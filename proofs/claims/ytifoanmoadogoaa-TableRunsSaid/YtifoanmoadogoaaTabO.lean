/- The reference's table: its cells, and its calls in, Has, Put, Set, Get, Cut, Mark, Free. Condition: the table's cells are as stated. -/
import Derived.Test.YtifoanmoadogoaaTabN
namespace Go.Proofs.Ytifoanmoadogoaa
open Go.RowKit
attribute [local go_sem] Oper.semAt_some

structure RTb (w : World) (R : Nat) (f : Nat → Sl) : Prop where
  c0 : ∀ i, i < 32 → w.cell? ⟨R, i * 3, none⟩ = some (.int .i64 (f i).x)
  c1 : ∀ i, i < 32 → w.cell? ⟨R, i * 3 + 1, none⟩ = some (.bool (f i).tk)
  c2 : ∀ i, i < 32 → w.cell? ⟨R, i * 3 + 2, none⟩ = some (.bool (f i).mr)
  fz : ∀ o, w.frozen? ⟨R, o, none⟩ = false
theorem RTb.keep {w w' : World} {R : Nat} {f : Nat → Sl} (h : RTb w R f) (k : w'.heap[R]? = w.heap[R]?) : RTb w' R f :=
  ⟨fun i hi => (cell_of_heap (a := ⟨R, i * 3, none⟩) k).trans (h.c0 i hi), fun i hi => (cell_of_heap (a := ⟨R, i * 3 + 1, none⟩) k).trans (h.c1 i hi),
    fun i hi => (cell_of_heap (a := ⟨R, i * 3 + 2, none⟩) k).trans (h.c2 i hi), fun o => (frozen_of_heap (a := ⟨R, o, none⟩) k).trans (h.fz o)⟩
theorem RTb.lt {w : World} {R : Nat} {f : Nat → Sl} (h : RTb w R f) : R < w.heap.size := block_of_cell (h.c0 0 (by omega))
theorem RTb.put {w : World} {R : Nat} {f : Nat → Sl} (h : RTb w R f) (i : Nat) (hi : i < 32) (s : Sl) :
    RTb (((w.setCell ⟨R, i * 3, none⟩ (.int .i64 s.x)).setCell ⟨R, i * 3 + 1, none⟩ (.bool s.tk)).setCell ⟨R, i * 3 + 2, none⟩ (.bool s.mr)) R (upd f i s) := by
  refine ⟨fun j hj => ?_, fun j hj => ?_, fun j hj => ?_, fun o => by rw [World.frozen?_setCell, World.frozen?_setCell, World.frozen?_setCell]; exact h.fz o⟩
  · by_cases e : j = i
    · subst e
      rw [cell_set_ne (by omega), cell_set_ne (by omega), cell_set_same (h.c0 j hi) rfl]; simp [upd]
    · rw [cell_set_ne (by omega), cell_set_ne (by omega), cell_set_ne (by omega), h.c0 j hj]; simp [upd, e]
  · by_cases e : j = i
    · subst e
      rw [cell_set_ne (by omega), cell_set_same (u := .bool (f j).tk) (by rw [cell_set_ne (by omega)]; exact h.c1 j hi) rfl]; simp [upd]
    · rw [cell_set_ne (by omega), cell_set_ne (by omega), cell_set_ne (by omega), h.c1 j hj]; simp [upd, e]
  · by_cases e : j = i
    · subst e
      rw [cell_set_same (u := .bool (f j).mr) (by rw [cell_set_ne (by omega), cell_set_ne (by omega)]; exact h.c2 j hi) rfl]; simp [upd]
    · rw [cell_set_ne (by omega), cell_set_ne (by omega), cell_set_ne (by omega), h.c2 j hj]; simp [upd, e]
theorem RTb.congr {w : World} {R : Nat} {f g : Nat → Sl} (h : RTb w R f) (e : ∀ i, i < 32 → f i = g i) : RTb w R g :=
  ⟨fun i hi => by rw [← e i hi]; exact h.c0 i hi, fun i hi => by rw [← e i hi]; exact h.c1 i hi, fun i hi => by rw [← e i hi]; exact h.c2 i hi, h.fz⟩

theorem zero58 (w : World) : (zeroValue 58).run Try.prog w = .ok (.agg #[.int .i64 0, .bool false, .bool false]) w := by kernel_rfl

section
set_option maxHeartbeats 400000
theorem rin_any (fd : Int) (w : World) : Calls Try.prog 49 #[.int .i64 fd] w fun e w' => e = .returned (.bool (decide (0 ≤ fd ∧ fd < 32))) ∧ w' = w := by
  by_cases h1 : 0 ≤ fd
  · by_cases h2 : fd < 32
    · rw [decide_eq_true ⟨h1, h2⟩]
      go_enter Try.func49, Try.ntmps49
      go_wp2
      go_ret
      exact ⟨rfl, rfl⟩
    · rw [decide_eq_false (fun g => h2 g.2)]
      go_enter Try.func49, Try.ntmps49
      go_wp2
      go_ret
      exact ⟨rfl, rfl⟩
  · rw [decide_eq_false (fun g => h1 g.1)]
    go_enter Try.func49, Try.ntmps49
    go_wp2
    go_ret
    exact ⟨rfl, rfl⟩
theorem rin_b (fd : Int) (b : Bool) (hb : Hid (decide (0 ≤ fd ∧ fd < 32) = b)) (w : World) : Calls Try.prog 49 #[.int .i64 fd] w fun e w' => e = .returned (.bool b) ∧ w' = w :=
  (rin_any fd w).mono fun _ _ ⟨he, hw⟩ => ⟨by rw [he, hb.out], hw⟩

theorem rhas_out {R : Nat} (fd : Int) (h : ¬ (0 ≤ fd ∧ fd < 32)) (w : World) : Calls Try.prog 51 #[.pointer (some ⟨R, 0, none⟩), .int .i64 fd] w fun e w' => e = .returned (.bool false) ∧ w' = w := by
  have hb : Hid (decide (0 ≤ fd ∧ fd < 32) = false) := decide_eq_false h
  clear h
  go_enter Try.func51, Try.ntmps51
  go_wp2_with (go_at_call 49; refine (rin_b _ _ hb _).mono ?_; rintro e w' ⟨rfl, rfl⟩)
  go_ret
  exact ⟨rfl, rfl⟩
theorem rhas_in {R : Nat} {f : Nat → Sl} (i : Nat) (hi : i < 32) (w : World) (h : RTb w R f) : Calls Try.prog 51 #[.pointer (some ⟨R, 0, none⟩), .int .i64 i] w fun e w' => e = .returned (.bool (f i).tk) ∧ w' = w := by
  have hb : Hid (decide (0 ≤ (i : Int) ∧ (i : Int) < 32) = true) := decide_eq_true (by omega)
  have hi' : (i : Int) < 32 := by omega
  have c1 := h.c1 i hi
  clear h
  go_enter Try.func51, Try.ntmps51
  go_wp2_with (go_at_call 49; refine (rin_b _ _ hb _).mono ?_; rintro e w' ⟨rfl, rfl⟩)
  go_ret
  exact ⟨rfl, rfl⟩

theorem rget_out {R : Nat} (fd : Int) (h : ¬ (0 ≤ fd ∧ fd < 32)) (w : World) : Calls Try.prog 31 #[.pointer (some ⟨R, 0, none⟩), .int .i64 fd] w fun e w' => e = .returned (.tuple #[.int .i64 0, .int .i64 9]) ∧ w' = w := by
  go_enter Try.func31, Try.ntmps31
  go_wp2_with (go_at_call 51; refine (rhas_out _ h _).mono ?_; rintro e w' ⟨rfl, rfl⟩)
  go_ret2
  exact ⟨rfl, rfl⟩
theorem rget_in {R : Nat} {f : Nat → Sl} (i : Nat) (hi : i < 32) (w : World) (h : RTb w R f) :
    Calls Try.prog 31 #[.pointer (some ⟨R, 0, none⟩), .int .i64 i] w fun e w' => e = .returned (.tuple #[.int .i64 (f i).val, .int .i64 (f i).err]) ∧ w' = w := by
  have hh := rhas_in i hi w h
  have hi' : (i : Int) < 32 := by omega
  have c0 := h.c0 i hi
  clear h
  unfold Sl.val Sl.err
  cases ht : (f i).tk
  all_goals
    rw [ht] at hh
    have hhH := Lib.hid hh
    clear hh ht
    go_enter Try.func31, Try.ntmps31
    go_wp2_with (go_at_call 51; refine hhH.out.mono ?_; rintro e w' ⟨rfl, rfl⟩)
    go_ret2
    exact ⟨rfl, rfl⟩

theorem rcut_out {R : Nat} (fd : Int) (h : ¬ (0 ≤ fd ∧ fd < 32)) (w : World) : Calls Try.prog 33 #[.pointer (some ⟨R, 0, none⟩), .int .i64 fd] w fun e w' => e = .returned (.tuple #[.int .i64 0, .int .i64 9]) ∧ w' = w := by
  go_enter Try.func33, Try.ntmps33
  go_wp2_with (go_at_call 51; refine (rhas_out _ h _).mono ?_; rintro e w' ⟨rfl, rfl⟩)
  go_ret2
  exact ⟨rfl, rfl⟩
theorem rcut_none {R : Nat} {f : Nat → Sl} (i : Nat) (hi : i < 32) (w : World) (h : RTb w R f) (ht : (f i).tk = false) :
    Calls Try.prog 33 #[.pointer (some ⟨R, 0, none⟩), .int .i64 i] w fun e w' => e = .returned (.tuple #[.int .i64 0, .int .i64 9]) ∧ w' = w := by
  have hh := rhas_in i hi w h
  rw [ht] at hh
  have hhH := Lib.hid hh
  clear hh ht h
  go_enter Try.func33, Try.ntmps33
  go_wp2_with (go_at_call 51; refine hhH.out.mono ?_; rintro e w' ⟨rfl, rfl⟩)
  go_ret2
  exact ⟨rfl, rfl⟩
theorem rcut_in {R : Nat} {f : Nat → Sl} (i : Nat) (hi : i < 32) (w : World) (h : RTb w R f) (ht : (f i).tk = true) :
    Calls Try.prog 33 #[.pointer (some ⟨R, 0, none⟩), .int .i64 i] w fun e w' => e = .returned (.tuple #[.int .i64 (f i).x, .int .i64 0]) ∧ RTb w' R (upd f i Sl.none) ∧ Frame R R w w' := by
  have hh := rhas_in i hi w h
  rw [ht] at hh
  have hhH := Lib.hid hh
  have hi' : (i : Int) < 32 := by omega
  have c0 := h.c0 i hi
  have c1 := h.c1 i hi
  have c2 := h.c2 i hi
  have f0 := h.fz (i * 3)
  have f1 := h.fz (i * 3 + 1)
  have f2 := h.fz (i * 3 + 2)
  have hz := zero58
  have hp := Lib.hid (h.put i hi Sl.none)
  clear hh ht h
  go_enter Try.func33, Try.ntmps33
  go_wp2_with (go_at_call 51; refine hhH.out.mono ?_; rintro e w' ⟨rfl, rfl⟩)
  go_ret2
  exact ⟨rfl, hp.out, (((Frame.refl R R _).setP _ _).setP _ _).setP _ _⟩

theorem rput_bad {R : Nat} (x least : Int) (h : ¬ (0 ≤ least ∧ least < 32)) (w : World) : Calls Try.prog 27 #[.pointer (some ⟨R, 0, none⟩), .int .i64 x, .int .i64 least] w fun e w' => e = .returned (.tuple #[.int .i64 0, .int .i64 22]) ∧ w' = w := by
  have hb : Hid (decide (0 ≤ least ∧ least < 32) = false) := decide_eq_false h
  clear h
  go_enter Try.func27, Try.ntmps27
  go_wp2_with (go_at_call 49; refine (rin_b _ _ hb _).mono ?_; rintro e w' ⟨rfl, rfl⟩)
  go_ret2
  exact ⟨rfl, rfl⟩
set_option maxHeartbeats 800000 in
theorem rput_full {R : Nat} {f : Nat → Sl} (x : Int) (a : Nat) (ha : a < 32) (w : World) (h : RTb w R f) (hf : Hid (∀ k, a ≤ k → k < 32 → (f k).tk = true)) :
    Calls Try.prog 27 #[.pointer (some ⟨R, 0, none⟩), .int .i64 x, .int .i64 a] w fun e w' => e = .returned (.tuple #[.int .i64 0, .int .i64 24]) ∧ w' = w := by
  have hb : Hid (decide (0 ≤ (a : Int) ∧ (a : Int) < 32) = true) := decide_eq_true (by omega)
  have hH := Lib.hid h
  clear h
  go_enter Try.func27, Try.ntmps27
  go_wp2_with (go_at_call 49; refine (rin_b _ _ hb _).mono ?_; rintro e w' ⟨rfl, rfl⟩)
  go_loop [8] (fun s8 => ∃ k : Nat, a ≤ k ∧ k ≤ 32 ∧ s8 = .int .i64 k) (fun s8 => 32 - (intOf s8).toNat)
  case atStart => exact ⟨a, Nat.le_refl _, by omega, rfl⟩
  case round =>
    obtain ⟨k, hk1, hk2, rfl⟩ := hrel
    by_cases hk : k < 32
    · have c1 := hH.out.c1 k hk
      rw [hf.out k hk1 hk] at c1
      have hk' : (k : Int) < 32 := by omega
      go_wp2
      go_round
      case rel => exact ⟨k + 1, by omega, by omega, by go_num⟩
      case measure => simp [intOf]; omega
    · go_wp2
      go_ret2
      exact ⟨rfl, rfl⟩
set_option maxHeartbeats 800000 in
theorem rput_in {R : Nat} {f : Nat → Sl} (x : Int) (a j : Nat) (haj : a ≤ j) (hj : j < 32) (w : World) (h : RTb w R f) (hf : Hid (∀ k, a ≤ k → k < j → (f k).tk = true)) (hfj : Hid ((f j).tk = false)) :
    Calls Try.prog 27 #[.pointer (some ⟨R, 0, none⟩), .int .i64 x, .int .i64 a] w fun e w' => e = .returned (.tuple #[.int .i64 j, .int .i64 0]) ∧ RTb w' R (upd f j ⟨true, false, x⟩) ∧ Frame R R w w' := by
  have hb : Hid (decide (0 ≤ (a : Int) ∧ (a : Int) < 32) = true) := decide_eq_true (by omega)
  have hH := Lib.hid h
  clear h
  go_enter Try.func27, Try.ntmps27
  go_wp2_with (go_at_call 49; refine (rin_b _ _ hb _).mono ?_; rintro e w' ⟨rfl, rfl⟩)
  go_loop [8] (fun s8 => ∃ k : Nat, a ≤ k ∧ k ≤ j ∧ s8 = .int .i64 k) (fun s8 => 32 - (intOf s8).toNat)
  case atStart => exact ⟨a, Nat.le_refl _, by omega, rfl⟩
  case round =>
    obtain ⟨k, hk1, hk2, rfl⟩ := hrel
    have hk' : (k : Int) < 32 := by omega
    by_cases hk : k < j
    · have c1 := hH.out.c1 k (by omega)
      rw [hf.out k hk1 hk] at c1
      go_wp2
      go_round
      case rel => exact ⟨k + 1, by omega, by omega, by go_num⟩
      case measure => simp [intOf]; omega
    · obtain rfl : k = j := by omega
      have c0 := hH.out.c0 k hj
      have c1 := hH.out.c1 k hj
      rw [hfj.out] at c1
      have c2 := hH.out.c2 k hj
      have f0 := hH.out.fz (k * 3)
      have f1 := hH.out.fz (k * 3 + 1)
      have f2 := hH.out.fz (k * 3 + 2)
      have hz := zero58
      have hp := Lib.hid (hH.out.put k hj ⟨true, false, x⟩)
      go_wp2
      go_ret2
      exact ⟨rfl, hp.out, (((Frame.refl R R _).setP _ _).setP _ _).setP _ _⟩

theorem rset_out {R : Nat} (fd x : Int) (h : ¬ (0 ≤ fd ∧ fd < 32)) (w : World) : Calls Try.prog 29 #[.pointer (some ⟨R, 0, none⟩), .int .i64 fd, .int .i64 x] w fun e w' => e = .returned (.tuple #[.int .i64 0, .bool false, .int .i64 9]) ∧ w' = w := by
  have hb : Hid (decide (0 ≤ fd ∧ fd < 32) = false) := decide_eq_false h
  clear h
  go_enter Try.func29, Try.ntmps29
  go_wp2_with (go_at_call 49; refine (rin_b _ _ hb _).mono ?_; rintro e w' ⟨rfl, rfl⟩)
  go_ret3
  exact ⟨rfl, rfl⟩
theorem rset_in {R : Nat} {f : Nat → Sl} (x : Int) (i : Nat) (hi : i < 32) (w : World) (h : RTb w R f) :
    Calls Try.prog 29 #[.pointer (some ⟨R, 0, none⟩), .int .i64 i, .int .i64 x] w fun e w' => e = .returned (.tuple #[.int .i64 (f i).x, .bool (f i).tk, .int .i64 0]) ∧ RTb w' R (upd f i ⟨true, false, x⟩) ∧ Frame R R w w' := by
  have hb : Hid (decide (0 ≤ (i : Int) ∧ (i : Int) < 32) = true) := decide_eq_true (by omega)
  have hi' : (i : Int) < 32 := by omega
  have hTl := h.lt
  have c0 := h.c0 i hi
  have c1 := h.c1 i hi
  have c2 := h.c2 i hi
  have f0 := h.fz (i * 3)
  have f1 := h.fz (i * 3 + 1)
  have f2 := h.fz (i * 3 + 2)
  have hne : R ≠ w.heap.size := by omega
  have hz := zero58
  obtain ⟨w3, hw3⟩ : ∃ w3, (((w.setCell ⟨R, i * 3, none⟩ (.int .i64 x)).setCell ⟨R, i * 3 + 1, none⟩ (.bool true)).setCell ⟨R, i * 3 + 2, none⟩ (.bool false)) = w3 := ⟨_, rfl⟩
  have hs3 : w3.heap.size = w.heap.size := by rw [← hw3]; simp [World.setCell]
  obtain ⟨wq, hwq⟩ : ∃ wq, w3.alloc (.cells #[.int .i64 (f i).x, .bool (f i).tk, .bool (f i).mr] 58) = wq := ⟨_, rfl⟩
  have hm := heap_made w3 (.cells #[.int .i64 (f i).x, .bool (f i).tk, .bool (f i).mr] 58)
  rw [hwq, hs3] at hm
  have q0 : wq.cell? ⟨w.heap.size, 0, none⟩ = some (.int .i64 (f i).x) := by simp only [World.cell?, hm]; rfl
  have q1 : wq.cell? ⟨w.heap.size, 1, none⟩ = some (.bool (f i).tk) := by simp only [World.cell?, hm]; rfl
  have hp0 := h.put i hi ⟨true, false, x⟩
  rw [hw3] at hp0
  have hp := Lib.hid (hwq ▸ hp0.keep (Below.heap_alloc w3 (.cells #[.int .i64 (f i).x, .bool (f i).tk, .bool (f i).mr] 58) R hp0.lt))
  have hF0 : Frame R R w w3 := by rw [← hw3]; exact (((Frame.refl R R w).setP _ _).setP _ _).setP _ _
  have hF := Lib.hid (hwq ▸ hF0.alloc (.cells #[.int .i64 (f i).x, .bool (f i).tk, .bool (f i).mr] 58))
  have hwH := Lib.hid (hw3.symm ▸ hwq)
  clear h hp0 hF0 hs3 hm hwq hw3
  go_enter Try.func29, Try.ntmps29
  go_wp2_with (go_at_call 49; refine (rin_b _ _ hb _).mono ?_; rintro e w' ⟨rfl, rfl⟩)
  rw [hwH.out]
  clear hwH c0 c1 c2 f0 f1 f2
  go_quiet (fail)
  go_wp2
  go_ret3
  exact ⟨rfl, hp.out.keep rfl, hF.out.drewN _⟩

theorem rfree_any {R : Nat} {f : Nat → Sl} (w : World) (h : RTb w R f) :
    Calls Try.prog 52 #[.pointer (some ⟨R, 0, none⟩)] w fun e w' => e = .returned (.int .i64 (32 - (upto f 32).length)) ∧ w' = w := by
  have hH := Lib.hid h
  clear h
  go_enter Try.func52, Try.ntmps52
  go_wp2
  go_loop [3, 4] (fun s3 s4 => ∃ k : Nat, k ≤ 32 ∧ s4 = .int .i64 k ∧ s3 = .int .i64 (k - (upto f k).length : Nat)) (fun _ s4 => 32 - (intOf s4).toNat)
  case atStart => exact ⟨0, Nat.zero_le _, rfl, rfl⟩
  case round =>
    obtain ⟨k, hk, rfl, rfl⟩ := hrel
    have hle := upto_len f k
    by_cases hk2 : k < 32
    · have hk' : (k : Int) < 32 := by omega
      have c1 := hH.out.c1 k hk2
      cases ht : (f k).tk
      · rw [ht] at c1
        have hn := upto_no ht
        obtain ⟨n, hn1⟩ : ∃ n, k - (upto f k).length = n := ⟨_, rfl⟩
        have hnn : Hid ((k + 1 - (upto f (k + 1)).length : Nat) = n + 1) := Lib.hid (by rw [hn]; omega)
        have hn32 : n ≤ 32 := by omega
        rw [hn1]
        clear ht hn hn1 hle
        go_wp2
        go_round
        case rel => exact ⟨k + 1, by omega, by go_num, by rw [hnn.out]; go_num⟩
        case measure => simp [intOf]; omega
      · rw [ht] at c1
        have hn := upto_yes hk2 ht
        obtain ⟨n, hn1⟩ : ∃ n, k - (upto f k).length = n := ⟨_, rfl⟩
        have hnn : Hid ((k + 1 - (upto f (k + 1)).length : Nat) = n) := Lib.hid (by rw [hn, List.length_append, List.length_singleton]; omega)
        rw [hn1]
        clear ht hn hn1 hle
        go_wp2
        go_round
        case rel => exact ⟨k + 1, by omega, by go_num, by rw [hnn.out]⟩
        case measure => simp [intOf]; omega
    · obtain rfl : k = 32 := by omega
      have he : Hid (((32 - (upto f 32).length : Nat) : Int) = 32 - (upto f 32).length) := Lib.hid (by omega)
      rw [he.out]
      go_wp2
      go_ret
      exact ⟨rfl, rfl⟩
end
end Go.Proofs.Ytifoanmoadogoaa
