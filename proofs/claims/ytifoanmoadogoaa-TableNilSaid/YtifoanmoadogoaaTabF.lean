/- The contracts of no table (nil): every call answers as nothing. No condition. -/
import Derived.Test.YtifoanmoadogoaaTabE
namespace Go.Proofs.Ytifoanmoadogoaa
open Go.RowKit Go.Shelf
attribute [local go_sem] Oper.semAt_some

section
set_option maxHeartbeats 400000
theorem set_nil (fd x : Int) (w : World) : Calls Try.prog 28 #[.pointer none, .int .i64 fd, .int .i64 x] w fun e w' => e = .returned (.tuple #[.int .i64 0, .bool false, .int .i64 9]) ∧ w' = w := by
  go_enter Try.func28, Try.ntmps28
  go_wp2
  go_ret3
  exact ⟨rfl, rfl⟩
theorem mark_nil (fd : Int) (b : Bool) (w : World) : Calls Try.prog 34 #[.pointer none, .int .i64 fd, .bool b] w fun e w' => e = .returned (.int .i64 9) ∧ w' = w := by
  go_enter Try.func34, Try.ntmps34
  go_wp2_with (go_at_call 50; refine (slot_nil _ _).mono ?_; rintro e w' ⟨rfl, rfl⟩)
  go_ret
  exact ⟨rfl, rfl⟩
theorem marked_nil (fd : Int) (w : World) : Calls Try.prog 41 #[.pointer none, .int .i64 fd] w fun e w' => e = .returned (.bool false) ∧ w' = w := by
  go_enter Try.func41, Try.ntmps41
  go_wp2_with (go_at_call 50; refine (slot_nil _ _).mono ?_; rintro e w' ⟨rfl, rfl⟩)
  go_ret
  exact ⟨rfl, rfl⟩
theorem copy_nil (w : World) : Calls Try.prog 38 #[.pointer none] w fun e w' => e = .returned (.pointer none) ∧ w' = w := by
  go_enter Try.func38, Try.ntmps38
  go_wp2
  go_ret
  exact ⟨rfl, rfl⟩
end

set_option maxRecDepth 100000 in
set_option maxHeartbeats 1000000 in
theorem all53_nil (n : Nat) (hn : 1 ≤ n) (l Bn : Nat) (J : List (Fin 32 × Int) → World → Prop)
    (W : World) (hBn : W.cell? ⟨Bn, 0, none⟩ = some (.pointer none)) (h0 : J [] W) :
    CallsIn Fence.wide n Try.prog 53 #[.func (.yield l) #[] #[], .pointer (some ⟨Bn, 0, none⟩)] W fun e W' => (∃ v, e = .returned v) ∧ J [] W' := by
  refine callsIn_of_wp Try.func53 rfl trivial ?_ rfl
  simp only [Try.ntmps53, List.size_toArray, List.length_cons, List.length_nil, Nat.reduceAdd, Nat.reduceSub, Array.replicate_succ, Array.replicate_zero, List.push_toArray, List.append_toArray, List.nil_append, List.cons_append]
  gi_wp2
  gi_loopw [5] (fun s5 wr => ∃ k : Nat, k ≤ 32 ∧ s5 = .int .i64 k ∧ wr = W) (fun s5 _ => 32 - (intOf s5).toNat)
  case atStart => exact ⟨0, by omega, rfl, rfl⟩
  case round =>
    obtain ⟨k, hk, rfl, rfl⟩ := hrel
    have hJH := Lib.hid h0
    clear h0
    by_cases hk2 : k < 32
    · have hk' : (k : Int) < 32 := by omega
      gi_wp2_with (refine ⟨trivial, ?_⟩; gi_at_call 50; refine (callsIn_wide.2 (slot_nil _ _)).mono ?_; rintro e w' ⟨rfl, rfl⟩)
      refine ⟨fun _ h => (by cases h), ?_⟩
      gi_wp2
      go_roundw
      case rel => exact ⟨k + 1, by omega, by go_num, trivial⟩
      case measure => simp [intOf]; omega
    · obtain rfl : k = 32 := by omega
      gi_wp2
      go_end0
      exact ⟨⟨_, rfl⟩, hJH.out⟩

theorem all_stops_nil (n : Nat) (hn : 1 ≤ n) (Bn n₀ : Nat) (w : World) (hB0 : Bn < w.heap.size) (hBn : w.cell? ⟨Bn, 0, none⟩ = some (.pointer none)) :
    SeqStopsK Fence.wide n Try.prog 53 #[.pointer (some ⟨Bn, 0, none⟩)] encT (KeepT n₀ Bn) (fun xs => xs = []) (fun _ => False) 0 w := by
  intro l J Jx W hW _ _ _ h0
  exact (all53_nil n hn l Bn J W ((hW.cell (p := ⟨Bn, 0, none⟩) hB0).trans hBn) h0).mono fun _ _ ⟨hv, hj⟩ => ⟨hv, .inl ⟨_, rfl, hj⟩⟩

set_option maxRecDepth 100000 in
set_option maxHeartbeats 2000000 in
theorem exec_nil_in (n : Nat) (hn : 3 ≤ n) (w : World) :
    CallsIn Fence.wide n Try.prog 36 #[.pointer none] w fun e w' => e = .returned (.slice none 0 0) ∧ Below w.heap.size w w' := by
  have h1 : 1 ≤ n := by omega
  refine callsIn_of_wp_marks Try.func36 rfl trivial ?_ rfl
  simp only [Try.ntmps36, List.size_toArray, List.length_cons, List.length_nil, Nat.reduceAdd, Nat.reduceSub, Array.replicate_succ, Array.replicate_zero, List.push_toArray, List.append_toArray, List.nil_append, List.cons_append]
  gi_wp2_with (refine ⟨trivial, ?_⟩; gi_at_call 40; refine (callsIn_wide.2 (all_any _ _)).mono ?_; rintro e w' ⟨rfl, rfl⟩)
  have c1 := cell_new_at (w.alloc (.cells #[.pointer none] 54)) (.slice none 0 0) 50
  have c2 := cell_new_at ((w.alloc (.cells #[.pointer none] 54)).alloc (.cells #[.slice none 0 0] 50)) (.pointer none) 54
  simp only [World.size_alloc] at c1 c2
  have hB0 : Below w.heap.size w (((w.alloc (.cells #[.pointer none] 54)).alloc (.cells #[.slice none 0 0] 50)).alloc (.cells #[.pointer none] 54)) :=
    (((Below.refl _ w).alloc (Nat.le_refl _) _).alloc (by simp) _).alloc (by simp; omega) _
  generalize hW : (((w.alloc (.cells #[.pointer none] 54)).alloc (.cells #[.slice none 0 0] 50)).alloc (.cells #[.pointer none] 54)) = W0 at c2 hB0 ⊢
  have hsz : W0.heap.size = w.heap.size + 3 := by rw [← hW]; simp
  have hc1 : W0.cell? ⟨w.heap.size + 1, 0, none⟩ = some (.slice none 0 0) := by
    rw [← hW]
    exact (cell_of_heap (a := ⟨w.heap.size + 1, 0, none⟩) (Below.heap_alloc _ _ _ (by simp))).trans c1.1
  clear hW c1
  refine wpIn_rangeFunc_ownF rfl h1 (gf := 53) (lb := #[.pointer (some ⟨w.heap.size + 1 + 1, 0, none⟩)]) rfl trivial (enters_of Try.func53 (by kernel_rfl) rfl)
    (all_stops_nil (n - 1) (by omega) (w.heap.size + 1 + 1) w.heap.size W0 (by omega) c2.1) (fun h k => keepT_t h k) (keepT_b (by omega) (by omega)) (Below.refl _ _) (fun _ => rfl)
    (fun _ W => W.cell? ⟨w.heap.size + 1, 0, none⟩ = some (.slice none 0 0) ∧ Below w.heap.size w W)
    (fun _ _ _ => False)
    (OwnFrom.and (Own.from (fun s A B row hs hg hr => cell_kept hs hg hr) _) (ownFrom_below (Nat.le_refl _) (by omega)))
    (fun _ _ _ _ _ hs _ _ => hs)
    ⟨hc1, hB0⟩
    (fun x => { tmps := #[.pointer none, .pointer (some ⟨w.heap.size, 0, none⟩), .slice none 0 0, .pointer (some ⟨w.heap.size + 1, 0, none⟩), .int .i64 (x.1.1 : Nat), .int .i64 x.2, .pointer none, .func (.func 53) #[] #[.pointer (some ⟨w.heap.size + 1 + 1, 0, none⟩)], .int .i64 (x.1.1 : Nat), .int .i64 x.2, undef, undef, undef, undef, undef, undef, undef, undef, undef, undef, undef], defers := [] }) ?assign ?body ?done ?stop
  case assign =>
    intro l x W K hK
    simp only [encT]
    gi_wp2
    exact hK
  case body =>
    intro l pre x W _ hlen
    exact absurd hlen (by omega)
  case done =>
    rintro D ys W hD rfl ⟨hc, hB⟩ hK
    gi_wp2
    refine ⟨by simp, .inl ⟨_, _, rfl, run_takeDeferred hK, ?_⟩⟩
    exact ⟨_, results_tmp rfl _ _ _, rfl, hB.trans (belowK_b (w := w) (Nat.le_refl _) W D _ _ (by omega) hK rfl rfl)⟩
  case stop =>
    rintro D c pre W _ _ h _
    exact h.elim

theorem exec_nil (w : World) : Calls Try.prog 36 #[.pointer none] w fun e w' => e = .returned (.slice none 0 0) ∧ Below w.heap.size w w' :=
  callsIn_wide.1 (exec_nil_in 3 (Nat.le_refl _) w)
end Go.Proofs.Ytifoanmoadogoaa
