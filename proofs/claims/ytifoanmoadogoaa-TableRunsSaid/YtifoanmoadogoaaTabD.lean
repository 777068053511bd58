/- Free of a table, and of none. Condition: the table's cells are as stated. -/
import Derived.Test.YtifoanmoadogoaaTabC
namespace Go.Proofs.Ytifoanmoadogoaa
open Go.RowKit Go.Shelf
attribute [local go_sem] Oper.semAt_some

theorem cell_new_at (w : World) (v : Value) (t : TypeId) : (w.alloc (.cells #[v] t)).cell? ⟨w.heap.size, 0, none⟩ = some v ∧ (w.alloc (.cells #[v] t)).frozen? ⟨w.heap.size, 0, none⟩ = false := by
  have h := heap_made w (.cells #[v] t)
  exact ⟨by simp only [World.cell?, h]; rfl, by unfold World.frozen?; rw [h]; simp⟩

set_option maxHeartbeats 400000 in
theorem free_nil (w : World) : Calls Try.prog 42 #[.pointer none] w fun e w' => e = .returned (.int .i64 0) ∧ w' = w := by
  go_enter Try.func42, Try.ntmps42
  go_wp2
  go_ret
  exact ⟨rfl, rfl⟩

set_option maxRecDepth 100000 in
set_option maxHeartbeats 2000000 in
theorem free_in (n : Nat) (hn : 3 ≤ n) (T : Nat) (f : Nat → Sl) (w : World) (hT : TabAt w T f) :
    CallsIn Fence.wide n Try.prog 42 #[.pointer (some ⟨T, 0, none⟩)] w fun e w' => e = .returned (.int .i64 (32 - (upto f 32).length)) ∧ Below w.heap.size w w' := by
  have h1 : 1 ≤ n := by omega
  have hTl := hT.lt
  have hTH := Lib.hid hT
  clear hT
  refine callsIn_of_wp_marks Try.func42 rfl trivial ?_ rfl
  simp only [Try.ntmps42, List.size_toArray, List.length_cons, List.length_nil, Nat.reduceAdd, Nat.reduceSub, Array.replicate_succ, Array.replicate_zero, List.push_toArray, List.append_toArray, List.nil_append, List.cons_append]
  gi_wp2_with (refine ⟨trivial, ?_⟩; gi_at_call 40; refine (callsIn_wide.2 (all_any _ _)).mono ?_; rintro e w' ⟨rfl, rfl⟩)
  have hs := cell_new_at w (.int .i64 32) 3
  have hb := cell_new_at (w.alloc (.cells #[.int .i64 32] 3)) (.pointer (some ⟨T, 0, none⟩)) 54
  rw [World.size_alloc] at hb
  have hs' : ((w.alloc (.cells #[.int .i64 32] 3)).alloc (.cells #[.pointer (some ⟨T, 0, none⟩)] 54)).cell? ⟨w.heap.size, 0, none⟩ = some (.int .i64 32) ∧
      ((w.alloc (.cells #[.int .i64 32] 3)).alloc (.cells #[.pointer (some ⟨T, 0, none⟩)] 54)).frozen? ⟨w.heap.size, 0, none⟩ = false :=
    ⟨(cell_of_heap (a := ⟨w.heap.size, 0, none⟩) (Below.heap_alloc _ _ _ (by simp))).trans hs.1, (frozen_of_heap (a := ⟨w.heap.size, 0, none⟩) (Below.heap_alloc _ _ _ (by simp))).trans hs.2⟩
  have hB0 : Below w.heap.size w ((w.alloc (.cells #[.int .i64 32] 3)).alloc (.cells #[.pointer (some ⟨T, 0, none⟩)] 54)) := ((Below.refl _ w).alloc (Nat.le_refl _) _).alloc (by simp) _
  refine wpIn_rangeFunc_ownF rfl h1 (gf := 53) (lb := #[.pointer (some ⟨w.heap.size + 1, 0, none⟩)]) rfl trivial (enters_of Try.func53 (by kernel_rfl) rfl)
    (all_stops (n - 1) (by omega) (w.heap.size + 1) w.heap.size T f _ (by simp; omega) (by simp) hb.1 hTl (hTH.out.keep (hB0.block T hTl))) (fun h k => keepT_t h k) (keepT_b (by simp; omega) (by simp)) (Below.refl _ _) (fun _ => rfl)
    (fun pre W => (W.cell? ⟨w.heap.size, 0, none⟩ = some (.int .i64 (32 - pre.length)) ∧ W.frozen? ⟨w.heap.size, 0, none⟩ = false) ∧ Below w.heap.size w W)
    (fun _ _ _ => False)
    (OwnFrom.and (Own.from (fun s A B row hs hg hr => ⟨cell_kept hs.1 hg hr, (frozen_kept hs.1 hg hr).trans hs.2⟩) _) (ownFrom_below (Nat.le_refl _) (by simp; omega)))
    (fun _ _ _ _ _ hs _ _ => hs)
    ⟨⟨hs'.1, hs'.2⟩, hB0⟩
    (fun x => { tmps := #[.pointer (some ⟨T, 0, none⟩), undef, .int .i64 0, .pointer (some ⟨w.heap.size, 0, none⟩), .pointer (some ⟨T, 0, none⟩), .bool false, .pointer (some ⟨T, 0, none⟩), .func (.func 53) #[] #[.pointer (some ⟨w.heap.size + 1, 0, none⟩)], .int .i64 (x.1.1 : Nat), .int .i64 x.2, undef, undef, undef], defers := [] }) ?assign ?body ?done ?stop
  case assign =>
    intro l x W K hK
    gi_wp2
    simpa [encT] using hK
  case body =>
    rintro l pre x W ⟨⟨hc, hf⟩, hB⟩ hlen
    have hlen' : (pre.length : Int) < 32 := by omega
    have hcH := Lib.hid hc
    gi_wp2
    refine ⟨KeepsOthers.setCell _ _ _, ⟨(Below.refl w.heap.size W).setCell (p := ⟨w.heap.size, 0, none⟩) (Nat.le_refl _) _, Below.heap_setCell _ _ _ _ (by simp)⟩, ⟨?_, by rw [World.frozen?_setCell]; exact hf⟩, hB.setCell (p := ⟨w.heap.size, 0, none⟩) (Nat.le_refl _) _⟩
    rw [cell_set_same hcH.out rfl]
    simp
    omega
  case done =>
    rintro D ys W hD rfl ⟨⟨hc, _⟩, hB⟩ hK
    gi_wp2
    refine ⟨by simp, .inl ⟨_, _, rfl, run_takeDeferred hK, ?_⟩⟩
    exact ⟨_, results_tmp rfl _ _ _, rfl, hB.trans (belowK_b (w := w) (Nat.le_refl _) W D _ _ (by simp at hD; omega) hK rfl rfl)⟩
  case stop =>
    rintro D c pre W _ _ h _
    exact h.elim

theorem free_any {T : Nat} {f : Nat → Sl} (w : World) (hT : TabAt w T f) : Calls Try.prog 42 #[.pointer (some ⟨T, 0, none⟩)] w fun e w' => e = .returned (.int .i64 (32 - (upto f 32).length)) ∧ Below w.heap.size w w' :=
  callsIn_wide.1 (free_in 3 (Nat.le_refl _) T f w hT)
end Go.Proofs.Ytifoanmoadogoaa
