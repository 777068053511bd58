/- The walk of the law TableNil: true at every input. No condition. -/
import Derived.Test.YtifoanmoadogoaaTabF
namespace Go.Proofs.Ytifoanmoadogoaa
open Go.RowKit Go.Shelf
attribute [local go_sem] Oper.semAt_some

theorem range_nil {g : Operand} {ps : Array Tmp} {body : Code} {Q : Exit → Act → World → Prop} {a : Act} {w : World} (n : Nat) (hn : 2 ≤ n) (Bn : Nat)
    (hg : a.eval g = .func (.func 53) #[] #[.pointer (some ⟨Bn, 0, none⟩)]) (hB0 : Bn < w.heap.size) (hBn : w.cell? ⟨Bn, 0, none⟩ = some (.pointer none)) (hps : ps.size = 2)
    (I : World → Prop) (hI : OwnFrom w.heap.size (fun (_ : List (Fin 32 × Int)) W => I W)) (h0 : I w)
    (hdone : ∀ (D : Nat) (W : World), w.heap.size ≤ D → I W → W.heap[D]? = some (.deferred (some [])) → Q .normal { a with defers := { target := .collected D, args := #[] } :: a.defers } W) :
    (Code.rangeFunc g ps Code.skip body).wpIn Fence.wide n Try.prog Q a w :=
  wpIn_rangeFunc_ownF rfl (by omega) (gf := 53) (lb := #[.pointer (some ⟨Bn, 0, none⟩)]) hg trivial (enters_of Try.func53 (by kernel_rfl) rfl)
    (all_stops_nil (n - 1) (by omega) Bn w.heap.size w hB0 hBn) (fun h k => keepT_t h k) (keepT_b (Nat.le_refl _) hB0) (Below.refl _ _) (fun x => by rw [hps]; rfl)
    (fun _ W => I W) (fun _ _ _ => False) hI (fun _ _ _ _ _ hs _ _ => hs) h0
    (fun x => { tmps := (ps.zip (encT x)).foldl (fun t (p, v) => t.setIfInBounds p v) a.tmps, defers := [] })
    (fun l x W K hK => wpIn_skip hK)
    (fun l pre x W _ hlen => absurd hlen (by omega)) (fun D ys W hD _ h hK => hdone D W hD h hK) (fun D c pre W _ _ h _ => h.elim)

set_option maxRecDepth 100000 in
set_option maxHeartbeats 4000000 in
theorem tableNil_in (x fd : Int) (w : World) :
    CallsIn Fence.wide 4 Try.prog 7 #[.int .i64 x, .int .i64 fd] w fun e w' => e = .returned (.bool true) ∧ Below w.heap.size w w' := by
  refine callsIn_of_wp_marks Try.func7 rfl trivial ?_ rfl
  simp only [Try.ntmps7, List.size_toArray, List.length_cons, List.length_nil, Nat.reduceAdd, Nat.reduceSub, Array.replicate_succ, Array.replicate_zero, List.push_toArray, List.append_toArray, List.nil_append, List.cons_append]
  gi_wp2_with (refine ⟨trivial, ?_⟩; first
    | (gi_at_call 24; refine (callsIn_wide.2 (tawake_any _)).mono ?_; rintro e w1 ⟨rfl, hB1⟩)
    | (gi_at_call 26; refine (callsIn_wide.2 (put_nil _ _ _)).mono ?_; rintro e w2 ⟨rfl, rfl⟩)
    | (gi_at_call 28; refine (callsIn_wide.2 (set_nil _ _ _)).mono ?_; rintro e w2 ⟨rfl, rfl⟩)
    | (gi_at_call 30; refine (callsIn_wide.2 (get_nil _ _)).mono ?_; rintro e w2 ⟨rfl, rfl⟩)
    | (gi_at_call 32; refine (callsIn_wide.2 (cut_none _ _ (get_nil _ _))).mono ?_; rintro e w2 ⟨rfl, rfl⟩)
    | (gi_at_call 40; refine (callsIn_wide.2 (all_any _ _)).mono ?_; rintro e w2 ⟨rfl, rfl⟩))
  have hR := cell_new_at w (.bool false) 4
  have hbn := cell_new_at w2 (.pointer none) 54
  have hw2 : w.heap.size < w2.heap.size := by have := hB1.size; simp at this; omega
  have hR2 : w2.cell? ⟨w.heap.size, 0, none⟩ = some (.bool false) ∧ w2.frozen? ⟨w.heap.size, 0, none⟩ = false :=
    ⟨(hB1.cell (p := ⟨w.heap.size, 0, none⟩) (by simp)).trans hR.1, (hB1.frozen (p := ⟨w.heap.size, 0, none⟩) (by simp)).trans hR.2⟩
  have hBel : Below w.heap.size w (w2.alloc (.cells #[.pointer none] 54)) := (((Below.refl _ w).alloc (Nat.le_refl _) _).trans (hB1.mono (by simp))).alloc (by omega) _
  have hR3 : (w2.alloc (.cells #[.pointer none] 54)).cell? ⟨w.heap.size, 0, none⟩ = some (.bool false) ∧ (w2.alloc (.cells #[.pointer none] 54)).frozen? ⟨w.heap.size, 0, none⟩ = false :=
    ⟨(cell_of_heap (a := ⟨w.heap.size, 0, none⟩) (Below.heap_alloc _ _ _ hw2)).trans hR2.1, (frozen_of_heap (a := ⟨w.heap.size, 0, none⟩) (Below.heap_alloc _ _ _ hw2)).trans hR2.2⟩
  have hsz : (w2.alloc (.cells #[.pointer none] 54)).heap.size = w2.heap.size + 1 := by simp
  clear hB1 hR hR2
  generalize w2.alloc (.cells #[.pointer none] 54) = W0 at hbn hBel hR3 hsz ⊢
  refine range_nil 4 (by omega) w2.heap.size rfl (by omega) hbn.1 rfl
    (fun W => (W.cell? ⟨w.heap.size, 0, none⟩ = some (.bool false) ∧ W.frozen? ⟨w.heap.size, 0, none⟩ = false) ∧ Below w.heap.size w W)
    (OwnFrom.and (Own.from (fun s A B row hs hg hr => ⟨cell_kept hs.1 hg hr, (frozen_kept hs.1 hg hr).trans hs.2⟩) _) (ownFrom_below (Nat.le_refl _) (by omega))) ⟨hR3, hBel⟩ ?_
  clear hbn hBel hR3
  rintro D W hD ⟨⟨hc, hf⟩, hB⟩ hK
  have hKH := Lib.hid hK
  clear hK
  gi_wp2_with (refine ⟨trivial, ?_⟩; first
    | (gi_at_call 34; refine (callsIn_wide.2 (mark_nil _ _ _)).mono ?_; rintro e w5 ⟨rfl, rfl⟩)
    | (gi_at_call 41; refine (callsIn_wide.2 (marked_nil _ _)).mono ?_; rintro e w5 ⟨rfl, rfl⟩)
    | (gi_at_call 42; refine (callsIn_wide.2 (free_nil _)).mono ?_; rintro e w5 ⟨rfl, rfl⟩)
    | (gi_at_call 38; refine (callsIn_wide.2 (copy_nil _)).mono ?_; rintro e w5 ⟨rfl, rfl⟩))
  refine ⟨trivial, ?_⟩
  refine (callsIn_wide.2 (exec_nil _)).mono ?_
  rintro e w6 ⟨rfl, hB6⟩
  have hlR : w.heap.size < w5.heap.size := block_of_cell (a := ⟨w.heap.size, 0, none⟩) hc
  have hlD : D < w5.heap.size := by
    rcases Nat.lt_or_ge D w5.heap.size with g | g
    · exact g
    · have := hKH.out; rw [Array.getElem?_eq_none g] at this; simp at this
  have hc6 := (hB6.cell (p := ⟨w.heap.size, 0, none⟩) hlR).trans hc
  have hf6 := (hB6.frozen (p := ⟨w.heap.size, 0, none⟩) hlR).trans hf
  have hK6 := Lib.hid ((hB6.block D hlD).trans hKH.out)
  have hBel6 := hB.trans (hB6.mono (by omega))
  have hRD : D ≠ w.heap.size := by omega
  clear hKH hc hf hB hB6
  gi_wp2
  have hK' := (KeepsOthers.setCell w6 ⟨w.heap.size, 0, none⟩ (.bool true)).same D _ hK6.out rfl
  refine ⟨by simp, .inl ⟨_, _, rfl, run_takeDeferred hK', ?_⟩⟩
  have hc7 := cell_kept (World.cell?_setCell_same' w6 ⟨w.heap.size, 0, none⟩ (.bool true) (by rw [hc6]; rfl)) (grownBy_putObj' _ D (.deferred none)) (fun r e => by cases e; exact ⟨_, hK', rfl⟩)
  refine ⟨.bool true, ?_, rfl, (hBel6.setCell (p := ⟨w.heap.size, 0, none⟩) (by simp) _).trans (belowK_b (w := w) (Nat.le_refl _) _ D _ _ (by omega) hK' rfl rfl)⟩
  simp [results, Try.f7, go_sem, hc7]

theorem tableNil_w (x fd : Int) (w : World) (_ : (Lit.int .i64 x).wf = true) (_ : (Lit.int .i64 fd).wf = true) :
    Calls Try.prog 7 #[.int .i64 x, .int .i64 fd] w fun e w' => e = .returned (.bool true) ∧ Below w.heap.size w w' :=
  callsIn_wide.1 (tableNil_in x fd w)
end Go.Proofs.Ytifoanmoadogoaa
