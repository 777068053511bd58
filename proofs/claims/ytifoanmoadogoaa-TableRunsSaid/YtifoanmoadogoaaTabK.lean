/- The iterator All of a table, whose slots may be cut as they come. Condition: the table's cells are as stated. -/
import Derived.Test.YtifoanmoadogoaaTabJ
namespace Go.Proofs.Ytifoanmoadogoaa
open Go.RowKit Go.Shelf
attribute [local go_sem] Oper.semAt_some

/-- What a round keeps: the block that holds the table's address, and the slots behind the one that came. -/
def KeepX (T Bn : Nat) (_ : List (Fin 32 × Int)) (x : Fin 32 × Int) (A B : World) : Prop :=
  B.heap[Bn]? = A.heap[Bn]? ∧ ∀ f, TabAt A T f → ∃ g, TabAt B T g ∧ ∀ i, x.1.1 < i → g i = f i
theorem keepX_b {T Bn : Nat} {w0 : World} (hT : T < w0.heap.size) (hB : Bn < w0.heap.size) (pre : List (Fin 32 × Int)) (x : Fin 32 × Int) (A B : World) (k : Nat) (o o' : Obj) (hk : w0.heap.size ≤ k) (h : KeepX T Bn pre x (A.putObj k o) B) : KeepX T Bn pre x A (B.putObj k o') := by
  refine ⟨(World.putObj_heap_other (by omega)).trans (h.1.trans (World.putObj_heap_other (by omega))), fun f hf => ?_⟩
  obtain ⟨g, h1, h2⟩ := h.2 f (hf.keep (World.putObj_heap_other (by omega)))
  exact ⟨g, h1.keep (World.putObj_heap_other (by omega)), h2⟩

set_option maxRecDepth 100000 in
set_option maxHeartbeats 1000000 in
theorem all53_x (n : Nat) (hn : 1 ≤ n) (l Bn T : Nat) (f : Nat → Sl) (J Jx : List Nat → List (Fin 32 × Int) → World → Prop)
    (hY : ∀ U pre x W, pre ++ [x] <+: upto f 32 → J U pre W → YieldAt Fence.wide (n - 1) Try.prog l (encT x) W fun e W' =>
      (e = .returned (.bool true) ∧ J U (pre ++ [x]) W' ∧ Keeps U W W' ∧ KeepX T Bn pre x W W') ∨ (e = .returned (.bool false) ∧ Jx U (pre ++ [x]) W' ∧ Keeps U W W'))
    (W : World) (hBn : W.cell? ⟨Bn, 0, none⟩ = some (.pointer (some ⟨T, 0, none⟩))) (hT : TabAt W T f) (h0 : J [] [] W) :
    CallsIn Fence.wide n Try.prog 53 #[.func (.yield l) #[] #[], .pointer (some ⟨Bn, 0, none⟩)] W fun e W' => (∃ v, e = .returned v) ∧
      ((∃ U ys, ys = upto f 32 ∧ J U ys W') ∨ (∃ U pre, pre <+: upto f 32 ∧ Jx U pre W')) := by
  refine callsIn_of_wp Try.func53 rfl trivial ?_ rfl
  simp only [Try.ntmps53, List.size_toArray, List.length_cons, List.length_nil, Nat.reduceAdd, Nat.reduceSub, Array.replicate_succ, Array.replicate_zero, List.push_toArray, List.append_toArray, List.nil_append, List.cons_append]
  gi_wp2
  gi_loopw [5] (fun s5 wr => ∃ k : Nat, k ≤ 32 ∧ s5 = .int .i64 k ∧ wr.cell? ⟨Bn, 0, none⟩ = some (.pointer (some ⟨T, 0, none⟩)) ∧ (∃ g, TabAt wr T g ∧ ∀ i, k ≤ i → g i = f i) ∧ J [] (upto f k) wr) (fun s5 _ => 32 - (intOf s5).toNat)
  case atStart => exact ⟨0, by omega, rfl, hBn, ⟨f, hT, fun _ _ => rfl⟩, h0⟩
  case round =>
    obtain ⟨k, hk, rfl, hb, ⟨g, ht, hg⟩, hJ⟩ := hrel
    have hTH := Lib.hid ht
    have hJH := Lib.hid hJ
    have hgH := Lib.hid hg
    by_cases hk2 : k < 32
    · have hk' : (k : Int) < 32 := by omega
      have hgk := hg k (Nat.le_refl _)
      cases htk : (f k).tk
      · have hs := slot_in k hk2 wr ht
        rw [hgk, htk] at hs
        simp only [Bool.false_eq_true, if_false] at hs
        have hs' := Lib.hid hs
        have hno := Lib.hid (upto_no htk)
        clear hs ht hJ htk hg hgk
        gi_wp2_with (refine ⟨trivial, ?_⟩; gi_at_call 50; refine (callsIn_wide.2 hs'.out).mono ?_; rintro e w' ⟨rfl, rfl⟩)
        refine ⟨fun _ h => (by cases h), ?_⟩
        gi_wp2
        go_roundw
        case rel => exact ⟨k + 1, by omega, by go_num, hb, ⟨g, hTH.out, fun i hi => hgH.out i (by omega)⟩, by rw [hno.out]; exact hJH.out⟩
        case measure => simp [intOf]; omega
      · have hs := slot_in k hk2 wr ht
        rw [hgk, htk] at hs
        simp only [if_true] at hs
        have hs' := Lib.hid hs
        have hyes := Lib.hid (upto_yes hk2 htk)
        have c2 := ht.c2 k hk2
        rw [hgk] at c2
        have hpre0 := upto_mono f (show k + 1 ≤ 32 by omega)
        obtain ⟨fn, tmps, assign, body, hy, hR⟩ := hY [] (upto f k) (⟨k, hk2⟩, (f k).x) wr (by rw [upto_yes hk2 htk] at hpre0; exact hpre0) hJ
        dsimp only [encT] at hy
        have hRH := Lib.hid hR
        have hpre := Lib.hid hpre0
        clear hs ht hJ htk hR hg hgk hpre0
        gi_wp2_with (refine ⟨trivial, ?_⟩; gi_at_call 50; refine (callsIn_wide.2 hs'.out).mono ?_; rintro e w' ⟨rfl, rfl⟩)
        refine hRH.out.mono ?_
        rintro e W3 (⟨rfl, hJ3, _, hk3⟩ | ⟨rfl, hJx3, _⟩)
        · have hb3 := (cell_of_heap (a := ⟨Bn, 0, none⟩) hk3.1).trans hb
          obtain ⟨g3, hT3, hg3⟩ := hk3.2 g hTH.out
          have hT3' := Lib.hid hT3
          have hg3' := Lib.hid hg3
          have hJ3' := Lib.hid hJ3
          clear hJ3 hk3 hT3 hg3
          gi_wp2
          go_roundw
          case rel => exact ⟨k + 1, by omega, by go_num, hb3, ⟨g3, hT3'.out, fun i hi => (hg3'.out i (by show k < i; omega)).trans (hgH.out i (by omega))⟩, by rw [hyes.out]; exact hJ3'.out⟩
          case measure => simp [intOf]; omega
        · have hJx' := Lib.hid hJx3
          clear hJx3
          gi_wp2
          refine bodyPost_ret (results_none rfl _ _ _) rfl ?_
          exact ⟨⟨_, rfl⟩, .inr ⟨_, _, by have := hpre.out; rw [hyes.out] at this; exact this, hJx'.out⟩⟩
    · obtain rfl : k = 32 := by omega
      gi_wp2
      go_end0
      exact ⟨⟨_, rfl⟩, .inl ⟨_, _, rfl, hJ⟩⟩

theorem all_x (n : Nat) (hn : 1 ≤ n) (Bn T : Nat) (f : Nat → Sl) (w : World) (hB0 : Bn < w.heap.size) (hBn : w.cell? ⟨Bn, 0, none⟩ = some (.pointer (some ⟨T, 0, none⟩))) (hT : TabAt w T f) :
    SeqT Fence.wide n Try.prog 53 #[.pointer (some ⟨Bn, 0, none⟩)] encT (KeepX T Bn) (fun xs => xs = upto f 32) (fun pre => pre <+: upto f 32) w := by
  intro l J Jx W hW _ _ hY h0
  exact all53_x n hn l Bn T f J Jx hY W ((hW.cell (p := ⟨Bn, 0, none⟩) hB0).trans hBn) (hT.keep (hW.block T hT.lt)) h0
end Go.Proofs.Ytifoanmoadogoaa
