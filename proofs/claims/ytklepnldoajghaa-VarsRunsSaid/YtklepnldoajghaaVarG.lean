/- Clones of rows; copy of the two rows. Condition: the rows are owned. -/
import Derived.Test.YtklepnldoajghaaVarR
namespace Go.Proofs.Ytklepnldoajghaa
open Go.RowKit
attribute [local go_sem] Oper.semAt_some

theorem row_weak {w : World} {b b' : Nat} {e : TypeId} {size : Nat} {v : Value} {n : Nat} {xs : List Value} (h : w.ownsRow b e size v n xs) (hb : b' ≤ b) : w.ownsRow b' e size v n xs := by
  refine ⟨h.1, ?_⟩
  rcases h.2 with h | ⟨g, cap, cur, e1, e2, e3⟩
  · exact .inl h
  · exact .inr ⟨g, cap, cur, e1, Nat.le_trans hb e2, e3⟩
theorem undrew {n : Nat} {A w : World} (h : Below n A.drew w) : Below n A w := ⟨h.os, h.tape, h.output, h.size, h.block⟩
theorem row_cells {n₀ : Nat} {e : TypeId} {size : Nat} {w : World} {g n cap : Nat} {xs : List Value} (h : w.ownsRow n₀ e size (.slice (some ⟨g, 0, none⟩) n cap) n xs) : ∀ j u, xs[j]? = some u → w.cell? ⟨g, 0 + j, none⟩ = some u := fun j u hj => by
  rcases h.2 with ⟨e, _⟩ | ⟨g1, cap1, cur, e, _, hg, _, _, _, htk⟩
  · cases e
  · obtain ⟨rfl, rfl⟩ : g = g1 ∧ cap = cap1 := by simpa using e
    have hl : j < n * size := by rw [← h.1]; exact (List.getElem?_eq_some_iff.1 hj).1
    rw [← htk, List.getElem?_take_of_lt hl, Array.getElem?_toList] at hj
    rw [Nat.zero_add]
    exact (cell_of_row w g j cur _ (0, 0) hg).trans hj

theorem flat_one {α : Type} {enc : α → List Value} (h : ∀ y, ∀ u ∈ enc y, u.oneCell' = true) (l : List α) : ∀ u ∈ flat enc l, u.oneCell' = true := fun u hu => by
  obtain ⟨y, _, hy⟩ := List.mem_flatMap.1 hu
  exact h y u hy

/-- The clone of texts, wherever they lie. -/
theorem clone_at {K : List ByteArray} (b off n c : Nat) (w : World) (hn : K.length = n) (h : ∀ j u, (flat kcs K)[j]? = some u → w.cell? ⟨b, off + j, none⟩ = some u) (hlen : n ≤ 100000) :
    Calls Try.prog 38 #[.slice (some ⟨b, off, none⟩) n c] w fun e w' => ∃ v', e = .returned v' ∧ w'.ownsRow w.heap.size 9 1 v' n (flat kcs K) ∧ Below w.heap.size w w' := by
  obtain ⟨i0, hi0, hz0, hz1, hz2⟩ := info_parts info9
  refine (Try.slices_Clone i0 _ 1 16 hi0 hz0 hz1 hz2 rfl (by decide) Try.sizeOf9 b off n c (flat kcs K) w (by rw [flat_len kcs_len, hn]) (by unfold maxLen; omega) (by omega) h (flat_one kcs_one K)).mono ?_
  rintro e w' ⟨v', rfl, hrow, _, hb⟩
  exact ⟨v', rfl, hrow, hb⟩

theorem clone_k {n₀ : Nat} {K : List ByteArray} {v : Value} (w : World) (h : w.ownsRow n₀ 9 1 v K.length (flat kcs K)) (hlen : K.length ≤ 100000) :
    Calls Try.prog 38 #[v] w fun e w' => ∃ v', e = .returned v' ∧ w'.ownsRow w.heap.size 9 1 v' K.length (flat kcs K) ∧ Below w.heap.size w w' := by
  rcases h.2 with ⟨rfl, h0⟩ | ⟨g, cap, cur, rfl, hr⟩
  · refine (Try.slices_Clone_nil 0 0 w).mono ?_
    rintro e w' ⟨rfl, rfl⟩
    obtain rfl : K = [] := List.eq_nil_of_length_eq_zero h0
    exact ⟨_, rfl, World.ownsRow_nil _ _ _ _, Below.refl _ _⟩
  · exact clone_at g 0 K.length cap w rfl (row_cells h) hlen

theorem clone_v {n₀ : Nat} {V : List Vb} {v : Value} (w : World) (h : w.ownsRow n₀ 68 4 v V.length (flat vcs V)) (hlen : V.length ≤ 100000) :
    Calls Try.prog 53 #[v] w fun e w' => ∃ v', e = .returned v' ∧ w'.ownsRow w.heap.size 68 4 v' V.length (flat vcs V) ∧ Below w.heap.size w w' := by
  obtain ⟨i0, hi0, hz0, hz1, hz2⟩ := info_parts info68
  rcases h.2 with ⟨rfl, h0⟩ | ⟨g, cap, cur, rfl, hr⟩
  · refine (Try.slices_CloneV_nil 0 0 w).mono ?_
    rintro e w' ⟨rfl, rfl⟩
    obtain rfl : V = [] := List.eq_nil_of_length_eq_zero h0
    exact ⟨_, rfl, World.ownsRow_nil _ _ _ _, Below.refl _ _⟩
  · have hc := row_cells h
    refine (Try.slices_CloneV i0 _ 4 24 hi0 hz0 hz1 hz2 rfl (by decide) Try.sizeOf68 g 0 V.length cap (flat vcs V) w (flat_len vcs_len V) (by unfold maxLen; omega) (by omega) hc (flat_one vcs_one V)).mono ?_
    rintro e w' ⟨v', rfl, hrow, _, hb⟩
    exact ⟨v', rfl, hrow, hb⟩

set_option maxHeartbeats 1000000 in
theorem copy_any {n₀ : Nat} {p : Nat} {L : Vl} {kv vv : Value} (w : World) (h : OrdAt n₀ w p L kv vv) :
    Calls Try.prog 39 #[.pointer (some ⟨p, 0, none⟩)] w fun e w' => ∃ kv' vv', e = .returned (.agg #[kv', vv']) ∧ w'.ownsRow w.heap.size 9 1 kv' (ks L).length (flat kcs (ks L)) ∧ w'.ownsRow w.heap.size 68 4 vv' (vs L).length (flat vcs (vs L)) ∧ Below w.heap.size w w' := by
  obtain ⟨a0, n0, rfl⟩ := ownsRow_slice h.keys
  obtain ⟨a1, n1, rfl⟩ := ownsRow_slice h.vals
  have hp : p < w.heap.size := block_of_cell h.c0
  have hl := h.len
  have hlk : (ks L).length ≤ 100000 := by rw [ks_len]; omega
  have hlv : (vs L).length ≤ 100000 := by rw [vs_len]; omega
  have h0 : ∀ W, Below w.heap.size w W → W.cell? ⟨p, 0, none⟩ = some _ := fun W hW => (hW.cell (p := ⟨p, 0, none⟩) hp).trans h.c0
  have h1 : ∀ W, Below w.heap.size w W → W.cell? ⟨p, 1, none⟩ = some _ := fun W hW => (hW.cell (p := ⟨p, 1, none⟩) hp).trans h.c1
  obtain ⟨A, hA⟩ : ∃ A, (w.alloc (.cells #[.slice none 0 0, .slice none 0 0] 63)) = A := ⟨_, rfl⟩
  obtain ⟨m, hm⟩ : ∃ m, w.heap.size = m := ⟨_, rfl⟩
  have hBA : Below m w A := by rw [← hA]; exact (Below.refl _ _).alloc (by omega) _
  have hmA : Blk A m 63 #[.slice none 0 0, .slice none 0 0] := by rw [← hA, ← hm]; exact Blk.new w 63 _
  rw [hm] at h0 h1
  have h00 := h0 A hBA
  have h01 := h1 A hBA
  have hcall := clone_k A.drew (row_beneath (w1 := A.drew) h.keys (by rw [hm]; exact hBA.drew)) hlk
  have hH := Lib.hid h
  have hAH := Lib.hid hA
  have hmH := Lib.hid hm
  have hBAH := Lib.hid hBA
  have hmAH := Lib.hid hmA
  have h1H := Lib.hid h1
  have hcallH := Lib.hid hcall
  rw [hm]
  clear h hA hm hBA hmA h0 h1 hcall
  go_enter Try.func39, Try.ntmps39
  go_wp2_with (rw [hAH.out])
  rw [hmH.out]
  go_region_with ((first | (go_at_call 38; refine hcallH.out.mono ?_; rintro e w1 ⟨k', rfl, hk', hb'⟩; obtain ⟨ka, kc, rfl⟩ := ownsRow_slice hk'; have hbA' : Below A.heap.size A w1 := undrew hb'; have q1 := h1H.out w1 (hBAH.out.trans (hbA'.mono (Nat.le_of_lt hmAH.out.lt))); have hk'H := Lib.hid hk'; have hb'H := Lib.hid hbA'; clear hk' hb' hbA') | (go_at_call 53; refine (clone_v w1 (row_beneath (w1 := w1) hH.out.vals (by rw [hmH.out]; exact hBAH.out.trans (hb'H.out.mono (Nat.le_of_lt hmAH.out.lt)))) hlv).mono ?_; rintro e w2 ⟨v', rfl, hv', hc'⟩; obtain ⟨va, vc, rfl⟩ := ownsRow_slice hv'; have hm2 := blk_beneath (blk_beneath hmAH.out hb'H.out) hc'; have r0 : w2.cell? ⟨m, 0, none⟩ = some (.slice none 0 0) := hm2.cell 0; have r1 : w2.cell? ⟨m, 1, none⟩ = some (.slice none 0 0) := hm2.cell 1; have s0 : w2.frozen? ⟨m, 0, none⟩ = false := hm2.frozen 0; have s1 : w2.frozen? ⟨m, 1, none⟩ = false := hm2.frozen 1; have hv'H := Lib.hid hv'; have hc'H := Lib.hid hc'; have hm2H := Lib.hid hm2; clear hv' hc' hm2)))
  all_goals
    go_wp2_with fail
    have hbb := hb'H.out
    have hcc := hc'H.out
    have hmm := hmH.out
    have hml := hmAH.out.lt
    obtain ⟨X, hX⟩ : ∃ X, (w2.setCell ⟨m, 0, none⟩ (Value.slice ka (ks L).length kc)).setCell ⟨m, 1, none⟩ (Value.slice va (vs L).length vc) = X := ⟨_, rfl⟩
    have hXb : Blk X m 63 #[Value.slice ka (ks L).length kc, Value.slice va (vs L).length vc] := by rw [← hX]; exact (hm2H.out.set_ 0 _).set_ 1 _
    have hfar : ∀ k, k ≠ m → X.heap[k]? = w2.heap[k]? := fun k hk => by rw [← hX]; exact (Below.heap_setCell _ _ _ k hk).trans (Below.heap_setCell _ _ _ k hk)
    have hXB : Below m w X := by
      rw [← hX]
      exact (((hBAH.out.trans (hbb.mono (Nat.le_of_lt hml))).trans (hcc.mono (Nat.le_trans (Nat.le_of_lt hml) hbb.size))).setCell (Nat.le_refl m) _).setCell (Nat.le_refl m) _
    have hk2 := row_beneath hk'H.out hcc
    rw [hX]
    have c0 := hXb.cell 0
    have c1 := hXb.cell 1
    refine bodyPost_ret (v := .agg #[Value.slice ka (ks L).length kc, Value.slice va (vs L).length vc]) (by simp [results, Try.f39, go_sem, c0, c1]) rfl ⟨_, _, rfl, ?_, ?_, hXB⟩
    · exact row_weak (row_keep hk2 (fun g hg => hfar g (fun e => by have := (hk2.lt g hg).1; simp at this; omega))) (by simp; omega)
    · exact row_weak (row_keep hv'H.out (fun g hg => hfar g (fun e => by have h1 := (hv'H.out.lt g hg).1; have h2 := hbb.size; omega))) (by have h2 := hbb.size; omega)

end Go.Proofs.Ytklepnldoajghaa
