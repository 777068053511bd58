/- set where the name is there already; set whole. Condition: the variables lie as stated, and there is room. -/
import Derived.Test.YtklepnldoajghaaVarC
namespace Go.Proofs.Ytklepnldoajghaa
open Go.RowKit
attribute [local go_sem] Oper.semAt_some

/-- Four stores into a row of variables: one variable turned. -/
theorem row_put {n₀ : Nat} {W : World} {g cap n : Nat} {V : List Vb} (hn : V.length = n) (h : W.ownsRow n₀ 68 4 (.slice (some ⟨g, 0, none⟩) n cap) n (flat vcs V)) (i : Nat) (hi : i < n) (y : Vb) :
    ((((W.setCell ⟨g, i * 4, none⟩ (.string y.val)).setCell ⟨g, i * 4 + 1, none⟩ (.bool y.st)).setCell ⟨g, i * 4 + 2, none⟩ (.bool y.ex)).setCell ⟨g, i * 4 + 3, none⟩ (.bool y.ro)).ownsRow n₀ 68 4 (.slice (some ⟨g, 0, none⟩) n cap) n (flat vcs (V.set i y)) := by
  have hl : (flat vcs (V.set i y)).length = n * 4 := by rw [flat_len vcs_len, List.length_set, hn]
  refine ⟨hl, ?_⟩
  rcases h.2 with ⟨e, _⟩ | ⟨g1, cap1, cur, e, hg0, hg, hc, hcap, hs, htk⟩
  · cases e
  · obtain ⟨rfl, rfl⟩ : g = g1 ∧ cap = cap1 := by simpa using e
    have hb : Blk W g 68 cur := hg
    refine .inr ⟨g, cap, (((cur.setIfInBounds (i * 4) (.string y.val)).setIfInBounds (i * 4 + 1) (.bool y.st)).setIfInBounds (i * 4 + 2) (.bool y.ex)).setIfInBounds (i * 4 + 3) (.bool y.ro), rfl, hg0, (((hb.set_ _ _).set_ _ _).set_ _ _).set_ _ _, hc, hcap, by simpa using hs, ?_⟩
    have hcl : cur.toList.length = cap * 4 := by rw [Array.length_toList, hs]
    apply List.ext_getElem?
    intro t
    by_cases ht : t < n * 4
    · obtain ⟨a, b, hb4, rfl⟩ : ∃ a b, b < 4 ∧ t = a * 4 + b := ⟨t / 4, t % 4, Nat.mod_lt _ (by omega), by omega⟩
      have han : a < n := by omega
      rw [List.getElem?_take_of_lt ht]
      simp only [Array.toList_setIfInBounds, List.getElem?_set, List.length_set]
      have hold : cur.toList[a * 4 + b]? = (flat vcs V)[a * 4 + b]? := by rw [← htk, List.getElem?_take_of_lt ht]
      by_cases hai : a = i
      · subst hai
        rw [flat_get vcs_len (List.getElem?_set_self (by omega)) b hb4]
        have hlt : a * 4 + 3 < cur.toList.length := by omega
        rcases (by omega : b = 0 ∨ b = 1 ∨ b = 2 ∨ b = 3) with rfl | rfl | rfl | rfl
        · simp [vcs]; omega
        · simp [vcs]; omega
        · simp [vcs]; omega
        · simp [vcs]; omega
      · obtain ⟨z, hz⟩ : ∃ z, V[a]? = some z := ⟨_, List.getElem?_eq_getElem (by omega)⟩
        rw [flat_get vcs_len (x := z) (by rw [List.getElem?_set_ne (Ne.symm hai)]; exact hz) b hb4, if_neg (by omega), if_neg (by omega), if_neg (by omega), if_neg (by omega), hold, flat_get vcs_len hz b hb4]
    · rw [List.getElem?_eq_none (by rw [List.length_take]; omega), List.getElem?_eq_none (by rw [hl]; omega)]

set_option maxHeartbeats 2000000 in
theorem set_there {n₀ p : Nat} {L : Vl} {A : List ByteArray} {kv vv av : Value} (x : ByteArray) (y : Vb) (w : World) (h : VarsAt n₀ w p L A kv vv av) (hh : has (ks L) x = true) :
    Calls Try.prog 32 #[.pointer (some ⟨p, 0, none⟩), .string x, .agg (vcs y).toArray] w fun e w' => e = .returned (.tuple #[]) ∧ VarsAt n₀ w' p (L.set (pos (ks L) x) (x, y)) A kv vv av ∧ Turned p kv vv w w' := by
  obtain ⟨a0, n0, e0⟩ := ownsRow_slice h.keys
  have hp : p < w.heap.size := h.blk.lt
  have h0 : ∀ o, (w.alloc o).cell? ⟨p, 0, none⟩ = some (.slice a0 (ks L).length n0) := fun o => (cell_alloc o hp).trans (by rw [h.blk.cell 0, ← e0]; rfl)
  obtain ⟨m, hm⟩ : ∃ m, w.heap.size = m := ⟨_, rfl⟩
  have hnew : ∀ (q : Nat) (W : World), W = (w.alloc (.cells (vcs y).toArray 68)).drewN q → Blk W m 68 (vcs y).toArray ∧ Below m w W := fun q W e => by
    subst e
    refine ⟨?_, ?_⟩
    · rw [← hm]; exact Blk.new w 68 _
    · exact Below.drewN_ q ((Below.refl m w).alloc (by omega) _)
  have hlt := has_lt hh
  obtain ⟨i, hi⟩ : ∃ i, pos (ks L) x = i := ⟨_, rfl⟩
  have hil : i < (vs L).length := by rw [vs_len, ← ks_len, ← hi]; exact hlt
  obtain ⟨g, cap, e1, hg0, hc, hf, hcap⟩ := row_at vcs_len h.vals (List.getElem?_eq_getElem hil)
  have hgl : g < w.heap.size := block_of_cell (hc 0 _ rfl)
  have hgp : ¬ (g = p) := fun e => row_off h.blk (by decide) h.vals (by rw [e1, ← e]; rfl)
  unfold vcs at hnew ⊢
  have hH := Lib.hid h
  have hhH := Lib.hid hh
  have hiH := Lib.hid hi
  have hmH := Lib.hid hm
  have hnewH := Lib.hid hnew
  have e0H := Lib.hid e0
  have e1H := Lib.hid e1
  have hcH := Lib.hid hc
  have hfH := Lib.hid hf
  clear h hh hm hnew e0 e1 hi hlt hc hf
  go_enter Try.func32, Try.ntmps32
  go_wp2_with fail
  refine (search_any n₀ (ks L) x _ _ (by rw [← e0H.out]; exact hH.out.keys.alloc _) (by have := hH.out.len; rw [ks_len]; omega) hH.out.srt).mono ?_
  rintro e W ⟨rfl, q, e2⟩
  rw [hhH.out, hiH.out, hmH.out]
  obtain ⟨hB, hBel⟩ := hnewH.out q W e2
  have hV := hH.out.beneath (w1 := W) (by rw [hmH.out]; exact hBel)
  rw [hmH.out] at hgl hp
  obtain ⟨n, hn⟩ : ∃ n, (vs L).length = n := ⟨_, rfl⟩
  rw [hn] at hil
  have p1 : W.cell? ⟨p, 1, none⟩ = some (.slice (some ⟨g, 0, none⟩) n cap) := by rw [hV.blk.cell 1, e1H.out, hn]; rfl
  obtain ⟨⟨m0, m1, m2, m3⟩, _⟩ := blk4 hB
  have c0 := (hBel.cell (p := ⟨g, i * 4 + 0, none⟩) hgl).trans (hcH.out 0 _ rfl)
  have c1 := (hBel.cell (p := ⟨g, i * 4 + 1, none⟩) hgl).trans (hcH.out 1 _ rfl)
  have c2 := (hBel.cell (p := ⟨g, i * 4 + 2, none⟩) hgl).trans (hcH.out 2 _ rfl)
  have c3 := (hBel.cell (p := ⟨g, i * 4 + 3, none⟩) hgl).trans (hcH.out 3 _ rfl)
  have f0 := (hBel.frozen (p := ⟨g, i * 4, none⟩) hgl).trans (hfH.out _)
  have f1 := (hBel.frozen (p := ⟨g, i * 4 + 1, none⟩) hgl).trans (hfH.out _)
  have f2 := (hBel.frozen (p := ⟨g, i * 4 + 2, none⟩) hgl).trans (hfH.out _)
  have f3 := (hBel.frozen (p := ⟨g, i * 4 + 3, none⟩) hgl).trans (hfH.out _)
  rw [Nat.add_zero] at c0
  have hil' : (i : Int) < (n : Int) := by omega
  have hBelH := Lib.hid hBel
  have hVH := Lib.hid hV
  have hnH := Lib.hid hn
  clear e2 hB hBel hV hn h0
  go_wp2_with fail
  go_region
  all_goals
    go_wp2_with fail
    refine bodyPost_ret (results_none rfl _ _ _) rfl ?_
    have hV := hVH.out
    have hn := hnH.out
    have hB := hBelH.out
    have hmm := hmH.out
    have hrow : W.ownsRow n₀ 68 4 (.slice (some ⟨g, 0, none⟩) n cap) n (flat vcs (vs L)) := by have e := hV.vals; rw [e1H.out, hn] at e; exact e
    have hput := row_put hn hrow i hil y
    obtain ⟨X, hX⟩ : ∃ X, (((W.setCell ⟨g, i * 4, none⟩ (.string y.val)).setCell ⟨g, i * 4 + 1, none⟩ (.bool y.st)).setCell ⟨g, i * 4 + 2, none⟩ (.bool y.ex)).setCell ⟨g, i * 4 + 3, none⟩ (.bool y.ro) = X := ⟨_, rfl⟩
    have hfar : ∀ k, k ≠ g → X.heap[k]? = W.heap[k]? := fun k hk => by
      rw [← hX]
      exact (Below.heap_setCell _ _ _ k hk).trans ((Below.heap_setCell _ _ _ k hk).trans ((Below.heap_setCell _ _ _ k hk).trans (Below.heap_setCell _ _ _ k hk)))
    have hsX : X.heap.size = W.heap.size := by rw [← hX]; simp [World.setCell]
    have hoX : X.os = W.os ∧ X.tape = W.tape ∧ X.output = W.output := by rw [← hX]; exact ⟨rfl, rfl, rfl⟩
    rw [hX] at hput ⊢
    have hgv : ∀ {v : Value} {n : Nat} {xs : List Value}, W.ownsRow n₀ 9 1 v n xs → X.ownsRow n₀ 9 1 v n xs := fun h => row_keep h (fun k hk => hfar k (fun e => row_row (by decide) h hrow hk (by rw [e]; rfl)))
    refine ⟨rfl, ⟨(hfar p (fun e => hgp e.symm)).trans hV.blk, hV.base, ?_, ?_, hgv hV.args, hV.apart, ?_, ?_, hV.alen⟩, ?_⟩
    · rw [ks_set y hhH.out]
      exact hgv hV.keys
    · rw [vs_set, List.length_set, hiH.out, hn, e1H.out, hn]
      exact hput
    · rw [ks_set y hhH.out]
      exact hV.srt
    · rw [List.length_set]; exact hV.len
    · refine ⟨hoX.1.trans hB.os, hoX.2.1.trans hB.tape, hoX.2.2.trans hB.output, ?_, fun k hk h1 h2 h3 => ?_⟩
      · show w.heap.size ≤ X.heap.size
        rw [hsX]; exact hB.size
      · have hkg : k ≠ g := fun e => h3 (by rw [e1H.out, e]; rfl)
        exact (hfar k hkg).trans (hB.block k (by omega))

/-- set, whole. -/
theorem set_any {n₀ p : Nat} {L : Vl} {A : List ByteArray} {kv vv av : Value} (x : ByteArray) (y : Vb) (w : World) (h : VarsAt n₀ w p L A kv vv av) (hn0 : n₀ ≤ w.heap.size) (hroom : has (ks L) x = false → L.length < 64) :
    Calls Try.prog 32 #[.pointer (some ⟨p, 0, none⟩), .string x, .agg (vcs y).toArray] w fun e w' => e = .returned (.tuple #[]) ∧ ∃ kv' vv', VarsAt n₀ w' p (setL L x y) A kv' vv' av ∧ Turned p kv vv w w' ∧
      (∀ g, kv'.ownBlock = some g → kv.ownBlock = some g ∨ w.heap.size ≤ g) ∧ (∀ g, vv'.ownBlock = some g → vv.ownBlock = some g ∨ w.heap.size ≤ g) := by
  unfold setL
  cases hh : has (ks L) x with
  | false => exact set_new x y w h hn0 hh (hroom hh)
  | true =>
    refine (set_there x y w h hh).mono ?_
    rintro e w' ⟨rfl, h1, h2⟩
    exact ⟨rfl, kv, vv, h1, h2, fun g hg => .inl hg, fun g hg => .inl hg⟩

end Go.Proofs.Ytklepnldoajghaa
