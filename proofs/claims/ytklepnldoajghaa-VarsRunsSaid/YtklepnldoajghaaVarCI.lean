/- The reference's put where the name is there. Condition: the rows lie as stated. -/
import Derived.Test.YtklepnldoajghaaVarCH
namespace Go.Proofs.Ytklepnldoajghaa
open Go.RowKit Go.PlainAid
attribute [local go_sem] Oper.semAt_some

/-- Five stores into a row: one variable turned. -/
theorem row_put5 {n₀ : Nat} {W : World} {g cap n : Nat} {V : Vl} (hn : V.length = n) (h : W.ownsRow n₀ 73 5 (.slice (some ⟨g, 0, none⟩) n cap) n (flat rcs V)) (i : Nat) (hi : i < n) (y : ByteArray × Vb) :
    (((((W.setCell ⟨g, i * 5, none⟩ (.string y.1)).setCell ⟨g, i * 5 + 1, none⟩ (.string y.2.val)).setCell ⟨g, i * 5 + 2, none⟩ (.bool y.2.ex)).setCell ⟨g, i * 5 + 3, none⟩ (.bool y.2.ro)).setCell ⟨g, i * 5 + 4, none⟩ (.bool (!y.2.st))).ownsRow n₀ 73 5 (.slice (some ⟨g, 0, none⟩) n cap) n (flat rcs (V.set i y)) := by
  have hl : (flat rcs (V.set i y)).length = n * 5 := by rw [flat_len rcs_len, List.length_set, hn]
  refine ⟨hl, ?_⟩
  rcases h.2 with ⟨e, _⟩ | ⟨g1, cap1, cur, e, hg0, hg, hc, hcap, hs, htk⟩
  · cases e
  · obtain ⟨rfl, rfl⟩ : g = g1 ∧ cap = cap1 := by simpa using e
    have hb : Blk W g 73 cur := hg
    refine .inr ⟨g, cap, ((((cur.setIfInBounds (i * 5) (.string y.1)).setIfInBounds (i * 5 + 1) (.string y.2.val)).setIfInBounds (i * 5 + 2) (.bool y.2.ex)).setIfInBounds (i * 5 + 3) (.bool y.2.ro)).setIfInBounds (i * 5 + 4) (.bool (!y.2.st)), rfl, hg0, ((((hb.set_ _ _).set_ _ _).set_ _ _).set_ _ _).set_ _ _, hc, hcap, by simpa using hs, ?_⟩
    have hcl : cur.toList.length = cap * 5 := by rw [Array.length_toList, hs]
    apply List.ext_getElem?
    intro t
    by_cases ht : t < n * 5
    · obtain ⟨a, b, hb4, rfl⟩ : ∃ a b, b < 5 ∧ t = a * 5 + b := ⟨t / 5, t % 5, Nat.mod_lt _ (by omega), by omega⟩
      have han : a < n := by omega
      rw [List.getElem?_take_of_lt ht]
      simp only [Array.toList_setIfInBounds, List.getElem?_set, List.length_set]
      have hold : cur.toList[a * 5 + b]? = (flat rcs V)[a * 5 + b]? := by rw [← htk, List.getElem?_take_of_lt ht]
      by_cases hai : a = i
      · subst hai
        rw [flat_get rcs_len (List.getElem?_set_self (by omega)) b hb4]
        have hlt : a * 5 + 4 < cur.toList.length := by omega
        rcases (by omega : b = 0 ∨ b = 1 ∨ b = 2 ∨ b = 3 ∨ b = 4) with rfl | rfl | rfl | rfl | rfl
        · simp [rcs]; omega
        · simp [rcs]; omega
        · simp [rcs]; omega
        · simp [rcs]; omega
        · simp [rcs]; omega
      · obtain ⟨z, hz⟩ : ∃ z, V[a]? = some z := ⟨_, List.getElem?_eq_getElem (by omega)⟩
        rw [flat_get rcs_len (x := z) (by rw [List.getElem?_set_ne (Ne.symm hai)]; exact hz) b hb4, if_neg (by omega), if_neg (by omega), if_neg (by omega), if_neg (by omega), if_neg (by omega), hold, flat_get rcs_len hz b hb4]
    · rw [List.getElem?_eq_none (by rw [List.length_take]; omega), List.getElem?_eq_none (by rw [hl]; omega)]

set_option maxHeartbeats 4000000 in
set_option maxRecDepth 100000 in
theorem putR_there {n₀ q : Nat} {L : Vl} {A : List ByteArray} {lv av : Value} (x : ByteArray) (y : Vb) (w : World) (h : RefAt n₀ w q L A lv av) (hn0 : n₀ ≤ w.heap.size) (hh : has (ks L) x = true) (hs' : Sorted (ks (L.set (pos (ks L) x) (x, y)))) :
    Calls Try.prog 36 #[.pointer (some ⟨q, 0, none⟩), .agg (rcs (x, y)).toArray] w fun e w' => e = .returned (.tuple #[]) ∧ REnds n₀ q (L.set (pos (ks L) x) (x, y)) A w w' := by
  obtain ⟨i0, hi0, hz0, hz1, hz2⟩ := info_parts info73
  have hat := at_has h.srt hh
  have hf := Lib.hid (fnd_has hh)
  obtain ⟨i, hi⟩ : ∃ i, pos (ks L) x = i := ⟨_, rfl⟩
  rw [hi] at hat hs' hf ⊢
  obtain ⟨hil, _⟩ := List.getElem?_eq_some_iff.1 hat
  obtain ⟨a0, c0, e0⟩ := ownsRow_slice h.list
  obtain ⟨m, hm⟩ : ∃ m, w.heap.size = m := ⟨_, rfl⟩
  obtain ⟨W, hW⟩ : ∃ W, w.alloc (.cells (rcs (x, y)).toArray 73) = W := ⟨_, rfl⟩
  have hBW : Below m w W := by rw [← hW]; exact (Below.refl _ _).alloc (by omega) _
  have hBm : Blk W m 73 (rcs (x, y)).toArray := by rw [← hW, ← hm]; exact Blk.new w 73 _
  have hV := h.beneath (by rw [hm]; exact hBW)
  have hWz : W.heap.size = m + 1 := by rw [← hW, ← hm]; simp
  have hcall := Lib.hid (find_any x W hV)
  have p0 : W.cell? ⟨q, 0, none⟩ = some (.slice a0 L.length c0) := by rw [hV.blk.cell 0, ← e0]; rfl
  obtain ⟨⟨m0, m1, m2, m3, m4⟩, _⟩ := blk5 hBm
  have p0a : ∀ o, (W.alloc o).cell? ⟨q, 0, none⟩ = some (.slice a0 L.length c0) := fun o => (cell_alloc o hV.blk.lt).trans p0
  have hsrc : Src (W.alloc (.cells #[] 73)) a0 (flat rcs L) := src_row2 (by rw [← e0]; exact hV.list.alloc _)
  have he := empty_row W (m + 1) 73 5 (by omega)
  obtain ⟨N, hN⟩ : ∃ N, L.length = N := ⟨_, rfl⟩
  have hLl : (flat rcs L).length = N * 5 := by rw [flat_len rcs_len, hN]
  have hl := h.len
  rw [hN] at hl hil p0 p0a
  have hNH := Lib.hid hN
  have hH := Lib.hid h
  have hVH := Lib.hid hV
  have hmH := Lib.hid hm
  have hWH := Lib.hid hW
  have hWzH := Lib.hid hWz
  have hBWH := Lib.hid hBW
  have hBmH := Lib.hid hBm
  have hsrcH := Lib.hid hsrc
  have heH := Lib.hid he
  have hn0H := Lib.hid hn0
  have hsH := Lib.hid hs'
  have hLlH := Lib.hid hLl
  have hqm : q < m := by rw [← hm]; exact h.blk.lt
  have hi0' : (0 : Int) ≤ (i : Int) := by omega
  have hi1 : (i : Int) < (N : Int) := by omega
  rw [e0] at hV
  have hatH := Lib.hid hat
  unfold rcs at hWH ⊢
  dsimp only at hWH m0 m1 m2 m3 m4 ⊢
  clear h hV hBW hBm hW hm hWz hsrc he hN hLl hn0 hs' hat hi hh e0
  go_enter Try.func36, Try.ntmps36
  go_wp2_with (rw [hWH.out, hmH.out])
  refine hcall.out.mono ?_
  rintro e w' ⟨rfl, rfl⟩
  rw [hf.out]
  go_wp2_with (at_builtin; refine wpList_app rfl _ _ 27 rfl (m + 1) 73 i0 _ 5 40 Try.underlying27 hi0 hz0 hz1 hz2 rfl (by decide) _ 0 [] rfl heH.out a0 N c0 (flat rcs L) rfl hLlH.out hsrcH.out (flat_one rcs_one L) (by omega) (by omega) (by have := hWzH.out; simp; omega) ?_; intro a1 c1 w1 hr1 hg1 _; rw [Nat.zero_add, List.nil_append] at hr1; obtain ⟨g1, cap1, e1, hg1m, hc1, hf1, hcc⟩ := row_at rcs_len (by rw [hNH.out]; exact hr1) hatH.out; rw [hNH.out] at e1; obtain ⟨rfl, rfl⟩ : a1 = some ⟨g1, 0, none⟩ ∧ c1 = cap1 := (by simpa using e1); have hb1 : Below (m + 1) w' w1 := (by have := below_row heH.out ((Below.refl (m + 1) w').alloc (by have := hWzH.out; omega) _) (by have := hWzH.out; simp; omega) hg1; exact this); have d0 := hc1 0 _ rfl; have d1 := hc1 1 _ rfl; have d2 := hc1 2 _ rfl; have d3 := hc1 3 _ rfl; have d4 := hc1 4 _ rfl; rw [Nat.add_zero] at d0; have f0 := hf1 (i * 5); have f1 := hf1 (i * 5 + 1); have f2 := hf1 (i * 5 + 2); have f3 := hf1 (i * 5 + 3); have f4 := hf1 (i * 5 + 4); have hgq : ¬ (g1 = q) := (by omega); have hqg : ¬ (q = g1) := (by omega); have hb1w : Below w.heap.size w w1 := (by rw [hmH.out]; exact hBWH.out.trans (hb1.mono (by omega))); have q0 : w1.cell? ⟨q, 0, none⟩ = some lv := (blk_beneath hH.out.blk hb1w).cell 0; have q0f : w1.frozen? ⟨q, 0, none⟩ = false := (blk_beneath hH.out.blk hb1w).frozen 0; obtain ⟨⟨m0', m1', m2', m3', m4'⟩, _⟩ := blk5 ((hb1.block m (by omega)).trans hBmH.out); dsimp only at m0' m1' m2' m3' m4'; have hr1H := Lib.hid hr1; have hb1H := Lib.hid hb1w; have hgmH := Lib.hid hg1m; skip)
  refine bodyPost_ret (v := .tuple #[]) (results_none rfl _ _ _) rfl ?_
  have hr5 := row_put5 hNH.out hr1H.out i (by omega) (x, y)
  obtain ⟨W5, hW5⟩ : ∃ W5, ((((w1.setCell ⟨g1, i * 5, none⟩ (.string x)).setCell ⟨g1, i * 5 + 1, none⟩ (.string y.val)).setCell ⟨g1, i * 5 + 2, none⟩ (.bool y.ex)).setCell ⟨g1, i * 5 + 3, none⟩ (.bool y.ro)).setCell ⟨g1, i * 5 + 4, none⟩ (.bool (!y.st)) = W5 := ⟨_, rfl⟩
  dsimp only at hr5
  rw [hW5] at hr5 ⊢
  have hwg : w.heap.size ≤ g1 := by have := hmH.out; have := hgmH.out; omega
  have hb5 : Below w.heap.size w W5 := by rw [← hW5]; exact ((((hb1H.out.setCell hwg _).setCell hwg _).setCell hwg _).setCell hwg _).setCell hwg _
  refine ⟨rfl, .list (z := m + 1) hH.out hb5 (by rw [List.length_set, hNH.out]; exact hr5) (by have := hn0H.out; have := hmH.out; omega) hsH.out (by rw [List.length_set, hNH.out]; omega)⟩
end Go.Proofs.Ytklepnldoajghaa
