/- A register: slices.Delete of one row. Condition: the row is owned. -/
import Derived.Test.YtmilagppbepnbaaGreatKrX
import Derived.Deep.RegionLaw
import Derived.Laws.IdiomCopy
namespace Go.Proofs.YtmilagppbepnbaaGreat.RX
open Go.RowKit Go.PlainAid
set_option linter.unusedVariables false
set_option linter.unusedSimpArgs false
attribute [local go_sem] Oper.semAt_some
set_option maxHeartbeats 4000000 in
set_option maxRecDepth 100000 in
/-- slices.Delete of one element. -/
theorem delete_e (n₀ : Nat) (V : List Rw) (i : Nat) (v : Value) (w : World) (hi : i < V.length) (hown : w.ownsRow n₀ 270 2 v V.length (flat rcs V)) (hbig : V.length ≤ 100000) :
    Calls Tryz.prog 266 #[v, .int .i64 i, .int .i64 ((i : Int) + 1)] w fun e w' => ∃ gg cc, v = .slice (some ⟨gg, 0, none⟩) V.length cc ∧ e = .returned (.slice (some ⟨gg, 0, none⟩) (V.length - 1) cc) ∧ w'.ownsRow n₀ 270 2 (.slice (some ⟨gg, 0, none⟩) (V.length - 1) cc) (V.length - 1) (flat rcs (V.eraseIdx i)) ∧ w.grownBy w' (some gg) := by
  obtain ⟨i0, hi0, hz0, hz1, hz2⟩ := info_parts infoR
  obtain ⟨n, hn⟩ : ∃ n, V.length = n := ⟨_, rfl⟩
  have hk : ∀ y, (rcs y).length = 2 := rcs_len
  have h1V : ∀ l : List Rw, ∀ u ∈ flat rcs l, u.oneCell' = true := flat_one rcs_one
  obtain ⟨A, hA⟩ : ∃ A, flat rcs (V.take i) = A := ⟨_, rfl⟩
  obtain ⟨X, hX⟩ : ∃ X, flat rcs ((V.drop i).take 1) = X := ⟨_, rfl⟩
  obtain ⟨D, hDd⟩ : ∃ D, flat rcs (V.drop (i + 1)) = D := ⟨_, rfl⟩
  have hAl : A.length = i * 2 := by rw [← hA, flat_len hk, List.length_take, Nat.min_eq_left (Nat.le_of_lt hi)]
  have hXl : X.length = 2 := by rw [← hX, flat_len hk, List.length_take, List.length_drop, Nat.min_eq_left (by omega), Nat.one_mul]
  have hDl : D.length = (n - (i + 1)) * 2 := by rw [← hDd, flat_len hk, List.length_drop, hn]
  have hVf : flat rcs V = A ++ X ++ D := by rw [← hA, ← hX, ← hDd, ← flat_append, ← flat_append, List.append_assoc, ← List.drop_drop, List.take_append_drop, List.take_append_drop]
  have hE : Hid (flat rcs (V.eraseIdx i) = A ++ D) := Lib.hid (by rw [List.eraseIdx_eq_take_drop_succ, flat_append, hA, hDd])
  have hDo : ∀ u ∈ D, u.oneCell' = true := by rw [← hDd]; exact h1V _
  rw [hn] at hi hbig ⊢
  rw [hn, hVf] at hown
  clear hn hA hX hDd hVf h1V
  obtain ⟨h1, h2⟩ := hown
  rcases h2 with ⟨rfl, h0⟩ | ⟨g, cap, cur, rfl, hg0, hgb, hncap, hcap, hcs, htk⟩
  · omega
  have hB : Blk w g 270 cur := hgb
  obtain ⟨r, hr⟩ : ∃ r, cur.toList = A ++ X ++ D ++ r := ⟨cur.toList.drop (n * 2), by rw [← htk, List.take_append_drop]⟩
  have hcl : cur.toList.length = cap * 2 := by rw [Array.length_toList, hcs]
  have hrl : (n * 2) + r.length = cap * 2 := by
    rw [← hcl, hr, List.length_append, List.length_append, List.length_append, hAl, hDl, hXl]
    omega
  obtain ⟨m, rfl⟩ : ∃ m, n = i + m + 1 := ⟨n - (i + 1), by omega⟩
  have hDl' : D.length = m * 2 := by rw [hDl]; congr 1; omega
  -- the two rows
  obtain ⟨R1, hR1⟩ : ∃ R1 : Array Value, R1 = (cur.toList.take (0 + i * 2 + 0) ++ D ++ cur.toList.drop (0 + i * 2 + 0 + D.length)).toArray := ⟨_, rfl⟩
  have hR1l : R1.toList = A ++ D ++ (X ++ D ++ r).drop D.length := by
    rw [hR1]
    show cur.toList.take (0 + i * 2 + 0) ++ D ++ cur.toList.drop (0 + i * 2 + 0 + D.length) = _
    have e1 : 0 + i * 2 + 0 = A.length := by omega
    rw [e1, hr, show A ++ X ++ D ++ r = A ++ (X ++ D ++ r) by simp [List.append_assoc], List.take_left', ← List.drop_drop, List.drop_left']
    · rfl
    · rfl
  have hR1s : R1.size = cap * 2 := by
    rw [← Array.length_toList, hR1l, List.length_append, List.length_append, List.length_drop, List.length_append, List.length_append]
    omega
  obtain ⟨R2, hR2⟩ : ∃ R2 : Array Value, R2 = (R1.toList.take ((i + m) * 2 + 0) ++ [Value.int .i64 0, Value.pointer none] ++ R1.toList.drop ((i + m) * 2 + 0 + ([Value.int .i64 0, Value.pointer none] : List Value).length)).toArray := ⟨_, rfl⟩
  have hR2l : R2.toList.take ((i + m) * 2) = A ++ D := by
    rw [hR2]
    show (R1.toList.take ((i + m) * 2 + 0) ++ [Value.int .i64 0, Value.pointer none] ++ R1.toList.drop ((i + m) * 2 + 0 + ([Value.int .i64 0, Value.pointer none] : List Value).length)).take ((i + m) * 2) = _
    have e1 : (A ++ D).length = (i + m) * 2 := by rw [List.length_append, hAl, hDl']; omega
    rw [Nat.add_zero, List.append_assoc, hR1l, ← e1, List.take_left' (l₁ := A ++ D) rfl, List.take_left' rfl]
  have hR2s : R2.size = cap * 2 := by
    rw [← Array.length_toList, hR2]
    show (R1.toList.take ((i + m) * 2 + 0) ++ [Value.int .i64 0, Value.pointer none] ++ R1.toList.drop ((i + m) * 2 + 0 + ([Value.int .i64 0, Value.pointer none] : List Value).length)).length = _
    have e1 : R1.toList.length = cap * 2 := by rw [Array.length_toList, hR1s]
    rw [List.length_append, List.length_append, List.length_take, List.length_drop, e1]
    simp
    omega
  -- the append
  have hsrc0 : ∀ j u, D[j]? = some u → w.drew.cell? ((⟨g, (i + 1) * 2, none⟩ : Addr).add j) = some u := fun j u h => by
    refine Blk.mem (W := w.drew) (g := g) (t := 270) (cs := cur) hB ((i + 1) * 2) (fun j u h => ?_) j u h
    rw [← Array.getElem?_toList, hr, List.append_assoc, show (i + 1) * 2 = (A ++ X).length by rw [List.length_append]; omega, List.getElem?_append_right (by omega), Nat.add_sub_cancel_left, List.getElem?_append_left (List.getElem?_eq_some_iff.1 h).1]
    exact h
  have hspare : ∀ j, j < D.length → (w.drew.cell? ⟨g, 0 + i * 2 + j, none⟩).isSome = true ∧ w.drew.frozen? ⟨g, 0 + i * 2 + j, none⟩ = false := fun j hj => by
    refine ⟨?_, Blk.frozen (W := w.drew) (g := g) (t := 270) (cs := cur) hB _⟩
    rw [Blk.cell (W := w.drew) (g := g) (t := 270) (cs := cur) hB, Array.getElem?_eq_getElem (by rw [hcs]; omega)]
    rfl
  have hW1 : w.drew.setCells g (0 + i * 2) D = w.drew.setRow g R1 := by
    have a := run_storeCells_cells (P := Tryz.prog) g (0 + i * 2) D 0 w.drew (fun j hj => by rw [Nat.add_zero]; exact (hspare j hj).1) (fun j hj => by rw [Nat.add_zero]; exact (hspare j hj).2) hDo
    have b := run_storeCells_at Tryz.prog g (0 + i * 2) 270 D 0 cur w.drew hgb (by rw [hcs]; omega) hDo
    rw [← hR1] at b
    have e := a.symm.trans b
    rw [Nat.add_zero] at e
    exact (Result.ok.inj e).2
  have hB1 : Blk (w.drew.setRow g R1) g 270 R1 := Blk.row (W := w.drew) hB R1
  have hclr : ∀ t c, (Builtin.clear_ #[67] t #[.slice (some ⟨g, (i + m) * 2, none⟩) 1 c]).run Tryz.prog (w.drew.setRow g R1) = .ok (.tuple #[]) ((w.drew.setRow g R1).setRow g R2) := fun t c => by
    have hst := run_storeCells_at Tryz.prog g ((i + m) * 2) 270 [Value.int .i64 0, Value.pointer none] 0 R1 (w.drew.setRow g R1) hB1 (by rw [hR1s]; simp; omega) (by simp [Value.oneCell'])
    rw [← hR2] at hst
    have hzc : (Builtin.zeroCells (.agg #[.int .i64 0, .pointer none] : Value).cells 1).toList = [Value.int .i64 0, Value.pointer none] := by kernel_rfl
    simp [Builtin.clear_, run_underlying Tryz.underlying67, Tryz.zeroValue270, hzc, hst]
  have hfin : ((w.drew.setRow g R1).setRow g R2).ownsRow n₀ 270 2 (.slice (some ⟨g, 0, none⟩) (i + m) cap) (i + m) (A ++ D) :=
    ⟨by rw [List.length_append, hAl, hDl']; omega, .inr ⟨g, cap, R2, rfl, hg0, hB1.row R2, by omega, hcap, hR2s, hR2l⟩⟩
  have hgrow : w.grownBy ((w.drew.setRow g R1).setRow g R2) (some g) := ⟨rfl, rfl, rfl, by simp [World.setRow], fun k _ hk => by
    have hk' : k ≠ g := fun e => hk (by rw [e])
    exact (setRow_other _ g k R2 hk').trans (setRow_other _ g k R1 hk')⟩
  have hsrcA : Hid (∃ Ad, (if cap = i + 1 then some (⟨g, 0, none⟩ : Addr) else some ⟨g, (i + 1) * 2, none⟩) = some Ad ∧ ∀ j u, D[j]? = some u → w.drew.cell? (Ad.add j) = some u) := Lib.hid (by
    by_cases h : cap = i + 1
    · refine ⟨⟨g, 0, none⟩, by simp [h], fun j u hu => ?_⟩
      have h0 : D.length = 0 := by rw [hDl', show m = 0 by omega, Nat.zero_mul]
      rw [List.length_eq_zero_iff.1 h0] at hu
      simp at hu
    · exact ⟨_, by simp [h], hsrc0⟩)
  have hspareH := Lib.hid hspare
  have hW1H := Lib.hid hW1
  have hclrH := Lib.hid hclr
  have hfinH := Lib.hid hfin
  have hgrowH := Lib.hid hgrow
  have hDoH := Lib.hid hDo
  have hDlH : Hid (D.length = m * 2) := Lib.hid hDl'
  obtain ⟨Ad, hAd, hsrc⟩ := hsrcA.out
  have hsrcH := Lib.hid hsrc
  have c1 : (0 : Int) ≤ (i : Int) + 1 := by omega
  have c2 : (i : Int) + 1 ≤ (i : Int) + (m : Int) + 1 := by omega
  have c3 : ((i : Int) + 1).toNat = i + 1 := by omega
  have c4 : ¬ ((i : Int) = (i : Int) + 1) := by omega
  have c5 : (i : Int) ≤ (i : Int) + (m : Int) + 1 := by omega
  have c6 : i ≤ cap := by omega
  have c7 : i + 1 ≤ cap := by omega
  unfold maxLen at hcap
  have mixed : Tryz.prog.follows .mixedOrders = true := by kernel_rfl
  clear hclr hfin hgrow hDo hDl hDl' hsrc hsrc0 hsrcA hspare hW1 hR2 hR2l hR1 hR1l hR1s hR2s hB hB1 hgb hcs htk hcl hr hrl hAl hXl h1 hk
  go_enter Tryz.func266, Tryz.ntmps266
  go_wp2_with fail
  go_region_law_o (refine step_append_room rfl (.tmp 22) (.tmp 25) 67 rfl 270 i0 2 Tryz.underlying67 hi0 hz1 g 0 i cap (by simp [Act.eval, Act.put]) Ad m (cap - (i + 1)) D (by simp [Act.eval, Act.put]) hDlH.out hsrcH.out hDoH.out (by omega) hspareH.out ?_; rw [hW1H.out])
  go_wp2_with (simp only [hclrH.out, Result.andThen_ok])
  go_ret
  exact ⟨g, cap, rfl, rfl, by rw [hE.out]; exact hfinH.out, hgrowH.out⟩

section
variable {w : World} {q o : Nat} {T : TypeId} {cs : Array Value} {v : Value} {last : Nat} {l : List Rw}
set_option maxRecDepth 100000 in
set_option maxHeartbeats 4000000 in
theorem cut_any (h : RegAt 270 w q o T cs v last l) (hT : T ≠ 270) (hlen : l.length ≤ 100000) (ho : o + 1 < cs.size) (x : Int) : Calls Tryz.prog 230 #[.pointer (some ⟨q, o, none⟩), .int .i64 x] w fun e w' =>
    e = .returned (.tuple #[]) ∧ ∃ v', RegAt 270 w' q o T (cs.setIfInBounds o v') v' last (cutN l x) ∧ (∀ g, v'.ownBlock = some g → v.ownBlock = some g ∨ w.heap.size ≤ g) ∧ Frm (fun g => g = q ∨ v.ownBlock = some g) w w' := by
  have hf := Lib.hid (find_any h (by omega) x)
  cases hh : hasN l x with
  | false =>
    have hc : cutN l x = l := by unfold cutN; rw [hh]; rfl
    rw [hc]
    have hsame := set_sameC h.c0
    have hH := Lib.hid h
    have hhH := Lib.hid hh
    clear h hh hc
    go_enter Tryz.func230, Tryz.ntmps230
    go_wp2_with (go_at_call 164; refine hf.out.mono ?_; rintro e w' ⟨rfl, hb⟩; rw [hhH.out])
    go_end0
    exact ⟨rfl, v, by rw [hsame]; exact hH.out.below hb, fun g hg => .inl hg, Frm.of_below hb⟩
  | true =>
    obtain ⟨r, hr, _⟩ := hasN_yes hh
    have hil := (List.getElem?_eq_some_iff.1 hr).1
    have hc : cutN l x = l.eraseIdx (posN l x) := by unfold cutN; rw [hh]; rfl
    rw [hc]
    have hoff := row_off h.blk hT h.row
    have hH := Lib.hid h
    have hhH := Lib.hid hh
    obtain ⟨i, hi⟩ : ∃ i, posN l x = i := ⟨_, rfl⟩
    rw [hi] at hil ⊢
    have hiH := Lib.hid hi
    have hdel := Lib.hid (fun (W : World) (hb : Below w.heap.size w W) => delete_e 0 l i v W hil (hH.out.below hb).row (by omega))
    have hoffH := Lib.hid hoff
    obtain ⟨a, c, rfl⟩ := ownsRow_slice h.row
    obtain ⟨n, hn⟩ : ∃ n, l.length = n := ⟨_, rfl⟩
    have c0 : w.cell? ⟨q, o, none⟩ = some (.slice a n c) := by rw [← hn]; exact (h.blk.cell o).trans h.c0
    have k0 := Lib.hid c0
    have hnH := Lib.hid hn
    have hqlt := h.blk.lt
    rw [hn] at hdel
    clear h hh hc hr hi hoff hn c0
    go_enter Tryz.func230, Tryz.ntmps230
    go_wp2_with (first
      | (go_at_call 164; refine hf.out.mono ?_; rintro e w1 ⟨rfl, hb⟩; rw [hhH.out, hiH.out]; have hbH := Lib.hid hb; have e0 : w1.cell? ⟨q, o, none⟩ = some (.slice a n c) := (hb.cell hqlt).trans k0.out)
      | (go_at_call 266; refine (hdel.out _ hbH.out).mono ?_; rintro e w2 ⟨gg, cc, hv, rfl, hown, hgr⟩; have hB2 : Blk w2 q T cs := (hgr.block q (hH.out.below hbH.out).blk.lt (fun e => hoffH.out (by rw [hnH.out, hv]; exact e))).trans (hH.out.below hbH.out).blk; have f2 := hB2.frozen o; have e2 : (w2.cell? ⟨q, o, none⟩).isSome = true := by rw [hB2.cell, hH.out.c0]; rfl
         have e3 : w2.cell? ⟨q, o, none⟩ = some (.slice a n c) := by rw [hB2.cell, hH.out.c0, hnH.out]
         have hB2H := Lib.hid hB2; have hownH := Lib.hid hown; have hgrH := Lib.hid hgr; have hvH := Lib.hid hv; clear hB2 hown hgr hv))
    go_end0
    have hgq : gg ≠ q := fun e => hoffH.out (by rw [hnH.out, hvH.out, ← e]; rfl)
    have hlen1 : (l.eraseIdx i).length = l.length - 1 := List.length_eraseIdx_of_lt hil
    refine ⟨rfl, .slice (some ⟨gg, 0, none⟩) (l.length - 1) cc, ⟨by rw [hnH.out]; exact hB2H.out.set_ o _, by rw [Array.getElem?_setIfInBounds_self_of_lt (by omega)], by rw [Array.getElem?_setIfInBounds_ne (by omega)]; exact hH.out.c1, ?_, erase_ord hH.out.ord i, fun r hr => hH.out.le r (List.mem_of_mem_eraseIdx hr), hH.out.small⟩, fun g hg => .inl ?_, ?_⟩
    · rw [hlen1, hnH.out]
      exact row_keep hownH.out (fun g hg => by
        obtain rfl : gg = g := by simpa [Value.ownBlock] using hg
        exact Below.heap_setCell _ _ _ _ hgq)
    · obtain rfl : gg = g := by simpa [Value.ownBlock] using hg
      rw [hnH.out, hvH.out]; rfl
    · rw [hnH.out]
      exact ((Frm.of_below hbH.out).grown hgrH.out (fun g hg => .inl (.inr (by rw [hvH.out]; exact hg)))).setCell (a := ⟨q, o, none⟩) (.inl (.inl rfl)) _
end
end Go.Proofs.YtmilagppbepnbaaGreat.RX
