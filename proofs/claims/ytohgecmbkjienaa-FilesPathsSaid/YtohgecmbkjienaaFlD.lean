/- slices.Delete of one entry. Condition: the row is owned. -/
import Derived.Test.YtohgecmbkjienaaFlI
import Derived.Deep.RegionLaw
import Derived.Laws.IdiomCopy
namespace Go.Proofs.Ytohgecmbkjienaa
open Go.RowKit
attribute [local go_sem] Oper.semAt_some

set_option maxHeartbeats 4000000 in
set_option maxRecDepth 100000 in
/-- slices.Delete of one element. -/
theorem delete_e (n₀ : Nat) (V : List En) (i : Nat) (v : Value) (w : World) (hi : i < V.length) (hown : w.ownsRow n₀ 105 2 v V.length (flat ecs V)) (hbig : V.length ≤ 100000) :
    Calls Try.prog 71 #[v, .int .i64 i, .int .i64 ((i : Int) + 1)] w fun e w' => ∃ gg cc, v = .slice (some ⟨gg, 0, none⟩) V.length cc ∧ e = .returned (.slice (some ⟨gg, 0, none⟩) (V.length - 1) cc) ∧ w'.ownsRow n₀ 105 2 (.slice (some ⟨gg, 0, none⟩) (V.length - 1) cc) (V.length - 1) (flat ecs (V.eraseIdx i)) ∧ w.grownBy w' (some gg) := by
  obtain ⟨i0, hi0, hz0, hz1, hz2⟩ := info_parts info105
  obtain ⟨n, hn⟩ : ∃ n, V.length = n := ⟨_, rfl⟩
  have hk : ∀ y, (ecs y).length = 2 := ecs_len
  have h1V : ∀ l : List En, ∀ u ∈ flat ecs l, u.oneCell' = true := flat_one ecs_one
  obtain ⟨A, hA⟩ : ∃ A, flat ecs (V.take i) = A := ⟨_, rfl⟩
  obtain ⟨X, hX⟩ : ∃ X, flat ecs ((V.drop i).take 1) = X := ⟨_, rfl⟩
  obtain ⟨D, hDd⟩ : ∃ D, flat ecs (V.drop (i + 1)) = D := ⟨_, rfl⟩
  have hAl : A.length = i * 2 := by rw [← hA, flat_len hk, List.length_take, Nat.min_eq_left (Nat.le_of_lt hi)]
  have hXl : X.length = 2 := by rw [← hX, flat_len hk, List.length_take, List.length_drop, Nat.min_eq_left (by omega), Nat.one_mul]
  have hDl : D.length = (n - (i + 1)) * 2 := by rw [← hDd, flat_len hk, List.length_drop, hn]
  have hVf : flat ecs V = A ++ X ++ D := by rw [← hA, ← hX, ← hDd, ← flat_append, ← flat_append, List.append_assoc, ← List.drop_drop, List.take_append_drop, List.take_append_drop]
  have hE : Hid (flat ecs (V.eraseIdx i) = A ++ D) := Lib.hid (by rw [List.eraseIdx_eq_take_drop_succ, flat_append, hA, hDd])
  have hDo : ∀ u ∈ D, u.oneCell' = true := by rw [← hDd]; exact h1V _
  rw [hn] at hi hbig ⊢
  rw [hn, hVf] at hown
  clear hn hA hX hDd hVf h1V
  obtain ⟨h1, h2⟩ := hown
  rcases h2 with ⟨rfl, h0⟩ | ⟨g, cap, cur, rfl, hg0, hgb, hncap, hcap, hcs, htk⟩
  · omega
  have hB : Blk w g 105 cur := hgb
  obtain ⟨r, hr⟩ : ∃ r, cur.toList = A ++ X ++ D ++ r := ⟨cur.toList.drop (n * 2), by rw [← htk, List.take_append_drop]⟩
  have hcl : cur.toList.length = cap * 2 := by rw [Array.length_toList, hcs]
  have hrl : (n * 2) + r.length = cap * 2 := by
    rw [← hcl, hr, List.length_append, List.length_append, List.length_append, hAl, hDl, hXl]
    omega
  obtain ⟨m, rfl⟩ : ∃ m, n = i + m + 1 := ⟨n - (i + 1), by omega⟩
  have hDl' : D.length = m * 2 := by rw [hDl]; congr 1; omega
  -- the two rows
  obtain ⟨R1, hR1⟩ : ∃ R1 : Array Value, R1 = (cur.toList.take (0 + i * 2 + 0) ++ D ++ cur.toList.drop (0 + i * 2 + 0 + D.length)).toArray := ⟨_, rfl⟩
  have hR1l : R1.toList = A ++ D ++ (X ++ D ++ r).drop D.length := by
    rw [hR1]
    show cur.toList.take (0 + i * 2 + 0) ++ D ++ cur.toList.drop (0 + i * 2 + 0 + D.length) = _
    have e1 : 0 + i * 2 + 0 = A.length := by omega
    rw [e1, hr, show A ++ X ++ D ++ r = A ++ (X ++ D ++ r) by simp [List.append_assoc], List.take_left', ← List.drop_drop, List.drop_left']
    · rfl
    · rfl
  have hR1s : R1.size = cap * 2 := by
    rw [← Array.length_toList, hR1l, List.length_append, List.length_append, List.length_drop, List.length_append, List.length_append]
    omega
  obtain ⟨R2, hR2⟩ : ∃ R2 : Array Value, R2 = (R1.toList.take ((i + m) * 2 + 0) ++ [Value.string ⟨#[]⟩, Value.int .i64 0] ++ R1.toList.drop ((i + m) * 2 + 0 + ([Value.string ⟨#[]⟩, Value.int .i64 0] : List Value).length)).toArray := ⟨_, rfl⟩
  have hR2l : R2.toList.take ((i + m) * 2) = A ++ D := by
    rw [hR2]
    show (R1.toList.take ((i + m) * 2 + 0) ++ [Value.string ⟨#[]⟩, Value.int .i64 0] ++ R1.toList.drop ((i + m) * 2 + 0 + ([Value.string ⟨#[]⟩, Value.int .i64 0] : List Value).length)).take ((i + m) * 2) = _
    have e1 : (A ++ D).length = (i + m) * 2 := by rw [List.length_append, hAl, hDl']; omega
    rw [Nat.add_zero, List.append_assoc, hR1l, ← e1, List.take_left' (l₁ := A ++ D) rfl, List.take_left' rfl]
  have hR2s : R2.size = cap * 2 := by
    rw [← Array.length_toList, hR2]
    show (R1.toList.take ((i + m) * 2 + 0) ++ [Value.string ⟨#[]⟩, Value.int .i64 0] ++ R1.toList.drop ((i + m) * 2 + 0 + ([Value.string ⟨#[]⟩, Value.int .i64 0] : List Value).length)).length = _
    have e1 : R1.toList.length = cap * 2 := by rw [Array.length_toList, hR1s]
    rw [List.length_append, List.length_append, List.length_take, List.length_drop, e1]
    simp
    omega
  -- the append
  have hsrc0 : ∀ j u, D[j]? = some u → w.drew.cell? ((⟨g, (i + 1) * 2, none⟩ : Addr).add j) = some u := fun j u h => by
    refine Blk.mem (W := w.drew) (g := g) (t := 105) (cs := cur) hB ((i + 1) * 2) (fun j u h => ?_) j u h
    rw [← Array.getElem?_toList, hr, List.append_assoc, show (i + 1) * 2 = (A ++ X).length by rw [List.length_append]; omega, List.getElem?_append_right (by omega), Nat.add_sub_cancel_left, List.getElem?_append_left (List.getElem?_eq_some_iff.1 h).1]
    exact h
  have hspare : ∀ j, j < D.length → (w.drew.cell? ⟨g, 0 + i * 2 + j, none⟩).isSome = true ∧ w.drew.frozen? ⟨g, 0 + i * 2 + j, none⟩ = false := fun j hj => by
    refine ⟨?_, Blk.frozen (W := w.drew) (g := g) (t := 105) (cs := cur) hB _⟩
    rw [Blk.cell (W := w.drew) (g := g) (t := 105) (cs := cur) hB, Array.getElem?_eq_getElem (by rw [hcs]; omega)]
    rfl
  have hW1 : w.drew.setCells g (0 + i * 2) D = w.drew.setRow g R1 := by
    have a := run_storeCells_cells (P := Try.prog) g (0 + i * 2) D 0 w.drew (fun j hj => by rw [Nat.add_zero]; exact (hspare j hj).1) (fun j hj => by rw [Nat.add_zero]; exact (hspare j hj).2) hDo
    have b := run_storeCells_at Try.prog g (0 + i * 2) 105 D 0 cur w.drew hgb (by rw [hcs]; omega) hDo
    rw [← hR1] at b
    have e := a.symm.trans b
    rw [Nat.add_zero] at e
    exact (Result.ok.inj e).2
  have hB1 : Blk (w.drew.setRow g R1) g 105 R1 := Blk.row (W := w.drew) hB R1
  have hclr : ∀ t c, (Builtin.clear_ #[71] t #[.slice (some ⟨g, (i + m) * 2, none⟩) 1 c]).run Try.prog (w.drew.setRow g R1) = .ok (.tuple #[]) ((w.drew.setRow g R1).setRow g R2) := fun t c => by
    have hst := run_storeCells_at Try.prog g ((i + m) * 2) 105 [Value.string ⟨#[]⟩, Value.int .i64 0] 0 R1 (w.drew.setRow g R1) hB1 (by rw [hR1s]; simp; omega) (by simp [Value.oneCell'])
    rw [← hR2] at hst
    have hzc : (Builtin.zeroCells (.agg #[.string ⟨#[]⟩, .int .i64 0] : Value).cells 1).toList = [Value.string ⟨#[]⟩, Value.int .i64 0] := by kernel_rfl
    simp [Builtin.clear_, run_underlying Try.underlying71, Try.zeroValue105, hzc, hst]
  have hfin : ((w.drew.setRow g R1).setRow g R2).ownsRow n₀ 105 2 (.slice (some ⟨g, 0, none⟩) (i + m) cap) (i + m) (A ++ D) :=
    ⟨by rw [List.length_append, hAl, hDl']; omega, .inr ⟨g, cap, R2, rfl, hg0, hB1.row R2, by omega, hcap, hR2s, hR2l⟩⟩
  have hgrow : w.grownBy ((w.drew.setRow g R1).setRow g R2) (some g) := ⟨rfl, rfl, rfl, by simp [World.setRow], fun k _ hk => by
    have hk' : k ≠ g := fun e => hk (by rw [e])
    exact (setRow_other _ g k R2 hk').trans (setRow_other _ g k R1 hk')⟩
  have hsrcA : Hid (∃ Ad, (if cap = i + 1 then some (⟨g, 0, none⟩ : Addr) else some ⟨g, (i + 1) * 2, none⟩) = some Ad ∧ ∀ j u, D[j]? = some u → w.drew.cell? (Ad.add j) = some u) := Lib.hid (by
    by_cases h : cap = i + 1
    · refine ⟨⟨g, 0, none⟩, by simp [h], fun j u hu => ?_⟩
      have h0 : D.length = 0 := by rw [hDl', show m = 0 by omega, Nat.zero_mul]
      rw [List.length_eq_zero_iff.1 h0] at hu
      simp at hu
    · exact ⟨_, by simp [h], hsrc0⟩)
  have hspareH := Lib.hid hspare
  have hW1H := Lib.hid hW1
  have hclrH := Lib.hid hclr
  have hfinH := Lib.hid hfin
  have hgrowH := Lib.hid hgrow
  have hDoH := Lib.hid hDo
  have hDlH : Hid (D.length = m * 2) := Lib.hid hDl'
  obtain ⟨Ad, hAd, hsrc⟩ := hsrcA.out
  have hsrcH := Lib.hid hsrc
  have c1 : (0 : Int) ≤ (i : Int) + 1 := by omega
  have c2 : (i : Int) + 1 ≤ (i : Int) + (m : Int) + 1 := by omega
  have c3 : ((i : Int) + 1).toNat = i + 1 := by omega
  have c4 : ¬ ((i : Int) = (i : Int) + 1) := by omega
  have c5 : (i : Int) ≤ (i : Int) + (m : Int) + 1 := by omega
  have c6 : i ≤ cap := by omega
  have c7 : i + 1 ≤ cap := by omega
  unfold maxLen at hcap
  have mixed : Try.prog.follows .mixedOrders = true := by kernel_rfl
  clear hclr hfin hgrow hDo hDl hDl' hsrc hsrc0 hsrcA hspare hW1 hR2 hR2l hR1 hR1l hR1s hR2s hB hB1 hgb hcs htk hcl hr hrl hAl hXl h1 hk
  go_enter Try.func71, Try.ntmps71
  go_wp2_with fail
  go_region_law_o (refine step_append_room rfl (.tmp 22) (.tmp 25) 71 rfl 105 i0 2 Try.underlying71 hi0 hz1 g 0 i cap (by simp [Act.eval, Act.put]) Ad m (cap - (i + 1)) D (by simp [Act.eval, Act.put]) hDlH.out hsrcH.out hDoH.out (by omega) hspareH.out ?_; rw [hW1H.out])
  go_wp2_with (simp only [hclrH.out, Result.andThen_ok])
  go_ret
  exact ⟨g, cap, rfl, rfl, by rw [hE.out]; exact hfinH.out, hgrowH.out⟩

end Go.Proofs.Ytohgecmbkjienaa
