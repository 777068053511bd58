/- slices.Delete of one element, at both kinds. Condition: the row is owned. -/
import Derived.Test.YtklepnldoajghaaVarG
import Derived.Deep.RegionLaw
import Derived.Laws.IdiomCopy
namespace Go.Proofs.Ytklepnldoajghaa
open Go.RowKit
attribute [local go_sem] Oper.semAt_some

set_option maxHeartbeats 4000000 in
set_option maxRecDepth 100000 in
/-- slices.Delete of one element. -/
theorem delete_v (n₀ : Nat) (V : List Vb) (i : Nat) (v : Value) (w : World) (hi : i < V.length) (hown : w.ownsRow n₀ 68 4 v V.length (flat vcs V)) (hbig : V.length ≤ 100000) :
    Calls Try.prog 52 #[v, .int .i64 i, .int .i64 ((i : Int) + 1)] w fun e w' => ∃ gg cc, v = .slice (some ⟨gg, 0, none⟩) V.length cc ∧ e = .returned (.slice (some ⟨gg, 0, none⟩) (V.length - 1) cc) ∧ w'.ownsRow n₀ 68 4 (.slice (some ⟨gg, 0, none⟩) (V.length - 1) cc) (V.length - 1) (flat vcs (V.eraseIdx i)) ∧ w.grownBy w' (some gg) := by
  obtain ⟨i0, hi0, hz0, hz1, hz2⟩ := info_parts info68
  obtain ⟨n, hn⟩ : ∃ n, V.length = n := ⟨_, rfl⟩
  have hk : ∀ y, (vcs y).length = 4 := vcs_len
  have h1V : ∀ l : List Vb, ∀ u ∈ flat vcs l, u.oneCell' = true := flat_one vcs_one
  obtain ⟨A, hA⟩ : ∃ A, flat vcs (V.take i) = A := ⟨_, rfl⟩
  obtain ⟨X, hX⟩ : ∃ X, flat vcs ((V.drop i).take 1) = X := ⟨_, rfl⟩
  obtain ⟨D, hDd⟩ : ∃ D, flat vcs (V.drop (i + 1)) = D := ⟨_, rfl⟩
  have hAl : A.length = i * 4 := by rw [← hA, flat_len hk, List.length_take, Nat.min_eq_left (Nat.le_of_lt hi)]
  have hXl : X.length = 4 := by rw [← hX, flat_len hk, List.length_take, List.length_drop, Nat.min_eq_left (by omega), Nat.one_mul]
  have hDl : D.length = (n - (i + 1)) * 4 := by rw [← hDd, flat_len hk, List.length_drop, hn]
  have hVf : flat vcs V = A ++ X ++ D := by rw [← hA, ← hX, ← hDd, ← flat_append, ← flat_append, List.append_assoc, ← List.drop_drop, List.take_append_drop, List.take_append_drop]
  have hE : Hid (flat vcs (V.eraseIdx i) = A ++ D) := Lib.hid (by rw [List.eraseIdx_eq_take_drop_succ, flat_append, hA, hDd])
  have hDo : ∀ u ∈ D, u.oneCell' = true := by rw [← hDd]; exact h1V _
  rw [hn] at hi hbig ⊢
  rw [hn, hVf] at hown
  clear hn hA hX hDd hVf h1V
  obtain ⟨h1, h2⟩ := hown
  rcases h2 with ⟨rfl, h0⟩ | ⟨g, cap, cur, rfl, hg0, hgb, hncap, hcap, hcs, htk⟩
  · omega
  have hB : Blk w g 68 cur := hgb
  obtain ⟨r, hr⟩ : ∃ r, cur.toList = A ++ X ++ D ++ r := ⟨cur.toList.drop (n * 4), by rw [← htk, List.take_append_drop]⟩
  have hcl : cur.toList.length = cap * 4 := by rw [Array.length_toList, hcs]
  have hrl : (n * 4) + r.length = cap * 4 := by
    rw [← hcl, hr, List.length_append, List.length_append, List.length_append, hAl, hDl, hXl]
    omega
  obtain ⟨m, rfl⟩ : ∃ m, n = i + m + 1 := ⟨n - (i + 1), by omega⟩
  have hDl' : D.length = m * 4 := by rw [hDl]; congr 1; omega
  -- the two rows
  obtain ⟨R1, hR1⟩ : ∃ R1 : Array Value, R1 = (cur.toList.take (0 + i * 4 + 0) ++ D ++ cur.toList.drop (0 + i * 4 + 0 + D.length)).toArray := ⟨_, rfl⟩
  have hR1l : R1.toList = A ++ D ++ (X ++ D ++ r).drop D.length := by
    rw [hR1]
    show cur.toList.take (0 + i * 4 + 0) ++ D ++ cur.toList.drop (0 + i * 4 + 0 + D.length) = _
    have e1 : 0 + i * 4 + 0 = A.length := by omega
    rw [e1, hr, show A ++ X ++ D ++ r = A ++ (X ++ D ++ r) by simp [List.append_assoc], List.take_left', ← List.drop_drop, List.drop_left']
    · rfl
    · rfl
  have hR1s : R1.size = cap * 4 := by
    rw [← Array.length_toList, hR1l, List.length_append, List.length_append, List.length_drop, List.length_append, List.length_append]
    omega
  obtain ⟨R2, hR2⟩ : ∃ R2 : Array Value, R2 = (R1.toList.take ((i + m) * 4 + 0) ++ [Value.string ⟨#[]⟩, Value.bool false, Value.bool false, Value.bool false] ++ R1.toList.drop ((i + m) * 4 + 0 + ([Value.string ⟨#[]⟩, Value.bool false, Value.bool false, Value.bool false] : List Value).length)).toArray := ⟨_, rfl⟩
  have hR2l : R2.toList.take ((i + m) * 4) = A ++ D := by
    rw [hR2]
    show (R1.toList.take ((i + m) * 4 + 0) ++ [Value.string ⟨#[]⟩, Value.bool false, Value.bool false, Value.bool false] ++ R1.toList.drop ((i + m) * 4 + 0 + ([Value.string ⟨#[]⟩, Value.bool false, Value.bool false, Value.bool false] : List Value).length)).take ((i + m) * 4) = _
    have e1 : (A ++ D).length = (i + m) * 4 := by rw [List.length_append, hAl, hDl']; omega
    rw [Nat.add_zero, List.append_assoc, hR1l, ← e1, List.take_left' (l₁ := A ++ D) rfl, List.take_left' rfl]
  have hR2s : R2.size = cap * 4 := by
    rw [← Array.length_toList, hR2]
    show (R1.toList.take ((i + m) * 4 + 0) ++ [Value.string ⟨#[]⟩, Value.bool false, Value.bool false, Value.bool false] ++ R1.toList.drop ((i + m) * 4 + 0 + ([Value.string ⟨#[]⟩, Value.bool false, Value.bool false, Value.bool false] : List Value).length)).length = _
    have e1 : R1.toList.length = cap * 4 := by rw [Array.length_toList, hR1s]
    rw [List.length_append, List.length_append, List.length_take, List.length_drop, e1]
    simp
    omega
  -- the append
  have hsrc0 : ∀ j u, D[j]? = some u → w.drew.cell? ((⟨g, (i + 1) * 4, none⟩ : Addr).add j) = some u := fun j u h => by
    refine Blk.mem (W := w.drew) (g := g) (t := 68) (cs := cur) hB ((i + 1) * 4) (fun j u h => ?_) j u h
    rw [← Array.getElem?_toList, hr, List.append_assoc, show (i + 1) * 4 = (A ++ X).length by rw [List.length_append]; omega, List.getElem?_append_right (by omega), Nat.add_sub_cancel_left, List.getElem?_append_left (List.getElem?_eq_some_iff.1 h).1]
    exact h
  have hspare : ∀ j, j < D.length → (w.drew.cell? ⟨g, 0 + i * 4 + j, none⟩).isSome = true ∧ w.drew.frozen? ⟨g, 0 + i * 4 + j, none⟩ = false := fun j hj => by
    refine ⟨?_, Blk.frozen (W := w.drew) (g := g) (t := 68) (cs := cur) hB _⟩
    rw [Blk.cell (W := w.drew) (g := g) (t := 68) (cs := cur) hB, Array.getElem?_eq_getElem (by rw [hcs]; omega)]
    rfl
  have hW1 : w.drew.setCells g (0 + i * 4) D = w.drew.setRow g R1 := by
    have a := run_storeCells_cells (P := Try.prog) g (0 + i * 4) D 0 w.drew (fun j hj => by rw [Nat.add_zero]; exact (hspare j hj).1) (fun j hj => by rw [Nat.add_zero]; exact (hspare j hj).2) hDo
    have b := run_storeCells_at Try.prog g (0 + i * 4) 68 D 0 cur w.drew hgb (by rw [hcs]; omega) hDo
    rw [← hR1] at b
    have e := a.symm.trans b
    rw [Nat.add_zero] at e
    exact (Result.ok.inj e).2
  have hB1 : Blk (w.drew.setRow g R1) g 68 R1 := Blk.row (W := w.drew) hB R1
  have hclr : ∀ t c, (Builtin.clear_ #[61] t #[.slice (some ⟨g, (i + m) * 4, none⟩) 1 c]).run Try.prog (w.drew.setRow g R1) = .ok (.tuple #[]) ((w.drew.setRow g R1).setRow g R2) := fun t c => by
    have hst := run_storeCells_at Try.prog g ((i + m) * 4) 68 [Value.string ⟨#[]⟩, Value.bool false, Value.bool false, Value.bool false] 0 R1 (w.drew.setRow g R1) hB1 (by rw [hR1s]; simp; omega) (by simp [Value.oneCell'])
    rw [← hR2] at hst
    have hzc : (Builtin.zeroCells (.agg #[.string ⟨#[]⟩, .bool false, .bool false, .bool false] : Value).cells 1).toList = [Value.string ⟨#[]⟩, Value.bool false, Value.bool false, Value.bool false] := by kernel_rfl
    simp [Builtin.clear_, run_underlying Try.underlying61, Try.zeroValue68, hzc, hst]
  have hfin : ((w.drew.setRow g R1).setRow g R2).ownsRow n₀ 68 4 (.slice (some ⟨g, 0, none⟩) (i + m) cap) (i + m) (A ++ D) :=
    ⟨by rw [List.length_append, hAl, hDl']; omega, .inr ⟨g, cap, R2, rfl, hg0, hB1.row R2, by omega, hcap, hR2s, hR2l⟩⟩
  have hgrow : w.grownBy ((w.drew.setRow g R1).setRow g R2) (some g) := ⟨rfl, rfl, rfl, by simp [World.setRow], fun k _ hk => by
    have hk' : k ≠ g := fun e => hk (by rw [e])
    exact (setRow_other _ g k R2 hk').trans (setRow_other _ g k R1 hk')⟩
  have hsrcA : Hid (∃ Ad, (if cap = i + 1 then some (⟨g, 0, none⟩ : Addr) else some ⟨g, (i + 1) * 4, none⟩) = some Ad ∧ ∀ j u, D[j]? = some u → w.drew.cell? (Ad.add j) = some u) := Lib.hid (by
    by_cases h : cap = i + 1
    · refine ⟨⟨g, 0, none⟩, by simp [h], fun j u hu => ?_⟩
      have h0 : D.length = 0 := by rw [hDl', show m = 0 by omega, Nat.zero_mul]
      rw [List.length_eq_zero_iff.1 h0] at hu
      simp at hu
    · exact ⟨_, by simp [h], hsrc0⟩)
  have hspareH := Lib.hid hspare
  have hW1H := Lib.hid hW1
  have hclrH := Lib.hid hclr
  have hfinH := Lib.hid hfin
  have hgrowH := Lib.hid hgrow
  have hDoH := Lib.hid hDo
  have hDlH : Hid (D.length = m * 4) := Lib.hid hDl'
  obtain ⟨Ad, hAd, hsrc⟩ := hsrcA.out
  have hsrcH := Lib.hid hsrc
  have c1 : (0 : Int) ≤ (i : Int) + 1 := by omega
  have c2 : (i : Int) + 1 ≤ (i : Int) + (m : Int) + 1 := by omega
  have c3 : ((i : Int) + 1).toNat = i + 1 := by omega
  have c4 : ¬ ((i : Int) = (i : Int) + 1) := by omega
  have c5 : (i : Int) ≤ (i : Int) + (m : Int) + 1 := by omega
  have c6 : i ≤ cap := by omega
  have c7 : i + 1 ≤ cap := by omega
  unfold maxLen at hcap
  have mixed : Try.prog.follows .mixedOrders = true := by kernel_rfl
  clear hclr hfin hgrow hDo hDl hDl' hsrc hsrc0 hsrcA hspare hW1 hR2 hR2l hR1 hR1l hR1s hR2s hB hB1 hgb hcs htk hcl hr hrl hAl hXl h1 hk
  go_enter Try.func52, Try.ntmps52
  go_wp2_with fail
  go_region_law_o (refine step_append_room rfl (.tmp 22) (.tmp 25) 61 rfl 68 i0 4 Try.underlying61 hi0 hz1 g 0 i cap (by simp [Act.eval, Act.put]) Ad m (cap - (i + 1)) D (by simp [Act.eval, Act.put]) hDlH.out hsrcH.out hDoH.out (by omega) hspareH.out ?_; rw [hW1H.out])
  go_wp2_with (simp only [hclrH.out, Result.andThen_ok])
  go_ret
  exact ⟨g, cap, rfl, rfl, by rw [hE.out]; exact hfinH.out, hgrowH.out⟩

set_option maxHeartbeats 4000000 in
set_option maxRecDepth 100000 in
/-- slices.Delete of one element. -/
theorem delete_k (n₀ : Nat) (V : List ByteArray) (i : Nat) (v : Value) (w : World) (hi : i < V.length) (hown : w.ownsRow n₀ 9 1 v V.length (flat kcs V)) (hbig : V.length ≤ 100000) :
    Calls Try.prog 51 #[v, .int .i64 i, .int .i64 ((i : Int) + 1)] w fun e w' => ∃ gg cc, v = .slice (some ⟨gg, 0, none⟩) V.length cc ∧ e = .returned (.slice (some ⟨gg, 0, none⟩) (V.length - 1) cc) ∧ w'.ownsRow n₀ 9 1 (.slice (some ⟨gg, 0, none⟩) (V.length - 1) cc) (V.length - 1) (flat kcs (V.eraseIdx i)) ∧ w.grownBy w' (some gg) := by
  obtain ⟨i0, hi0, hz0, hz1, hz2⟩ := info_parts info9
  obtain ⟨n, hn⟩ : ∃ n, V.length = n := ⟨_, rfl⟩
  have hk : ∀ y, (kcs y).length = 1 := kcs_len
  have h1V : ∀ l : List ByteArray, ∀ u ∈ flat kcs l, u.oneCell' = true := flat_one kcs_one
  obtain ⟨A, hA⟩ : ∃ A, flat kcs (V.take i) = A := ⟨_, rfl⟩
  obtain ⟨X, hX⟩ : ∃ X, flat kcs ((V.drop i).take 1) = X := ⟨_, rfl⟩
  obtain ⟨D, hDd⟩ : ∃ D, flat kcs (V.drop (i + 1)) = D := ⟨_, rfl⟩
  have hAl : A.length = i * 1 := by rw [← hA, flat_len hk, List.length_take, Nat.min_eq_left (Nat.le_of_lt hi)]
  have hXl : X.length = 1 := by rw [← hX, flat_len hk, List.length_take, List.length_drop, Nat.min_eq_left (by omega), Nat.one_mul]
  have hDl : D.length = (n - (i + 1)) * 1 := by rw [← hDd, flat_len hk, List.length_drop, hn]
  have hVf : flat kcs V = A ++ X ++ D := by rw [← hA, ← hX, ← hDd, ← flat_append, ← flat_append, List.append_assoc, ← List.drop_drop, List.take_append_drop, List.take_append_drop]
  have hE : Hid (flat kcs (V.eraseIdx i) = A ++ D) := Lib.hid (by rw [List.eraseIdx_eq_take_drop_succ, flat_append, hA, hDd])
  have hDo : ∀ u ∈ D, u.oneCell' = true := by rw [← hDd]; exact h1V _
  rw [hn] at hi hbig ⊢
  rw [hn, hVf] at hown
  clear hn hA hX hDd hVf h1V
  obtain ⟨h1, h2⟩ := hown
  rcases h2 with ⟨rfl, h0⟩ | ⟨g, cap, cur, rfl, hg0, hgb, hncap, hcap, hcs, htk⟩
  · omega
  have hB : Blk w g 9 cur := hgb
  obtain ⟨r, hr⟩ : ∃ r, cur.toList = A ++ X ++ D ++ r := ⟨cur.toList.drop (n * 1), by rw [← htk, List.take_append_drop]⟩
  have hcl : cur.toList.length = cap * 1 := by rw [Array.length_toList, hcs]
  have hrl : (n * 1) + r.length = cap * 1 := by
    rw [← hcl, hr, List.length_append, List.length_append, List.length_append, hAl, hDl, hXl]
    omega
  obtain ⟨m, rfl⟩ : ∃ m, n = i + m + 1 := ⟨n - (i + 1), by omega⟩
  have hDl' : D.length = m * 1 := by rw [hDl]; congr 1; omega
  -- the two rows
  obtain ⟨R1, hR1⟩ : ∃ R1 : Array Value, R1 = (cur.toList.take (0 + i * 1 + 0) ++ D ++ cur.toList.drop (0 + i * 1 + 0 + D.length)).toArray := ⟨_, rfl⟩
  have hR1l : R1.toList = A ++ D ++ (X ++ D ++ r).drop D.length := by
    rw [hR1]
    show cur.toList.take (0 + i * 1 + 0) ++ D ++ cur.toList.drop (0 + i * 1 + 0 + D.length) = _
    have e1 : 0 + i * 1 + 0 = A.length := by omega
    rw [e1, hr, show A ++ X ++ D ++ r = A ++ (X ++ D ++ r) by simp [List.append_assoc], List.take_left', ← List.drop_drop, List.drop_left']
    · rfl
    · rfl
  have hR1s : R1.size = cap * 1 := by
    rw [← Array.length_toList, hR1l, List.length_append, List.length_append, List.length_drop, List.length_append, List.length_append]
    omega
  obtain ⟨R2, hR2⟩ : ∃ R2 : Array Value, R2 = (R1.toList.take ((i + m) * 1 + 0) ++ [Value.string ⟨#[]⟩] ++ R1.toList.drop ((i + m) * 1 + 0 + ([Value.string ⟨#[]⟩] : List Value).length)).toArray := ⟨_, rfl⟩
  have hR2l : R2.toList.take ((i + m) * 1) = A ++ D := by
    rw [hR2]
    show (R1.toList.take ((i + m) * 1 + 0) ++ [Value.string ⟨#[]⟩] ++ R1.toList.drop ((i + m) * 1 + 0 + ([Value.string ⟨#[]⟩] : List Value).length)).take ((i + m) * 1) = _
    have e1 : (A ++ D).length = (i + m) * 1 := by rw [List.length_append, hAl, hDl']; omega
    rw [Nat.add_zero, List.append_assoc, hR1l, ← e1, List.take_left' (l₁ := A ++ D) rfl, List.take_left' rfl]
  have hR2s : R2.size = cap * 1 := by
    rw [← Array.length_toList, hR2]
    show (R1.toList.take ((i + m) * 1 + 0) ++ [Value.string ⟨#[]⟩] ++ R1.toList.drop ((i + m) * 1 + 0 + ([Value.string ⟨#[]⟩] : List Value).length)).length = _
    have e1 : R1.toList.length = cap * 1 := by rw [Array.length_toList, hR1s]
    rw [List.length_append, List.length_append, List.length_take, List.length_drop, e1]
    simp
    omega
  -- the append
  have hsrc0 : ∀ j u, D[j]? = some u → w.drew.cell? ((⟨g, (i + 1) * 1, none⟩ : Addr).add j) = some u := fun j u h => by
    refine Blk.mem (W := w.drew) (g := g) (t := 9) (cs := cur) hB ((i + 1) * 1) (fun j u h => ?_) j u h
    rw [← Array.getElem?_toList, hr, List.append_assoc, show (i + 1) * 1 = (A ++ X).length by rw [List.length_append]; omega, List.getElem?_append_right (by omega), Nat.add_sub_cancel_left, List.getElem?_append_left (List.getElem?_eq_some_iff.1 h).1]
    exact h
  have hspare : ∀ j, j < D.length → (w.drew.cell? ⟨g, 0 + i * 1 + j, none⟩).isSome = true ∧ w.drew.frozen? ⟨g, 0 + i * 1 + j, none⟩ = false := fun j hj => by
    refine ⟨?_, Blk.frozen (W := w.drew) (g := g) (t := 9) (cs := cur) hB _⟩
    rw [Blk.cell (W := w.drew) (g := g) (t := 9) (cs := cur) hB, Array.getElem?_eq_getElem (by rw [hcs]; omega)]
    rfl
  have hW1 : w.drew.setCells g (0 + i * 1) D = w.drew.setRow g R1 := by
    have a := run_storeCells_cells (P := Try.prog) g (0 + i * 1) D 0 w.drew (fun j hj => by rw [Nat.add_zero]; exact (hspare j hj).1) (fun j hj => by rw [Nat.add_zero]; exact (hspare j hj).2) hDo
    have b := run_storeCells_at Try.prog g (0 + i * 1) 9 D 0 cur w.drew hgb (by rw [hcs]; omega) hDo
    rw [← hR1] at b
    have e := a.symm.trans b
    rw [Nat.add_zero] at e
    exact (Result.ok.inj e).2
  have hB1 : Blk (w.drew.setRow g R1) g 9 R1 := Blk.row (W := w.drew) hB R1
  have hclr : ∀ t c, (Builtin.clear_ #[28] t #[.slice (some ⟨g, i + m, none⟩) 1 c]).run Try.prog (w.drew.setRow g R1) = .ok (.tuple #[]) ((w.drew.setRow g R1).setRow g R2) := fun t c => by
    have hst := run_storeCells_at Try.prog g ((i + m) * 1) 9 [Value.string ⟨#[]⟩] 0 R1 (w.drew.setRow g R1) hB1 (by rw [hR1s]; simp; omega) (by simp [Value.oneCell'])
    rw [← hR2, Nat.mul_one] at hst
    have hzc : (Builtin.zeroCells (.string ⟨#[]⟩ : Value).cells 1).toList = [Value.string ⟨#[]⟩] := by kernel_rfl
    simp [Builtin.clear_, run_underlying Try.underlying28, Try.zeroValue9, hzc, hst]
  have hfin : ((w.drew.setRow g R1).setRow g R2).ownsRow n₀ 9 1 (.slice (some ⟨g, 0, none⟩) (i + m) cap) (i + m) (A ++ D) :=
    ⟨by rw [List.length_append, hAl, hDl']; omega, .inr ⟨g, cap, R2, rfl, hg0, hB1.row R2, by omega, hcap, hR2s, hR2l⟩⟩
  have hgrow : w.grownBy ((w.drew.setRow g R1).setRow g R2) (some g) := ⟨rfl, rfl, rfl, by simp [World.setRow], fun k _ hk => by
    have hk' : k ≠ g := fun e => hk (by rw [e])
    exact (setRow_other _ g k R2 hk').trans (setRow_other _ g k R1 hk')⟩
  have hsrcA : Hid (∃ Ad, (if cap = i + 1 then some (⟨g, 0, none⟩ : Addr) else some ⟨g, i + 1, none⟩) = some Ad ∧ ∀ j u, D[j]? = some u → w.drew.cell? (Ad.add j) = some u) := Lib.hid (by
    by_cases h : cap = i + 1
    · refine ⟨⟨g, 0, none⟩, by simp [h], fun j u hu => ?_⟩
      have h0 : D.length = 0 := by rw [hDl', show m = 0 by omega, Nat.zero_mul]
      rw [List.length_eq_zero_iff.1 h0] at hu
      simp at hu
    · rw [Nat.mul_one] at hsrc0; exact ⟨_, by simp [h], hsrc0⟩)
  have hspareH := Lib.hid hspare
  have hW1H := Lib.hid hW1
  have hclrH := Lib.hid hclr
  have hfinH := Lib.hid hfin
  have hgrowH := Lib.hid hgrow
  have hDoH := Lib.hid hDo
  have hDlH : Hid (D.length = m * 1) := Lib.hid hDl'
  obtain ⟨Ad, hAd, hsrc⟩ := hsrcA.out
  have hsrcH := Lib.hid hsrc
  have c1 : (0 : Int) ≤ (i : Int) + 1 := by omega
  have c2 : (i : Int) + 1 ≤ (i : Int) + (m : Int) + 1 := by omega
  have c3 : ((i : Int) + 1).toNat = i + 1 := by omega
  have c4 : ¬ ((i : Int) = (i : Int) + 1) := by omega
  have c5 : (i : Int) ≤ (i : Int) + (m : Int) + 1 := by omega
  have c6 : i ≤ cap := by omega
  have c7 : i + 1 ≤ cap := by omega
  unfold maxLen at hcap
  have mixed : Try.prog.follows .mixedOrders = true := by kernel_rfl
  clear hclr hfin hgrow hDo hDl hDl' hsrc hsrc0 hsrcA hspare hW1 hR2 hR2l hR1 hR1l hR1s hR2s hB hB1 hgb hcs htk hcl hr hrl hAl hXl h1 hk
  go_enter Try.func51, Try.ntmps51
  go_wp2_with fail
  go_region_law_o (refine step_append_room rfl (.tmp 22) (.tmp 25) 28 rfl 9 i0 1 Try.underlying28 hi0 hz1 g 0 i cap (by simp [Act.eval, Act.put]) Ad m (cap - (i + 1)) D (by simp [Act.eval, Act.put]) hDlH.out hsrcH.out hDoH.out (by omega) hspareH.out ?_; rw [hW1H.out])
  go_wp2_with (simp only [hclrH.out, Result.andThen_ok])
  go_ret
  exact ⟨g, cap, rfl, rfl, by rw [hE.out]; exact hfinH.out, hgrowH.out⟩

end Go.Proofs.Ytklepnldoajghaa
