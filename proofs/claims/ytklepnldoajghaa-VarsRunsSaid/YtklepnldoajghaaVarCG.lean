/- The reference's Unset: the region. Condition: the rows lie as stated. -/
import Derived.Test.YtklepnldoajghaaVarCF
namespace Go.Proofs.Ytklepnldoajghaa
open Go.RowKit Go.PlainAid
attribute [local go_sem] Oper.semAt_some

theorem src_row2 {n₀ size n m : Nat} {e : TypeId} {w : World} {A : Option Addr} {c : Nat} {xs : List Value} (h : w.ownsRow n₀ e size (.slice A n c) m xs) : Src w A xs := by
  have : n = m := by
    rcases h.2 with ⟨e1, h0⟩ | ⟨g, cap, cur, e1, _⟩
    · simp at e1; omega
    · simp at e1; omega
  subst this
  exact src_row h
theorem below_row {z : Nat} {w W w1 : World} {e : TypeId} {s n : Nat} {v : Value} {xs : List Value} (hr : W.ownsRow z e s v n xs) (hb : Below z w W) (hsz : z ≤ W.heap.size) (hg : W.grownBy w1 v.ownBlock) : Below z w w1 :=
  hb.trans ⟨hg.os, hg.tape, hg.output, hg.size, fun k hk => hg.block k (by omega) (fun e => by have := (hr.lt k e.symm).1; omega)⟩
theorem src_part {w : World} {g : Nat} {xs : List Value} {k : Nat} (h : Src w (some ⟨g, 0, none⟩) xs) : Src w (some ⟨g, k, none⟩) (xs.drop k) := fun j u hj => by
  rw [List.getElem?_drop] at hj
  obtain ⟨ad, e, hc⟩ := h (k + j) u hj
  obtain rfl : (⟨g, 0, none⟩ : Addr) = ad := Option.some.inj e
  refine ⟨_, rfl, ?_⟩
  rw [Addr.add_lit] at hc ⊢
  rwa [Nat.zero_add] at hc
theorem src_take {w : World} {A : Option Addr} {xs : List Value} {k : Nat} (h : Src w A xs) : Src w A (xs.take k) := fun j u hj => by
  rw [List.getElem?_take] at hj
  split at hj
  · exact h j u hj
  · cases hj
theorem src_none {w : World} {A : Option Addr} : Src w A [] := fun j u hj => by simp at hj

/-- The list turned. -/
theorem REnds.list {n₀ q z : Nat} {L L' : Vl} {A : List ByteArray} {lv av v : Value} {w w1 : World} (h : RefAt n₀ w q L A lv av) (hb : Below w.heap.size w w1) (hv : w1.ownsRow z 73 5 v L'.length (flat rcs L')) (hz : n₀ ≤ z) (hs : Sorted (ks L')) (hl : L'.length ≤ 64) :
    REnds n₀ q L' A w (w1.setCell ⟨q, 0, none⟩ v) := by
  have h1 := h.beneath hb
  have hfar : ∀ g, g ≠ q → (w1.setCell ⟨q, 0, none⟩ v).heap[g]? = w1.heap[g]? := fun g hg => Below.heap_setCell _ _ _ g hg
  exact ⟨v, av, ⟨h1.blk.set_ 0 _, h1.base, row_keep (row_weak hv hz) (fun g hg => hfar g (fun e => row_off h1.blk (by decide) hv (by rw [← e]; exact hg.symm))), tx_keep h1.args (fun g hg hne => hfar g (tx_off h1.blk h1.args h1.nostr g hg hne)), h1.abase, hs, hl, h1.alen⟩, (RT.of hb).set v, fun _ _ hg => .inl ⟨av, h.blk.cell 1, hg⟩⟩

theorem cutR_list {L : Vl} {i : Nat} : flat rcs (L.eraseIdx i) = (flat rcs L).take (i * 5) ++ (flat rcs L).drop ((i + 1) * 5) := by
  by_cases hi : i < L.length
  · rw [List.eraseIdx_eq_take_drop_succ, flat_append, flat_take rcs_len L i (by omega), flat_drop rcs_len L (i + 1) (by omega)]
  · rw [List.eraseIdx_of_length_le (by omega), List.take_of_length_le (by rw [flat_len rcs_len]; exact Nat.mul_le_mul_right 5 (by omega)), List.drop_eq_nil_of_le (by rw [flat_len rcs_len]; exact Nat.mul_le_mul_right 5 (by omega)), List.append_nil]

set_option maxHeartbeats 8000000 in
set_option maxRecDepth 100000 in
theorem unsetR_cut {n₀ q : Nat} {L : Vl} {A : List ByteArray} {lv av : Value} (x : ByteArray) (w : World) (h : RefAt n₀ w q L A lv av) (hn0 : n₀ ≤ w.heap.size) (hx : x.size ≤ maxLen) (hnm : isName x = true) (hro : (got L x).ro = false) (hh : has (ks L) x = true) :
    Calls Try.prog 13 #[.pointer (some ⟨q, 0, none⟩), .string x] w fun e w' => e = .returned (.int .i64 0) ∧ REnds n₀ q (L.eraseIdx (pos (ks L) x)) A w w' := by
  obtain ⟨i0, hi0, hz0, hz1, hz2⟩ := info_parts info73
  have hat := at_has h.srt hh
  obtain ⟨i, hi⟩ : ∃ i, pos (ks L) x = i := ⟨_, rfl⟩
  have hf := Lib.hid (fnd_has hh)
  rw [hi] at hat
  rw [hi] at hf ⊢
  obtain ⟨y, hy⟩ : ∃ y, got L x = y := ⟨_, rfl⟩
  obtain ⟨hil, _⟩ := List.getElem?_eq_some_iff.1 hat
  obtain ⟨g, c0, e0, _, _, _, hLc⟩ := row_at rcs_len h.list hat
  subst e0
  have hl := h.len
  have hnmH := Lib.hid hnm
  have hH := Lib.hid h
  have hyH := Lib.hid hy
  have hroH := Lib.hid hro
  obtain ⟨N, hN⟩ : ∃ N, L.length = N := ⟨_, rfl⟩
  rw [hN] at hil hl hLc
  have hNH := Lib.hid hN
  have hatcall := Lib.hid (at_any x w h)
  rw [hN] at h hH
  clear hnm hy hro hh hat hi h
  go_enter Try.func13, Try.ntmps13
  go_wp2_with (go_at_call 34; refine (nameR_any x _ hx).mono ?_; rintro e w' ⟨rfl, rfl⟩; rw [hnmH.out])
  refine hatcall.out.mono ?_
  rintro e W ⟨rfl, hB⟩
  rw [hyH.out]
  rw [hyH.out] at hroH
  unfold rcs
  rw [hroH.out]
  have hBH := Lib.hid hB
  clear hB
  have hfd : ∀ w : World, (Instr.field 73 (.agg #[.string x, .string y.val, .bool y.ex, .bool false, .bool (!y.st)]) 3).run Try.prog w = .ok (.bool false) w := fun _ => by kernel_rfl
  have hHW := Lib.hid (hH.out.beneath hBH.out)
  have hcall := Lib.hid (find_any x W hHW.out)
  go_wp2_with fail
  refine hcall.out.mono ?_
  rintro e w' ⟨rfl, rfl⟩
  rw [hf.out]
  have hi0' : (0 : Int) ≤ (i : Int) := by omega
  obtain ⟨z, hz⟩ : ∃ z, w'.heap.size = z := ⟨_, rfl⟩
  have hV := hHW.out
  have hS := Lib.hid (fun (X : World) (hb : Below z w' X) => (blk_beneath hV.blk (by rw [hz]; exact hb)).cell 0)
  have hS1 := Lib.hid (fun (X : World) (hb : Below z w' X) => (blk_beneath hV.blk (by rw [hz]; exact hb)).frozen 0)
  have hsrc := fun (X : World) (hb : Below z w' X) => src_row2 (row_beneath hV.list (by rw [hz]; exact hb))
  have hsA := Lib.hid (fun (X : World) (hb : Below z w' X) => src_take (k := i * 5) (hsrc X hb))
  have hLl : (flat rcs L).length = N * 5 := by rw [flat_len rcs_len, hNH.out]
  have hl1 : ((flat rcs L).take (i * 5)).length = i * 5 := by rw [List.length_take, hLl]; omega
  have hl2 : ((flat rcs L).drop ((i + 1) * 5)).length = (N - (i + 1)) * 5 := by rw [List.length_drop, hLl]; omega
  have ho1 := flat_one rcs_one L
  have ho1a : ∀ u ∈ (flat rcs L).take (i * 5), u.oneCell' = true := fun u hu => ho1 u (List.mem_of_mem_take hu)
  have ho1b : ∀ u ∈ (flat rcs L).drop ((i + 1) * 5), u.oneCell' = true := fun u hu => ho1 u (List.mem_of_mem_drop hu)
  obtain ⟨F1, hF1⟩ : ∃ F1, (flat rcs L).take (i * 5) = F1 := ⟨_, rfl⟩
  obtain ⟨F2, hF2⟩ : ∃ F2, (flat rcs L).drop ((i + 1) * 5) = F2 := ⟨_, rfl⟩
  have hFF := Lib.hid (show flat rcs (L.eraseIdx i) = F1 ++ F2 by rw [← hF1, ← hF2]; exact cutR_list)
  have hsB : ∃ Ad, (if c0 = i + 1 then (⟨g, 0, none⟩ : Addr) else ⟨g, (i + 1) * 5, none⟩) = Ad ∧ ∀ X, Below z w' X → Src X (some Ad) F2 := by
    by_cases hck : c0 = i + 1
    · refine ⟨⟨g, 0, none⟩, by rw [if_pos hck], fun X hb => ?_⟩
      have : F2 = [] := by
        apply List.eq_nil_of_length_eq_zero
        rw [← hF2, hl2, show N - (i + 1) = 0 by omega, Nat.zero_mul]
      rw [this]
      exact src_none
    · exact ⟨_, by rw [if_neg hck], fun X hb => by rw [← hF2]; exact src_part (hsrc X hb)⟩
  obtain ⟨Ad, hAd, hsB⟩ := hsB
  have hsBH := Lib.hid hsB
  rw [hF1] at hl1 hsA ho1a
  rw [hF2] at hl2 ho1b
  have p0 : w'.cell? ⟨q, 0, none⟩ = some (.slice (some ⟨g, 0, none⟩) N c0) := hS.out w' (Below.refl _ _)
  have f0 : w'.frozen? ⟨q, 0, none⟩ = false := hS1.out w' (Below.refl _ _)
  have b1 : Hid (Below z w' (w'.drew.alloc (.cells #[] 73))) := Lib.hid ((Below.refl z w').drew.alloc (by show z ≤ w'.heap.size; omega) _)
  have p1 : (w'.alloc (.cells #[] 73)).cell? ⟨q, 0, none⟩ = some (.slice (some ⟨g, 0, none⟩) N c0) := hS.out _ ((Below.refl z w').alloc (by omega) _)
  have e1H := Lib.hid (empty_row w'.drew z 73 5 (by show z ≤ w'.heap.size; omega))
  have z0 : Hid (z ≤ w'.heap.size) := Lib.hid (by omega)
  have hw1 : IntKind.i64.wrap ((i : Int) + 1) = (i : Int) + 1 := by rw [IntKind.wrap_i64]; omega
  have hw2 : (0 : Int) ≤ (i : Int) + 1 := by omega
  have hw3 : ((i : Int) + 1).toNat = i + 1 := by omega
  have hw4 : (i : Int) + 1 ≤ (N : Int) := by omega
  have hw5 : (i : Int) ≤ (c0 : Int) := by omega
  have hl2H := Lib.hid hl2
  have hl1H := Lib.hid hl1
  have hzH := Lib.hid hz
  have hn0H := Lib.hid hn0
  have ho1aH := Lib.hid ho1a
  have ho1bH := Lib.hid ho1b
  have hHWs := hHW.out.srt
  have hsrt := Lib.hid hHWs
  have hsum : Hid (i + (N - (i + 1)) = N - 1) := Lib.hid (by omega)
  clear hV hsrc hLl hl1 hl2 ho1 ho1a ho1b hF1 hF2 hsB hz hn0 hHWs hfd
  by_cases hck : c0 = i + 1
  · rw [if_pos hck] at hAd
    subst hAd
    subst hck
    have hF2 : F2 = [] := by
      apply List.eq_nil_of_length_eq_zero
      rw [hl2H.out, show N - (i + 1) = 0 by omega, Nat.zero_mul]
    subst hF2
    have hsum0 : Hid (i + 0 = N - 1) := Lib.hid (by omega)
    have hw5' : (i : Int) ≤ (i : Int) + 1 := by omega
    go_wp2_with fail
    go_region_law (first
    | (refine step_app rfl _ _ 27 rfl z 73 i0 _ 5 40 Try.underlying27 hi0 hz0 hz1 hz2 rfl (by decide) _ 0 [] (by rfl) e1H.out (some ⟨g, 0, none⟩) i (i + 1) F1 (by rfl) hl1H.out (hsA.out _ b1.out) ho1aH.out (by omega) (by omega) (Nat.le_trans z0.out b1.out.size) ?_; intro a1 c1 w1 hr1 hg1 _; rw [Nat.zero_add, List.nil_append] at hr1; have hr1H := Lib.hid hr1; have hb1 := below_row e1H.out b1.out (Nat.le_trans z0.out b1.out.size) hg1; have hb1H := Lib.hid hb1; have p0w1 : w1.cell? ⟨q, 0, none⟩ = some (.slice (some ⟨g, 0, none⟩) N (i + 1)) := hS.out _ hb1; clear hr1 hg1 hb1)
    | (refine step_app rfl _ _ 27 rfl z 73 i0 _ 5 40 Try.underlying27 hi0 hz0 hz1 hz2 rfl (by decide) _ i F1 (by rfl) hr1H.out (some ⟨g, 0, none⟩) 0 0 [] (by rfl) (by simp) src_none (fun u hu => by cases hu) (by omega) (by omega) (Nat.le_trans z0.out hb1H.out.size) ?_; intro a2 c2 w2 hr2 hg2 _; have hr2H := Lib.hid hr2; have hb2 := below_row hr1H.out hb1H.out (Nat.le_trans z0.out hb1H.out.size) hg2; have hb2H := Lib.hid hb2; have p0w2 : w2.cell? ⟨q, 0, none⟩ = some (.slice (some ⟨g, 0, none⟩) N (i + 1)) := hS.out _ hb2; have f0w2 : w2.frozen? ⟨q, 0, none⟩ = false := hS1.out _ hb2; clear hr2 hg2 hb2))
    all_goals
      go_wp2_with fail
      go_ret
      refine ⟨rfl, .pre hBH.out (.list (z := z) hHW.out (by rw [hzH.out]; exact hb2H.out) ?_ (by have := hn0H.out; have := hBH.out.size; have := hzH.out; omega) ?_ ?_)⟩
      · rw [hFF.out, List.length_eraseIdx, if_pos (by have := hNH.out; omega), hNH.out, ← hsum0.out]; exact hr2H.out
      · rw [ks_erase]; exact sorted_erase hsrt.out i
      · rw [List.length_eraseIdx, if_pos (by have := hNH.out; omega), hNH.out]; omega
  · rw [if_neg hck] at hAd
    subst hAd
    go_wp2_with fail
    go_region_law (first
    | (refine step_app rfl _ _ 27 rfl z 73 i0 _ 5 40 Try.underlying27 hi0 hz0 hz1 hz2 rfl (by decide) _ 0 [] (by rfl) e1H.out (some ⟨g, 0, none⟩) i c0 F1 (by rfl) hl1H.out (hsA.out _ b1.out) ho1aH.out (by omega) (by omega) (Nat.le_trans z0.out b1.out.size) ?_; intro a1 c1 w1 hr1 hg1 _; rw [Nat.zero_add, List.nil_append] at hr1; have hr1H := Lib.hid hr1; have hb1 := below_row e1H.out b1.out (Nat.le_trans z0.out b1.out.size) hg1; have hb1H := Lib.hid hb1; have p0w1 : w1.cell? ⟨q, 0, none⟩ = some (.slice (some ⟨g, 0, none⟩) N c0) := hS.out _ hb1; clear hr1 hg1 hb1)
    | (refine step_app rfl _ _ 27 rfl z 73 i0 _ 5 40 Try.underlying27 hi0 hz0 hz1 hz2 rfl (by decide) _ i F1 (by rfl) hr1H.out (some ⟨g, (i + 1) * 5, none⟩) (N - (i + 1)) _ F2 (by rfl) hl2H.out (hsBH.out _ hb1H.out) ho1bH.out (by omega) (by omega) (Nat.le_trans z0.out hb1H.out.size) ?_; intro a2 c2 w2 hr2 hg2 _; have hr2H := Lib.hid hr2; have hb2 := below_row hr1H.out hb1H.out (Nat.le_trans z0.out hb1H.out.size) hg2; have hb2H := Lib.hid hb2; have p0w2 : w2.cell? ⟨q, 0, none⟩ = some (.slice (some ⟨g, 0, none⟩) N c0) := hS.out _ hb2; have f0w2 : w2.frozen? ⟨q, 0, none⟩ = false := hS1.out _ hb2; clear hr2 hg2 hb2))
    all_goals
      go_wp2_with fail
      go_ret
      refine ⟨rfl, .pre hBH.out (.list (z := z) hHW.out (by rw [hzH.out]; exact hb2H.out) ?_ (by have := hn0H.out; have := hBH.out.size; have := hzH.out; omega) ?_ ?_)⟩
      · rw [hFF.out, List.length_eraseIdx, if_pos (by have := hNH.out; omega), hNH.out, ← hsum.out]; exact hr2H.out
      · rw [ks_erase]; exact sorted_erase hsrt.out i
      · rw [List.length_eraseIdx, if_pos (by have := hNH.out; omega), hNH.out]; omega
end Go.Proofs.Ytklepnldoajghaa
