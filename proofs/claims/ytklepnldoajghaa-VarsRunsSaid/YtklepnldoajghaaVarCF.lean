/- The reference's Copy. Condition: the rows lie as stated. -/
import Derived.Test.YtklepnldoajghaaVarCE
namespace Go.Proofs.Ytklepnldoajghaa
open Go.RowKit Go.PlainAid
attribute [local go_sem] Oper.semAt_some

theorem below_grown {z : Nat} {w W w1 : World} {g : Nat} {v : Value} (hv : v.ownBlock = some g) (hz : z ≤ g) (hb : Below z w W) (hsz : z ≤ W.heap.size) (hg : W.grownBy w1 v.ownBlock) : Below z w w1 :=
  hb.trans ⟨hg.os, hg.tape, hg.output, hg.size, fun k hk => hg.block k (by omega) (fun e => by rw [hv] at e; have := Option.some.inj e; omega)⟩
theorem row_grown {W w1 : World} {b e e' : TypeId} {s s' n n' : Nat} {v v' : Value} {xs xs' : List Value} {b' : Nat} (hr : W.ownsRow b e s v n xs) (hr' : W.ownsRow b' e' s' v' n' xs') (hee : e ≠ e') (hg : W.grownBy w1 v'.ownBlock) : w1.ownsRow b e s v n xs :=
  row_keep hr (fun g hgg => hg.block g (row_lt hr hgg) (row_row hee hr hr' hgg))

set_option maxHeartbeats 8000000 in
set_option maxRecDepth 100000 in
theorem copyR_any {n₀ q : Nat} {L : Vl} {A : List ByteArray} {lv av : Value} (w : World) (h : RefAt n₀ w q L A lv av) :
    Calls Try.prog 21 #[.pointer (some ⟨q, 0, none⟩)] w fun e w' => ∃ q' lv' av', e = .returned (.pointer (some ⟨q', 0, none⟩)) ∧ w.heap.size ≤ q' ∧ RefAt w.heap.size w' q' L A lv' av' ∧ Below w.heap.size w w' ∧ ∀ g, av'.ownBlock = some g → w.heap.size ≤ g ∧ ∃ cs, Blk w' g 9 cs := by
  obtain ⟨i0, hi0, hz0, hz1, hz2⟩ := info_parts info73
  obtain ⟨j0, hj0, hy0, hy1, hy2⟩ := info_parts info9
  obtain ⟨a0, c0, rfl⟩ := ownsRow_slice h.list
  obtain ⟨b0, d0, rfl⟩ := h.args.slice
  obtain ⟨z, hz⟩ : ∃ z, w.heap.size = z := ⟨_, rfl⟩
  have hqz : q < z := by rw [← hz]; exact h.blk.lt
  have hS := Lib.hid (fun (W : World) (hb : Below z w W) => (show W.cell? ⟨q, 0, none⟩ = some (.slice a0 L.length c0) ∧ W.cell? ⟨q, 1, none⟩ = some (.slice b0 A.length d0) from ⟨(blk_beneath h.blk (by rw [hz]; exact hb)).cell 0, (blk_beneath h.blk (by rw [hz]; exact hb)).cell 1⟩))
  have hSL := Lib.hid (fun (W : World) (hb : Below z w W) => src_row (row_beneath h.list (by rw [hz]; exact hb)))
  have hSA := Lib.hid (fun (W : World) (hb : Below z w W) => src_tx (h.args.beneath (by rw [hz]; exact hb)))
  have hLl : (flat rcs L).length = L.length * 5 := flat_len rcs_len L
  have hAl : (flat kcs A).length = A.length * 1 := flat_len kcs_len A
  have hl := h.len
  have hal := h.alen
  have p0 : w.cell? ⟨q, 0, none⟩ = some (.slice a0 L.length c0) := h.blk.cell 0
  have p1 : w.cell? ⟨q, 1, none⟩ = some (.slice b0 A.length d0) := h.blk.cell 1
  have hH := Lib.hid h
  have b1 : Hid (Below z w (w.drew.alloc (.cells #[] 73))) := Lib.hid ((Below.refl z w).drew.alloc (by show z ≤ w.heap.size; omega) _)
  have b2 : Hid (Below z w (w.drew.alloc (.cells #[] 9))) := Lib.hid ((Below.refl z w).drew.alloc (by show z ≤ w.heap.size; omega) _)
  have b12 : Hid (Below z w ((w.drew.alloc (.cells #[] 73)).alloc (.cells #[] 9))) := Lib.hid (b1.out.alloc (by rw [World.size_alloc]; show z ≤ w.heap.size + 1; omega) _)
  have b21 : Hid (Below z w ((w.drew.alloc (.cells #[] 9)).alloc (.cells #[] 73))) := Lib.hid (b2.out.alloc (by rw [World.size_alloc]; show z ≤ w.heap.size + 1; omega) _)
  have e1 := empty_row w.drew z 73 5 (by show z ≤ w.heap.size; omega)
  have e2 := empty_row w.drew z 9 1 (by show z ≤ w.heap.size; omega)
  have e12 : ((w.drew.alloc (.cells #[] 73)).alloc (.cells #[] 9)).ownsRow z 9 1 (.slice (some ⟨w.heap.size + 1, 0, none⟩) 0 0) 0 [] := by
    have h := empty_row (w.drew.alloc (.cells #[] 73)) z 9 1 (by rw [World.size_alloc]; show z ≤ w.heap.size + 1; omega)
    rw [World.size_alloc] at h
    exact h
  have e21 : ((w.drew.alloc (.cells #[] 9)).alloc (.cells #[] 73)).ownsRow z 73 5 (.slice (some ⟨w.heap.size + 1, 0, none⟩) 0 0) 0 [] := by
    have h := empty_row (w.drew.alloc (.cells #[] 9)) z 73 5 (by rw [World.size_alloc]; show z ≤ w.heap.size + 1; omega)
    rw [World.size_alloc] at h
    exact h
  have e1H := Lib.hid e1
  have e2H := Lib.hid e2
  have e12H := Lib.hid e12
  have e21H := Lib.hid e21
  have hzH := Lib.hid hz
  have z0 : Hid (z ≤ w.heap.size) := Lib.hid (by omega)
  rw [hz]
  clear h hz e1 e2 e12 e21
  go_enter Try.func21, Try.ntmps21
  go_wp2_with fail
  go_region_held3 (fun W => W.cell? ⟨q, 0, none⟩ = some (.slice a0 L.length c0) ∧ W.cell? ⟨q, 1, none⟩ = some (.slice b0 A.length d0)) (first | exact hS.out _ b1.out | exact hS.out _ b2.out | exact hS.out _ b12.out | exact hS.out _ b21.out | exact hS.out _ hb2H.out | exact hS.out _ hb1aH.out | exact hS.out _ hb1H.out | go_keep)
    (first
    | (refine step_app rfl _ _ 28 rfl z 9 j0 _ 1 16 Try.underlying28 hj0 hy0 hy1 hy2 rfl (by decide) _ 0 [] (by rfl) eAH.out b0 A.length d0 (flat kcs A) (by rfl) hAl (hSA.out _ hb1aH.out) (flat_one kcs_one A) (by omega) (by omega) (Nat.le_trans z0.out hb1aH.out.size) ?_; intro a2 c2 w2 hr2 hg2 _; rw [Nat.zero_add, List.nil_append] at hr2; have hr2H := Lib.hid hr2; have hb2H := Lib.hid (below_grown (g := w1.heap.size) rfl (by have := z0.out; have := hz1'.out; omega) hb1aH.out (Nat.le_trans z0.out hb1aH.out.size) hg2); have hr1kH := Lib.hid (row_grown (hr1H.out.alloc _) eAH.out (by decide) hg2); clear hr2 hg2)
    | (refine step_app rfl _ _ 28 rfl z 9 j0 _ 1 16 Try.underlying28 hj0 hy0 hy1 hy2 rfl (by decide) _ 0 [] (by rfl) hEH.out b0 A.length d0 (flat kcs A) (by rfl) hAl (hSA.out _ hb1H.out) (flat_one kcs_one A) (by omega) (by omega) (Nat.le_trans z0.out hb1H.out.size) ?_; intro a2 c2 w2 hr2 hg2 _; rw [Nat.zero_add, List.nil_append] at hr2; have hr2H := Lib.hid hr2; have hb2H := Lib.hid (below_grown (g := w.heap.size + 1) rfl (by have := z0.out; have := hz1'.out; omega) hb1H.out (Nat.le_trans z0.out hb1H.out.size) hg2); have hr1kH := Lib.hid (row_grown hr1H.out hEH.out (by decide) hg2); clear hr2 hg2)
    | (refine step_app rfl _ _ 28 rfl z 9 j0 _ 1 16 Try.underlying28 hj0 hy0 hy1 hy2 rfl (by decide) _ 0 [] (by rfl) hEH.out b0 A.length d0 (flat kcs A) (by rfl) hAl (hSA.out _ hb1H.out) (flat_one kcs_one A) (by omega) (by omega) (Nat.le_trans z0.out hb1H.out.size) ?_; intro a2 c2 w2 hr2 hg2 _; rw [Nat.zero_add, List.nil_append] at hr2; have hr2H := Lib.hid hr2; have hb2H := Lib.hid (below_grown (g := w.heap.size) rfl (by have := z0.out; have := hz1'.out; omega) hb1H.out (Nat.le_trans z0.out hb1H.out.size) hg2); have hr1kH := Lib.hid (row_grown hr1H.out hEH.out (by decide) hg2); clear hr2 hg2)
    | (refine step_app rfl _ _ 27 rfl z 73 i0 _ 5 40 Try.underlying27 hi0 hz0 hz1 hz2 rfl (by decide) _ 0 [] (by rfl) e1H.out a0 L.length c0 (flat rcs L) (by rfl) hLl (hSL.out _ b1.out) (flat_one rcs_one L) (by omega) (by omega) (Nat.le_trans z0.out b1.out.size) ?_; intro a1 c1 w1 hr1 hg1 _; rw [Nat.zero_add, List.nil_append] at hr1; have hr1H := Lib.hid hr1; have hb1 := below_grown (g := w.heap.size) rfl (by have := z0.out; omega) b1.out (Nat.le_trans z0.out b1.out.size) hg1; have hb1H := Lib.hid hb1; have hz1' : Hid (z ≤ w1.heap.size) := Lib.hid (Nat.le_trans z0.out hb1.size); have hb1aH := Lib.hid (hb1.alloc hz1'.out (.cells #[] 9)); have eAH := Lib.hid (empty_row w1 z 9 1 hz1'.out); clear hr1 hg1 hb1)
    | (refine step_app rfl _ _ 27 rfl z 73 i0 _ 5 40 Try.underlying27 hi0 hz0 hz1 hz2 rfl (by decide) _ 0 [] (by rfl) (e1H.out.alloc _) a0 L.length c0 (flat rcs L) (by rfl) hLl (hSL.out _ b12.out) (flat_one rcs_one L) (by omega) (by omega) (Nat.le_trans z0.out b12.out.size) ?_; intro a1 c1 w1 hr1 hg1 _; rw [Nat.zero_add, List.nil_append] at hr1; have hr1H := Lib.hid hr1; have hb1 := below_grown (g := w.heap.size) rfl (by have := z0.out; omega) b12.out (Nat.le_trans z0.out b12.out.size) hg1; have hb1H := Lib.hid hb1; have hz1' : Hid (z ≤ w1.heap.size) := Lib.hid (Nat.le_trans z0.out hb1.size); have hEH := Lib.hid (row_grown e12H.out (e1H.out.alloc _) (by decide) hg1); clear hr1 hg1 hb1)
    | (refine step_app rfl _ _ 27 rfl z 73 i0 _ 5 40 Try.underlying27 hi0 hz0 hz1 hz2 rfl (by decide) _ 0 [] (by rfl) e21H.out a0 L.length c0 (flat rcs L) (by rfl) hLl (hSL.out _ b21.out) (flat_one rcs_one L) (by omega) (by omega) (Nat.le_trans z0.out b21.out.size) ?_; intro a1 c1 w1 hr1 hg1 _; rw [Nat.zero_add, List.nil_append] at hr1; have hr1H := Lib.hid hr1; have hb1 := below_grown (g := w.heap.size + 1) rfl (by have := z0.out; omega) b21.out (Nat.le_trans z0.out b21.out.size) hg1; have hb1H := Lib.hid hb1; have hz1' : Hid (z ≤ w1.heap.size) := Lib.hid (Nat.le_trans z0.out hb1.size); have hEH := Lib.hid (row_grown (e2H.out.alloc _) e21H.out (by decide) hg1); clear hr1 hg1 hb1))
  all_goals
    go_wp2_with fail
    go_ret
    have hV := hH.out
    have hsz := hb2H.out.size
    have hzz := hzH.out
    have hzw : z ≤ w2.heap.size := by omega
    exact ⟨_, _, _, rfl, hzw, ⟨Blk.new w2 30 _, hzw, hr1kH.out.alloc _, (TxAt.of_row hr2H.out).beneath ((Below.refl _ _).alloc (Nat.le_refl _) _), fun g hg _ => (hr2H.out.lt g hg).1, hV.srt, hV.len, hV.alen⟩, hb2H.out.alloc hzw _, fun g hg => ⟨(hr2H.out.lt g hg).1, by obtain ⟨cs, hc⟩ := row_blk hr2H.out hg; exact ⟨cs, hc.alloc _⟩⟩⟩
end Go.Proofs.Ytklepnldoajghaa
