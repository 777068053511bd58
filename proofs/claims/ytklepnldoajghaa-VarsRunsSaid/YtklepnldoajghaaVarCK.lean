/- The reference's Environ. Condition: the rows lie as stated; the texts' sizes. -/
import Derived.Test.YtklepnldoajghaaVarCI
namespace Go.Proofs.Ytklepnldoajghaa
open Go.RowKit Go.PlainAid
attribute [local go_sem] Oper.semAt_some

theorem src_blk' {W : World} {b : Nat} {t : TypeId} {u : Value} (h : Blk W b t #[u]) : Src W (some ⟨b, 0, none⟩) [u] := fun j v hj => by
  refine ⟨_, rfl, ?_⟩
  rw [Addr.add_lit, h.cell, Nat.zero_add]
  simpa using hj

set_option maxHeartbeats 8000000 in
set_option maxRecDepth 100000 in
theorem environR_any {n₀ q : Nat} {L : Vl} {A : List ByteArray} {lv av : Value} (w : World) (h : RefAt n₀ w q L A lv av) (hz : ∀ x ∈ L, x.1.size + x.2.val.size ≤ 4611686018427387904) :
    Calls Try.prog 40 #[.pointer (some ⟨q, 0, none⟩)] w fun e w' => ∃ v', e = .returned v' ∧ w'.ownsRow w.heap.size 9 1 v' (envL L).length (flat kcs (envL L)) ∧ Below w.heap.size w w' := by
  obtain ⟨j0, hj0, hy0, hy1, hy2⟩ := info_parts info9
  obtain ⟨a0, c0, e0⟩ := ownsRow_slice h.list
  obtain ⟨z, hz0⟩ : ∃ z, w.heap.size = z := ⟨_, rfl⟩
  obtain ⟨N, hN⟩ : ∃ N, L.length = N := ⟨_, rfl⟩
  have hl := h.len
  have hQ := Lib.hid (fun (Z : World) (hb : Below z w Z) => (show Z.cell? ⟨q, 0, none⟩ = some (.slice a0 N c0) by rw [← hN, ← e0]; exact (blk_beneath h.blk (by rw [hz0]; exact hb)).cell 0))
  have hR := Lib.hid (fun (Z : World) (hb : Below z w Z) => row_beneath h.list (by rw [hz0]; exact hb))
  have hNH := Lib.hid hN
  have hzH := Lib.hid hz
  have e0H := Lib.hid e0
  have hz0H := Lib.hid hz0
  rw [hN] at hl
  rw [hz0]
  have hself : Hid (Below z w w) := Lib.hid (Below.refl _ _)
  clear h hz e0 hz0 hN
  go_enter Try.func40, Try.ntmps40
  go_wp2_with fail
  go_loopw [3, 4] (fun s3 s4 wr => ∃ k : Nat, k ≤ N ∧ s4 = .int .i64 k ∧ Hid (wr.ownsRow z 9 1 s3 (envL (L.take k)).length (flat kcs (envL (L.take k)))) ∧ Hid (Below z w wr)) (fun _ s4 _ => N - (intOf s4).toNat)
  case atStart => exact ⟨0, Nat.zero_le _, rfl, Lib.hid (World.ownsRow_nil _ _ _ _), hself⟩
  case round =>
    obtain ⟨k, hk, rfl, hrow, hB⟩ := hrel
    have pq := hQ.out _ hB.out
    by_cases hlt : k < N
    · obtain ⟨⟨xk, ⟨xv, xs, xe, xr⟩⟩, hx⟩ : ∃ x, L[k]? = some x := ⟨_, List.getElem?_eq_getElem (by rw [hNH.out]; omega)⟩
      have hcl := Lib.hid (fun (Z : World) (hb : Below z w Z) => row_at rcs_len (hR.out Z hb) hx)
      obtain ⟨g, cap, e1, _, hc, _, _⟩ := hcl.out _ hB.out
      rw [e0H.out] at e1
      obtain rfl : a0 = some ⟨g, 0, none⟩ := by simp at e1; exact e1.1
      have hS := Lib.hid (fun (Z : World) (hb : Below z w Z) => (show Z.cell? ⟨q, 0, none⟩ = some (.slice (some ⟨g, 0, none⟩) N c0) ∧ Z.cell? ⟨g, k * 5, none⟩ = some (.string xk) ∧ Z.cell? ⟨g, k * 5 + 1, none⟩ = some (.string xv) from by
        obtain ⟨g', cap', e1', _, hc', _, _⟩ := hcl.out Z hb
        rw [e0H.out] at e1'
        obtain rfl : g = g' := by simp at e1'; exact e1'.1
        exact ⟨hQ.out Z hb, hc' 0 _ rfl, hc' 1 _ rfl⟩))
      have d2 : wr.cell? ⟨g, k * 5 + 2, none⟩ = some (.bool xe) := hc 2 _ rfl
      have d4 : wr.cell? ⟨g, k * 5 + 4, none⟩ = some (.bool (!xs)) := hc 4 _ rfl
      have hkN : (k : Int) < (N : Int) := by omega
      have hk0 : (0 : Int) ≤ (k : Int) := by omega
      have hzx := hzH.out _ (List.mem_of_getElem? hx)
      dsimp only at hzx
      have htk := Lib.hid (take_snoc hx)
      have hel : (envL (L.take k)).length ≤ 64 := by
        have h1 := envL_len (L.take k)
        have h2 : (L.take k).length ≤ k := by rw [List.length_take]; omega
        omega
      clear hx hc e1 hcl
      by_cases hyes : xe = true ∧ xs = true
      · obtain ⟨rfl, rfl⟩ := hyes
        have hE := Lib.hid (envL_yes (x := (xk, ⟨xv, true, true, xr⟩)) rfl rfl (L.take k))
        obtain ⟨a3, c3, rfl⟩ := ownsRow_slice hrow.out
        obtain ⟨p, hp⟩ : ∃ p, (envL (L.take k)).length = p := ⟨_, rfl⟩
        rw [hp] at hel hrow
        have hpH := Lib.hid hp
        have hadd1 : ∀ w : World, (Op.stringOp .add xk ⟨#[61]⟩).run Try.prog w = .ok (.string (xk ++ ⟨#[61]⟩)) w := fun w => run_string_add_sum w _ _ (by show xk.size + 1 ≤ _; omega)
        have hadd2 : ∀ w : World, (Op.stringOp .add (xk ++ ⟨#[61]⟩) xv).run Try.prog w = .ok (.string (xk ++ ⟨#[61]⟩ ++ xv)) w := fun w => run_string_add_sum w _ _ (by rw [ByteArray.size_append]; show xk.size + 1 + xv.size ≤ _; omega)
        clear hzx
        have zz : Hid (z ≤ wr.heap.size) := Lib.hid (by have := hB.out.size; have := hz0H.out; omega)
        have bE : Hid (Below z w (wr.drew.alloc (.cells #[.string (xk ++ ⟨#[61]⟩ ++ xv)] 9))) := Lib.hid (hB.out.drew.alloc zz.out _)
        have zE : Hid (z ≤ (wr.drew.alloc (.cells #[.string (xk ++ ⟨#[61]⟩ ++ xv)] 9)).heap.size) := Lib.hid (by rw [World.size_alloc]; have := zz.out; show z ≤ wr.heap.size + 1; omega)
        have hsE : Hid (Src (wr.drew.alloc (.cells #[.string (xk ++ ⟨#[61]⟩ ++ xv)] 9)) (some ⟨wr.heap.size, 0, none⟩) [.string (xk ++ ⟨#[61]⟩ ++ xv)]) := Lib.hid (src_blk' (Blk.new wr.drew 9 #[.string (xk ++ ⟨#[61]⟩ ++ xv)]))
        have hrE := Lib.hid ((show wr.drew.ownsRow z 9 1 (.slice a3 p c3) p (flat kcs (envL (L.take k))) from hrow.out).alloc (.cells #[.string (xk ++ ⟨#[61]⟩ ++ xv)] 9))
        rw [hp]
        clear hp
        go_wp2_with fail
        go_region_held3 (fun Z => Z.cell? ⟨q, 0, none⟩ = some (.slice (some ⟨g, 0, none⟩) N c0) ∧ Z.cell? ⟨g, k * 5, none⟩ = some (.string xk) ∧ Z.cell? ⟨g, k * 5 + 1, none⟩ = some (.string xv)) (first | exact hS.out _ hB.out.drew | exact hS.out _ bE.out | exact hS.out _ hb1H.out | go_keep)
          ((refine step_app rfl _ _ 28 rfl z 9 j0 _ 1 16 Try.underlying28 hj0 hy0 hy1 hy2 rfl (by decide) _ p (flat kcs (envL (L.take k))) (by rfl) hrE.out (some ⟨wr.heap.size, 0, none⟩) 1 1 [.string (xk ++ (⟨#[61]⟩ : ByteArray) ++ xv)] (by rfl) rfl hsE.out (by simp [Value.oneCell']) (by omega) (by omega) zE.out ?_; intro a1 c1 w1 hr1 hg1 _; have hr1H := Lib.hid hr1; have hb1H := Lib.hid (below_row hrE.out bE.out zE.out hg1); clear hr1 hg1))
        all_goals
          go_wp2_with fail
          go_roundw
          case rel => exact ⟨k + 1, by omega, by go_num, by rw [htk.out, hE.out, List.length_append, hpH.out, flat_append]; exact hr1H, hb1H⟩
          case measure => simp [intOf]; omega
      · have hE := Lib.hid (envL_no (x := (xk, ⟨xv, xs, xe, xr⟩)) hyes (L.take k))
        cases xe <;> cases xs
        all_goals first | exact absurd ⟨rfl, rfl⟩ hyes | skip
        all_goals
          clear hyes
          go_wp2_with fail
          go_roundw
          case rel => exact ⟨k + 1, by omega, by go_num, by rw [htk.out, hE.out]; exact hrow, hB⟩
          case measure => simp [intOf]; omega
    · obtain rfl : k = N := by omega
      have ht : Hid (L.take k = L) := Lib.hid (List.take_of_length_le (by rw [hNH.out]; omega))
      have hrow' := hrow.out
      rw [ht.out] at hrow'
      have hrH := Lib.hid hrow'
      obtain ⟨a3, c3, rfl⟩ := ownsRow_slice hrow'
      clear hrow hrow'
      go_wp2_with fail
      go_ret
      exact ⟨_, rfl, hrH.out, hB.out⟩
end Go.Proofs.Ytklepnldoajghaa
