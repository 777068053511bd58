/- Drop, Stat. Condition: the tree lies as stated. -/
import Derived.Test.YtohgecmbkjienaaFlAO
import Derived.StillTailTactics
namespace Go.Proofs.Ytohgecmbkjienaa
open Go.RowKit Go.Shelf Go.PlainAid
attribute [local go_sem] Oper.semAt_some
theorem put5_blk {w : World} {b : Nat} {t : TypeId} (h : Blk w b t #[.int .i64 0, .int .i64 0, .int .i64 0, .int .i64 0, .int .i64 0]) (a0 a1 a2 a3 a4 : Value) : Blk (((((w.setCell ⟨b, 0, none⟩ a0).setCell ⟨b, 1, none⟩ a1).setCell ⟨b, 2, none⟩ a2).setCell ⟨b, 3, none⟩ a3).setCell ⟨b, 4, none⟩ a4) b t #[a0, a1, a2, a3, a4] := by
  have h9 := ((((h.set_ 0 a0).set_ 1 a1).set_ 2 a2).set_ 3 a3).set_ 4 a4
  rw [show ((((((#[.int .i64 0, .int .i64 0, .int .i64 0, .int .i64 0, .int .i64 0] : Array Value).setIfInBounds 0 a0).setIfInBounds 1 a1).setIfInBounds 2 a2).setIfInBounds 3 a3).setIfInBounds 4 a4) = #[a0, a1, a2, a3, a4] by simp] at h9
  exact h9
theorem put5_below {w w2 : World} (h : Below w.heap.size w w2) (a0 a1 a2 a3 a4 : Value) : Below w.heap.size w (((((w2.setCell ⟨w.heap.size, 0, none⟩ a0).setCell ⟨w.heap.size, 1, none⟩ a1).setCell ⟨w.heap.size, 2, none⟩ a2).setCell ⟨w.heap.size, 3, none⟩ a3).setCell ⟨w.heap.size, 4, none⟩ a4) :=
  setB (setB (setB (setB (setB h rfl a0) rfl a1) rfl a2) rfl a3) rfl a4
section
variable {w : World} {B : Nat → Nat → Prop} {p : Nat} {f : Fs} {sv : Value} {ps : List (Option Nat)}
theorem drop_any (h : FsAt w B p f sv ps) (hf : FineF f) (n : Int) : Calls Try.prog 21 #[.pointer (some ⟨p, 0, none⟩), .int .i64 n] w fun e w' => e = .returned (.int .i64 (DropM f n).1) ∧ FsP (All B) w w' p (DropM f n).2 := by
  have hlen : f.length ≤ 100000 := by have := hf.1; omega
  cases hn : node f n with
  | none =>
    have hM : Hid (DropM f n = (9, f)) := Lib.hid (by unfold DropM; rw [hn])
    have hc := Lib.hid (node_no h hn hlen)
    have hP := Lib.hid h.same
    rw [hM.out]
    clear h hf hn hM
    go_enter Try.func21, Try.ntmps21
    go_wp2_with (go_at_call 38; refine hc.out.mono ?_; rintro e w' ⟨rfl, rfl⟩)
    go_ret
    exact ⟨rfl, hP.out⟩
  | some I =>
    have hM : DropM f n = if I.holds = 0 then (22, f) else (0, relM (modN f n (fun I => { I with holds := I.holds - 1 })) n.toNat) := by unfold DropM; rw [hn]
    rw [hM]
    obtain ⟨i, q, rfl, hil, hi, hq, dv, ev, hA⟩ := node_where h hn
    have hc := Lib.hid (node_yes h hq hlen)
    have c1 : w.cell? ⟨q, 3, none⟩ = some (.int .i64 I.holds) := hA.blk.cell 3
    have f1 : w.frozen? ⟨q, 3, none⟩ = false := hA.blk.frozen 3
    by_cases h0 : I.holds = 0
    · rw [if_pos h0]
      rw [h0] at c1
      have hP := Lib.hid h.same
      clear h hf hn hM hi hq hA
      go_enter Try.func21, Try.ntmps21
      go_wp2_with (go_at_call 38; refine hc.out.mono ?_; rintro e w' ⟨rfl, rfl⟩)
      go_ret
      exact ⟨rfl, hP.out⟩
    · rw [if_neg h0]
      have hh := (hf.2 i I hi).hl
      have e0 : ((I.holds : Int) == 0) = false := beq_eq_false_iff_ne.2 (by omega)
      have hP := h.turnP hil hq (hA.field (Below.refl _ _) 3 (.int .i64 ((I.holds - 1 : Nat) : Int)) { I with holds := I.holds - 1 } rfl rfl rfl)
      rw [show ((I.holds - 1 : Nat) : Int) = (I.holds : Int) - 1 by omega] at hP
      rw [modN_at hi, show ((i : Int) + 1).toNat = i + 1 by omega]
      have hR : Hid (Calls Try.prog 47 #[.pointer (some ⟨p, 0, none⟩), .int .i64 ((i : Int) + 1)] (w.setCell ⟨q, 3, none⟩ (.int .i64 ((I.holds : Int) - 1))) fun e w' => e = .returned (.tuple #[]) ∧ FsP (All B) w w' p (relM (f.set i (some { I with holds := I.holds - 1 })) (i + 1))) := by
        obtain ⟨B1, ⟨sv1, ps1, h1⟩, k2, k3⟩ := hP
        exact Lib.hid ((release_any h1 (List.getElem?_set_self hil) (by rw [List.length_set]; exact hlen)).mono fun e w' h9 => ⟨h9.1, FsP.join k2 k3 h9.2⟩)
      clear h hf hn hM hi hq hA hP
      go_enter Try.func21, Try.ntmps21
      go_wp2_with (first | (go_at_call 38; refine hc.out.mono ?_; rintro e w' ⟨rfl, rfl⟩) | (go_at_call 47; refine hR.out.mono ?_; rintro e w2 ⟨rfl, hP2⟩))
      go_ret
      exact ⟨rfl, hP2⟩
def stA (n : Int) (I : Ino) : Array Value := #[.int .i64 n, .int .i64 I.kind, .int .i64 I.mode, .int .i64 I.links, .int .i64 I.size]
def StatM (f : Fs) (n : Int) : Array Value × Nat := match node f n with
  | none => (#[.int .i64 0, .int .i64 0, .int .i64 0, .int .i64 0, .int .i64 0], 9)
  | some I => (stA n I, 0)
set_option maxRecDepth 100000 in
set_option maxHeartbeats 1000000 in
theorem stat_any (h : FsAt w B p f sv ps) (hf : FineF f) (n : Int) : Calls Try.prog 16 #[.pointer (some ⟨p, 0, none⟩), .int .i64 n] w fun e w' => e = .returned (.tuple #[.agg (StatM f n).1, .int .i64 (StatM f n).2]) ∧ Below w.heap.size w w' := by
  have hlen : f.length ≤ 100000 := by have := hf.1; omega
  obtain ⟨W0, hW0⟩ : ∃ x, w.alloc (.cells #[.int .i64 0, .int .i64 0, .int .i64 0, .int .i64 0, .int .i64 0] 32) = x := ⟨_, rfl⟩
  have hb0 : Below w.heap.size w W0 := by rw [← hW0]; exact alB _ _
  have h0 := h.below hb0
  have hW0H := Lib.hid hW0
  have hb0H := Lib.hid hb0
  have hB0 : Blk W0 w.heap.size 32 #[.int .i64 0, .int .i64 0, .int .i64 0, .int .i64 0, .int .i64 0] := by rw [← hW0]; exact Blk.new _ _ _
  have hB0H := Lib.hid hB0
  cases hn : node f n with
  | none =>
    have hM : Hid (StatM f n = (#[.int .i64 0, .int .i64 0, .int .i64 0, .int .i64 0, .int .i64 0], 9)) := Lib.hid (by unfold StatM; rw [hn])
    have hc := Lib.hid (node_no h0 hn hlen)
    rw [hM.out]
    have d0 : W0.cell? ⟨w.heap.size, 0, none⟩ = some (.int .i64 0) := hB0.cell 0
    have e0 : W0.frozen? ⟨w.heap.size, 0, none⟩ = false := hB0.frozen 0
    have d1 : W0.cell? ⟨w.heap.size, 1, none⟩ = some (.int .i64 0) := hB0.cell 1
    have e1 : W0.frozen? ⟨w.heap.size, 1, none⟩ = false := hB0.frozen 1
    have d2 : W0.cell? ⟨w.heap.size, 2, none⟩ = some (.int .i64 0) := hB0.cell 2
    have e2 : W0.frozen? ⟨w.heap.size, 2, none⟩ = false := hB0.frozen 2
    have d3 : W0.cell? ⟨w.heap.size, 3, none⟩ = some (.int .i64 0) := hB0.cell 3
    have e3 : W0.frozen? ⟨w.heap.size, 3, none⟩ = false := hB0.frozen 3
    have d4 : W0.cell? ⟨w.heap.size, 4, none⟩ = some (.int .i64 0) := hB0.cell 4
    have e4 : W0.frozen? ⟨w.heap.size, 4, none⟩ = false := hB0.frozen 4
    clear h hf hn hM h0 hW0 hb0 hB0
    go_enter Try.func16, Try.ntmps16
    go_wp2_with (first | rw [hW0H.out] | (go_at_call 38; refine hc.out.mono ?_; rintro e w' ⟨rfl, rfl⟩))
    (try simp only [Exit.inBlock, Exit.then])
    refine bodyPost_ret (results_cell_row2 rfl _ _ w.heap.size 32 _ _ rfl (put5_blk hB0H.out _ _ _ _ _) Try.underlying32 rfl (by kernel_rfl)) rfl ?_
    exact ⟨rfl, put5_below hb0H.out _ _ _ _ _⟩
  | some I =>
    have hM : Hid (StatM f n = (stA n I, 0)) := Lib.hid (by unfold StatM; rw [hn])
    obtain ⟨i, q, rfl, hil, hi, hq, dv, ev, hA⟩ := node_where h0 hn
    rw [hM.out]
    have hc := Lib.hid (node_yes h0 hq hlen)
    have hz := Lib.hid (fun (W : World) (hb : Below W0.heap.size W0 W) => size_any (hA.below hb))
    have c0 : W0.cell? ⟨q, 0, none⟩ = some (.int .i64 I.kind) := hA.blk.cell 0
    have c1 : W0.cell? ⟨q, 1, none⟩ = some (.int .i64 I.mode) := hA.blk.cell 1
    have c2 : W0.cell? ⟨q, 2, none⟩ = some (.int .i64 I.links) := hA.blk.cell 2
    have d0 : W0.cell? ⟨w.heap.size, 0, none⟩ = some (.int .i64 0) := hB0.cell 0
    have d1 : W0.cell? ⟨w.heap.size, 1, none⟩ = some (.int .i64 0) := hB0.cell 1
    have d2 : W0.cell? ⟨w.heap.size, 2, none⟩ = some (.int .i64 0) := hB0.cell 2
    have d3 : W0.cell? ⟨w.heap.size, 3, none⟩ = some (.int .i64 0) := hB0.cell 3
    have d4 : W0.cell? ⟨w.heap.size, 4, none⟩ = some (.int .i64 0) := hB0.cell 4
    have e0 : W0.frozen? ⟨w.heap.size, 0, none⟩ = false := hB0.frozen 0
    have e1 : W0.frozen? ⟨w.heap.size, 1, none⟩ = false := hB0.frozen 1
    have e2 : W0.frozen? ⟨w.heap.size, 2, none⟩ = false := hB0.frozen 2
    have e3 : W0.frozen? ⟨w.heap.size, 3, none⟩ = false := hB0.frozen 3
    have e4 : W0.frozen? ⟨w.heap.size, 4, none⟩ = false := hB0.frozen 4
    have hbd := below_drew (Below.refl W0.heap.size W0)
    have mixed : Try.prog.follows .mixedOrders = true := by kernel_rfl
    clear h hf hn hM hi hq hA h0 hW0 hb0 hB0
    go_enter Try.func16, Try.ntmps16
    go_wp2_with (first | rw [hW0H.out] | (go_at_call 38; refine hc.out.mono ?_; rintro e w' ⟨rfl, rfl⟩))
    go_still_tail 16, mixed
    still_call (hz.out _ hbd)
    repeat still_step
    refine wpStill_nil ?_
    change wpList _ _ _ _ _ (World.drew _)
    go_wp2
    (try simp only [Exit.inBlock, Exit.then])
    refine bodyPost_ret (results_cell_row2 rfl _ _ w.heap.size 32 _ _ rfl (put5_blk hB0H.out _ _ _ _ _) Try.underlying32 rfl (by kernel_rfl)) rfl ?_
    exact ⟨rfl, below_drew (put5_below hb0H.out _ _ _ _ _)⟩
end
end Go.Proofs.Ytohgecmbkjienaa
