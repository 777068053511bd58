/- What is closed; awake's trees. No condition. -/
import Derived.Test.YtmilagppbepnbaaGreatSpe
import Derived.Laws.ResultCell
import Derived.Laws.Rows
import Derived.StillTailTactics
namespace Go.Proofs.YtmilagppbepnbaaGreat
open Go.RowKit Go.Shelf Go.PlainAid

end Go.Proofs.YtmilagppbepnbaaGreat
/- All that is asked, without a tree. No condition. -/
namespace Go.Proofs.YtmilagppbepnbaaGreat
open Go.RowKit Go.Shelf Go.PlainAid
attribute [local go_sem] Oper.semAt_some
theorem results_cell_row2 {P : Program} {fn : Func} {p u : Tmp} {ty : TypeId} (h : fn.results = #[.cell p ty, .tmp u]) (tmps : Array Value) (w : World) (g : Nat) (t : TypeId) (cs : Array Value) (d : TypeDesc)
    (hp : tmps.getD p undef = .pointer (some ⟨g, 0, none⟩)) (hg : Blk w g t cs)
    (hu : P.underlying ty = some d) (hd : (match d with | .struct _ | .array _ _ => true | _ => false) = true) (hi : (P.info? ty).map (·.size) = some cs.size) :
    (results fn tmps).run P w = .ok (.tuple #[.agg cs, tmps.getD u undef]) w := by
  rw [results_cell_tmp h, hp]
  simp [asAddr, run_loadVar_row w g t ty cs (0, 0) d hg hu hd hi, Result.andThen]
end Go.Proofs.YtmilagppbepnbaaGreat
/- Chmod, Hold, Drop, May, Stat. Condition: the tree lies as stated. -/
namespace Go.Proofs.YtmilagppbepnbaaGreat
open Go.RowKit Go.Shelf Go.PlainAid
attribute [local go_sem] Oper.semAt_some
def ChmodM (f : Fs) (n m : Int) : Nat × Fs := match node f n with
  | none => (9, f)
  | some _ => (0, modN f n (fun I => { I with mode := modeM m }))
def HoldM (f : Fs) (n : Int) : Nat × Fs := match node f n with
  | none => (9, f)
  | some _ => (0, modN f n (fun I => { I with holds := I.holds + 1 }))
def DropM (f : Fs) (n : Int) : Nat × Fs := match node f n with
  | none => (9, f)
  | some I => if I.holds = 0 then (22, f) else (0, relM (modN f n (fun I => { I with holds := I.holds - 1 })) n.toNat)
def MayM (f : Fs) (n want : Int) : Bool := match node f n with
  | none => false
  | some I => decide (1 ≤ want) && decide (want ≤ 7) && I.may want
section
variable {w : World} {B : Nat → Nat → Prop} {p : Nat} {f : Fs} {sv : Value} {ps : List (Option Nat)}
theorem hold_any (h : FsAt w B p f sv ps) (hf : FineF f) (n : Int) : Calls Tryz.prog 30 #[.pointer (some ⟨p, 0, none⟩), .int .i64 n] w fun e w' => e = .returned (.int .i64 (HoldM f n).1) ∧ FsP (All B) w w' p (HoldM f n).2 := by
  have hlen : f.length ≤ 100000 := by have := hf.1; omega
  cases hn : node f n with
  | none =>
    have hM : Hid (HoldM f n = (9, f)) := Lib.hid (by unfold HoldM; rw [hn])
    have hc := Lib.hid (node_no h hn hlen)
    have hP := Lib.hid h.same
    rw [hM.out]
    clear h hf hn hM
    go_enter Tryz.func30, Tryz.ntmps30
    go_wp2_with (go_at_call 58; refine hc.out.mono ?_; rintro e w' ⟨rfl, rfl⟩)
    go_ret
    exact ⟨rfl, hP.out⟩
  | some I =>
    have hM : Hid (HoldM f n = (0, modN f n (fun I => { I with holds := I.holds + 1 }))) := Lib.hid (by unfold HoldM; rw [hn])
    obtain ⟨i, q, rfl, hil, hi, hq, dv, ev, hA⟩ := node_where h hn
    rw [hM.out]
    have hc := Lib.hid (node_yes h hq hlen)
    have hh := (hf.2 i I hi).hl
    have hP := Lib.hid (h.turnP hil hq (hA.field (Below.refl _ _) 3 (.int .i64 ((I.holds + 1 : Nat) : Int)) { I with holds := I.holds + 1 } rfl rfl rfl))
    rw [show ((I.holds + 1 : Nat) : Int) = (I.holds : Int) + 1 by omega] at hP
    have c1 : w.cell? ⟨q, 3, none⟩ = some (.int .i64 I.holds) := hA.blk.cell 3
    have f1 : w.frozen? ⟨q, 3, none⟩ = false := hA.blk.frozen 3
    rw [modN_at hi]
    clear h hf hn hM hi hq hA
    go_enter Tryz.func30, Tryz.ntmps30
    go_wp2_with (go_at_call 58; refine hc.out.mono ?_; rintro e w' ⟨rfl, rfl⟩)
    go_ret
    exact ⟨rfl, hP.out⟩
theorem may_fs (h : FsAt w B p f sv ps) (hf : FineF f) (n want : Int) : Calls Tryz.prog 205 #[.pointer (some ⟨p, 0, none⟩), .int .i64 n, .int .i64 want] w fun e w' => e = .returned (.bool (MayM f n want)) ∧ w' = w := by
  have hlen : f.length ≤ 100000 := by have := hf.1; omega
  cases hn : node f n with
  | none =>
    have hM : Hid (MayM f n want = false) := Lib.hid (by unfold MayM; rw [hn])
    have hc := Lib.hid (node_no h hn hlen)
    rw [hM.out]
    clear h hf hn hM
    go_enter Tryz.func205, Tryz.ntmps205
    go_wp2_with (go_at_call 58; refine hc.out.mono ?_; rintro e w' ⟨rfl, rfl⟩)
    go_ret
    exact ⟨rfl, rfl⟩
  | some I =>
    have hM : Hid (MayM f n want = (decide (1 ≤ want) && decide (want ≤ 7) && I.may want)) := Lib.hid (by unfold MayM; rw [hn])
    obtain ⟨i, q, rfl, hil, hi, hq, dv, ev, hA⟩ := node_where h hn
    rw [hM.out]
    have hc := Lib.hid (node_yes h hq hlen)
    have hm := Lib.hid (may_any hA want)
    clear h hf hn hM hi hq hA
    by_cases h1 : 1 ≤ want
    · by_cases h2 : want ≤ 7
      · rw [decide_eq_true h1, decide_eq_true h2, Bool.true_and, Bool.true_and]
        go_enter Tryz.func205, Tryz.ntmps205
        go_wp2_with (first | (go_at_call 58; refine hc.out.mono ?_; rintro e w' ⟨rfl, rfl⟩) | (go_at_call 208; refine hm.out.mono ?_; rintro e w' ⟨rfl, rfl⟩))
        go_ret
        exact ⟨rfl, rfl⟩
      · rw [decide_eq_true h1, decide_eq_false h2, Bool.true_and, Bool.false_and]
        go_enter Tryz.func205, Tryz.ntmps205
        go_wp2_with (first | (go_at_call 58; refine hc.out.mono ?_; rintro e w' ⟨rfl, rfl⟩) | (go_at_call 208; refine hm.out.mono ?_; rintro e w' ⟨rfl, rfl⟩))
        go_ret
        exact ⟨rfl, rfl⟩
    · rw [decide_eq_false h1, Bool.false_and, Bool.false_and]
      go_enter Tryz.func205, Tryz.ntmps205
      go_wp2_with (first | (go_at_call 58; refine hc.out.mono ?_; rintro e w' ⟨rfl, rfl⟩) | (go_at_call 208; refine hm.out.mono ?_; rintro e w' ⟨rfl, rfl⟩))
      go_ret
      exact ⟨rfl, rfl⟩
end
end Go.Proofs.YtmilagppbepnbaaGreat
/- Drop, Stat. Condition: the tree lies as stated. -/
namespace Go.Proofs.YtmilagppbepnbaaGreat
open Go.RowKit Go.Shelf Go.PlainAid
attribute [local go_sem] Oper.semAt_some
theorem put5_blk {w : World} {b : Nat} {t : TypeId} (h : Blk w b t #[.int .i64 0, .int .i64 0, .int .i64 0, .int .i64 0, .int .i64 0]) (a0 a1 a2 a3 a4 : Value) : Blk (((((w.setCell ⟨b, 0, none⟩ a0).setCell ⟨b, 1, none⟩ a1).setCell ⟨b, 2, none⟩ a2).setCell ⟨b, 3, none⟩ a3).setCell ⟨b, 4, none⟩ a4) b t #[a0, a1, a2, a3, a4] := by
  have h9 := ((((h.set_ 0 a0).set_ 1 a1).set_ 2 a2).set_ 3 a3).set_ 4 a4
  rw [show ((((((#[.int .i64 0, .int .i64 0, .int .i64 0, .int .i64 0, .int .i64 0] : Array Value).setIfInBounds 0 a0).setIfInBounds 1 a1).setIfInBounds 2 a2).setIfInBounds 3 a3).setIfInBounds 4 a4) = #[a0, a1, a2, a3, a4] by simp] at h9
  exact h9
theorem put5_below {w w2 : World} (h : Below w.heap.size w w2) (a0 a1 a2 a3 a4 : Value) : Below w.heap.size w (((((w2.setCell ⟨w.heap.size, 0, none⟩ a0).setCell ⟨w.heap.size, 1, none⟩ a1).setCell ⟨w.heap.size, 2, none⟩ a2).setCell ⟨w.heap.size, 3, none⟩ a3).setCell ⟨w.heap.size, 4, none⟩ a4) :=
  setB (setB (setB (setB (setB h rfl a0) rfl a1) rfl a2) rfl a3) rfl a4
section
variable {w : World} {B : Nat → Nat → Prop} {p : Nat} {f : Fs} {sv : Value} {ps : List (Option Nat)}
theorem drop_any (h : FsAt w B p f sv ps) (hf : FineF f) (n : Int) : Calls Tryz.prog 228 #[.pointer (some ⟨p, 0, none⟩), .int .i64 n] w fun e w' => e = .returned (.int .i64 (DropM f n).1) ∧ FsP (All B) w w' p (DropM f n).2 := by
  have hlen : f.length ≤ 100000 := by have := hf.1; omega
  cases hn : node f n with
  | none =>
    have hM : Hid (DropM f n = (9, f)) := Lib.hid (by unfold DropM; rw [hn])
    have hc := Lib.hid (node_no h hn hlen)
    have hP := Lib.hid h.same
    rw [hM.out]
    clear h hf hn hM
    go_enter Tryz.func228, Tryz.ntmps228
    go_wp2_with (go_at_call 58; refine hc.out.mono ?_; rintro e w' ⟨rfl, rfl⟩)
    go_ret
    exact ⟨rfl, hP.out⟩
  | some I =>
    have hM : DropM f n = if I.holds = 0 then (22, f) else (0, relM (modN f n (fun I => { I with holds := I.holds - 1 })) n.toNat) := by unfold DropM; rw [hn]
    rw [hM]
    obtain ⟨i, q, rfl, hil, hi, hq, dv, ev, hA⟩ := node_where h hn
    have hc := Lib.hid (node_yes h hq hlen)
    have c1 : w.cell? ⟨q, 3, none⟩ = some (.int .i64 I.holds) := hA.blk.cell 3
    have f1 : w.frozen? ⟨q, 3, none⟩ = false := hA.blk.frozen 3
    by_cases h0 : I.holds = 0
    · rw [if_pos h0]
      rw [h0] at c1
      have hP := Lib.hid h.same
      clear h hf hn hM hi hq hA
      go_enter Tryz.func228, Tryz.ntmps228
      go_wp2_with (go_at_call 58; refine hc.out.mono ?_; rintro e w' ⟨rfl, rfl⟩)
      go_ret
      exact ⟨rfl, hP.out⟩
    · rw [if_neg h0]
      have hh := (hf.2 i I hi).hl
      have e0 : ((I.holds : Int) == 0) = false := beq_eq_false_iff_ne.2 (by omega)
      have hP := h.turnP hil hq (hA.field (Below.refl _ _) 3 (.int .i64 ((I.holds - 1 : Nat) : Int)) { I with holds := I.holds - 1 } rfl rfl rfl)
      rw [show ((I.holds - 1 : Nat) : Int) = (I.holds : Int) - 1 by omega] at hP
      rw [modN_at hi, show ((i : Int) + 1).toNat = i + 1 by omega]
      have hR : Hid (Calls Tryz.prog 253 #[.pointer (some ⟨p, 0, none⟩), .int .i64 ((i : Int) + 1)] (w.setCell ⟨q, 3, none⟩ (.int .i64 ((I.holds : Int) - 1))) fun e w' => e = .returned (.tuple #[]) ∧ FsP (All B) w w' p (relM (f.set i (some { I with holds := I.holds - 1 })) (i + 1))) := by
        obtain ⟨B1, ⟨sv1, ps1, h1⟩, k2, k3⟩ := hP
        exact Lib.hid ((release_any h1 (List.getElem?_set_self hil) (by rw [List.length_set]; exact hlen)).mono fun e w' h9 => ⟨h9.1, FsP.join k2 k3 h9.2⟩)
      clear h hf hn hM hi hq hA hP
      go_enter Tryz.func228, Tryz.ntmps228
      go_wp2_with (first | (go_at_call 58; refine hc.out.mono ?_; rintro e w' ⟨rfl, rfl⟩) | (go_at_call 253; refine hR.out.mono ?_; rintro e w2 ⟨rfl, hP2⟩))
      go_ret
      exact ⟨rfl, hP2⟩
def stA (n : Int) (I : Ino) : Array Value := #[.int .i64 n, .int .i64 I.kind, .int .i64 I.mode, .int .i64 I.links, .int .i64 I.size]
def StatM (f : Fs) (n : Int) : Array Value × Nat := match node f n with
  | none => (#[.int .i64 0, .int .i64 0, .int .i64 0, .int .i64 0, .int .i64 0], 9)
  | some I => (stA n I, 0)
set_option maxRecDepth 100000 in
set_option maxHeartbeats 1000000 in
theorem stat_any (h : FsAt w B p f sv ps) (hf : FineF f) (n : Int) : Calls Tryz.prog 148 #[.pointer (some ⟨p, 0, none⟩), .int .i64 n] w fun e w' => e = .returned (.tuple #[.agg (StatM f n).1, .int .i64 (StatM f n).2]) ∧ Below w.heap.size w w' := by
  have hlen : f.length ≤ 100000 := by have := hf.1; omega
  obtain ⟨W0, hW0⟩ : ∃ x, w.alloc (.cells #[.int .i64 0, .int .i64 0, .int .i64 0, .int .i64 0, .int .i64 0] 41) = x := ⟨_, rfl⟩
  have hb0 : Below w.heap.size w W0 := by rw [← hW0]; exact alB _ _
  have h0 := h.below hb0
  have hW0H := Lib.hid hW0
  have hb0H := Lib.hid hb0
  have hB0 : Blk W0 w.heap.size 41 #[.int .i64 0, .int .i64 0, .int .i64 0, .int .i64 0, .int .i64 0] := by rw [← hW0]; exact Blk.new _ _ _
  have hB0H := Lib.hid hB0
  cases hn : node f n with
  | none =>
    have hM : Hid (StatM f n = (#[.int .i64 0, .int .i64 0, .int .i64 0, .int .i64 0, .int .i64 0], 9)) := Lib.hid (by unfold StatM; rw [hn])
    have hc := Lib.hid (node_no h0 hn hlen)
    rw [hM.out]
    have d0 : W0.cell? ⟨w.heap.size, 0, none⟩ = some (.int .i64 0) := hB0.cell 0
    have e0 : W0.frozen? ⟨w.heap.size, 0, none⟩ = false := hB0.frozen 0
    have d1 : W0.cell? ⟨w.heap.size, 1, none⟩ = some (.int .i64 0) := hB0.cell 1
    have e1 : W0.frozen? ⟨w.heap.size, 1, none⟩ = false := hB0.frozen 1
    have d2 : W0.cell? ⟨w.heap.size, 2, none⟩ = some (.int .i64 0) := hB0.cell 2
    have e2 : W0.frozen? ⟨w.heap.size, 2, none⟩ = false := hB0.frozen 2
    have d3 : W0.cell? ⟨w.heap.size, 3, none⟩ = some (.int .i64 0) := hB0.cell 3
    have e3 : W0.frozen? ⟨w.heap.size, 3, none⟩ = false := hB0.frozen 3
    have d4 : W0.cell? ⟨w.heap.size, 4, none⟩ = some (.int .i64 0) := hB0.cell 4
    have e4 : W0.frozen? ⟨w.heap.size, 4, none⟩ = false := hB0.frozen 4
    clear h hf hn hM h0 hW0 hb0 hB0
    go_enter Tryz.func148, Tryz.ntmps148
    go_wp2_with (first | rw [hW0H.out] | (go_at_call 58; refine hc.out.mono ?_; rintro e w' ⟨rfl, rfl⟩))
    (try simp only [Exit.inBlock, Exit.then])
    refine bodyPost_ret (results_cell_row2 rfl _ _ w.heap.size 41 _ _ rfl (put5_blk hB0H.out _ _ _ _ _) Tryz.underlying41 rfl (by kernel_rfl)) rfl ?_
    exact ⟨rfl, put5_below hb0H.out _ _ _ _ _⟩
  | some I =>
    have hM : Hid (StatM f n = (stA n I, 0)) := Lib.hid (by unfold StatM; rw [hn])
    obtain ⟨i, q, rfl, hil, hi, hq, dv, ev, hA⟩ := node_where h0 hn
    rw [hM.out]
    have hc := Lib.hid (node_yes h0 hq hlen)
    have hz := Lib.hid (fun (W : World) (hb : Below W0.heap.size W0 W) => size_any (hA.below hb))
    have c0 : W0.cell? ⟨q, 0, none⟩ = some (.int .i64 I.kind) := hA.blk.cell 0
    have c1 : W0.cell? ⟨q, 1, none⟩ = some (.int .i64 I.mode) := hA.blk.cell 1
    have c2 : W0.cell? ⟨q, 2, none⟩ = some (.int .i64 I.links) := hA.blk.cell 2
    have d0 : W0.cell? ⟨w.heap.size, 0, none⟩ = some (.int .i64 0) := hB0.cell 0
    have d1 : W0.cell? ⟨w.heap.size, 1, none⟩ = some (.int .i64 0) := hB0.cell 1
    have d2 : W0.cell? ⟨w.heap.size, 2, none⟩ = some (.int .i64 0) := hB0.cell 2
    have d3 : W0.cell? ⟨w.heap.size, 3, none⟩ = some (.int .i64 0) := hB0.cell 3
    have d4 : W0.cell? ⟨w.heap.size, 4, none⟩ = some (.int .i64 0) := hB0.cell 4
    have e0 : W0.frozen? ⟨w.heap.size, 0, none⟩ = false := hB0.frozen 0
    have e1 : W0.frozen? ⟨w.heap.size, 1, none⟩ = false := hB0.frozen 1
    have e2 : W0.frozen? ⟨w.heap.size, 2, none⟩ = false := hB0.frozen 2
    have e3 : W0.frozen? ⟨w.heap.size, 3, none⟩ = false := hB0.frozen 3
    have e4 : W0.frozen? ⟨w.heap.size, 4, none⟩ = false := hB0.frozen 4
    have hbd := below_drew (Below.refl W0.heap.size W0)
    have mixed : Tryz.prog.follows .mixedOrders = true := by kernel_rfl
    clear h hf hn hM hi hq hA h0 hW0 hb0 hB0
    go_enter Tryz.func148, Tryz.ntmps148
    go_wp2_with (first | rw [hW0H.out] | (go_at_call 58; refine hc.out.mono ?_; rintro e w' ⟨rfl, rfl⟩))
    go_still_tail 16, mixed
    still_call (hz.out _ hbd)
    repeat still_step
    refine wpStill_nil ?_
    change wpList _ _ _ _ _ (World.drew _)
    go_wp2
    (try simp only [Exit.inBlock, Exit.then])
    refine bodyPost_ret (results_cell_row2 rfl _ _ w.heap.size 41 _ _ rfl (put5_blk hB0H.out _ _ _ _ _) Tryz.underlying41 rfl (by kernel_rfl)) rfl ?_
    exact ⟨rfl, below_drew (put5_below hb0H.out _ _ _ _ _)⟩
end
end Go.Proofs.YtmilagppbepnbaaGreat
/- named; unlink. Condition: the tree lies as stated. -/
namespace Go.Proofs.YtmilagppbepnbaaGreat
open Go.RowKit Go.Shelf Go.PlainAid
attribute [local go_sem] Oper.semAt_some
/-- What an entry of a walked way names lives. -/
theorem look_live {f : Fs} (hc : Closed f) {dir : Int} {s : ByteArray} (h : (aheadM f dir s).2.2 = 0) {I : Ino} (hI : node f (aheadM f dir s).1 = some I) (hl : lookM I.ents (aheadM f dir s).2.1 ≠ 0) : (node f (lookM I.ents (aheadM f dir s).2.1 : Nat)).isSome := by
  obtain ⟨D, hD, hd, hm, h1, h2, h3, h4⟩ := ahead_live h
  obtain rfl : I = D := Option.some.inj (hI.symm.trans hD)
  have he : enterM f (aheadM f dir s).1 = 0 := by
    unfold enterM
    rw [hI]
    dsimp only
    rw [if_pos hd, if_pos hm]
  have hs : stepM f (aheadM f dir s).1 (aheadM f dir s).2.1 = (((lookM I.ents (aheadM f dir s).2.1 : Nat) : Int), 0) := by
    unfold stepM
    rw [if_neg (fun h => h he), hI]
    dsimp only
    rw [if_neg h2, if_neg h3, if_neg (by omega), if_neg hl]
  have h9 := hc.2 (aheadM f dir s).1 (aheadM f dir s).2.1 (by rw [hI]; rfl) (by rw [hs])
  rw [hs] at h9
  exact h9
end Go.Proofs.YtmilagppbepnbaaGreat
/- unlink. Condition: the tree lies as stated. -/
namespace Go.Proofs.YtmilagppbepnbaaGreat
open Go.RowKit Go.Shelf Go.PlainAid
attribute [local go_sem] Oper.semAt_some
end Go.Proofs.YtmilagppbepnbaaGreat
/- Unlink, Rmdir. Condition: the tree lies as stated. -/
namespace Go.Proofs.YtmilagppbepnbaaGreat
open Go.RowKit Go.Shelf Go.PlainAid
attribute [local go_sem] Oper.semAt_some
def UnlinkM (f : Fs) (dir : Int) (s : ByteArray) : Nat × Fs :=
  if (namedM f dir s).2.2.2 ≠ 0 then ((namedM f dir s).2.2.2, f) else match node f (namedM f dir s).2.2.1, node f (namedM f dir s).1 with
  | some J, some D => if (slashed s && !J.isDir) = true then (20, f) else if J.isDir = true then (21, f) else if D.may 2 = true then (0, unlinkM f (namedM f dir s).1.toNat (namedM f dir s).2.1) else (13, f)
  | _, _ => (2, f)
def RmdirM (f : Fs) (dir : Int) (s : ByteArray) : Nat × Fs :=
  if (namedM f dir s).2.2.2 ≠ 0 then ((namedM f dir s).2.2.2, f) else match node f (namedM f dir s).2.2.1, node f (namedM f dir s).1 with
  | some J, some D => if J.isDir = true then (if 0 < J.ents.length then (39, f) else if D.may 2 = true then (0, unlinkM f (namedM f dir s).1.toNat (namedM f dir s).2.1) else (13, f)) else (20, f)
  | _, _ => (2, f)
theorem named_ok {f : Fs} (hc : Closed f) {dir : Int} {s : ByteArray} (h : (namedM f dir s).2.2.2 = 0) : ∃ (i : Nat) (D : Ino) (j : Nat) (J : Ino) (x : ByteArray), namedM f dir s = ((i : Int) + 1, x, j + 1, 0) ∧ f[i]? = some (some D) ∧ D.isDir = true ∧ f[j]? = some (some J) ∧ lookM D.ents x = j + 1 := by
  unfold namedM at h ⊢
  cases hd : isDir f dir with
  | false => rw [hd] at h; cases h
  | true =>
    rw [hd] at h
    rw [if_neg (by decide)] at h ⊢
    by_cases h1 : (aheadM f dir s).2.2 = 0
    · rw [if_neg (fun h => h h1)] at h ⊢
      obtain ⟨D, hD, hdd, _⟩ := ahead_live h1
      rw [hD] at h ⊢
      dsimp only at h ⊢
      by_cases h2 : lookM D.ents (aheadM f dir s).2.1 = 0
      · rw [if_pos h2] at h; cases h
      · rw [if_neg h2]
        obtain ⟨J, hJ⟩ := Option.isSome_iff_exists.1 (look_live hc h1 hD h2)
        obtain ⟨i, hn, _, hi⟩ := node_some hD
        obtain ⟨j, hk, _, hj⟩ := node_some hJ
        have hk' : lookM D.ents (aheadM f dir s).2.1 = j + 1 := by omega
        exact ⟨i, D, j, J, (aheadM f dir s).2.1, by rw [hk', hn], hi, hdd, hj, hk'⟩
    · rw [if_pos h1] at h
      exact absurd h h1
end Go.Proofs.YtmilagppbepnbaaGreat
/- Link. Condition: the tree lies as stated. -/
namespace Go.Proofs.YtmilagppbepnbaaGreat
open Go.RowKit Go.Shelf Go.PlainAid
attribute [local go_sem] Oper.semAt_some
theorem WalkM_dir {f : Fs} {dir : Int} {s : ByteArray} (h : (WalkM f dir s).2 = 0) : isDir f dir = true := by
  unfold WalkM at h
  cases hd : isDir f dir with
  | false => rw [hd] at h; cases h
  | true => rfl
theorem walk_live {f : Fs} (hc : Closed f) {dir : Int} {s : ByteArray} (h : (WalkM f dir s).2 = 0) : (node f (WalkM f dir s).1).isSome := by
  have hd := WalkM_dir h
  unfold WalkM at h ⊢
  rw [if_pos hd] at h ⊢
  unfold walkM at h ⊢
  split at h
  · contradiction
  · rename_i h0
    rw [if_neg h0]
    split at h
    · contradiction
    · rename_i h1
      rw [if_neg h1]
      split at h
      · cases h
      · rename_i h2
        rw [if_neg h2]
        exact steps_live hc _ _ (begin_live hc (isDir_live hd) s (by omega)) (by omega)
def LinkM (f : Fs) (dir : Int) (s t : ByteArray) : Nat × Fs :=
  if (WalkM f dir s).2 ≠ 0 then ((WalkM f dir s).2, f) else if isDir f (WalkM f dir s).1 = true then (21, f)
  else if (aheadM f dir t).2.2 ≠ 0 then ((aheadM f dir t).2.2, f) else if slashed t = true then (21, f)
  else if mayAddM f (aheadM f dir t).1 (aheadM f dir t).2.1 ≠ 0 then (mayAddM f (aheadM f dir t).1 (aheadM f dir t).2.1, f)
  else (0, setLinks (setEnts f (aheadM f dir t).1.toNat (fun l => addM l (aheadM f dir t).2.1 (WalkM f dir s).1.toNat)) (WalkM f dir s).1.toNat (· + 1))
end Go.Proofs.YtmilagppbepnbaaGreat
/- holds: up the parents. Condition: the tree lies as stated; the parents lead to the root. -/
namespace Go.Proofs.YtmilagppbepnbaaGreat
open Go.RowKit Go.Shelf Go.PlainAid
attribute [local go_sem] Oper.semAt_some
/-- The parents lead to the root in d steps. -/
inductive Deep (f : Fs) : Nat → Nat → Prop
  | root : Deep f 0 1
  | up (d n : Nat) (I : Ino) (h1 : n ≠ 1) (hn : node f (n : Int) = some I) (h : Deep f d I.parent) : Deep f (d + 1) n
theorem Deep.uniq {f : Fs} {d n : Nat} (h : Deep f d n) : ∀ {e : Nat}, Deep f e n → d = e := by
  induction h with
  | root =>
    intro e h
    cases h with
    | root => rfl
    | up _ _ _ h1 _ _ => exact absurd rfl h1
  | up d n I h1 hn h ih =>
    intro e k
    cases k with
    | root => exact absurd rfl h1
    | up e' _ J _ hn' k' =>
      rw [hn] at hn'
      cases hn'
      rw [ih k']
open Classical in
noncomputable def dep (f : Fs) (n : Nat) : Nat := if h : ∃ d, Deep f d n then Classical.choose h else 0
theorem dep_eq {f : Fs} {d n : Nat} (h : Deep f d n) : dep f n = d := by
  have hx : ∃ d, Deep f d n := ⟨d, h⟩
  unfold dep
  rw [dif_pos hx]
  exact ((Classical.choose_spec hx).uniq h)
/-- Is one directory another, or above it? -/
def holdsM (f : Fs) : Nat → Nat → Nat → Bool
  | 0, a, n => n == a
  | d + 1, a, n => if n = a then true else match node f (n : Int) with
    | none => false
    | some I => holdsM f d a I.parent
end Go.Proofs.YtmilagppbepnbaaGreat
/- mayReplace. Condition: the tree lies as stated; the parents lead to the root. -/
namespace Go.Proofs.YtmilagppbepnbaaGreat
open Go.RowKit Go.Shelf Go.PlainAid
attribute [local go_sem] Oper.semAt_some
def fullM (f : Fs) (n : Nat) : Bool := match node f (n : Int) with
  | none => false
  | some I => decide (0 < I.ents.length)
def mayReplaceM (f : Fs) (d a old t : Nat) : Nat :=
  if old = 0 then (if isDir f a = true then (if holdsM f d a t = true then 22 else 0) else 0)
  else if isDir f a = true then (if isDir f old = true then (if holdsM f d a t = true then 22 else if fullM f old = true then 39 else 0) else 20)
  else if isDir f old = true then 21 else if fullM f old = true then 39 else 0
end Go.Proofs.YtmilagppbepnbaaGreat
/- List. Condition: the tree lies as stated. -/
namespace Go.Proofs.YtmilagppbepnbaaGreat
open Go.RowKit Go.Shelf Go.PlainAid
attribute [local go_sem] Oper.semAt_some
def ListM (f : Fs) (n : Int) : List ByteArray × Nat := match node f n with
  | none => ([], 9)
  | some I => if I.isDir = true then (nms I.ents, 0) else ([], 20)
end Go.Proofs.YtmilagppbepnbaaGreat
/- The tree's entries, without a tree; joined at none. No condition. -/
namespace Go.Proofs.YtmilagppbepnbaaGreat
open Go.RowKit Go.Shelf Go.PlainAid
attribute [local go_sem] Oper.semAt_some
end Go.Proofs.YtmilagppbepnbaaGreat
/- unlink, with the other slots' pointers kept. Condition: the tree lies as stated. -/
namespace Go.Proofs.YtmilagppbepnbaaGreat
open Go.RowKit Go.Shelf Go.PlainAid
attribute [local go_sem] Oper.semAt_some
end Go.Proofs.YtmilagppbepnbaaGreat
/- Rename's tail. Condition: the tree lies as stated. -/
namespace Go.Proofs.YtmilagppbepnbaaGreat
open Go.RowKit Go.Shelf Go.PlainAid
attribute [local go_sem] Oper.semAt_some
/-- An entry goes from one directory to another; what it names has a new parent. -/
def renM (f : Fs) (n : Nat) (x : ByteArray) (t : Nat) (y : ByteArray) (k : Nat) : Fs := modN (setEnts (setEnts f n (fun l => remM l x)) t (fun l => addM l y k)) k (fun I => { I with parent := t })
theorem setEnts_live {f : Fs} {i j : Nat} {D J : Ino} (hi : f[i]? = some (some D)) (hj : f[j]? = some (some J)) (g : Ents → Ents) : ∃ J1, (setEnts f (i + 1) g)[j]? = some (some J1) := by
  rw [setEnts_at hi]
  by_cases e : i = j
  · subst e
    exact ⟨_, List.getElem?_set_self (List.getElem?_eq_some_iff.1 hi).1⟩
  · exact ⟨J, by rw [List.getElem?_set_ne e]; exact hj⟩
theorem setEnts_len {f : Fs} {i : Nat} {D : Ino} (hi : f[i]? = some (some D)) (g : Ents → Ents) : (setEnts f (i + 1) g).length = f.length := by rw [setEnts_at hi, List.length_set]
end Go.Proofs.YtmilagppbepnbaaGreat
/- What unlink leaves of the plain tree. No condition. -/
namespace Go.Proofs.YtmilagppbepnbaaGreat
open Go.RowKit
theorem rem_sub (l : Ents) (x : ByteArray) : (remM l x).Sublist l := by
  unfold remM
  split
  · exact List.eraseIdx_sublist ..
  · exact List.Sublist.refl _
theorem setEnts_get {f : Fs} {i : Nat} {D : Ino} (hi : f[i]? = some (some D)) (g : Ents → Ents) (k : Nat) : (setEnts f (i + 1) g)[k]? = if k = i then some (some { D with ents := g D.ents }) else f[k]? := by
  rw [setEnts_at hi]
  by_cases e : k = i
  · subst e
    rw [if_pos rfl, List.getElem?_set_self (List.getElem?_eq_some_iff.1 hi).1]
  · rw [if_neg e, List.getElem?_set_ne (fun h => e h.symm)]
theorem relM_get {f : Fs} {j : Nat} {J : Ino} (hj : f[j]? = some (some J)) {k : Nat} (hk : k ≠ j) : (relM f (j + 1))[k]? = f[k]? := by
  rw [relM_at hj]
  split
  · rw [List.getElem?_set_ne (fun h => hk h.symm)]
  · rfl
theorem relM_len {f : Fs} {j : Nat} {J : Ino} (hj : f[j]? = some (some J)) : (relM f (j + 1)).length = f.length := by
  rw [relM_at hj]
  split
  · rw [List.length_set]
  · rfl
section
variable {f : Fs} {i j : Nat} {D J : Ino} {x : ByteArray}
theorem unlinkM_eq (hi : f[i]? = some (some D)) (hx : lookM D.ents x = j + 1) : unlinkM f (i + 1) x = relM (setLinks (setEnts f (i + 1) (fun l => remM l x)) (j + 1) (· - 1)) (j + 1) := by
  unfold unlinkM
  rw [show ((i + 1 : Nat) : Int) = (i : Int) + 1 by omega, node_at hi]
  dsimp only
  rw [hx]
/-- Behind unlink all other slots but the directory's are as they were. -/
theorem unlinkM_get (hi : f[i]? = some (some D)) (hj : f[j]? = some (some J)) (hx : lookM D.ents x = j + 1) {k : Nat} (hk : k ≠ j) : (unlinkM f (i + 1) x)[k]? = if k = i then some (some { D with ents := remM D.ents x }) else f[k]? := by
  obtain ⟨J1, hJ1⟩ := setEnts_live hi hj (fun l => remM l x)
  have hl : (setEnts f (i + 1) (fun l => remM l x))[j]? = some (some J1) := hJ1
  rw [unlinkM_eq hi hx, setLinks_at hl, relM_get (List.getElem?_set_self (List.getElem?_eq_some_iff.1 hl).1) hk, List.getElem?_set_ne (fun h => hk h.symm), setEnts_get hi]
theorem unlinkM_len (hi : f[i]? = some (some D)) (hj : f[j]? = some (some J)) (hx : lookM D.ents x = j + 1) : (unlinkM f (i + 1) x).length = f.length := by
  obtain ⟨J1, hJ1⟩ := setEnts_live hi hj (fun l => remM l x)
  rw [unlinkM_eq hi hx, setLinks_at hJ1, relM_len (List.getElem?_set_self (List.getElem?_eq_some_iff.1 hJ1).1), List.length_set, setEnts_len hi]
end
end Go.Proofs.YtmilagppbepnbaaGreat
/- Rename. Condition: the tree lies as stated; the parents lead to the root. -/
namespace Go.Proofs.YtmilagppbepnbaaGreat
open Go.RowKit Go.Shelf Go.PlainAid
attribute [local go_sem] Oper.semAt_some
noncomputable def ren3 (f : Fs) (n : Nat) (x : ByteArray) (k e : Nat) (E : Ino) (y : ByteArray) : Nat × Fs :=
  if k = lookM E.ents y then (0, f) else if mayReplaceM f (dep f e) k (lookM E.ents y) e ≠ 0 then (mayReplaceM f (dep f e) k (lookM E.ents y) e, f)
  else (0, renM (if lookM E.ents y = 0 then f else unlinkM f e y) n x e y k)
noncomputable def ren2 (f : Fs) (n : Nat) (D : Ino) (x : ByteArray) (k : Nat) (J : Ino) (st : Bool) (e : Nat) (E : Ino) (y : ByteArray) : Nat × Fs :=
  if (st && !J.isDir) = true then (20, f) else if E.links = 0 then (2, f) else if (D.may 2 && E.may 2) = true then ren3 f n x k e E y else (13, f)
noncomputable def ren1 (f : Fs) (n : Nat) (D : Ino) (x : ByteArray) (k : Nat) (J : Ino) (ss st : Bool) (a : Int × ByteArray × Nat) : Nat × Fs :=
  if (ss && !J.isDir) = true then (20, f) else if a.2.2 ≠ 0 then (a.2.2, f) else match node f a.1 with
  | none => (2, f)
  | some E => ren2 f n D x k J st a.1.toNat E a.2.1
noncomputable def RenameM (f : Fs) (dir : Int) (s t : ByteArray) : Nat × Fs :=
  if (namedM f dir s).2.2.2 ≠ 0 then ((namedM f dir s).2.2.2, f) else match node f (namedM f dir s).2.2.1, node f (namedM f dir s).1 with
  | some J, some D => ren1 f (namedM f dir s).1.toNat D (namedM f dir s).2.1 (namedM f dir s).2.2.1 J (slashed s) (slashed t) (aheadM f dir t)
  | _, _ => (2, f)
end Go.Proofs.YtmilagppbepnbaaGreat
/- Rename to a new name. Condition: the tree lies as stated; the parents lead to the root. -/
namespace Go.Proofs.YtmilagppbepnbaaGreat
open Go.RowKit Go.Shelf Go.PlainAid
attribute [local go_sem] Oper.semAt_some
end Go.Proofs.YtmilagppbepnbaaGreat
/- Rename over what is there. Condition: the tree lies as stated; the parents lead to the root. -/
namespace Go.Proofs.YtmilagppbepnbaaGreat
open Go.RowKit Go.Shelf Go.PlainAid
attribute [local go_sem] Oper.semAt_some
end Go.Proofs.YtmilagppbepnbaaGreat
/- Rename: ways out. Condition: the tree lies as stated. -/
namespace Go.Proofs.YtmilagppbepnbaaGreat
open Go.RowKit Go.Shelf Go.PlainAid
attribute [local go_sem] Oper.semAt_some
set_option linter.unusedVariables false
end Go.Proofs.YtmilagppbepnbaaGreat
/- Rename: the ways out ahead. Condition: the tree lies as stated. -/
namespace Go.Proofs.YtmilagppbepnbaaGreat
open Go.RowKit Go.Shelf Go.PlainAid
attribute [local go_sem] Oper.semAt_some
set_option linter.unusedVariables false
end Go.Proofs.YtmilagppbepnbaaGreat
