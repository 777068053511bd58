/- Chmod, Hold, Drop, May, Stat. Condition: the tree lies as stated. -/
import Derived.Test.YtohgecmbkjienaaFlAI
namespace Go.Proofs.Ytohgecmbkjienaa
open Go.RowKit Go.Shelf Go.PlainAid
attribute [local go_sem] Oper.semAt_some
def ChmodM (f : Fs) (n m : Int) : Nat × Fs := match node f n with
  | none => (9, f)
  | some _ => (0, modN f n (fun I => { I with mode := modeM m }))
def HoldM (f : Fs) (n : Int) : Nat × Fs := match node f n with
  | none => (9, f)
  | some _ => (0, modN f n (fun I => { I with holds := I.holds + 1 }))
def DropM (f : Fs) (n : Int) : Nat × Fs := match node f n with
  | none => (9, f)
  | some I => if I.holds = 0 then (22, f) else (0, relM (modN f n (fun I => { I with holds := I.holds - 1 })) n.toNat)
def MayM (f : Fs) (n want : Int) : Bool := match node f n with
  | none => false
  | some I => decide (1 ≤ want) && decide (want ≤ 7) && I.may want
section
variable {w : World} {B : Nat → Nat → Prop} {p : Nat} {f : Fs} {sv : Value} {ps : List (Option Nat)}
theorem chmod_any (h : FsAt w B p f sv ps) (hf : FineF f) (n m : Int) : Calls Try.prog 35 #[.pointer (some ⟨p, 0, none⟩), .int .i64 n, .int .i64 m] w fun e w' => e = .returned (.int .i64 (ChmodM f n m).1) ∧ FsP (All B) w w' p (ChmodM f n m).2 := by
  have hlen : f.length ≤ 100000 := by have := hf.1; omega
  cases hn : node f n with
  | none =>
    have hM : Hid (ChmodM f n m = (9, f)) := Lib.hid (by unfold ChmodM; rw [hn])
    have hc := Lib.hid (node_no h hn hlen)
    have hP := Lib.hid h.same
    rw [hM.out]
    clear h hf hn hM
    go_enter Try.func35, Try.ntmps35
    go_wp2_with (go_at_call 38; refine hc.out.mono ?_; rintro e w' ⟨rfl, rfl⟩)
    go_ret
    exact ⟨rfl, hP.out⟩
  | some I =>
    have hM : Hid (ChmodM f n m = (0, modN f n (fun I => { I with mode := modeM m }))) := Lib.hid (by unfold ChmodM; rw [hn])
    obtain ⟨i, q, rfl, hil, hi, hq, dv, ev, hA⟩ := node_where h hn
    rw [hM.out]
    have hc := Lib.hid (node_yes h hq hlen)
    have hP := Lib.hid (h.turnP hil hq (hA.field (Below.refl _ _) 1 (.int .i64 (modeM m)) { I with mode := modeM m } rfl rfl rfl))
    have c1 : w.cell? ⟨q, 1, none⟩ = some (.int .i64 I.mode) := hA.blk.cell 1
    have f1 : w.frozen? ⟨q, 1, none⟩ = false := hA.blk.frozen 1
    rw [modN_at hi]
    clear h hf hn hM hi hq hA
    go_enter Try.func35, Try.ntmps35
    go_wp2_with (go_at_call 38; refine hc.out.mono ?_; rintro e w' ⟨rfl, rfl⟩)
    go_ret
    exact ⟨rfl, hP.out⟩
theorem hold_any (h : FsAt w B p f sv ps) (hf : FineF f) (n : Int) : Calls Try.prog 19 #[.pointer (some ⟨p, 0, none⟩), .int .i64 n] w fun e w' => e = .returned (.int .i64 (HoldM f n).1) ∧ FsP (All B) w w' p (HoldM f n).2 := by
  have hlen : f.length ≤ 100000 := by have := hf.1; omega
  cases hn : node f n with
  | none =>
    have hM : Hid (HoldM f n = (9, f)) := Lib.hid (by unfold HoldM; rw [hn])
    have hc := Lib.hid (node_no h hn hlen)
    have hP := Lib.hid h.same
    rw [hM.out]
    clear h hf hn hM
    go_enter Try.func19, Try.ntmps19
    go_wp2_with (go_at_call 38; refine hc.out.mono ?_; rintro e w' ⟨rfl, rfl⟩)
    go_ret
    exact ⟨rfl, hP.out⟩
  | some I =>
    have hM : Hid (HoldM f n = (0, modN f n (fun I => { I with holds := I.holds + 1 }))) := Lib.hid (by unfold HoldM; rw [hn])
    obtain ⟨i, q, rfl, hil, hi, hq, dv, ev, hA⟩ := node_where h hn
    rw [hM.out]
    have hc := Lib.hid (node_yes h hq hlen)
    have hh := (hf.2 i I hi).hl
    have hP := Lib.hid (h.turnP hil hq (hA.field (Below.refl _ _) 3 (.int .i64 ((I.holds + 1 : Nat) : Int)) { I with holds := I.holds + 1 } rfl rfl rfl))
    rw [show ((I.holds + 1 : Nat) : Int) = (I.holds : Int) + 1 by omega] at hP
    have c1 : w.cell? ⟨q, 3, none⟩ = some (.int .i64 I.holds) := hA.blk.cell 3
    have f1 : w.frozen? ⟨q, 3, none⟩ = false := hA.blk.frozen 3
    rw [modN_at hi]
    clear h hf hn hM hi hq hA
    go_enter Try.func19, Try.ntmps19
    go_wp2_with (go_at_call 38; refine hc.out.mono ?_; rintro e w' ⟨rfl, rfl⟩)
    go_ret
    exact ⟨rfl, hP.out⟩
theorem may_fs (h : FsAt w B p f sv ps) (hf : FineF f) (n want : Int) : Calls Try.prog 22 #[.pointer (some ⟨p, 0, none⟩), .int .i64 n, .int .i64 want] w fun e w' => e = .returned (.bool (MayM f n want)) ∧ w' = w := by
  have hlen : f.length ≤ 100000 := by have := hf.1; omega
  cases hn : node f n with
  | none =>
    have hM : Hid (MayM f n want = false) := Lib.hid (by unfold MayM; rw [hn])
    have hc := Lib.hid (node_no h hn hlen)
    rw [hM.out]
    clear h hf hn hM
    go_enter Try.func22, Try.ntmps22
    go_wp2_with (go_at_call 38; refine hc.out.mono ?_; rintro e w' ⟨rfl, rfl⟩)
    go_ret
    exact ⟨rfl, rfl⟩
  | some I =>
    have hM : Hid (MayM f n want = (decide (1 ≤ want) && decide (want ≤ 7) && I.may want)) := Lib.hid (by unfold MayM; rw [hn])
    obtain ⟨i, q, rfl, hil, hi, hq, dv, ev, hA⟩ := node_where h hn
    rw [hM.out]
    have hc := Lib.hid (node_yes h hq hlen)
    have hm := Lib.hid (may_any hA want)
    clear h hf hn hM hi hq hA
    by_cases h1 : 1 ≤ want
    · by_cases h2 : want ≤ 7
      · rw [decide_eq_true h1, decide_eq_true h2, Bool.true_and, Bool.true_and]
        go_enter Try.func22, Try.ntmps22
        go_wp2_with (first | (go_at_call 38; refine hc.out.mono ?_; rintro e w' ⟨rfl, rfl⟩) | (go_at_call 48; refine hm.out.mono ?_; rintro e w' ⟨rfl, rfl⟩))
        go_ret
        exact ⟨rfl, rfl⟩
      · rw [decide_eq_true h1, decide_eq_false h2, Bool.true_and, Bool.false_and]
        go_enter Try.func22, Try.ntmps22
        go_wp2_with (first | (go_at_call 38; refine hc.out.mono ?_; rintro e w' ⟨rfl, rfl⟩) | (go_at_call 48; refine hm.out.mono ?_; rintro e w' ⟨rfl, rfl⟩))
        go_ret
        exact ⟨rfl, rfl⟩
    · rw [decide_eq_false h1, Bool.false_and, Bool.false_and]
      go_enter Try.func22, Try.ntmps22
      go_wp2_with (first | (go_at_call 38; refine hc.out.mono ?_; rintro e w' ⟨rfl, rfl⟩) | (go_at_call 48; refine hm.out.mono ?_; rintro e w' ⟨rfl, rfl⟩))
      go_ret
      exact ⟨rfl, rfl⟩
end
end Go.Proofs.Ytohgecmbkjienaa
