/- What is closed; awake's trees. No condition. -/
import Derived.Test.YtmilagppbepnbaaGreatGFb
import Derived.Laws.ResultCell
import Derived.Laws.Rows
import Derived.StillTailTactics
namespace Go.Proofs.YtmilagppbepnbaaGreat
open Go.RowKit Go.Shelf Go.PlainAid
theorem closed_of {f : Fs} (h1 : (node f 1).isSome) (h : ∀ (i : Nat) I, f[i]? = some (some I) → (0 < I.links → I.parent ≠ 0 → (node f (I.parent : Int)).isSome) ∧ ∀ e ∈ I.ents, e.2 ≠ 0 → (node f (e.2 : Int)).isSome) : Closed f := by
  refine ⟨h1, fun n x hn hs => ?_⟩
  obtain ⟨I, hI⟩ := Option.isSome_iff_exists.1 hn
  obtain ⟨i, _, _, hi⟩ := node_some hI
  obtain ⟨ha, hb⟩ := h i I hi
  unfold stepM at hs ⊢
  rw [hI] at hs ⊢
  by_cases e1 : enterM f n = 0
  · rw [if_neg (fun h => h e1)] at hs ⊢
    dsimp only at hs ⊢
    by_cases e2 : x = dotT
    · rw [if_pos e2] at hs ⊢
      by_cases e3 : n = 0
      · rw [if_pos e3] at hs
        cases hs
      · rw [if_neg e3]
        exact hn
    · rw [if_neg e2] at hs ⊢
      by_cases e3 : x = dotsT
      · rw [if_pos e3] at hs ⊢
        by_cases e4 : 0 < I.links ∧ I.parent ≠ 0
        · rw [if_pos e4]
          exact ha e4.1 e4.2
        · rw [if_neg e4] at hs
          cases hs
      · rw [if_neg e3] at hs ⊢
        by_cases e4 : 32 < x.size
        · rw [if_pos e4] at hs
          cases hs
        · rw [if_neg e4] at hs ⊢
          by_cases e5 : lookM I.ents x = 0
          · rw [if_pos e5] at hs
            cases hs
          · rw [if_neg e5]
            cases hh : has (nms I.ents) x with
            | false => exact absurd (lookM_no hh) e5
            | true =>
              obtain ⟨y, hy, _, hl⟩ := lookM_yes hh
              rw [hl] at e5 ⊢
              exact hb y (List.mem_of_getElem? hy) e5
  · rw [if_pos e1] at hs
    exact absurd hs e1
def dT : ByteArray := ⟨#[100]⟩
def dfT : ByteArray := ⟨#[100, 47, 102]⟩
def fT : ByteArray := ⟨#[102]⟩
def xT : ByteArray := ⟨#[120]⟩
def wT : ByteArray := ⟨#[47, 100, 47, 46, 47, 102]⟩
def aw1 : Fs := [some ⟨2, 493, 1, 0, [], [(dT, 2)], 1⟩, some ⟨2, 493, 1, 0, [], [], 1⟩]
def aw2 : Fs := [some ⟨2, 493, 1, 0, [], [(dT, 2)], 1⟩, some ⟨2, 493, 1, 0, [], [(fT, 3)], 1⟩, some ⟨1, 420, 1, 0, [], [], 0⟩]
def aw3 : Fs := [some ⟨2, 493, 1, 0, [], [(dT, 2)], 1⟩, some ⟨2, 493, 1, 0, [], [(fT, 3)], 1⟩, some ⟨1, 420, 1, 0, [0, 0, 120], [], 0⟩]
theorem aw1_is : MkdirM newM 1 dT 493 = (2, 0, aw1) := by kernel_rfl
theorem aw2_is : CreateM aw1 1 dfT 420 = (3, 0, aw2) := by kernel_rfl
theorem aw3_is : WriteM aw2 3 2 xT = (1, 0, aw3) := by kernel_rfl
theorem aw4_is : WalkM aw3 1 wT = (3, 0) := by kernel_rfl
theorem aw5_is : bytesM aw3 = 3 := by kernel_rfl
def fineB (I : Ino) : Bool := decide ((nms I.ents).Pairwise (fun a b => lt a b = true)) && decide (I.ents.length ≤ 10000) && decide (I.data.length ≤ 70000) && decide (I.links ≤ 10000) && decide (I.holds ≤ 10000)
theorem fine_of {I : Ino} (h : fineB I = true) : Fine I := by
  unfold fineB at h
  simp only [Bool.and_eq_true, decide_eq_true_eq] at h
  exact ⟨h.1.1.1.1, h.1.1.1.2, h.1.1.2, h.1.2, h.2⟩
def goodB (f : Fs) : Bool := decide (f.length ≤ 9000) && (node f 1).isSome && f.all fun
  | none => true
  | some I => fineB I && (decide (I.links = 0) || decide (I.parent = 0) || (node f (I.parent : Int)).isSome) && I.ents.all fun e => decide (e.2 = 0) || (node f (e.2 : Int)).isSome
theorem good_of {f : Fs} (h : goodB f = true) : FineF f ∧ Closed f ∧ f.length ≤ 9000 := by
  unfold goodB at h
  simp only [Bool.and_eq_true, decide_eq_true_eq, List.all_eq_true] at h
  obtain ⟨⟨h1, h2⟩, h3⟩ := h
  have h4 : ∀ (i : Nat) I, f[i]? = some (some I) → (fineB I = true ∧ (decide (I.links = 0) || decide (I.parent = 0) || (node f (I.parent : Int)).isSome) = true) ∧ ∀ e ∈ I.ents, (decide (e.2 = 0) || (node f (e.2 : Int)).isSome) = true := fun i I hi => by
    have h5 := h3 (some I) (List.mem_of_getElem? hi)
    simpa only [Bool.and_eq_true, List.all_eq_true] using h5
  refine ⟨⟨by omega, fun i I hi => fine_of (h4 i I hi).1.1⟩, closed_of h2 (fun i I hi => ⟨fun k1 k2 => ?_, fun e he k => ?_⟩), h1⟩
  · have h5 := (h4 i I hi).1.2
    simp only [Bool.or_eq_true, decide_eq_true_eq] at h5
    rcases h5 with (h5 | h5) | h5
    · omega
    · exact absurd h5 k2
    · exact h5
  · have h5 := (h4 i I hi).2 e he
    simp only [Bool.or_eq_true, decide_eq_true_eq] at h5
    rcases h5 with h5 | h5
    · exact absurd h5 k
    · exact h5
theorem new_good : FineF newM ∧ Closed newM ∧ newM.length ≤ 9000 := good_of (by kernel_rfl)
theorem aw1_good : FineF aw1 ∧ Closed aw1 ∧ aw1.length ≤ 9000 := good_of (by kernel_rfl)
theorem aw2_good : FineF aw2 ∧ Closed aw2 ∧ aw2.length ≤ 9000 := good_of (by kernel_rfl)
theorem aw3_good : FineF aw3 ∧ Closed aw3 ∧ aw3.length ≤ 9000 := good_of (by kernel_rfl)

/-- A tree of the call's own. -/
def Own (w0 w : World) (p : Nat) (f : Fs) : Prop := FsP (fun _ => False) w0 w p f
theorem Own.step {w0 w w' : World} {p : Nat} {f f' : Fs} (h : Own w0 w p f) (k : ∀ B sv ps, FsAt w B p f sv ps → FsP (All B) w w' p f') : Own w0 w' p f' := by
  obtain ⟨B, ⟨sv, ps, h1⟩, h2, h3⟩ := h
  exact FsP.trans (fun g hg => h2 g hg) h3 (k B sv ps h1)
theorem Own.below {w0 w w' : World} {p : Nat} {f : Fs} (h : Own w0 w p f) (hb : Below w.heap.size w w') : Own w0 w' p f := h.step (fun _ _ _ h => FsP.of ⟨_, _, h⟩ hb)
theorem Own.toBelow {w0 w : World} {p : Nat} {f : Fs} (h : Own w0 w p f) : Below w0.heap.size w0 w := by
  obtain ⟨B, h1, h2, h3⟩ := h
  exact h3.toBelow (fun g hg => hg.elim) (Nat.le_refl _)
theorem Own.calls {w0 w : World} {p : Nat} {f f' : Fs} {F : Nat} {args : Array Value} {R : Ending} (h : Own w0 w p f) (k : ∀ B sv ps, FsAt w B p f sv ps → Calls Tryz.prog F args w fun e w' => e = R ∧ FsP (All B) w w' p f') : Calls Tryz.prog F args w fun e w' => e = R ∧ Own w0 w' p f' := by
  obtain ⟨B, ⟨sv, ps, h1⟩, h2, h3⟩ := h
  exact (k B sv ps h1).mono fun e w' h9 => ⟨h9.1, FsP.trans (fun g hg => h2 g hg) h3 h9.2⟩
theorem Own.reads {w0 w : World} {p : Nat} {f : Fs} {F : Nat} {args : Array Value} {R : Ending} (h : Own w0 w p f) (k : ∀ B sv ps, FsAt w B p f sv ps → Calls Tryz.prog F args w fun e w' => e = R ∧ Below w.heap.size w w') : Calls Tryz.prog F args w fun e w' => e = R ∧ Own w0 w' p f := by
  obtain ⟨B, ⟨sv, ps, h1⟩, h2, h3⟩ := h
  exact (k B sv ps h1).mono fun e w' h9 => ⟨h9.1, FsP.trans (fun g hg => h2 g hg) h3 (FsP.of ⟨_, _, h1⟩ h9.2)⟩
theorem new_own (w : World) : Calls Tryz.prog 27 #[] w fun e w' => e = .returned (.pointer (some ⟨w.heap.size, 0, none⟩)) ∧ Own w w' w.heap.size newM := new_any w
end Go.Proofs.YtmilagppbepnbaaGreat
/- All that is asked, without a tree. No condition. -/
namespace Go.Proofs.YtmilagppbepnbaaGreat
open Go.RowKit Go.Shelf Go.PlainAid
attribute [local go_sem] Oper.semAt_some
theorem results_tmp4 {fn : Func} {t u v x : Tmp} (h : fn.results = #[.tmp t, .tmp u, .tmp v, .tmp x]) (tmps : Array Value) (P : Program) (w : World) :
    (results fn tmps).run P w = .ok (.tuple #[tmps.getD t undef, tmps.getD u undef, tmps.getD v undef, tmps.getD x undef]) w := by
  simp [results, h]
theorem named_nil (dir : Int) (s : ByteArray) (w : World) : Calls Tryz.prog 206 #[.pointer none, .int .i64 dir, .string s] w fun e w' => e = .returned (.tuple #[.int .i64 0, .string ⟨#[]⟩, .pointer none, .int .i64 9]) ∧ w' = w := by
  go_enter Tryz.func206, Tryz.ntmps206
  go_wp2_with (go_at_call 130; refine (isDir_nil _ _).mono ?_; rintro e w' ⟨rfl, rfl⟩)
  (try simp only [Exit.inBlock, Exit.then])
  refine bodyPost_ret (results_tmp4 rfl _ _ _) rfl ?_
  exact ⟨rfl, rfl⟩
theorem Unlink_nil (dir : Int) (s : ByteArray) (w : World) : Calls Tryz.prog 150 #[.pointer none, .int .i64 dir, .string s] w fun e w' => e = .returned (.int .i64 9) ∧ w' = w := by
  go_enter Tryz.func150, Tryz.ntmps150
  go_wp2_with (go_at_call 206; refine (named_nil _ _ _).mono ?_; rintro e w' ⟨rfl, rfl⟩)
  go_ret
  exact ⟨rfl, rfl⟩
theorem Rmdir_nil (dir : Int) (s : ByteArray) (w : World) : Calls Tryz.prog 152 #[.pointer none, .int .i64 dir, .string s] w fun e w' => e = .returned (.int .i64 9) ∧ w' = w := by
  go_enter Tryz.func152, Tryz.ntmps152
  go_wp2_with (go_at_call 206; refine (named_nil _ _ _).mono ?_; rintro e w' ⟨rfl, rfl⟩)
  go_ret
  exact ⟨rfl, rfl⟩
theorem Rename_nil (dir : Int) (s t : ByteArray) (w : World) : Calls Tryz.prog 153 #[.pointer none, .int .i64 dir, .string s, .string t] w fun e w' => e = .returned (.int .i64 9) ∧ w' = w := by
  go_enter Tryz.func153, Tryz.ntmps153
  go_wp2_with (go_at_call 206; refine (named_nil _ _ _).mono ?_; rintro e w' ⟨rfl, rfl⟩)
  go_ret
  exact ⟨rfl, rfl⟩
theorem Link_nil (dir : Int) (s t : ByteArray) (w : World) : Calls Tryz.prog 154 #[.pointer none, .int .i64 dir, .string s, .string t] w fun e w' => e = .returned (.int .i64 9) ∧ w' = w := by
  go_enter Tryz.func154, Tryz.ntmps154
  go_wp2_with (go_at_call 147; refine (Walk_nil _ _ _).mono ?_; rintro e w' ⟨rfl, rfl⟩)
  go_ret
  exact ⟨rfl, rfl⟩
theorem Chmod_nil (n m : Int) (w : World) : Calls Tryz.prog 155 #[.pointer none, .int .i64 n, .int .i64 m] w fun e w' => e = .returned (.int .i64 9) ∧ w' = w := by
  go_enter Tryz.func155, Tryz.ntmps155
  go_wp2_with (go_at_call 58; refine (node_nil _ _).mono ?_; rintro e w' ⟨rfl, rfl⟩)
  go_ret
  exact ⟨rfl, rfl⟩
theorem Hold_nil (n : Int) (w : World) : Calls Tryz.prog 30 #[.pointer none, .int .i64 n] w fun e w' => e = .returned (.int .i64 9) ∧ w' = w := by
  go_enter Tryz.func30, Tryz.ntmps30
  go_wp2_with (go_at_call 58; refine (node_nil _ _).mono ?_; rintro e w' ⟨rfl, rfl⟩)
  go_ret
  exact ⟨rfl, rfl⟩
theorem Drop_nil (n : Int) (w : World) : Calls Tryz.prog 228 #[.pointer none, .int .i64 n] w fun e w' => e = .returned (.int .i64 9) ∧ w' = w := by
  go_enter Tryz.func228, Tryz.ntmps228
  go_wp2_with (go_at_call 58; refine (node_nil _ _).mono ?_; rintro e w' ⟨rfl, rfl⟩)
  go_ret
  exact ⟨rfl, rfl⟩
theorem results_cell_row2 {P : Program} {fn : Func} {p u : Tmp} {ty : TypeId} (h : fn.results = #[.cell p ty, .tmp u]) (tmps : Array Value) (w : World) (g : Nat) (t : TypeId) (cs : Array Value) (d : TypeDesc)
    (hp : tmps.getD p undef = .pointer (some ⟨g, 0, none⟩)) (hg : Blk w g t cs)
    (hu : P.underlying ty = some d) (hd : (match d with | .struct _ | .array _ _ => true | _ => false) = true) (hi : (P.info? ty).map (·.size) = some cs.size) :
    (results fn tmps).run P w = .ok (.tuple #[.agg cs, tmps.getD u undef]) w := by
  rw [results_cell_tmp h, hp]
  simp [asAddr, run_loadVar_row w g t ty cs (0, 0) d hg hu hd hi, Result.andThen]
theorem Stat_nil (n : Int) (w : World) : Calls Tryz.prog 148 #[.pointer none, .int .i64 n] w fun e w' => e = .returned (.tuple #[.agg #[.int .i64 0, .int .i64 0, .int .i64 0, .int .i64 0, .int .i64 0], .int .i64 9]) ∧ Below w.heap.size w w' := by
  go_enter Tryz.func148, Tryz.ntmps148
  go_wp2_with (go_at_call 58; refine (node_nil _ _).mono ?_; rintro e w' ⟨rfl, rfl⟩)
  (try simp only [Exit.inBlock, Exit.then])
  refine bodyPost_ret (results_cell_row2 rfl _ _ w.heap.size 41 #[.int .i64 0, .int .i64 0, .int .i64 0, .int .i64 0, .int .i64 0] _ rfl (Blk.new _ _ _) Tryz.underlying41 rfl (by kernel_rfl)) rfl ?_
  exact ⟨rfl, (Below.refl _ _).alloc (Nat.le_refl _) _⟩
theorem List_nil (n : Int) (w : World) : Calls Tryz.prog 129 #[.pointer none, .int .i64 n] w fun e w' => e = .returned (.tuple #[.slice none 0 0, .int .i64 9]) ∧ w' = w := by
  go_enter Tryz.func129, Tryz.ntmps129
  go_wp2_with (go_at_call 58; refine (node_nil _ _).mono ?_; rintro e w' ⟨rfl, rfl⟩)
  go_ret2
  exact ⟨rfl, rfl⟩
theorem Path_nil (n : Int) (w : World) : Calls Tryz.prog 156 #[.pointer none, .int .i64 n] w fun e w' => e = .returned (.tuple #[.string ⟨#[]⟩, .int .i64 9]) ∧ w' = w := by
  go_enter Tryz.func156, Tryz.ntmps156
  go_wp2_with (go_at_call 58; refine (node_nil _ _).mono ?_; rintro e w' ⟨rfl, rfl⟩)
  go_ret2
  exact ⟨rfl, rfl⟩
theorem May_nil (n m : Int) (w : World) : Calls Tryz.prog 205 #[.pointer none, .int .i64 n, .int .i64 m] w fun e w' => e = .returned (.bool false) ∧ w' = w := by
  go_enter Tryz.func205, Tryz.ntmps205
  go_wp2_with (go_at_call 58; refine (node_nil _ _).mono ?_; rintro e w' ⟨rfl, rfl⟩)
  go_ret
  exact ⟨rfl, rfl⟩
end Go.Proofs.YtmilagppbepnbaaGreat
/- Chmod, Hold, Drop, May, Stat. Condition: the tree lies as stated. -/
namespace Go.Proofs.YtmilagppbepnbaaGreat
open Go.RowKit Go.Shelf Go.PlainAid
attribute [local go_sem] Oper.semAt_some
def ChmodM (f : Fs) (n m : Int) : Nat × Fs := match node f n with
  | none => (9, f)
  | some _ => (0, modN f n (fun I => { I with mode := modeM m }))
def HoldM (f : Fs) (n : Int) : Nat × Fs := match node f n with
  | none => (9, f)
  | some _ => (0, modN f n (fun I => { I with holds := I.holds + 1 }))
def DropM (f : Fs) (n : Int) : Nat × Fs := match node f n with
  | none => (9, f)
  | some I => if I.holds = 0 then (22, f) else (0, relM (modN f n (fun I => { I with holds := I.holds - 1 })) n.toNat)
def MayM (f : Fs) (n want : Int) : Bool := match node f n with
  | none => false
  | some I => decide (1 ≤ want) && decide (want ≤ 7) && I.may want
section
variable {w : World} {B : Nat → Nat → Prop} {p : Nat} {f : Fs} {sv : Value} {ps : List (Option Nat)}
theorem chmod_any (h : FsAt w B p f sv ps) (hf : FineF f) (n m : Int) : Calls Tryz.prog 155 #[.pointer (some ⟨p, 0, none⟩), .int .i64 n, .int .i64 m] w fun e w' => e = .returned (.int .i64 (ChmodM f n m).1) ∧ FsP (All B) w w' p (ChmodM f n m).2 := by
  have hlen : f.length ≤ 100000 := by have := hf.1; omega
  cases hn : node f n with
  | none =>
    have hM : Hid (ChmodM f n m = (9, f)) := Lib.hid (by unfold ChmodM; rw [hn])
    have hc := Lib.hid (node_no h hn hlen)
    have hP := Lib.hid h.same
    rw [hM.out]
    clear h hf hn hM
    go_enter Tryz.func155, Tryz.ntmps155
    go_wp2_with (go_at_call 58; refine hc.out.mono ?_; rintro e w' ⟨rfl, rfl⟩)
    go_ret
    exact ⟨rfl, hP.out⟩
  | some I =>
    have hM : Hid (ChmodM f n m = (0, modN f n (fun I => { I with mode := modeM m }))) := Lib.hid (by unfold ChmodM; rw [hn])
    obtain ⟨i, q, rfl, hil, hi, hq, dv, ev, hA⟩ := node_where h hn
    rw [hM.out]
    have hc := Lib.hid (node_yes h hq hlen)
    have hP := Lib.hid (h.turnP hil hq (hA.field (Below.refl _ _) 1 (.int .i64 (modeM m)) { I with mode := modeM m } rfl rfl rfl))
    have c1 : w.cell? ⟨q, 1, none⟩ = some (.int .i64 I.mode) := hA.blk.cell 1
    have f1 : w.frozen? ⟨q, 1, none⟩ = false := hA.blk.frozen 1
    rw [modN_at hi]
    clear h hf hn hM hi hq hA
    go_enter Tryz.func155, Tryz.ntmps155
    go_wp2_with (go_at_call 58; refine hc.out.mono ?_; rintro e w' ⟨rfl, rfl⟩)
    go_ret
    exact ⟨rfl, hP.out⟩
theorem hold_any (h : FsAt w B p f sv ps) (hf : FineF f) (n : Int) : Calls Tryz.prog 30 #[.pointer (some ⟨p, 0, none⟩), .int .i64 n] w fun e w' => e = .returned (.int .i64 (HoldM f n).1) ∧ FsP (All B) w w' p (HoldM f n).2 := by
  have hlen : f.length ≤ 100000 := by have := hf.1; omega
  cases hn : node f n with
  | none =>
    have hM : Hid (HoldM f n = (9, f)) := Lib.hid (by unfold HoldM; rw [hn])
    have hc := Lib.hid (node_no h hn hlen)
    have hP := Lib.hid h.same
    rw [hM.out]
    clear h hf hn hM
    go_enter Tryz.func30, Tryz.ntmps30
    go_wp2_with (go_at_call 58; refine hc.out.mono ?_; rintro e w' ⟨rfl, rfl⟩)
    go_ret
    exact ⟨rfl, hP.out⟩
  | some I =>
    have hM : Hid (HoldM f n = (0, modN f n (fun I => { I with holds := I.holds + 1 }))) := Lib.hid (by unfold HoldM; rw [hn])
    obtain ⟨i, q, rfl, hil, hi, hq, dv, ev, hA⟩ := node_where h hn
    rw [hM.out]
    have hc := Lib.hid (node_yes h hq hlen)
    have hh := (hf.2 i I hi).hl
    have hP := Lib.hid (h.turnP hil hq (hA.field (Below.refl _ _) 3 (.int .i64 ((I.holds + 1 : Nat) : Int)) { I with holds := I.holds + 1 } rfl rfl rfl))
    rw [show ((I.holds + 1 : Nat) : Int) = (I.holds : Int) + 1 by omega] at hP
    have c1 : w.cell? ⟨q, 3, none⟩ = some (.int .i64 I.holds) := hA.blk.cell 3
    have f1 : w.frozen? ⟨q, 3, none⟩ = false := hA.blk.frozen 3
    rw [modN_at hi]
    clear h hf hn hM hi hq hA
    go_enter Tryz.func30, Tryz.ntmps30
    go_wp2_with (go_at_call 58; refine hc.out.mono ?_; rintro e w' ⟨rfl, rfl⟩)
    go_ret
    exact ⟨rfl, hP.out⟩
theorem may_fs (h : FsAt w B p f sv ps) (hf : FineF f) (n want : Int) : Calls Tryz.prog 205 #[.pointer (some ⟨p, 0, none⟩), .int .i64 n, .int .i64 want] w fun e w' => e = .returned (.bool (MayM f n want)) ∧ w' = w := by
  have hlen : f.length ≤ 100000 := by have := hf.1; omega
  cases hn : node f n with
  | none =>
    have hM : Hid (MayM f n want = false) := Lib.hid (by unfold MayM; rw [hn])
    have hc := Lib.hid (node_no h hn hlen)
    rw [hM.out]
    clear h hf hn hM
    go_enter Tryz.func205, Tryz.ntmps205
    go_wp2_with (go_at_call 58; refine hc.out.mono ?_; rintro e w' ⟨rfl, rfl⟩)
    go_ret
    exact ⟨rfl, rfl⟩
  | some I =>
    have hM : Hid (MayM f n want = (decide (1 ≤ want) && decide (want ≤ 7) && I.may want)) := Lib.hid (by unfold MayM; rw [hn])
    obtain ⟨i, q, rfl, hil, hi, hq, dv, ev, hA⟩ := node_where h hn
    rw [hM.out]
    have hc := Lib.hid (node_yes h hq hlen)
    have hm := Lib.hid (may_any hA want)
    clear h hf hn hM hi hq hA
    by_cases h1 : 1 ≤ want
    · by_cases h2 : want ≤ 7
      · rw [decide_eq_true h1, decide_eq_true h2, Bool.true_and, Bool.true_and]
        go_enter Tryz.func205, Tryz.ntmps205
        go_wp2_with (first | (go_at_call 58; refine hc.out.mono ?_; rintro e w' ⟨rfl, rfl⟩) | (go_at_call 208; refine hm.out.mono ?_; rintro e w' ⟨rfl, rfl⟩))
        go_ret
        exact ⟨rfl, rfl⟩
      · rw [decide_eq_true h1, decide_eq_false h2, Bool.true_and, Bool.false_and]
        go_enter Tryz.func205, Tryz.ntmps205
        go_wp2_with (first | (go_at_call 58; refine hc.out.mono ?_; rintro e w' ⟨rfl, rfl⟩) | (go_at_call 208; refine hm.out.mono ?_; rintro e w' ⟨rfl, rfl⟩))
        go_ret
        exact ⟨rfl, rfl⟩
    · rw [decide_eq_false h1, Bool.false_and, Bool.false_and]
      go_enter Tryz.func205, Tryz.ntmps205
      go_wp2_with (first | (go_at_call 58; refine hc.out.mono ?_; rintro e w' ⟨rfl, rfl⟩) | (go_at_call 208; refine hm.out.mono ?_; rintro e w' ⟨rfl, rfl⟩))
      go_ret
      exact ⟨rfl, rfl⟩
end
end Go.Proofs.YtmilagppbepnbaaGreat
/- Drop, Stat. Condition: the tree lies as stated. -/
namespace Go.Proofs.YtmilagppbepnbaaGreat
open Go.RowKit Go.Shelf Go.PlainAid
attribute [local go_sem] Oper.semAt_some
theorem put5_blk {w : World} {b : Nat} {t : TypeId} (h : Blk w b t #[.int .i64 0, .int .i64 0, .int .i64 0, .int .i64 0, .int .i64 0]) (a0 a1 a2 a3 a4 : Value) : Blk (((((w.setCell ⟨b, 0, none⟩ a0).setCell ⟨b, 1, none⟩ a1).setCell ⟨b, 2, none⟩ a2).setCell ⟨b, 3, none⟩ a3).setCell ⟨b, 4, none⟩ a4) b t #[a0, a1, a2, a3, a4] := by
  have h9 := ((((h.set_ 0 a0).set_ 1 a1).set_ 2 a2).set_ 3 a3).set_ 4 a4
  rw [show ((((((#[.int .i64 0, .int .i64 0, .int .i64 0, .int .i64 0, .int .i64 0] : Array Value).setIfInBounds 0 a0).setIfInBounds 1 a1).setIfInBounds 2 a2).setIfInBounds 3 a3).setIfInBounds 4 a4) = #[a0, a1, a2, a3, a4] by simp] at h9
  exact h9
theorem put5_below {w w2 : World} (h : Below w.heap.size w w2) (a0 a1 a2 a3 a4 : Value) : Below w.heap.size w (((((w2.setCell ⟨w.heap.size, 0, none⟩ a0).setCell ⟨w.heap.size, 1, none⟩ a1).setCell ⟨w.heap.size, 2, none⟩ a2).setCell ⟨w.heap.size, 3, none⟩ a3).setCell ⟨w.heap.size, 4, none⟩ a4) :=
  setB (setB (setB (setB (setB h rfl a0) rfl a1) rfl a2) rfl a3) rfl a4
section
variable {w : World} {B : Nat → Nat → Prop} {p : Nat} {f : Fs} {sv : Value} {ps : List (Option Nat)}
theorem drop_any (h : FsAt w B p f sv ps) (hf : FineF f) (n : Int) : Calls Tryz.prog 228 #[.pointer (some ⟨p, 0, none⟩), .int .i64 n] w fun e w' => e = .returned (.int .i64 (DropM f n).1) ∧ FsP (All B) w w' p (DropM f n).2 := by
  have hlen : f.length ≤ 100000 := by have := hf.1; omega
  cases hn : node f n with
  | none =>
    have hM : Hid (DropM f n = (9, f)) := Lib.hid (by unfold DropM; rw [hn])
    have hc := Lib.hid (node_no h hn hlen)
    have hP := Lib.hid h.same
    rw [hM.out]
    clear h hf hn hM
    go_enter Tryz.func228, Tryz.ntmps228
    go_wp2_with (go_at_call 58; refine hc.out.mono ?_; rintro e w' ⟨rfl, rfl⟩)
    go_ret
    exact ⟨rfl, hP.out⟩
  | some I =>
    have hM : DropM f n = if I.holds = 0 then (22, f) else (0, relM (modN f n (fun I => { I with holds := I.holds - 1 })) n.toNat) := by unfold DropM; rw [hn]
    rw [hM]
    obtain ⟨i, q, rfl, hil, hi, hq, dv, ev, hA⟩ := node_where h hn
    have hc := Lib.hid (node_yes h hq hlen)
    have c1 : w.cell? ⟨q, 3, none⟩ = some (.int .i64 I.holds) := hA.blk.cell 3
    have f1 : w.frozen? ⟨q, 3, none⟩ = false := hA.blk.frozen 3
    by_cases h0 : I.holds = 0
    · rw [if_pos h0]
      rw [h0] at c1
      have hP := Lib.hid h.same
      clear h hf hn hM hi hq hA
      go_enter Tryz.func228, Tryz.ntmps228
      go_wp2_with (go_at_call 58; refine hc.out.mono ?_; rintro e w' ⟨rfl, rfl⟩)
      go_ret
      exact ⟨rfl, hP.out⟩
    · rw [if_neg h0]
      have hh := (hf.2 i I hi).hl
      have e0 : ((I.holds : Int) == 0) = false := beq_eq_false_iff_ne.2 (by omega)
      have hP := h.turnP hil hq (hA.field (Below.refl _ _) 3 (.int .i64 ((I.holds - 1 : Nat) : Int)) { I with holds := I.holds - 1 } rfl rfl rfl)
      rw [show ((I.holds - 1 : Nat) : Int) = (I.holds : Int) - 1 by omega] at hP
      rw [modN_at hi, show ((i : Int) + 1).toNat = i + 1 by omega]
      have hR : Hid (Calls Tryz.prog 253 #[.pointer (some ⟨p, 0, none⟩), .int .i64 ((i : Int) + 1)] (w.setCell ⟨q, 3, none⟩ (.int .i64 ((I.holds : Int) - 1))) fun e w' => e = .returned (.tuple #[]) ∧ FsP (All B) w w' p (relM (f.set i (some { I with holds := I.holds - 1 })) (i + 1))) := by
        obtain ⟨B1, ⟨sv1, ps1, h1⟩, k2, k3⟩ := hP
        exact Lib.hid ((release_any h1 (List.getElem?_set_self hil) (by rw [List.length_set]; exact hlen)).mono fun e w' h9 => ⟨h9.1, FsP.join k2 k3 h9.2⟩)
      clear h hf hn hM hi hq hA hP
      go_enter Tryz.func228, Tryz.ntmps228
      go_wp2_with (first | (go_at_call 58; refine hc.out.mono ?_; rintro e w' ⟨rfl, rfl⟩) | (go_at_call 253; refine hR.out.mono ?_; rintro e w2 ⟨rfl, hP2⟩))
      go_ret
      exact ⟨rfl, hP2⟩
def stA (n : Int) (I : Ino) : Array Value := #[.int .i64 n, .int .i64 I.kind, .int .i64 I.mode, .int .i64 I.links, .int .i64 I.size]
def StatM (f : Fs) (n : Int) : Array Value × Nat := match node f n with
  | none => (#[.int .i64 0, .int .i64 0, .int .i64 0, .int .i64 0, .int .i64 0], 9)
  | some I => (stA n I, 0)
set_option maxRecDepth 100000 in
set_option maxHeartbeats 1000000 in
theorem stat_any (h : FsAt w B p f sv ps) (hf : FineF f) (n : Int) : Calls Tryz.prog 148 #[.pointer (some ⟨p, 0, none⟩), .int .i64 n] w fun e w' => e = .returned (.tuple #[.agg (StatM f n).1, .int .i64 (StatM f n).2]) ∧ Below w.heap.size w w' := by
  have hlen : f.length ≤ 100000 := by have := hf.1; omega
  obtain ⟨W0, hW0⟩ : ∃ x, w.alloc (.cells #[.int .i64 0, .int .i64 0, .int .i64 0, .int .i64 0, .int .i64 0] 41) = x := ⟨_, rfl⟩
  have hb0 : Below w.heap.size w W0 := by rw [← hW0]; exact alB _ _
  have h0 := h.below hb0
  have hW0H := Lib.hid hW0
  have hb0H := Lib.hid hb0
  have hB0 : Blk W0 w.heap.size 41 #[.int .i64 0, .int .i64 0, .int .i64 0, .int .i64 0, .int .i64 0] := by rw [← hW0]; exact Blk.new _ _ _
  have hB0H := Lib.hid hB0
  cases hn : node f n with
  | none =>
    have hM : Hid (StatM f n = (#[.int .i64 0, .int .i64 0, .int .i64 0, .int .i64 0, .int .i64 0], 9)) := Lib.hid (by unfold StatM; rw [hn])
    have hc := Lib.hid (node_no h0 hn hlen)
    rw [hM.out]
    have d0 : W0.cell? ⟨w.heap.size, 0, none⟩ = some (.int .i64 0) := hB0.cell 0
    have e0 : W0.frozen? ⟨w.heap.size, 0, none⟩ = false := hB0.frozen 0
    have d1 : W0.cell? ⟨w.heap.size, 1, none⟩ = some (.int .i64 0) := hB0.cell 1
    have e1 : W0.frozen? ⟨w.heap.size, 1, none⟩ = false := hB0.frozen 1
    have d2 : W0.cell? ⟨w.heap.size, 2, none⟩ = some (.int .i64 0) := hB0.cell 2
    have e2 : W0.frozen? ⟨w.heap.size, 2, none⟩ = false := hB0.frozen 2
    have d3 : W0.cell? ⟨w.heap.size, 3, none⟩ = some (.int .i64 0) := hB0.cell 3
    have e3 : W0.frozen? ⟨w.heap.size, 3, none⟩ = false := hB0.frozen 3
    have d4 : W0.cell? ⟨w.heap.size, 4, none⟩ = some (.int .i64 0) := hB0.cell 4
    have e4 : W0.frozen? ⟨w.heap.size, 4, none⟩ = false := hB0.frozen 4
    clear h hf hn hM h0 hW0 hb0 hB0
    go_enter Tryz.func148, Tryz.ntmps148
    go_wp2_with (first | rw [hW0H.out] | (go_at_call 58; refine hc.out.mono ?_; rintro e w' ⟨rfl, rfl⟩))
    (try simp only [Exit.inBlock, Exit.then])
    refine bodyPost_ret (results_cell_row2 rfl _ _ w.heap.size 41 _ _ rfl (put5_blk hB0H.out _ _ _ _ _) Tryz.underlying41 rfl (by kernel_rfl)) rfl ?_
    exact ⟨rfl, put5_below hb0H.out _ _ _ _ _⟩
  | some I =>
    have hM : Hid (StatM f n = (stA n I, 0)) := Lib.hid (by unfold StatM; rw [hn])
    obtain ⟨i, q, rfl, hil, hi, hq, dv, ev, hA⟩ := node_where h0 hn
    rw [hM.out]
    have hc := Lib.hid (node_yes h0 hq hlen)
    have hz := Lib.hid (fun (W : World) (hb : Below W0.heap.size W0 W) => size_any (hA.below hb))
    have c0 : W0.cell? ⟨q, 0, none⟩ = some (.int .i64 I.kind) := hA.blk.cell 0
    have c1 : W0.cell? ⟨q, 1, none⟩ = some (.int .i64 I.mode) := hA.blk.cell 1
    have c2 : W0.cell? ⟨q, 2, none⟩ = some (.int .i64 I.links) := hA.blk.cell 2
    have d0 : W0.cell? ⟨w.heap.size, 0, none⟩ = some (.int .i64 0) := hB0.cell 0
    have d1 : W0.cell? ⟨w.heap.size, 1, none⟩ = some (.int .i64 0) := hB0.cell 1
    have d2 : W0.cell? ⟨w.heap.size, 2, none⟩ = some (.int .i64 0) := hB0.cell 2
    have d3 : W0.cell? ⟨w.heap.size, 3, none⟩ = some (.int .i64 0) := hB0.cell 3
    have d4 : W0.cell? ⟨w.heap.size, 4, none⟩ = some (.int .i64 0) := hB0.cell 4
    have e0 : W0.frozen? ⟨w.heap.size, 0, none⟩ = false := hB0.frozen 0
    have e1 : W0.frozen? ⟨w.heap.size, 1, none⟩ = false := hB0.frozen 1
    have e2 : W0.frozen? ⟨w.heap.size, 2, none⟩ = false := hB0.frozen 2
    have e3 : W0.frozen? ⟨w.heap.size, 3, none⟩ = false := hB0.frozen 3
    have e4 : W0.frozen? ⟨w.heap.size, 4, none⟩ = false := hB0.frozen 4
    have hbd := below_drew (Below.refl W0.heap.size W0)
    have mixed : Tryz.prog.follows .mixedOrders = true := by kernel_rfl
    clear h hf hn hM hi hq hA h0 hW0 hb0 hB0
    go_enter Tryz.func148, Tryz.ntmps148
    go_wp2_with (first | rw [hW0H.out] | (go_at_call 58; refine hc.out.mono ?_; rintro e w' ⟨rfl, rfl⟩))
    go_still_tail 16, mixed
    still_call (hz.out _ hbd)
    repeat still_step
    refine wpStill_nil ?_
    change wpList _ _ _ _ _ (World.drew _)
    go_wp2
    (try simp only [Exit.inBlock, Exit.then])
    refine bodyPost_ret (results_cell_row2 rfl _ _ w.heap.size 41 _ _ rfl (put5_blk hB0H.out _ _ _ _ _) Tryz.underlying41 rfl (by kernel_rfl)) rfl ?_
    exact ⟨rfl, below_drew (put5_below hb0H.out _ _ _ _ _)⟩
end
end Go.Proofs.YtmilagppbepnbaaGreat
/- named; unlink. Condition: the tree lies as stated. -/
namespace Go.Proofs.YtmilagppbepnbaaGreat
open Go.RowKit Go.Shelf Go.PlainAid
attribute [local go_sem] Oper.semAt_some
/-- What an entry of a walked way names lives. -/
theorem look_live {f : Fs} (hc : Closed f) {dir : Int} {s : ByteArray} (h : (aheadM f dir s).2.2 = 0) {I : Ino} (hI : node f (aheadM f dir s).1 = some I) (hl : lookM I.ents (aheadM f dir s).2.1 ≠ 0) : (node f (lookM I.ents (aheadM f dir s).2.1 : Nat)).isSome := by
  obtain ⟨D, hD, hd, hm, h1, h2, h3, h4⟩ := ahead_live h
  obtain rfl : I = D := Option.some.inj (hI.symm.trans hD)
  have he : enterM f (aheadM f dir s).1 = 0 := by
    unfold enterM
    rw [hI]
    dsimp only
    rw [if_pos hd, if_pos hm]
  have hs : stepM f (aheadM f dir s).1 (aheadM f dir s).2.1 = (((lookM I.ents (aheadM f dir s).2.1 : Nat) : Int), 0) := by
    unfold stepM
    rw [if_neg (fun h => h he), hI]
    dsimp only
    rw [if_neg h2, if_neg h3, if_neg (by omega), if_neg hl]
  have h9 := hc.2 (aheadM f dir s).1 (aheadM f dir s).2.1 (by rw [hI]; rfl) (by rw [hs])
  rw [hs] at h9
  exact h9
section
variable {w : World} {B : Nat → Nat → Prop} {p : Nat} {f : Fs} {sv : Value} {ps : List (Option Nat)}
/-- The pointer that named answers. -/
def PtrOf (ps : List (Option Nat)) (r : Int × ByteArray × Nat × Nat) (v : Value) : Prop := (r.2.2.2 = 0 → ∃ i q : Nat, r.2.2.1 = i + 1 ∧ ps[i]? = some (some q) ∧ v = .pointer (some ⟨q, 0, none⟩)) ∧ (r.2.2.2 ≠ 0 → v = .pointer none)
set_option maxHeartbeats 1000000 in
theorem named_any (h : FsAt w B p f sv ps) (hf : FineF f) (hcl : Closed f) (dir : Int) (s : ByteArray) (hs : s.size ≤ maxLen) :
    Calls Tryz.prog 206 #[.pointer (some ⟨p, 0, none⟩), .int .i64 dir, .string s] w fun e w' => (∃ v, e = .returned (.tuple #[.int .i64 (namedM f dir s).1, .string (namedM f dir s).2.1, v, .int .i64 (namedM f dir s).2.2.2]) ∧ PtrOf ps (namedM f dir s) v) ∧ Below w.heap.size w w' := by
  have hlen : f.length ≤ 100000 := by have := hf.1; omega
  have hdi := Lib.hid (isDir_fs h dir hlen)
  cases hd : isDir f dir with
  | false =>
    have hM : namedM f dir s = (0, ⟨#[]⟩, 0, 9) := by unfold namedM; rw [hd]; rfl
    rw [hM]
    rw [hd] at hdi
    clear h hf hcl hd hM
    go_enter Tryz.func206, Tryz.ntmps206
    go_wp2_with (go_at_call 130; refine hdi.out.mono ?_; rintro e w' ⟨rfl, rfl⟩)
    (try simp only [Exit.inBlock, Exit.then])
    refine bodyPost_ret (results_tmp4 rfl _ _ _) rfl ?_
    exact ⟨⟨_, rfl, fun h => (by cases h), fun _ => rfl⟩, Below.refl _ _⟩
  | true =>
    have hah := Lib.hid (ahead_any h hf hcl dir (isDir_live hd) s hs)
    have hM : namedM f dir s = if (aheadM f dir s).2.2 ≠ 0 then (0, ⟨#[]⟩, 0, (aheadM f dir s).2.2) else match node f (aheadM f dir s).1 with
      | none => (0, ⟨#[]⟩, 0, 2)
      | some I => if lookM I.ents (aheadM f dir s).2.1 = 0 then (0, ⟨#[]⟩, 0, 2) else ((aheadM f dir s).1, (aheadM f dir s).2.1, lookM I.ents (aheadM f dir s).2.1, 0) := by unfold namedM; rw [hd]; rfl
    rw [hd] at hdi
    by_cases h1 : (aheadM f dir s).2.2 = 0
    · rw [if_neg (fun h => h h1)] at hM
      obtain ⟨D, hD, _⟩ := ahead_live h1
      rw [hD] at hM
      dsimp only at hM
      have hll := fun hl => look_live hcl h1 hD hl
      obtain ⟨i, hn, _, hi⟩ := node_some hD
      obtain ⟨x, hx⟩ : ∃ y, (aheadM f dir s).2.1 = y := ⟨_, rfl⟩
      rw [h1, hn, hx] at hah
      rw [hn, hx] at hM
      rw [hx] at hll
      obtain ⟨q, hq, dv, ev, hA⟩ := h.some_ i D hi
      have hnd := Lib.hid (fun (W : World) (hb : Below w.heap.size w W) => node_yes (h.below hb) hq hlen)
      have hlk := Lib.hid (fun (W : World) (hb : Below w.heap.size w W) => lookup_any (hA.below hb) (hf.2 i D hi) x)
      obtain ⟨k, hk⟩ : ∃ k, lookM D.ents x = k := ⟨_, rfl⟩
      rw [hk] at hM hlk hll
      by_cases h2 : k = 0
      · rw [if_pos h2] at hM
        subst h2
        rw [hM]
        clear h hf hcl hd h1 hD hn hi hx hA hq hk hM hll
        go_enter Tryz.func206, Tryz.ntmps206
        go_wp2_with (first | (go_at_call 130; refine hdi.out.mono ?_; rintro e w' ⟨rfl, rfl⟩) | (go_at_call 210; refine hah.out.mono ?_; rintro e w1 ⟨rfl, hb1⟩) | (go_at_call 58; refine (hnd.out _ hb1).mono ?_; rintro e w' ⟨rfl, rfl⟩) | (go_at_call 131; refine (hlk.out _ hb1).mono ?_; rintro e w2 ⟨rfl, hb2⟩))
        (try simp only [Exit.inBlock, Exit.then])
        refine bodyPost_ret (results_tmp4 rfl _ _ _) rfl ?_
        exact ⟨⟨_, rfl, fun h => (by cases h), fun _ => rfl⟩, hb1.trans (below_of hb2 hb1.size)⟩
      · rw [if_neg h2] at hM
        have h9 := hll h2
        obtain ⟨J, hJ⟩ := Option.isSome_iff_exists.1 h9
        obtain ⟨j, q2, hj, _, _, hq2, _⟩ := node_where h hJ
        have hkj : k = j + 1 := by omega
        subst hkj
        have hnd2 := Lib.hid (fun (W : World) (hb : Below w.heap.size w W) => node_yes (h.below hb) hq2 hlen)
        have hq2H := Lib.hid hq2
        have e0 : (((j : Int) + 1) == 0) = false := beq_eq_false_iff_ne.2 (by omega)
        rw [hM]
        clear h hf hcl hd h1 hD hn hi hx hA hq hk hM hll h9 hJ hj hq2
        go_enter Tryz.func206, Tryz.ntmps206
        go_wp2_with (first | (go_at_call 130; refine hdi.out.mono ?_; rintro e w' ⟨rfl, rfl⟩) | (go_at_call 210; refine hah.out.mono ?_; rintro e w1 ⟨rfl, hb1⟩) | (go_at_call 58; refine (hnd2.out _ (hb1.trans (below_of hb2 hb1.size))).mono ?_; rintro e w' ⟨rfl, rfl⟩) | (go_at_call 58; refine (hnd.out _ hb1).mono ?_; rintro e w' ⟨rfl, rfl⟩) | (go_at_call 131; refine (hlk.out _ hb1).mono ?_; rintro e w2 ⟨rfl, hb2⟩))
        (try simp only [Exit.inBlock, Exit.then])
        refine bodyPost_ret (results_tmp4 rfl _ _ _) rfl ?_
        exact ⟨⟨_, rfl, fun _ => ⟨j, q2, rfl, hq2H.out, rfl⟩, fun h => absurd rfl h⟩, hb1.trans (below_of hb2 hb1.size)⟩
    · rw [if_pos h1] at hM
      obtain ⟨er, her⟩ : ∃ y, (aheadM f dir s).2.2 = y := ⟨_, rfl⟩
      rw [her] at hah h1 hM
      rw [hM]
      have h1' : ¬ (er : Int) = 0 := by omega
      have h1H := Lib.hid h1
      clear h hf hcl hd her hM
      go_enter Tryz.func206, Tryz.ntmps206
      go_wp2_with (first | (go_at_call 130; refine hdi.out.mono ?_; rintro e w' ⟨rfl, rfl⟩) | (go_at_call 210; refine hah.out.mono ?_; rintro e w1 ⟨rfl, hb1⟩))
      (try simp only [Exit.inBlock, Exit.then])
      refine bodyPost_ret (results_tmp4 rfl _ _ _) rfl ?_
      exact ⟨⟨_, rfl, fun h => absurd h h1H.out, fun _ => rfl⟩, hb1⟩
end
end Go.Proofs.YtmilagppbepnbaaGreat
/- unlink. Condition: the tree lies as stated. -/
namespace Go.Proofs.YtmilagppbepnbaaGreat
open Go.RowKit Go.Shelf Go.PlainAid
attribute [local go_sem] Oper.semAt_some
section
variable {w : World} {B : Nat → Nat → Prop} {p : Nat} {f : Fs} {sv : Value} {ps : List (Option Nat)}
/-- One link less; let go. -/
theorem less_any (h : FsAt w B p f sv ps) {j : Nat} {J : Ino} (hj : f[j]? = some (some J)) (hlen : f.length ≤ 100000) : ∃ q, Calls Tryz.prog 58 #[.pointer (some ⟨p, 0, none⟩), .int .i64 ((j : Int) + 1)] w (fun e w' => e = .returned (.pointer (some ⟨q, 0, none⟩)) ∧ w' = w) ∧
    w.cell? ⟨q, 2, none⟩ = some (.int .i64 J.links) ∧ w.frozen? ⟨q, 2, none⟩ = false ∧
    ∀ v, ((J.links - 1 : Nat) : Int) = v → Calls Tryz.prog 253 #[.pointer (some ⟨p, 0, none⟩), .int .i64 ((j : Int) + 1)] (w.setCell ⟨q, 2, none⟩ (.int .i64 v)) fun e w' => e = .returned (.tuple #[]) ∧ FsP (All B) w w' p (relM (setLinks f (j + 1) (· - 1)) (j + 1)) := by
  obtain ⟨q, hq, dv, ev, hA⟩ := h.some_ j J hj
  have hjl := (List.getElem?_eq_some_iff.1 hj).1
  refine ⟨q, node_yes h hq hlen, hA.blk.cell 2, hA.blk.frozen 2, fun v hv => ?_⟩
  subst hv
  rw [setLinks_at hj]
  obtain ⟨B1, ⟨sv1, ps1, h1⟩, k2, k3⟩ := h.turnP hjl hq (hA.field (Below.refl _ _) 2 (.int .i64 ((J.links - 1 : Nat) : Int)) { J with links := J.links - 1 } rfl rfl rfl)
  exact (release_any h1 (List.getElem?_set_self hjl) (by rw [List.length_set]; exact hlen)).mono fun e w' h9 => ⟨h9.1, FsP.join k2 k3 h9.2⟩
set_option maxHeartbeats 1000000 in
theorem unlink_any (h : FsAt w B p f sv ps) (hf : FineF f) {i j : Nat} {D J : Ino} (hi : f[i]? = some (some D)) (hj : f[j]? = some (some J)) (x : ByteArray) (hx : lookM D.ents x = j + 1) (hJ : 1 ≤ J.links) :
    Calls Tryz.prog 209 #[.pointer (some ⟨p, 0, none⟩), .int .i64 ((i : Int) + 1), .string x] w fun e w' => e = .returned (.tuple #[]) ∧ FsP (All B) w w' p (unlinkM f (i + 1) x) := by
  have hlen : f.length ≤ 100000 := by have := hf.1; omega
  obtain ⟨q, hq, dv, ev, hA⟩ := h.some_ i D hi
  have hil := (List.getElem?_eq_some_iff.1 hi).1
  have hjl := (List.getElem?_eq_some_iff.1 hj).1
  have hll := (hf.2 j J hj).ll
  have hM : unlinkM f (i + 1) x = relM (setLinks (setEnts f (i + 1) (fun l => remM l x)) (j + 1) (· - 1)) (j + 1) := by
    unfold unlinkM
    rw [show ((i + 1 : Nat) : Int) = (i : Int) + 1 by omega, node_at hi]
    dsimp only
    rw [hx]
  rw [hM]
  have hf1 : setEnts f (i + 1) (fun l => remM l x) = f.set i (some { D with ents := remM D.ents x }) := setEnts_at hi _
  obtain ⟨J1, hJ1, hJl⟩ : ∃ J1, (setEnts f (i + 1) (fun l => remM l x))[j]? = some (some J1) ∧ J1.links = J.links := by
    rw [hf1]
    by_cases e : i = j
    · subst e
      rw [List.getElem?_set_self hil]
      exact ⟨_, rfl, by rw [hi] at hj; cases hj; rfl⟩
    · exact ⟨J, by rw [List.getElem?_set_ne e]; exact hj, rfl⟩
  have hnd := Lib.hid (fun (W : World) (hb : Below w.heap.size w W) => node_yes (h.below hb) hq hlen)
  have hlk := Lib.hid (lookup_any hA (hf.2 i D hi) x)
  rw [hx] at hlk
  have hrm := Lib.hid (fun (W : World) (hb : Below w.heap.size w W) => (remove_any (hA.below hb) (hf.2 i D hi) x).mono fun e w2 h9 => And.intro h9.1 (show ∃ q2, Calls Tryz.prog 58 #[.pointer (some ⟨p, 0, none⟩), .int .i64 ((j : Int) + 1)] w2 (fun e w' => e = .returned (.pointer (some ⟨q2, 0, none⟩)) ∧ w' = w2) ∧
      w2.cell? ⟨q2, 2, none⟩ = some (.int .i64 J.links) ∧ w2.frozen? ⟨q2, 2, none⟩ = false ∧
      Calls Tryz.prog 253 #[.pointer (some ⟨p, 0, none⟩), .int .i64 ((j : Int) + 1)] (w2.setCell ⟨q2, 2, none⟩ (.int .i64 ((J.links : Int) - 1))) fun e w' => e = .returned (.tuple #[]) ∧ FsP (All B) w w' p (relM (setLinks (setEnts f (i + 1) (fun l => remM l x)) (j + 1) (· - 1)) (j + 1)) by
    have h10 := h.turnP hil hq (h9.2.below hb)
    rw [← hf1] at h10
    obtain ⟨B1, ⟨sv1, ps1, h1⟩, k2, k3⟩ := h10
    obtain ⟨q2, e1, e2, e3, e4⟩ := less_any h1 hJ1 (by rw [hf1, List.length_set]; exact hlen)
    rw [hJl] at e2 e4
    exact ⟨q2, e1, e2, e3, (e4 _ (by omega)).mono fun e w' h11 => ⟨h11.1, FsP.join k2 k3 h11.2⟩⟩))
  have hbr := Lib.hid (Below.refl w.heap.size w)
  clear h hf hi hj hx hA hq hM hf1 hJ1
  go_enter Tryz.func209, Tryz.ntmps209
  go_wp2_with (first | (go_at_call 58; refine hn2.mono ?_; rintro e w' ⟨rfl, rfl⟩) | (go_at_call 58; refine (hnd.out _ hb1).mono ?_; rintro e w' ⟨rfl, rfl⟩) | (go_at_call 58; refine (hnd.out _ hbr.out).mono ?_; rintro e w' ⟨rfl, rfl⟩) | (go_at_call 131; refine hlk.out.mono ?_; rintro e w1 ⟨rfl, hb1⟩) | (go_at_call 213; refine (hrm.out _ hb1).mono ?_; rintro e w2 ⟨rfl, q2, hn2, c2, g2, hrel⟩) | (go_at_call 253; refine hrel.mono ?_; rintro e w3 ⟨rfl, hP3⟩))
  go_end0
  exact ⟨rfl, hP3⟩
end
end Go.Proofs.YtmilagppbepnbaaGreat
/- Unlink, Rmdir. Condition: the tree lies as stated. -/
namespace Go.Proofs.YtmilagppbepnbaaGreat
open Go.RowKit Go.Shelf Go.PlainAid
attribute [local go_sem] Oper.semAt_some
def UnlinkM (f : Fs) (dir : Int) (s : ByteArray) : Nat × Fs :=
  if (namedM f dir s).2.2.2 ≠ 0 then ((namedM f dir s).2.2.2, f) else match node f (namedM f dir s).2.2.1, node f (namedM f dir s).1 with
  | some J, some D => if (slashed s && !J.isDir) = true then (20, f) else if J.isDir = true then (21, f) else if D.may 2 = true then (0, unlinkM f (namedM f dir s).1.toNat (namedM f dir s).2.1) else (13, f)
  | _, _ => (2, f)
def RmdirM (f : Fs) (dir : Int) (s : ByteArray) : Nat × Fs :=
  if (namedM f dir s).2.2.2 ≠ 0 then ((namedM f dir s).2.2.2, f) else match node f (namedM f dir s).2.2.1, node f (namedM f dir s).1 with
  | some J, some D => if J.isDir = true then (if 0 < J.ents.length then (39, f) else if D.may 2 = true then (0, unlinkM f (namedM f dir s).1.toNat (namedM f dir s).2.1) else (13, f)) else (20, f)
  | _, _ => (2, f)
/-- What an entry names has a link. -/
def Linked (f : Fs) : Prop := ∀ (i : Nat) D x (j : Nat) J, f[i]? = some (some D) → lookM D.ents x = j + 1 → f[j]? = some (some J) → 1 ≤ J.links
theorem named_ok {f : Fs} (hc : Closed f) {dir : Int} {s : ByteArray} (h : (namedM f dir s).2.2.2 = 0) : ∃ (i : Nat) (D : Ino) (j : Nat) (J : Ino) (x : ByteArray), namedM f dir s = ((i : Int) + 1, x, j + 1, 0) ∧ f[i]? = some (some D) ∧ D.isDir = true ∧ f[j]? = some (some J) ∧ lookM D.ents x = j + 1 := by
  unfold namedM at h ⊢
  cases hd : isDir f dir with
  | false => rw [hd] at h; cases h
  | true =>
    rw [hd] at h
    rw [if_neg (by decide)] at h ⊢
    by_cases h1 : (aheadM f dir s).2.2 = 0
    · rw [if_neg (fun h => h h1)] at h ⊢
      obtain ⟨D, hD, hdd, _⟩ := ahead_live h1
      rw [hD] at h ⊢
      dsimp only at h ⊢
      by_cases h2 : lookM D.ents (aheadM f dir s).2.1 = 0
      · rw [if_pos h2] at h; cases h
      · rw [if_neg h2]
        obtain ⟨J, hJ⟩ := Option.isSome_iff_exists.1 (look_live hc h1 hD h2)
        obtain ⟨i, hn, _, hi⟩ := node_some hD
        obtain ⟨j, hk, _, hj⟩ := node_some hJ
        have hk' : lookM D.ents (aheadM f dir s).2.1 = j + 1 := by omega
        exact ⟨i, D, j, J, (aheadM f dir s).2.1, by rw [hk', hn], hi, hdd, hj, hk'⟩
    · rw [if_pos h1] at h
      exact absurd h h1
section
variable {w : World} {B : Nat → Nat → Prop} {p : Nat} {f : Fs} {sv : Value} {ps : List (Option Nat)}
theorem named_err (h : FsAt w B p f sv ps) (hf : FineF f) (hcl : Closed f) (dir : Int) (s : ByteArray) (hs : s.size ≤ maxLen) (h0 : (namedM f dir s).2.2.2 ≠ 0) :
    Calls Tryz.prog 206 #[.pointer (some ⟨p, 0, none⟩), .int .i64 dir, .string s] w fun e w' => e = .returned (.tuple #[.int .i64 (namedM f dir s).1, .string (namedM f dir s).2.1, .pointer none, .int .i64 (namedM f dir s).2.2.2]) ∧ Below w.heap.size w w' :=
  (named_any h hf hcl dir s hs).mono fun e w' ⟨⟨v, h1, h2⟩, h3⟩ => ⟨by rw [h1, h2.2 h0], h3⟩
theorem named_yes (h : FsAt w B p f sv ps) (hf : FineF f) (hcl : Closed f) (dir : Int) (s : ByteArray) (hs : s.size ≤ maxLen) {i j q : Nat} {x : ByteArray} (h0 : namedM f dir s = ((i : Int) + 1, x, j + 1, 0)) (hq : ps[j]? = some (some q)) :
    Calls Tryz.prog 206 #[.pointer (some ⟨p, 0, none⟩), .int .i64 dir, .string s] w fun e w' => e = .returned (.tuple #[.int .i64 ((i : Int) + 1), .string x, .pointer (some ⟨q, 0, none⟩), .int .i64 0]) ∧ Below w.heap.size w w' :=
  (named_any h hf hcl dir s hs).mono fun e w' ⟨⟨v, h1, h2⟩, h3⟩ => by
    rw [h0] at h1 h2
    obtain ⟨j', q', e1, e2, e3⟩ := h2.1 rfl
    have e4 : j' = j := by simpa using e1.symm
    subst e4
    rw [hq] at e2
    cases e2
    exact ⟨by rw [h1, e3]; rfl, h3⟩
set_option maxHeartbeats 1000000 in
theorem unlinkF_any (h : FsAt w B p f sv ps) (hf : FineF f) (hcl : Closed f) (hLk : Linked f) (dir : Int) (s : ByteArray) (hs : s.size ≤ maxLen) : Calls Tryz.prog 150 #[.pointer (some ⟨p, 0, none⟩), .int .i64 dir, .string s] w fun e w' => e = .returned (.int .i64 (UnlinkM f dir s).1) ∧ FsP (All B) w w' p (UnlinkM f dir s).2 := by
  have hlen : f.length ≤ 100000 := by have := hf.1; omega
  have hS := Lib.hid (fun (w1 : World) (hb : Below w.heap.size w w1) => FsP.of (show FsIs w B p f from ⟨sv, ps, h⟩) hb)
  by_cases h0 : (namedM f dir s).2.2.2 = 0
  · obtain ⟨i, D, j, J, x, he, hi, hdd, hj, hx⟩ := named_ok hcl h0
    obtain ⟨q, hq, dv, ev, hA⟩ := h.some_ i D hi
    obtain ⟨q2, hq2, dv2, ev2, hA2⟩ := h.some_ j J hj
    have hnm := Lib.hid (named_yes h hf hcl dir s hs he hq2)
    have hdj := Lib.hid (fun (W : World) (hb : Below w.heap.size w W) => isDir_any (hA2.below hb))
    have hnd := Lib.hid (fun (W : World) (hb : Below w.heap.size w W) => node_yes (h.below hb) hq hlen)
    have hmy := Lib.hid (fun (W : World) (hb : Below w.heap.size w W) => may_any (hA.below hb) 2)
    have hul := Lib.hid (fun (W : World) (hb : Below w.heap.size w W) => (unlink_any (h.below hb) hf hi hj x hx (hLk i D x j J hi hx hj)).mono fun e w' h9 => And.intro h9.1 (FsP.after hb h9.2))
    have hM : UnlinkM f dir s = if (slashed s && !J.isDir) = true then (20, f) else if J.isDir = true then (21, f) else if D.may 2 = true then (0, unlinkM f (i + 1) x) else (13, f) := by
      unfold UnlinkM
      rw [he]
      dsimp only
      rw [if_neg (fun h => h rfl), show ((j + 1 : Nat) : Int) = (j : Int) + 1 by omega, node_at hj, node_at hi, show ((i : Int) + 1).toNat = i + 1 by omega]
    rw [hM]
    clear hM h hf hcl hLk h0 he hi hdd hj hx hq hA hq2 hA2
    cases hsl : slashed s with
    | true =>
      cases hd : J.isDir with
      | true =>
        rw [hd] at hdj
        rw [if_neg (by decide), if_pos rfl]
        clear hd
        go_enter Tryz.func150, Tryz.ntmps150
        go_wp2_with (first | (go_at_call 206; refine hnm.out.mono ?_; rintro e w1 ⟨rfl, hb1⟩) | (go_at_call 207; refine (slashed_any s _ hs).mono ?_; rintro e w' ⟨rfl, rfl⟩; rw [hsl]) | (go_at_call 132; refine (hdj.out _ hb1).mono ?_; rintro e w' ⟨rfl, rfl⟩))
        go_ret
        exact ⟨rfl, hS.out _ hb1⟩
      | false =>
        rw [hd] at hdj
        rw [if_pos (by decide)]
        clear hd
        go_enter Tryz.func150, Tryz.ntmps150
        go_wp2_with (first | (go_at_call 206; refine hnm.out.mono ?_; rintro e w1 ⟨rfl, hb1⟩) | (go_at_call 207; refine (slashed_any s _ hs).mono ?_; rintro e w' ⟨rfl, rfl⟩; rw [hsl]) | (go_at_call 132; refine (hdj.out _ hb1).mono ?_; rintro e w' ⟨rfl, rfl⟩))
        go_ret
        exact ⟨rfl, hS.out _ hb1⟩
    | false =>
      cases hd : J.isDir with
      | true =>
        rw [hd] at hdj
        rw [if_neg (by decide), if_pos rfl]
        clear hd
        go_enter Tryz.func150, Tryz.ntmps150
        go_wp2_with (first | (go_at_call 206; refine hnm.out.mono ?_; rintro e w1 ⟨rfl, hb1⟩) | (go_at_call 207; refine (slashed_any s _ hs).mono ?_; rintro e w' ⟨rfl, rfl⟩; rw [hsl]) | (go_at_call 132; refine (hdj.out _ hb1).mono ?_; rintro e w' ⟨rfl, rfl⟩))
        go_ret
        exact ⟨rfl, hS.out _ hb1⟩
      | false =>
        rw [hd] at hdj
        rw [if_neg (by decide), if_neg (by decide)]
        clear hd
        cases hm : D.may 2 with
        | true =>
          rw [hm] at hmy
          rw [if_pos rfl]
          clear hm
          go_enter Tryz.func150, Tryz.ntmps150
          go_wp2_with (first | (go_at_call 206; refine hnm.out.mono ?_; rintro e w1 ⟨rfl, hb1⟩) | (go_at_call 207; refine (slashed_any s _ hs).mono ?_; rintro e w' ⟨rfl, rfl⟩; rw [hsl]) | (go_at_call 132; refine (hdj.out _ hb1).mono ?_; rintro e w' ⟨rfl, rfl⟩) | (go_at_call 58; refine (hnd.out _ hb1).mono ?_; rintro e w' ⟨rfl, rfl⟩) | (go_at_call 208; refine (hmy.out _ hb1).mono ?_; rintro e w' ⟨rfl, rfl⟩) | (go_at_call 209; refine (hul.out _ hb1).mono ?_; rintro e w2 ⟨rfl, hP2⟩))
          go_ret
          exact ⟨rfl, hP2⟩
        | false =>
          rw [hm] at hmy
          rw [if_neg (by decide)]
          clear hm
          go_enter Tryz.func150, Tryz.ntmps150
          go_wp2_with (first | (go_at_call 206; refine hnm.out.mono ?_; rintro e w1 ⟨rfl, hb1⟩) | (go_at_call 207; refine (slashed_any s _ hs).mono ?_; rintro e w' ⟨rfl, rfl⟩; rw [hsl]) | (go_at_call 132; refine (hdj.out _ hb1).mono ?_; rintro e w' ⟨rfl, rfl⟩) | (go_at_call 58; refine (hnd.out _ hb1).mono ?_; rintro e w' ⟨rfl, rfl⟩) | (go_at_call 208; refine (hmy.out _ hb1).mono ?_; rintro e w' ⟨rfl, rfl⟩))
          go_ret
          exact ⟨rfl, hS.out _ hb1⟩
  · have hnm := Lib.hid (named_err h hf hcl dir s hs h0)
    have hM : UnlinkM f dir s = ((namedM f dir s).2.2.2, f) := by unfold UnlinkM; rw [if_pos h0]
    rw [hM]
    obtain ⟨er, her⟩ : ∃ y, (namedM f dir s).2.2.2 = y := ⟨_, rfl⟩
    rw [her] at hnm h0 ⊢
    have h1' : ¬ (er : Int) = 0 := by omega
    clear h hf hcl hLk hM her
    go_enter Tryz.func150, Tryz.ntmps150
    go_wp2_with (first | (go_at_call 206; refine hnm.out.mono ?_; rintro e w1 ⟨rfl, hb1⟩))
    go_ret
    exact ⟨rfl, hS.out _ hb1⟩
set_option maxHeartbeats 1000000 in
theorem rmdir_any (h : FsAt w B p f sv ps) (hf : FineF f) (hcl : Closed f) (hLk : Linked f) (dir : Int) (s : ByteArray) (hs : s.size ≤ maxLen) : Calls Tryz.prog 152 #[.pointer (some ⟨p, 0, none⟩), .int .i64 dir, .string s] w fun e w' => e = .returned (.int .i64 (RmdirM f dir s).1) ∧ FsP (All B) w w' p (RmdirM f dir s).2 := by
  have hlen : f.length ≤ 100000 := by have := hf.1; omega
  have hS := Lib.hid (fun (w1 : World) (hb : Below w.heap.size w w1) => FsP.of (show FsIs w B p f from ⟨sv, ps, h⟩) hb)
  by_cases h0 : (namedM f dir s).2.2.2 = 0
  · obtain ⟨i, D, j, J, x, he, hi, hdd, hj, hx⟩ := named_ok hcl h0
    obtain ⟨q, hq, dv, ev, hA⟩ := h.some_ i D hi
    obtain ⟨q2, hq2, dv2, ev2, hA2⟩ := h.some_ j J hj
    have hnm := Lib.hid (named_yes h hf hcl dir s hs he hq2)
    have hdj := Lib.hid (fun (W : World) (hb : Below w.heap.size w W) => isDir_any (hA2.below hb))
    have hnd := Lib.hid (fun (W : World) (hb : Below w.heap.size w W) => node_yes (h.below hb) hq hlen)
    have hmy := Lib.hid (fun (W : World) (hb : Below w.heap.size w W) => may_any (hA.below hb) 2)
    have hul := Lib.hid (fun (W : World) (hb : Below w.heap.size w W) => (unlink_any (h.below hb) hf hi hj x hx (hLk i D x j J hi hx hj)).mono fun e w' h9 => And.intro h9.1 (FsP.after hb h9.2))
    obtain ⟨a5, c5, rfl⟩ := ownsRow_slice hA2.ent
    obtain ⟨m, hm5⟩ : ∃ m, J.ents.length = m := ⟨_, rfl⟩
    have k5 := Lib.hid (fun (W : World) (hb : Below w.heap.size w W) => show W.cell? ⟨q2, 5, none⟩ = some (.slice a5 m c5) by rw [← hm5]; exact (hA2.below hb).blk.cell 5)
    have hM : RmdirM f dir s = if J.isDir = true then (if 0 < J.ents.length then (39, f) else if D.may 2 = true then (0, unlinkM f (i + 1) x) else (13, f)) else (20, f) := by
      unfold RmdirM
      rw [he]
      dsimp only
      rw [if_neg (fun h => h rfl), show ((j + 1 : Nat) : Int) = (j : Int) + 1 by omega, node_at hj, node_at hi, show ((i : Int) + 1).toNat = i + 1 by omega]
    rw [hM, hm5]
    clear hM h hf hcl hLk h0 he hi hdd hj hx hq hA hq2 hA2 hm5
    cases hd : J.isDir with
    | true =>
      rw [hd] at hdj
      rw [if_pos rfl]
      clear hd
      by_cases h5 : 0 < m
      · rw [if_pos h5]
        go_enter Tryz.func152, Tryz.ntmps152
        go_wp2_with (first | (go_at_call 206; refine hnm.out.mono ?_; rintro e w1 ⟨rfl, hb1⟩; have c5' := k5.out _ hb1) | (go_at_call 132; refine (hdj.out _ hb1).mono ?_; rintro e w' ⟨rfl, rfl⟩))
        go_ret
        exact ⟨rfl, hS.out _ hb1⟩
      · rw [if_neg h5]
        cases hm : D.may 2 with
        | true =>
          rw [hm] at hmy
          rw [if_pos rfl]
          clear hm
          go_enter Tryz.func152, Tryz.ntmps152
          go_wp2_with (first | (go_at_call 206; refine hnm.out.mono ?_; rintro e w1 ⟨rfl, hb1⟩; have c5' := k5.out _ hb1) | (go_at_call 132; refine (hdj.out _ hb1).mono ?_; rintro e w' ⟨rfl, rfl⟩) | (go_at_call 58; refine (hnd.out _ hb1).mono ?_; rintro e w' ⟨rfl, rfl⟩) | (go_at_call 208; refine (hmy.out _ hb1).mono ?_; rintro e w' ⟨rfl, rfl⟩) | (go_at_call 209; refine (hul.out _ hb1).mono ?_; rintro e w2 ⟨rfl, hP2⟩))
          go_ret
          exact ⟨rfl, hP2⟩
        | false =>
          rw [hm] at hmy
          rw [if_neg (by decide)]
          clear hm
          go_enter Tryz.func152, Tryz.ntmps152
          go_wp2_with (first | (go_at_call 206; refine hnm.out.mono ?_; rintro e w1 ⟨rfl, hb1⟩; have c5' := k5.out _ hb1) | (go_at_call 132; refine (hdj.out _ hb1).mono ?_; rintro e w' ⟨rfl, rfl⟩) | (go_at_call 58; refine (hnd.out _ hb1).mono ?_; rintro e w' ⟨rfl, rfl⟩) | (go_at_call 208; refine (hmy.out _ hb1).mono ?_; rintro e w' ⟨rfl, rfl⟩))
          go_ret
          exact ⟨rfl, hS.out _ hb1⟩
    | false =>
      rw [hd] at hdj
      rw [if_neg (by decide)]
      clear hd
      go_enter Tryz.func152, Tryz.ntmps152
      go_wp2_with (first | (go_at_call 206; refine hnm.out.mono ?_; rintro e w1 ⟨rfl, hb1⟩) | (go_at_call 132; refine (hdj.out _ hb1).mono ?_; rintro e w' ⟨rfl, rfl⟩))
      go_ret
      exact ⟨rfl, hS.out _ hb1⟩
  · have hnm := Lib.hid (named_err h hf hcl dir s hs h0)
    have hM : RmdirM f dir s = ((namedM f dir s).2.2.2, f) := by unfold RmdirM; rw [if_pos h0]
    rw [hM]
    obtain ⟨er, her⟩ : ∃ y, (namedM f dir s).2.2.2 = y := ⟨_, rfl⟩
    rw [her] at hnm h0 ⊢
    have h1' : ¬ (er : Int) = 0 := by omega
    clear h hf hcl hLk hM her
    go_enter Tryz.func152, Tryz.ntmps152
    go_wp2_with (first | (go_at_call 206; refine hnm.out.mono ?_; rintro e w1 ⟨rfl, hb1⟩))
    go_ret
    exact ⟨rfl, hS.out _ hb1⟩
end
end Go.Proofs.YtmilagppbepnbaaGreat
/- Link. Condition: the tree lies as stated. -/
namespace Go.Proofs.YtmilagppbepnbaaGreat
open Go.RowKit Go.Shelf Go.PlainAid
attribute [local go_sem] Oper.semAt_some
theorem WalkM_dir {f : Fs} {dir : Int} {s : ByteArray} (h : (WalkM f dir s).2 = 0) : isDir f dir = true := by
  unfold WalkM at h
  cases hd : isDir f dir with
  | false => rw [hd] at h; cases h
  | true => rfl
theorem walk_live {f : Fs} (hc : Closed f) {dir : Int} {s : ByteArray} (h : (WalkM f dir s).2 = 0) : (node f (WalkM f dir s).1).isSome := by
  have hd := WalkM_dir h
  unfold WalkM at h ⊢
  rw [if_pos hd] at h ⊢
  unfold walkM at h ⊢
  split at h
  · contradiction
  · rename_i h0
    rw [if_neg h0]
    split at h
    · contradiction
    · rename_i h1
      rw [if_neg h1]
      split at h
      · cases h
      · rename_i h2
        rw [if_neg h2]
        exact steps_live hc _ _ (begin_live hc (isDir_live hd) s (by omega)) (by omega)
def LinkM (f : Fs) (dir : Int) (s t : ByteArray) : Nat × Fs :=
  if (WalkM f dir s).2 ≠ 0 then ((WalkM f dir s).2, f) else if isDir f (WalkM f dir s).1 = true then (21, f)
  else if (aheadM f dir t).2.2 ≠ 0 then ((aheadM f dir t).2.2, f) else if slashed t = true then (21, f)
  else if mayAddM f (aheadM f dir t).1 (aheadM f dir t).2.1 ≠ 0 then (mayAddM f (aheadM f dir t).1 (aheadM f dir t).2.1, f)
  else (0, setLinks (setEnts f (aheadM f dir t).1.toNat (fun l => addM l (aheadM f dir t).2.1 (WalkM f dir s).1.toNat)) (WalkM f dir s).1.toNat (· + 1))
section
variable {w : World} {B : Nat → Nat → Prop} {p : Nat} {f : Fs} {sv : Value} {ps : List (Option Nat)}
theorem link_tail (h : FsAt w B p f sv ps) (hf : FineF f) {i j : Nat} {D J : Ino} (hi : f[i]? = some (some D)) (hj : f[j]? = some (some J)) (x : ByteArray) :
    ∃ q, Calls Tryz.prog 58 #[.pointer (some ⟨p, 0, none⟩), .int .i64 ((i : Int) + 1)] w (fun e w' => e = .returned (.pointer (some ⟨q, 0, none⟩)) ∧ w' = w) ∧
    Calls Tryz.prog 214 #[.pointer (some ⟨q, 0, none⟩), .string x, .int .i64 ((j : Int) + 1)] w (fun e w2 => e = .returned (.tuple #[]) ∧ ∃ q2,
      Calls Tryz.prog 58 #[.pointer (some ⟨p, 0, none⟩), .int .i64 ((j : Int) + 1)] w2 (fun e w' => e = .returned (.pointer (some ⟨q2, 0, none⟩)) ∧ w' = w2) ∧
      w2.cell? ⟨q2, 2, none⟩ = some (.int .i64 J.links) ∧ w2.frozen? ⟨q2, 2, none⟩ = false ∧
      FsP (All B) w (w2.setCell ⟨q2, 2, none⟩ (.int .i64 ((J.links : Int) + 1))) p (setLinks (setEnts f (i + 1) (fun l => addM l x (j + 1))) (j + 1) (· + 1))) := by
  have hlen : f.length ≤ 100000 := by have := hf.1; omega
  obtain ⟨q, hq, dv, ev, hA⟩ := h.some_ i D hi
  have hil := (List.getElem?_eq_some_iff.1 hi).1
  have hjl := (List.getElem?_eq_some_iff.1 hj).1
  refine ⟨q, node_yes h hq hlen, ?_⟩
  have h9 := add_any hA (hf.2 i D hi) x (j + 1)
  rw [show ((j + 1 : Nat) : Int) = (j : Int) + 1 by omega] at h9
  refine h9.mono fun e w2 h9 => ⟨h9.1, ?_⟩
  have hf1 : setEnts f (i + 1) (fun l => addM l x (j + 1)) = f.set i (some { D with ents := addM D.ents x (j + 1) }) := setEnts_at hi _
  obtain ⟨J1, hJ1, hJl⟩ : ∃ J1, (setEnts f (i + 1) (fun l => addM l x (j + 1)))[j]? = some (some J1) ∧ J1.links = J.links := by
    rw [hf1]
    by_cases e : i = j
    · subst e
      rw [List.getElem?_set_self hil]
      exact ⟨_, rfl, by rw [hi] at hj; cases hj; rfl⟩
    · exact ⟨J, by rw [List.getElem?_set_ne e]; exact hj, rfl⟩
  have h10 := h.turnP hil hq h9.2
  rw [← hf1] at h10
  obtain ⟨B1, ⟨sv1, ps1, h1⟩, k2, k3⟩ := h10
  obtain ⟨q2, hq2, dv2, ev2, hA2⟩ := h1.some_ j J1 hJ1
  have c2 := hA2.blk.cell 2
  refine ⟨q2, node_yes h1 hq2 (by rw [hf1, List.length_set]; exact hlen), by rw [← hJl]; exact c2, hA2.blk.frozen 2, ?_⟩
  rw [setLinks_at hJ1]
  have h11 := h1.turnP (by rw [hf1, List.length_set]; exact hjl) hq2 (hA2.field (Below.refl _ _) 2 (.int .i64 ((J1.links + 1 : Nat) : Int)) { J1 with links := J1.links + 1 } rfl rfl rfl)
  rw [show ((J1.links + 1 : Nat) : Int) = (J.links : Int) + 1 by omega] at h11
  exact FsP.join k2 k3 h11
set_option maxHeartbeats 1000000 in
theorem link_any (h : FsAt w B p f sv ps) (hf : FineF f) (hcl : Closed f) (dir : Int) (s t : ByteArray) (hs : s.size ≤ maxLen) (ht : t.size ≤ maxLen) : Calls Tryz.prog 154 #[.pointer (some ⟨p, 0, none⟩), .int .i64 dir, .string s, .string t] w fun e w' => e = .returned (.int .i64 (LinkM f dir s t).1) ∧ FsP (All B) w w' p (LinkM f dir s t).2 := by
  have hlen : f.length ≤ 100000 := by have := hf.1; omega
  have hS := Lib.hid (fun (w1 : World) (hb : Below w.heap.size w w1) => FsP.of (show FsIs w B p f from ⟨sv, ps, h⟩) hb)
  have hwk := Lib.hid (Walk_any h hf hcl dir s hs)
  unfold LinkM
  by_cases h0 : (WalkM f dir s).2 = 0
  · rw [if_neg (fun h => h h0)]
    obtain ⟨J, hJ⟩ := Option.isSome_iff_exists.1 (walk_live hcl h0)
    obtain ⟨j, hk, _, hj⟩ := node_some hJ
    have hdl := isDir_live (WalkM_dir h0)
    have hid := Lib.hid (fun (W : World) (hb : Below w.heap.size w W) => isDir_fs (h.below hb) ((j : Int) + 1) hlen)
    have hah := Lib.hid (fun (W : World) (hb : Below w.heap.size w W) => ((ahead_any (h.below hb) hf hcl dir hdl t ht).mono fun e w' h9 => And.intro h9.1 (show Below w.heap.size w w' from hb.trans (below_of h9.2 hb.size))))
    rw [h0, hk] at hwk
    rw [hk, show ((j : Int) + 1).toNat = j + 1 by omega]
    have hll := (hf.2 j J hj).ll
    cases hd : isDir f ((j : Int) + 1) with
    | true =>
      rw [hd] at hid
      rw [if_pos rfl]
      clear h hf hcl h0 hJ hk hj hdl hah hd
      go_enter Tryz.func154, Tryz.ntmps154
      go_wp2_with (first | (go_at_call 147; refine hwk.out.mono ?_; rintro e w1 ⟨rfl, hb1⟩) | (go_at_call 130; refine (hid.out _ hb1).mono ?_; rintro e w' ⟨rfl, rfl⟩))
      go_ret
      exact ⟨rfl, hS.out _ hb1⟩
    | false =>
      rw [hd] at hid
      rw [if_neg (by decide)]
      by_cases h1 : (aheadM f dir t).2.2 = 0
      · rw [if_neg (fun h => h h1)]
        obtain ⟨D, hD, _⟩ := ahead_live h1
        obtain ⟨i, hn, _, hi⟩ := node_some hD
        obtain ⟨x, hx⟩ : ∃ y, (aheadM f dir t).2.1 = y := ⟨_, rfl⟩
        rw [h1, hn, hx] at hah
        rw [hn, hx, show ((i : Int) + 1).toNat = i + 1 by omega]
        have hma := Lib.hid (fun (W : World) (hb : Below w.heap.size w W) => ((mayAdd_any (h.below hb) (node_at hi) hf x).mono fun e w' h9 => And.intro h9.1 (show Below w.heap.size w w' from hb.trans (below_of h9.2 hb.size))))
        have htl := Lib.hid (fun (W : World) (hb : Below w.heap.size w W) => show ∃ q, Calls Tryz.prog 58 #[.pointer (some ⟨p, 0, none⟩), .int .i64 ((i : Int) + 1)] W (fun e w' => e = .returned (.pointer (some ⟨q, 0, none⟩)) ∧ w' = W) ∧
          Calls Tryz.prog 214 #[.pointer (some ⟨q, 0, none⟩), .string x, .int .i64 ((j : Int) + 1)] W (fun e w2 => e = .returned (.tuple #[]) ∧ ∃ q2,
          Calls Tryz.prog 58 #[.pointer (some ⟨p, 0, none⟩), .int .i64 ((j : Int) + 1)] w2 (fun e w' => e = .returned (.pointer (some ⟨q2, 0, none⟩)) ∧ w' = w2) ∧
          w2.cell? ⟨q2, 2, none⟩ = some (.int .i64 J.links) ∧ w2.frozen? ⟨q2, 2, none⟩ = false ∧
          FsP (All B) w (w2.setCell ⟨q2, 2, none⟩ (.int .i64 ((J.links : Int) + 1))) p (setLinks (setEnts f (i + 1) (fun l => addM l x (j + 1))) (j + 1) (· + 1))) by
          obtain ⟨q, e1, e2⟩ := link_tail (h.below hb) hf hi hj x
          exact ⟨q, e1, e2.mono fun e w2 ⟨h9, q2, k1, k2, k3, k4⟩ => ⟨h9, q2, k1, k2, k3, FsP.after hb k4⟩⟩)
        cases hsl : slashed t with
        | true =>
          rw [if_pos rfl]
          clear h hf hcl h0 hJ hk hj hdl hd h1 hD hn hi hx htl hma
          go_enter Tryz.func154, Tryz.ntmps154
          go_wp2_with (first | (go_at_call 147; refine hwk.out.mono ?_; rintro e w1 ⟨rfl, hb1⟩) | (go_at_call 130; refine (hid.out _ hb1).mono ?_; rintro e w' ⟨rfl, rfl⟩) | (go_at_call 210; refine (hah.out _ hb1).mono ?_; rintro e w2 ⟨rfl, hb2⟩) | (go_at_call 207; refine (slashed_any t _ ht).mono ?_; rintro e w' ⟨rfl, rfl⟩; rw [hsl]))
          go_ret
          exact ⟨rfl, hS.out _ hb2⟩
        | false =>
          rw [if_neg (by decide)]
          by_cases h2 : mayAddM f ((i : Int) + 1) x = 0
          · rw [if_neg (fun h => h h2)]
            rw [h2] at hma
            clear h hf hcl h0 hJ hk hj hdl hd h1 hD hn hi hx h2
            go_enter Tryz.func154, Tryz.ntmps154
            go_wp2_with (first | (go_at_call 147; refine hwk.out.mono ?_; rintro e w1 ⟨rfl, hb1⟩) | (go_at_call 130; refine (hid.out _ hb1).mono ?_; rintro e w' ⟨rfl, rfl⟩) | (go_at_call 210; refine (hah.out _ hb1).mono ?_; rintro e w2 ⟨rfl, hb2⟩) | (go_at_call 207; refine (slashed_any t _ ht).mono ?_; rintro e w' ⟨rfl, rfl⟩; rw [hsl]) | (go_at_call 215; refine (hma.out _ hb2).mono ?_; rintro e w3 ⟨rfl, hb3⟩) | (go_at_call 58; refine hn2.mono ?_; rintro e w' ⟨rfl, rfl⟩) | (go_at_call 58; obtain ⟨q, hnq, haq⟩ := htl.out _ hb3; refine hnq.mono ?_; rintro e w' ⟨rfl, rfl⟩) | (go_at_call 214; refine haq.mono ?_; rintro e w4 ⟨rfl, q2, hn2, c2, g2, hP2⟩))
            go_ret
            exact ⟨rfl, hP2⟩
          · rw [if_pos h2]
            obtain ⟨er, her⟩ : ∃ y, mayAddM f ((i : Int) + 1) x = y := ⟨_, rfl⟩
            rw [her] at hma h2 ⊢
            have h1' : ¬ (er : Int) = 0 := by omega
            clear h hf hcl h0 hJ hk hj hdl hd h1 hD hn hi hx htl her
            go_enter Tryz.func154, Tryz.ntmps154
            go_wp2_with (first | (go_at_call 147; refine hwk.out.mono ?_; rintro e w1 ⟨rfl, hb1⟩) | (go_at_call 130; refine (hid.out _ hb1).mono ?_; rintro e w' ⟨rfl, rfl⟩) | (go_at_call 210; refine (hah.out _ hb1).mono ?_; rintro e w2 ⟨rfl, hb2⟩) | (go_at_call 207; refine (slashed_any t _ ht).mono ?_; rintro e w' ⟨rfl, rfl⟩; rw [hsl]) | (go_at_call 215; refine (hma.out _ hb2).mono ?_; rintro e w3 ⟨rfl, hb3⟩))
            go_ret
            exact ⟨rfl, hS.out _ hb3⟩
      · rw [if_pos h1]
        obtain ⟨er, her⟩ : ∃ y, (aheadM f dir t).2.2 = y := ⟨_, rfl⟩
        rw [her] at hah h1 ⊢
        have h1' : ¬ (er : Int) = 0 := by omega
        clear h hf hcl h0 hJ hk hj hdl hd her
        go_enter Tryz.func154, Tryz.ntmps154
        go_wp2_with (first | (go_at_call 147; refine hwk.out.mono ?_; rintro e w1 ⟨rfl, hb1⟩) | (go_at_call 130; refine (hid.out _ hb1).mono ?_; rintro e w' ⟨rfl, rfl⟩) | (go_at_call 210; refine (hah.out _ hb1).mono ?_; rintro e w2 ⟨rfl, hb2⟩))
        go_ret
        exact ⟨rfl, hS.out _ hb2⟩
  · rw [if_pos h0]
    obtain ⟨er, her⟩ : ∃ y, (WalkM f dir s).2 = y := ⟨_, rfl⟩
    rw [her] at hwk h0 ⊢
    have h1' : ¬ (er : Int) = 0 := by omega
    clear h hf hcl her
    go_enter Tryz.func154, Tryz.ntmps154
    go_wp2_with (first | (go_at_call 147; refine hwk.out.mono ?_; rintro e w1 ⟨rfl, hb1⟩))
    go_ret
    exact ⟨rfl, hS.out _ hb1⟩
end
end Go.Proofs.YtmilagppbepnbaaGreat
/- holds: up the parents. Condition: the tree lies as stated; the parents lead to the root. -/
namespace Go.Proofs.YtmilagppbepnbaaGreat
open Go.RowKit Go.Shelf Go.PlainAid
attribute [local go_sem] Oper.semAt_some
/-- The parents lead to the root in d steps. -/
inductive Deep (f : Fs) : Nat → Nat → Prop
  | root : Deep f 0 1
  | up (d n : Nat) (I : Ino) (h1 : n ≠ 1) (hn : node f (n : Int) = some I) (h : Deep f d I.parent) : Deep f (d + 1) n
theorem Deep.uniq {f : Fs} {d n : Nat} (h : Deep f d n) : ∀ {e : Nat}, Deep f e n → d = e := by
  induction h with
  | root =>
    intro e h
    cases h with
    | root => rfl
    | up _ _ _ h1 _ _ => exact absurd rfl h1
  | up d n I h1 hn h ih =>
    intro e k
    cases k with
    | root => exact absurd rfl h1
    | up e' _ J _ hn' k' =>
      rw [hn] at hn'
      cases hn'
      rw [ih k']
open Classical in
noncomputable def dep (f : Fs) (n : Nat) : Nat := if h : ∃ d, Deep f d n then Classical.choose h else 0
theorem dep_eq {f : Fs} {d n : Nat} (h : Deep f d n) : dep f n = d := by
  have hx : ∃ d, Deep f d n := ⟨d, h⟩
  unfold dep
  rw [dif_pos hx]
  exact ((Classical.choose_spec hx).uniq h)
/-- Is one directory another, or above it? -/
def holdsM (f : Fs) : Nat → Nat → Nat → Bool
  | 0, a, n => n == a
  | d + 1, a, n => if n = a then true else match node f (n : Int) with
    | none => false
    | some I => holdsM f d a I.parent
section
variable {w : World} {B : Nat → Nat → Prop} {p : Nat} {f : Fs} {sv : Value} {ps : List (Option Nat)}
set_option maxHeartbeats 1000000 in
theorem holds_any (h : FsAt w B p f sv ps) (hf : FineF f) (a n d : Nat) (hd : Deep f d n) : Calls Tryz.prog 255 #[.pointer (some ⟨p, 0, none⟩), .int .i64 a, .int .i64 n] w fun e w' => e = .returned (.bool (holdsM f d a n)) ∧ w' = w := by
  have hlen : f.length ≤ 100000 := by have := hf.1; omega
  have hH := Lib.hid h
  obtain ⟨r, hr⟩ : ∃ r, holdsM f d a n = r := ⟨_, rfl⟩
  rw [hr]
  have hdH := Lib.hid hd
  have hrH := Lib.hid hr
  clear h hf hd hr
  go_enter Tryz.func255, Tryz.ntmps255
  go_wp2
  go_loopw [2] (fun s2 wr => ∃ k m : Nat, s2 = .int .i64 m ∧ w = wr ∧ Hid (Deep f k m) ∧ Hid (holdsM f k a m = r)) (fun s2 _ => dep f (intOf s2).toNat)
  case atStart => exact ⟨d, n, rfl, rfl, hdH, hrH⟩
  case round =>
    obtain ⟨k, m, rfl, rfl, hk, hm⟩ := hrel
    by_cases e1 : m = a
    · subst e1
      have hr2 : Hid (r = true) := Lib.hid (by
        rw [← hm.out]
        cases k with
        | zero => simp [holdsM]
        | succ k => simp [holdsM])
      go_wp2
      go_ret
      exact ⟨by rw [hr2.out]; rfl, rfl⟩
    · by_cases e2 : m = 1
      · subst e2
        have hr2 : Hid (r = false) := Lib.hid (by
          have h9 := hk.out.uniq Deep.root
          subst h9
          rw [← hm.out]
          simp [holdsM, e1])
        have x1 : ((1 : Int) != (a : Int)) = true := bne_iff_ne.2 (by omega)
        have x2 : ((1 : Int) == (a : Int)) = false := beq_eq_false_iff_ne.2 (by omega)
        go_wp2
        go_ret
        refine ⟨?_, rfl⟩
        rw [hr2.out]
        simp
      · obtain ⟨k, rfl⟩ : ∃ k', k = k' + 1 := by
          cases k with
          | zero =>
            have h9 := hk.out
            cases h9
            exact absurd rfl e2
          | succ k => exact ⟨k, rfl⟩
        obtain ⟨I, hn, hdI⟩ : ∃ I, node f (m : Int) = some I ∧ Deep f k I.parent := by
          have h9 := hk.out
          cases h9 with
          | up _ _ I _ hn hI => exact ⟨I, hn, hI⟩
        have hm2 : Hid (holdsM f k a I.parent = r) := Lib.hid (by
          have h9 := hm.out
          unfold holdsM at h9
          rw [if_neg e1, hn] at h9
          exact h9)
        have hme := Lib.hid (show dep f I.parent < dep f m by rw [dep_eq hdI, dep_eq hk.out]; omega)
        obtain ⟨i, q, hi, _, _, hq, dv, ev, hA⟩ := node_where hH.out hn
        have hnd := Lib.hid (node_yes hH.out hq hlen)
        rw [← hi] at hnd
        have c6 : w.cell? ⟨q, 6, none⟩ = some (.int .i64 I.parent) := hA.blk.cell 6
        have hdH2 := Lib.hid hdI
        have x1 : ((m : Int) != (a : Int)) = true := bne_iff_ne.2 (by omega)
        have x2 : ((m : Int) != 1) = true := bne_iff_ne.2 (by omega)
        clear hn hdI hi hq hA
        go_wp2_with (go_at_call 58; refine hnd.out.mono ?_; rintro e w' ⟨rfl, rfl⟩)
        go_roundw
        case rel => exact ⟨k, I.parent, rfl, trivial, hdH2, hm2⟩
        case measure => simpa [intOf] using hme.out
end
end Go.Proofs.YtmilagppbepnbaaGreat
/- mayReplace. Condition: the tree lies as stated; the parents lead to the root. -/
namespace Go.Proofs.YtmilagppbepnbaaGreat
open Go.RowKit Go.Shelf Go.PlainAid
attribute [local go_sem] Oper.semAt_some
def fullM (f : Fs) (n : Nat) : Bool := match node f (n : Int) with
  | none => false
  | some I => decide (0 < I.ents.length)
def mayReplaceM (f : Fs) (d a old t : Nat) : Nat :=
  if old = 0 then (if isDir f a = true then (if holdsM f d a t = true then 22 else 0) else 0)
  else if isDir f a = true then (if isDir f old = true then (if holdsM f d a t = true then 22 else if fullM f old = true then 39 else 0) else 20)
  else if isDir f old = true then 21 else if fullM f old = true then 39 else 0
section
variable {w : World} {B : Nat → Nat → Prop} {p : Nat} {f : Fs} {sv : Value} {ps : List (Option Nat)}
set_option maxHeartbeats 1000000 in
theorem mayReplace_any (h : FsAt w B p f sv ps) (hf : FineF f) (a old t d : Nat) (hd : Deep f d t) (ho : old ≠ 0 → (node f (old : Int)).isSome) : Calls Tryz.prog 212 #[.pointer (some ⟨p, 0, none⟩), .int .i64 a, .int .i64 old, .int .i64 t] w fun e w' => e = .returned (.int .i64 (mayReplaceM f d a old t : Nat)) ∧ w' = w := by
  have hlen : f.length ≤ 100000 := by have := hf.1; omega
  have hdi := Lib.hid (isDir_fs h (a : Int) hlen)
  have hdo := Lib.hid (isDir_fs h (old : Int) hlen)
  have hho := Lib.hid (holds_any h hf a t d hd)
  unfold mayReplaceM
  by_cases h0 : old = 0
  · subst h0
    rw [if_pos rfl]
    clear h hf hd ho hdo
    cases hda : isDir f (a : Int) with
    | true =>
      rw [hda] at hdi
      rw [if_pos rfl]
      cases hh : holdsM f d a t with
      | true =>
        rw [hh] at hho
        rw [if_pos rfl]
        clear hda hh
        go_enter Tryz.func212, Tryz.ntmps212
        go_wp2_with (first | (go_at_call 130; with_reducible refine hdi.out.mono ?_; rintro e w' ⟨rfl, rfl⟩) | (go_at_call 255; refine hho.out.mono ?_; rintro e w' ⟨rfl, rfl⟩))
        go_ret
        exact ⟨rfl, rfl⟩
      | false =>
        rw [hh] at hho
        rw [if_neg (by decide)]
        clear hda hh
        go_enter Tryz.func212, Tryz.ntmps212
        go_wp2_with (first | (go_at_call 130; with_reducible refine hdi.out.mono ?_; rintro e w' ⟨rfl, rfl⟩) | (go_at_call 255; refine hho.out.mono ?_; rintro e w' ⟨rfl, rfl⟩))
        go_ret
        exact ⟨rfl, rfl⟩
    | false =>
      rw [hda] at hdi
      rw [if_neg (by decide)]
      clear hda
      go_enter Tryz.func212, Tryz.ntmps212
      go_wp2_with (first | (go_at_call 130; with_reducible refine hdi.out.mono ?_; rintro e w' ⟨rfl, rfl⟩))
      go_ret
      exact ⟨rfl, rfl⟩
  · rw [if_neg h0]
    have x1 : ((old : Int) != 0) = true := bne_iff_ne.2 (by omega)
    obtain ⟨I, hI⟩ := Option.isSome_iff_exists.1 (ho h0)
    obtain ⟨i, q, hk, _, _, hq, dv, ev, hA⟩ := node_where h hI
    have hnd := Lib.hid (node_yes h hq hlen)
    rw [← hk] at hnd
    obtain ⟨a5, c5, rfl⟩ := ownsRow_slice hA.ent
    obtain ⟨m, hm⟩ : ∃ m, I.ents.length = m := ⟨_, rfl⟩
    have k5 : w.cell? ⟨q, 5, none⟩ = some (.slice a5 m c5) := by rw [← hm]; exact hA.blk.cell 5
    have hfu : fullM f old = decide (0 < m) := by unfold fullM; rw [hI, ← hm]
    rw [hfu]
    clear h hf hd ho hI hk hq hA hm hfu
    cases hda : isDir f (a : Int) with
    | true =>
      rw [hda] at hdi
      rw [if_pos rfl]
      cases hdb : isDir f (old : Int) with
      | true =>
        rw [hdb] at hdo
        rw [if_pos rfl]
        cases hh : holdsM f d a t with
        | true =>
          rw [hh] at hho
          rw [if_pos rfl]
          clear hda hdb hh
          go_enter Tryz.func212, Tryz.ntmps212
          go_wp2_with (first | (go_at_call 130; with_reducible refine hdi.out.mono ?_; rintro e w' ⟨rfl, rfl⟩) | (go_at_call 130; with_reducible refine hdo.out.mono ?_; rintro e w' ⟨rfl, rfl⟩) | (go_at_call 255; refine hho.out.mono ?_; rintro e w' ⟨rfl, rfl⟩))
          go_ret
          exact ⟨rfl, rfl⟩
        | false =>
          rw [hh] at hho
          rw [if_neg (by decide)]
          clear hda hdb hh
          by_cases h5 : 0 < m
          · rw [if_pos (decide_eq_true h5)]
            go_enter Tryz.func212, Tryz.ntmps212
            go_wp2_with (first | (go_at_call 130; with_reducible refine hdi.out.mono ?_; rintro e w' ⟨rfl, rfl⟩) | (go_at_call 130; with_reducible refine hdo.out.mono ?_; rintro e w' ⟨rfl, rfl⟩) | (go_at_call 255; refine hho.out.mono ?_; rintro e w' ⟨rfl, rfl⟩) | (go_at_call 58; refine hnd.out.mono ?_; rintro e w' ⟨rfl, rfl⟩))
            go_ret
            exact ⟨rfl, rfl⟩
          · rw [if_neg (by simpa using h5)]
            go_enter Tryz.func212, Tryz.ntmps212
            go_wp2_with (first | (go_at_call 130; with_reducible refine hdi.out.mono ?_; rintro e w' ⟨rfl, rfl⟩) | (go_at_call 130; with_reducible refine hdo.out.mono ?_; rintro e w' ⟨rfl, rfl⟩) | (go_at_call 255; refine hho.out.mono ?_; rintro e w' ⟨rfl, rfl⟩) | (go_at_call 58; refine hnd.out.mono ?_; rintro e w' ⟨rfl, rfl⟩))
            go_ret
            exact ⟨rfl, rfl⟩
      | false =>
        rw [hdb] at hdo
        rw [if_neg (by decide)]
        clear hda hdb
        go_enter Tryz.func212, Tryz.ntmps212
        go_wp2_with (first | (go_at_call 130; with_reducible refine hdi.out.mono ?_; rintro e w' ⟨rfl, rfl⟩) | (go_at_call 130; with_reducible refine hdo.out.mono ?_; rintro e w' ⟨rfl, rfl⟩))
        go_ret
        exact ⟨rfl, rfl⟩
    | false =>
      rw [hda] at hdi
      rw [if_neg (by decide)]
      cases hdb : isDir f (old : Int) with
      | true =>
        rw [hdb] at hdo
        rw [if_pos rfl]
        clear hda hdb
        go_enter Tryz.func212, Tryz.ntmps212
        go_wp2_with (first | (go_at_call 130; with_reducible refine hdi.out.mono ?_; rintro e w' ⟨rfl, rfl⟩) | (go_at_call 130; with_reducible refine hdo.out.mono ?_; rintro e w' ⟨rfl, rfl⟩))
        go_ret
        exact ⟨rfl, rfl⟩
      | false =>
        rw [hdb] at hdo
        rw [if_neg (by decide)]
        clear hda hdb
        by_cases h5 : 0 < m
        · rw [if_pos (decide_eq_true h5)]
          go_enter Tryz.func212, Tryz.ntmps212
          go_wp2_with (first | (go_at_call 130; with_reducible refine hdi.out.mono ?_; rintro e w' ⟨rfl, rfl⟩) | (go_at_call 130; with_reducible refine hdo.out.mono ?_; rintro e w' ⟨rfl, rfl⟩) | (go_at_call 58; refine hnd.out.mono ?_; rintro e w' ⟨rfl, rfl⟩))
          go_ret
          exact ⟨rfl, rfl⟩
        · rw [if_neg (by simpa using h5)]
          go_enter Tryz.func212, Tryz.ntmps212
          go_wp2_with (first | (go_at_call 130; with_reducible refine hdi.out.mono ?_; rintro e w' ⟨rfl, rfl⟩) | (go_at_call 130; with_reducible refine hdo.out.mono ?_; rintro e w' ⟨rfl, rfl⟩) | (go_at_call 58; refine hnd.out.mono ?_; rintro e w' ⟨rfl, rfl⟩))
          go_ret
          exact ⟨rfl, rfl⟩
end
end Go.Proofs.YtmilagppbepnbaaGreat
/- List. Condition: the tree lies as stated. -/
namespace Go.Proofs.YtmilagppbepnbaaGreat
open Go.RowKit Go.Shelf Go.PlainAid
attribute [local go_sem] Oper.semAt_some
def strs (l : List ByteArray) : List Value := l.map Value.string
theorem infoS : (Tryz.prog.info? 9).map (fun i => (i.zero, i.size, i.bytes)) = some (some (.string ⟨#[]⟩), 1, 16) := by kernel_rfl
theorem row_ge {w : World} {b : Nat} {e : TypeId} {s n : Nat} {v : Value} {xs : List Value} (h : w.ownsRow b e s v n xs) {g : Nat} (hg : v.ownBlock = some g) : b ≤ g := by
  rcases h.2 with ⟨rfl, _⟩ | ⟨g', cap, cur, rfl, hb, _⟩
  · simp [Value.ownBlock] at hg
  · obtain rfl : g' = g := by simpa [Value.ownBlock] using hg
    exact hb
theorem below_grownR {w w1 w2 : World} {n : Nat} {r : Option Nat} (hb : Below n w w1) (hn : n ≤ w1.heap.size) (hg : w1.grownBy w2 r) (hr : ∀ g, r = some g → n ≤ g) : Below n w w2 :=
  ⟨hg.os.trans hb.os, hg.tape.trans hb.tape, hg.output.trans hb.output, Nat.le_trans hb.size hg.size, fun g h => (hg.block g (by omega) (fun e => by have := hr g e.symm; omega)).trans (hb.block g h)⟩
def ListM (f : Fs) (n : Int) : List ByteArray × Nat := match node f n with
  | none => ([], 9)
  | some I => if I.isDir = true then (nms I.ents, 0) else ([], 20)
section
variable {w : World} {B : Nat → Nat → Prop} {p : Nat} {f : Fs} {sv : Value} {ps : List (Option Nat)}
set_option maxRecDepth 100000 in
set_option maxHeartbeats 2000000 in
theorem list_any (h : FsAt w B p f sv ps) (hf : FineF f) (k : Int) : Calls Tryz.prog 129 #[.pointer (some ⟨p, 0, none⟩), .int .i64 k] w fun e w' => (∃ v, e = .returned (.tuple #[v, .int .i64 (ListM f k).2]) ∧ w'.ownsRow w.heap.size 9 1 v (ListM f k).1.length (strs (ListM f k).1)) ∧ Below w.heap.size w w' := by
  have hlen : f.length ≤ 100000 := by have := hf.1; omega
  cases hn : node f k with
  | none =>
    have hM : ListM f k = ([], 9) := by unfold ListM; rw [hn]
    have hc := Lib.hid (node_no h hn hlen)
    rw [hM]
    clear h hf hn hM
    go_enter Tryz.func129, Tryz.ntmps129
    go_wp2_with (go_at_call 58; refine hc.out.mono ?_; rintro e w' ⟨rfl, rfl⟩)
    go_ret2
    exact ⟨⟨_, rfl, World.ownsRow_nil _ _ _ _⟩, Below.refl _ _⟩
  | some I =>
    obtain ⟨i, q, rfl, hil, hi, hq, dv, ev, hA⟩ := node_where h hn
    have hM : ListM f ((i : Int) + 1) = if I.isDir = true then (nms I.ents, 0) else ([], 20) := by unfold ListM; rw [hn]
    rw [hM]
    have hc := Lib.hid (node_yes h hq hlen)
    have hdi := Lib.hid (isDir_any hA)
    have hfi := hf.2 i I hi
    obtain ⟨a2, c2, rfl⟩ := ownsRow_slice hA.ent
    cases hd : I.isDir with
    | false =>
      rw [hd] at hdi
      rw [if_neg (by decide)]
      clear h hf hn hM hi hq hA hd hfi
      go_enter Tryz.func129, Tryz.ntmps129
      go_wp2_with (first | (go_at_call 58; refine hc.out.mono ?_; rintro e w' ⟨rfl, rfl⟩) | (go_at_call 132; refine hdi.out.mono ?_; rintro e w' ⟨rfl, rfl⟩))
      go_ret2
      exact ⟨⟨_, rfl, World.ownsRow_nil _ _ _ _⟩, Below.refl _ _⟩
    | true =>
      rw [hd] at hdi
      rw [if_pos rfl]
      obtain ⟨i0, hi0, hz0, hz1, hz2⟩ := info_parts infoS
      have c5 : w.cell? ⟨q, 5, none⟩ = some (.slice a2 I.ents.length c2) := hA.blk.cell 5
      have hat : ∀ (i : Nat) (y : En), I.ents[i]? = some y → ∃ g, a2 = some ⟨g, 0, none⟩ ∧ g < w.heap.size ∧ w.cell? ⟨g, i * 2, none⟩ = some (.string y.1) ∧ w.cell? ⟨g, i * 2 + 1, none⟩ = some (.int .i64 y.2) := fun i y hy => by
        obtain ⟨g, cap, e, _, h1, _⟩ := row_at ecs_len hA.ent hy
        obtain ⟨rfl, rfl⟩ : a2 = some ⟨g, 0, none⟩ ∧ c2 = cap := by simpa using e
        have c0 := h1 0 _ rfl
        exact ⟨g, rfl, block_of_cell c0, c0, h1 1 _ rfl⟩
      have hel := hfi.el
      obtain ⟨L, hL⟩ : ∃ L, I.ents = L := ⟨_, rfl⟩
      rw [hL] at c5 hat hel ⊢
      obtain ⟨n, hn2⟩ : ∃ n, L.length = n := ⟨_, rfl⟩
      have hatH := Lib.hid hat
      have hnH := Lib.hid hn2
      rw [hn2] at c5 hel
      clear h hf hn hM hi hq hA hd hfi hat hL hn2
      go_enter Tryz.func129, Tryz.ntmps129
      go_wp2_with (first | (go_at_call 58; refine hc.out.mono ?_; rintro e w' ⟨rfl, rfl⟩) | (go_at_call 132; refine hdi.out.mono ?_; rintro e w' ⟨rfl, rfl⟩))
      go_loopw [7, 23] (fun s7 s23 wr => ∃ i : Nat, i ≤ n ∧ s23 = .int .i64 i ∧ Hid (Below w'.heap.size w' wr) ∧ Hid (wr.ownsRow w'.heap.size 9 1 s7 i (strs (nms (L.take i))))) (fun _ s23 _ => n - (intOf s23).toNat)
      case atStart => exact ⟨0, Nat.zero_le _, by go_num, Lib.hid (Below.refl _ _), Lib.hid (World.ownsRow_nil _ _ _ _)⟩
      case round =>
        obtain ⟨i, hi, rfl, hb, hR⟩ := hrel
        by_cases hlt : i < n
        · obtain ⟨y, hy⟩ : ∃ y, L[i]? = some y := ⟨_, List.getElem?_eq_getElem (by have := hnH.out; omega)⟩
          obtain ⟨g, rfl, hgl, c0, c1⟩ := hatH.out _ _ hy
          have d0 := (World.cell?_of_block (a := ⟨g, i * 2, none⟩) (hb.out.block g hgl)).trans c0
          have d1 := (World.cell?_of_block (a := ⟨g, i * 2 + 1, none⟩) (hb.out.block g hgl)).trans c1
          obtain ⟨ya, yn⟩ := y
          dsimp only at d0 d1
          have htk := Lib.hid (show strs (nms (L.take (i + 1))) = strs (nms (L.take i)) ++ [.string ya] by
            obtain ⟨h1, h2⟩ := List.getElem?_eq_some_iff.1 hy
            rw [List.take_succ_eq_append_getElem h1, h2]
            simp [strs, nms])
          obtain ⟨a7, c7, rfl⟩ := ownsRow_slice hR.out
          clear c0 c1 hy
          have hb2 := Lib.hid ((hb.out.alloc hb.out.size (.cells #[.string ya, .int .i64 yn] 290)).alloc (Nat.le_trans hb.out.size (by simp)) (.cells #[.string ya] 9))
          have hR2 := Lib.hid ((hR.out.alloc (.cells #[.string ya, .int .i64 yn] 290)).alloc (.cells #[.string ya] 9))
          have hN := Lib.hid (newB (wr.alloc (.cells #[.string ya, .int .i64 yn] 290)) #[.string ya] (t := 9) (wr.heap.size + 1) (by simp))
          have hsz := hb.out.size
          go_wp2_with (at_builtin; refine wpList_append_lies _ rfl _ _ 39 rfl w'.heap.size 9 i0 _ 1 _ Tryz.underlying39 hi0 hz0 hz1 hz2 rfl (by decide) (.slice a7 i c7) i _ rfl hR2.out ⟨wr.heap.size + 1, 0, none⟩ 1 1 [.string ya] rfl (by rfl) (fun j u hj => by
            rw [Addr.add_lit, Nat.zero_add]
            obtain ⟨rfl, rfl⟩ : j = 0 ∧ u = .string ya := by
              cases j with
              | zero => simp at hj; exact ⟨rfl, hj.symm⟩
              | succ j => simp at hj
            exact hN.out.cell 0) (fun u hu => by simp at hu; subst hu; rfl) (by decide) (by unfold maxLen; omega) (by omega) (by simp; omega) _ rfl ?_; intro gg cc wn hown' hgr hat' _; have hb3 := Lib.hid (below_grownR hb2.out (Nat.le_trans hb.out.size (by simp; omega)) hgr (fun g e => row_ge hR2.out e)); rw [← htk.out] at hown'; have hR3 := Lib.hid hown'; clear hown' hgr hat')
          go_roundw
          case rel => exact ⟨i + 1, by omega, by go_num, hb3, hR3⟩
          case measure => simp [intOf]; omega
        · obtain rfl : i = n := by omega
          have hR4 := hR.out
          rw [← hnH.out, List.take_length] at hR4
          have hR4H := Lib.hid hR4
          clear hR4
          go_wp2
          go_ret2
          refine ⟨⟨_, rfl, ?_⟩, hb.out⟩
          have h9 := hR4H.out
          rw [show (nms L).length = L.length by simp [nms]]
          exact h9
end
end Go.Proofs.YtmilagppbepnbaaGreat
/- The tree's entries, without a tree; joined at none. No condition. -/
namespace Go.Proofs.YtmilagppbepnbaaGreat
open Go.RowKit Go.Shelf Go.PlainAid
attribute [local go_sem] Oper.semAt_some
theorem Tree_any (o : Option Nat) (w : World) : Calls Tryz.prog 41 #[ptrV o] w fun e w' => e = .returned (.func (.func 81) #[] #[.pointer (some ⟨w.heap.size, 0, none⟩)]) ∧ w' = w.alloc (.cells #[ptrV o] 54) := by
  go_enter Tryz.func41, Tryz.ntmps41
  go_wp2
  go_ret
  exact ⟨rfl, rfl⟩
set_option maxRecDepth 100000 in
theorem Tree1_nil (d b : Nat) (w : World) (hB : Blk w b 54 #[.pointer none]) :
    SeqT (α := Empty) Fence.wide d Tryz.prog 81 #[.pointer (some ⟨b, 0, none⟩)] (fun x => x.elim) (fun _ _ _ _ => True) (fun xs => xs = []) (fun _ => False) [] w := by
  intro l J Jx W hW hJ _ _ h0
  have c0 : W.cell? ⟨b, 0, none⟩ = some (.pointer none) := (blk_beneath hB hW).cell 0
  have h0H := Lib.hid h0
  clear hB hW h0
  show CallsIn Fence.wide d Tryz.prog 81 #[.func (.yield l) #[] #[], .pointer (some ⟨b, 0, none⟩)] W _
  refine callsIn_of_wp Tryz.func81 rfl trivial ?_ rfl
  simp only [Tryz.ntmps81, List.size_toArray, List.length_cons, List.length_nil, Nat.reduceAdd, Nat.reduceSub, Array.replicate_succ, Array.replicate_zero, List.push_toArray, List.append_toArray, List.nil_append, List.cons_append]
  gi_wp2
  go_end0
  exact ⟨⟨_, rfl⟩, _, h0H.out⟩
end Go.Proofs.YtmilagppbepnbaaGreat
