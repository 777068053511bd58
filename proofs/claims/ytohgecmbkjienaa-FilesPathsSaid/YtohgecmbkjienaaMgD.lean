/- ask, of a tree. Condition: the tree lies as stated, and what holds along all calls holds; the texts' sizes. -/
import Derived.Test.YtohgecmbkjienaaMgC
import Derived.Test.YtohgecmbkjienaaFlAN
import Derived.Deep.Slices
import Derived.Lib.Strings
import Derived.SizedLaws
import Derived.Deep.DeepCutAuto
import Derived.Deep.CutBlock
namespace Go.Proofs.Ytohgecmbkjienaa
open Go.RowKit Go.Shelf Go.PlainAid
set_option linter.unusedVariables false
set_option linter.unusedSimpArgs false
attribute [local go_sem] Oper.semAt_some
section
variable {w : World} {fv : Value} {N M K : Int} {s t : ByteArray} {Post : World → World → Prop} {Fin : World → Prop}
set_option maxRecDepth 100000 in
theorem ask_12e {e : Int} {str : ByteArray} (hL0 : Lean8 w Post Fin)
    (hc0 : ∀ W, Below w.heap.size w W → w.heap.size + 3 ≤ W.heap.size → Calls Try.prog 36 #[fv, .int .i64 N] W fun E w' => ∃ lv, E = .returned (.tuple #[lv, .int .i64 e]) ∧ Calls Try.prog 37 #[lv] w' fun E w'' => E = .returned (.string str) ∧ Post W w'') :
    Calls Try.prog 14 #[fv, .agg #[.int .i64 12, .int .i64 N, .int .i64 M, .int .i64 K, .string s, .string t]] w fun E w' => E = .returned (.agg #[.int .i64 0, .string ⟨#[]⟩, .int .i64 0, .int .i64 0, .int .i64 0, .int .i64 0, .int .i64 0, .string str, .int .i64 e]) ∧ Fin w' := by
  have hL := Lib.hid hL0
  have hc := Lib.hid (hc0 _ (W3_below w #[.int .i64 12, .int .i64 N, .int .i64 M, .int .i64 K, .string s, .string t]) (W3_size _ _))
  have hbW := Lib.hid (W3_below w #[.int .i64 12, .int .i64 N, .int .i64 M, .int .i64 K, .string s, .string t])
  have hB2 := Lib.hid (W3_two w #[.int .i64 12, .int .i64 N, .int .i64 M, .int .i64 K, .string s, .string t])
  have hB3 := Lib.hid (W3_three w #[.int .i64 12, .int .i64 N, .int .i64 M, .int .i64 K, .string s, .string t])
  clear hL0 hc0
  go_enter Try.func14, Try.ntmps14
  go_wp2_with (first | (go_at_call 37; refine hj.mono ?_; rintro E w' ⟨rfl, hP⟩; have hh := hL.out.hold _ _ hP (W3_size _ _); have y2 : Blk w' (w.heap.size + 1) 34 zA := (hh.block _ (by omega) (by omega)).trans hB2.out; have y3 : Blk w' (w.heap.size + 1 + 1) 34 zA := (hh.block _ (by omega) (by omega)).trans hB3.out; have k7 : w'.cell? ⟨w.heap.size + 1 + 1, 7, none⟩ = some (.string ⟨#[]⟩) := y3.cell 7; have l7 : w'.frozen? ⟨w.heap.size + 1 + 1, 7, none⟩ = false := y3.frozen 7; have z7 := y3.set_ 7 (.string str); have k8 : (w'.setCell ⟨w.heap.size + 1 + 1, 7, none⟩ (.string str)).cell? ⟨w.heap.size + 1 + 1, 8, none⟩ = some (.int .i64 0) := (z7.cell 8).trans (zget _ 7 (by omega)); have l8 : (w'.setCell ⟨w.heap.size + 1 + 1, 7, none⟩ (.string str)).frozen? ⟨w.heap.size + 1 + 1, 8, none⟩ = false := z7.frozen 8; have v3 : Blk ((w'.setCell ⟨w.heap.size + 1 + 1, 7, none⟩ (.string str)).setCell ⟨w.heap.size + 1 + 1, 8, none⟩ (.int .i64 e)) (w.heap.size + 1 + 1) 34 #[.int .i64 0, .string ⟨#[]⟩, .int .i64 0, .int .i64 0, .int .i64 0, .int .i64 0, .int .i64 0, .string str, .int .i64 e] := (by have h9 := z7.set_ 8 (.int .i64 e); rw [zset_l] at h9; exact h9); have v2 : Blk ((w'.setCell ⟨w.heap.size + 1 + 1, 7, none⟩ (.string str)).setCell ⟨w.heap.size + 1 + 1, 8, none⟩ (.int .i64 e)) (w.heap.size + 1) 34 zA := (Blk.keep (Blk.keep y2 (Below.heap_setCell _ _ _ _ (fun e => by have e' : (w.heap.size + 1 : Nat) = w.heap.size + 1 + 1 := e; omega))) (Below.heap_setCell _ _ _ _ (fun e => by have e' : (w.heap.size + 1 : Nat) = w.heap.size + 1 + 1 := e; omega))); have e0 : ((w'.setCell ⟨w.heap.size + 1 + 1, 7, none⟩ (.string str)).setCell ⟨w.heap.size + 1 + 1, 8, none⟩ (.int .i64 e)).cell? ⟨w.heap.size + 1 + 1, 0, none⟩ = some (.int .i64 0) := v3.cell 0; have c0 : ((w'.setCell ⟨w.heap.size + 1 + 1, 7, none⟩ (.string str)).setCell ⟨w.heap.size + 1 + 1, 8, none⟩ (.int .i64 e)).cell? ⟨w.heap.size + 1, 0, none⟩ = some (.int .i64 0) := v2.cell 0; have f0 : ((w'.setCell ⟨w.heap.size + 1 + 1, 7, none⟩ (.string str)).setCell ⟨w.heap.size + 1 + 1, 8, none⟩ (.int .i64 e)).frozen? ⟨w.heap.size + 1, 0, none⟩ = false := v2.frozen 0; have e1 : ((w'.setCell ⟨w.heap.size + 1 + 1, 7, none⟩ (.string str)).setCell ⟨w.heap.size + 1 + 1, 8, none⟩ (.int .i64 e)).cell? ⟨w.heap.size + 1 + 1, 1, none⟩ = some (.string ⟨#[]⟩) := v3.cell 1; have c1 : ((w'.setCell ⟨w.heap.size + 1 + 1, 7, none⟩ (.string str)).setCell ⟨w.heap.size + 1 + 1, 8, none⟩ (.int .i64 e)).cell? ⟨w.heap.size + 1, 1, none⟩ = some (.string ⟨#[]⟩) := v2.cell 1; have f1 : ((w'.setCell ⟨w.heap.size + 1 + 1, 7, none⟩ (.string str)).setCell ⟨w.heap.size + 1 + 1, 8, none⟩ (.int .i64 e)).frozen? ⟨w.heap.size + 1, 1, none⟩ = false := v2.frozen 1; have e2 : ((w'.setCell ⟨w.heap.size + 1 + 1, 7, none⟩ (.string str)).setCell ⟨w.heap.size + 1 + 1, 8, none⟩ (.int .i64 e)).cell? ⟨w.heap.size + 1 + 1, 2, none⟩ = some (.int .i64 0) := v3.cell 2; have c2 : ((w'.setCell ⟨w.heap.size + 1 + 1, 7, none⟩ (.string str)).setCell ⟨w.heap.size + 1 + 1, 8, none⟩ (.int .i64 e)).cell? ⟨w.heap.size + 1, 2, none⟩ = some (.int .i64 0) := v2.cell 2; have f2 : ((w'.setCell ⟨w.heap.size + 1 + 1, 7, none⟩ (.string str)).setCell ⟨w.heap.size + 1 + 1, 8, none⟩ (.int .i64 e)).frozen? ⟨w.heap.size + 1, 2, none⟩ = false := v2.frozen 2; have e3 : ((w'.setCell ⟨w.heap.size + 1 + 1, 7, none⟩ (.string str)).setCell ⟨w.heap.size + 1 + 1, 8, none⟩ (.int .i64 e)).cell? ⟨w.heap.size + 1 + 1, 3, none⟩ = some (.int .i64 0) := v3.cell 3; have c3 : ((w'.setCell ⟨w.heap.size + 1 + 1, 7, none⟩ (.string str)).setCell ⟨w.heap.size + 1 + 1, 8, none⟩ (.int .i64 e)).cell? ⟨w.heap.size + 1, 3, none⟩ = some (.int .i64 0) := v2.cell 3; have f3 : ((w'.setCell ⟨w.heap.size + 1 + 1, 7, none⟩ (.string str)).setCell ⟨w.heap.size + 1 + 1, 8, none⟩ (.int .i64 e)).frozen? ⟨w.heap.size + 1, 3, none⟩ = false := v2.frozen 3; have e4 : ((w'.setCell ⟨w.heap.size + 1 + 1, 7, none⟩ (.string str)).setCell ⟨w.heap.size + 1 + 1, 8, none⟩ (.int .i64 e)).cell? ⟨w.heap.size + 1 + 1, 4, none⟩ = some (.int .i64 0) := v3.cell 4; have c4 : ((w'.setCell ⟨w.heap.size + 1 + 1, 7, none⟩ (.string str)).setCell ⟨w.heap.size + 1 + 1, 8, none⟩ (.int .i64 e)).cell? ⟨w.heap.size + 1, 4, none⟩ = some (.int .i64 0) := v2.cell 4; have f4 : ((w'.setCell ⟨w.heap.size + 1 + 1, 7, none⟩ (.string str)).setCell ⟨w.heap.size + 1 + 1, 8, none⟩ (.int .i64 e)).frozen? ⟨w.heap.size + 1, 4, none⟩ = false := v2.frozen 4; have e5 : ((w'.setCell ⟨w.heap.size + 1 + 1, 7, none⟩ (.string str)).setCell ⟨w.heap.size + 1 + 1, 8, none⟩ (.int .i64 e)).cell? ⟨w.heap.size + 1 + 1, 5, none⟩ = some (.int .i64 0) := v3.cell 5; have c5 : ((w'.setCell ⟨w.heap.size + 1 + 1, 7, none⟩ (.string str)).setCell ⟨w.heap.size + 1 + 1, 8, none⟩ (.int .i64 e)).cell? ⟨w.heap.size + 1, 5, none⟩ = some (.int .i64 0) := v2.cell 5; have f5 : ((w'.setCell ⟨w.heap.size + 1 + 1, 7, none⟩ (.string str)).setCell ⟨w.heap.size + 1 + 1, 8, none⟩ (.int .i64 e)).frozen? ⟨w.heap.size + 1, 5, none⟩ = false := v2.frozen 5; have e6 : ((w'.setCell ⟨w.heap.size + 1 + 1, 7, none⟩ (.string str)).setCell ⟨w.heap.size + 1 + 1, 8, none⟩ (.int .i64 e)).cell? ⟨w.heap.size + 1 + 1, 6, none⟩ = some (.int .i64 0) := v3.cell 6; have c6 : ((w'.setCell ⟨w.heap.size + 1 + 1, 7, none⟩ (.string str)).setCell ⟨w.heap.size + 1 + 1, 8, none⟩ (.int .i64 e)).cell? ⟨w.heap.size + 1, 6, none⟩ = some (.int .i64 0) := v2.cell 6; have f6 : ((w'.setCell ⟨w.heap.size + 1 + 1, 7, none⟩ (.string str)).setCell ⟨w.heap.size + 1 + 1, 8, none⟩ (.int .i64 e)).frozen? ⟨w.heap.size + 1, 6, none⟩ = false := v2.frozen 6; have e7 : ((w'.setCell ⟨w.heap.size + 1 + 1, 7, none⟩ (.string str)).setCell ⟨w.heap.size + 1 + 1, 8, none⟩ (.int .i64 e)).cell? ⟨w.heap.size + 1 + 1, 7, none⟩ = some (.string str) := v3.cell 7; have c7 : ((w'.setCell ⟨w.heap.size + 1 + 1, 7, none⟩ (.string str)).setCell ⟨w.heap.size + 1 + 1, 8, none⟩ (.int .i64 e)).cell? ⟨w.heap.size + 1, 7, none⟩ = some (.string ⟨#[]⟩) := v2.cell 7; have f7 : ((w'.setCell ⟨w.heap.size + 1 + 1, 7, none⟩ (.string str)).setCell ⟨w.heap.size + 1 + 1, 8, none⟩ (.int .i64 e)).frozen? ⟨w.heap.size + 1, 7, none⟩ = false := v2.frozen 7; have e8 : ((w'.setCell ⟨w.heap.size + 1 + 1, 7, none⟩ (.string str)).setCell ⟨w.heap.size + 1 + 1, 8, none⟩ (.int .i64 e)).cell? ⟨w.heap.size + 1 + 1, 8, none⟩ = some (.int .i64 e) := v3.cell 8; have c8 : ((w'.setCell ⟨w.heap.size + 1 + 1, 7, none⟩ (.string str)).setCell ⟨w.heap.size + 1 + 1, 8, none⟩ (.int .i64 e)).cell? ⟨w.heap.size + 1, 8, none⟩ = some (.int .i64 0) := v2.cell 8; have f8 : ((w'.setCell ⟨w.heap.size + 1 + 1, 7, none⟩ (.string str)).setCell ⟨w.heap.size + 1 + 1, 8, none⟩ (.int .i64 e)).frozen? ⟨w.heap.size + 1, 8, none⟩ = false := v2.frozen 8) | (go_at_call 36; refine hc.out.mono ?_; rintro E w' ⟨lv, rfl, hj⟩))

  (try simp only [Exit.inBlock, Exit.then])
  refine bodyPost_ret (results_cell_row rfl _ _ (w.heap.size + 1) 34 #[.int .i64 0, .string ⟨#[]⟩, .int .i64 0, .int .i64 0, .int .i64 0, .int .i64 0, .int .i64 0, .string str, .int .i64 e] (0, 0) _ rfl (put9_blk v2 _ _ _ _ _ _ _ _ _) Try.underlying34 rfl ans_info) rfl ?_
  exact ⟨rfl, hL.out.fin _ _ _ hP hbW.out (W3_size _ _) (put9_sto (Sto.set (Sto.set (Sto.refl _ _ w') (b := w.heap.size + 1 + 1) (by omega) _) (b := w.heap.size + 1 + 1) (by omega) _) (b := w.heap.size + 1) (by omega) _ _ _ _ _ _ _ _ _)⟩
end
theorem lean_tree {w : World} {B : Nat → Nat → Prop} {p : Nat} {f : Fs} {sv : Value} {ps : List (Option Nat)} (h : FsAt w B p f sv ps) (f' : Fs) : Lean8 w (fun W w' => FsP (All B) W w' p f') (fun w' => FsP (All B) w w' p f') := by
  have hlt : ∀ g, All B g → g < w.heap.size := fun g ⟨i, hg⟩ => h.lt i g hg
  refine ⟨fun W w' ⟨B', h1, h2, h3⟩ hs => ⟨h3.size, fun g hg hg2 => h3.block g (by omega) (fun k => by have := hlt g k; omega)⟩, fun W w' w'' ⟨B', h1, h2, h3⟩ hb hs st => ⟨B', h1.keep (by rw [st.size]; exact Nat.le_refl _) (fun i g hg => st.block g (fun k => ?_)), fun g hg => (h2 g hg).imp id (fun k => by have := hb.size; omega), ?_⟩⟩
  · rcases h2 g ⟨i, hg⟩ with h4 | h4
    · have := hlt g h4
      omega
    · omega
  · refine ⟨st.os.trans (h3.os.trans hb.os), st.tape.trans (h3.tape.trans hb.tape), st.output.trans (h3.output.trans hb.output), by have := hb.size; have := h3.size; have := st.size; omega, fun g hg hO => ?_⟩
    exact (st.block g (by omega)).trans ((h3.block g (by have := hb.size; omega) hO).trans (hb.block g hg))
/-- What a call leaves, and its error. -/
noncomputable def stepF (f : Fs) (q N M K : Int) (s t : ByteArray) : Fs :=
  if q = 1 then (CreateM f N s M).2.2 else if q = 2 then (MkdirM f N s M).2.2 else if q = 3 then (UnlinkM f N s).2 else if q = 4 then (RmdirM f N s).2
  else if q = 5 then (LinkM f N s t).2 else if q = 6 then (RenameM f N s t).2 else if q = 8 then (WriteM f N M t).2.2 else if q = 9 then (TruncM f N M).2
  else if q = 10 then (ChmodM f N M).2 else if q = 13 then (HoldM f N).2 else if q = 14 then (DropM f N).2 else f
noncomputable def errF (f : Fs) (q N M K : Int) (s t : ByteArray) : Nat :=
  if q = 0 then (WalkM f N s).2 else if q = 1 then (CreateM f N s M).2.1 else if q = 2 then (MkdirM f N s M).2.1 else if q = 3 then (UnlinkM f N s).1 else if q = 4 then (RmdirM f N s).1
  else if q = 5 then (LinkM f N s t).1 else if q = 6 then (RenameM f N s t).1 else if q = 7 then (ReadM f N M K).2 else if q = 8 then (WriteM f N M t).2.1 else if q = 9 then (TruncM f N M).1
  else if q = 10 then (ChmodM f N M).1 else if q = 11 then (StatM f N).2 else if q = 12 then (ListM f N).2 else if q = 13 then (HoldM f N).1 else if q = 14 then (DropM f N).1 else if q = 15 then (PathM f N).2 else 0
theorem step_wf {c : Nat} {f : Fs} (h : WF c f) (q N M K : Int) (s t : ByteArray) : WF (c + 1) (stepF f q N M K s t) := by
  unfold stepF
  repeat' split
  · exact create_wf h N s M
  · exact mkdir_wf h N s M
  · exact unlink_wf h N s
  · exact rmdir_wf h N s
  · exact link_wf h N s t
  · exact rename_wf h N s t
  · exact write_wf h N M t
  · exact trunc_wf h N M
  · exact chmod_wf h N M
  · exact hold_wf h N
  · exact drop_wf h N
  · exact h.mono (Nat.le_succ c)
theorem make_err {f : Fs} {n : Nat} {x : ByteArray} {I : Ino} (h : (makeM f n x I).2.1 ≠ 0) : (makeM f n x I).2.2 = f := by
  unfold makeM at h ⊢
  split at h
  · rename_i h1
    rw [if_pos h1]
  · rename_i h1
    rw [if_neg h1]
    split at h
    · rename_i h2
      rw [if_pos h2]
    · exact absurd rfl h
/-- A call that answers an error changes nothing. -/
theorem step_err {c : Nat} {f : Fs} (hw : WF c f) (q N M K : Int) (s t : ByteArray) (h : errF f q N M K s t ≠ 0 ∨ q = 0 ∨ q = 7 ∨ q = 11 ∨ q = 12 ∨ q = 15) : stepF f q N M K s t = f := by
  unfold stepF
  split
  · rename_i e
    subst e
    have h : (CreateM f N s M).2.1 ≠ 0 := by simpa [errF] using h
    unfold CreateM at h ⊢
    split at h
    · rename_i h1; rw [if_pos h1]
    · rename_i h1; rw [if_neg h1]
      split at h
      · rename_i h2; rw [if_pos h2]
      · rename_i h2; rw [if_neg h2]
        split at h
        · rename_i h3; rw [if_pos h3]
        · rename_i h3; rw [if_neg h3]; exact make_err h
  · split
    · rename_i e
      subst e
      have h : (MkdirM f N s M).2.1 ≠ 0 := by simpa [errF] using h
      unfold MkdirM at h ⊢
      split at h
      · rename_i h1; rw [if_pos h1]
      · rename_i h1; rw [if_neg h1]
        split at h
        · rename_i h2; rw [if_pos h2]
        · rename_i h2; rw [if_neg h2]; exact make_err h
    · split
      · rename_i e
        subst e
        have h : (UnlinkM f N s).1 ≠ 0 := by simpa [errF] using h
        unfold UnlinkM at h ⊢
        split at h
        · rename_i h1; rw [if_pos h1]
        · rename_i h1; rw [if_neg h1]
          split at h
          · split at h
            · rename_i h2; rw [if_pos h2]
            · rename_i h2; rw [if_neg h2]
              split at h
              · rename_i h3; rw [if_pos h3]
              · rename_i h3; rw [if_neg h3]
                split at h
                · exact absurd rfl h
                · rename_i h4; rw [if_neg h4]
          · rfl
      · split
        · rename_i e
          subst e
          have h : (RmdirM f N s).1 ≠ 0 := by simpa [errF] using h
          unfold RmdirM at h ⊢
          split at h
          · rename_i h1; rw [if_pos h1]
          · rename_i h1; rw [if_neg h1]
            split at h
            · split at h
              · rename_i h2; rw [if_pos h2]
                split at h
                · rename_i h3; rw [if_pos h3]
                · rename_i h3; rw [if_neg h3]
                  split at h
                  · exact absurd rfl h
                  · rename_i h4; rw [if_neg h4]
              · rename_i h2; rw [if_neg h2]
            · rfl
        · split
          · rename_i e
            subst e
            have h : (LinkM f N s t).1 ≠ 0 := by simpa [errF] using h
            unfold LinkM at h ⊢
            split at h
            · rename_i h1; rw [if_pos h1]
            · rename_i h1; rw [if_neg h1]
              split at h
              · rename_i h2; rw [if_pos h2]
              · rename_i h2; rw [if_neg h2]
                split at h
                · rename_i h3; rw [if_pos h3]
                · rename_i h3; rw [if_neg h3]
                  split at h
                  · rename_i h4; rw [if_pos h4]
                  · rename_i h4; rw [if_neg h4]
                    split at h
                    · rename_i h5; rw [if_pos h5]
                    · exact absurd rfl h
          · split
            · rename_i e
              subst e
              have h : (RenameM f N s t).1 ≠ 0 := by simpa [errF] using h
              unfold RenameM at h ⊢
              split at h
              · rename_i h1; rw [if_pos h1]
              · rename_i h1; rw [if_neg h1]
                split at h
                · unfold ren1 at h ⊢
                  split at h
                  · rename_i h2; rw [if_pos h2]
                  · rename_i h2; rw [if_neg h2]
                    split at h
                    · rename_i h3; rw [if_pos h3]
                    · rename_i h3; rw [if_neg h3]
                      split at h
                      · rfl
                      · unfold ren2 at h ⊢
                        split at h
                        · rename_i h4; rw [if_pos h4]
                        · rename_i h4; rw [if_neg h4]
                          split at h
                          · rename_i h5; rw [if_pos h5]
                          · rename_i h5; rw [if_neg h5]
                            split at h
                            · rename_i h6; rw [if_pos h6]
                              unfold ren3 at h ⊢
                              split at h
                              · rename_i h7; rw [if_pos h7]
                              · rename_i h7; rw [if_neg h7]
                                split at h
                                · rename_i h8; rw [if_pos h8]
                                · exact absurd rfl h
                            · rename_i h6; rw [if_neg h6]
                · rfl
            · split
              · rename_i e
                subst e
                have h : (WriteM f N M t).2.1 ≠ 0 := by simpa [errF] using h
                unfold WriteM at h ⊢
                split at h
                · rfl
                · split at h
                  · rename_i h1; rw [if_pos h1]
                  · rename_i h1; rw [if_neg h1]
                    split at h
                    · rename_i h2; rw [if_pos h2]
                    · rename_i h2; rw [if_neg h2]
                      split at h
                      · rename_i h3; rw [if_pos h3]
                      · rename_i h3; rw [if_neg h3]
                        split at h
                        · exact absurd rfl h
                        · exact absurd rfl h
              · split
                · rename_i e
                  subst e
                  have h : (TruncM f N M).1 ≠ 0 := by simpa [errF] using h
                  unfold TruncM at h ⊢
                  split at h
                  · rfl
                  · split at h
                    · rename_i h1; rw [if_pos h1]
                    · rename_i h1; rw [if_neg h1]
                      split at h
                      · rename_i h2; rw [if_pos h2]
                      · rename_i h2; rw [if_neg h2]
                        split at h
                        · rename_i h3; rw [if_pos h3]
                        · exact absurd rfl h
                · split
                  · rename_i e
                    subst e
                    have h : (ChmodM f N M).1 ≠ 0 := by simpa [errF] using h
                    unfold ChmodM at h ⊢
                    split at h
                    · rfl
                    · exact absurd rfl h
                  · split
                    · rename_i e
                      subst e
                      have h : (HoldM f N).1 ≠ 0 := by simpa [errF] using h
                      unfold HoldM at h ⊢
                      split at h
                      · rfl
                      · exact absurd rfl h
                    · split
                      · rename_i e
                        subst e
                        have h : (DropM f N).1 ≠ 0 := by simpa [errF] using h
                        unfold DropM at h ⊢
                        split at h
                        · rfl
                        · split at h
                          · rename_i h1; rw [if_pos h1]
                          · exact absurd rfl h
                      · rfl
section
variable {w : World} {B : Nat → Nat → Prop} {p c : Nat} {f : Fs} {sv : Value} {ps : List (Option Nat)}
theorem stat_ints (f : Fs) (N : Int) : ∃ s0 s1 s2 s3 s4 : Int, (StatM f N).1 = #[.int .i64 s0, .int .i64 s1, .int .i64 s2, .int .i64 s3, .int .i64 s4] := by
  unfold StatM
  split
  · exact ⟨_, _, _, _, _, rfl⟩
  · exact ⟨_, _, _, _, _, rfl⟩
theorem ask_any (h : FsAt w B p f sv ps) (hw : WF c f) (hc : c ≤ 5000) (q N M K : Int) (s t : ByteArray) (hs : s.size ≤ maxLen) (ht : t.size ≤ maxLen) (ht9 : t.size ≤ 9000000000000000000) :
    Calls Try.prog 14 #[.pointer (some ⟨p, 0, none⟩), .agg #[.int .i64 q, .int .i64 N, .int .i64 M, .int .i64 K, .string s, .string t]] w fun E w' => (∃ (n : Int) (x : ByteArray) (s0 s1 s2 s3 s4 : Int) (y : ByteArray), E = .returned (.agg #[.int .i64 n, .string x, .int .i64 s0, .int .i64 s1, .int .i64 s2, .int .i64 s3, .int .i64 s4, .string y, .int .i64 (errF f q N M K s t : Nat)])) ∧ FsP (All B) w w' p (stepF f q N M K s t) := by
  have hf := hw.fine hc
  have hcl := hw.closed
  have hlk := hw.linked
  have hlen : f.length ≤ 9000 := by have := hw.len; omega
  have hL := fun f' => lean_tree h f'
  have hrd : ∀ {F : Nat} {args : Array Value} {W : World} {R : Ending}, Below w.heap.size w W → (Calls Try.prog F args W fun e w' => e = R ∧ Below W.heap.size W w') → Calls Try.prog F args W fun e w' => e = R ∧ FsP (All B) W w' p f := fun hb k => k.mono fun e w' h9 => ⟨h9.1, FsP.of ⟨_, _, h.below hb⟩ h9.2⟩
  by_cases hq : q < 0 ∨ 15 < q
  · have e1 : stepF f q N M K s t = f := by unfold stepF; repeat rw [if_neg (by omega)]
    have e2 : errF f q N M K s t = 0 := by unfold errF; repeat rw [if_neg (by omega)]
    rw [e1, e2]
    exact (ask_no hq (fun w' hb => FsP.of ⟨_, _, h⟩ hb)).mono fun E w' h9 => ⟨⟨_, _, _, _, _, _, _, _, h9.1⟩, h9.2⟩
  · have hk : q = 0 ∨ q = 1 ∨ q = 2 ∨ q = 3 ∨ q = 4 ∨ q = 5 ∨ q = 6 ∨ q = 7 ∨ q = 8 ∨ q = 9 ∨ q = 10 ∨ q = 11 ∨ q = 12 ∨ q = 13 ∨ q = 14 ∨ q = 15 := by omega
    rcases hk with rfl | rfl | rfl | rfl | rfl | rfl | rfl | rfl | rfl | rfl | rfl | rfl | rfl | rfl | rfl | rfl
    · exact (ask_0 (hL f) (fun W hb _ => hrd hb (Walk_any (h.below hb) hf hcl N s hs))).mono fun E w' h9 => ⟨⟨_, _, _, _, _, _, _, _, h9.1⟩, h9.2⟩
    · exact (ask_1 (hL _) (fun W hb _ => create_any (h.below hb) hf hlen hcl N s M hs)).mono fun E w' h9 => ⟨⟨_, _, _, _, _, _, _, _, h9.1⟩, h9.2⟩
    · exact (ask_2 (hL _) (fun W hb _ => mkdir_any (h.below hb) hf hlen hcl N s M hs)).mono fun E w' h9 => ⟨⟨_, _, _, _, _, _, _, _, h9.1⟩, h9.2⟩
    · exact (ask_3 (hL _) (fun W hb _ => unlinkF_any (h.below hb) hf hcl hlk N s hs)).mono fun E w' h9 => ⟨⟨_, _, _, _, _, _, _, _, h9.1⟩, h9.2⟩
    · exact (ask_4 (hL _) (fun W hb _ => rmdir_any (h.below hb) hf hcl hlk N s hs)).mono fun E w' h9 => ⟨⟨_, _, _, _, _, _, _, _, h9.1⟩, h9.2⟩
    · exact (ask_5 (hL _) (fun W hb _ => link_any (h.below hb) hf hcl N s t hs ht)).mono fun E w' h9 => ⟨⟨_, _, _, _, _, _, _, _, h9.1⟩, h9.2⟩
    · exact (ask_6 (hL _) (fun W hb _ => rename_any (h.below hb) hw hc N s t hs ht)).mono fun E w' h9 => ⟨⟨_, _, _, _, _, _, _, _, h9.1⟩, h9.2⟩
    · exact (ask_7 (hL f) (fun W hb _ => hrd hb (read_any (h.below hb) hf N M K))).mono fun E w' h9 => ⟨⟨_, _, _, _, _, _, _, _, h9.1⟩, h9.2⟩
    · exact (ask_8 (hL _) (fun W hb _ => write_any (h.below hb) hf N M t ht9)).mono fun E w' h9 => ⟨⟨_, _, _, _, _, _, _, _, h9.1⟩, h9.2⟩
    · exact (ask_9 (hL _) (fun W hb _ => truncate_any (h.below hb) hf N M)).mono fun E w' h9 => ⟨⟨_, _, _, _, _, _, _, _, h9.1⟩, h9.2⟩
    · exact (ask_10 (hL _) (fun W hb _ => chmod_any (h.below hb) hf N M)).mono fun E w' h9 => ⟨⟨_, _, _, _, _, _, _, _, h9.1⟩, h9.2⟩
    · obtain ⟨s0, s1, s2, s3, s4, hst⟩ := stat_ints f N
      exact (ask_11 (hL f) (fun W hb _ => by
        have h8 := hrd hb (stat_any (h.below hb) hf N)
        rw [hst] at h8
        exact h8)).mono fun E w' h9 => ⟨⟨_, _, _, _, _, _, _, _, h9.1⟩, h9.2⟩
    · exact (ask_12e (hL f) (str := joinM (ListM f N).1) (fun W hb _ => (list_any (h.below hb) hf N).mono fun E w' ⟨⟨v, h8, h7⟩, h6⟩ => ⟨v, h8, (joined_any h7 (by
          unfold ListM
          split
          · exact Nat.zero_le _
          · split
            · rename_i I hI _
              obtain ⟨i, _, _, hi⟩ := node_some hI
              have := (hf.2 i I hi).el
              show (nms I.ents).length ≤ _
              rw [show (nms I.ents).length = I.ents.length from List.length_map ..]
              omega
            · exact Nat.zero_le _) (fun x hx => by
          unfold ListM at hx
          split at hx
          · cases hx
          · split at hx
            · rename_i I hI _
              obtain ⟨i, _, _, hi⟩ := node_some hI
              obtain ⟨e, he, rfl⟩ := List.mem_map.1 hx
              have := ((hw.ino i I hi).name e he).2.1
              omega
            · cases hx)).mono fun E w'' h5 => ⟨h5.1, by rw [h5.2]; exact FsP.of ⟨_, _, h.below hb⟩ h6⟩⟩)).mono fun E w' h9 => ⟨⟨_, _, _, _, _, _, _, _, h9.1⟩, h9.2⟩
    · exact (ask_13 (hL _) (fun W hb _ => hold_any (h.below hb) hf N)).mono fun E w' h9 => ⟨⟨_, _, _, _, _, _, _, _, h9.1⟩, h9.2⟩
    · exact (ask_14 (hL _) (fun W hb _ => drop_any (h.below hb) hf N)).mono fun E w' h9 => ⟨⟨_, _, _, _, _, _, _, _, h9.1⟩, h9.2⟩
    · exact (ask_15 (hL f) (fun W hb _ => hrd hb (path_any (h.below hb) hw hc N))).mono fun E w' h9 => ⟨⟨_, _, _, _, _, _, _, _, h9.1⟩, h9.2⟩
end
end Go.Proofs.Ytohgecmbkjienaa
/- A list of calls as it came in, with the texts' sizes. No condition. -/
namespace Go.Proofs.Ytohgecmbkjienaa
open Go.ChangeShapes Go.WideShapes Go.RowKit Go.Deep
set_option linter.unusedVariables false
set_option linter.unusedSimpArgs false
structure Cl where
  q : Int
  N : Int
  M : Int
  K : Int
  s : ByteArray
  t : ByteArray
def clecs (x : Cl) : List Value := [.int .i64 x.q, .int .i64 x.N, .int .i64 x.M, .int .i64 x.K, .string x.s, .string x.t]
def clData {H : Type} (x : Cl) : DataW H := .agg [.lit (.int .i64 x.q), .lit (.int .i64 x.N), .lit (.int .i64 x.M), .lit (.int .i64 x.K), .lit (.string x.s.data.toList), .lit (.string x.t.data.toList)]
def ClB (x : Cl) : Prop := x.s.size ≤ maxLen ∧ x.t.size ≤ maxLen ∧ (-9223372036854775808 ≤ x.q ∧ x.q ≤ 9223372036854775807) ∧ (-9223372036854775808 ≤ x.N ∧ x.N ≤ 9223372036854775807) ∧ (-9223372036854775808 ≤ x.M ∧ x.M ≤ 9223372036854775807) ∧ (-9223372036854775808 ≤ x.K ∧ x.K ≤ 9223372036854775807)
/-- The calls lie below n0. -/
def CallsAt (n0 : Nat) (w : World) (A : Option Addr) (cs : List Cl) : Prop :=
  ∀ i x, cs[i]? = some x → ∃ (b off : Nat), A = some ⟨b, off, none⟩ ∧ b < n0 ∧ ∀ j u, (clecs x)[j]? = some u → w.cell? ⟨b, off + i * 6 + j, none⟩ = some u
theorem CallsAt.below {n0 : Nat} {w w' : World} {A : Option Addr} {cs : List Cl} (h : CallsAt n0 w A cs) (hb : Below n0 w w') : CallsAt n0 w' A cs := by
  intro i x hx
  obtain ⟨b, off, hA, hlt, h0⟩ := h i x hx
  exact ⟨b, off, hA, hlt, fun j u hj => (hb.cell hlt).trans (h0 j u hj)⟩
theorem wf_b {x : Int} (h : (Lit.int .i64 x).wf = true) : -9223372036854775808 ≤ x ∧ x ≤ 9223372036854775807 := bounds_i64 h
theorem call_data {H : Type} {enc : TypeId × Value → H} {w : World} {m : Nat} {cs : List Value} {x : DataW H × List MemPlace} (hl : cs.length = 6) (h : DataW.trod enc Try.prog w 0 (fun _ => true) true m 27 cs = some x) :
    ∃ c : Cl, cs = clecs c ∧ x.1 = clData c ∧ ClB c := by
  obtain ⟨x0, x1, x2, x3, x4, x5, rfl⟩ := six cs hl
  obtain ⟨xs, n', _, hx, _, hxl, hg⟩ := DataW.trod_struct Try.underlying27 h
  obtain ⟨y0, y1, y2, y3, y4, y5, rfl⟩ := six xs hxl
  have k3 : Try.prog.cellsOf 3 = 1 := by kernel_rfl
  have k9 : Try.prog.cellsOf 9 = 1 := by kernel_rfl
  have g0 : DataW.trod enc Try.prog w 0 (fun _ => true) true n' 3 ((([x0, x1, x2, x3, x4, x5] : List Value).drop 0).take (Try.prog.cellsOf 3)) = some y0 := hg 0 _ rfl
  have g1 : DataW.trod enc Try.prog w 0 (fun _ => true) true n' 3 ((([x0, x1, x2, x3, x4, x5] : List Value).drop 1).take (Try.prog.cellsOf 3)) = some y1 := hg 1 _ rfl
  have g2 : DataW.trod enc Try.prog w 0 (fun _ => true) true n' 3 ((([x0, x1, x2, x3, x4, x5] : List Value).drop 2).take (Try.prog.cellsOf 3)) = some y2 := hg 2 _ rfl
  have g3 : DataW.trod enc Try.prog w 0 (fun _ => true) true n' 3 ((([x0, x1, x2, x3, x4, x5] : List Value).drop 3).take (Try.prog.cellsOf 3)) = some y3 := hg 3 _ rfl
  have g4 : DataW.trod enc Try.prog w 0 (fun _ => true) true n' 9 ((([x0, x1, x2, x3, x4, x5] : List Value).drop 4).take (Try.prog.cellsOf 9)) = some y4 := hg 4 _ rfl
  have g5 : DataW.trod enc Try.prog w 0 (fun _ => true) true n' 9 ((([x0, x1, x2, x3, x4, x5] : List Value).drop 5).take (Try.prog.cellsOf 9)) = some y5 := hg 5 _ rfl
  rw [k3] at g0 g1 g2 g3
  rw [k9] at g4 g5
  obtain ⟨q, e0, z0, w0⟩ := DataW.trod_int Try.underlying3 g0
  obtain ⟨N, e1, z1, w1⟩ := DataW.trod_int Try.underlying3 g1
  obtain ⟨M, e2, z2, w2⟩ := DataW.trod_int Try.underlying3 g2
  obtain ⟨K, e3, z3, w3⟩ := DataW.trod_int Try.underlying3 g3
  obtain ⟨s, e4, z4, hs⟩ := DataW.trod_string Try.underlying9 g4
  obtain ⟨t, e5, z5, ht⟩ := DataW.trod_string Try.underlying9 g5
  simp only [List.drop_zero, List.drop_succ_cons, List.take_succ_cons, List.take_zero, List.cons.injEq, and_true] at e0 e1 e2 e3 e4 e5
  subst e0 e1 e2 e3 e4 e5
  subst z0 z1 z2 z3 z4 z5
  subst hx
  exact ⟨⟨q, N, M, K, s, t⟩, rfl, rfl, hs, ht, wf_b w0, wf_b w1, wf_b w2, wf_b w3⟩
theorem addr_at (a : Addr) (k : Nat) (hs : a.spot = none) : a.add k = ⟨a.block, a.off + k, none⟩ := by
  unfold Addr.add
  obtain ⟨b, o, s⟩ := a
  obtain rfl : s = none := hs
  split <;> simp_all
set_option maxRecDepth 100000 in
theorem open_calls {H : Type} {enc : TypeId × Value → H} {w : World} {d : DataW H} {p : List MemPlace} {A : Option Addr} {len cap : Nat}
    (h : DataW.Trod enc Try.prog w 0 (fun _ => true) true 22 (.slice A len cap) d p) :
    ∃ cs : List Cl, cs.length = len ∧ CallsAt w.heap.size w A cs ∧ (∀ x ∈ cs, ClB x) ∧ (cs = [] ∨ ∃ sp, d = .slice (cs.map clData) sp) ∧ len ≤ maxLen := by
  obtain ⟨fuel, hf⟩ := h
  rcases open_slice Try.underlying22 hf with ⟨hcs, _⟩ | ⟨a, l, c, m, n, D, Pl, hcs, _, hl, hm, hmm, hx, hi⟩
  · simp [Value.cells] at hcs
    obtain ⟨rfl, rfl, rfl⟩ := hcs
    exact ⟨[], rfl, fun i t hi => by simp at hi, fun x hx => (nomatch hx), .inl rfl, by omega⟩
  · simp [Value.cells] at hcs
    obtain ⟨rfl, rfl, rfl⟩ := hcs
    simp only [if_true] at hmm
    have hlm : len ≤ m := by rw [hmm]; omega
    have hC : Try.prog.cellsOf 27 = 6 := by kernel_rfl
    simp only [hC] at hi
    have hex : ∀ i, ∃ q : Cl, i < len → D i = clData q ∧ ClB q ∧ a.spot = none ∧ ∀ j u, (clecs q)[j]? = some u → w.cell? ⟨a.block, a.off + i * 6 + j, none⟩ = some u := fun i => by
      by_cases hil : i < len
      · obtain ⟨cs', hc, hy⟩ := hi i (by omega)
        obtain ⟨_, hcl, hat⟩ := World.cells?_some hc
        obtain ⟨q, h3, h4, h5⟩ := call_data hcl hy
        have hq6 : cs'.length = 6 := hcl
        have hsp : a.spot = none := by
          obtain ⟨cs0, hc0, hy0⟩ := hi 0 (by omega)
          obtain ⟨_, hcl0, hat0⟩ := World.cells?_some hc0
          obtain ⟨q0, e0, _, _⟩ := call_data hcl0 hy0
          have h00 : w.cell? ((a.add (0 * 6)).add 0) = some (.int .i64 q0.q) := (hat0 0 (by omega)).trans (by rw [e0]; rfl)
          have := World.cell?_spot h00
          simpa [Addr.add] using this
        refine ⟨q, fun _ => ⟨h4, h5, hsp, fun j u hj => ?_⟩⟩
        have hj6 : j < 6 := by have := (List.getElem?_eq_some_iff.1 hj).1; exact this
        have h6 := hat j (by omega)
        rw [add_add, addr_at _ _ hsp] at h6
        rw [Nat.add_assoc]
        refine h6.trans ?_
        rw [← hj, h3]
      · exact ⟨⟨0, 0, 0, 0, ByteArray.empty, ByteArray.empty⟩, fun h => absurd h hil⟩
    refine ⟨(List.range len).map fun i => Classical.choose (hex i), by simp, fun i q hq => ?_, fun x hx => ?_, .inr ⟨(List.range (m - len)).map fun j => D (len + j), (Prod.mk.inj hx).1.trans ?_⟩, by omega⟩
    · have hil : i < len := by have := (List.getElem?_eq_some_iff.1 hq).1; simpa using this
      have hspec := Classical.choose_spec (hex i) hil
      rw [List.getElem?_map, List.getElem?_range hil] at hq
      have hqe : Classical.choose (hex i) = q := by simpa using hq
      rw [hqe] at hspec
      obtain ⟨_, _, hsp, k0⟩ := hspec
      refine ⟨a.block, a.off, ?_, ?_, k0⟩
      · obtain ⟨b, o, sp⟩ := a
        obtain rfl : sp = none := hsp
        rfl
      · exact block_of_cell (a := ⟨a.block, a.off + i * 6 + 0, none⟩) (k0 0 _ rfl)
    · obtain ⟨i, hi2, hi3⟩ := List.mem_map.1 hx
      rw [← hi3]
      exact (Classical.choose_spec (hex i) (List.mem_range.1 hi2)).2.1
    · congr 1
      rw [List.map_map]
      exact List.map_congr_left (fun i hi => (Classical.choose_spec (hex i) (List.mem_range.1 hi)).1)
theorem weights_mem_all {H : Type} {P : Program} {e : TypeId} {d : DataW H} : ∀ {ds : List (DataW H)}, d ∈ ds → ∀ n ∈ DataW.weights P e d, n ∈ DataW.weightsAll P e ds
  | x :: ds, hd, n, hn => by
    simp only [DataW.weightsAll, List.mem_append]
    rcases List.mem_cons.1 hd with rfl | h
    · exact .inl hn
    · exact .inr (weights_mem_all h n hn)
/-- The reach: the texts' own. -/
theorem sized_calls {H : Type} {ts : List TypeId} {ds : List (DataW H)} (h : (DataW.weightsEach Try.prog ts ds).all (· ≤ reachBytes) = true) {j : Nat} {cs : List Cl} {d : DataW H} (ht : ts[j]? = some 22) (hd : ds[j]? = some d) (hd' : cs = [] ∨ ∃ sp, d = .slice (cs.map clData) sp) :
    ∀ x ∈ cs, x.s.size ≤ reachBytes ∧ x.t.size ≤ reachBytes := by
  rcases hd' with rfl | ⟨sp, rfl⟩
  · exact fun p hp => by simp at hp
  · intro x hx
    have hm : ∀ n ∈ DataW.weights Try.prog 27 (clData (H := H) x), n ≤ reachBytes := fun n hn => by
      have := List.all_eq_true.1 h _ (DataW.weights_mem_each ht hd n (by
        simp only [DataW.weights, Try.underlying22]
        exact List.mem_cons_of_mem _ (List.mem_append_left _ (weights_mem_all (d := clData x) (List.mem_map.2 ⟨x, hx, rfl⟩) _ hn))))
      simpa using this
    constructor
    · have := hm x.s.data.toList.length (by unfold clData; simp [DataW.weights, Try.underlying27, DataW.weightsEach])
      rw [Array.length_toList] at this
      exact this
    · have := hm x.t.data.toList.length (by unfold clData; simp [DataW.weights, Try.underlying27, DataW.weightsEach])
      rw [Array.length_toList] at this
      exact this
end Go.Proofs.Ytohgecmbkjienaa
/- The walk of FilesKeeps. Condition: the calls lie as stated; the texts' sizes. -/
namespace Go.Proofs.Ytohgecmbkjienaa
open Go.RowKit Go.Shelf Go.PlainAid
set_option linter.unusedVariables false
set_option linter.unusedSimpArgs false
attribute [local go_sem] Oper.semAt_some
theorem bytesM_take : ∀ (f : Fs) (j : Nat), bytesM (f.take j) ≤ bytesM f
  | [], _ => by simp [bytesM]
  | o :: l, 0 => by simp [bytesM]
  | none :: l, j + 1 => by simpa [bytesM] using bytesM_take l j
  | some I :: l, j + 1 => by have := bytesM_take l j; simp [bytesM]; omega
theorem bytes_snoc : ∀ (f : Fs) (o : Option Ino), bytesM (f ++ [o]) = bytesM f + (match o with | none => 0 | some I => I.data.length)
  | [], none => rfl
  | [], some I => by simp [bytesM]
  | none :: l, o => by simpa [bytesM] using bytes_snoc l o
  | some I :: l, o => by have := bytes_snoc l o; simp [bytesM] at this ⊢; omega
theorem count_snoc : ∀ (f : Fs) (o : Option Ino), countM (f ++ [o]) = countM f + (match o with | none => 0 | some _ => 1)
  | [], none => rfl
  | [], some I => by simp [countM]
  | none :: l, o => by simpa [countM] using count_snoc l o
  | some I :: l, o => by have := count_snoc l o; simp [countM] at this ⊢; omega
theorem node_succ (f : Fs) (j : Nat) : node f ((j : Int) + 1) = (f[j]?).join := by
  unfold node
  rw [if_neg (by omega), show ((j : Int) + 1 - 1).toNat = j by omega]
theorem take_next (f : Fs) (j : Nat) : (∃ o, f[j]? = some o ∧ f.take (j + 1) = f.take j ++ [o]) ∨ (f[j]? = none ∧ f.take (j + 1) = f.take j) := by
  rcases Nat.lt_or_ge j f.length with h | h
  · exact .inl ⟨f[j], List.getElem?_eq_getElem h, List.take_succ_eq_append_getElem h⟩
  · exact .inr ⟨List.getElem?_eq_none h, by rw [List.take_of_length_le (by omega), List.take_of_length_le h]⟩
section
variable {w0 w W : World} {p c : Nat} {f : Fs}
theorem Own.bytesB (h : Own w0 w p f) (hw : WF c f) (hc : c ≤ 5000) (hb : Below w.heap.size w W) : Calls Try.prog 12 #[.pointer (some ⟨p, 0, none⟩)] W fun e w' => e = .returned (.int .i64 (bytesM f : Nat)) ∧ Below W.heap.size W w' := by
  obtain ⟨B, ⟨sv, ps, h1⟩, _⟩ := h
  exact (bytes_any (h1.below hb) (hw.fine hc))
theorem Own.countB (h : Own w0 w p f) (hw : WF c f) (hb : Below w.heap.size w W) : Calls Try.prog 13 #[.pointer (some ⟨p, 0, none⟩)] W fun e w' => e = .returned (.int .i64 (countM f : Nat)) ∧ Below W.heap.size W w' := by
  obtain ⟨B, ⟨sv, ps, h1⟩, _⟩ := h
  exact (count_any (h1.below hb) (by have := hw.len; omega))
theorem Own.statB (h : Own w0 w p f) (hw : WF c f) (hc : c ≤ 5000) (hb : Below w.heap.size w W) (n : Int) : Calls Try.prog 16 #[.pointer (some ⟨p, 0, none⟩), .int .i64 n] W fun e w' => e = .returned (.tuple #[.agg (StatM f n).1, .int .i64 (StatM f n).2]) ∧ Below W.heap.size W w' := by
  obtain ⟨B, ⟨sv, ps, h1⟩, _⟩ := h
  exact (stat_any (h1.below hb) (hw.fine hc) n)
theorem Own.readB (h : Own w0 w p f) (hw : WF c f) (hc : c ≤ 5000) (hb : Below w.heap.size w W) (n a k : Int) : Calls Try.prog 20 #[.pointer (some ⟨p, 0, none⟩), .int .i64 n, .int .i64 a, .int .i64 k] W fun e w' => e = .returned (.tuple #[.string (ReadM f n a k).1, .int .i64 (ReadM f n a k).2]) ∧ Below W.heap.size W w' := by
  obtain ⟨B, ⟨sv, ps, h1⟩, _⟩ := h
  exact (read_any (h1.below hb) (hw.fine hc) n a k)
theorem Own.treeB (h : Own w0 w p f) (hw : WF c f) (hc : c ≤ 5000) (hb : Below w.heap.size w W) : Calls Try.prog 11 #[.pointer (some ⟨p, 0, none⟩)] W fun e w' => ∃ v, e = .returned v ∧ w'.ownsRow W.heap.size 56 4 v (TreeM f).length (flat tecs (TreeM f)) ∧ Below w.heap.size w w' ∧ Below W.heap.size W w' := by
  obtain ⟨B, ⟨sv, ps, h1⟩, _⟩ := h
  exact (callsIn_wide.1 (tree_any_in 3 (Nat.le_refl _) (h1.below hb) hw hc)).mono fun e w' ⟨v, h7, h8, h9⟩ => ⟨v, h7, h8, hb.trans (below_of h9 hb.size), h9⟩
/-- What lies apart from the tree stays. -/
theorem Own.callsX {f' : Fs} {F : Nat} {args : Array Value} {R : Ending → Prop} (h : Own w0 w p f) (hb : Below w.heap.size w W) (k : ∀ B sv ps, FsAt W B p f sv ps → Calls Try.prog F args W fun e w' => R e ∧ FsP (All B) W w' p f') : Calls Try.prog F args W fun e w' => R e ∧ Own w0 w' p f' ∧ Hold w.heap.size W.heap.size W w' := by
  obtain ⟨B, ⟨sv, ps, h1⟩, h2, h3⟩ := h
  refine (k B sv ps (h1.below hb)).mono fun e w' ⟨h9, B', k1, k2, k3⟩ => ⟨h9, FsP.trans (fun g hg => h2 g hg) (h3.below hb) ⟨B', k1, k2, k3⟩, k3.size, fun g hg hg2 => k3.block g hg2 (fun ⟨i, hi⟩ => ?_)⟩
  have := h1.lt i g hi
  omega
theorem Own.askX (h : Own w0 w p f) (hw : WF c f) (hc : c ≤ 5000) (hb : Below w.heap.size w W) (q N M K : Int) (s t : ByteArray) (hs : s.size ≤ maxLen) (ht : t.size ≤ maxLen) (ht9 : t.size ≤ 9000000000000000000) :
    Calls Try.prog 14 #[.pointer (some ⟨p, 0, none⟩), .agg #[.int .i64 q, .int .i64 N, .int .i64 M, .int .i64 K, .string s, .string t]] W fun E w' => (∃ (n : Int) (x : ByteArray) (s0 s1 s2 s3 s4 : Int) (y : ByteArray), E = .returned (.agg #[.int .i64 n, .string x, .int .i64 s0, .int .i64 s1, .int .i64 s2, .int .i64 s3, .int .i64 s4, .string y, .int .i64 (errF f q N M K s t : Nat)])) ∧ Own w0 w' p (stepF f q N M K s t) ∧ Hold w.heap.size W.heap.size W w' :=
  h.callsX hb fun B sv ps h1 => ask_any h1 hw hc q N M K s t hs ht ht9
theorem CallsAt.at {n0 : Nat} {A : Option Addr} {cs : List Cl} (h : CallsAt n0 w A cs) {i : Nat} {x : Cl} (hx : cs[i]? = some x) : ∃ b off, A = some ⟨b, off, none⟩ ∧ b < n0 ∧ w.cell? ⟨b, off + i * 6, none⟩ = some (.int .i64 x.q) ∧ w.cell? ⟨b, off + i * 6 + 1, none⟩ = some (.int .i64 x.N) ∧ w.cell? ⟨b, off + i * 6 + 2, none⟩ = some (.int .i64 x.M) ∧ w.cell? ⟨b, off + i * 6 + 3, none⟩ = some (.int .i64 x.K) ∧ w.cell? ⟨b, off + i * 6 + 4, none⟩ = some (.string x.s) ∧ w.cell? ⟨b, off + i * 6 + 5, none⟩ = some (.string x.t) := by
  obtain ⟨b, off, h1, h2, h3⟩ := h i x hx
  exact ⟨b, off, h1, h2, h3 0 _ rfl, h3 1 _ rfl, h3 2 _ rfl, h3 3 _ rfl, h3 4 _ rfl, h3 5 _ rfl⟩
end
end Go.Proofs.Ytohgecmbkjienaa
