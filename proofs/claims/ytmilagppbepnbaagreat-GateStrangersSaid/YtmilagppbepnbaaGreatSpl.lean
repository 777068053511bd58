/- What every call leaves, bounded; where an opening's number lies. No condition. -/
import Derived.Test.YtmilagppbepnbaaGreatSpk
import Derived.Test.YtmilagppbepnbaaGreatSpj
namespace Go.Proofs.YtmilagppbepnbaaGreat.Kn
open Go.RowKit Go.PlainAid
set_option linter.unusedVariables false
set_option linter.unusedSimpArgs false
section
variable {b z : Nat} {K : Ker} {n : Nat} {P : Prc}
theorem inv_up (hI : Inv b z K) (t : Nat) : Inv (b + 1) (z + t) K := hI.more (Nat.le_succ b) (Nat.le_add_right z t)
theorem Inv.wide (hI : Inv b z K) (t : Nat) : Inv b (z + t) K := hI.more (Nat.le_refl b) (Nat.le_add_right z t)
theorem inv_ans (hI : Inv b z K) (hb : b ≤ 1200) (hP : ask K.procs n = some P) (hl : P.ended = false) (c : Cal) : Inv (b + 1) (z + c.s.size) (ansM K n P c).ker := by
  have w4 : ∀ {f : Fs}, WF (4 * b + 1) f → WF (4 * b + 4) f := fun h => h.mono (by omega)
  have F : ∀ {f : Fs}, WF (4 * b + 1) f → Inv (b + 1) (z + c.s.size) (setF K f) := fun h => (inv_setF hI (w4 h)).wide _
  have U : ∀ {K' : Ker}, Inv b z K' → Inv (b + 1) (z + c.s.size) K' := fun h => inv_up h _
  unfold ansM
  by_cases e1 : c.no = 1
  · rw [if_pos e1]
    exact (inv_read hI _ _).wide _
  rw [if_neg e1]
  by_cases e2 : c.no = 2
  · rw [if_pos e2]
    exact inv_write hI hb hP hl _ _
  rw [if_neg e2]
  by_cases e3 : c.no = 3
  · rw [if_pos e3]
    exact (inv_open hI hb hP hl _ _ _).1.wide _
  rw [if_neg e3]
  by_cases e4 : c.no = 4
  · rw [if_pos e4]
    exact U (inv_close hI hP hl _)
  rw [if_neg e4]
  by_cases e5 : c.no = 5
  · rw [if_pos e5]
    exact U (inv_dup hI hP hl _ _)
  rw [if_neg e5]
  by_cases e6 : c.no = 6
  · rw [if_pos e6]
    exact U (inv_dup2 hI hP hl _ _)
  rw [if_neg e6]
  by_cases e7 : c.no = 7
  · rw [if_pos e7]
    exact (inv_pipe hI hb hP hl).wide _
  rw [if_neg e7]
  by_cases e8 : c.no = 8
  · rw [if_pos e8]
    exact (inv_fork hI hb hP).wide _
  rw [if_neg e8]
  by_cases e9 : c.no = 9
  · rw [if_pos e9]
    exact U (inv_exec hI hP hl)
  rw [if_neg e9]
  by_cases e10 : c.no = 10
  · rw [if_pos e10]
    split
    · exact U hI
    · exact U (inv_end hI hP hl _)
  rw [if_neg e10]
  by_cases e11 : c.no = 11
  · rw [if_pos e11]
    exact U (inv_wait hI _)
  rw [if_neg e11]
  by_cases e12 : c.no = 12
  · rw [if_pos e12]
    exact (inv_chdir hI hP hl _).wide _
  rw [if_neg e12]
  by_cases e13 : c.no = 13
  · rw [if_pos e13]
    exact U (hI.tame (tame_R _ _ _) (OK.proc hI.ok (n := n) (P := P) hP hl rfl (fun _ => ⟨rfl, rfl⟩)) hI.wf hI.br)
  rw [if_neg e13]
  by_cases e14 : c.no = 14
  · rw [if_pos e14]
    exact U hI
  rw [if_neg e14]
  by_cases e15 : c.no = 15
  · rw [if_pos e15]
    exact U hI
  rw [if_neg e15]
  by_cases e16 : c.no = 16
  · rw [if_pos e16]
    exact F (unlink_wf hI.wf _ _)
  rw [if_neg e16]
  by_cases e17 : c.no = 17
  · rw [if_pos e17]
    exact F (mkdir_wf hI.wf _ _ _)
  rw [if_neg e17]
  by_cases e18 : c.no = 18
  · rw [if_pos e18]
    exact F (rmdir_wf hI.wf _ _)
  rw [if_neg e18]
  by_cases e19 : c.no = 19
  · rw [if_pos e19]
    exact F (rename_wf hI.wf _ _ _)
  rw [if_neg e19]
  by_cases e20 : c.no = 20
  · rw [if_pos e20]
    exact F (link_wf hI.wf _ _ _)
  rw [if_neg e20]
  by_cases e21 : c.no = 21
  · rw [if_pos e21]
    show Inv _ _ (truncKM K P c.a c.b).2
    rcases trunc_ker K P c.a c.b with h | ⟨f, h, m, hf⟩
    · rw [h]; exact U hI
    · rw [h, hf]; exact F (trunc_wf hI.wf _ _)
  rw [if_neg e21]
  by_cases e22 : c.no = 22
  · rw [if_pos e22]
    split
    · exact F (chmod_wf hI.wf _ _)
    · exact U hI
  rw [if_neg e22]
  by_cases e23 : c.no = 23
  · rw [if_pos e23]
    exact U hI
  rw [if_neg e23]
  by_cases e24 : c.no = 24
  · rw [if_pos e24]
    exact U (hI.tame (tame_R _ _ _) (OK.mark hI.ok hP hl _ _) hI.wf hI.br)
  rw [if_neg e24]
  by_cases e25 : c.no = 25
  · rw [if_pos e25]
    exact U hI
  rw [if_neg e25]
  by_cases e26 : c.no = 26
  · rw [if_pos e26]
    exact U hI
  rw [if_neg e26]
  by_cases e27 : c.no = 27
  · rw [if_pos e27]
    exact U hI
  rw [if_neg e27]
  by_cases e28 : c.no = 28
  · rw [if_pos e28]
    exact (inv_text hI hb hP hl _)
  rw [if_neg e28]
  exact U hI
end
end Go.Proofs.YtmilagppbepnbaaGreat.Kn
/- The kernel's gate: answer of descriptors' calls, whatever the inner call does. Condition: the kernel lies as stated. -/
namespace Go.Proofs.YtmilagppbepnbaaGreat.Kn
open Go.RowKit Go.PlainAid
set_option linter.unusedVariables false
set_option linter.unusedSimpArgs false
attribute [local go_sem] Oper.semAt_some
section
variable {w w' w3 w4 : World} {B : Ix → Nat → Prop} {q : Nat} {K K' : Ker} {M : Mp} {c : Nat}
set_option maxRecDepth 100000 in
set_option maxHeartbeats 4000000 in
theorem ans_4 (h : KerIs w B q K M) {pb : Nat} (a b : Int) (s t : ByteArray) (pa : Option Addr) (pn pc : Nat) (n1 n2 : Int) (st : ByteArray) (er : Int)
    (hin : ∀ W, Below w.heap.size w W → Calls Tryz.prog 89 #[.pointer (some ⟨q, 0, none⟩), .pointer (some ⟨pb, 0, none⟩), .agg #[.int .i64 4, .int .i64 a, .int .i64 b, .string s, .string t, .slice pa pn pc]] W fun e w' => (∃ (la : Option Addr) (ln lc : Nat) (x0 x1 x2 x3 x4 : Int),  e = .returned (.tuple #[.agg #[.int .i64 n1, .int .i64 n2, .string st, .slice la ln lc, .int .i64 x0, .int .i64 x1, .int .i64 x2, .int .i64 x3, .int .i64 x4, .int .i64 0], .int .i64 er])) ∧ KP (AllX B) W K M w' q K') :
    Calls Tryz.prog 48 #[.pointer (some ⟨q, 0, none⟩), .pointer (some ⟨pb, 0, none⟩), .agg #[.int .i64 4, .int .i64 a, .int .i64 b, .string s, .string t, .slice pa pn pc]] w fun e w' => (∃ (la : Option Addr) (ln lc : Nat) (x0 x1 x2 x3 x4 : Int),  e = .returned (.tuple #[.agg #[.int .i64 n1, .int .i64 n2, .string st, .slice la ln lc, .int .i64 x0, .int .i64 x1, .int .i64 x2, .int .i64 x3, .int .i64 x4, .int .i64 0], .int .i64 er])) ∧ KP (AllX B) w K M w' q K' := by
  have hinH := Lib.hid hin
  have hH := Lib.hid h
  clear h hin
  go_enter Tryz.func48, Tryz.ntmps48
  go_upto_region 12 with fail
  obtain ⟨W0, hW0⟩ : ∃ W, (w.alloc (.cells #[.int .i64 4, .int .i64 a, .int .i64 b, .string s, .string t, .slice pa pn pc] 34)).alloc (.cells #[.int .i64 0, .int .i64 0, .string ⟨#[]⟩, .slice none 0 0, .int .i64 0, .int .i64 0, .int .i64 0, .int .i64 0, .int .i64 0, .int .i64 0] 44) = W := ⟨_, rfl⟩
  have hb0 : Below w.heap.size w W0 := by rw [← hW0]; exact ((Below.refl _ w).alloc (Nat.le_refl _) _).alloc (by simp) _
  have hC0 : Blk W0 w.heap.size 34 #[.int .i64 4, .int .i64 a, .int .i64 b, .string s, .string t, .slice pa pn pc] := by rw [← hW0]; exact (Blk.new w _ _).alloc _
  have hR0 : Blk W0 (w.heap.size + 1) 44 #[.int .i64 0, .int .i64 0, .string ⟨#[]⟩, .slice none 0 0, .int .i64 0, .int .i64 0, .int .i64 0, .int .i64 0, .int .i64 0, .int .i64 0] := by
    have h := Blk.new (w.alloc (.cells #[.int .i64 4, .int .i64 a, .int .i64 b, .string s, .string t, .slice pa pn pc] 34)) 44 #[.int .i64 0, .int .i64 0, .string ⟨#[]⟩, .slice none 0 0, .int .i64 0, .int .i64 0, .int .i64 0, .int .i64 0, .int .i64 0, .int .i64 0]
    rw [World.size_alloc, hW0] at h
    exact h
  have a0 : W0.cell? ⟨w.heap.size, 0, none⟩ = some (.int .i64 4) := hC0.cell 0
  have a1 : W0.cell? ⟨w.heap.size, 1, none⟩ = some (.int .i64 a) := hC0.cell 1
  have a2 : W0.cell? ⟨w.heap.size, 2, none⟩ = some (.int .i64 b) := hC0.cell 2
  have a3 : W0.cell? ⟨w.heap.size, 3, none⟩ = some (.string s) := hC0.cell 3
  have a4 : W0.cell? ⟨w.heap.size, 4, none⟩ = some (.string t) := hC0.cell 4
  have a5 : W0.cell? ⟨w.heap.size, 5, none⟩ = some (.slice pa pn pc) := hC0.cell 5
  have hb0H := Lib.hid hb0
  have hR0H := Lib.hid hR0
  rw [hW0]
  clear hb0 hC0 hR0 hW0
  go_wp2_with (first
    | (go_at_call 89; refine (hinH.out W0 hb0H.out).mono ?_; rintro e w3 ⟨⟨la, ln, lc, x0, x1, x2, x3, x4, rfl⟩, hk3⟩
       have hR3 := hR0H.out.keep (kp_keep hH.out hk3 (by omega) hR0H.out.lt)
       have rc0 : w3.cell? ⟨w.heap.size + 1, 0, none⟩ = some (.int .i64 0) := hR3.cell 0
       have rf0 : w3.frozen? ⟨w.heap.size + 1, 0, none⟩ = false := hR3.frozen 0
       have rc1 : w3.cell? ⟨w.heap.size + 1, 1, none⟩ = some (.int .i64 0) := hR3.cell 1
       have rf1 : w3.frozen? ⟨w.heap.size + 1, 1, none⟩ = false := hR3.frozen 1
       have rc2 : w3.cell? ⟨w.heap.size + 1, 2, none⟩ = some (.string ⟨#[]⟩) := hR3.cell 2
       have rf2 : w3.frozen? ⟨w.heap.size + 1, 2, none⟩ = false := hR3.frozen 2
       have rc3 : w3.cell? ⟨w.heap.size + 1, 3, none⟩ = some (.slice none 0 0) := hR3.cell 3
       have rf3 : w3.frozen? ⟨w.heap.size + 1, 3, none⟩ = false := hR3.frozen 3
       have rc4 : w3.cell? ⟨w.heap.size + 1, 4, none⟩ = some (.int .i64 0) := hR3.cell 4
       have rf4 : w3.frozen? ⟨w.heap.size + 1, 4, none⟩ = false := hR3.frozen 4
       have rc5 : w3.cell? ⟨w.heap.size + 1, 5, none⟩ = some (.int .i64 0) := hR3.cell 5
       have rf5 : w3.frozen? ⟨w.heap.size + 1, 5, none⟩ = false := hR3.frozen 5
       have rc6 : w3.cell? ⟨w.heap.size + 1, 6, none⟩ = some (.int .i64 0) := hR3.cell 6
       have rf6 : w3.frozen? ⟨w.heap.size + 1, 6, none⟩ = false := hR3.frozen 6
       have rc7 : w3.cell? ⟨w.heap.size + 1, 7, none⟩ = some (.int .i64 0) := hR3.cell 7
       have rf7 : w3.frozen? ⟨w.heap.size + 1, 7, none⟩ = false := hR3.frozen 7
       have rc8 : w3.cell? ⟨w.heap.size + 1, 8, none⟩ = some (.int .i64 0) := hR3.cell 8
       have rf8 : w3.frozen? ⟨w.heap.size + 1, 8, none⟩ = false := hR3.frozen 8
       have rc9 : w3.cell? ⟨w.heap.size + 1, 9, none⟩ = some (.int .i64 0) := hR3.cell 9
       have rf9 : w3.frozen? ⟨w.heap.size + 1, 9, none⟩ = false := hR3.frozen 9
       have hk3H := Lib.hid hk3; have hR3H := Lib.hid hR3; clear hk3 hR3))
  (try simp only [Exit.inBlock, Exit.then])
  refine bodyPost_ret (results_cell_row2 rfl _ _ (w.heap.size + 1) 44 _ _ rfl (put10 hR3H.out (.int .i64 n1) (.int .i64 n2) (.string st) (.slice la ln lc) (.int .i64 x0) (.int .i64 x1) (.int .i64 x2) (.int .i64 x3) (.int .i64 x4) (.int .i64 0)) Tryz.underlying44 rfl (by kernel_rfl)) rfl ?_
  exact ⟨⟨la, ln, lc, x0, x1, x2, x3, x4, rfl⟩, kp_end hH.out hb0H.out hk3H.out (frm10 (Frm.refl _ _) (.inl (by show w.heap.size ≤ w.heap.size + 1 ∧ w.heap.size + 1 < _; have := hR0H.out.lt; omega)) _ _ _ _ _ _ _ _ _ _)⟩
set_option maxRecDepth 100000 in
set_option maxHeartbeats 4000000 in
theorem ans_5 (h : KerIs w B q K M) {pb : Nat} (a b : Int) (s t : ByteArray) (pa : Option Addr) (pn pc : Nat) (n1 n2 : Int) (st : ByteArray) (er : Int)
    (hin : ∀ W, Below w.heap.size w W → Calls Tryz.prog 89 #[.pointer (some ⟨q, 0, none⟩), .pointer (some ⟨pb, 0, none⟩), .agg #[.int .i64 5, .int .i64 a, .int .i64 b, .string s, .string t, .slice pa pn pc]] W fun e w' => (∃ (la : Option Addr) (ln lc : Nat) (x0 x1 x2 x3 x4 : Int),  e = .returned (.tuple #[.agg #[.int .i64 n1, .int .i64 n2, .string st, .slice la ln lc, .int .i64 x0, .int .i64 x1, .int .i64 x2, .int .i64 x3, .int .i64 x4, .int .i64 0], .int .i64 er])) ∧ KP (AllX B) W K M w' q K') :
    Calls Tryz.prog 48 #[.pointer (some ⟨q, 0, none⟩), .pointer (some ⟨pb, 0, none⟩), .agg #[.int .i64 5, .int .i64 a, .int .i64 b, .string s, .string t, .slice pa pn pc]] w fun e w' => (∃ (la : Option Addr) (ln lc : Nat) (x0 x1 x2 x3 x4 : Int),  e = .returned (.tuple #[.agg #[.int .i64 n1, .int .i64 n2, .string st, .slice la ln lc, .int .i64 x0, .int .i64 x1, .int .i64 x2, .int .i64 x3, .int .i64 x4, .int .i64 0], .int .i64 er])) ∧ KP (AllX B) w K M w' q K' := by
  have hinH := Lib.hid hin
  have hH := Lib.hid h
  clear h hin
  go_enter Tryz.func48, Tryz.ntmps48
  go_upto_region 12 with fail
  obtain ⟨W0, hW0⟩ : ∃ W, (w.alloc (.cells #[.int .i64 5, .int .i64 a, .int .i64 b, .string s, .string t, .slice pa pn pc] 34)).alloc (.cells #[.int .i64 0, .int .i64 0, .string ⟨#[]⟩, .slice none 0 0, .int .i64 0, .int .i64 0, .int .i64 0, .int .i64 0, .int .i64 0, .int .i64 0] 44) = W := ⟨_, rfl⟩
  have hb0 : Below w.heap.size w W0 := by rw [← hW0]; exact ((Below.refl _ w).alloc (Nat.le_refl _) _).alloc (by simp) _
  have hC0 : Blk W0 w.heap.size 34 #[.int .i64 5, .int .i64 a, .int .i64 b, .string s, .string t, .slice pa pn pc] := by rw [← hW0]; exact (Blk.new w _ _).alloc _
  have hR0 : Blk W0 (w.heap.size + 1) 44 #[.int .i64 0, .int .i64 0, .string ⟨#[]⟩, .slice none 0 0, .int .i64 0, .int .i64 0, .int .i64 0, .int .i64 0, .int .i64 0, .int .i64 0] := by
    have h := Blk.new (w.alloc (.cells #[.int .i64 5, .int .i64 a, .int .i64 b, .string s, .string t, .slice pa pn pc] 34)) 44 #[.int .i64 0, .int .i64 0, .string ⟨#[]⟩, .slice none 0 0, .int .i64 0, .int .i64 0, .int .i64 0, .int .i64 0, .int .i64 0, .int .i64 0]
    rw [World.size_alloc, hW0] at h
    exact h
  have a0 : W0.cell? ⟨w.heap.size, 0, none⟩ = some (.int .i64 5) := hC0.cell 0
  have a1 : W0.cell? ⟨w.heap.size, 1, none⟩ = some (.int .i64 a) := hC0.cell 1
  have a2 : W0.cell? ⟨w.heap.size, 2, none⟩ = some (.int .i64 b) := hC0.cell 2
  have a3 : W0.cell? ⟨w.heap.size, 3, none⟩ = some (.string s) := hC0.cell 3
  have a4 : W0.cell? ⟨w.heap.size, 4, none⟩ = some (.string t) := hC0.cell 4
  have a5 : W0.cell? ⟨w.heap.size, 5, none⟩ = some (.slice pa pn pc) := hC0.cell 5
  have hb0H := Lib.hid hb0
  have hR0H := Lib.hid hR0
  rw [hW0]
  clear hb0 hC0 hR0 hW0
  go_wp2_with (first
    | (go_at_call 89; refine (hinH.out W0 hb0H.out).mono ?_; rintro e w3 ⟨⟨la, ln, lc, x0, x1, x2, x3, x4, rfl⟩, hk3⟩
       have hR3 := hR0H.out.keep (kp_keep hH.out hk3 (by omega) hR0H.out.lt)
       have rc0 : w3.cell? ⟨w.heap.size + 1, 0, none⟩ = some (.int .i64 0) := hR3.cell 0
       have rf0 : w3.frozen? ⟨w.heap.size + 1, 0, none⟩ = false := hR3.frozen 0
       have rc1 : w3.cell? ⟨w.heap.size + 1, 1, none⟩ = some (.int .i64 0) := hR3.cell 1
       have rf1 : w3.frozen? ⟨w.heap.size + 1, 1, none⟩ = false := hR3.frozen 1
       have rc2 : w3.cell? ⟨w.heap.size + 1, 2, none⟩ = some (.string ⟨#[]⟩) := hR3.cell 2
       have rf2 : w3.frozen? ⟨w.heap.size + 1, 2, none⟩ = false := hR3.frozen 2
       have rc3 : w3.cell? ⟨w.heap.size + 1, 3, none⟩ = some (.slice none 0 0) := hR3.cell 3
       have rf3 : w3.frozen? ⟨w.heap.size + 1, 3, none⟩ = false := hR3.frozen 3
       have rc4 : w3.cell? ⟨w.heap.size + 1, 4, none⟩ = some (.int .i64 0) := hR3.cell 4
       have rf4 : w3.frozen? ⟨w.heap.size + 1, 4, none⟩ = false := hR3.frozen 4
       have rc5 : w3.cell? ⟨w.heap.size + 1, 5, none⟩ = some (.int .i64 0) := hR3.cell 5
       have rf5 : w3.frozen? ⟨w.heap.size + 1, 5, none⟩ = false := hR3.frozen 5
       have rc6 : w3.cell? ⟨w.heap.size + 1, 6, none⟩ = some (.int .i64 0) := hR3.cell 6
       have rf6 : w3.frozen? ⟨w.heap.size + 1, 6, none⟩ = false := hR3.frozen 6
       have rc7 : w3.cell? ⟨w.heap.size + 1, 7, none⟩ = some (.int .i64 0) := hR3.cell 7
       have rf7 : w3.frozen? ⟨w.heap.size + 1, 7, none⟩ = false := hR3.frozen 7
       have rc8 : w3.cell? ⟨w.heap.size + 1, 8, none⟩ = some (.int .i64 0) := hR3.cell 8
       have rf8 : w3.frozen? ⟨w.heap.size + 1, 8, none⟩ = false := hR3.frozen 8
       have rc9 : w3.cell? ⟨w.heap.size + 1, 9, none⟩ = some (.int .i64 0) := hR3.cell 9
       have rf9 : w3.frozen? ⟨w.heap.size + 1, 9, none⟩ = false := hR3.frozen 9
       have hk3H := Lib.hid hk3; have hR3H := Lib.hid hR3; clear hk3 hR3))
  (try simp only [Exit.inBlock, Exit.then])
  refine bodyPost_ret (results_cell_row2 rfl _ _ (w.heap.size + 1) 44 _ _ rfl (put10 hR3H.out (.int .i64 n1) (.int .i64 n2) (.string st) (.slice la ln lc) (.int .i64 x0) (.int .i64 x1) (.int .i64 x2) (.int .i64 x3) (.int .i64 x4) (.int .i64 0)) Tryz.underlying44 rfl (by kernel_rfl)) rfl ?_
  exact ⟨⟨la, ln, lc, x0, x1, x2, x3, x4, rfl⟩, kp_end hH.out hb0H.out hk3H.out (frm10 (Frm.refl _ _) (.inl (by show w.heap.size ≤ w.heap.size + 1 ∧ w.heap.size + 1 < _; have := hR0H.out.lt; omega)) _ _ _ _ _ _ _ _ _ _)⟩
set_option maxRecDepth 100000 in
set_option maxHeartbeats 4000000 in
theorem ans_6 (h : KerIs w B q K M) {pb : Nat} (a b : Int) (s t : ByteArray) (pa : Option Addr) (pn pc : Nat) (n1 n2 : Int) (st : ByteArray) (er : Int)
    (hin : ∀ W, Below w.heap.size w W → Calls Tryz.prog 89 #[.pointer (some ⟨q, 0, none⟩), .pointer (some ⟨pb, 0, none⟩), .agg #[.int .i64 6, .int .i64 a, .int .i64 b, .string s, .string t, .slice pa pn pc]] W fun e w' => (∃ (la : Option Addr) (ln lc : Nat) (x0 x1 x2 x3 x4 : Int),  e = .returned (.tuple #[.agg #[.int .i64 n1, .int .i64 n2, .string st, .slice la ln lc, .int .i64 x0, .int .i64 x1, .int .i64 x2, .int .i64 x3, .int .i64 x4, .int .i64 0], .int .i64 er])) ∧ KP (AllX B) W K M w' q K') :
    Calls Tryz.prog 48 #[.pointer (some ⟨q, 0, none⟩), .pointer (some ⟨pb, 0, none⟩), .agg #[.int .i64 6, .int .i64 a, .int .i64 b, .string s, .string t, .slice pa pn pc]] w fun e w' => (∃ (la : Option Addr) (ln lc : Nat) (x0 x1 x2 x3 x4 : Int),  e = .returned (.tuple #[.agg #[.int .i64 n1, .int .i64 n2, .string st, .slice la ln lc, .int .i64 x0, .int .i64 x1, .int .i64 x2, .int .i64 x3, .int .i64 x4, .int .i64 0], .int .i64 er])) ∧ KP (AllX B) w K M w' q K' := by
  have hinH := Lib.hid hin
  have hH := Lib.hid h
  clear h hin
  go_enter Tryz.func48, Tryz.ntmps48
  go_upto_region 12 with fail
  obtain ⟨W0, hW0⟩ : ∃ W, (w.alloc (.cells #[.int .i64 6, .int .i64 a, .int .i64 b, .string s, .string t, .slice pa pn pc] 34)).alloc (.cells #[.int .i64 0, .int .i64 0, .string ⟨#[]⟩, .slice none 0 0, .int .i64 0, .int .i64 0, .int .i64 0, .int .i64 0, .int .i64 0, .int .i64 0] 44) = W := ⟨_, rfl⟩
  have hb0 : Below w.heap.size w W0 := by rw [← hW0]; exact ((Below.refl _ w).alloc (Nat.le_refl _) _).alloc (by simp) _
  have hC0 : Blk W0 w.heap.size 34 #[.int .i64 6, .int .i64 a, .int .i64 b, .string s, .string t, .slice pa pn pc] := by rw [← hW0]; exact (Blk.new w _ _).alloc _
  have hR0 : Blk W0 (w.heap.size + 1) 44 #[.int .i64 0, .int .i64 0, .string ⟨#[]⟩, .slice none 0 0, .int .i64 0, .int .i64 0, .int .i64 0, .int .i64 0, .int .i64 0, .int .i64 0] := by
    have h := Blk.new (w.alloc (.cells #[.int .i64 6, .int .i64 a, .int .i64 b, .string s, .string t, .slice pa pn pc] 34)) 44 #[.int .i64 0, .int .i64 0, .string ⟨#[]⟩, .slice none 0 0, .int .i64 0, .int .i64 0, .int .i64 0, .int .i64 0, .int .i64 0, .int .i64 0]
    rw [World.size_alloc, hW0] at h
    exact h
  have a0 : W0.cell? ⟨w.heap.size, 0, none⟩ = some (.int .i64 6) := hC0.cell 0
  have a1 : W0.cell? ⟨w.heap.size, 1, none⟩ = some (.int .i64 a) := hC0.cell 1
  have a2 : W0.cell? ⟨w.heap.size, 2, none⟩ = some (.int .i64 b) := hC0.cell 2
  have a3 : W0.cell? ⟨w.heap.size, 3, none⟩ = some (.string s) := hC0.cell 3
  have a4 : W0.cell? ⟨w.heap.size, 4, none⟩ = some (.string t) := hC0.cell 4
  have a5 : W0.cell? ⟨w.heap.size, 5, none⟩ = some (.slice pa pn pc) := hC0.cell 5
  have hb0H := Lib.hid hb0
  have hR0H := Lib.hid hR0
  rw [hW0]
  clear hb0 hC0 hR0 hW0
  go_wp2_with (first
    | (go_at_call 89; refine (hinH.out W0 hb0H.out).mono ?_; rintro e w3 ⟨⟨la, ln, lc, x0, x1, x2, x3, x4, rfl⟩, hk3⟩
       have hR3 := hR0H.out.keep (kp_keep hH.out hk3 (by omega) hR0H.out.lt)
       have rc0 : w3.cell? ⟨w.heap.size + 1, 0, none⟩ = some (.int .i64 0) := hR3.cell 0
       have rf0 : w3.frozen? ⟨w.heap.size + 1, 0, none⟩ = false := hR3.frozen 0
       have rc1 : w3.cell? ⟨w.heap.size + 1, 1, none⟩ = some (.int .i64 0) := hR3.cell 1
       have rf1 : w3.frozen? ⟨w.heap.size + 1, 1, none⟩ = false := hR3.frozen 1
       have rc2 : w3.cell? ⟨w.heap.size + 1, 2, none⟩ = some (.string ⟨#[]⟩) := hR3.cell 2
       have rf2 : w3.frozen? ⟨w.heap.size + 1, 2, none⟩ = false := hR3.frozen 2
       have rc3 : w3.cell? ⟨w.heap.size + 1, 3, none⟩ = some (.slice none 0 0) := hR3.cell 3
       have rf3 : w3.frozen? ⟨w.heap.size + 1, 3, none⟩ = false := hR3.frozen 3
       have rc4 : w3.cell? ⟨w.heap.size + 1, 4, none⟩ = some (.int .i64 0) := hR3.cell 4
       have rf4 : w3.frozen? ⟨w.heap.size + 1, 4, none⟩ = false := hR3.frozen 4
       have rc5 : w3.cell? ⟨w.heap.size + 1, 5, none⟩ = some (.int .i64 0) := hR3.cell 5
       have rf5 : w3.frozen? ⟨w.heap.size + 1, 5, none⟩ = false := hR3.frozen 5
       have rc6 : w3.cell? ⟨w.heap.size + 1, 6, none⟩ = some (.int .i64 0) := hR3.cell 6
       have rf6 : w3.frozen? ⟨w.heap.size + 1, 6, none⟩ = false := hR3.frozen 6
       have rc7 : w3.cell? ⟨w.heap.size + 1, 7, none⟩ = some (.int .i64 0) := hR3.cell 7
       have rf7 : w3.frozen? ⟨w.heap.size + 1, 7, none⟩ = false := hR3.frozen 7
       have rc8 : w3.cell? ⟨w.heap.size + 1, 8, none⟩ = some (.int .i64 0) := hR3.cell 8
       have rf8 : w3.frozen? ⟨w.heap.size + 1, 8, none⟩ = false := hR3.frozen 8
       have rc9 : w3.cell? ⟨w.heap.size + 1, 9, none⟩ = some (.int .i64 0) := hR3.cell 9
       have rf9 : w3.frozen? ⟨w.heap.size + 1, 9, none⟩ = false := hR3.frozen 9
       have hk3H := Lib.hid hk3; have hR3H := Lib.hid hR3; clear hk3 hR3))
  (try simp only [Exit.inBlock, Exit.then])
  refine bodyPost_ret (results_cell_row2 rfl _ _ (w.heap.size + 1) 44 _ _ rfl (put10 hR3H.out (.int .i64 n1) (.int .i64 n2) (.string st) (.slice la ln lc) (.int .i64 x0) (.int .i64 x1) (.int .i64 x2) (.int .i64 x3) (.int .i64 x4) (.int .i64 0)) Tryz.underlying44 rfl (by kernel_rfl)) rfl ?_
  exact ⟨⟨la, ln, lc, x0, x1, x2, x3, x4, rfl⟩, kp_end hH.out hb0H.out hk3H.out (frm10 (Frm.refl _ _) (.inl (by show w.heap.size ≤ w.heap.size + 1 ∧ w.heap.size + 1 < _; have := hR0H.out.lt; omega)) _ _ _ _ _ _ _ _ _ _)⟩
set_option maxRecDepth 100000 in
set_option maxHeartbeats 4000000 in
theorem ans_7 (h : KerIs w B q K M) {pb : Nat} (a b : Int) (s t : ByteArray) (pa : Option Addr) (pn pc : Nat) (n1 n2 : Int) (st : ByteArray) (er : Int)
    (hin : ∀ W, Below w.heap.size w W → Calls Tryz.prog 89 #[.pointer (some ⟨q, 0, none⟩), .pointer (some ⟨pb, 0, none⟩), .agg #[.int .i64 7, .int .i64 a, .int .i64 b, .string s, .string t, .slice pa pn pc]] W fun e w' => (∃ (la : Option Addr) (ln lc : Nat) (x0 x1 x2 x3 x4 : Int),  e = .returned (.tuple #[.agg #[.int .i64 n1, .int .i64 n2, .string st, .slice la ln lc, .int .i64 x0, .int .i64 x1, .int .i64 x2, .int .i64 x3, .int .i64 x4, .int .i64 0], .int .i64 er])) ∧ KP (AllX B) W K M w' q K') :
    Calls Tryz.prog 48 #[.pointer (some ⟨q, 0, none⟩), .pointer (some ⟨pb, 0, none⟩), .agg #[.int .i64 7, .int .i64 a, .int .i64 b, .string s, .string t, .slice pa pn pc]] w fun e w' => (∃ (la : Option Addr) (ln lc : Nat) (x0 x1 x2 x3 x4 : Int),  e = .returned (.tuple #[.agg #[.int .i64 n1, .int .i64 n2, .string st, .slice la ln lc, .int .i64 x0, .int .i64 x1, .int .i64 x2, .int .i64 x3, .int .i64 x4, .int .i64 0], .int .i64 er])) ∧ KP (AllX B) w K M w' q K' := by
  have hinH := Lib.hid hin
  have hH := Lib.hid h
  clear h hin
  go_enter Tryz.func48, Tryz.ntmps48
  go_upto_region 12 with fail
  obtain ⟨W0, hW0⟩ : ∃ W, (w.alloc (.cells #[.int .i64 7, .int .i64 a, .int .i64 b, .string s, .string t, .slice pa pn pc] 34)).alloc (.cells #[.int .i64 0, .int .i64 0, .string ⟨#[]⟩, .slice none 0 0, .int .i64 0, .int .i64 0, .int .i64 0, .int .i64 0, .int .i64 0, .int .i64 0] 44) = W := ⟨_, rfl⟩
  have hb0 : Below w.heap.size w W0 := by rw [← hW0]; exact ((Below.refl _ w).alloc (Nat.le_refl _) _).alloc (by simp) _
  have hC0 : Blk W0 w.heap.size 34 #[.int .i64 7, .int .i64 a, .int .i64 b, .string s, .string t, .slice pa pn pc] := by rw [← hW0]; exact (Blk.new w _ _).alloc _
  have hR0 : Blk W0 (w.heap.size + 1) 44 #[.int .i64 0, .int .i64 0, .string ⟨#[]⟩, .slice none 0 0, .int .i64 0, .int .i64 0, .int .i64 0, .int .i64 0, .int .i64 0, .int .i64 0] := by
    have h := Blk.new (w.alloc (.cells #[.int .i64 7, .int .i64 a, .int .i64 b, .string s, .string t, .slice pa pn pc] 34)) 44 #[.int .i64 0, .int .i64 0, .string ⟨#[]⟩, .slice none 0 0, .int .i64 0, .int .i64 0, .int .i64 0, .int .i64 0, .int .i64 0, .int .i64 0]
    rw [World.size_alloc, hW0] at h
    exact h
  have a0 : W0.cell? ⟨w.heap.size, 0, none⟩ = some (.int .i64 7) := hC0.cell 0
  have a1 : W0.cell? ⟨w.heap.size, 1, none⟩ = some (.int .i64 a) := hC0.cell 1
  have a2 : W0.cell? ⟨w.heap.size, 2, none⟩ = some (.int .i64 b) := hC0.cell 2
  have a3 : W0.cell? ⟨w.heap.size, 3, none⟩ = some (.string s) := hC0.cell 3
  have a4 : W0.cell? ⟨w.heap.size, 4, none⟩ = some (.string t) := hC0.cell 4
  have a5 : W0.cell? ⟨w.heap.size, 5, none⟩ = some (.slice pa pn pc) := hC0.cell 5
  have hb0H := Lib.hid hb0
  have hR0H := Lib.hid hR0
  rw [hW0]
  clear hb0 hC0 hR0 hW0
  go_wp2_with (first
    | (go_at_call 89; refine (hinH.out W0 hb0H.out).mono ?_; rintro e w3 ⟨⟨la, ln, lc, x0, x1, x2, x3, x4, rfl⟩, hk3⟩
       have hR3 := hR0H.out.keep (kp_keep hH.out hk3 (by omega) hR0H.out.lt)
       have rc0 : w3.cell? ⟨w.heap.size + 1, 0, none⟩ = some (.int .i64 0) := hR3.cell 0
       have rf0 : w3.frozen? ⟨w.heap.size + 1, 0, none⟩ = false := hR3.frozen 0
       have rc1 : w3.cell? ⟨w.heap.size + 1, 1, none⟩ = some (.int .i64 0) := hR3.cell 1
       have rf1 : w3.frozen? ⟨w.heap.size + 1, 1, none⟩ = false := hR3.frozen 1
       have rc2 : w3.cell? ⟨w.heap.size + 1, 2, none⟩ = some (.string ⟨#[]⟩) := hR3.cell 2
       have rf2 : w3.frozen? ⟨w.heap.size + 1, 2, none⟩ = false := hR3.frozen 2
       have rc3 : w3.cell? ⟨w.heap.size + 1, 3, none⟩ = some (.slice none 0 0) := hR3.cell 3
       have rf3 : w3.frozen? ⟨w.heap.size + 1, 3, none⟩ = false := hR3.frozen 3
       have rc4 : w3.cell? ⟨w.heap.size + 1, 4, none⟩ = some (.int .i64 0) := hR3.cell 4
       have rf4 : w3.frozen? ⟨w.heap.size + 1, 4, none⟩ = false := hR3.frozen 4
       have rc5 : w3.cell? ⟨w.heap.size + 1, 5, none⟩ = some (.int .i64 0) := hR3.cell 5
       have rf5 : w3.frozen? ⟨w.heap.size + 1, 5, none⟩ = false := hR3.frozen 5
       have rc6 : w3.cell? ⟨w.heap.size + 1, 6, none⟩ = some (.int .i64 0) := hR3.cell 6
       have rf6 : w3.frozen? ⟨w.heap.size + 1, 6, none⟩ = false := hR3.frozen 6
       have rc7 : w3.cell? ⟨w.heap.size + 1, 7, none⟩ = some (.int .i64 0) := hR3.cell 7
       have rf7 : w3.frozen? ⟨w.heap.size + 1, 7, none⟩ = false := hR3.frozen 7
       have rc8 : w3.cell? ⟨w.heap.size + 1, 8, none⟩ = some (.int .i64 0) := hR3.cell 8
       have rf8 : w3.frozen? ⟨w.heap.size + 1, 8, none⟩ = false := hR3.frozen 8
       have rc9 : w3.cell? ⟨w.heap.size + 1, 9, none⟩ = some (.int .i64 0) := hR3.cell 9
       have rf9 : w3.frozen? ⟨w.heap.size + 1, 9, none⟩ = false := hR3.frozen 9
       have hk3H := Lib.hid hk3; have hR3H := Lib.hid hR3; clear hk3 hR3))
  (try simp only [Exit.inBlock, Exit.then])
  refine bodyPost_ret (results_cell_row2 rfl _ _ (w.heap.size + 1) 44 _ _ rfl (put10 hR3H.out (.int .i64 n1) (.int .i64 n2) (.string st) (.slice la ln lc) (.int .i64 x0) (.int .i64 x1) (.int .i64 x2) (.int .i64 x3) (.int .i64 x4) (.int .i64 0)) Tryz.underlying44 rfl (by kernel_rfl)) rfl ?_
  exact ⟨⟨la, ln, lc, x0, x1, x2, x3, x4, rfl⟩, kp_end hH.out hb0H.out hk3H.out (frm10 (Frm.refl _ _) (.inl (by show w.heap.size ≤ w.heap.size + 1 ∧ w.heap.size + 1 < _; have := hR0H.out.lt; omega)) _ _ _ _ _ _ _ _ _ _)⟩
set_option maxRecDepth 100000 in
set_option maxHeartbeats 4000000 in
theorem ans_24 (h : KerIs w B q K M) {pb : Nat} (a b : Int) (s t : ByteArray) (pa : Option Addr) (pn pc : Nat) (n1 n2 : Int) (st : ByteArray) (er : Int)
    (hin : ∀ W, Below w.heap.size w W → Calls Tryz.prog 89 #[.pointer (some ⟨q, 0, none⟩), .pointer (some ⟨pb, 0, none⟩), .agg #[.int .i64 24, .int .i64 a, .int .i64 b, .string s, .string t, .slice pa pn pc]] W fun e w' => (∃ (la : Option Addr) (ln lc : Nat) (x0 x1 x2 x3 x4 : Int),  e = .returned (.tuple #[.agg #[.int .i64 n1, .int .i64 n2, .string st, .slice la ln lc, .int .i64 x0, .int .i64 x1, .int .i64 x2, .int .i64 x3, .int .i64 x4, .int .i64 0], .int .i64 er])) ∧ KP (AllX B) W K M w' q K') :
    Calls Tryz.prog 48 #[.pointer (some ⟨q, 0, none⟩), .pointer (some ⟨pb, 0, none⟩), .agg #[.int .i64 24, .int .i64 a, .int .i64 b, .string s, .string t, .slice pa pn pc]] w fun e w' => (∃ (la : Option Addr) (ln lc : Nat) (x0 x1 x2 x3 x4 : Int),  e = .returned (.tuple #[.agg #[.int .i64 n1, .int .i64 n2, .string st, .slice la ln lc, .int .i64 x0, .int .i64 x1, .int .i64 x2, .int .i64 x3, .int .i64 x4, .int .i64 0], .int .i64 er])) ∧ KP (AllX B) w K M w' q K' := by
  have hinH := Lib.hid hin
  have hH := Lib.hid h
  clear h hin
  go_enter Tryz.func48, Tryz.ntmps48
  go_upto_region 12 with fail
  obtain ⟨W0, hW0⟩ : ∃ W, (w.alloc (.cells #[.int .i64 24, .int .i64 a, .int .i64 b, .string s, .string t, .slice pa pn pc] 34)).alloc (.cells #[.int .i64 0, .int .i64 0, .string ⟨#[]⟩, .slice none 0 0, .int .i64 0, .int .i64 0, .int .i64 0, .int .i64 0, .int .i64 0, .int .i64 0] 44) = W := ⟨_, rfl⟩
  have hb0 : Below w.heap.size w W0 := by rw [← hW0]; exact ((Below.refl _ w).alloc (Nat.le_refl _) _).alloc (by simp) _
  have hC0 : Blk W0 w.heap.size 34 #[.int .i64 24, .int .i64 a, .int .i64 b, .string s, .string t, .slice pa pn pc] := by rw [← hW0]; exact (Blk.new w _ _).alloc _
  have hR0 : Blk W0 (w.heap.size + 1) 44 #[.int .i64 0, .int .i64 0, .string ⟨#[]⟩, .slice none 0 0, .int .i64 0, .int .i64 0, .int .i64 0, .int .i64 0, .int .i64 0, .int .i64 0] := by
    have h := Blk.new (w.alloc (.cells #[.int .i64 24, .int .i64 a, .int .i64 b, .string s, .string t, .slice pa pn pc] 34)) 44 #[.int .i64 0, .int .i64 0, .string ⟨#[]⟩, .slice none 0 0, .int .i64 0, .int .i64 0, .int .i64 0, .int .i64 0, .int .i64 0, .int .i64 0]
    rw [World.size_alloc, hW0] at h
    exact h
  have a0 : W0.cell? ⟨w.heap.size, 0, none⟩ = some (.int .i64 24) := hC0.cell 0
  have a1 : W0.cell? ⟨w.heap.size, 1, none⟩ = some (.int .i64 a) := hC0.cell 1
  have a2 : W0.cell? ⟨w.heap.size, 2, none⟩ = some (.int .i64 b) := hC0.cell 2
  have a3 : W0.cell? ⟨w.heap.size, 3, none⟩ = some (.string s) := hC0.cell 3
  have a4 : W0.cell? ⟨w.heap.size, 4, none⟩ = some (.string t) := hC0.cell 4
  have a5 : W0.cell? ⟨w.heap.size, 5, none⟩ = some (.slice pa pn pc) := hC0.cell 5
  have hb0H := Lib.hid hb0
  have hR0H := Lib.hid hR0
  rw [hW0]
  clear hb0 hC0 hR0 hW0
  go_wp2_with (first
    | (go_at_call 89; refine (hinH.out W0 hb0H.out).mono ?_; rintro e w3 ⟨⟨la, ln, lc, x0, x1, x2, x3, x4, rfl⟩, hk3⟩
       have hR3 := hR0H.out.keep (kp_keep hH.out hk3 (by omega) hR0H.out.lt)
       have rc0 : w3.cell? ⟨w.heap.size + 1, 0, none⟩ = some (.int .i64 0) := hR3.cell 0
       have rf0 : w3.frozen? ⟨w.heap.size + 1, 0, none⟩ = false := hR3.frozen 0
       have rc1 : w3.cell? ⟨w.heap.size + 1, 1, none⟩ = some (.int .i64 0) := hR3.cell 1
       have rf1 : w3.frozen? ⟨w.heap.size + 1, 1, none⟩ = false := hR3.frozen 1
       have rc2 : w3.cell? ⟨w.heap.size + 1, 2, none⟩ = some (.string ⟨#[]⟩) := hR3.cell 2
       have rf2 : w3.frozen? ⟨w.heap.size + 1, 2, none⟩ = false := hR3.frozen 2
       have rc3 : w3.cell? ⟨w.heap.size + 1, 3, none⟩ = some (.slice none 0 0) := hR3.cell 3
       have rf3 : w3.frozen? ⟨w.heap.size + 1, 3, none⟩ = false := hR3.frozen 3
       have rc4 : w3.cell? ⟨w.heap.size + 1, 4, none⟩ = some (.int .i64 0) := hR3.cell 4
       have rf4 : w3.frozen? ⟨w.heap.size + 1, 4, none⟩ = false := hR3.frozen 4
       have rc5 : w3.cell? ⟨w.heap.size + 1, 5, none⟩ = some (.int .i64 0) := hR3.cell 5
       have rf5 : w3.frozen? ⟨w.heap.size + 1, 5, none⟩ = false := hR3.frozen 5
       have rc6 : w3.cell? ⟨w.heap.size + 1, 6, none⟩ = some (.int .i64 0) := hR3.cell 6
       have rf6 : w3.frozen? ⟨w.heap.size + 1, 6, none⟩ = false := hR3.frozen 6
       have rc7 : w3.cell? ⟨w.heap.size + 1, 7, none⟩ = some (.int .i64 0) := hR3.cell 7
       have rf7 : w3.frozen? ⟨w.heap.size + 1, 7, none⟩ = false := hR3.frozen 7
       have rc8 : w3.cell? ⟨w.heap.size + 1, 8, none⟩ = some (.int .i64 0) := hR3.cell 8
       have rf8 : w3.frozen? ⟨w.heap.size + 1, 8, none⟩ = false := hR3.frozen 8
       have rc9 : w3.cell? ⟨w.heap.size + 1, 9, none⟩ = some (.int .i64 0) := hR3.cell 9
       have rf9 : w3.frozen? ⟨w.heap.size + 1, 9, none⟩ = false := hR3.frozen 9
       have hk3H := Lib.hid hk3; have hR3H := Lib.hid hR3; clear hk3 hR3))
  (try simp only [Exit.inBlock, Exit.then])
  refine bodyPost_ret (results_cell_row2 rfl _ _ (w.heap.size + 1) 44 _ _ rfl (put10 hR3H.out (.int .i64 n1) (.int .i64 n2) (.string st) (.slice la ln lc) (.int .i64 x0) (.int .i64 x1) (.int .i64 x2) (.int .i64 x3) (.int .i64 x4) (.int .i64 0)) Tryz.underlying44 rfl (by kernel_rfl)) rfl ?_
  exact ⟨⟨la, ln, lc, x0, x1, x2, x3, x4, rfl⟩, kp_end hH.out hb0H.out hk3H.out (frm10 (Frm.refl _ _) (.inl (by show w.heap.size ≤ w.heap.size + 1 ∧ w.heap.size + 1 < _; have := hR0H.out.lt; omega)) _ _ _ _ _ _ _ _ _ _)⟩
set_option maxRecDepth 100000 in
set_option maxHeartbeats 4000000 in
theorem ans_28 (h : KerIs w B q K M) {pb : Nat} (a b : Int) (s t : ByteArray) (pa : Option Addr) (pn pc : Nat) (n1 n2 : Int) (st : ByteArray) (er : Int)
    (hin : ∀ W, Below w.heap.size w W → Calls Tryz.prog 89 #[.pointer (some ⟨q, 0, none⟩), .pointer (some ⟨pb, 0, none⟩), .agg #[.int .i64 28, .int .i64 a, .int .i64 b, .string s, .string t, .slice pa pn pc]] W fun e w' => (∃ (la : Option Addr) (ln lc : Nat) (x0 x1 x2 x3 x4 : Int),  e = .returned (.tuple #[.agg #[.int .i64 n1, .int .i64 n2, .string st, .slice la ln lc, .int .i64 x0, .int .i64 x1, .int .i64 x2, .int .i64 x3, .int .i64 x4, .int .i64 0], .int .i64 er])) ∧ KP (AllX B) W K M w' q K') :
    Calls Tryz.prog 48 #[.pointer (some ⟨q, 0, none⟩), .pointer (some ⟨pb, 0, none⟩), .agg #[.int .i64 28, .int .i64 a, .int .i64 b, .string s, .string t, .slice pa pn pc]] w fun e w' => (∃ (la : Option Addr) (ln lc : Nat) (x0 x1 x2 x3 x4 : Int),  e = .returned (.tuple #[.agg #[.int .i64 n1, .int .i64 n2, .string st, .slice la ln lc, .int .i64 x0, .int .i64 x1, .int .i64 x2, .int .i64 x3, .int .i64 x4, .int .i64 0], .int .i64 er])) ∧ KP (AllX B) w K M w' q K' := by
  have hinH := Lib.hid hin
  have hH := Lib.hid h
  clear h hin
  go_enter Tryz.func48, Tryz.ntmps48
  go_upto_region 12 with fail
  obtain ⟨W0, hW0⟩ : ∃ W, (w.alloc (.cells #[.int .i64 28, .int .i64 a, .int .i64 b, .string s, .string t, .slice pa pn pc] 34)).alloc (.cells #[.int .i64 0, .int .i64 0, .string ⟨#[]⟩, .slice none 0 0, .int .i64 0, .int .i64 0, .int .i64 0, .int .i64 0, .int .i64 0, .int .i64 0] 44) = W := ⟨_, rfl⟩
  have hb0 : Below w.heap.size w W0 := by rw [← hW0]; exact ((Below.refl _ w).alloc (Nat.le_refl _) _).alloc (by simp) _
  have hC0 : Blk W0 w.heap.size 34 #[.int .i64 28, .int .i64 a, .int .i64 b, .string s, .string t, .slice pa pn pc] := by rw [← hW0]; exact (Blk.new w _ _).alloc _
  have hR0 : Blk W0 (w.heap.size + 1) 44 #[.int .i64 0, .int .i64 0, .string ⟨#[]⟩, .slice none 0 0, .int .i64 0, .int .i64 0, .int .i64 0, .int .i64 0, .int .i64 0, .int .i64 0] := by
    have h := Blk.new (w.alloc (.cells #[.int .i64 28, .int .i64 a, .int .i64 b, .string s, .string t, .slice pa pn pc] 34)) 44 #[.int .i64 0, .int .i64 0, .string ⟨#[]⟩, .slice none 0 0, .int .i64 0, .int .i64 0, .int .i64 0, .int .i64 0, .int .i64 0, .int .i64 0]
    rw [World.size_alloc, hW0] at h
    exact h
  have a0 : W0.cell? ⟨w.heap.size, 0, none⟩ = some (.int .i64 28) := hC0.cell 0
  have a1 : W0.cell? ⟨w.heap.size, 1, none⟩ = some (.int .i64 a) := hC0.cell 1
  have a2 : W0.cell? ⟨w.heap.size, 2, none⟩ = some (.int .i64 b) := hC0.cell 2
  have a3 : W0.cell? ⟨w.heap.size, 3, none⟩ = some (.string s) := hC0.cell 3
  have a4 : W0.cell? ⟨w.heap.size, 4, none⟩ = some (.string t) := hC0.cell 4
  have a5 : W0.cell? ⟨w.heap.size, 5, none⟩ = some (.slice pa pn pc) := hC0.cell 5
  have hb0H := Lib.hid hb0
  have hR0H := Lib.hid hR0
  rw [hW0]
  clear hb0 hC0 hR0 hW0
  go_wp2_with (first
    | (go_at_call 89; refine (hinH.out W0 hb0H.out).mono ?_; rintro e w3 ⟨⟨la, ln, lc, x0, x1, x2, x3, x4, rfl⟩, hk3⟩
       have hR3 := hR0H.out.keep (kp_keep hH.out hk3 (by omega) hR0H.out.lt)
       have rc0 : w3.cell? ⟨w.heap.size + 1, 0, none⟩ = some (.int .i64 0) := hR3.cell 0
       have rf0 : w3.frozen? ⟨w.heap.size + 1, 0, none⟩ = false := hR3.frozen 0
       have rc1 : w3.cell? ⟨w.heap.size + 1, 1, none⟩ = some (.int .i64 0) := hR3.cell 1
       have rf1 : w3.frozen? ⟨w.heap.size + 1, 1, none⟩ = false := hR3.frozen 1
       have rc2 : w3.cell? ⟨w.heap.size + 1, 2, none⟩ = some (.string ⟨#[]⟩) := hR3.cell 2
       have rf2 : w3.frozen? ⟨w.heap.size + 1, 2, none⟩ = false := hR3.frozen 2
       have rc3 : w3.cell? ⟨w.heap.size + 1, 3, none⟩ = some (.slice none 0 0) := hR3.cell 3
       have rf3 : w3.frozen? ⟨w.heap.size + 1, 3, none⟩ = false := hR3.frozen 3
       have rc4 : w3.cell? ⟨w.heap.size + 1, 4, none⟩ = some (.int .i64 0) := hR3.cell 4
       have rf4 : w3.frozen? ⟨w.heap.size + 1, 4, none⟩ = false := hR3.frozen 4
       have rc5 : w3.cell? ⟨w.heap.size + 1, 5, none⟩ = some (.int .i64 0) := hR3.cell 5
       have rf5 : w3.frozen? ⟨w.heap.size + 1, 5, none⟩ = false := hR3.frozen 5
       have rc6 : w3.cell? ⟨w.heap.size + 1, 6, none⟩ = some (.int .i64 0) := hR3.cell 6
       have rf6 : w3.frozen? ⟨w.heap.size + 1, 6, none⟩ = false := hR3.frozen 6
       have rc7 : w3.cell? ⟨w.heap.size + 1, 7, none⟩ = some (.int .i64 0) := hR3.cell 7
       have rf7 : w3.frozen? ⟨w.heap.size + 1, 7, none⟩ = false := hR3.frozen 7
       have rc8 : w3.cell? ⟨w.heap.size + 1, 8, none⟩ = some (.int .i64 0) := hR3.cell 8
       have rf8 : w3.frozen? ⟨w.heap.size + 1, 8, none⟩ = false := hR3.frozen 8
       have rc9 : w3.cell? ⟨w.heap.size + 1, 9, none⟩ = some (.int .i64 0) := hR3.cell 9
       have rf9 : w3.frozen? ⟨w.heap.size + 1, 9, none⟩ = false := hR3.frozen 9
       have hk3H := Lib.hid hk3; have hR3H := Lib.hid hR3; clear hk3 hR3))
  (try simp only [Exit.inBlock, Exit.then])
  refine bodyPost_ret (results_cell_row2 rfl _ _ (w.heap.size + 1) 44 _ _ rfl (put10 hR3H.out (.int .i64 n1) (.int .i64 n2) (.string st) (.slice la ln lc) (.int .i64 x0) (.int .i64 x1) (.int .i64 x2) (.int .i64 x3) (.int .i64 x4) (.int .i64 0)) Tryz.underlying44 rfl (by kernel_rfl)) rfl ?_
  exact ⟨⟨la, ln, lc, x0, x1, x2, x3, x4, rfl⟩, kp_end hH.out hb0H.out hk3H.out (frm10 (Frm.refl _ _) (.inl (by show w.heap.size ≤ w.heap.size + 1 ∧ w.heap.size + 1 < _; have := hR0H.out.lt; omega)) _ _ _ _ _ _ _ _ _ _)⟩
end
end Go.Proofs.YtmilagppbepnbaaGreat.Kn
/- The kernel's gate: answer of paths' calls, whatever the inner call does. Condition: the kernel lies as stated. -/
namespace Go.Proofs.YtmilagppbepnbaaGreat.Kn
open Go.RowKit Go.PlainAid
set_option linter.unusedVariables false
set_option linter.unusedSimpArgs false
attribute [local go_sem] Oper.semAt_some
section
variable {w w' w3 w4 : World} {B : Ix → Nat → Prop} {q : Nat} {K K' : Ker} {M : Mp} {c : Nat}
set_option maxRecDepth 100000 in
set_option maxHeartbeats 4000000 in
theorem ans_17 (h : KerIs w B q K M) {pb : Nat} (a b : Int) (s t : ByteArray) (pa : Option Addr) (pn pc : Nat) (n1 n2 : Int) (st : ByteArray) (er : Int)
    (hin : ∀ W, Below w.heap.size w W → Calls Tryz.prog 90 #[.pointer (some ⟨q, 0, none⟩), .pointer (some ⟨pb, 0, none⟩), .agg #[.int .i64 17, .int .i64 a, .int .i64 b, .string s, .string t, .slice pa pn pc]] W fun e w' => (∃ (la : Option Addr) (ln lc : Nat) (x0 x1 x2 x3 x4 : Int),  e = .returned (.tuple #[.agg #[.int .i64 n1, .int .i64 n2, .string st, .slice la ln lc, .int .i64 x0, .int .i64 x1, .int .i64 x2, .int .i64 x3, .int .i64 x4, .int .i64 0], .int .i64 er])) ∧ KP (AllX B) W K M w' q K') :
    Calls Tryz.prog 48 #[.pointer (some ⟨q, 0, none⟩), .pointer (some ⟨pb, 0, none⟩), .agg #[.int .i64 17, .int .i64 a, .int .i64 b, .string s, .string t, .slice pa pn pc]] w fun e w' => (∃ (la : Option Addr) (ln lc : Nat) (x0 x1 x2 x3 x4 : Int),  e = .returned (.tuple #[.agg #[.int .i64 n1, .int .i64 n2, .string st, .slice la ln lc, .int .i64 x0, .int .i64 x1, .int .i64 x2, .int .i64 x3, .int .i64 x4, .int .i64 0], .int .i64 er])) ∧ KP (AllX B) w K M w' q K' := by
  have hinH := Lib.hid hin
  have hH := Lib.hid h
  clear h hin
  go_enter Tryz.func48, Tryz.ntmps48
  go_upto_region 23 with fail
  obtain ⟨W0, hW0⟩ : ∃ W, (w.alloc (.cells #[.int .i64 17, .int .i64 a, .int .i64 b, .string s, .string t, .slice pa pn pc] 34)).alloc (.cells #[.int .i64 0, .int .i64 0, .string ⟨#[]⟩, .slice none 0 0, .int .i64 0, .int .i64 0, .int .i64 0, .int .i64 0, .int .i64 0, .int .i64 0] 44) = W := ⟨_, rfl⟩
  have hb0 : Below w.heap.size w W0 := by rw [← hW0]; exact ((Below.refl _ w).alloc (Nat.le_refl _) _).alloc (by simp) _
  have hC0 : Blk W0 w.heap.size 34 #[.int .i64 17, .int .i64 a, .int .i64 b, .string s, .string t, .slice pa pn pc] := by rw [← hW0]; exact (Blk.new w _ _).alloc _
  have hR0 : Blk W0 (w.heap.size + 1) 44 #[.int .i64 0, .int .i64 0, .string ⟨#[]⟩, .slice none 0 0, .int .i64 0, .int .i64 0, .int .i64 0, .int .i64 0, .int .i64 0, .int .i64 0] := by
    have h := Blk.new (w.alloc (.cells #[.int .i64 17, .int .i64 a, .int .i64 b, .string s, .string t, .slice pa pn pc] 34)) 44 #[.int .i64 0, .int .i64 0, .string ⟨#[]⟩, .slice none 0 0, .int .i64 0, .int .i64 0, .int .i64 0, .int .i64 0, .int .i64 0, .int .i64 0]
    rw [World.size_alloc, hW0] at h
    exact h
  have a0 : W0.cell? ⟨w.heap.size, 0, none⟩ = some (.int .i64 17) := hC0.cell 0
  have a1 : W0.cell? ⟨w.heap.size, 1, none⟩ = some (.int .i64 a) := hC0.cell 1
  have a2 : W0.cell? ⟨w.heap.size, 2, none⟩ = some (.int .i64 b) := hC0.cell 2
  have a3 : W0.cell? ⟨w.heap.size, 3, none⟩ = some (.string s) := hC0.cell 3
  have a4 : W0.cell? ⟨w.heap.size, 4, none⟩ = some (.string t) := hC0.cell 4
  have a5 : W0.cell? ⟨w.heap.size, 5, none⟩ = some (.slice pa pn pc) := hC0.cell 5
  have hb0H := Lib.hid hb0
  have hR0H := Lib.hid hR0
  rw [hW0]
  clear hb0 hC0 hR0 hW0
  go_wp2_with (first
    | (go_at_call 90; refine (hinH.out W0 hb0H.out).mono ?_; rintro e w3 ⟨⟨la, ln, lc, x0, x1, x2, x3, x4, rfl⟩, hk3⟩
       have hR3 := hR0H.out.keep (kp_keep hH.out hk3 (by omega) hR0H.out.lt)
       have rc0 : w3.cell? ⟨w.heap.size + 1, 0, none⟩ = some (.int .i64 0) := hR3.cell 0
       have rf0 : w3.frozen? ⟨w.heap.size + 1, 0, none⟩ = false := hR3.frozen 0
       have rc1 : w3.cell? ⟨w.heap.size + 1, 1, none⟩ = some (.int .i64 0) := hR3.cell 1
       have rf1 : w3.frozen? ⟨w.heap.size + 1, 1, none⟩ = false := hR3.frozen 1
       have rc2 : w3.cell? ⟨w.heap.size + 1, 2, none⟩ = some (.string ⟨#[]⟩) := hR3.cell 2
       have rf2 : w3.frozen? ⟨w.heap.size + 1, 2, none⟩ = false := hR3.frozen 2
       have rc3 : w3.cell? ⟨w.heap.size + 1, 3, none⟩ = some (.slice none 0 0) := hR3.cell 3
       have rf3 : w3.frozen? ⟨w.heap.size + 1, 3, none⟩ = false := hR3.frozen 3
       have rc4 : w3.cell? ⟨w.heap.size + 1, 4, none⟩ = some (.int .i64 0) := hR3.cell 4
       have rf4 : w3.frozen? ⟨w.heap.size + 1, 4, none⟩ = false := hR3.frozen 4
       have rc5 : w3.cell? ⟨w.heap.size + 1, 5, none⟩ = some (.int .i64 0) := hR3.cell 5
       have rf5 : w3.frozen? ⟨w.heap.size + 1, 5, none⟩ = false := hR3.frozen 5
       have rc6 : w3.cell? ⟨w.heap.size + 1, 6, none⟩ = some (.int .i64 0) := hR3.cell 6
       have rf6 : w3.frozen? ⟨w.heap.size + 1, 6, none⟩ = false := hR3.frozen 6
       have rc7 : w3.cell? ⟨w.heap.size + 1, 7, none⟩ = some (.int .i64 0) := hR3.cell 7
       have rf7 : w3.frozen? ⟨w.heap.size + 1, 7, none⟩ = false := hR3.frozen 7
       have rc8 : w3.cell? ⟨w.heap.size + 1, 8, none⟩ = some (.int .i64 0) := hR3.cell 8
       have rf8 : w3.frozen? ⟨w.heap.size + 1, 8, none⟩ = false := hR3.frozen 8
       have rc9 : w3.cell? ⟨w.heap.size + 1, 9, none⟩ = some (.int .i64 0) := hR3.cell 9
       have rf9 : w3.frozen? ⟨w.heap.size + 1, 9, none⟩ = false := hR3.frozen 9
       have hk3H := Lib.hid hk3; have hR3H := Lib.hid hR3; clear hk3 hR3))
  (try simp only [Exit.inBlock, Exit.then])
  refine bodyPost_ret (results_cell_row2 rfl _ _ (w.heap.size + 1) 44 _ _ rfl (put10 hR3H.out (.int .i64 n1) (.int .i64 n2) (.string st) (.slice la ln lc) (.int .i64 x0) (.int .i64 x1) (.int .i64 x2) (.int .i64 x3) (.int .i64 x4) (.int .i64 0)) Tryz.underlying44 rfl (by kernel_rfl)) rfl ?_
  exact ⟨⟨la, ln, lc, x0, x1, x2, x3, x4, rfl⟩, kp_end hH.out hb0H.out hk3H.out (frm10 (Frm.refl _ _) (.inl (by show w.heap.size ≤ w.heap.size + 1 ∧ w.heap.size + 1 < _; have := hR0H.out.lt; omega)) _ _ _ _ _ _ _ _ _ _)⟩
set_option maxRecDepth 100000 in
set_option maxHeartbeats 4000000 in
theorem ans_25 (h : KerIs w B q K M) {pb : Nat} (a b : Int) (s t : ByteArray) (pa : Option Addr) (pn pc : Nat) (n1 n2 : Int) (st : ByteArray) (er : Int)
    (hin : ∀ W, Below w.heap.size w W → Calls Tryz.prog 90 #[.pointer (some ⟨q, 0, none⟩), .pointer (some ⟨pb, 0, none⟩), .agg #[.int .i64 25, .int .i64 a, .int .i64 b, .string s, .string t, .slice pa pn pc]] W fun e w' => (∃ (la : Option Addr) (ln lc : Nat) (x0 x1 x2 x3 x4 : Int),  e = .returned (.tuple #[.agg #[.int .i64 n1, .int .i64 n2, .string st, .slice la ln lc, .int .i64 x0, .int .i64 x1, .int .i64 x2, .int .i64 x3, .int .i64 x4, .int .i64 0], .int .i64 er])) ∧ KP (AllX B) W K M w' q K') :
    Calls Tryz.prog 48 #[.pointer (some ⟨q, 0, none⟩), .pointer (some ⟨pb, 0, none⟩), .agg #[.int .i64 25, .int .i64 a, .int .i64 b, .string s, .string t, .slice pa pn pc]] w fun e w' => (∃ (la : Option Addr) (ln lc : Nat) (x0 x1 x2 x3 x4 : Int),  e = .returned (.tuple #[.agg #[.int .i64 n1, .int .i64 n2, .string st, .slice la ln lc, .int .i64 x0, .int .i64 x1, .int .i64 x2, .int .i64 x3, .int .i64 x4, .int .i64 0], .int .i64 er])) ∧ KP (AllX B) w K M w' q K' := by
  have hinH := Lib.hid hin
  have hH := Lib.hid h
  clear h hin
  go_enter Tryz.func48, Tryz.ntmps48
  go_upto_region 23 with fail
  obtain ⟨W0, hW0⟩ : ∃ W, (w.alloc (.cells #[.int .i64 25, .int .i64 a, .int .i64 b, .string s, .string t, .slice pa pn pc] 34)).alloc (.cells #[.int .i64 0, .int .i64 0, .string ⟨#[]⟩, .slice none 0 0, .int .i64 0, .int .i64 0, .int .i64 0, .int .i64 0, .int .i64 0, .int .i64 0] 44) = W := ⟨_, rfl⟩
  have hb0 : Below w.heap.size w W0 := by rw [← hW0]; exact ((Below.refl _ w).alloc (Nat.le_refl _) _).alloc (by simp) _
  have hC0 : Blk W0 w.heap.size 34 #[.int .i64 25, .int .i64 a, .int .i64 b, .string s, .string t, .slice pa pn pc] := by rw [← hW0]; exact (Blk.new w _ _).alloc _
  have hR0 : Blk W0 (w.heap.size + 1) 44 #[.int .i64 0, .int .i64 0, .string ⟨#[]⟩, .slice none 0 0, .int .i64 0, .int .i64 0, .int .i64 0, .int .i64 0, .int .i64 0, .int .i64 0] := by
    have h := Blk.new (w.alloc (.cells #[.int .i64 25, .int .i64 a, .int .i64 b, .string s, .string t, .slice pa pn pc] 34)) 44 #[.int .i64 0, .int .i64 0, .string ⟨#[]⟩, .slice none 0 0, .int .i64 0, .int .i64 0, .int .i64 0, .int .i64 0, .int .i64 0, .int .i64 0]
    rw [World.size_alloc, hW0] at h
    exact h
  have a0 : W0.cell? ⟨w.heap.size, 0, none⟩ = some (.int .i64 25) := hC0.cell 0
  have a1 : W0.cell? ⟨w.heap.size, 1, none⟩ = some (.int .i64 a) := hC0.cell 1
  have a2 : W0.cell? ⟨w.heap.size, 2, none⟩ = some (.int .i64 b) := hC0.cell 2
  have a3 : W0.cell? ⟨w.heap.size, 3, none⟩ = some (.string s) := hC0.cell 3
  have a4 : W0.cell? ⟨w.heap.size, 4, none⟩ = some (.string t) := hC0.cell 4
  have a5 : W0.cell? ⟨w.heap.size, 5, none⟩ = some (.slice pa pn pc) := hC0.cell 5
  have hb0H := Lib.hid hb0
  have hR0H := Lib.hid hR0
  rw [hW0]
  clear hb0 hC0 hR0 hW0
  go_wp2_with (first
    | (go_at_call 90; refine (hinH.out W0 hb0H.out).mono ?_; rintro e w3 ⟨⟨la, ln, lc, x0, x1, x2, x3, x4, rfl⟩, hk3⟩
       have hR3 := hR0H.out.keep (kp_keep hH.out hk3 (by omega) hR0H.out.lt)
       have rc0 : w3.cell? ⟨w.heap.size + 1, 0, none⟩ = some (.int .i64 0) := hR3.cell 0
       have rf0 : w3.frozen? ⟨w.heap.size + 1, 0, none⟩ = false := hR3.frozen 0
       have rc1 : w3.cell? ⟨w.heap.size + 1, 1, none⟩ = some (.int .i64 0) := hR3.cell 1
       have rf1 : w3.frozen? ⟨w.heap.size + 1, 1, none⟩ = false := hR3.frozen 1
       have rc2 : w3.cell? ⟨w.heap.size + 1, 2, none⟩ = some (.string ⟨#[]⟩) := hR3.cell 2
       have rf2 : w3.frozen? ⟨w.heap.size + 1, 2, none⟩ = false := hR3.frozen 2
       have rc3 : w3.cell? ⟨w.heap.size + 1, 3, none⟩ = some (.slice none 0 0) := hR3.cell 3
       have rf3 : w3.frozen? ⟨w.heap.size + 1, 3, none⟩ = false := hR3.frozen 3
       have rc4 : w3.cell? ⟨w.heap.size + 1, 4, none⟩ = some (.int .i64 0) := hR3.cell 4
       have rf4 : w3.frozen? ⟨w.heap.size + 1, 4, none⟩ = false := hR3.frozen 4
       have rc5 : w3.cell? ⟨w.heap.size + 1, 5, none⟩ = some (.int .i64 0) := hR3.cell 5
       have rf5 : w3.frozen? ⟨w.heap.size + 1, 5, none⟩ = false := hR3.frozen 5
       have rc6 : w3.cell? ⟨w.heap.size + 1, 6, none⟩ = some (.int .i64 0) := hR3.cell 6
       have rf6 : w3.frozen? ⟨w.heap.size + 1, 6, none⟩ = false := hR3.frozen 6
       have rc7 : w3.cell? ⟨w.heap.size + 1, 7, none⟩ = some (.int .i64 0) := hR3.cell 7
       have rf7 : w3.frozen? ⟨w.heap.size + 1, 7, none⟩ = false := hR3.frozen 7
       have rc8 : w3.cell? ⟨w.heap.size + 1, 8, none⟩ = some (.int .i64 0) := hR3.cell 8
       have rf8 : w3.frozen? ⟨w.heap.size + 1, 8, none⟩ = false := hR3.frozen 8
       have rc9 : w3.cell? ⟨w.heap.size + 1, 9, none⟩ = some (.int .i64 0) := hR3.cell 9
       have rf9 : w3.frozen? ⟨w.heap.size + 1, 9, none⟩ = false := hR3.frozen 9
       have hk3H := Lib.hid hk3; have hR3H := Lib.hid hR3; clear hk3 hR3))
  (try simp only [Exit.inBlock, Exit.then])
  refine bodyPost_ret (results_cell_row2 rfl _ _ (w.heap.size + 1) 44 _ _ rfl (put10 hR3H.out (.int .i64 n1) (.int .i64 n2) (.string st) (.slice la ln lc) (.int .i64 x0) (.int .i64 x1) (.int .i64 x2) (.int .i64 x3) (.int .i64 x4) (.int .i64 0)) Tryz.underlying44 rfl (by kernel_rfl)) rfl ?_
  exact ⟨⟨la, ln, lc, x0, x1, x2, x3, x4, rfl⟩, kp_end hH.out hb0H.out hk3H.out (frm10 (Frm.refl _ _) (.inl (by show w.heap.size ≤ w.heap.size + 1 ∧ w.heap.size + 1 < _; have := hR0H.out.lt; omega)) _ _ _ _ _ _ _ _ _ _)⟩
end
end Go.Proofs.YtmilagppbepnbaaGreat.Kn
/- The kernel's gate: answer of processes' calls, whatever the inner call does. Condition: the kernel lies as stated. -/
namespace Go.Proofs.YtmilagppbepnbaaGreat.Kn
open Go.RowKit Go.PlainAid
set_option linter.unusedVariables false
set_option linter.unusedSimpArgs false
attribute [local go_sem] Oper.semAt_some
section
variable {w w' w3 w4 : World} {B : Ix → Nat → Prop} {q : Nat} {K K' : Ker} {M : Mp} {c : Nat}
set_option maxRecDepth 100000 in
set_option maxHeartbeats 4000000 in
theorem ans_8 (h : KerIs w B q K M) {pb : Nat} (a b : Int) (s t : ByteArray) (pa : Option Addr) (pn pc : Nat) (n1 n2 : Int) (st : ByteArray) (er : Int)
    (hin : ∀ W, Below w.heap.size w W → Calls Tryz.prog 91 #[.pointer (some ⟨q, 0, none⟩), .pointer (some ⟨pb, 0, none⟩), .agg #[.int .i64 8, .int .i64 a, .int .i64 b, .string s, .string t, .slice pa pn pc]] W fun e w' => (∃ (la : Option Addr) (ln lc : Nat) (x0 x1 x2 x3 x4 : Int),  e = .returned (.tuple #[.agg #[.int .i64 n1, .int .i64 n2, .string st, .slice la ln lc, .int .i64 x0, .int .i64 x1, .int .i64 x2, .int .i64 x3, .int .i64 x4, .int .i64 0], .int .i64 er])) ∧ KP (AllX B) W K M w' q K') :
    Calls Tryz.prog 48 #[.pointer (some ⟨q, 0, none⟩), .pointer (some ⟨pb, 0, none⟩), .agg #[.int .i64 8, .int .i64 a, .int .i64 b, .string s, .string t, .slice pa pn pc]] w fun e w' => (∃ (la : Option Addr) (ln lc : Nat) (x0 x1 x2 x3 x4 : Int),  e = .returned (.tuple #[.agg #[.int .i64 n1, .int .i64 n2, .string st, .slice la ln lc, .int .i64 x0, .int .i64 x1, .int .i64 x2, .int .i64 x3, .int .i64 x4, .int .i64 0], .int .i64 er])) ∧ KP (AllX B) w K M w' q K' := by
  have hinH := Lib.hid hin
  have hH := Lib.hid h
  clear h hin
  go_enter Tryz.func48, Tryz.ntmps48
  go_upto_region 24 with fail
  obtain ⟨W0, hW0⟩ : ∃ W, (w.alloc (.cells #[.int .i64 8, .int .i64 a, .int .i64 b, .string s, .string t, .slice pa pn pc] 34)).alloc (.cells #[.int .i64 0, .int .i64 0, .string ⟨#[]⟩, .slice none 0 0, .int .i64 0, .int .i64 0, .int .i64 0, .int .i64 0, .int .i64 0, .int .i64 0] 44) = W := ⟨_, rfl⟩
  have hb0 : Below w.heap.size w W0 := by rw [← hW0]; exact ((Below.refl _ w).alloc (Nat.le_refl _) _).alloc (by simp) _
  have hC0 : Blk W0 w.heap.size 34 #[.int .i64 8, .int .i64 a, .int .i64 b, .string s, .string t, .slice pa pn pc] := by rw [← hW0]; exact (Blk.new w _ _).alloc _
  have hR0 : Blk W0 (w.heap.size + 1) 44 #[.int .i64 0, .int .i64 0, .string ⟨#[]⟩, .slice none 0 0, .int .i64 0, .int .i64 0, .int .i64 0, .int .i64 0, .int .i64 0, .int .i64 0] := by
    have h := Blk.new (w.alloc (.cells #[.int .i64 8, .int .i64 a, .int .i64 b, .string s, .string t, .slice pa pn pc] 34)) 44 #[.int .i64 0, .int .i64 0, .string ⟨#[]⟩, .slice none 0 0, .int .i64 0, .int .i64 0, .int .i64 0, .int .i64 0, .int .i64 0, .int .i64 0]
    rw [World.size_alloc, hW0] at h
    exact h
  have a0 : W0.cell? ⟨w.heap.size, 0, none⟩ = some (.int .i64 8) := hC0.cell 0
  have a1 : W0.cell? ⟨w.heap.size, 1, none⟩ = some (.int .i64 a) := hC0.cell 1
  have a2 : W0.cell? ⟨w.heap.size, 2, none⟩ = some (.int .i64 b) := hC0.cell 2
  have a3 : W0.cell? ⟨w.heap.size, 3, none⟩ = some (.string s) := hC0.cell 3
  have a4 : W0.cell? ⟨w.heap.size, 4, none⟩ = some (.string t) := hC0.cell 4
  have a5 : W0.cell? ⟨w.heap.size, 5, none⟩ = some (.slice pa pn pc) := hC0.cell 5
  have hb0H := Lib.hid hb0
  have hR0H := Lib.hid hR0
  rw [hW0]
  clear hb0 hC0 hR0 hW0
  go_wp2_with (first
    | (go_at_call 91; refine (hinH.out W0 hb0H.out).mono ?_; rintro e w3 ⟨⟨la, ln, lc, x0, x1, x2, x3, x4, rfl⟩, hk3⟩
       have hR3 := hR0H.out.keep (kp_keep hH.out hk3 (by omega) hR0H.out.lt)
       have rc0 : w3.cell? ⟨w.heap.size + 1, 0, none⟩ = some (.int .i64 0) := hR3.cell 0
       have rf0 : w3.frozen? ⟨w.heap.size + 1, 0, none⟩ = false := hR3.frozen 0
       have rc1 : w3.cell? ⟨w.heap.size + 1, 1, none⟩ = some (.int .i64 0) := hR3.cell 1
       have rf1 : w3.frozen? ⟨w.heap.size + 1, 1, none⟩ = false := hR3.frozen 1
       have rc2 : w3.cell? ⟨w.heap.size + 1, 2, none⟩ = some (.string ⟨#[]⟩) := hR3.cell 2
       have rf2 : w3.frozen? ⟨w.heap.size + 1, 2, none⟩ = false := hR3.frozen 2
       have rc3 : w3.cell? ⟨w.heap.size + 1, 3, none⟩ = some (.slice none 0 0) := hR3.cell 3
       have rf3 : w3.frozen? ⟨w.heap.size + 1, 3, none⟩ = false := hR3.frozen 3
       have rc4 : w3.cell? ⟨w.heap.size + 1, 4, none⟩ = some (.int .i64 0) := hR3.cell 4
       have rf4 : w3.frozen? ⟨w.heap.size + 1, 4, none⟩ = false := hR3.frozen 4
       have rc5 : w3.cell? ⟨w.heap.size + 1, 5, none⟩ = some (.int .i64 0) := hR3.cell 5
       have rf5 : w3.frozen? ⟨w.heap.size + 1, 5, none⟩ = false := hR3.frozen 5
       have rc6 : w3.cell? ⟨w.heap.size + 1, 6, none⟩ = some (.int .i64 0) := hR3.cell 6
       have rf6 : w3.frozen? ⟨w.heap.size + 1, 6, none⟩ = false := hR3.frozen 6
       have rc7 : w3.cell? ⟨w.heap.size + 1, 7, none⟩ = some (.int .i64 0) := hR3.cell 7
       have rf7 : w3.frozen? ⟨w.heap.size + 1, 7, none⟩ = false := hR3.frozen 7
       have rc8 : w3.cell? ⟨w.heap.size + 1, 8, none⟩ = some (.int .i64 0) := hR3.cell 8
       have rf8 : w3.frozen? ⟨w.heap.size + 1, 8, none⟩ = false := hR3.frozen 8
       have rc9 : w3.cell? ⟨w.heap.size + 1, 9, none⟩ = some (.int .i64 0) := hR3.cell 9
       have rf9 : w3.frozen? ⟨w.heap.size + 1, 9, none⟩ = false := hR3.frozen 9
       have hk3H := Lib.hid hk3; have hR3H := Lib.hid hR3; clear hk3 hR3))
  (try simp only [Exit.inBlock, Exit.then])
  refine bodyPost_ret (results_cell_row2 rfl _ _ (w.heap.size + 1) 44 _ _ rfl (put10 hR3H.out (.int .i64 n1) (.int .i64 n2) (.string st) (.slice la ln lc) (.int .i64 x0) (.int .i64 x1) (.int .i64 x2) (.int .i64 x3) (.int .i64 x4) (.int .i64 0)) Tryz.underlying44 rfl (by kernel_rfl)) rfl ?_
  exact ⟨⟨la, ln, lc, x0, x1, x2, x3, x4, rfl⟩, kp_end hH.out hb0H.out hk3H.out (frm10 (Frm.refl _ _) (.inl (by show w.heap.size ≤ w.heap.size + 1 ∧ w.heap.size + 1 < _; have := hR0H.out.lt; omega)) _ _ _ _ _ _ _ _ _ _)⟩
set_option maxRecDepth 100000 in
set_option maxHeartbeats 4000000 in
theorem ans_9 (h : KerIs w B q K M) {pb : Nat} (a b : Int) (s t : ByteArray) (pa : Option Addr) (pn pc : Nat) (n1 n2 : Int) (st : ByteArray) (er : Int)
    (hin : ∀ W, Below w.heap.size w W → Calls Tryz.prog 91 #[.pointer (some ⟨q, 0, none⟩), .pointer (some ⟨pb, 0, none⟩), .agg #[.int .i64 9, .int .i64 a, .int .i64 b, .string s, .string t, .slice pa pn pc]] W fun e w' => (∃ (la : Option Addr) (ln lc : Nat) (x0 x1 x2 x3 x4 : Int),  e = .returned (.tuple #[.agg #[.int .i64 n1, .int .i64 n2, .string st, .slice la ln lc, .int .i64 x0, .int .i64 x1, .int .i64 x2, .int .i64 x3, .int .i64 x4, .int .i64 0], .int .i64 er])) ∧ KP (AllX B) W K M w' q K') :
    Calls Tryz.prog 48 #[.pointer (some ⟨q, 0, none⟩), .pointer (some ⟨pb, 0, none⟩), .agg #[.int .i64 9, .int .i64 a, .int .i64 b, .string s, .string t, .slice pa pn pc]] w fun e w' => (∃ (la : Option Addr) (ln lc : Nat) (x0 x1 x2 x3 x4 : Int),  e = .returned (.tuple #[.agg #[.int .i64 n1, .int .i64 n2, .string st, .slice la ln lc, .int .i64 x0, .int .i64 x1, .int .i64 x2, .int .i64 x3, .int .i64 x4, .int .i64 0], .int .i64 er])) ∧ KP (AllX B) w K M w' q K' := by
  have hinH := Lib.hid hin
  have hH := Lib.hid h
  clear h hin
  go_enter Tryz.func48, Tryz.ntmps48
  go_upto_region 24 with fail
  obtain ⟨W0, hW0⟩ : ∃ W, (w.alloc (.cells #[.int .i64 9, .int .i64 a, .int .i64 b, .string s, .string t, .slice pa pn pc] 34)).alloc (.cells #[.int .i64 0, .int .i64 0, .string ⟨#[]⟩, .slice none 0 0, .int .i64 0, .int .i64 0, .int .i64 0, .int .i64 0, .int .i64 0, .int .i64 0] 44) = W := ⟨_, rfl⟩
  have hb0 : Below w.heap.size w W0 := by rw [← hW0]; exact ((Below.refl _ w).alloc (Nat.le_refl _) _).alloc (by simp) _
  have hC0 : Blk W0 w.heap.size 34 #[.int .i64 9, .int .i64 a, .int .i64 b, .string s, .string t, .slice pa pn pc] := by rw [← hW0]; exact (Blk.new w _ _).alloc _
  have hR0 : Blk W0 (w.heap.size + 1) 44 #[.int .i64 0, .int .i64 0, .string ⟨#[]⟩, .slice none 0 0, .int .i64 0, .int .i64 0, .int .i64 0, .int .i64 0, .int .i64 0, .int .i64 0] := by
    have h := Blk.new (w.alloc (.cells #[.int .i64 9, .int .i64 a, .int .i64 b, .string s, .string t, .slice pa pn pc] 34)) 44 #[.int .i64 0, .int .i64 0, .string ⟨#[]⟩, .slice none 0 0, .int .i64 0, .int .i64 0, .int .i64 0, .int .i64 0, .int .i64 0, .int .i64 0]
    rw [World.size_alloc, hW0] at h
    exact h
  have a0 : W0.cell? ⟨w.heap.size, 0, none⟩ = some (.int .i64 9) := hC0.cell 0
  have a1 : W0.cell? ⟨w.heap.size, 1, none⟩ = some (.int .i64 a) := hC0.cell 1
  have a2 : W0.cell? ⟨w.heap.size, 2, none⟩ = some (.int .i64 b) := hC0.cell 2
  have a3 : W0.cell? ⟨w.heap.size, 3, none⟩ = some (.string s) := hC0.cell 3
  have a4 : W0.cell? ⟨w.heap.size, 4, none⟩ = some (.string t) := hC0.cell 4
  have a5 : W0.cell? ⟨w.heap.size, 5, none⟩ = some (.slice pa pn pc) := hC0.cell 5
  have hb0H := Lib.hid hb0
  have hR0H := Lib.hid hR0
  rw [hW0]
  clear hb0 hC0 hR0 hW0
  go_wp2_with (first
    | (go_at_call 91; refine (hinH.out W0 hb0H.out).mono ?_; rintro e w3 ⟨⟨la, ln, lc, x0, x1, x2, x3, x4, rfl⟩, hk3⟩
       have hR3 := hR0H.out.keep (kp_keep hH.out hk3 (by omega) hR0H.out.lt)
       have rc0 : w3.cell? ⟨w.heap.size + 1, 0, none⟩ = some (.int .i64 0) := hR3.cell 0
       have rf0 : w3.frozen? ⟨w.heap.size + 1, 0, none⟩ = false := hR3.frozen 0
       have rc1 : w3.cell? ⟨w.heap.size + 1, 1, none⟩ = some (.int .i64 0) := hR3.cell 1
       have rf1 : w3.frozen? ⟨w.heap.size + 1, 1, none⟩ = false := hR3.frozen 1
       have rc2 : w3.cell? ⟨w.heap.size + 1, 2, none⟩ = some (.string ⟨#[]⟩) := hR3.cell 2
       have rf2 : w3.frozen? ⟨w.heap.size + 1, 2, none⟩ = false := hR3.frozen 2
       have rc3 : w3.cell? ⟨w.heap.size + 1, 3, none⟩ = some (.slice none 0 0) := hR3.cell 3
       have rf3 : w3.frozen? ⟨w.heap.size + 1, 3, none⟩ = false := hR3.frozen 3
       have rc4 : w3.cell? ⟨w.heap.size + 1, 4, none⟩ = some (.int .i64 0) := hR3.cell 4
       have rf4 : w3.frozen? ⟨w.heap.size + 1, 4, none⟩ = false := hR3.frozen 4
       have rc5 : w3.cell? ⟨w.heap.size + 1, 5, none⟩ = some (.int .i64 0) := hR3.cell 5
       have rf5 : w3.frozen? ⟨w.heap.size + 1, 5, none⟩ = false := hR3.frozen 5
       have rc6 : w3.cell? ⟨w.heap.size + 1, 6, none⟩ = some (.int .i64 0) := hR3.cell 6
       have rf6 : w3.frozen? ⟨w.heap.size + 1, 6, none⟩ = false := hR3.frozen 6
       have rc7 : w3.cell? ⟨w.heap.size + 1, 7, none⟩ = some (.int .i64 0) := hR3.cell 7
       have rf7 : w3.frozen? ⟨w.heap.size + 1, 7, none⟩ = false := hR3.frozen 7
       have rc8 : w3.cell? ⟨w.heap.size + 1, 8, none⟩ = some (.int .i64 0) := hR3.cell 8
       have rf8 : w3.frozen? ⟨w.heap.size + 1, 8, none⟩ = false := hR3.frozen 8
       have rc9 : w3.cell? ⟨w.heap.size + 1, 9, none⟩ = some (.int .i64 0) := hR3.cell 9
       have rf9 : w3.frozen? ⟨w.heap.size + 1, 9, none⟩ = false := hR3.frozen 9
       have hk3H := Lib.hid hk3; have hR3H := Lib.hid hR3; clear hk3 hR3))
  (try simp only [Exit.inBlock, Exit.then])
  refine bodyPost_ret (results_cell_row2 rfl _ _ (w.heap.size + 1) 44 _ _ rfl (put10 hR3H.out (.int .i64 n1) (.int .i64 n2) (.string st) (.slice la ln lc) (.int .i64 x0) (.int .i64 x1) (.int .i64 x2) (.int .i64 x3) (.int .i64 x4) (.int .i64 0)) Tryz.underlying44 rfl (by kernel_rfl)) rfl ?_
  exact ⟨⟨la, ln, lc, x0, x1, x2, x3, x4, rfl⟩, kp_end hH.out hb0H.out hk3H.out (frm10 (Frm.refl _ _) (.inl (by show w.heap.size ≤ w.heap.size + 1 ∧ w.heap.size + 1 < _; have := hR0H.out.lt; omega)) _ _ _ _ _ _ _ _ _ _)⟩
set_option maxRecDepth 100000 in
set_option maxHeartbeats 4000000 in
theorem ans_12 (h : KerIs w B q K M) {pb : Nat} (a b : Int) (s t : ByteArray) (pa : Option Addr) (pn pc : Nat) (n1 n2 : Int) (st : ByteArray) (er : Int)
    (hin : ∀ W, Below w.heap.size w W → Calls Tryz.prog 91 #[.pointer (some ⟨q, 0, none⟩), .pointer (some ⟨pb, 0, none⟩), .agg #[.int .i64 12, .int .i64 a, .int .i64 b, .string s, .string t, .slice pa pn pc]] W fun e w' => (∃ (la : Option Addr) (ln lc : Nat) (x0 x1 x2 x3 x4 : Int),  e = .returned (.tuple #[.agg #[.int .i64 n1, .int .i64 n2, .string st, .slice la ln lc, .int .i64 x0, .int .i64 x1, .int .i64 x2, .int .i64 x3, .int .i64 x4, .int .i64 0], .int .i64 er])) ∧ KP (AllX B) W K M w' q K') :
    Calls Tryz.prog 48 #[.pointer (some ⟨q, 0, none⟩), .pointer (some ⟨pb, 0, none⟩), .agg #[.int .i64 12, .int .i64 a, .int .i64 b, .string s, .string t, .slice pa pn pc]] w fun e w' => (∃ (la : Option Addr) (ln lc : Nat) (x0 x1 x2 x3 x4 : Int),  e = .returned (.tuple #[.agg #[.int .i64 n1, .int .i64 n2, .string st, .slice la ln lc, .int .i64 x0, .int .i64 x1, .int .i64 x2, .int .i64 x3, .int .i64 x4, .int .i64 0], .int .i64 er])) ∧ KP (AllX B) w K M w' q K' := by
  have hinH := Lib.hid hin
  have hH := Lib.hid h
  clear h hin
  go_enter Tryz.func48, Tryz.ntmps48
  go_upto_region 24 with fail
  obtain ⟨W0, hW0⟩ : ∃ W, (w.alloc (.cells #[.int .i64 12, .int .i64 a, .int .i64 b, .string s, .string t, .slice pa pn pc] 34)).alloc (.cells #[.int .i64 0, .int .i64 0, .string ⟨#[]⟩, .slice none 0 0, .int .i64 0, .int .i64 0, .int .i64 0, .int .i64 0, .int .i64 0, .int .i64 0] 44) = W := ⟨_, rfl⟩
  have hb0 : Below w.heap.size w W0 := by rw [← hW0]; exact ((Below.refl _ w).alloc (Nat.le_refl _) _).alloc (by simp) _
  have hC0 : Blk W0 w.heap.size 34 #[.int .i64 12, .int .i64 a, .int .i64 b, .string s, .string t, .slice pa pn pc] := by rw [← hW0]; exact (Blk.new w _ _).alloc _
  have hR0 : Blk W0 (w.heap.size + 1) 44 #[.int .i64 0, .int .i64 0, .string ⟨#[]⟩, .slice none 0 0, .int .i64 0, .int .i64 0, .int .i64 0, .int .i64 0, .int .i64 0, .int .i64 0] := by
    have h := Blk.new (w.alloc (.cells #[.int .i64 12, .int .i64 a, .int .i64 b, .string s, .string t, .slice pa pn pc] 34)) 44 #[.int .i64 0, .int .i64 0, .string ⟨#[]⟩, .slice none 0 0, .int .i64 0, .int .i64 0, .int .i64 0, .int .i64 0, .int .i64 0, .int .i64 0]
    rw [World.size_alloc, hW0] at h
    exact h
  have a0 : W0.cell? ⟨w.heap.size, 0, none⟩ = some (.int .i64 12) := hC0.cell 0
  have a1 : W0.cell? ⟨w.heap.size, 1, none⟩ = some (.int .i64 a) := hC0.cell 1
  have a2 : W0.cell? ⟨w.heap.size, 2, none⟩ = some (.int .i64 b) := hC0.cell 2
  have a3 : W0.cell? ⟨w.heap.size, 3, none⟩ = some (.string s) := hC0.cell 3
  have a4 : W0.cell? ⟨w.heap.size, 4, none⟩ = some (.string t) := hC0.cell 4
  have a5 : W0.cell? ⟨w.heap.size, 5, none⟩ = some (.slice pa pn pc) := hC0.cell 5
  have hb0H := Lib.hid hb0
  have hR0H := Lib.hid hR0
  rw [hW0]
  clear hb0 hC0 hR0 hW0
  go_wp2_with (first
    | (go_at_call 91; refine (hinH.out W0 hb0H.out).mono ?_; rintro e w3 ⟨⟨la, ln, lc, x0, x1, x2, x3, x4, rfl⟩, hk3⟩
       have hR3 := hR0H.out.keep (kp_keep hH.out hk3 (by omega) hR0H.out.lt)
       have rc0 : w3.cell? ⟨w.heap.size + 1, 0, none⟩ = some (.int .i64 0) := hR3.cell 0
       have rf0 : w3.frozen? ⟨w.heap.size + 1, 0, none⟩ = false := hR3.frozen 0
       have rc1 : w3.cell? ⟨w.heap.size + 1, 1, none⟩ = some (.int .i64 0) := hR3.cell 1
       have rf1 : w3.frozen? ⟨w.heap.size + 1, 1, none⟩ = false := hR3.frozen 1
       have rc2 : w3.cell? ⟨w.heap.size + 1, 2, none⟩ = some (.string ⟨#[]⟩) := hR3.cell 2
       have rf2 : w3.frozen? ⟨w.heap.size + 1, 2, none⟩ = false := hR3.frozen 2
       have rc3 : w3.cell? ⟨w.heap.size + 1, 3, none⟩ = some (.slice none 0 0) := hR3.cell 3
       have rf3 : w3.frozen? ⟨w.heap.size + 1, 3, none⟩ = false := hR3.frozen 3
       have rc4 : w3.cell? ⟨w.heap.size + 1, 4, none⟩ = some (.int .i64 0) := hR3.cell 4
       have rf4 : w3.frozen? ⟨w.heap.size + 1, 4, none⟩ = false := hR3.frozen 4
       have rc5 : w3.cell? ⟨w.heap.size + 1, 5, none⟩ = some (.int .i64 0) := hR3.cell 5
       have rf5 : w3.frozen? ⟨w.heap.size + 1, 5, none⟩ = false := hR3.frozen 5
       have rc6 : w3.cell? ⟨w.heap.size + 1, 6, none⟩ = some (.int .i64 0) := hR3.cell 6
       have rf6 : w3.frozen? ⟨w.heap.size + 1, 6, none⟩ = false := hR3.frozen 6
       have rc7 : w3.cell? ⟨w.heap.size + 1, 7, none⟩ = some (.int .i64 0) := hR3.cell 7
       have rf7 : w3.frozen? ⟨w.heap.size + 1, 7, none⟩ = false := hR3.frozen 7
       have rc8 : w3.cell? ⟨w.heap.size + 1, 8, none⟩ = some (.int .i64 0) := hR3.cell 8
       have rf8 : w3.frozen? ⟨w.heap.size + 1, 8, none⟩ = false := hR3.frozen 8
       have rc9 : w3.cell? ⟨w.heap.size + 1, 9, none⟩ = some (.int .i64 0) := hR3.cell 9
       have rf9 : w3.frozen? ⟨w.heap.size + 1, 9, none⟩ = false := hR3.frozen 9
       have hk3H := Lib.hid hk3; have hR3H := Lib.hid hR3; clear hk3 hR3))
  (try simp only [Exit.inBlock, Exit.then])
  refine bodyPost_ret (results_cell_row2 rfl _ _ (w.heap.size + 1) 44 _ _ rfl (put10 hR3H.out (.int .i64 n1) (.int .i64 n2) (.string st) (.slice la ln lc) (.int .i64 x0) (.int .i64 x1) (.int .i64 x2) (.int .i64 x3) (.int .i64 x4) (.int .i64 0)) Tryz.underlying44 rfl (by kernel_rfl)) rfl ?_
  exact ⟨⟨la, ln, lc, x0, x1, x2, x3, x4, rfl⟩, kp_end hH.out hb0H.out hk3H.out (frm10 (Frm.refl _ _) (.inl (by show w.heap.size ≤ w.heap.size + 1 ∧ w.heap.size + 1 < _; have := hR0H.out.lt; omega)) _ _ _ _ _ _ _ _ _ _)⟩
set_option maxRecDepth 100000 in
set_option maxHeartbeats 4000000 in
theorem ans_13 (h : KerIs w B q K M) {pb : Nat} (a b : Int) (s t : ByteArray) (pa : Option Addr) (pn pc : Nat) (n1 n2 : Int) (st : ByteArray) (er : Int)
    (hin : ∀ W, Below w.heap.size w W → Calls Tryz.prog 91 #[.pointer (some ⟨q, 0, none⟩), .pointer (some ⟨pb, 0, none⟩), .agg #[.int .i64 13, .int .i64 a, .int .i64 b, .string s, .string t, .slice pa pn pc]] W fun e w' => (∃ (la : Option Addr) (ln lc : Nat) (x0 x1 x2 x3 x4 : Int),  e = .returned (.tuple #[.agg #[.int .i64 n1, .int .i64 n2, .string st, .slice la ln lc, .int .i64 x0, .int .i64 x1, .int .i64 x2, .int .i64 x3, .int .i64 x4, .int .i64 0], .int .i64 er])) ∧ KP (AllX B) W K M w' q K') :
    Calls Tryz.prog 48 #[.pointer (some ⟨q, 0, none⟩), .pointer (some ⟨pb, 0, none⟩), .agg #[.int .i64 13, .int .i64 a, .int .i64 b, .string s, .string t, .slice pa pn pc]] w fun e w' => (∃ (la : Option Addr) (ln lc : Nat) (x0 x1 x2 x3 x4 : Int),  e = .returned (.tuple #[.agg #[.int .i64 n1, .int .i64 n2, .string st, .slice la ln lc, .int .i64 x0, .int .i64 x1, .int .i64 x2, .int .i64 x3, .int .i64 x4, .int .i64 0], .int .i64 er])) ∧ KP (AllX B) w K M w' q K' := by
  have hinH := Lib.hid hin
  have hH := Lib.hid h
  clear h hin
  go_enter Tryz.func48, Tryz.ntmps48
  go_upto_region 24 with fail
  obtain ⟨W0, hW0⟩ : ∃ W, (w.alloc (.cells #[.int .i64 13, .int .i64 a, .int .i64 b, .string s, .string t, .slice pa pn pc] 34)).alloc (.cells #[.int .i64 0, .int .i64 0, .string ⟨#[]⟩, .slice none 0 0, .int .i64 0, .int .i64 0, .int .i64 0, .int .i64 0, .int .i64 0, .int .i64 0] 44) = W := ⟨_, rfl⟩
  have hb0 : Below w.heap.size w W0 := by rw [← hW0]; exact ((Below.refl _ w).alloc (Nat.le_refl _) _).alloc (by simp) _
  have hC0 : Blk W0 w.heap.size 34 #[.int .i64 13, .int .i64 a, .int .i64 b, .string s, .string t, .slice pa pn pc] := by rw [← hW0]; exact (Blk.new w _ _).alloc _
  have hR0 : Blk W0 (w.heap.size + 1) 44 #[.int .i64 0, .int .i64 0, .string ⟨#[]⟩, .slice none 0 0, .int .i64 0, .int .i64 0, .int .i64 0, .int .i64 0, .int .i64 0, .int .i64 0] := by
    have h := Blk.new (w.alloc (.cells #[.int .i64 13, .int .i64 a, .int .i64 b, .string s, .string t, .slice pa pn pc] 34)) 44 #[.int .i64 0, .int .i64 0, .string ⟨#[]⟩, .slice none 0 0, .int .i64 0, .int .i64 0, .int .i64 0, .int .i64 0, .int .i64 0, .int .i64 0]
    rw [World.size_alloc, hW0] at h
    exact h
  have a0 : W0.cell? ⟨w.heap.size, 0, none⟩ = some (.int .i64 13) := hC0.cell 0
  have a1 : W0.cell? ⟨w.heap.size, 1, none⟩ = some (.int .i64 a) := hC0.cell 1
  have a2 : W0.cell? ⟨w.heap.size, 2, none⟩ = some (.int .i64 b) := hC0.cell 2
  have a3 : W0.cell? ⟨w.heap.size, 3, none⟩ = some (.string s) := hC0.cell 3
  have a4 : W0.cell? ⟨w.heap.size, 4, none⟩ = some (.string t) := hC0.cell 4
  have a5 : W0.cell? ⟨w.heap.size, 5, none⟩ = some (.slice pa pn pc) := hC0.cell 5
  have hb0H := Lib.hid hb0
  have hR0H := Lib.hid hR0
  rw [hW0]
  clear hb0 hC0 hR0 hW0
  go_wp2_with (first
    | (go_at_call 91; refine (hinH.out W0 hb0H.out).mono ?_; rintro e w3 ⟨⟨la, ln, lc, x0, x1, x2, x3, x4, rfl⟩, hk3⟩
       have hR3 := hR0H.out.keep (kp_keep hH.out hk3 (by omega) hR0H.out.lt)
       have rc0 : w3.cell? ⟨w.heap.size + 1, 0, none⟩ = some (.int .i64 0) := hR3.cell 0
       have rf0 : w3.frozen? ⟨w.heap.size + 1, 0, none⟩ = false := hR3.frozen 0
       have rc1 : w3.cell? ⟨w.heap.size + 1, 1, none⟩ = some (.int .i64 0) := hR3.cell 1
       have rf1 : w3.frozen? ⟨w.heap.size + 1, 1, none⟩ = false := hR3.frozen 1
       have rc2 : w3.cell? ⟨w.heap.size + 1, 2, none⟩ = some (.string ⟨#[]⟩) := hR3.cell 2
       have rf2 : w3.frozen? ⟨w.heap.size + 1, 2, none⟩ = false := hR3.frozen 2
       have rc3 : w3.cell? ⟨w.heap.size + 1, 3, none⟩ = some (.slice none 0 0) := hR3.cell 3
       have rf3 : w3.frozen? ⟨w.heap.size + 1, 3, none⟩ = false := hR3.frozen 3
       have rc4 : w3.cell? ⟨w.heap.size + 1, 4, none⟩ = some (.int .i64 0) := hR3.cell 4
       have rf4 : w3.frozen? ⟨w.heap.size + 1, 4, none⟩ = false := hR3.frozen 4
       have rc5 : w3.cell? ⟨w.heap.size + 1, 5, none⟩ = some (.int .i64 0) := hR3.cell 5
       have rf5 : w3.frozen? ⟨w.heap.size + 1, 5, none⟩ = false := hR3.frozen 5
       have rc6 : w3.cell? ⟨w.heap.size + 1, 6, none⟩ = some (.int .i64 0) := hR3.cell 6
       have rf6 : w3.frozen? ⟨w.heap.size + 1, 6, none⟩ = false := hR3.frozen 6
       have rc7 : w3.cell? ⟨w.heap.size + 1, 7, none⟩ = some (.int .i64 0) := hR3.cell 7
       have rf7 : w3.frozen? ⟨w.heap.size + 1, 7, none⟩ = false := hR3.frozen 7
       have rc8 : w3.cell? ⟨w.heap.size + 1, 8, none⟩ = some (.int .i64 0) := hR3.cell 8
       have rf8 : w3.frozen? ⟨w.heap.size + 1, 8, none⟩ = false := hR3.frozen 8
       have rc9 : w3.cell? ⟨w.heap.size + 1, 9, none⟩ = some (.int .i64 0) := hR3.cell 9
       have rf9 : w3.frozen? ⟨w.heap.size + 1, 9, none⟩ = false := hR3.frozen 9
       have hk3H := Lib.hid hk3; have hR3H := Lib.hid hR3; clear hk3 hR3))
  (try simp only [Exit.inBlock, Exit.then])
  refine bodyPost_ret (results_cell_row2 rfl _ _ (w.heap.size + 1) 44 _ _ rfl (put10 hR3H.out (.int .i64 n1) (.int .i64 n2) (.string st) (.slice la ln lc) (.int .i64 x0) (.int .i64 x1) (.int .i64 x2) (.int .i64 x3) (.int .i64 x4) (.int .i64 0)) Tryz.underlying44 rfl (by kernel_rfl)) rfl ?_
  exact ⟨⟨la, ln, lc, x0, x1, x2, x3, x4, rfl⟩, kp_end hH.out hb0H.out hk3H.out (frm10 (Frm.refl _ _) (.inl (by show w.heap.size ≤ w.heap.size + 1 ∧ w.heap.size + 1 < _; have := hR0H.out.lt; omega)) _ _ _ _ _ _ _ _ _ _)⟩
end
end Go.Proofs.YtmilagppbepnbaaGreat.Kn
/- The kernel's Call, whatever waits and answer say. Condition: the kernel lies as stated. -/
namespace Go.Proofs.YtmilagppbepnbaaGreat.Kn
open Go.RowKit Go.PlainAid
set_option linter.unusedVariables false
set_option linter.unusedSimpArgs false
attribute [local go_sem] Oper.semAt_some
section
variable {w w' w3 w4 : World} {B : Ix → Nat → Prop} {q : Nat} {K K' : Ker} {M : Mp} {c : Nat}
set_option maxRecDepth 100000 in
set_option maxHeartbeats 4000000 in
theorem call_okx (h : KerIs w B q K M) {pid : Int} {n : Nat} (hl : liveM K pid = some n) (no a b : Int) (s t : ByteArray) (pa : Option Addr) (pn pc : Nat) (n1 n2 : Int) (st : ByteArray)
    (hwt : ∀ W, Below w.heap.size w W → Calls Tryz.prog 47 #[.pointer (some ⟨q, 0, none⟩), .pointer (some ⟨M.br n, 0, none⟩), .agg #[.int .i64 no, .int .i64 a, .int .i64 b, .string s, .string t, .slice pa pn pc]] W fun e w' => e = .returned (.bool false) ∧ Below W.heap.size W w')
    (han : ∀ W, Below w.heap.size w W → Calls Tryz.prog 48 #[.pointer (some ⟨q, 0, none⟩), .pointer (some ⟨M.br n, 0, none⟩), .agg #[.int .i64 no, .int .i64 a, .int .i64 b, .string s, .string t, .slice pa pn pc]] W fun e w' => (∃ (la : Option Addr) (ln lc : Nat) (x0 x1 x2 x3 x4 : Int), e = .returned (.tuple #[.agg #[.int .i64 n1, .int .i64 n2, .string st, .slice la ln lc, .int .i64 x0, .int .i64 x1, .int .i64 x2, .int .i64 x3, .int .i64 x4, .int .i64 0], .int .i64 0])) ∧ KP (AllX B) W K M w' q K') :
    Calls Tryz.prog 15 #[.pointer (some ⟨q, 0, none⟩), .int .i64 pid, .agg #[.int .i64 no, .int .i64 a, .int .i64 b, .string s, .string t, .slice pa pn pc]] w fun e w' => (∃ (la : Option Addr) (ln lc : Nat) (x0 x1 x2 x3 x4 : Int), e = .returned (.tuple #[.agg #[.int .i64 n1, .int .i64 n2, .string st, .slice la ln lc, .int .i64 x0, .int .i64 x1, .int .i64 x2, .int .i64 x3, .int .i64 x4, .int .i64 0], .bool false])) ∧ KP (AllX B) w K M w' q K' := by
  have hwtH := Lib.hid hwt
  have hanH := Lib.hid han
  have hH := Lib.hid h
  have hpr := Lib.hid (process_w h hl)
  obtain ⟨b9, hb9⟩ : ∃ b9, M.br n = b9 := ⟨_, rfl⟩
  rw [hb9] at hpr hwtH hanH
  clear h hb9 hl hwt han
  go_enter Tryz.func15, Tryz.ntmps15
  go_upto_region 1 with fail
  obtain ⟨W0, hW0⟩ : ∃ W, (w.alloc (.cells #[.int .i64 no, .int .i64 a, .int .i64 b, .string s, .string t, .slice pa pn pc] 34)).alloc (.cells #[.int .i64 0, .int .i64 0, .string ⟨#[]⟩, .slice none 0 0, .int .i64 0, .int .i64 0, .int .i64 0, .int .i64 0, .int .i64 0, .int .i64 0] 44) = W := ⟨_, rfl⟩
  have hb0 : Below w.heap.size w W0 := by rw [← hW0]; exact ((Below.refl _ w).alloc (Nat.le_refl _) _).alloc (by simp) _
  have hC0 : Blk W0 w.heap.size 34 #[.int .i64 no, .int .i64 a, .int .i64 b, .string s, .string t, .slice pa pn pc] := by rw [← hW0]; exact (Blk.new w _ _).alloc _
  have hR0 : Blk W0 (w.heap.size + 1) 44 #[.int .i64 0, .int .i64 0, .string ⟨#[]⟩, .slice none 0 0, .int .i64 0, .int .i64 0, .int .i64 0, .int .i64 0, .int .i64 0, .int .i64 0] := by
    have h := Blk.new (w.alloc (.cells #[.int .i64 no, .int .i64 a, .int .i64 b, .string s, .string t, .slice pa pn pc] 34)) 44 #[.int .i64 0, .int .i64 0, .string ⟨#[]⟩, .slice none 0 0, .int .i64 0, .int .i64 0, .int .i64 0, .int .i64 0, .int .i64 0, .int .i64 0]
    rw [World.size_alloc, hW0] at h
    exact h
  have hb0H := Lib.hid hb0
  have hC0H := Lib.hid hC0
  have hR0H := Lib.hid hR0
  rw [hW0]
  clear hb0 hC0 hR0 hW0
  go_upto_region 7 with (first
    | (go_at_call 46; refine (hpr.out W0 hb0H.out).mono ?_; rintro e w1 ⟨rfl, hb1⟩
       have hb01 := hb0H.out.trans (hb1.mono hb0H.out.size)
       have hC1 := hC0H.out.keep (hb1.block _ hC0H.out.lt)
       have p0 : w1.cell? ⟨w.heap.size, 0, none⟩ = some (.int .i64 no) := hC1.cell 0
       have p1 : w1.cell? ⟨w.heap.size, 1, none⟩ = some (.int .i64 a) := hC1.cell 1
       have p2 : w1.cell? ⟨w.heap.size, 2, none⟩ = some (.int .i64 b) := hC1.cell 2
       have p3 : w1.cell? ⟨w.heap.size, 3, none⟩ = some (.string s) := hC1.cell 3
       have p4 : w1.cell? ⟨w.heap.size, 4, none⟩ = some (.string t) := hC1.cell 4
       have p5 : w1.cell? ⟨w.heap.size, 5, none⟩ = some (.slice pa pn pc) := hC1.cell 5
       have hR1 := Lib.hid (hR0H.out.keep (hb1.block _ hR0H.out.lt))
       have hb01H := Lib.hid hb01; have hC1H := Lib.hid hC1; clear hb1 hb01 hC1)
    | (go_at_call 47; refine (hwtH.out w1 hb01H.out).mono ?_; rintro e w2 ⟨rfl, hb2⟩
       have hb02 := hb01H.out.trans (hb2.mono hb01H.out.size)
       have hC2 := hC1H.out.keep (hb2.block _ hC1H.out.lt)
       have y0 : w2.cell? ⟨w.heap.size, 0, none⟩ = some (.int .i64 no) := hC2.cell 0
       have y1 : w2.cell? ⟨w.heap.size, 1, none⟩ = some (.int .i64 a) := hC2.cell 1
       have y2 : w2.cell? ⟨w.heap.size, 2, none⟩ = some (.int .i64 b) := hC2.cell 2
       have y3 : w2.cell? ⟨w.heap.size, 3, none⟩ = some (.string s) := hC2.cell 3
       have y4 : w2.cell? ⟨w.heap.size, 4, none⟩ = some (.string t) := hC2.cell 4
       have y5 : w2.cell? ⟨w.heap.size, 5, none⟩ = some (.slice pa pn pc) := hC2.cell 5
       have hR2 := hR1.out.keep (hb2.block _ hR1.out.lt)
       have hb02H := Lib.hid hb02; have hR2H := Lib.hid hR2; clear hb2 hb02 hC2 hR2)
    | (go_at_call 48; refine (hanH.out w2 hb02H.out).mono ?_; rintro e w3 ⟨⟨la, ln, lc, x0, x1, x2, x3, x4, rfl⟩, hk3⟩
       have hR3 := hR2H.out.keep (kp_keep hH.out hk3 (by omega) hR2H.out.lt)
       have hk3H := Lib.hid hk3; have hR3H := Lib.hid hR3; clear hk3 hR3))
  clear p0 p1 p2 p3 p4 p5 y0 y1 y2 y3 y4 y5
  obtain ⟨m3, hm3⟩ : ∃ m, w3.heap.size = m := ⟨_, rfl⟩
  obtain ⟨W4, hW4⟩ : ∃ W, w3.alloc (.cells #[.int .i64 n1, .int .i64 n2, .string st, .slice la ln lc, .int .i64 x0, .int .i64 x1, .int .i64 x2, .int .i64 x3, .int .i64 x4, .int .i64 0] 44) = W := ⟨_, rfl⟩
  have hb4 : Below w3.heap.size w3 W4 := by
    rw [← hW4]
    exact (Below.refl _ _).alloc (Nat.le_refl _) _
  have hT4 : Blk W4 w3.heap.size 44 #[.int .i64 n1, .int .i64 n2, .string st, .slice la ln lc, .int .i64 x0, .int .i64 x1, .int .i64 x2, .int .i64 x3, .int .i64 x4, .int .i64 0] := by
    rw [← hW4]
    exact Blk.new w3 _ _
  rw [hm3] at hT4
  have hR4 := hR3H.out.keep (hb4.block _ hR3H.out.lt)
  have rc0 : W4.cell? ⟨w.heap.size + 1, 0, none⟩ = some (.int .i64 0) := hR4.cell 0
  have rf0 : W4.frozen? ⟨w.heap.size + 1, 0, none⟩ = false := hR4.frozen 0
  have rc1 : W4.cell? ⟨w.heap.size + 1, 1, none⟩ = some (.int .i64 0) := hR4.cell 1
  have rf1 : W4.frozen? ⟨w.heap.size + 1, 1, none⟩ = false := hR4.frozen 1
  have rc2 : W4.cell? ⟨w.heap.size + 1, 2, none⟩ = some (.string ⟨#[]⟩) := hR4.cell 2
  have rf2 : W4.frozen? ⟨w.heap.size + 1, 2, none⟩ = false := hR4.frozen 2
  have rc3 : W4.cell? ⟨w.heap.size + 1, 3, none⟩ = some (.slice none 0 0) := hR4.cell 3
  have rf3 : W4.frozen? ⟨w.heap.size + 1, 3, none⟩ = false := hR4.frozen 3
  have rc4 : W4.cell? ⟨w.heap.size + 1, 4, none⟩ = some (.int .i64 0) := hR4.cell 4
  have rf4 : W4.frozen? ⟨w.heap.size + 1, 4, none⟩ = false := hR4.frozen 4
  have rc5 : W4.cell? ⟨w.heap.size + 1, 5, none⟩ = some (.int .i64 0) := hR4.cell 5
  have rf5 : W4.frozen? ⟨w.heap.size + 1, 5, none⟩ = false := hR4.frozen 5
  have rc6 : W4.cell? ⟨w.heap.size + 1, 6, none⟩ = some (.int .i64 0) := hR4.cell 6
  have rf6 : W4.frozen? ⟨w.heap.size + 1, 6, none⟩ = false := hR4.frozen 6
  have rc7 : W4.cell? ⟨w.heap.size + 1, 7, none⟩ = some (.int .i64 0) := hR4.cell 7
  have rf7 : W4.frozen? ⟨w.heap.size + 1, 7, none⟩ = false := hR4.frozen 7
  have rc8 : W4.cell? ⟨w.heap.size + 1, 8, none⟩ = some (.int .i64 0) := hR4.cell 8
  have rf8 : W4.frozen? ⟨w.heap.size + 1, 8, none⟩ = false := hR4.frozen 8
  have rc9 : W4.cell? ⟨w.heap.size + 1, 9, none⟩ = some (.int .i64 0) := hR4.cell 9
  have rf9 : W4.frozen? ⟨w.heap.size + 1, 9, none⟩ = false := hR4.frozen 9
  have tc0 : W4.cell? ⟨m3, 0, none⟩ = some (.int .i64 n1) := hT4.cell 0
  have tc1 : W4.cell? ⟨m3, 1, none⟩ = some (.int .i64 n2) := hT4.cell 1
  have tc2 : W4.cell? ⟨m3, 2, none⟩ = some (.string st) := hT4.cell 2
  have tc3 : W4.cell? ⟨m3, 3, none⟩ = some (.slice la ln lc) := hT4.cell 3
  have tc4 : W4.cell? ⟨m3, 4, none⟩ = some (.int .i64 x0) := hT4.cell 4
  have tc5 : W4.cell? ⟨m3, 5, none⟩ = some (.int .i64 x1) := hT4.cell 5
  have tc6 : W4.cell? ⟨m3, 6, none⟩ = some (.int .i64 x2) := hT4.cell 6
  have tc7 : W4.cell? ⟨m3, 7, none⟩ = some (.int .i64 x3) := hT4.cell 7
  have tc8 : W4.cell? ⟨m3, 8, none⟩ = some (.int .i64 x4) := hT4.cell 8
  have tc9 : W4.cell? ⟨m3, 9, none⟩ = some (.int .i64 0) := hT4.cell 9
  have hb4H := Lib.hid hb4
  have hR4H := Lib.hid hR4
  rw [hW4, hm3]
  clear hW4 hb4 hT4 hR4 hm3
  go_wp2_with fail
  (try simp only [Exit.inBlock, Exit.then])
  refine bodyPost_ret (results_cell_row2 rfl _ _ (w.heap.size + 1) 44 _ _ rfl (put10 hR4H.out (.int .i64 n1) (.int .i64 n2) (.string st) (.slice la ln lc) (.int .i64 x0) (.int .i64 x1) (.int .i64 x2) (.int .i64 x3) (.int .i64 x4) (.int .i64 0)) Tryz.underlying44 rfl (by kernel_rfl)) rfl ?_
  exact ⟨⟨la, ln, lc, x0, x1, x2, x3, x4, rfl⟩, kp_end hH.out hb02H.out hk3H.out ((Frm.of_below hb4H.out).trans (O1 := fun g => w.heap.size ≤ g ∧ g < w2.heap.size) (fun g hg => .inl hg) (frm10 (Frm.refl _ _) (.inl ⟨by omega, hR2H.out.lt⟩) _ _ _ _ _ _ _ _ _ _))⟩
set_option maxRecDepth 100000 in
set_option maxHeartbeats 4000000 in
theorem call_errx (h : KerIs w B q K M) {pid : Int} {n : Nat} (hl : liveM K pid = some n) (no a b : Int) (s t : ByteArray) (pa : Option Addr) (pn pc : Nat) (n1 n2 : Int) (st : ByteArray) (er : Int) (her : er ≠ 0)
    (hwt : ∀ W, Below w.heap.size w W → Calls Tryz.prog 47 #[.pointer (some ⟨q, 0, none⟩), .pointer (some ⟨M.br n, 0, none⟩), .agg #[.int .i64 no, .int .i64 a, .int .i64 b, .string s, .string t, .slice pa pn pc]] W fun e w' => e = .returned (.bool false) ∧ Below W.heap.size W w')
    (han : ∀ W, Below w.heap.size w W → Calls Tryz.prog 48 #[.pointer (some ⟨q, 0, none⟩), .pointer (some ⟨M.br n, 0, none⟩), .agg #[.int .i64 no, .int .i64 a, .int .i64 b, .string s, .string t, .slice pa pn pc]] W fun e w' => (∃ (la : Option Addr) (ln lc : Nat) (x0 x1 x2 x3 x4 : Int), e = .returned (.tuple #[.agg #[.int .i64 n1, .int .i64 n2, .string st, .slice la ln lc, .int .i64 x0, .int .i64 x1, .int .i64 x2, .int .i64 x3, .int .i64 x4, .int .i64 0], .int .i64 er])) ∧ KP (AllX B) W K M w' q K') :
    Calls Tryz.prog 15 #[.pointer (some ⟨q, 0, none⟩), .int .i64 pid, .agg #[.int .i64 no, .int .i64 a, .int .i64 b, .string s, .string t, .slice pa pn pc]] w fun e w' => e = .returned (.tuple #[.agg #[.int .i64 0, .int .i64 0, .string ⟨#[]⟩, .slice none 0 0, .int .i64 0, .int .i64 0, .int .i64 0, .int .i64 0, .int .i64 0, .int .i64 er], .bool false]) ∧ KP (AllX B) w K M w' q K' := by
  have hwtH := Lib.hid hwt
  have hanH := Lib.hid han
  have hH := Lib.hid h
  have hpr := Lib.hid (process_w h hl)
  have d0 : (er == 0) = false := beq_eq_false_iff_ne.2 her
  have d1 : (er != 0) = true := by simp [her]
  clear her
  obtain ⟨b9, hb9⟩ : ∃ b9, M.br n = b9 := ⟨_, rfl⟩
  rw [hb9] at hpr hwtH hanH
  clear h hb9 hl hwt han
  go_enter Tryz.func15, Tryz.ntmps15
  go_upto_region 1 with fail
  obtain ⟨W0, hW0⟩ : ∃ W, (w.alloc (.cells #[.int .i64 no, .int .i64 a, .int .i64 b, .string s, .string t, .slice pa pn pc] 34)).alloc (.cells #[.int .i64 0, .int .i64 0, .string ⟨#[]⟩, .slice none 0 0, .int .i64 0, .int .i64 0, .int .i64 0, .int .i64 0, .int .i64 0, .int .i64 0] 44) = W := ⟨_, rfl⟩
  have hb0 : Below w.heap.size w W0 := by rw [← hW0]; exact ((Below.refl _ w).alloc (Nat.le_refl _) _).alloc (by simp) _
  have hC0 : Blk W0 w.heap.size 34 #[.int .i64 no, .int .i64 a, .int .i64 b, .string s, .string t, .slice pa pn pc] := by rw [← hW0]; exact (Blk.new w _ _).alloc _
  have hR0 : Blk W0 (w.heap.size + 1) 44 #[.int .i64 0, .int .i64 0, .string ⟨#[]⟩, .slice none 0 0, .int .i64 0, .int .i64 0, .int .i64 0, .int .i64 0, .int .i64 0, .int .i64 0] := by
    have h := Blk.new (w.alloc (.cells #[.int .i64 no, .int .i64 a, .int .i64 b, .string s, .string t, .slice pa pn pc] 34)) 44 #[.int .i64 0, .int .i64 0, .string ⟨#[]⟩, .slice none 0 0, .int .i64 0, .int .i64 0, .int .i64 0, .int .i64 0, .int .i64 0, .int .i64 0]
    rw [World.size_alloc, hW0] at h
    exact h
  have hb0H := Lib.hid hb0
  have hC0H := Lib.hid hC0
  have hR0H := Lib.hid hR0
  rw [hW0]
  clear hb0 hC0 hR0 hW0
  go_upto_region 7 with (first
    | (go_at_call 46; refine (hpr.out W0 hb0H.out).mono ?_; rintro e w1 ⟨rfl, hb1⟩
       have hb01 := hb0H.out.trans (hb1.mono hb0H.out.size)
       have hC1 := hC0H.out.keep (hb1.block _ hC0H.out.lt)
       have p0 : w1.cell? ⟨w.heap.size, 0, none⟩ = some (.int .i64 no) := hC1.cell 0
       have p1 : w1.cell? ⟨w.heap.size, 1, none⟩ = some (.int .i64 a) := hC1.cell 1
       have p2 : w1.cell? ⟨w.heap.size, 2, none⟩ = some (.int .i64 b) := hC1.cell 2
       have p3 : w1.cell? ⟨w.heap.size, 3, none⟩ = some (.string s) := hC1.cell 3
       have p4 : w1.cell? ⟨w.heap.size, 4, none⟩ = some (.string t) := hC1.cell 4
       have p5 : w1.cell? ⟨w.heap.size, 5, none⟩ = some (.slice pa pn pc) := hC1.cell 5
       have hR1 := Lib.hid (hR0H.out.keep (hb1.block _ hR0H.out.lt))
       have hb01H := Lib.hid hb01; have hC1H := Lib.hid hC1; clear hb1 hb01 hC1)
    | (go_at_call 47; refine (hwtH.out w1 hb01H.out).mono ?_; rintro e w2 ⟨rfl, hb2⟩
       have hb02 := hb01H.out.trans (hb2.mono hb01H.out.size)
       have hC2 := hC1H.out.keep (hb2.block _ hC1H.out.lt)
       have y0 : w2.cell? ⟨w.heap.size, 0, none⟩ = some (.int .i64 no) := hC2.cell 0
       have y1 : w2.cell? ⟨w.heap.size, 1, none⟩ = some (.int .i64 a) := hC2.cell 1
       have y2 : w2.cell? ⟨w.heap.size, 2, none⟩ = some (.int .i64 b) := hC2.cell 2
       have y3 : w2.cell? ⟨w.heap.size, 3, none⟩ = some (.string s) := hC2.cell 3
       have y4 : w2.cell? ⟨w.heap.size, 4, none⟩ = some (.string t) := hC2.cell 4
       have y5 : w2.cell? ⟨w.heap.size, 5, none⟩ = some (.slice pa pn pc) := hC2.cell 5
       have hR2 := hR1.out.keep (hb2.block _ hR1.out.lt)
       have hb02H := Lib.hid hb02; have hR2H := Lib.hid hR2; clear hb2 hb02 hC2 hR2)
    | (go_at_call 48; refine (hanH.out w2 hb02H.out).mono ?_; rintro e w3 ⟨⟨la, ln, lc, x0, x1, x2, x3, x4, rfl⟩, hk3⟩
       have hR3 := hR2H.out.keep (kp_keep hH.out hk3 (by omega) hR2H.out.lt)
       have hk3H := Lib.hid hk3; have hR3H := Lib.hid hR3; clear hk3 hR3))
  clear p0 p1 p2 p3 p4 p5 y0 y1 y2 y3 y4 y5
  obtain ⟨m3, hm3⟩ : ∃ m, w3.heap.size = m := ⟨_, rfl⟩
  obtain ⟨W4, hW4⟩ : ∃ W, w3.alloc (.cells #[.int .i64 n1, .int .i64 n2, .string st, .slice la ln lc, .int .i64 x0, .int .i64 x1, .int .i64 x2, .int .i64 x3, .int .i64 x4, .int .i64 0] 44) = W := ⟨_, rfl⟩
  have hb4 : Below w3.heap.size w3 W4 := by
    rw [← hW4]
    exact (Below.refl _ _).alloc (Nat.le_refl _) _
  have hT4 : Blk W4 w3.heap.size 44 #[.int .i64 n1, .int .i64 n2, .string st, .slice la ln lc, .int .i64 x0, .int .i64 x1, .int .i64 x2, .int .i64 x3, .int .i64 x4, .int .i64 0] := by
    rw [← hW4]
    exact Blk.new w3 _ _
  rw [hm3] at hT4
  have hR4 := hR3H.out.keep (hb4.block _ hR3H.out.lt)
  have rc0 : W4.cell? ⟨w.heap.size + 1, 0, none⟩ = some (.int .i64 0) := hR4.cell 0
  have rf0 : W4.frozen? ⟨w.heap.size + 1, 0, none⟩ = false := hR4.frozen 0
  have rc1 : W4.cell? ⟨w.heap.size + 1, 1, none⟩ = some (.int .i64 0) := hR4.cell 1
  have rf1 : W4.frozen? ⟨w.heap.size + 1, 1, none⟩ = false := hR4.frozen 1
  have rc2 : W4.cell? ⟨w.heap.size + 1, 2, none⟩ = some (.string ⟨#[]⟩) := hR4.cell 2
  have rf2 : W4.frozen? ⟨w.heap.size + 1, 2, none⟩ = false := hR4.frozen 2
  have rc3 : W4.cell? ⟨w.heap.size + 1, 3, none⟩ = some (.slice none 0 0) := hR4.cell 3
  have rf3 : W4.frozen? ⟨w.heap.size + 1, 3, none⟩ = false := hR4.frozen 3
  have rc4 : W4.cell? ⟨w.heap.size + 1, 4, none⟩ = some (.int .i64 0) := hR4.cell 4
  have rf4 : W4.frozen? ⟨w.heap.size + 1, 4, none⟩ = false := hR4.frozen 4
  have rc5 : W4.cell? ⟨w.heap.size + 1, 5, none⟩ = some (.int .i64 0) := hR4.cell 5
  have rf5 : W4.frozen? ⟨w.heap.size + 1, 5, none⟩ = false := hR4.frozen 5
  have rc6 : W4.cell? ⟨w.heap.size + 1, 6, none⟩ = some (.int .i64 0) := hR4.cell 6
  have rf6 : W4.frozen? ⟨w.heap.size + 1, 6, none⟩ = false := hR4.frozen 6
  have rc7 : W4.cell? ⟨w.heap.size + 1, 7, none⟩ = some (.int .i64 0) := hR4.cell 7
  have rf7 : W4.frozen? ⟨w.heap.size + 1, 7, none⟩ = false := hR4.frozen 7
  have rc8 : W4.cell? ⟨w.heap.size + 1, 8, none⟩ = some (.int .i64 0) := hR4.cell 8
  have rf8 : W4.frozen? ⟨w.heap.size + 1, 8, none⟩ = false := hR4.frozen 8
  have rc9 : W4.cell? ⟨w.heap.size + 1, 9, none⟩ = some (.int .i64 0) := hR4.cell 9
  have rf9 : W4.frozen? ⟨w.heap.size + 1, 9, none⟩ = false := hR4.frozen 9
  have tc0 : W4.cell? ⟨m3, 0, none⟩ = some (.int .i64 n1) := hT4.cell 0
  have tc1 : W4.cell? ⟨m3, 1, none⟩ = some (.int .i64 n2) := hT4.cell 1
  have tc2 : W4.cell? ⟨m3, 2, none⟩ = some (.string st) := hT4.cell 2
  have tc3 : W4.cell? ⟨m3, 3, none⟩ = some (.slice la ln lc) := hT4.cell 3
  have tc4 : W4.cell? ⟨m3, 4, none⟩ = some (.int .i64 x0) := hT4.cell 4
  have tc5 : W4.cell? ⟨m3, 5, none⟩ = some (.int .i64 x1) := hT4.cell 5
  have tc6 : W4.cell? ⟨m3, 6, none⟩ = some (.int .i64 x2) := hT4.cell 6
  have tc7 : W4.cell? ⟨m3, 7, none⟩ = some (.int .i64 x3) := hT4.cell 7
  have tc8 : W4.cell? ⟨m3, 8, none⟩ = some (.int .i64 x4) := hT4.cell 8
  have tc9 : W4.cell? ⟨m3, 9, none⟩ = some (.int .i64 0) := hT4.cell 9
  have hb4H := Lib.hid hb4
  have hR4H := Lib.hid hR4
  rw [hW4, hm3]
  clear hW4 hb4 hT4 hR4 hm3
  go_wp2_with fail
  (try simp only [Exit.inBlock, Exit.then])
  refine bodyPost_ret (results_cell_row2 rfl _ _ (w.heap.size + 1) 44 _ _ rfl (put10 hR4H.out (.int .i64 0) (.int .i64 0) (.string ⟨#[]⟩) (.slice none 0 0) (.int .i64 0) (.int .i64 0) (.int .i64 0) (.int .i64 0) (.int .i64 0) (.int .i64 er)) Tryz.underlying44 rfl (by kernel_rfl)) rfl ?_
  exact ⟨rfl, kp_end hH.out hb02H.out hk3H.out ((Frm.of_below hb4H.out).trans (O1 := fun g => w.heap.size ≤ g ∧ g < w2.heap.size) (fun g hg => .inl hg) (frm10 (Frm.refl _ _) (.inl ⟨by omega, hR2H.out.lt⟩) _ _ _ _ _ _ _ _ _ _))⟩
end
end Go.Proofs.YtmilagppbepnbaaGreat.Kn
/- The kernel's gate: onProcess. Condition: the kernel lies as stated. -/
namespace Go.Proofs.YtmilagppbepnbaaGreat.Kn
open Go.RowKit Go.PlainAid
set_option linter.unusedVariables false
set_option linter.unusedSimpArgs false
attribute [local go_sem] Oper.semAt_some
section
variable {w w' w3 w4 : World} {B : Ix → Nat → Prop} {q : Nat} {K K' : Ker} {M : Mp} {c : Nat}
set_option maxRecDepth 100000 in
set_option maxHeartbeats 4000000 in
theorem on_chdir (h : KerIs w B q K M) {pb : Nat} (a b : Int) (s t : ByteArray) (pa : Option Addr) (pn pc : Nat) (er : Int)
    (hin : ∀ W, Below w.heap.size w W → Calls Tryz.prog 163 #[.pointer (some ⟨q, 0, none⟩), .pointer (some ⟨pb, 0, none⟩), .string s] W fun e w' => e = .returned (.int .i64 er) ∧ KP (AllX B) W K M w' q K') :
    Calls Tryz.prog 91 #[.pointer (some ⟨q, 0, none⟩), .pointer (some ⟨pb, 0, none⟩), .agg #[.int .i64 12, .int .i64 a, .int .i64 b, .string s, .string t, .slice pa pn pc]] w fun e w' => e = .returned (.tuple #[.agg #[.int .i64 0, .int .i64 0, .string ⟨#[]⟩, .slice none 0 0, .int .i64 0, .int .i64 0, .int .i64 0, .int .i64 0, .int .i64 0, .int .i64 0], .int .i64 er]) ∧ KP (AllX B) w K M w' q K' := by
  have hinH := Lib.hid hin
  have hH := Lib.hid h
  clear h hin
  go_enter Tryz.func91, Tryz.ntmps91
  go_upto_region 20 with fail
  obtain ⟨W0, hW0⟩ : ∃ W, ((w.alloc (.cells #[.int .i64 12, .int .i64 a, .int .i64 b, .string s, .string t, .slice pa pn pc] 34)).alloc (.cells #[.int .i64 0, .int .i64 0, .string ⟨#[]⟩, .slice none 0 0, .int .i64 0, .int .i64 0, .int .i64 0, .int .i64 0, .int .i64 0, .int .i64 0] 44)).alloc (.cells #[.int .i64 0, .int .i64 0, .string ⟨#[]⟩, .slice none 0 0, .int .i64 0, .int .i64 0, .int .i64 0, .int .i64 0, .int .i64 0, .int .i64 0] 44) = W := ⟨_, rfl⟩
  have hb0 : Below w.heap.size w W0 := by rw [← hW0]; exact (((Below.refl _ w).alloc (Nat.le_refl _) _).alloc (by simp) _).alloc (by simp; omega) _
  have hC0 : Blk W0 w.heap.size 34 #[.int .i64 12, .int .i64 a, .int .i64 b, .string s, .string t, .slice pa pn pc] := by rw [← hW0]; exact ((Blk.new w _ _).alloc _).alloc _
  have hR0 : Blk W0 (w.heap.size + 1) 44 #[.int .i64 0, .int .i64 0, .string ⟨#[]⟩, .slice none 0 0, .int .i64 0, .int .i64 0, .int .i64 0, .int .i64 0, .int .i64 0, .int .i64 0] := by
    have h := (Blk.new (w.alloc (.cells #[.int .i64 12, .int .i64 a, .int .i64 b, .string s, .string t, .slice pa pn pc] 34)) 44 #[.int .i64 0, .int .i64 0, .string ⟨#[]⟩, .slice none 0 0, .int .i64 0, .int .i64 0, .int .i64 0, .int .i64 0, .int .i64 0, .int .i64 0]).alloc (.cells #[.int .i64 0, .int .i64 0, .string ⟨#[]⟩, .slice none 0 0, .int .i64 0, .int .i64 0, .int .i64 0, .int .i64 0, .int .i64 0, .int .i64 0] 44)
    rw [World.size_alloc, hW0] at h
    exact h
  have hr0 : Blk W0 (w.heap.size + 2) 44 #[.int .i64 0, .int .i64 0, .string ⟨#[]⟩, .slice none 0 0, .int .i64 0, .int .i64 0, .int .i64 0, .int .i64 0, .int .i64 0, .int .i64 0] := by
    have h := Blk.new ((w.alloc (.cells #[.int .i64 12, .int .i64 a, .int .i64 b, .string s, .string t, .slice pa pn pc] 34)).alloc (.cells #[.int .i64 0, .int .i64 0, .string ⟨#[]⟩, .slice none 0 0, .int .i64 0, .int .i64 0, .int .i64 0, .int .i64 0, .int .i64 0, .int .i64 0] 44)) 44 #[.int .i64 0, .int .i64 0, .string ⟨#[]⟩, .slice none 0 0, .int .i64 0, .int .i64 0, .int .i64 0, .int .i64 0, .int .i64 0, .int .i64 0]
    rw [World.size_alloc, World.size_alloc, hW0] at h
    exact h
  have a1 : W0.cell? ⟨w.heap.size, 1, none⟩ = some (.int .i64 a) := hC0.cell 1
  have a2 : W0.cell? ⟨w.heap.size, 2, none⟩ = some (.int .i64 b) := hC0.cell 2
  have a3 : W0.cell? ⟨w.heap.size, 3, none⟩ = some (.string s) := hC0.cell 3
  have hb0H := Lib.hid hb0
  have hR0H := Lib.hid hR0
  have hr0H := Lib.hid hr0
  rw [hW0]
  clear hb0 hC0 hR0 hr0 hW0
  go_wp2_with (first
    | (go_at_call 163; refine (hinH.out W0 hb0H.out).mono ?_; rintro e w3 ⟨rfl, hk3⟩
       have hR3 := hR0H.out.keep (kp_keep hH.out hk3 (by omega) hR0H.out.lt)
       have hr3 := hr0H.out.keep (kp_keep hH.out hk3 (by omega) hr0H.out.lt)
       have rc0 : w3.cell? ⟨w.heap.size + 1, 0, none⟩ = some (.int .i64 0) := hR3.cell 0
       have rf0 : w3.frozen? ⟨w.heap.size + 1, 0, none⟩ = false := hR3.frozen 0
       have rc1 : w3.cell? ⟨w.heap.size + 1, 1, none⟩ = some (.int .i64 0) := hR3.cell 1
       have rf1 : w3.frozen? ⟨w.heap.size + 1, 1, none⟩ = false := hR3.frozen 1
       have rc2 : w3.cell? ⟨w.heap.size + 1, 2, none⟩ = some (.string ⟨#[]⟩) := hR3.cell 2
       have rf2 : w3.frozen? ⟨w.heap.size + 1, 2, none⟩ = false := hR3.frozen 2
       have rc3 : w3.cell? ⟨w.heap.size + 1, 3, none⟩ = some (.slice none 0 0) := hR3.cell 3
       have rf3 : w3.frozen? ⟨w.heap.size + 1, 3, none⟩ = false := hR3.frozen 3
       have rc4 : w3.cell? ⟨w.heap.size + 1, 4, none⟩ = some (.int .i64 0) := hR3.cell 4
       have rf4 : w3.frozen? ⟨w.heap.size + 1, 4, none⟩ = false := hR3.frozen 4
       have rc5 : w3.cell? ⟨w.heap.size + 1, 5, none⟩ = some (.int .i64 0) := hR3.cell 5
       have rf5 : w3.frozen? ⟨w.heap.size + 1, 5, none⟩ = false := hR3.frozen 5
       have rc6 : w3.cell? ⟨w.heap.size + 1, 6, none⟩ = some (.int .i64 0) := hR3.cell 6
       have rf6 : w3.frozen? ⟨w.heap.size + 1, 6, none⟩ = false := hR3.frozen 6
       have rc7 : w3.cell? ⟨w.heap.size + 1, 7, none⟩ = some (.int .i64 0) := hR3.cell 7
       have rf7 : w3.frozen? ⟨w.heap.size + 1, 7, none⟩ = false := hR3.frozen 7
       have rc8 : w3.cell? ⟨w.heap.size + 1, 8, none⟩ = some (.int .i64 0) := hR3.cell 8
       have rf8 : w3.frozen? ⟨w.heap.size + 1, 8, none⟩ = false := hR3.frozen 8
       have rc9 : w3.cell? ⟨w.heap.size + 1, 9, none⟩ = some (.int .i64 0) := hR3.cell 9
       have rf9 : w3.frozen? ⟨w.heap.size + 1, 9, none⟩ = false := hR3.frozen 9
       have uc0 : w3.cell? ⟨w.heap.size + 2, 0, none⟩ = some (.int .i64 0) := hr3.cell 0
       have uf0 : w3.frozen? ⟨w.heap.size + 2, 0, none⟩ = false := hr3.frozen 0
       have uc1 : w3.cell? ⟨w.heap.size + 2, 1, none⟩ = some (.int .i64 0) := hr3.cell 1
       have uf1 : w3.frozen? ⟨w.heap.size + 2, 1, none⟩ = false := hr3.frozen 1
       have uc2 : w3.cell? ⟨w.heap.size + 2, 2, none⟩ = some (.string ⟨#[]⟩) := hr3.cell 2
       have uf2 : w3.frozen? ⟨w.heap.size + 2, 2, none⟩ = false := hr3.frozen 2
       have uc3 : w3.cell? ⟨w.heap.size + 2, 3, none⟩ = some (.slice none 0 0) := hr3.cell 3
       have uf3 : w3.frozen? ⟨w.heap.size + 2, 3, none⟩ = false := hr3.frozen 3
       have uc4 : w3.cell? ⟨w.heap.size + 2, 4, none⟩ = some (.int .i64 0) := hr3.cell 4
       have uf4 : w3.frozen? ⟨w.heap.size + 2, 4, none⟩ = false := hr3.frozen 4
       have uc5 : w3.cell? ⟨w.heap.size + 2, 5, none⟩ = some (.int .i64 0) := hr3.cell 5
       have uf5 : w3.frozen? ⟨w.heap.size + 2, 5, none⟩ = false := hr3.frozen 5
       have uc6 : w3.cell? ⟨w.heap.size + 2, 6, none⟩ = some (.int .i64 0) := hr3.cell 6
       have uf6 : w3.frozen? ⟨w.heap.size + 2, 6, none⟩ = false := hr3.frozen 6
       have uc7 : w3.cell? ⟨w.heap.size + 2, 7, none⟩ = some (.int .i64 0) := hr3.cell 7
       have uf7 : w3.frozen? ⟨w.heap.size + 2, 7, none⟩ = false := hr3.frozen 7
       have uc8 : w3.cell? ⟨w.heap.size + 2, 8, none⟩ = some (.int .i64 0) := hr3.cell 8
       have uf8 : w3.frozen? ⟨w.heap.size + 2, 8, none⟩ = false := hr3.frozen 8
       have uc9 : w3.cell? ⟨w.heap.size + 2, 9, none⟩ = some (.int .i64 0) := hr3.cell 9
       have uf9 : w3.frozen? ⟨w.heap.size + 2, 9, none⟩ = false := hr3.frozen 9
       have hk3H := Lib.hid hk3; have hR3H := Lib.hid hR3; clear hk3 hR3 hr3))
  (try simp only [Exit.inBlock, Exit.then])
  refine bodyPost_ret (results_cell_row2 rfl _ _ (w.heap.size + 1) 44 _ _ rfl (put10 hR3H.out (.int .i64 0) (.int .i64 0) (.string ⟨#[]⟩) (.slice none 0 0) (.int .i64 0) (.int .i64 0) (.int .i64 0) (.int .i64 0) (.int .i64 0) (.int .i64 0)) Tryz.underlying44 rfl (by kernel_rfl)) rfl ?_
  exact ⟨rfl, kp_end hH.out hb0H.out hk3H.out (frm10 (Frm.refl _ _) (.inl (by show w.heap.size ≤ w.heap.size + 1 ∧ w.heap.size + 1 < _; have := hR0H.out.lt; omega)) _ _ _ _ _ _ _ _ _ _)⟩
end
end Go.Proofs.YtmilagppbepnbaaGreat.Kn
/- The kernel's gate: onPaths. Condition: the kernel lies as stated. -/
namespace Go.Proofs.YtmilagppbepnbaaGreat.Kn
open Go.RowKit Go.PlainAid
set_option linter.unusedVariables false
set_option linter.unusedSimpArgs false
attribute [local go_sem] Oper.semAt_some
section
variable {w w' w3 w4 : World} {B : Ix → Nat → Prop} {q : Nat} {K K' : Ker} {M : Mp} {c : Nat}
theorem blk_q (h : KerIs w B q K M) : w.cell? ⟨q, 0, none⟩ = some (.pointer (some ⟨M.fp, 0, none⟩)) ∧ q < w.heap.size := by
  obtain ⟨xv, dv, rv, o1, o2, ho⟩ := h.own
  exact ⟨ho.blk.cell 0, ho.blk.lt⟩
set_option maxRecDepth 100000 in
set_option maxHeartbeats 4000000 in
theorem on_mkdir (h : KerIs w B q K M) {pb : Nat} (a b : Int) (s t : ByteArray) (pa : Option Addr) (pn pc : Nat) {n : Nat} {P : Prc} (hP : ask K.procs n = some P) (hpb : M.br n = pb) (er : Int) (f' : Fs)
    (hin : ∀ W, Below w.heap.size w W → Calls Tryz.prog 151 #[.pointer (some ⟨M.fp, 0, none⟩), .int .i64 P.dir, .string s, .int .i64 (bits .andNot .i64 a P.mask)] W fun e w' => e = .returned (.int .i64 er) ∧ KP (AllX B) W K M w' q (setF K f')) :
    Calls Tryz.prog 90 #[.pointer (some ⟨q, 0, none⟩), .pointer (some ⟨pb, 0, none⟩), .agg #[.int .i64 17, .int .i64 a, .int .i64 b, .string s, .string t, .slice pa pn pc]] w fun e w' => e = .returned (.tuple #[.agg #[.int .i64 0, .int .i64 0, .string ⟨#[]⟩, .slice none 0 0, .int .i64 0, .int .i64 0, .int .i64 0, .int .i64 0, .int .i64 0, .int .i64 0], .int .i64 er]) ∧ KP (AllX B) w K M w' q (setF K f') := by
  obtain ⟨hB, _⟩ : PrcAt w (B (.proc n)) (M.br n) (M.bt n) P := h.part (.proc n) P hP
  have hnr : n ≤ K.lastR := proc_le h.num hP
  obtain ⟨hq0, hql⟩ := blk_q h
  rw [hpb] at hB
  obtain ⟨fp, hfp⟩ : ∃ fp, M.fp = fp := ⟨_, rfl⟩
  rw [hfp] at hq0 hin
  have hBH := Lib.hid hB
  have hH := Lib.hid h
  have hPH := Lib.hid hP
  have hpbH := Lib.hid hpb
  have hfpH := Lib.hid hfp
  have hinH := Lib.hid hin
  clear h hP hpb hB hfp hin
  go_enter Tryz.func90, Tryz.ntmps90
  go_upto_region 14 with fail
  obtain ⟨W0, hW0⟩ : ∃ W, ((w.alloc (.cells #[.int .i64 17, .int .i64 a, .int .i64 b, .string s, .string t, .slice pa pn pc] 34)).alloc (.cells #[.int .i64 0, .int .i64 0, .string ⟨#[]⟩, .slice none 0 0, .int .i64 0, .int .i64 0, .int .i64 0, .int .i64 0, .int .i64 0, .int .i64 0] 44)).alloc (.cells #[.int .i64 0, .int .i64 0, .string ⟨#[]⟩, .slice none 0 0, .int .i64 0, .int .i64 0, .int .i64 0, .int .i64 0, .int .i64 0, .int .i64 0] 44) = W := ⟨_, rfl⟩
  have hb0 : Below w.heap.size w W0 := by rw [← hW0]; exact (((Below.refl _ w).alloc (Nat.le_refl _) _).alloc (by simp) _).alloc (by simp; omega) _
  have hC0 : Blk W0 w.heap.size 34 #[.int .i64 17, .int .i64 a, .int .i64 b, .string s, .string t, .slice pa pn pc] := by rw [← hW0]; exact ((Blk.new w _ _).alloc _).alloc _
  have hR0 : Blk W0 (w.heap.size + 1) 44 #[.int .i64 0, .int .i64 0, .string ⟨#[]⟩, .slice none 0 0, .int .i64 0, .int .i64 0, .int .i64 0, .int .i64 0, .int .i64 0, .int .i64 0] := by
    have h := (Blk.new (w.alloc (.cells #[.int .i64 17, .int .i64 a, .int .i64 b, .string s, .string t, .slice pa pn pc] 34)) 44 #[.int .i64 0, .int .i64 0, .string ⟨#[]⟩, .slice none 0 0, .int .i64 0, .int .i64 0, .int .i64 0, .int .i64 0, .int .i64 0, .int .i64 0]).alloc (.cells #[.int .i64 0, .int .i64 0, .string ⟨#[]⟩, .slice none 0 0, .int .i64 0, .int .i64 0, .int .i64 0, .int .i64 0, .int .i64 0, .int .i64 0] 44)
    rw [World.size_alloc, hW0] at h
    exact h
  have hr0 : Blk W0 (w.heap.size + 2) 44 #[.int .i64 0, .int .i64 0, .string ⟨#[]⟩, .slice none 0 0, .int .i64 0, .int .i64 0, .int .i64 0, .int .i64 0, .int .i64 0, .int .i64 0] := by
    have h := Blk.new ((w.alloc (.cells #[.int .i64 17, .int .i64 a, .int .i64 b, .string s, .string t, .slice pa pn pc] 34)).alloc (.cells #[.int .i64 0, .int .i64 0, .string ⟨#[]⟩, .slice none 0 0, .int .i64 0, .int .i64 0, .int .i64 0, .int .i64 0, .int .i64 0, .int .i64 0] 44)) 44 #[.int .i64 0, .int .i64 0, .string ⟨#[]⟩, .slice none 0 0, .int .i64 0, .int .i64 0, .int .i64 0, .int .i64 0, .int .i64 0, .int .i64 0]
    rw [World.size_alloc, World.size_alloc, hW0] at h
    exact h
  have a1 : W0.cell? ⟨w.heap.size, 1, none⟩ = some (.int .i64 a) := hC0.cell 1
  have a2 : W0.cell? ⟨w.heap.size, 2, none⟩ = some (.int .i64 b) := hC0.cell 2
  have a3 : W0.cell? ⟨w.heap.size, 3, none⟩ = some (.string s) := hC0.cell 3
  have a4 : W0.cell? ⟨w.heap.size, 4, none⟩ = some (.string t) := hC0.cell 4
  have a5 : W0.cell? ⟨w.heap.size, 5, none⟩ = some (.slice pa pn pc) := hC0.cell 5
  have hb0H := Lib.hid hb0
  have hR0H := Lib.hid hR0
  have hr0H := Lib.hid hr0
  have hC0H := Lib.hid hC0
  have p3 : W0.cell? ⟨pb, 3, none⟩ = some (.int .i64 P.dir) := (hBH.out.keep (hb0.block _ hBH.out.lt)).cell 3
  have p4 : W0.cell? ⟨pb, 4, none⟩ = some (.int .i64 P.mask) := (hBH.out.keep (hb0.block _ hBH.out.lt)).cell 4
  have q0 : W0.cell? ⟨q, 0, none⟩ = some (.pointer (some ⟨fp, 0, none⟩)) := (hb0.cell (p := ⟨q, 0, none⟩) hql).trans hq0
  have p3d : W0.drew.cell? ⟨pb, 3, none⟩ = some (.int .i64 P.dir) := p3
  have p4d : W0.drew.cell? ⟨pb, 4, none⟩ = some (.int .i64 P.mask) := p4
  have q0d : W0.drew.cell? ⟨q, 0, none⟩ = some (.pointer (some ⟨fp, 0, none⟩)) := q0
  have a1d : W0.drew.cell? ⟨w.heap.size, 1, none⟩ = some (.int .i64 a) := a1
  have a3d : W0.drew.cell? ⟨w.heap.size, 3, none⟩ = some (.string s) := a3
  have a4d : W0.drew.cell? ⟨w.heap.size, 4, none⟩ = some (.string t) := a4
  have hm2 := Lib.hid (hinH.out W0.drew hb0H.out.drew)
  have hS3 : Hid (∀ Z, KP (AllX B) W0.drew K M Z q (setF K f') → Z.cell? ⟨q, 0, none⟩ = some (.pointer (some ⟨fp, 0, none⟩)) ∧ Z.cell? ⟨pb, 3, none⟩ = some (.int .i64 P.dir) ∧ Z.cell? ⟨pb, 4, none⟩ = some (.int .i64 P.mask) ∧ Z.cell? ⟨w.heap.size, 1, none⟩ = some (.int .i64 a) ∧ Z.cell? ⟨w.heap.size, 3, none⟩ = some (.string s) ∧ Z.cell? ⟨w.heap.size, 4, none⟩ = some (.string t)) := Lib.hid (fun Z hZ => by
    have hsee := kp_see hZ hnr (P1 := P) (show ask (setF K f').procs n = some P from hPH.out)
    rw [hpbH.out, hfpH.out] at hsee
    have hCZ := hC0H.out.keep (kp_keep hH.out (kp_from (Below.refl W0.heap.size W0).drew hZ) (by omega) hC0H.out.lt)
    exact ⟨hsee.1, hsee.2.cell 3, hsee.2.cell 4, hCZ.cell 1, hCZ.cell 3, hCZ.cell 4⟩)
  rw [hW0]
  clear hb0 hC0 hR0 hr0 hW0
  go_region_held3 (fun Z => Z.cell? ⟨q, 0, none⟩ = some (.pointer (some ⟨fp, 0, none⟩)) ∧ Z.cell? ⟨pb, 3, none⟩ = some (.int .i64 P.dir) ∧ Z.cell? ⟨pb, 4, none⟩ = some (.int .i64 P.mask) ∧ Z.cell? ⟨w.heap.size, 1, none⟩ = some (.int .i64 a) ∧ Z.cell? ⟨w.heap.size, 3, none⟩ = some (.string s) ∧ Z.cell? ⟨w.heap.size, 4, none⟩ = some (.string t)) (first | exact ⟨q0, p3, p4, a1, a3, a4⟩ | exact ⟨q0d, p3d, p4d, a1d, a3d, a4d⟩ | exact hS3.out _ hk3H.out | go_keep | fail)
    ((first
    | (go_at_call 151; refine hm2.out.mono ?_; rintro e w3 ⟨rfl, hk3⟩; have hk3H := Lib.hid hk3; clear hk3)
    | fail))
  all_goals
    have hkp3 : KP (AllX B) W0 K M w3 q (setF K f') := (kp_from (Below.refl W0.heap.size W0).drew hk3H.out)
    have hR3 := hR0H.out.keep (kp_keep hH.out hkp3 (by omega) hR0H.out.lt)
    have hr3 := hr0H.out.keep (kp_keep hH.out hkp3 (by omega) hr0H.out.lt)
    have rc0 : w3.cell? ⟨w.heap.size + 1, 0, none⟩ = some (.int .i64 0) := hR3.cell 0
    have rf0 : w3.frozen? ⟨w.heap.size + 1, 0, none⟩ = false := hR3.frozen 0
    have rc1 : w3.cell? ⟨w.heap.size + 1, 1, none⟩ = some (.int .i64 0) := hR3.cell 1
    have rf1 : w3.frozen? ⟨w.heap.size + 1, 1, none⟩ = false := hR3.frozen 1
    have rc2 : w3.cell? ⟨w.heap.size + 1, 2, none⟩ = some (.string ⟨#[]⟩) := hR3.cell 2
    have rf2 : w3.frozen? ⟨w.heap.size + 1, 2, none⟩ = false := hR3.frozen 2
    have rc3 : w3.cell? ⟨w.heap.size + 1, 3, none⟩ = some (.slice none 0 0) := hR3.cell 3
    have rf3 : w3.frozen? ⟨w.heap.size + 1, 3, none⟩ = false := hR3.frozen 3
    have rc4 : w3.cell? ⟨w.heap.size + 1, 4, none⟩ = some (.int .i64 0) := hR3.cell 4
    have rf4 : w3.frozen? ⟨w.heap.size + 1, 4, none⟩ = false := hR3.frozen 4
    have rc5 : w3.cell? ⟨w.heap.size + 1, 5, none⟩ = some (.int .i64 0) := hR3.cell 5
    have rf5 : w3.frozen? ⟨w.heap.size + 1, 5, none⟩ = false := hR3.frozen 5
    have rc6 : w3.cell? ⟨w.heap.size + 1, 6, none⟩ = some (.int .i64 0) := hR3.cell 6
    have rf6 : w3.frozen? ⟨w.heap.size + 1, 6, none⟩ = false := hR3.frozen 6
    have rc7 : w3.cell? ⟨w.heap.size + 1, 7, none⟩ = some (.int .i64 0) := hR3.cell 7
    have rf7 : w3.frozen? ⟨w.heap.size + 1, 7, none⟩ = false := hR3.frozen 7
    have rc8 : w3.cell? ⟨w.heap.size + 1, 8, none⟩ = some (.int .i64 0) := hR3.cell 8
    have rf8 : w3.frozen? ⟨w.heap.size + 1, 8, none⟩ = false := hR3.frozen 8
    have rc9 : w3.cell? ⟨w.heap.size + 1, 9, none⟩ = some (.int .i64 0) := hR3.cell 9
    have rf9 : w3.frozen? ⟨w.heap.size + 1, 9, none⟩ = false := hR3.frozen 9
    have uc0 : w3.cell? ⟨w.heap.size + 2, 0, none⟩ = some (.int .i64 0) := hr3.cell 0
    have uf0 : w3.frozen? ⟨w.heap.size + 2, 0, none⟩ = false := hr3.frozen 0
    have uc1 : w3.cell? ⟨w.heap.size + 2, 1, none⟩ = some (.int .i64 0) := hr3.cell 1
    have uf1 : w3.frozen? ⟨w.heap.size + 2, 1, none⟩ = false := hr3.frozen 1
    have uc2 : w3.cell? ⟨w.heap.size + 2, 2, none⟩ = some (.string ⟨#[]⟩) := hr3.cell 2
    have uf2 : w3.frozen? ⟨w.heap.size + 2, 2, none⟩ = false := hr3.frozen 2
    have uc3 : w3.cell? ⟨w.heap.size + 2, 3, none⟩ = some (.slice none 0 0) := hr3.cell 3
    have uf3 : w3.frozen? ⟨w.heap.size + 2, 3, none⟩ = false := hr3.frozen 3
    have uc4 : w3.cell? ⟨w.heap.size + 2, 4, none⟩ = some (.int .i64 0) := hr3.cell 4
    have uf4 : w3.frozen? ⟨w.heap.size + 2, 4, none⟩ = false := hr3.frozen 4
    have uc5 : w3.cell? ⟨w.heap.size + 2, 5, none⟩ = some (.int .i64 0) := hr3.cell 5
    have uf5 : w3.frozen? ⟨w.heap.size + 2, 5, none⟩ = false := hr3.frozen 5
    have uc6 : w3.cell? ⟨w.heap.size + 2, 6, none⟩ = some (.int .i64 0) := hr3.cell 6
    have uf6 : w3.frozen? ⟨w.heap.size + 2, 6, none⟩ = false := hr3.frozen 6
    have uc7 : w3.cell? ⟨w.heap.size + 2, 7, none⟩ = some (.int .i64 0) := hr3.cell 7
    have uf7 : w3.frozen? ⟨w.heap.size + 2, 7, none⟩ = false := hr3.frozen 7
    have uc8 : w3.cell? ⟨w.heap.size + 2, 8, none⟩ = some (.int .i64 0) := hr3.cell 8
    have uf8 : w3.frozen? ⟨w.heap.size + 2, 8, none⟩ = false := hr3.frozen 8
    have uc9 : w3.cell? ⟨w.heap.size + 2, 9, none⟩ = some (.int .i64 0) := hr3.cell 9
    have uf9 : w3.frozen? ⟨w.heap.size + 2, 9, none⟩ = false := hr3.frozen 9
    have hkpH := Lib.hid hkp3
    have hR3H := Lib.hid hR3
    clear hR3 hr3 hkp3 q0 p3 p4 a1 a3 a4 q0d p3d p4d a1d a3d a4d
    go_wp2_with fail
    (try simp only [Exit.inBlock, Exit.then])
    refine bodyPost_ret (results_cell_row2 rfl _ _ (w.heap.size + 1) 44 _ _ rfl (put10 hR3H.out (.int .i64 0) (.int .i64 0) (.string ⟨#[]⟩) (.slice none 0 0) (.int .i64 0) (.int .i64 0) (.int .i64 0) (.int .i64 0) (.int .i64 0) (.int .i64 0)) Tryz.underlying44 rfl (by kernel_rfl)) rfl ?_
    exact ⟨rfl, kp_end hH.out hb0H.out hkpH.out (frm10 (Frm.refl _ _) (.inl (by show w.heap.size ≤ w.heap.size + 1 ∧ w.heap.size + 1 < _; have := hR0H.out.lt; omega)) _ _ _ _ _ _ _ _ _ _)⟩
set_option maxRecDepth 100000 in
set_option maxHeartbeats 4000000 in
theorem on_path (h : KerIs w B q K M) {pb : Nat} (a b : Int) (s t : ByteArray) (pa : Option Addr) (pn pc : Nat) {n : Nat} {P : Prc} (hP : ask K.procs n = some P) (hpb : M.br n = pb) (st : ByteArray) (er : Int)
    (hin : ∀ W, Below w.heap.size w W → Calls Tryz.prog 156 #[.pointer (some ⟨M.fp, 0, none⟩), .int .i64 P.dir] W fun e w' => e = .returned (.tuple #[.string st, .int .i64 er]) ∧ Below W.heap.size W w') :
    Calls Tryz.prog 90 #[.pointer (some ⟨q, 0, none⟩), .pointer (some ⟨pb, 0, none⟩), .agg #[.int .i64 25, .int .i64 a, .int .i64 b, .string s, .string t, .slice pa pn pc]] w fun e w' => e = .returned (.tuple #[.agg #[.int .i64 0, .int .i64 0, .string st, .slice none 0 0, .int .i64 0, .int .i64 0, .int .i64 0, .int .i64 0, .int .i64 0, .int .i64 0], .int .i64 er]) ∧ KP (AllX B) w K M w' q K := by
  obtain ⟨hB, _⟩ : PrcAt w (B (.proc n)) (M.br n) (M.bt n) P := h.part (.proc n) P hP
  have hnr : n ≤ K.lastR := proc_le h.num hP
  obtain ⟨hq0, hql⟩ := blk_q h
  rw [hpb] at hB
  obtain ⟨fp, hfp⟩ : ∃ fp, M.fp = fp := ⟨_, rfl⟩
  rw [hfp] at hq0 hin
  have hBH := Lib.hid hB
  have hH := Lib.hid h
  have hPH := Lib.hid hP
  have hpbH := Lib.hid hpb
  have hfpH := Lib.hid hfp
  have hinH := Lib.hid hin
  clear h hP hpb hB hfp hin
  go_enter Tryz.func90, Tryz.ntmps90
  go_upto_region 27 with fail
  obtain ⟨W0, hW0⟩ : ∃ W, ((w.alloc (.cells #[.int .i64 25, .int .i64 a, .int .i64 b, .string s, .string t, .slice pa pn pc] 34)).alloc (.cells #[.int .i64 0, .int .i64 0, .string ⟨#[]⟩, .slice none 0 0, .int .i64 0, .int .i64 0, .int .i64 0, .int .i64 0, .int .i64 0, .int .i64 0] 44)).alloc (.cells #[.int .i64 0, .int .i64 0, .string ⟨#[]⟩, .slice none 0 0, .int .i64 0, .int .i64 0, .int .i64 0, .int .i64 0, .int .i64 0, .int .i64 0] 44) = W := ⟨_, rfl⟩
  have hb0 : Below w.heap.size w W0 := by rw [← hW0]; exact (((Below.refl _ w).alloc (Nat.le_refl _) _).alloc (by simp) _).alloc (by simp; omega) _
  have hC0 : Blk W0 w.heap.size 34 #[.int .i64 25, .int .i64 a, .int .i64 b, .string s, .string t, .slice pa pn pc] := by rw [← hW0]; exact ((Blk.new w _ _).alloc _).alloc _
  have hR0 : Blk W0 (w.heap.size + 1) 44 #[.int .i64 0, .int .i64 0, .string ⟨#[]⟩, .slice none 0 0, .int .i64 0, .int .i64 0, .int .i64 0, .int .i64 0, .int .i64 0, .int .i64 0] := by
    have h := (Blk.new (w.alloc (.cells #[.int .i64 25, .int .i64 a, .int .i64 b, .string s, .string t, .slice pa pn pc] 34)) 44 #[.int .i64 0, .int .i64 0, .string ⟨#[]⟩, .slice none 0 0, .int .i64 0, .int .i64 0, .int .i64 0, .int .i64 0, .int .i64 0, .int .i64 0]).alloc (.cells #[.int .i64 0, .int .i64 0, .string ⟨#[]⟩, .slice none 0 0, .int .i64 0, .int .i64 0, .int .i64 0, .int .i64 0, .int .i64 0, .int .i64 0] 44)
    rw [World.size_alloc, hW0] at h
    exact h
  have hr0 : Blk W0 (w.heap.size + 2) 44 #[.int .i64 0, .int .i64 0, .string ⟨#[]⟩, .slice none 0 0, .int .i64 0, .int .i64 0, .int .i64 0, .int .i64 0, .int .i64 0, .int .i64 0] := by
    have h := Blk.new ((w.alloc (.cells #[.int .i64 25, .int .i64 a, .int .i64 b, .string s, .string t, .slice pa pn pc] 34)).alloc (.cells #[.int .i64 0, .int .i64 0, .string ⟨#[]⟩, .slice none 0 0, .int .i64 0, .int .i64 0, .int .i64 0, .int .i64 0, .int .i64 0, .int .i64 0] 44)) 44 #[.int .i64 0, .int .i64 0, .string ⟨#[]⟩, .slice none 0 0, .int .i64 0, .int .i64 0, .int .i64 0, .int .i64 0, .int .i64 0, .int .i64 0]
    rw [World.size_alloc, World.size_alloc, hW0] at h
    exact h
  have a1 : W0.cell? ⟨w.heap.size, 1, none⟩ = some (.int .i64 a) := hC0.cell 1
  have a2 : W0.cell? ⟨w.heap.size, 2, none⟩ = some (.int .i64 b) := hC0.cell 2
  have a3 : W0.cell? ⟨w.heap.size, 3, none⟩ = some (.string s) := hC0.cell 3
  have a4 : W0.cell? ⟨w.heap.size, 4, none⟩ = some (.string t) := hC0.cell 4
  have a5 : W0.cell? ⟨w.heap.size, 5, none⟩ = some (.slice pa pn pc) := hC0.cell 5
  have hb0H := Lib.hid hb0
  have hR0H := Lib.hid hR0
  have hr0H := Lib.hid hr0
  have hC0H := Lib.hid hC0
  have p3 : W0.cell? ⟨pb, 3, none⟩ = some (.int .i64 P.dir) := (hBH.out.keep (hb0.block _ hBH.out.lt)).cell 3
  have p4 : W0.cell? ⟨pb, 4, none⟩ = some (.int .i64 P.mask) := (hBH.out.keep (hb0.block _ hBH.out.lt)).cell 4
  have q0 : W0.cell? ⟨q, 0, none⟩ = some (.pointer (some ⟨fp, 0, none⟩)) := (hb0.cell (p := ⟨q, 0, none⟩) hql).trans hq0
  have p3d : W0.drew.cell? ⟨pb, 3, none⟩ = some (.int .i64 P.dir) := p3
  have p4d : W0.drew.cell? ⟨pb, 4, none⟩ = some (.int .i64 P.mask) := p4
  have q0d : W0.drew.cell? ⟨q, 0, none⟩ = some (.pointer (some ⟨fp, 0, none⟩)) := q0
  have a1d : W0.drew.cell? ⟨w.heap.size, 1, none⟩ = some (.int .i64 a) := a1
  have a3d : W0.drew.cell? ⟨w.heap.size, 3, none⟩ = some (.string s) := a3
  have a4d : W0.drew.cell? ⟨w.heap.size, 4, none⟩ = some (.string t) := a4
  have hm2 := Lib.hid (hinH.out W0.drew hb0H.out.drew)
  have hS3 : Hid (∀ Z, Below W0.drew.heap.size W0.drew Z → Z.cell? ⟨q, 0, none⟩ = some (.pointer (some ⟨fp, 0, none⟩)) ∧ Z.cell? ⟨pb, 3, none⟩ = some (.int .i64 P.dir) ∧ Z.cell? ⟨pb, 4, none⟩ = some (.int .i64 P.mask) ∧ Z.cell? ⟨w.heap.size, 1, none⟩ = some (.int .i64 a) ∧ Z.cell? ⟨w.heap.size, 3, none⟩ = some (.string s) ∧ Z.cell? ⟨w.heap.size, 4, none⟩ = some (.string t)) := Lib.hid (fun Z hZ => by
    have hbz : Below W0.heap.size W0 Z := (Below.refl W0.heap.size W0).drew.trans hZ
    have hBZ := (hBH.out.keep (hb0H.out.block _ hBH.out.lt)).keep (hbz.block pb (Nat.lt_of_lt_of_le hBH.out.lt hb0H.out.size))
    have hCZ := hC0H.out.keep (hbz.block _ hC0H.out.lt)
    exact ⟨(hbz.cell (p := ⟨q, 0, none⟩) (Nat.lt_of_lt_of_le hql hb0H.out.size)).trans ((hb0H.out.cell (p := ⟨q, 0, none⟩) hql).trans hq0), hBZ.cell 3, hBZ.cell 4, hCZ.cell 1, hCZ.cell 3, hCZ.cell 4⟩)
  have hS4 : Hid (∀ (Z : World) (v : Value), (Z.cell? ⟨q, 0, none⟩ = some (.pointer (some ⟨fp, 0, none⟩)) ∧ Z.cell? ⟨pb, 3, none⟩ = some (.int .i64 P.dir) ∧ Z.cell? ⟨pb, 4, none⟩ = some (.int .i64 P.mask) ∧ Z.cell? ⟨w.heap.size, 1, none⟩ = some (.int .i64 a) ∧ Z.cell? ⟨w.heap.size, 3, none⟩ = some (.string s) ∧ Z.cell? ⟨w.heap.size, 4, none⟩ = some (.string t)) → (Z.setCell ⟨w.heap.size + 1 + 1, 2, none⟩ v).cell? ⟨q, 0, none⟩ = some (.pointer (some ⟨fp, 0, none⟩)) ∧ (Z.setCell ⟨w.heap.size + 1 + 1, 2, none⟩ v).cell? ⟨pb, 3, none⟩ = some (.int .i64 P.dir) ∧ (Z.setCell ⟨w.heap.size + 1 + 1, 2, none⟩ v).cell? ⟨pb, 4, none⟩ = some (.int .i64 P.mask) ∧ (Z.setCell ⟨w.heap.size + 1 + 1, 2, none⟩ v).cell? ⟨w.heap.size, 1, none⟩ = some (.int .i64 a) ∧ (Z.setCell ⟨w.heap.size + 1 + 1, 2, none⟩ v).cell? ⟨w.heap.size, 3, none⟩ = some (.string s) ∧ (Z.setCell ⟨w.heap.size + 1 + 1, 2, none⟩ v).cell? ⟨w.heap.size, 4, none⟩ = some (.string t)) := Lib.hid (fun Z v ⟨z1, z2, z3, z4, z5, z6⟩ => by
    have hp := hBH.out.lt
    have far : ∀ (g i : Nat), g ≠ w.heap.size + 1 + 1 → (Z.setCell ⟨w.heap.size + 1 + 1, 2, none⟩ v).cell? ⟨g, i, none⟩ = Z.cell? ⟨g, i, none⟩ := fun g i hg => World.cell?_of_block (a := ⟨g, i, none⟩) (Below.heap_setCell _ _ _ g hg)
    exact ⟨(far _ _ (by omega)).trans z1, (far _ _ (by omega)).trans z2, (far _ _ (by omega)).trans z3, (far _ _ (by omega)).trans z4, (far _ _ (by omega)).trans z5, (far _ _ (by omega)).trans z6⟩)
  have x1 : ¬ q = w.heap.size + 1 + 1 := by omega
  have x2 : ¬ pb = w.heap.size + 1 + 1 := by have := hBH.out.lt; omega
  have x3 : ¬ w.heap.size = w.heap.size + 1 + 1 := by omega
  have x4 : ¬ w.heap.size + 1 + 1 = q := by omega
  have x5 : ¬ w.heap.size + 1 + 1 = pb := by have := hBH.out.lt; omega
  rw [hW0]
  clear hb0 hC0 hR0 hr0 hW0
  go_region_held3 (fun Z => Z.cell? ⟨q, 0, none⟩ = some (.pointer (some ⟨fp, 0, none⟩)) ∧ Z.cell? ⟨pb, 3, none⟩ = some (.int .i64 P.dir) ∧ Z.cell? ⟨pb, 4, none⟩ = some (.int .i64 P.mask) ∧ Z.cell? ⟨w.heap.size, 1, none⟩ = some (.int .i64 a) ∧ Z.cell? ⟨w.heap.size, 3, none⟩ = some (.string s) ∧ Z.cell? ⟨w.heap.size, 4, none⟩ = some (.string t)) (first | exact ⟨q0, p3, p4, a1, a3, a4⟩ | exact ⟨q0d, p3d, p4d, a1d, a3d, a4d⟩ | exact hS3.out _ hk3H.out | exact hS4.out _ _ (hS3.out _ hk3H.out) | fail)
    ((first
    | (go_at_call 156; refine hm2.out.mono ?_; rintro e w3 ⟨rfl, hb3⟩; have hk3H := Lib.hid hb3; clear hb3
       have hr3 := hr0H.out.keep (((Below.refl W0.heap.size W0).drew.trans hk3H.out).block _ hr0H.out.lt)
       have uz2 : w3.cell? ⟨w.heap.size + 1 + 1, 2, none⟩ = some (.string ⟨#[]⟩) := hr3.cell 2
       have ug2 : w3.frozen? ⟨w.heap.size + 1 + 1, 2, none⟩ = false := hr3.frozen 2
       clear hr3)
    | fail))
  all_goals
    have hkp3 : KP (AllX B) W0 K M w3 q K := (KP.of (hH.out.below hb0H.out) ((Below.refl W0.heap.size W0).drew.trans hk3H.out))
    have hR3 := hR0H.out.keep (kp_keep hH.out hkp3 (by omega) hR0H.out.lt)
    have hr3 := hr0H.out.keep (kp_keep hH.out hkp3 (by omega) hr0H.out.lt)
    have rc0 : w3.cell? ⟨w.heap.size + 1, 0, none⟩ = some (.int .i64 0) := hR3.cell 0
    have rf0 : w3.frozen? ⟨w.heap.size + 1, 0, none⟩ = false := hR3.frozen 0
    have rc1 : w3.cell? ⟨w.heap.size + 1, 1, none⟩ = some (.int .i64 0) := hR3.cell 1
    have rf1 : w3.frozen? ⟨w.heap.size + 1, 1, none⟩ = false := hR3.frozen 1
    have rc2 : w3.cell? ⟨w.heap.size + 1, 2, none⟩ = some (.string ⟨#[]⟩) := hR3.cell 2
    have rf2 : w3.frozen? ⟨w.heap.size + 1, 2, none⟩ = false := hR3.frozen 2
    have rc3 : w3.cell? ⟨w.heap.size + 1, 3, none⟩ = some (.slice none 0 0) := hR3.cell 3
    have rf3 : w3.frozen? ⟨w.heap.size + 1, 3, none⟩ = false := hR3.frozen 3
    have rc4 : w3.cell? ⟨w.heap.size + 1, 4, none⟩ = some (.int .i64 0) := hR3.cell 4
    have rf4 : w3.frozen? ⟨w.heap.size + 1, 4, none⟩ = false := hR3.frozen 4
    have rc5 : w3.cell? ⟨w.heap.size + 1, 5, none⟩ = some (.int .i64 0) := hR3.cell 5
    have rf5 : w3.frozen? ⟨w.heap.size + 1, 5, none⟩ = false := hR3.frozen 5
    have rc6 : w3.cell? ⟨w.heap.size + 1, 6, none⟩ = some (.int .i64 0) := hR3.cell 6
    have rf6 : w3.frozen? ⟨w.heap.size + 1, 6, none⟩ = false := hR3.frozen 6
    have rc7 : w3.cell? ⟨w.heap.size + 1, 7, none⟩ = some (.int .i64 0) := hR3.cell 7
    have rf7 : w3.frozen? ⟨w.heap.size + 1, 7, none⟩ = false := hR3.frozen 7
    have rc8 : w3.cell? ⟨w.heap.size + 1, 8, none⟩ = some (.int .i64 0) := hR3.cell 8
    have rf8 : w3.frozen? ⟨w.heap.size + 1, 8, none⟩ = false := hR3.frozen 8
    have rc9 : w3.cell? ⟨w.heap.size + 1, 9, none⟩ = some (.int .i64 0) := hR3.cell 9
    have rf9 : w3.frozen? ⟨w.heap.size + 1, 9, none⟩ = false := hR3.frozen 9
    have uc0 : w3.cell? ⟨w.heap.size + 2, 0, none⟩ = some (.int .i64 0) := hr3.cell 0
    have uf0 : w3.frozen? ⟨w.heap.size + 2, 0, none⟩ = false := hr3.frozen 0
    have uc1 : w3.cell? ⟨w.heap.size + 2, 1, none⟩ = some (.int .i64 0) := hr3.cell 1
    have uf1 : w3.frozen? ⟨w.heap.size + 2, 1, none⟩ = false := hr3.frozen 1
    have uc2 : w3.cell? ⟨w.heap.size + 2, 2, none⟩ = some (.string ⟨#[]⟩) := hr3.cell 2
    have uf2 : w3.frozen? ⟨w.heap.size + 2, 2, none⟩ = false := hr3.frozen 2
    have uc3 : w3.cell? ⟨w.heap.size + 2, 3, none⟩ = some (.slice none 0 0) := hr3.cell 3
    have uf3 : w3.frozen? ⟨w.heap.size + 2, 3, none⟩ = false := hr3.frozen 3
    have uc4 : w3.cell? ⟨w.heap.size + 2, 4, none⟩ = some (.int .i64 0) := hr3.cell 4
    have uf4 : w3.frozen? ⟨w.heap.size + 2, 4, none⟩ = false := hr3.frozen 4
    have uc5 : w3.cell? ⟨w.heap.size + 2, 5, none⟩ = some (.int .i64 0) := hr3.cell 5
    have uf5 : w3.frozen? ⟨w.heap.size + 2, 5, none⟩ = false := hr3.frozen 5
    have uc6 : w3.cell? ⟨w.heap.size + 2, 6, none⟩ = some (.int .i64 0) := hr3.cell 6
    have uf6 : w3.frozen? ⟨w.heap.size + 2, 6, none⟩ = false := hr3.frozen 6
    have uc7 : w3.cell? ⟨w.heap.size + 2, 7, none⟩ = some (.int .i64 0) := hr3.cell 7
    have uf7 : w3.frozen? ⟨w.heap.size + 2, 7, none⟩ = false := hr3.frozen 7
    have uc8 : w3.cell? ⟨w.heap.size + 2, 8, none⟩ = some (.int .i64 0) := hr3.cell 8
    have uf8 : w3.frozen? ⟨w.heap.size + 2, 8, none⟩ = false := hr3.frozen 8
    have uc9 : w3.cell? ⟨w.heap.size + 2, 9, none⟩ = some (.int .i64 0) := hr3.cell 9
    have uf9 : w3.frozen? ⟨w.heap.size + 2, 9, none⟩ = false := hr3.frozen 9
    have hkpH := Lib.hid hkp3
    have hR3H := Lib.hid hR3
    clear hR3 hr3 hkp3 q0 p3 p4 a1 a3 a4 q0d p3d p4d a1d a3d a4d
    go_wp2_with fail
    (try simp only [Exit.inBlock, Exit.then])
    refine bodyPost_ret (results_cell_row2 rfl _ _ (w.heap.size + 1) 44 _ _ rfl (put10 (hR3H.out.far (p := ⟨w.heap.size + 2, 2, none⟩) (by show w.heap.size + 1 ≠ w.heap.size + 2; omega) _) (.int .i64 0) (.int .i64 0) (.string st) (.slice none 0 0) (.int .i64 0) (.int .i64 0) (.int .i64 0) (.int .i64 0) (.int .i64 0) (.int .i64 0)) Tryz.underlying44 rfl (by kernel_rfl)) rfl ?_
    exact ⟨rfl, kp_end hH.out hb0H.out hkpH.out (frm10 ((Frm.refl _ _).setCell (a := ⟨w.heap.size + 2, 2, none⟩) (.inl (by show w.heap.size ≤ w.heap.size + 2 ∧ w.heap.size + 2 < _; have := hr0H.out.lt; omega)) _) (.inl (by show w.heap.size ≤ w.heap.size + 1 ∧ w.heap.size + 1 < _; have := hR0H.out.lt; omega)) _ _ _ _ _ _ _ _ _ _)⟩
end
end Go.Proofs.YtmilagppbepnbaaGreat.Kn
/- The laws' awake: bytes through a pipe. No condition. -/
namespace Go.Proofs.YtmilagppbepnbaaGreat.Kn
open Go.RowKit Go.PlainAid
set_option linter.unusedVariables false
set_option linter.unusedSimpArgs false
attribute [local go_sem] Oper.semAt_some
/-- Checks by Bools, for a kernel that is written out. -/
def ppB (K : Ker) : Bool := K.descs.all (fun p => match p.2.pipe with | none => true | some z => decide (z ≤ K.lastX))
theorem pp_of {K : Ker} (h : ppB K = true) : ∀ m y, ask K.descs m = some y → ∀ z, y.pipe = some z → z ≤ K.lastX := fun m y hy z hz => by
  have h1 : (match y.pipe with | none => true | some z => decide (z ≤ K.lastX)) = true := List.all_eq_true.1 h _ (ask_mem hy)
  rw [hz] at h1
  exact of_decide_eq_true h1
def kidB (K : Ker) (P : Prc) : Bool := (List.range 32).all (fun i => !(P.tab i).tk || (decide (0 ≤ (P.tab i).x) && (match ask K.descs (P.tab i).x.toNat with | some D => decide (-1000000 ≤ D.refs) && decide (D.refs ≤ 900000) | none => false)))
theorem kid_of {K : Ker} {P : Prc} (h : kidB K P = true) : ∀ i, i < 32 → (P.tab i).tk = true → ∃ m : Nat, (P.tab i).x = m ∧ ∃ D, ask K.descs m = some D ∧ -1000000 ≤ D.refs ∧ D.refs ≤ 900000 := fun i hi ht => by
  have h1 := List.all_eq_true.1 h i (List.mem_range.2 hi)
  rw [ht, Bool.not_true, Bool.false_or, Bool.and_eq_true] at h1
  obtain ⟨h2, h3⟩ := h1
  have h4 := of_decide_eq_true h2
  refine ⟨(P.tab i).x.toNat, by omega, ?_⟩
  cases hk : ask K.descs (P.tab i).x.toNat with
  | none => rw [hk] at h3; cases h3
  | some D =>
    rw [hk] at h3
    dsimp only at h3
    rw [Bool.and_eq_true] at h3
    exact ⟨D, rfl, of_decide_eq_true h3.1, of_decide_eq_true h3.2⟩
def pOf (K : Ker) (n : Nat) : Prc := (ask K.procs n).getD prc0
def dOf (K : Ker) (m : Nat) : Dsc := (ask K.descs m).getD ⟨0, 0, 0, 0, 0, none, ⟨#[]⟩⟩
def xOf (K : Ker) (m : Nat) : Pp.St := (ask K.pipes m).getD ⟨64, 0, 0, []⟩
def hiT : ByteArray := ⟨#[104, 105]⟩
/-- The kernels along the way. -/
def aw0 : Ker := (newKP 3).1
def aw1 : Ker := (npipeM aw0 1 (pOf aw0 1)).2.2.2
def aw2 : Ker := (forkM aw1 (pOf aw1 1)).2.2
def aw3 : Ker := setX aw2 1 ((xOf aw2 1).written hiT.data.toList)
def aw4 : Ker := setX aw3 1 ((xOf aw3 1).read 9)
theorem awk_p0 : liveM aw0 1 = some 1 ∧ ask aw0.procs 1 = some (pOf aw0 1) := ⟨by kernel_rfl, by kernel_rfl⟩
theorem awk_r1 : (npipeM aw0 1 (pOf aw0 1)).1 = 3 ∧ (npipeM aw0 1 (pOf aw0 1)).2.1 = 4 ∧ (npipeM aw0 1 (pOf aw0 1)).2.2.1 = 0 := ⟨by kernel_rfl, by kernel_rfl, by kernel_rfl⟩
theorem awk_p1 : liveM aw1 1 = some 1 ∧ ask aw1.procs 1 = some (pOf aw1 1) := ⟨by kernel_rfl, by kernel_rfl⟩
theorem awk_r2 : (forkM aw1 (pOf aw1 1)).1 = 2 ∧ (forkM aw1 (pOf aw1 1)).2.1 = 0 := ⟨by kernel_rfl, by kernel_rfl⟩
theorem awk_p2 : liveM aw2 2 = some 2 ∧ ask aw2.procs 2 = some (pOf aw2 2) ∧ writN aw2 (pOf aw2 2) 4 = some 5 ∧ ask aw2.descs 5 = some (dOf aw2 5) ∧ (dOf aw2 5).kind = 4 ∧ (dOf aw2 5).pipe = some (dOf aw2 5).n ∧ (dOf aw2 5).n = 1 ∧ ask aw2.pipes 1 = some (xOf aw2 1) ∧ (xOf aw2 1).writeErr hiT.data.toList = 0 ∧ (xOf aw2 1).waits true = false ∧ (xOf aw2 1).wrote hiT.data.toList = 2 :=
  ⟨by kernel_rfl, by kernel_rfl, by kernel_rfl, by kernel_rfl, by kernel_rfl, by kernel_rfl, by kernel_rfl, by kernel_rfl, by kernel_rfl, by kernel_rfl, by kernel_rfl⟩
theorem awk_p3 : liveM aw3 1 = some 1 ∧ ask aw3.procs 1 = some (pOf aw3 1) ∧ readN aw3 (pOf aw3 1) 3 = some 4 ∧ ask aw3.descs 4 = some (dOf aw3 4) ∧ (dOf aw3 4).kind = 3 ∧ (dOf aw3 4).pipe = some (dOf aw3 4).n ∧ (dOf aw3 4).n = 1 ∧ ask aw3.pipes 1 = some (xOf aw3 1) ∧ (xOf aw3 1).readErr 9 = 0 ∧ (xOf aw3 1).waits false = false ∧ (⟨((xOf aw3 1).got 9).toArray⟩ : ByteArray) = hiT :=
  ⟨by kernel_rfl, by kernel_rfl, by kernel_rfl, by kernel_rfl, by kernel_rfl, by kernel_rfl, by kernel_rfl, by kernel_rfl, by kernel_rfl, by kernel_rfl, by kernel_rfl⟩
theorem awk_p4 : liveM aw4 1 = some 1 ∧ ask aw4.procs 1 = some (pOf aw4 1) ∧ readN aw4 (pOf aw4 1) 3 = some 4 ∧ ask aw4.descs 4 = some (dOf aw4 4) ∧ (dOf aw4 4).kind = 3 ∧ (dOf aw4 4).pipe = some (dOf aw4 4).n ∧ (dOf aw4 4).n = 1 ∧ ask aw4.pipes 1 = some (xOf aw4 1) ∧ (xOf aw4 1).waits false = true :=
  ⟨by kernel_rfl, by kernel_rfl, by kernel_rfl, by kernel_rfl, by kernel_rfl, by kernel_rfl, by kernel_rfl, by kernel_rfl, by kernel_rfl⟩
theorem aw1_wf : WF 1 aw1.fs := hold_wf new_wf 1
section
variable {w w' : World}
/-- A kernel of the call's own; other blocks that lie beside it. -/
def OwnK (L : List (Nat × TypeId × Array Value)) (w0 w : World) (q : Nat) (K : Ker) : Prop := ∃ B M, KerIs w B q K M ∧ (∀ g, AllX B g → w0.heap.size ≤ g) ∧ Below w0.heap.size w0 w ∧ ∀ x ∈ L, Blk w x.1 x.2.1 x.2.2 ∧ ¬ AllX B x.1
theorem OwnK.below {L : List (Nat × TypeId × Array Value)} {w0 w w' : World} {q : Nat} {K : Ker} (h : OwnK L w0 w q K) (hb : Below w.heap.size w w') : OwnK L w0 w' q K := by
  obtain ⟨B, M, h1, h2, h3, h4⟩ := h
  exact ⟨B, M, h1.below hb, h2, h3.trans (hb.mono h3.size), fun x hx => ⟨(h4 x hx).1.keep (hb.block _ (h4 x hx).1.lt), (h4 x hx).2⟩⟩
theorem OwnK.res {L : List (Nat × TypeId × Array Value)} {w0 w : World} {q : Nat} {K : Ker} (h : OwnK L w0 w q K) (t : TypeId) (cs : Array Value) : OwnK ((w.heap.size, t, cs) :: L) w0 (w.alloc (.cells cs t)) q K := by
  obtain ⟨B, M, h1, h2, h3, h4⟩ := h
  have hb : Below w.heap.size w (w.alloc (.cells cs t)) := (Below.refl _ _).alloc (Nat.le_refl _) _
  refine ⟨B, M, h1.below hb, h2, h3.trans (hb.mono h3.size), fun x hx => ?_⟩
  rcases List.mem_cons.1 hx with rfl | hx
  · exact ⟨Blk.new _ _ _, fun ⟨i, hi⟩ => Nat.lt_irrefl _ (h1.lt i _ hi)⟩
  · exact ⟨(h4 x hx).1.keep (hb.block _ (h4 x hx).1.lt), (h4 x hx).2⟩
theorem OwnK.blk {L : List (Nat × TypeId × Array Value)} {w0 w : World} {q : Nat} {K : Ker} (h : OwnK L w0 w q K) {g : Nat} {t : TypeId} {cs : Array Value} (hx : (g, t, cs) ∈ L) : Blk w g t cs := by
  obtain ⟨B, M, h1, h2, h3, h4⟩ := h
  exact (h4 _ hx).1
theorem OwnK.step {L : List (Nat × TypeId × Array Value)} {w0 w w' : World} {q : Nat} {K K' : Ker} {B : Ix → Nat → Prop} {M : Mp} (h2 : ∀ g, AllX B g → w0.heap.size ≤ g) (h3 : Below w0.heap.size w0 w) (h4 : ∀ x ∈ L, Blk w x.1 x.2.1 x.2.2 ∧ ¬ AllX B x.1) (hk : KP (AllX B) w K M w' q K') : OwnK L w0 w' q K' := by
  obtain ⟨B', M', k1, k2, k3, k4, k5, k6, k7⟩ := hk
  have hs := h3.size
  refine ⟨B', M', k1, fun g hg => (k6 g hg).elim (h2 g) (fun h => by omega), h3.trans (k7.toBelow h2 hs), fun x hx => ?_⟩
  obtain ⟨h5, h6⟩ := h4 x hx
  exact ⟨h5.keep (k7.block _ h5.lt h6), fun h7 => (k6 _ h7).elim h6 (fun h8 => by have := h5.lt; omega)⟩
theorem own_call {L : List (Nat × TypeId × Array Value)} {w0 w : World} {q : Nat} {K K' : Ker} {pid : Int} {cs rs : Array Value} {v : Bool} (h : OwnK L w0 w q K) (hc : ∀ B M, KerIs w B q K M → Calls Tryz.prog 15 #[.pointer (some ⟨q, 0, none⟩), .int .i64 pid, .agg cs] w fun e w' => e = .returned (.tuple #[.agg rs, .bool v]) ∧ KP (AllX B) w K M w' q K') :
    Calls Tryz.prog 15 #[.pointer (some ⟨q, 0, none⟩), .int .i64 pid, .agg cs] w fun e w' => e = .returned (.tuple #[.agg rs, .bool v]) ∧ OwnK L w0 w' q K' := by
  obtain ⟨B, M, h1, h2, h3, h4⟩ := h
  exact (hc B M h1).mono fun e w' ⟨he, hk⟩ => ⟨he, OwnK.step h2 h3 h4 hk⟩
theorem own_new (w : World) : Calls Tryz.prog 11 #[] w fun e w' => ∃ q, e = .returned (.pointer (some ⟨q, 0, none⟩)) ∧ OwnK [] w w' q aw0 :=
  (new_k w).mono fun e w' ⟨q, he, B, M, h1, h2, h3⟩ => ⟨q, he, B, M, h1, h2, h3, fun x hx => by cases hx⟩
set_option maxRecDepth 100000 in
set_option maxHeartbeats 4000000 in
theorem awake_any (w : World) : Calls Tryz.prog 10 #[] w fun e w' => e = .returned (.bool true) ∧ Below w.heap.size w w' := by
  have j1 : Hid (∀ (L : List (Nat × TypeId × Array Value)) (W : World) (q : Nat), OwnK L w W q aw0 → Calls Tryz.prog 15 #[.pointer (some ⟨q, 0, none⟩), .int .i64 1, .agg #[.int .i64 7, .int .i64 0, .int .i64 0, .string ⟨#[]⟩, .string ⟨#[]⟩, .slice none 0 0]] W fun e w' => e = .returned (.tuple #[.agg #[.int .i64 3, .int .i64 4, .string ⟨#[]⟩, .slice none 0 0, .int .i64 0, .int .i64 0, .int .i64 0, .int .i64 0, .int .i64 0, .int .i64 0], .bool false]) ∧ OwnK L w w' q aw1) := Lib.hid (fun L W q h => own_call h (fun B M k => by
    have := c_pipe k awk_p0.1 awk_p0.2 (by decide +kernel) (by decide +kernel) (pp_of (by kernel_rfl)) awk_r1.2.2 0 0 ⟨#[]⟩ ⟨#[]⟩ none 0 0
    rw [awk_r1.1, awk_r1.2.1] at this
    exact this))
  have j2 : Hid (∀ (L : List (Nat × TypeId × Array Value)) (W : World) (q : Nat), OwnK L w W q aw1 → Calls Tryz.prog 15 #[.pointer (some ⟨q, 0, none⟩), .int .i64 1, .agg #[.int .i64 8, .int .i64 0, .int .i64 0, .string ⟨#[]⟩, .string ⟨#[]⟩, .slice none 0 0]] W fun e w' => e = .returned (.tuple #[.agg #[.int .i64 2, .int .i64 0, .string ⟨#[]⟩, .slice none 0 0, .int .i64 0, .int .i64 0, .int .i64 0, .int .i64 0, .int .i64 0, .int .i64 0], .bool false]) ∧ OwnK L w w' q aw2) := Lib.hid (fun L W q h => own_call h (fun B M k => by
    have := c_fork k awk_p1.1 awk_p1.2 aw1_wf (by omega) (by decide +kernel) (kid_of (by kernel_rfl)) awk_r2.2 0 0 ⟨#[]⟩ ⟨#[]⟩ none 0 0
    rw [awk_r2.1] at this
    exact this))
  have j3 : Hid (∀ (L : List (Nat × TypeId × Array Value)) (W : World) (q : Nat), OwnK L w W q aw2 → Calls Tryz.prog 15 #[.pointer (some ⟨q, 0, none⟩), .int .i64 2, .agg #[.int .i64 2, .int .i64 4, .int .i64 0, .string ⟨#[104, 105]⟩, .string ⟨#[]⟩, .slice none 0 0]] W fun e w' => e = .returned (.tuple #[.agg #[.int .i64 2, .int .i64 0, .string ⟨#[]⟩, .slice none 0 0, .int .i64 0, .int .i64 0, .int .i64 0, .int .i64 0, .int .i64 0, .int .i64 0], .bool false]) ∧ OwnK L w w' q aw3) := Lib.hid (fun L W q h => own_call h (fun B M k => by
    obtain ⟨a1, a2, a3, a4, a5, a6, a7, a8, a9, a10, a11⟩ := awk_p2
    have := c_write_pipe k a1 a2 4 a3 a4 a5 a6 (by rw [a7]; exact a8) hiT (by unfold maxLen; decide) (Pp.isEmpty_no hiT (by decide)) a9 a10 0 ⟨#[]⟩ none 0 0
    rw [a11, a7] at this
    exact this))
  have j4 : Hid (∀ (L : List (Nat × TypeId × Array Value)) (W : World) (q : Nat), OwnK L w W q aw3 → Calls Tryz.prog 15 #[.pointer (some ⟨q, 0, none⟩), .int .i64 1, .agg #[.int .i64 1, .int .i64 3, .int .i64 9, .string ⟨#[]⟩, .string ⟨#[]⟩, .slice none 0 0]] W fun e w' => e = .returned (.tuple #[.agg #[.int .i64 0, .int .i64 0, .string ⟨#[104, 105]⟩, .slice none 0 0, .int .i64 0, .int .i64 0, .int .i64 0, .int .i64 0, .int .i64 0, .int .i64 0], .bool false]) ∧ OwnK L w w' q aw4) := Lib.hid (fun L W q h => own_call h (fun B M k => by
    obtain ⟨a1, a2, a3, a4, a5, a6, a7, a8, a9, a10, a11⟩ := awk_p3
    have := c_read_pipe k a1 a2 3 a3 a4 a5 a6 (by rw [a7]; exact a8) 9 (by decide) (by decide) a9 a10 ⟨#[]⟩ ⟨#[]⟩ none 0 0
    rw [a11, a7] at this
    exact this))
  have j5 : Hid (∀ (L : List (Nat × TypeId × Array Value)) (W : World) (q : Nat), OwnK L w W q aw4 → Calls Tryz.prog 15 #[.pointer (some ⟨q, 0, none⟩), .int .i64 1, .agg #[.int .i64 1, .int .i64 3, .int .i64 9, .string ⟨#[]⟩, .string ⟨#[]⟩, .slice none 0 0]] W fun e w' => e = .returned (.tuple #[.agg #[.int .i64 0, .int .i64 0, .string ⟨#[]⟩, .slice none 0 0, .int .i64 0, .int .i64 0, .int .i64 0, .int .i64 0, .int .i64 0, .int .i64 0], .bool true]) ∧ OwnK L w w' q aw4) := Lib.hid (fun L W q h => by
    obtain ⟨a1, a2, a3, a4, a5, a6, a7, a8, a9⟩ := awk_p4
    have h' := h
    obtain ⟨B, M, k, h2, h3, h4⟩ := h'
    have := c_read_wait k a1 a2 3 a3 a4 a5 a6 (by rw [a7]; exact a8) 9 (by decide) a9 ⟨#[]⟩ ⟨#[]⟩ none 0 0
    exact this.mono fun e w' ⟨he, hb⟩ => ⟨he, h.below hb⟩)
  go_enter Tryz.func10, Tryz.ntmps10
  go_upto_region 2 with (go_at_call 11; refine (own_new _).mono ?_; rintro e w1 ⟨q, rfl, hO⟩; have hO1 := Lib.hid hO; clear hO)
  go_upto_region 3 with (go_at_call 15; refine (j1.out _ _ _ hO1.out).mono ?_; rintro e w2 ⟨rfl, hO⟩; have hP := Lib.hid hO; clear hO)
  have hO2 := Lib.hid (hP.out.res 44 #[.int .i64 3, .int .i64 4, .string ⟨#[]⟩, .slice none 0 0, .int .i64 0, .int .i64 0, .int .i64 0, .int .i64 0, .int .i64 0, .int .i64 0])
  obtain ⟨r1, hr1⟩ : ∃ r, w2.heap.size = r := ⟨_, rfl⟩
  obtain ⟨V1, hV1⟩ : ∃ V, w2.alloc (.cells #[.int .i64 3, .int .i64 4, .string ⟨#[]⟩, .slice none 0 0, .int .i64 0, .int .i64 0, .int .i64 0, .int .i64 0, .int .i64 0, .int .i64 0] 44) = V := ⟨_, rfl⟩
  rw [hV1, hr1] at hO2
  rw [hV1, hr1]
  clear hV1 hr1 hP
  go_upto_region 4 with (go_at_call 15; refine (j2.out _ _ _ hO2.out).mono ?_; rintro e w3 ⟨rfl, hO⟩; have hP := Lib.hid hO; clear hO)
  have hO3 := Lib.hid (hP.out.res 44 #[.int .i64 2, .int .i64 0, .string ⟨#[]⟩, .slice none 0 0, .int .i64 0, .int .i64 0, .int .i64 0, .int .i64 0, .int .i64 0, .int .i64 0])
  obtain ⟨r2, hr2⟩ : ∃ r, w3.heap.size = r := ⟨_, rfl⟩
  obtain ⟨V2, hV2⟩ : ∃ V, w3.alloc (.cells #[.int .i64 2, .int .i64 0, .string ⟨#[]⟩, .slice none 0 0, .int .i64 0, .int .i64 0, .int .i64 0, .int .i64 0, .int .i64 0, .int .i64 0] 44) = V := ⟨_, rfl⟩
  rw [hV2, hr2] at hO3
  rw [hV2, hr2]
  clear hV2 hr2 hP
  go_upto_region 5 with (go_at_call 15; refine (j3.out _ _ _ hO3.out).mono ?_; rintro e w4 ⟨rfl, hO⟩; have hP := Lib.hid hO; clear hO)
  have hO4 := Lib.hid (hP.out.res 44 #[.int .i64 2, .int .i64 0, .string ⟨#[]⟩, .slice none 0 0, .int .i64 0, .int .i64 0, .int .i64 0, .int .i64 0, .int .i64 0, .int .i64 0])
  obtain ⟨r3, hr3⟩ : ∃ r, w4.heap.size = r := ⟨_, rfl⟩
  obtain ⟨V3, hV3⟩ : ∃ V, w4.alloc (.cells #[.int .i64 2, .int .i64 0, .string ⟨#[]⟩, .slice none 0 0, .int .i64 0, .int .i64 0, .int .i64 0, .int .i64 0, .int .i64 0, .int .i64 0] 44) = V := ⟨_, rfl⟩
  rw [hV3, hr3] at hO4
  rw [hV3, hr3]
  clear hV3 hr3 hP
  go_upto_region 6 with (go_at_call 15; refine (j4.out _ _ _ hO4.out).mono ?_; rintro e w5 ⟨rfl, hO⟩; have hP := Lib.hid hO; clear hO)
  have hO5 := Lib.hid (hP.out.res 44 #[.int .i64 0, .int .i64 0, .string ⟨#[104, 105]⟩, .slice none 0 0, .int .i64 0, .int .i64 0, .int .i64 0, .int .i64 0, .int .i64 0, .int .i64 0])
  obtain ⟨r4, hr4⟩ : ∃ r, w5.heap.size = r := ⟨_, rfl⟩
  obtain ⟨V4, hV4⟩ : ∃ V, w5.alloc (.cells #[.int .i64 0, .int .i64 0, .string ⟨#[104, 105]⟩, .slice none 0 0, .int .i64 0, .int .i64 0, .int .i64 0, .int .i64 0, .int .i64 0, .int .i64 0] 44) = V := ⟨_, rfl⟩
  rw [hV4, hr4] at hO5
  rw [hV4, hr4]
  clear hV4 hr4 hP
  go_upto_region 7 with (go_at_call 15; refine (j5.out _ _ _ hO5.out).mono ?_; rintro e w6 ⟨rfl, hO⟩; have hP := Lib.hid hO; clear hO)
  have hO6 := Lib.hid (hP.out.res 44 #[.int .i64 0, .int .i64 0, .string ⟨#[]⟩, .slice none 0 0, .int .i64 0, .int .i64 0, .int .i64 0, .int .i64 0, .int .i64 0, .int .i64 0])
  obtain ⟨r5, hr5⟩ : ∃ r, w6.heap.size = r := ⟨_, rfl⟩
  obtain ⟨V5, hV5⟩ : ∃ V, w6.alloc (.cells #[.int .i64 0, .int .i64 0, .string ⟨#[]⟩, .slice none 0 0, .int .i64 0, .int .i64 0, .int .i64 0, .int .i64 0, .int .i64 0, .int .i64 0] 44) = V := ⟨_, rfl⟩
  rw [hV5, hr5] at hO6
  rw [hV5, hr5]
  clear hV5 hr5 hP
  have b1 := hO6.out.blk (g := r1) (t := 44) (cs := #[.int .i64 3, .int .i64 4, .string ⟨#[]⟩, .slice none 0 0, .int .i64 0, .int .i64 0, .int .i64 0, .int .i64 0, .int .i64 0, .int .i64 0]) (by simp)
  have b2 := hO6.out.blk (g := r2) (t := 44) (cs := #[.int .i64 2, .int .i64 0, .string ⟨#[]⟩, .slice none 0 0, .int .i64 0, .int .i64 0, .int .i64 0, .int .i64 0, .int .i64 0, .int .i64 0]) (by simp)
  have b3 := hO6.out.blk (g := r3) (t := 44) (cs := #[.int .i64 2, .int .i64 0, .string ⟨#[]⟩, .slice none 0 0, .int .i64 0, .int .i64 0, .int .i64 0, .int .i64 0, .int .i64 0, .int .i64 0]) (by simp)
  have b4 := hO6.out.blk (g := r4) (t := 44) (cs := #[.int .i64 0, .int .i64 0, .string ⟨#[104, 105]⟩, .slice none 0 0, .int .i64 0, .int .i64 0, .int .i64 0, .int .i64 0, .int .i64 0, .int .i64 0]) (by simp)
  have y1 : V5.cell? ⟨r1, 0, none⟩ = some (.int .i64 3) := b1.cell 0
  have y2 : V5.cell? ⟨r1, 1, none⟩ = some (.int .i64 4) := b1.cell 1
  have y3 : V5.cell? ⟨r2, 0, none⟩ = some (.int .i64 2) := b2.cell 0
  have y4 : V5.cell? ⟨r3, 0, none⟩ = some (.int .i64 2) := b3.cell 0
  have y5 : V5.cell? ⟨r4, 2, none⟩ = some (.string ⟨#[104, 105]⟩) := b4.cell 2
  clear b1 b2 b3 b4 j1 j2 j3 j4 j5
  go_wp2_with fail
  go_ret
  obtain ⟨B, M, _, _, h3, _⟩ := hO6.out
  exact ⟨rfl, h3⟩
end
end Go.Proofs.YtmilagppbepnbaaGreat.Kn
