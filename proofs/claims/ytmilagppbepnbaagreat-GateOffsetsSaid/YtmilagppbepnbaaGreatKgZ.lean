/- The kernel's gate: answer, whatever the inner call does. Condition: the kernel lies as stated. -/
import Derived.Test.YtmilagppbepnbaaGreatKgY
namespace Go.Proofs.YtmilagppbepnbaaGreat.Kn
open Go.RowKit Go.PlainAid
set_option linter.unusedVariables false
set_option linter.unusedSimpArgs false
attribute [local go_sem] Oper.semAt_some
section
variable {w w' w3 w4 : World} {B : Ix → Nat → Prop} {q : Nat} {K K' : Ker} {M : Mp} {c : Nat}
set_option maxRecDepth 100000 in
set_option maxHeartbeats 4000000 in
theorem answer_1 (h : KerIs w B q K M) {pb : Nat} (a b : Int) (s t : ByteArray) (pa : Option Addr) (pn pc : Nat) (n1 n2 : Int) (st : ByteArray) (la : Option Addr) (ln lc : Nat) (x0 x1 x2 x3 x4 er : Int)
    (hin : ∀ W, Below w.heap.size w W → Calls Tryz.prog 89 #[.pointer (some ⟨q, 0, none⟩), .pointer (some ⟨pb, 0, none⟩), .agg #[.int .i64 1, .int .i64 a, .int .i64 b, .string s, .string t, .slice pa pn pc]] W fun e w' => e = .returned (.tuple #[.agg #[.int .i64 n1, .int .i64 n2, .string st, .slice la ln lc, .int .i64 x0, .int .i64 x1, .int .i64 x2, .int .i64 x3, .int .i64 x4, .int .i64 0], .int .i64 er]) ∧ KP (AllX B) W K M w' q K') :
    Calls Tryz.prog 48 #[.pointer (some ⟨q, 0, none⟩), .pointer (some ⟨pb, 0, none⟩), .agg #[.int .i64 1, .int .i64 a, .int .i64 b, .string s, .string t, .slice pa pn pc]] w fun e w' => e = .returned (.tuple #[.agg #[.int .i64 n1, .int .i64 n2, .string st, .slice la ln lc, .int .i64 x0, .int .i64 x1, .int .i64 x2, .int .i64 x3, .int .i64 x4, .int .i64 0], .int .i64 er]) ∧ KP (AllX B) w K M w' q K' := by
  have hinH := Lib.hid hin
  have hH := Lib.hid h
  clear h hin
  go_enter Tryz.func48, Tryz.ntmps48
  go_upto_region 12 with fail
  obtain ⟨W0, hW0⟩ : ∃ W, (w.alloc (.cells #[.int .i64 1, .int .i64 a, .int .i64 b, .string s, .string t, .slice pa pn pc] 34)).alloc (.cells #[.int .i64 0, .int .i64 0, .string ⟨#[]⟩, .slice none 0 0, .int .i64 0, .int .i64 0, .int .i64 0, .int .i64 0, .int .i64 0, .int .i64 0] 44) = W := ⟨_, rfl⟩
  have hb0 : Below w.heap.size w W0 := by rw [← hW0]; exact ((Below.refl _ w).alloc (Nat.le_refl _) _).alloc (by simp) _
  have hC0 : Blk W0 w.heap.size 34 #[.int .i64 1, .int .i64 a, .int .i64 b, .string s, .string t, .slice pa pn pc] := by rw [← hW0]; exact (Blk.new w _ _).alloc _
  have hR0 : Blk W0 (w.heap.size + 1) 44 #[.int .i64 0, .int .i64 0, .string ⟨#[]⟩, .slice none 0 0, .int .i64 0, .int .i64 0, .int .i64 0, .int .i64 0, .int .i64 0, .int .i64 0] := by
    have h := Blk.new (w.alloc (.cells #[.int .i64 1, .int .i64 a, .int .i64 b, .string s, .string t, .slice pa pn pc] 34)) 44 #[.int .i64 0, .int .i64 0, .string ⟨#[]⟩, .slice none 0 0, .int .i64 0, .int .i64 0, .int .i64 0, .int .i64 0, .int .i64 0, .int .i64 0]
    rw [World.size_alloc, hW0] at h
    exact h
  have a0 : W0.cell? ⟨w.heap.size, 0, none⟩ = some (.int .i64 1) := hC0.cell 0
  have a1 : W0.cell? ⟨w.heap.size, 1, none⟩ = some (.int .i64 a) := hC0.cell 1
  have a2 : W0.cell? ⟨w.heap.size, 2, none⟩ = some (.int .i64 b) := hC0.cell 2
  have a3 : W0.cell? ⟨w.heap.size, 3, none⟩ = some (.string s) := hC0.cell 3
  have a4 : W0.cell? ⟨w.heap.size, 4, none⟩ = some (.string t) := hC0.cell 4
  have a5 : W0.cell? ⟨w.heap.size, 5, none⟩ = some (.slice pa pn pc) := hC0.cell 5
  have hb0H := Lib.hid hb0
  have hR0H := Lib.hid hR0
  rw [hW0]
  clear hb0 hC0 hR0 hW0
  go_wp2_with (first
    | (go_at_call 89; refine (hinH.out W0 hb0H.out).mono ?_; rintro e w3 ⟨rfl, hk3⟩
       have hR3 := hR0H.out.keep (kp_keep hH.out hk3 (by omega) hR0H.out.lt)
       have rc0 : w3.cell? ⟨w.heap.size + 1, 0, none⟩ = some (.int .i64 0) := hR3.cell 0
       have rf0 : w3.frozen? ⟨w.heap.size + 1, 0, none⟩ = false := hR3.frozen 0
       have rc1 : w3.cell? ⟨w.heap.size + 1, 1, none⟩ = some (.int .i64 0) := hR3.cell 1
       have rf1 : w3.frozen? ⟨w.heap.size + 1, 1, none⟩ = false := hR3.frozen 1
       have rc2 : w3.cell? ⟨w.heap.size + 1, 2, none⟩ = some (.string ⟨#[]⟩) := hR3.cell 2
       have rf2 : w3.frozen? ⟨w.heap.size + 1, 2, none⟩ = false := hR3.frozen 2
       have rc3 : w3.cell? ⟨w.heap.size + 1, 3, none⟩ = some (.slice none 0 0) := hR3.cell 3
       have rf3 : w3.frozen? ⟨w.heap.size + 1, 3, none⟩ = false := hR3.frozen 3
       have rc4 : w3.cell? ⟨w.heap.size + 1, 4, none⟩ = some (.int .i64 0) := hR3.cell 4
       have rf4 : w3.frozen? ⟨w.heap.size + 1, 4, none⟩ = false := hR3.frozen 4
       have rc5 : w3.cell? ⟨w.heap.size + 1, 5, none⟩ = some (.int .i64 0) := hR3.cell 5
       have rf5 : w3.frozen? ⟨w.heap.size + 1, 5, none⟩ = false := hR3.frozen 5
       have rc6 : w3.cell? ⟨w.heap.size + 1, 6, none⟩ = some (.int .i64 0) := hR3.cell 6
       have rf6 : w3.frozen? ⟨w.heap.size + 1, 6, none⟩ = false := hR3.frozen 6
       have rc7 : w3.cell? ⟨w.heap.size + 1, 7, none⟩ = some (.int .i64 0) := hR3.cell 7
       have rf7 : w3.frozen? ⟨w.heap.size + 1, 7, none⟩ = false := hR3.frozen 7
       have rc8 : w3.cell? ⟨w.heap.size + 1, 8, none⟩ = some (.int .i64 0) := hR3.cell 8
       have rf8 : w3.frozen? ⟨w.heap.size + 1, 8, none⟩ = false := hR3.frozen 8
       have rc9 : w3.cell? ⟨w.heap.size + 1, 9, none⟩ = some (.int .i64 0) := hR3.cell 9
       have rf9 : w3.frozen? ⟨w.heap.size + 1, 9, none⟩ = false := hR3.frozen 9
       have hk3H := Lib.hid hk3; have hR3H := Lib.hid hR3; clear hk3 hR3))
  (try simp only [Exit.inBlock, Exit.then])
  refine bodyPost_ret (results_cell_row2 rfl _ _ (w.heap.size + 1) 44 _ _ rfl (put10 hR3H.out (.int .i64 n1) (.int .i64 n2) (.string st) (.slice la ln lc) (.int .i64 x0) (.int .i64 x1) (.int .i64 x2) (.int .i64 x3) (.int .i64 x4) (.int .i64 0)) Tryz.underlying44 rfl (by kernel_rfl)) rfl ?_
  exact ⟨rfl, kp_end hH.out hb0H.out hk3H.out (frm10 (Frm.refl _ _) (.inl (by show w.heap.size ≤ w.heap.size + 1 ∧ w.heap.size + 1 < _; have := hR0H.out.lt; omega)) _ _ _ _ _ _ _ _ _ _)⟩
set_option maxRecDepth 100000 in
set_option maxHeartbeats 4000000 in
theorem answer_2 (h : KerIs w B q K M) {pb : Nat} (a b : Int) (s t : ByteArray) (pa : Option Addr) (pn pc : Nat) (n1 n2 : Int) (st : ByteArray) (la : Option Addr) (ln lc : Nat) (x0 x1 x2 x3 x4 er : Int)
    (hin : ∀ W, Below w.heap.size w W → Calls Tryz.prog 89 #[.pointer (some ⟨q, 0, none⟩), .pointer (some ⟨pb, 0, none⟩), .agg #[.int .i64 2, .int .i64 a, .int .i64 b, .string s, .string t, .slice pa pn pc]] W fun e w' => e = .returned (.tuple #[.agg #[.int .i64 n1, .int .i64 n2, .string st, .slice la ln lc, .int .i64 x0, .int .i64 x1, .int .i64 x2, .int .i64 x3, .int .i64 x4, .int .i64 0], .int .i64 er]) ∧ KP (AllX B) W K M w' q K') :
    Calls Tryz.prog 48 #[.pointer (some ⟨q, 0, none⟩), .pointer (some ⟨pb, 0, none⟩), .agg #[.int .i64 2, .int .i64 a, .int .i64 b, .string s, .string t, .slice pa pn pc]] w fun e w' => e = .returned (.tuple #[.agg #[.int .i64 n1, .int .i64 n2, .string st, .slice la ln lc, .int .i64 x0, .int .i64 x1, .int .i64 x2, .int .i64 x3, .int .i64 x4, .int .i64 0], .int .i64 er]) ∧ KP (AllX B) w K M w' q K' := by
  have hinH := Lib.hid hin
  have hH := Lib.hid h
  clear h hin
  go_enter Tryz.func48, Tryz.ntmps48
  go_upto_region 12 with fail
  obtain ⟨W0, hW0⟩ : ∃ W, (w.alloc (.cells #[.int .i64 2, .int .i64 a, .int .i64 b, .string s, .string t, .slice pa pn pc] 34)).alloc (.cells #[.int .i64 0, .int .i64 0, .string ⟨#[]⟩, .slice none 0 0, .int .i64 0, .int .i64 0, .int .i64 0, .int .i64 0, .int .i64 0, .int .i64 0] 44) = W := ⟨_, rfl⟩
  have hb0 : Below w.heap.size w W0 := by rw [← hW0]; exact ((Below.refl _ w).alloc (Nat.le_refl _) _).alloc (by simp) _
  have hC0 : Blk W0 w.heap.size 34 #[.int .i64 2, .int .i64 a, .int .i64 b, .string s, .string t, .slice pa pn pc] := by rw [← hW0]; exact (Blk.new w _ _).alloc _
  have hR0 : Blk W0 (w.heap.size + 1) 44 #[.int .i64 0, .int .i64 0, .string ⟨#[]⟩, .slice none 0 0, .int .i64 0, .int .i64 0, .int .i64 0, .int .i64 0, .int .i64 0, .int .i64 0] := by
    have h := Blk.new (w.alloc (.cells #[.int .i64 2, .int .i64 a, .int .i64 b, .string s, .string t, .slice pa pn pc] 34)) 44 #[.int .i64 0, .int .i64 0, .string ⟨#[]⟩, .slice none 0 0, .int .i64 0, .int .i64 0, .int .i64 0, .int .i64 0, .int .i64 0, .int .i64 0]
    rw [World.size_alloc, hW0] at h
    exact h
  have a0 : W0.cell? ⟨w.heap.size, 0, none⟩ = some (.int .i64 2) := hC0.cell 0
  have a1 : W0.cell? ⟨w.heap.size, 1, none⟩ = some (.int .i64 a) := hC0.cell 1
  have a2 : W0.cell? ⟨w.heap.size, 2, none⟩ = some (.int .i64 b) := hC0.cell 2
  have a3 : W0.cell? ⟨w.heap.size, 3, none⟩ = some (.string s) := hC0.cell 3
  have a4 : W0.cell? ⟨w.heap.size, 4, none⟩ = some (.string t) := hC0.cell 4
  have a5 : W0.cell? ⟨w.heap.size, 5, none⟩ = some (.slice pa pn pc) := hC0.cell 5
  have hb0H := Lib.hid hb0
  have hR0H := Lib.hid hR0
  rw [hW0]
  clear hb0 hC0 hR0 hW0
  go_wp2_with (first
    | (go_at_call 89; refine (hinH.out W0 hb0H.out).mono ?_; rintro e w3 ⟨rfl, hk3⟩
       have hR3 := hR0H.out.keep (kp_keep hH.out hk3 (by omega) hR0H.out.lt)
       have rc0 : w3.cell? ⟨w.heap.size + 1, 0, none⟩ = some (.int .i64 0) := hR3.cell 0
       have rf0 : w3.frozen? ⟨w.heap.size + 1, 0, none⟩ = false := hR3.frozen 0
       have rc1 : w3.cell? ⟨w.heap.size + 1, 1, none⟩ = some (.int .i64 0) := hR3.cell 1
       have rf1 : w3.frozen? ⟨w.heap.size + 1, 1, none⟩ = false := hR3.frozen 1
       have rc2 : w3.cell? ⟨w.heap.size + 1, 2, none⟩ = some (.string ⟨#[]⟩) := hR3.cell 2
       have rf2 : w3.frozen? ⟨w.heap.size + 1, 2, none⟩ = false := hR3.frozen 2
       have rc3 : w3.cell? ⟨w.heap.size + 1, 3, none⟩ = some (.slice none 0 0) := hR3.cell 3
       have rf3 : w3.frozen? ⟨w.heap.size + 1, 3, none⟩ = false := hR3.frozen 3
       have rc4 : w3.cell? ⟨w.heap.size + 1, 4, none⟩ = some (.int .i64 0) := hR3.cell 4
       have rf4 : w3.frozen? ⟨w.heap.size + 1, 4, none⟩ = false := hR3.frozen 4
       have rc5 : w3.cell? ⟨w.heap.size + 1, 5, none⟩ = some (.int .i64 0) := hR3.cell 5
       have rf5 : w3.frozen? ⟨w.heap.size + 1, 5, none⟩ = false := hR3.frozen 5
       have rc6 : w3.cell? ⟨w.heap.size + 1, 6, none⟩ = some (.int .i64 0) := hR3.cell 6
       have rf6 : w3.frozen? ⟨w.heap.size + 1, 6, none⟩ = false := hR3.frozen 6
       have rc7 : w3.cell? ⟨w.heap.size + 1, 7, none⟩ = some (.int .i64 0) := hR3.cell 7
       have rf7 : w3.frozen? ⟨w.heap.size + 1, 7, none⟩ = false := hR3.frozen 7
       have rc8 : w3.cell? ⟨w.heap.size + 1, 8, none⟩ = some (.int .i64 0) := hR3.cell 8
       have rf8 : w3.frozen? ⟨w.heap.size + 1, 8, none⟩ = false := hR3.frozen 8
       have rc9 : w3.cell? ⟨w.heap.size + 1, 9, none⟩ = some (.int .i64 0) := hR3.cell 9
       have rf9 : w3.frozen? ⟨w.heap.size + 1, 9, none⟩ = false := hR3.frozen 9
       have hk3H := Lib.hid hk3; have hR3H := Lib.hid hR3; clear hk3 hR3))
  (try simp only [Exit.inBlock, Exit.then])
  refine bodyPost_ret (results_cell_row2 rfl _ _ (w.heap.size + 1) 44 _ _ rfl (put10 hR3H.out (.int .i64 n1) (.int .i64 n2) (.string st) (.slice la ln lc) (.int .i64 x0) (.int .i64 x1) (.int .i64 x2) (.int .i64 x3) (.int .i64 x4) (.int .i64 0)) Tryz.underlying44 rfl (by kernel_rfl)) rfl ?_
  exact ⟨rfl, kp_end hH.out hb0H.out hk3H.out (frm10 (Frm.refl _ _) (.inl (by show w.heap.size ≤ w.heap.size + 1 ∧ w.heap.size + 1 < _; have := hR0H.out.lt; omega)) _ _ _ _ _ _ _ _ _ _)⟩
set_option maxRecDepth 100000 in
set_option maxHeartbeats 4000000 in
theorem answer_3 (h : KerIs w B q K M) {pb : Nat} (a b : Int) (s t : ByteArray) (pa : Option Addr) (pn pc : Nat) (n1 n2 : Int) (st : ByteArray) (la : Option Addr) (ln lc : Nat) (x0 x1 x2 x3 x4 er : Int)
    (hin : ∀ W, Below w.heap.size w W → Calls Tryz.prog 89 #[.pointer (some ⟨q, 0, none⟩), .pointer (some ⟨pb, 0, none⟩), .agg #[.int .i64 3, .int .i64 a, .int .i64 b, .string s, .string t, .slice pa pn pc]] W fun e w' => e = .returned (.tuple #[.agg #[.int .i64 n1, .int .i64 n2, .string st, .slice la ln lc, .int .i64 x0, .int .i64 x1, .int .i64 x2, .int .i64 x3, .int .i64 x4, .int .i64 0], .int .i64 er]) ∧ KP (AllX B) W K M w' q K') :
    Calls Tryz.prog 48 #[.pointer (some ⟨q, 0, none⟩), .pointer (some ⟨pb, 0, none⟩), .agg #[.int .i64 3, .int .i64 a, .int .i64 b, .string s, .string t, .slice pa pn pc]] w fun e w' => e = .returned (.tuple #[.agg #[.int .i64 n1, .int .i64 n2, .string st, .slice la ln lc, .int .i64 x0, .int .i64 x1, .int .i64 x2, .int .i64 x3, .int .i64 x4, .int .i64 0], .int .i64 er]) ∧ KP (AllX B) w K M w' q K' := by
  have hinH := Lib.hid hin
  have hH := Lib.hid h
  clear h hin
  go_enter Tryz.func48, Tryz.ntmps48
  go_upto_region 12 with fail
  obtain ⟨W0, hW0⟩ : ∃ W, (w.alloc (.cells #[.int .i64 3, .int .i64 a, .int .i64 b, .string s, .string t, .slice pa pn pc] 34)).alloc (.cells #[.int .i64 0, .int .i64 0, .string ⟨#[]⟩, .slice none 0 0, .int .i64 0, .int .i64 0, .int .i64 0, .int .i64 0, .int .i64 0, .int .i64 0] 44) = W := ⟨_, rfl⟩
  have hb0 : Below w.heap.size w W0 := by rw [← hW0]; exact ((Below.refl _ w).alloc (Nat.le_refl _) _).alloc (by simp) _
  have hC0 : Blk W0 w.heap.size 34 #[.int .i64 3, .int .i64 a, .int .i64 b, .string s, .string t, .slice pa pn pc] := by rw [← hW0]; exact (Blk.new w _ _).alloc _
  have hR0 : Blk W0 (w.heap.size + 1) 44 #[.int .i64 0, .int .i64 0, .string ⟨#[]⟩, .slice none 0 0, .int .i64 0, .int .i64 0, .int .i64 0, .int .i64 0, .int .i64 0, .int .i64 0] := by
    have h := Blk.new (w.alloc (.cells #[.int .i64 3, .int .i64 a, .int .i64 b, .string s, .string t, .slice pa pn pc] 34)) 44 #[.int .i64 0, .int .i64 0, .string ⟨#[]⟩, .slice none 0 0, .int .i64 0, .int .i64 0, .int .i64 0, .int .i64 0, .int .i64 0, .int .i64 0]
    rw [World.size_alloc, hW0] at h
    exact h
  have a0 : W0.cell? ⟨w.heap.size, 0, none⟩ = some (.int .i64 3) := hC0.cell 0
  have a1 : W0.cell? ⟨w.heap.size, 1, none⟩ = some (.int .i64 a) := hC0.cell 1
  have a2 : W0.cell? ⟨w.heap.size, 2, none⟩ = some (.int .i64 b) := hC0.cell 2
  have a3 : W0.cell? ⟨w.heap.size, 3, none⟩ = some (.string s) := hC0.cell 3
  have a4 : W0.cell? ⟨w.heap.size, 4, none⟩ = some (.string t) := hC0.cell 4
  have a5 : W0.cell? ⟨w.heap.size, 5, none⟩ = some (.slice pa pn pc) := hC0.cell 5
  have hb0H := Lib.hid hb0
  have hR0H := Lib.hid hR0
  rw [hW0]
  clear hb0 hC0 hR0 hW0
  go_wp2_with (first
    | (go_at_call 89; refine (hinH.out W0 hb0H.out).mono ?_; rintro e w3 ⟨rfl, hk3⟩
       have hR3 := hR0H.out.keep (kp_keep hH.out hk3 (by omega) hR0H.out.lt)
       have rc0 : w3.cell? ⟨w.heap.size + 1, 0, none⟩ = some (.int .i64 0) := hR3.cell 0
       have rf0 : w3.frozen? ⟨w.heap.size + 1, 0, none⟩ = false := hR3.frozen 0
       have rc1 : w3.cell? ⟨w.heap.size + 1, 1, none⟩ = some (.int .i64 0) := hR3.cell 1
       have rf1 : w3.frozen? ⟨w.heap.size + 1, 1, none⟩ = false := hR3.frozen 1
       have rc2 : w3.cell? ⟨w.heap.size + 1, 2, none⟩ = some (.string ⟨#[]⟩) := hR3.cell 2
       have rf2 : w3.frozen? ⟨w.heap.size + 1, 2, none⟩ = false := hR3.frozen 2
       have rc3 : w3.cell? ⟨w.heap.size + 1, 3, none⟩ = some (.slice none 0 0) := hR3.cell 3
       have rf3 : w3.frozen? ⟨w.heap.size + 1, 3, none⟩ = false := hR3.frozen 3
       have rc4 : w3.cell? ⟨w.heap.size + 1, 4, none⟩ = some (.int .i64 0) := hR3.cell 4
       have rf4 : w3.frozen? ⟨w.heap.size + 1, 4, none⟩ = false := hR3.frozen 4
       have rc5 : w3.cell? ⟨w.heap.size + 1, 5, none⟩ = some (.int .i64 0) := hR3.cell 5
       have rf5 : w3.frozen? ⟨w.heap.size + 1, 5, none⟩ = false := hR3.frozen 5
       have rc6 : w3.cell? ⟨w.heap.size + 1, 6, none⟩ = some (.int .i64 0) := hR3.cell 6
       have rf6 : w3.frozen? ⟨w.heap.size + 1, 6, none⟩ = false := hR3.frozen 6
       have rc7 : w3.cell? ⟨w.heap.size + 1, 7, none⟩ = some (.int .i64 0) := hR3.cell 7
       have rf7 : w3.frozen? ⟨w.heap.size + 1, 7, none⟩ = false := hR3.frozen 7
       have rc8 : w3.cell? ⟨w.heap.size + 1, 8, none⟩ = some (.int .i64 0) := hR3.cell 8
       have rf8 : w3.frozen? ⟨w.heap.size + 1, 8, none⟩ = false := hR3.frozen 8
       have rc9 : w3.cell? ⟨w.heap.size + 1, 9, none⟩ = some (.int .i64 0) := hR3.cell 9
       have rf9 : w3.frozen? ⟨w.heap.size + 1, 9, none⟩ = false := hR3.frozen 9
       have hk3H := Lib.hid hk3; have hR3H := Lib.hid hR3; clear hk3 hR3))
  (try simp only [Exit.inBlock, Exit.then])
  refine bodyPost_ret (results_cell_row2 rfl _ _ (w.heap.size + 1) 44 _ _ rfl (put10 hR3H.out (.int .i64 n1) (.int .i64 n2) (.string st) (.slice la ln lc) (.int .i64 x0) (.int .i64 x1) (.int .i64 x2) (.int .i64 x3) (.int .i64 x4) (.int .i64 0)) Tryz.underlying44 rfl (by kernel_rfl)) rfl ?_
  exact ⟨rfl, kp_end hH.out hb0H.out hk3H.out (frm10 (Frm.refl _ _) (.inl (by show w.heap.size ≤ w.heap.size + 1 ∧ w.heap.size + 1 < _; have := hR0H.out.lt; omega)) _ _ _ _ _ _ _ _ _ _)⟩
set_option maxRecDepth 100000 in
set_option maxHeartbeats 4000000 in
theorem answer_5 (h : KerIs w B q K M) {pb : Nat} (a b : Int) (s t : ByteArray) (pa : Option Addr) (pn pc : Nat) (n1 n2 : Int) (st : ByteArray) (la : Option Addr) (ln lc : Nat) (x0 x1 x2 x3 x4 er : Int)
    (hin : ∀ W, Below w.heap.size w W → Calls Tryz.prog 89 #[.pointer (some ⟨q, 0, none⟩), .pointer (some ⟨pb, 0, none⟩), .agg #[.int .i64 5, .int .i64 a, .int .i64 b, .string s, .string t, .slice pa pn pc]] W fun e w' => e = .returned (.tuple #[.agg #[.int .i64 n1, .int .i64 n2, .string st, .slice la ln lc, .int .i64 x0, .int .i64 x1, .int .i64 x2, .int .i64 x3, .int .i64 x4, .int .i64 0], .int .i64 er]) ∧ KP (AllX B) W K M w' q K') :
    Calls Tryz.prog 48 #[.pointer (some ⟨q, 0, none⟩), .pointer (some ⟨pb, 0, none⟩), .agg #[.int .i64 5, .int .i64 a, .int .i64 b, .string s, .string t, .slice pa pn pc]] w fun e w' => e = .returned (.tuple #[.agg #[.int .i64 n1, .int .i64 n2, .string st, .slice la ln lc, .int .i64 x0, .int .i64 x1, .int .i64 x2, .int .i64 x3, .int .i64 x4, .int .i64 0], .int .i64 er]) ∧ KP (AllX B) w K M w' q K' := by
  have hinH := Lib.hid hin
  have hH := Lib.hid h
  clear h hin
  go_enter Tryz.func48, Tryz.ntmps48
  go_upto_region 12 with fail
  obtain ⟨W0, hW0⟩ : ∃ W, (w.alloc (.cells #[.int .i64 5, .int .i64 a, .int .i64 b, .string s, .string t, .slice pa pn pc] 34)).alloc (.cells #[.int .i64 0, .int .i64 0, .string ⟨#[]⟩, .slice none 0 0, .int .i64 0, .int .i64 0, .int .i64 0, .int .i64 0, .int .i64 0, .int .i64 0] 44) = W := ⟨_, rfl⟩
  have hb0 : Below w.heap.size w W0 := by rw [← hW0]; exact ((Below.refl _ w).alloc (Nat.le_refl _) _).alloc (by simp) _
  have hC0 : Blk W0 w.heap.size 34 #[.int .i64 5, .int .i64 a, .int .i64 b, .string s, .string t, .slice pa pn pc] := by rw [← hW0]; exact (Blk.new w _ _).alloc _
  have hR0 : Blk W0 (w.heap.size + 1) 44 #[.int .i64 0, .int .i64 0, .string ⟨#[]⟩, .slice none 0 0, .int .i64 0, .int .i64 0, .int .i64 0, .int .i64 0, .int .i64 0, .int .i64 0] := by
    have h := Blk.new (w.alloc (.cells #[.int .i64 5, .int .i64 a, .int .i64 b, .string s, .string t, .slice pa pn pc] 34)) 44 #[.int .i64 0, .int .i64 0, .string ⟨#[]⟩, .slice none 0 0, .int .i64 0, .int .i64 0, .int .i64 0, .int .i64 0, .int .i64 0, .int .i64 0]
    rw [World.size_alloc, hW0] at h
    exact h
  have a0 : W0.cell? ⟨w.heap.size, 0, none⟩ = some (.int .i64 5) := hC0.cell 0
  have a1 : W0.cell? ⟨w.heap.size, 1, none⟩ = some (.int .i64 a) := hC0.cell 1
  have a2 : W0.cell? ⟨w.heap.size, 2, none⟩ = some (.int .i64 b) := hC0.cell 2
  have a3 : W0.cell? ⟨w.heap.size, 3, none⟩ = some (.string s) := hC0.cell 3
  have a4 : W0.cell? ⟨w.heap.size, 4, none⟩ = some (.string t) := hC0.cell 4
  have a5 : W0.cell? ⟨w.heap.size, 5, none⟩ = some (.slice pa pn pc) := hC0.cell 5
  have hb0H := Lib.hid hb0
  have hR0H := Lib.hid hR0
  rw [hW0]
  clear hb0 hC0 hR0 hW0
  go_wp2_with (first
    | (go_at_call 89; refine (hinH.out W0 hb0H.out).mono ?_; rintro e w3 ⟨rfl, hk3⟩
       have hR3 := hR0H.out.keep (kp_keep hH.out hk3 (by omega) hR0H.out.lt)
       have rc0 : w3.cell? ⟨w.heap.size + 1, 0, none⟩ = some (.int .i64 0) := hR3.cell 0
       have rf0 : w3.frozen? ⟨w.heap.size + 1, 0, none⟩ = false := hR3.frozen 0
       have rc1 : w3.cell? ⟨w.heap.size + 1, 1, none⟩ = some (.int .i64 0) := hR3.cell 1
       have rf1 : w3.frozen? ⟨w.heap.size + 1, 1, none⟩ = false := hR3.frozen 1
       have rc2 : w3.cell? ⟨w.heap.size + 1, 2, none⟩ = some (.string ⟨#[]⟩) := hR3.cell 2
       have rf2 : w3.frozen? ⟨w.heap.size + 1, 2, none⟩ = false := hR3.frozen 2
       have rc3 : w3.cell? ⟨w.heap.size + 1, 3, none⟩ = some (.slice none 0 0) := hR3.cell 3
       have rf3 : w3.frozen? ⟨w.heap.size + 1, 3, none⟩ = false := hR3.frozen 3
       have rc4 : w3.cell? ⟨w.heap.size + 1, 4, none⟩ = some (.int .i64 0) := hR3.cell 4
       have rf4 : w3.frozen? ⟨w.heap.size + 1, 4, none⟩ = false := hR3.frozen 4
       have rc5 : w3.cell? ⟨w.heap.size + 1, 5, none⟩ = some (.int .i64 0) := hR3.cell 5
       have rf5 : w3.frozen? ⟨w.heap.size + 1, 5, none⟩ = false := hR3.frozen 5
       have rc6 : w3.cell? ⟨w.heap.size + 1, 6, none⟩ = some (.int .i64 0) := hR3.cell 6
       have rf6 : w3.frozen? ⟨w.heap.size + 1, 6, none⟩ = false := hR3.frozen 6
       have rc7 : w3.cell? ⟨w.heap.size + 1, 7, none⟩ = some (.int .i64 0) := hR3.cell 7
       have rf7 : w3.frozen? ⟨w.heap.size + 1, 7, none⟩ = false := hR3.frozen 7
       have rc8 : w3.cell? ⟨w.heap.size + 1, 8, none⟩ = some (.int .i64 0) := hR3.cell 8
       have rf8 : w3.frozen? ⟨w.heap.size + 1, 8, none⟩ = false := hR3.frozen 8
       have rc9 : w3.cell? ⟨w.heap.size + 1, 9, none⟩ = some (.int .i64 0) := hR3.cell 9
       have rf9 : w3.frozen? ⟨w.heap.size + 1, 9, none⟩ = false := hR3.frozen 9
       have hk3H := Lib.hid hk3; have hR3H := Lib.hid hR3; clear hk3 hR3))
  (try simp only [Exit.inBlock, Exit.then])
  refine bodyPost_ret (results_cell_row2 rfl _ _ (w.heap.size + 1) 44 _ _ rfl (put10 hR3H.out (.int .i64 n1) (.int .i64 n2) (.string st) (.slice la ln lc) (.int .i64 x0) (.int .i64 x1) (.int .i64 x2) (.int .i64 x3) (.int .i64 x4) (.int .i64 0)) Tryz.underlying44 rfl (by kernel_rfl)) rfl ?_
  exact ⟨rfl, kp_end hH.out hb0H.out hk3H.out (frm10 (Frm.refl _ _) (.inl (by show w.heap.size ≤ w.heap.size + 1 ∧ w.heap.size + 1 < _; have := hR0H.out.lt; omega)) _ _ _ _ _ _ _ _ _ _)⟩
set_option maxRecDepth 100000 in
set_option maxHeartbeats 4000000 in
theorem answer_7 (h : KerIs w B q K M) {pb : Nat} (a b : Int) (s t : ByteArray) (pa : Option Addr) (pn pc : Nat) (n1 n2 : Int) (st : ByteArray) (la : Option Addr) (ln lc : Nat) (x0 x1 x2 x3 x4 er : Int)
    (hin : ∀ W, Below w.heap.size w W → Calls Tryz.prog 89 #[.pointer (some ⟨q, 0, none⟩), .pointer (some ⟨pb, 0, none⟩), .agg #[.int .i64 7, .int .i64 a, .int .i64 b, .string s, .string t, .slice pa pn pc]] W fun e w' => e = .returned (.tuple #[.agg #[.int .i64 n1, .int .i64 n2, .string st, .slice la ln lc, .int .i64 x0, .int .i64 x1, .int .i64 x2, .int .i64 x3, .int .i64 x4, .int .i64 0], .int .i64 er]) ∧ KP (AllX B) W K M w' q K') :
    Calls Tryz.prog 48 #[.pointer (some ⟨q, 0, none⟩), .pointer (some ⟨pb, 0, none⟩), .agg #[.int .i64 7, .int .i64 a, .int .i64 b, .string s, .string t, .slice pa pn pc]] w fun e w' => e = .returned (.tuple #[.agg #[.int .i64 n1, .int .i64 n2, .string st, .slice la ln lc, .int .i64 x0, .int .i64 x1, .int .i64 x2, .int .i64 x3, .int .i64 x4, .int .i64 0], .int .i64 er]) ∧ KP (AllX B) w K M w' q K' := by
  have hinH := Lib.hid hin
  have hH := Lib.hid h
  clear h hin
  go_enter Tryz.func48, Tryz.ntmps48
  go_upto_region 12 with fail
  obtain ⟨W0, hW0⟩ : ∃ W, (w.alloc (.cells #[.int .i64 7, .int .i64 a, .int .i64 b, .string s, .string t, .slice pa pn pc] 34)).alloc (.cells #[.int .i64 0, .int .i64 0, .string ⟨#[]⟩, .slice none 0 0, .int .i64 0, .int .i64 0, .int .i64 0, .int .i64 0, .int .i64 0, .int .i64 0] 44) = W := ⟨_, rfl⟩
  have hb0 : Below w.heap.size w W0 := by rw [← hW0]; exact ((Below.refl _ w).alloc (Nat.le_refl _) _).alloc (by simp) _
  have hC0 : Blk W0 w.heap.size 34 #[.int .i64 7, .int .i64 a, .int .i64 b, .string s, .string t, .slice pa pn pc] := by rw [← hW0]; exact (Blk.new w _ _).alloc _
  have hR0 : Blk W0 (w.heap.size + 1) 44 #[.int .i64 0, .int .i64 0, .string ⟨#[]⟩, .slice none 0 0, .int .i64 0, .int .i64 0, .int .i64 0, .int .i64 0, .int .i64 0, .int .i64 0] := by
    have h := Blk.new (w.alloc (.cells #[.int .i64 7, .int .i64 a, .int .i64 b, .string s, .string t, .slice pa pn pc] 34)) 44 #[.int .i64 0, .int .i64 0, .string ⟨#[]⟩, .slice none 0 0, .int .i64 0, .int .i64 0, .int .i64 0, .int .i64 0, .int .i64 0, .int .i64 0]
    rw [World.size_alloc, hW0] at h
    exact h
  have a0 : W0.cell? ⟨w.heap.size, 0, none⟩ = some (.int .i64 7) := hC0.cell 0
  have a1 : W0.cell? ⟨w.heap.size, 1, none⟩ = some (.int .i64 a) := hC0.cell 1
  have a2 : W0.cell? ⟨w.heap.size, 2, none⟩ = some (.int .i64 b) := hC0.cell 2
  have a3 : W0.cell? ⟨w.heap.size, 3, none⟩ = some (.string s) := hC0.cell 3
  have a4 : W0.cell? ⟨w.heap.size, 4, none⟩ = some (.string t) := hC0.cell 4
  have a5 : W0.cell? ⟨w.heap.size, 5, none⟩ = some (.slice pa pn pc) := hC0.cell 5
  have hb0H := Lib.hid hb0
  have hR0H := Lib.hid hR0
  rw [hW0]
  clear hb0 hC0 hR0 hW0
  go_wp2_with (first
    | (go_at_call 89; refine (hinH.out W0 hb0H.out).mono ?_; rintro e w3 ⟨rfl, hk3⟩
       have hR3 := hR0H.out.keep (kp_keep hH.out hk3 (by omega) hR0H.out.lt)
       have rc0 : w3.cell? ⟨w.heap.size + 1, 0, none⟩ = some (.int .i64 0) := hR3.cell 0
       have rf0 : w3.frozen? ⟨w.heap.size + 1, 0, none⟩ = false := hR3.frozen 0
       have rc1 : w3.cell? ⟨w.heap.size + 1, 1, none⟩ = some (.int .i64 0) := hR3.cell 1
       have rf1 : w3.frozen? ⟨w.heap.size + 1, 1, none⟩ = false := hR3.frozen 1
       have rc2 : w3.cell? ⟨w.heap.size + 1, 2, none⟩ = some (.string ⟨#[]⟩) := hR3.cell 2
       have rf2 : w3.frozen? ⟨w.heap.size + 1, 2, none⟩ = false := hR3.frozen 2
       have rc3 : w3.cell? ⟨w.heap.size + 1, 3, none⟩ = some (.slice none 0 0) := hR3.cell 3
       have rf3 : w3.frozen? ⟨w.heap.size + 1, 3, none⟩ = false := hR3.frozen 3
       have rc4 : w3.cell? ⟨w.heap.size + 1, 4, none⟩ = some (.int .i64 0) := hR3.cell 4
       have rf4 : w3.frozen? ⟨w.heap.size + 1, 4, none⟩ = false := hR3.frozen 4
       have rc5 : w3.cell? ⟨w.heap.size + 1, 5, none⟩ = some (.int .i64 0) := hR3.cell 5
       have rf5 : w3.frozen? ⟨w.heap.size + 1, 5, none⟩ = false := hR3.frozen 5
       have rc6 : w3.cell? ⟨w.heap.size + 1, 6, none⟩ = some (.int .i64 0) := hR3.cell 6
       have rf6 : w3.frozen? ⟨w.heap.size + 1, 6, none⟩ = false := hR3.frozen 6
       have rc7 : w3.cell? ⟨w.heap.size + 1, 7, none⟩ = some (.int .i64 0) := hR3.cell 7
       have rf7 : w3.frozen? ⟨w.heap.size + 1, 7, none⟩ = false := hR3.frozen 7
       have rc8 : w3.cell? ⟨w.heap.size + 1, 8, none⟩ = some (.int .i64 0) := hR3.cell 8
       have rf8 : w3.frozen? ⟨w.heap.size + 1, 8, none⟩ = false := hR3.frozen 8
       have rc9 : w3.cell? ⟨w.heap.size + 1, 9, none⟩ = some (.int .i64 0) := hR3.cell 9
       have rf9 : w3.frozen? ⟨w.heap.size + 1, 9, none⟩ = false := hR3.frozen 9
       have hk3H := Lib.hid hk3; have hR3H := Lib.hid hR3; clear hk3 hR3))
  (try simp only [Exit.inBlock, Exit.then])
  refine bodyPost_ret (results_cell_row2 rfl _ _ (w.heap.size + 1) 44 _ _ rfl (put10 hR3H.out (.int .i64 n1) (.int .i64 n2) (.string st) (.slice la ln lc) (.int .i64 x0) (.int .i64 x1) (.int .i64 x2) (.int .i64 x3) (.int .i64 x4) (.int .i64 0)) Tryz.underlying44 rfl (by kernel_rfl)) rfl ?_
  exact ⟨rfl, kp_end hH.out hb0H.out hk3H.out (frm10 (Frm.refl _ _) (.inl (by show w.heap.size ≤ w.heap.size + 1 ∧ w.heap.size + 1 < _; have := hR0H.out.lt; omega)) _ _ _ _ _ _ _ _ _ _)⟩
set_option maxRecDepth 100000 in
set_option maxHeartbeats 4000000 in
theorem answer_8 (h : KerIs w B q K M) {pb : Nat} (a b : Int) (s t : ByteArray) (pa : Option Addr) (pn pc : Nat) (n1 n2 : Int) (st : ByteArray) (la : Option Addr) (ln lc : Nat) (x0 x1 x2 x3 x4 er : Int)
    (hin : ∀ W, Below w.heap.size w W → Calls Tryz.prog 91 #[.pointer (some ⟨q, 0, none⟩), .pointer (some ⟨pb, 0, none⟩), .agg #[.int .i64 8, .int .i64 a, .int .i64 b, .string s, .string t, .slice pa pn pc]] W fun e w' => e = .returned (.tuple #[.agg #[.int .i64 n1, .int .i64 n2, .string st, .slice la ln lc, .int .i64 x0, .int .i64 x1, .int .i64 x2, .int .i64 x3, .int .i64 x4, .int .i64 0], .int .i64 er]) ∧ KP (AllX B) W K M w' q K') :
    Calls Tryz.prog 48 #[.pointer (some ⟨q, 0, none⟩), .pointer (some ⟨pb, 0, none⟩), .agg #[.int .i64 8, .int .i64 a, .int .i64 b, .string s, .string t, .slice pa pn pc]] w fun e w' => e = .returned (.tuple #[.agg #[.int .i64 n1, .int .i64 n2, .string st, .slice la ln lc, .int .i64 x0, .int .i64 x1, .int .i64 x2, .int .i64 x3, .int .i64 x4, .int .i64 0], .int .i64 er]) ∧ KP (AllX B) w K M w' q K' := by
  have hinH := Lib.hid hin
  have hH := Lib.hid h
  clear h hin
  go_enter Tryz.func48, Tryz.ntmps48
  go_upto_region 24 with fail
  obtain ⟨W0, hW0⟩ : ∃ W, (w.alloc (.cells #[.int .i64 8, .int .i64 a, .int .i64 b, .string s, .string t, .slice pa pn pc] 34)).alloc (.cells #[.int .i64 0, .int .i64 0, .string ⟨#[]⟩, .slice none 0 0, .int .i64 0, .int .i64 0, .int .i64 0, .int .i64 0, .int .i64 0, .int .i64 0] 44) = W := ⟨_, rfl⟩
  have hb0 : Below w.heap.size w W0 := by rw [← hW0]; exact ((Below.refl _ w).alloc (Nat.le_refl _) _).alloc (by simp) _
  have hC0 : Blk W0 w.heap.size 34 #[.int .i64 8, .int .i64 a, .int .i64 b, .string s, .string t, .slice pa pn pc] := by rw [← hW0]; exact (Blk.new w _ _).alloc _
  have hR0 : Blk W0 (w.heap.size + 1) 44 #[.int .i64 0, .int .i64 0, .string ⟨#[]⟩, .slice none 0 0, .int .i64 0, .int .i64 0, .int .i64 0, .int .i64 0, .int .i64 0, .int .i64 0] := by
    have h := Blk.new (w.alloc (.cells #[.int .i64 8, .int .i64 a, .int .i64 b, .string s, .string t, .slice pa pn pc] 34)) 44 #[.int .i64 0, .int .i64 0, .string ⟨#[]⟩, .slice none 0 0, .int .i64 0, .int .i64 0, .int .i64 0, .int .i64 0, .int .i64 0, .int .i64 0]
    rw [World.size_alloc, hW0] at h
    exact h
  have a0 : W0.cell? ⟨w.heap.size, 0, none⟩ = some (.int .i64 8) := hC0.cell 0
  have a1 : W0.cell? ⟨w.heap.size, 1, none⟩ = some (.int .i64 a) := hC0.cell 1
  have a2 : W0.cell? ⟨w.heap.size, 2, none⟩ = some (.int .i64 b) := hC0.cell 2
  have a3 : W0.cell? ⟨w.heap.size, 3, none⟩ = some (.string s) := hC0.cell 3
  have a4 : W0.cell? ⟨w.heap.size, 4, none⟩ = some (.string t) := hC0.cell 4
  have a5 : W0.cell? ⟨w.heap.size, 5, none⟩ = some (.slice pa pn pc) := hC0.cell 5
  have hb0H := Lib.hid hb0
  have hR0H := Lib.hid hR0
  rw [hW0]
  clear hb0 hC0 hR0 hW0
  go_wp2_with (first
    | (go_at_call 91; refine (hinH.out W0 hb0H.out).mono ?_; rintro e w3 ⟨rfl, hk3⟩
       have hR3 := hR0H.out.keep (kp_keep hH.out hk3 (by omega) hR0H.out.lt)
       have rc0 : w3.cell? ⟨w.heap.size + 1, 0, none⟩ = some (.int .i64 0) := hR3.cell 0
       have rf0 : w3.frozen? ⟨w.heap.size + 1, 0, none⟩ = false := hR3.frozen 0
       have rc1 : w3.cell? ⟨w.heap.size + 1, 1, none⟩ = some (.int .i64 0) := hR3.cell 1
       have rf1 : w3.frozen? ⟨w.heap.size + 1, 1, none⟩ = false := hR3.frozen 1
       have rc2 : w3.cell? ⟨w.heap.size + 1, 2, none⟩ = some (.string ⟨#[]⟩) := hR3.cell 2
       have rf2 : w3.frozen? ⟨w.heap.size + 1, 2, none⟩ = false := hR3.frozen 2
       have rc3 : w3.cell? ⟨w.heap.size + 1, 3, none⟩ = some (.slice none 0 0) := hR3.cell 3
       have rf3 : w3.frozen? ⟨w.heap.size + 1, 3, none⟩ = false := hR3.frozen 3
       have rc4 : w3.cell? ⟨w.heap.size + 1, 4, none⟩ = some (.int .i64 0) := hR3.cell 4
       have rf4 : w3.frozen? ⟨w.heap.size + 1, 4, none⟩ = false := hR3.frozen 4
       have rc5 : w3.cell? ⟨w.heap.size + 1, 5, none⟩ = some (.int .i64 0) := hR3.cell 5
       have rf5 : w3.frozen? ⟨w.heap.size + 1, 5, none⟩ = false := hR3.frozen 5
       have rc6 : w3.cell? ⟨w.heap.size + 1, 6, none⟩ = some (.int .i64 0) := hR3.cell 6
       have rf6 : w3.frozen? ⟨w.heap.size + 1, 6, none⟩ = false := hR3.frozen 6
       have rc7 : w3.cell? ⟨w.heap.size + 1, 7, none⟩ = some (.int .i64 0) := hR3.cell 7
       have rf7 : w3.frozen? ⟨w.heap.size + 1, 7, none⟩ = false := hR3.frozen 7
       have rc8 : w3.cell? ⟨w.heap.size + 1, 8, none⟩ = some (.int .i64 0) := hR3.cell 8
       have rf8 : w3.frozen? ⟨w.heap.size + 1, 8, none⟩ = false := hR3.frozen 8
       have rc9 : w3.cell? ⟨w.heap.size + 1, 9, none⟩ = some (.int .i64 0) := hR3.cell 9
       have rf9 : w3.frozen? ⟨w.heap.size + 1, 9, none⟩ = false := hR3.frozen 9
       have hk3H := Lib.hid hk3; have hR3H := Lib.hid hR3; clear hk3 hR3))
  (try simp only [Exit.inBlock, Exit.then])
  refine bodyPost_ret (results_cell_row2 rfl _ _ (w.heap.size + 1) 44 _ _ rfl (put10 hR3H.out (.int .i64 n1) (.int .i64 n2) (.string st) (.slice la ln lc) (.int .i64 x0) (.int .i64 x1) (.int .i64 x2) (.int .i64 x3) (.int .i64 x4) (.int .i64 0)) Tryz.underlying44 rfl (by kernel_rfl)) rfl ?_
  exact ⟨rfl, kp_end hH.out hb0H.out hk3H.out (frm10 (Frm.refl _ _) (.inl (by show w.heap.size ≤ w.heap.size + 1 ∧ w.heap.size + 1 < _; have := hR0H.out.lt; omega)) _ _ _ _ _ _ _ _ _ _)⟩
end
end Go.Proofs.YtmilagppbepnbaaGreat.Kn
