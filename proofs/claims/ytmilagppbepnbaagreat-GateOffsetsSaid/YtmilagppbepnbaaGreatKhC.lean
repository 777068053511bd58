/- The kernel's Call, whatever waits and answer say. Condition: the kernel lies as stated. -/
import Derived.Test.YtmilagppbepnbaaGreatKgZ
namespace Go.Proofs.YtmilagppbepnbaaGreat.Kn
open Go.RowKit Go.PlainAid
set_option linter.unusedVariables false
set_option linter.unusedSimpArgs false
attribute [local go_sem] Oper.semAt_some
theorem far10 {W : World} {g k : Nat} {t : TypeId} {cs : Array Value} (h : Blk W g t cs) (hn : g ≠ k) (v0 v1 v2 v3 v4 v5 v6 v7 v8 v9 : Value) : Blk ((((((((((W.setCell ⟨k, 0, none⟩ v0).setCell ⟨k, 1, none⟩ v1).setCell ⟨k, 2, none⟩ v2).setCell ⟨k, 3, none⟩ v3).setCell ⟨k, 4, none⟩ v4).setCell ⟨k, 5, none⟩ v5).setCell ⟨k, 6, none⟩ v6).setCell ⟨k, 7, none⟩ v7).setCell ⟨k, 8, none⟩ v8).setCell ⟨k, 9, none⟩ v9) g t cs :=
  ((((((((((h.far (p := ⟨k, 0, none⟩) hn v0).far (p := ⟨k, 1, none⟩) hn v1).far (p := ⟨k, 2, none⟩) hn v2).far (p := ⟨k, 3, none⟩) hn v3).far (p := ⟨k, 4, none⟩) hn v4).far (p := ⟨k, 5, none⟩) hn v5).far (p := ⟨k, 6, none⟩) hn v6).far (p := ⟨k, 7, none⟩) hn v7).far (p := ⟨k, 8, none⟩) hn v8).far (p := ⟨k, 9, none⟩) hn v9)
section
variable {w w' w3 w4 : World} {B : Ix → Nat → Prop} {q : Nat} {K K' : Ker} {M : Mp} {c : Nat}
theorem process_w (h : KerIs w B q K M) {pid : Int} {n : Nat} (hl : liveM K pid = some n) (W : World) (hW : Below w.heap.size w W) : Calls Tryz.prog 46 #[.pointer (some ⟨q, 0, none⟩), .int .i64 pid] W fun e w' => e = .returned (.pointer (some ⟨M.br n, 0, none⟩)) ∧ Below W.heap.size W w' := by
  have := process_any (h.below hW) pid
  rw [hl] at this
  exact this
set_option maxRecDepth 100000 in
set_option maxHeartbeats 4000000 in
theorem call_waits (h : KerIs w B q K M) {pid : Int} {n : Nat} (hl : liveM K pid = some n) (no a b : Int) (s t : ByteArray) (pa : Option Addr) (pn pc : Nat)
    (hwt : ∀ W, Below w.heap.size w W → Calls Tryz.prog 47 #[.pointer (some ⟨q, 0, none⟩), .pointer (some ⟨M.br n, 0, none⟩), .agg #[.int .i64 no, .int .i64 a, .int .i64 b, .string s, .string t, .slice pa pn pc]] W fun e w' => e = .returned (.bool true) ∧ Below W.heap.size W w') :
    Calls Tryz.prog 15 #[.pointer (some ⟨q, 0, none⟩), .int .i64 pid, .agg #[.int .i64 no, .int .i64 a, .int .i64 b, .string s, .string t, .slice pa pn pc]] w fun e w' => e = .returned (.tuple #[.agg #[.int .i64 0, .int .i64 0, .string ⟨#[]⟩, .slice none 0 0, .int .i64 0, .int .i64 0, .int .i64 0, .int .i64 0, .int .i64 0, .int .i64 0], .bool true]) ∧ Below w.heap.size w w' := by
  have hwtH := Lib.hid hwt
  have hpr := Lib.hid (process_w h hl)
  obtain ⟨b9, hb9⟩ : ∃ b9, M.br n = b9 := ⟨_, rfl⟩
  rw [hb9] at hpr hwtH
  clear h hb9 hl hwt
  go_enter Tryz.func15, Tryz.ntmps15
  go_upto_region 1 with fail
  obtain ⟨W0, hW0⟩ : ∃ W, (w.alloc (.cells #[.int .i64 no, .int .i64 a, .int .i64 b, .string s, .string t, .slice pa pn pc] 34)).alloc (.cells #[.int .i64 0, .int .i64 0, .string ⟨#[]⟩, .slice none 0 0, .int .i64 0, .int .i64 0, .int .i64 0, .int .i64 0, .int .i64 0, .int .i64 0] 44) = W := ⟨_, rfl⟩
  have hb0 : Below w.heap.size w W0 := by rw [← hW0]; exact ((Below.refl _ w).alloc (Nat.le_refl _) _).alloc (by simp) _
  have hC0 : Blk W0 w.heap.size 34 #[.int .i64 no, .int .i64 a, .int .i64 b, .string s, .string t, .slice pa pn pc] := by rw [← hW0]; exact (Blk.new w _ _).alloc _
  have hR0 : Blk W0 (w.heap.size + 1) 44 #[.int .i64 0, .int .i64 0, .string ⟨#[]⟩, .slice none 0 0, .int .i64 0, .int .i64 0, .int .i64 0, .int .i64 0, .int .i64 0, .int .i64 0] := by
    have h := Blk.new (w.alloc (.cells #[.int .i64 no, .int .i64 a, .int .i64 b, .string s, .string t, .slice pa pn pc] 34)) 44 #[.int .i64 0, .int .i64 0, .string ⟨#[]⟩, .slice none 0 0, .int .i64 0, .int .i64 0, .int .i64 0, .int .i64 0, .int .i64 0, .int .i64 0]
    rw [World.size_alloc, hW0] at h
    exact h
  have hb0H := Lib.hid hb0
  have hC0H := Lib.hid hC0
  have hR0H := Lib.hid hR0
  rw [hW0]
  clear hb0 hC0 hR0 hW0
  go_wp2_with (first
    | (go_at_call 46; refine (hpr.out W0 hb0H.out).mono ?_; rintro e w1 ⟨rfl, hb1⟩
       have hb01 := hb0H.out.trans (hb1.mono hb0H.out.size)
       have hC1 := hC0H.out.keep (hb1.block _ hC0H.out.lt)
       have p0 : w1.cell? ⟨w.heap.size, 0, none⟩ = some (.int .i64 no) := hC1.cell 0
       have p1 : w1.cell? ⟨w.heap.size, 1, none⟩ = some (.int .i64 a) := hC1.cell 1
       have p2 : w1.cell? ⟨w.heap.size, 2, none⟩ = some (.int .i64 b) := hC1.cell 2
       have p3 : w1.cell? ⟨w.heap.size, 3, none⟩ = some (.string s) := hC1.cell 3
       have p4 : w1.cell? ⟨w.heap.size, 4, none⟩ = some (.string t) := hC1.cell 4
       have p5 : w1.cell? ⟨w.heap.size, 5, none⟩ = some (.slice pa pn pc) := hC1.cell 5
       have hR1 := Lib.hid (hR0H.out.keep (hb1.block _ hR0H.out.lt))
       have hb01H := Lib.hid hb01; have hC1H := Lib.hid hC1; clear hb1 hb01 hC1)
    | (go_at_call 47; refine (hwtH.out w1 hb01H.out).mono ?_; rintro e w2 ⟨rfl, hb2⟩
       have hb02 := hb01H.out.trans (hb2.mono hb01H.out.size)
       have hC2 := hC1H.out.keep (hb2.block _ hC1H.out.lt)
       have y0 : w2.cell? ⟨w.heap.size, 0, none⟩ = some (.int .i64 no) := hC2.cell 0
       have y1 : w2.cell? ⟨w.heap.size, 1, none⟩ = some (.int .i64 a) := hC2.cell 1
       have y2 : w2.cell? ⟨w.heap.size, 2, none⟩ = some (.int .i64 b) := hC2.cell 2
       have y3 : w2.cell? ⟨w.heap.size, 3, none⟩ = some (.string s) := hC2.cell 3
       have y4 : w2.cell? ⟨w.heap.size, 4, none⟩ = some (.string t) := hC2.cell 4
       have y5 : w2.cell? ⟨w.heap.size, 5, none⟩ = some (.slice pa pn pc) := hC2.cell 5
       have hR2 := hR1.out.keep (hb2.block _ hR1.out.lt)
       have rc0 : w2.cell? ⟨w.heap.size + 1, 0, none⟩ = some (.int .i64 0) := hR2.cell 0
       have rf0 : w2.frozen? ⟨w.heap.size + 1, 0, none⟩ = false := hR2.frozen 0
       have rc1 : w2.cell? ⟨w.heap.size + 1, 1, none⟩ = some (.int .i64 0) := hR2.cell 1
       have rf1 : w2.frozen? ⟨w.heap.size + 1, 1, none⟩ = false := hR2.frozen 1
       have rc2 : w2.cell? ⟨w.heap.size + 1, 2, none⟩ = some (.string ⟨#[]⟩) := hR2.cell 2
       have rf2 : w2.frozen? ⟨w.heap.size + 1, 2, none⟩ = false := hR2.frozen 2
       have rc3 : w2.cell? ⟨w.heap.size + 1, 3, none⟩ = some (.slice none 0 0) := hR2.cell 3
       have rf3 : w2.frozen? ⟨w.heap.size + 1, 3, none⟩ = false := hR2.frozen 3
       have rc4 : w2.cell? ⟨w.heap.size + 1, 4, none⟩ = some (.int .i64 0) := hR2.cell 4
       have rf4 : w2.frozen? ⟨w.heap.size + 1, 4, none⟩ = false := hR2.frozen 4
       have rc5 : w2.cell? ⟨w.heap.size + 1, 5, none⟩ = some (.int .i64 0) := hR2.cell 5
       have rf5 : w2.frozen? ⟨w.heap.size + 1, 5, none⟩ = false := hR2.frozen 5
       have rc6 : w2.cell? ⟨w.heap.size + 1, 6, none⟩ = some (.int .i64 0) := hR2.cell 6
       have rf6 : w2.frozen? ⟨w.heap.size + 1, 6, none⟩ = false := hR2.frozen 6
       have rc7 : w2.cell? ⟨w.heap.size + 1, 7, none⟩ = some (.int .i64 0) := hR2.cell 7
       have rf7 : w2.frozen? ⟨w.heap.size + 1, 7, none⟩ = false := hR2.frozen 7
       have rc8 : w2.cell? ⟨w.heap.size + 1, 8, none⟩ = some (.int .i64 0) := hR2.cell 8
       have rf8 : w2.frozen? ⟨w.heap.size + 1, 8, none⟩ = false := hR2.frozen 8
       have rc9 : w2.cell? ⟨w.heap.size + 1, 9, none⟩ = some (.int .i64 0) := hR2.cell 9
       have rf9 : w2.frozen? ⟨w.heap.size + 1, 9, none⟩ = false := hR2.frozen 9
       have hb02H := Lib.hid hb02; have hR2H := Lib.hid hR2; clear hb2 hb02 hC2 hR2))
  (try simp only [Exit.inBlock, Exit.then])
  refine bodyPost_ret (results_cell_row2 rfl _ _ (w.heap.size + 1) 44 _ _ rfl (put10 hR2H.out (.int .i64 0) (.int .i64 0) (.string ⟨#[]⟩) (.slice none 0 0) (.int .i64 0) (.int .i64 0) (.int .i64 0) (.int .i64 0) (.int .i64 0) (.int .i64 0)) Tryz.underlying44 rfl (by kernel_rfl)) rfl ?_
  exact ⟨rfl, hb02H.out.trans ((frm10 (O := fun g => w.heap.size ≤ g) (Frm.refl _ _) (.inl (by omega)) _ _ _ _ _ _ _ _ _ _).toBelow (fun _ h => h) hb02H.out.size)⟩
set_option maxRecDepth 100000 in
set_option maxHeartbeats 4000000 in
theorem call_nobody {k : Value} (pid no a b : Int) (s t : ByteArray) (pa : Option Addr) (pn pc : Nat) (w : World)
    (hpr : ∀ W, Below w.heap.size w W → Calls Tryz.prog 46 #[k, .int .i64 pid] W fun e w' => e = .returned (.pointer none) ∧ Below W.heap.size W w') :
    Calls Tryz.prog 15 #[k, .int .i64 pid, .agg #[.int .i64 no, .int .i64 a, .int .i64 b, .string s, .string t, .slice pa pn pc]] w fun e w' => e = .returned (.tuple #[.agg #[.int .i64 0, .int .i64 0, .string ⟨#[]⟩, .slice none 0 0, .int .i64 0, .int .i64 0, .int .i64 0, .int .i64 0, .int .i64 0, .int .i64 3], .bool false]) ∧ Below w.heap.size w w' := by
  have hprH := Lib.hid hpr
  clear hpr
  go_enter Tryz.func15, Tryz.ntmps15
  go_upto_region 1 with fail
  obtain ⟨W0, hW0⟩ : ∃ W, (w.alloc (.cells #[.int .i64 no, .int .i64 a, .int .i64 b, .string s, .string t, .slice pa pn pc] 34)).alloc (.cells #[.int .i64 0, .int .i64 0, .string ⟨#[]⟩, .slice none 0 0, .int .i64 0, .int .i64 0, .int .i64 0, .int .i64 0, .int .i64 0, .int .i64 0] 44) = W := ⟨_, rfl⟩
  have hb0 : Below w.heap.size w W0 := by rw [← hW0]; exact ((Below.refl _ w).alloc (Nat.le_refl _) _).alloc (by simp) _
  have hR0 : Blk W0 (w.heap.size + 1) 44 #[.int .i64 0, .int .i64 0, .string ⟨#[]⟩, .slice none 0 0, .int .i64 0, .int .i64 0, .int .i64 0, .int .i64 0, .int .i64 0, .int .i64 0] := by
    have h := Blk.new (w.alloc (.cells #[.int .i64 no, .int .i64 a, .int .i64 b, .string s, .string t, .slice pa pn pc] 34)) 44 #[.int .i64 0, .int .i64 0, .string ⟨#[]⟩, .slice none 0 0, .int .i64 0, .int .i64 0, .int .i64 0, .int .i64 0, .int .i64 0, .int .i64 0]
    rw [World.size_alloc, hW0] at h
    exact h
  have hb0H := Lib.hid hb0
  have hR0H := Lib.hid hR0
  rw [hW0]
  clear hb0 hR0 hW0
  go_wp2_with (first
    | (go_at_call 46; refine (hprH.out W0 hb0H.out).mono ?_; rintro e w1 ⟨rfl, hb1⟩
       have hb01 := hb0H.out.trans (hb1.mono hb0H.out.size)
       have hR2 := hR0H.out.keep (hb1.block _ hR0H.out.lt)
       have rc0 : w1.cell? ⟨w.heap.size + 1, 0, none⟩ = some (.int .i64 0) := hR2.cell 0
       have rf0 : w1.frozen? ⟨w.heap.size + 1, 0, none⟩ = false := hR2.frozen 0
       have rc1 : w1.cell? ⟨w.heap.size + 1, 1, none⟩ = some (.int .i64 0) := hR2.cell 1
       have rf1 : w1.frozen? ⟨w.heap.size + 1, 1, none⟩ = false := hR2.frozen 1
       have rc2 : w1.cell? ⟨w.heap.size + 1, 2, none⟩ = some (.string ⟨#[]⟩) := hR2.cell 2
       have rf2 : w1.frozen? ⟨w.heap.size + 1, 2, none⟩ = false := hR2.frozen 2
       have rc3 : w1.cell? ⟨w.heap.size + 1, 3, none⟩ = some (.slice none 0 0) := hR2.cell 3
       have rf3 : w1.frozen? ⟨w.heap.size + 1, 3, none⟩ = false := hR2.frozen 3
       have rc4 : w1.cell? ⟨w.heap.size + 1, 4, none⟩ = some (.int .i64 0) := hR2.cell 4
       have rf4 : w1.frozen? ⟨w.heap.size + 1, 4, none⟩ = false := hR2.frozen 4
       have rc5 : w1.cell? ⟨w.heap.size + 1, 5, none⟩ = some (.int .i64 0) := hR2.cell 5
       have rf5 : w1.frozen? ⟨w.heap.size + 1, 5, none⟩ = false := hR2.frozen 5
       have rc6 : w1.cell? ⟨w.heap.size + 1, 6, none⟩ = some (.int .i64 0) := hR2.cell 6
       have rf6 : w1.frozen? ⟨w.heap.size + 1, 6, none⟩ = false := hR2.frozen 6
       have rc7 : w1.cell? ⟨w.heap.size + 1, 7, none⟩ = some (.int .i64 0) := hR2.cell 7
       have rf7 : w1.frozen? ⟨w.heap.size + 1, 7, none⟩ = false := hR2.frozen 7
       have rc8 : w1.cell? ⟨w.heap.size + 1, 8, none⟩ = some (.int .i64 0) := hR2.cell 8
       have rf8 : w1.frozen? ⟨w.heap.size + 1, 8, none⟩ = false := hR2.frozen 8
       have rc9 : w1.cell? ⟨w.heap.size + 1, 9, none⟩ = some (.int .i64 0) := hR2.cell 9
       have rf9 : w1.frozen? ⟨w.heap.size + 1, 9, none⟩ = false := hR2.frozen 9
       have hb02H := Lib.hid hb01; have hR2H := Lib.hid hR2; clear hb1 hb01 hR2))
  (try simp only [Exit.inBlock, Exit.then])
  refine bodyPost_ret (results_cell_row2 rfl _ _ (w.heap.size + 1) 44 _ _ rfl (put10 hR2H.out (.int .i64 0) (.int .i64 0) (.string ⟨#[]⟩) (.slice none 0 0) (.int .i64 0) (.int .i64 0) (.int .i64 0) (.int .i64 0) (.int .i64 0) (.int .i64 3)) Tryz.underlying44 rfl (by kernel_rfl)) rfl ?_
  exact ⟨rfl, hb02H.out.trans ((frm10 (O := fun g => w.heap.size ≤ g) (Frm.refl _ _) (.inl (by omega)) _ _ _ _ _ _ _ _ _ _).toBelow (fun _ h => h) hb02H.out.size)⟩
set_option maxRecDepth 100000 in
set_option maxHeartbeats 4000000 in
theorem call_ok (h : KerIs w B q K M) {pid : Int} {n : Nat} (hl : liveM K pid = some n) (no a b : Int) (s t : ByteArray) (pa : Option Addr) (pn pc : Nat) (n1 n2 : Int) (st : ByteArray) (la : Option Addr) (ln lc : Nat) (x0 x1 x2 x3 x4 : Int)
    (hwt : ∀ W, Below w.heap.size w W → Calls Tryz.prog 47 #[.pointer (some ⟨q, 0, none⟩), .pointer (some ⟨M.br n, 0, none⟩), .agg #[.int .i64 no, .int .i64 a, .int .i64 b, .string s, .string t, .slice pa pn pc]] W fun e w' => e = .returned (.bool false) ∧ Below W.heap.size W w')
    (han : ∀ W, Below w.heap.size w W → Calls Tryz.prog 48 #[.pointer (some ⟨q, 0, none⟩), .pointer (some ⟨M.br n, 0, none⟩), .agg #[.int .i64 no, .int .i64 a, .int .i64 b, .string s, .string t, .slice pa pn pc]] W fun e w' => e = .returned (.tuple #[.agg #[.int .i64 n1, .int .i64 n2, .string st, .slice la ln lc, .int .i64 x0, .int .i64 x1, .int .i64 x2, .int .i64 x3, .int .i64 x4, .int .i64 0], .int .i64 0]) ∧ KP (AllX B) W K M w' q K') :
    Calls Tryz.prog 15 #[.pointer (some ⟨q, 0, none⟩), .int .i64 pid, .agg #[.int .i64 no, .int .i64 a, .int .i64 b, .string s, .string t, .slice pa pn pc]] w fun e w' => e = .returned (.tuple #[.agg #[.int .i64 n1, .int .i64 n2, .string st, .slice la ln lc, .int .i64 x0, .int .i64 x1, .int .i64 x2, .int .i64 x3, .int .i64 x4, .int .i64 0], .bool false]) ∧ KP (AllX B) w K M w' q K' := by
  have hwtH := Lib.hid hwt
  have hanH := Lib.hid han
  have hH := Lib.hid h
  have hpr := Lib.hid (process_w h hl)
  obtain ⟨b9, hb9⟩ : ∃ b9, M.br n = b9 := ⟨_, rfl⟩
  rw [hb9] at hpr hwtH hanH
  clear h hb9 hl hwt han
  go_enter Tryz.func15, Tryz.ntmps15
  go_upto_region 1 with fail
  obtain ⟨W0, hW0⟩ : ∃ W, (w.alloc (.cells #[.int .i64 no, .int .i64 a, .int .i64 b, .string s, .string t, .slice pa pn pc] 34)).alloc (.cells #[.int .i64 0, .int .i64 0, .string ⟨#[]⟩, .slice none 0 0, .int .i64 0, .int .i64 0, .int .i64 0, .int .i64 0, .int .i64 0, .int .i64 0] 44) = W := ⟨_, rfl⟩
  have hb0 : Below w.heap.size w W0 := by rw [← hW0]; exact ((Below.refl _ w).alloc (Nat.le_refl _) _).alloc (by simp) _
  have hC0 : Blk W0 w.heap.size 34 #[.int .i64 no, .int .i64 a, .int .i64 b, .string s, .string t, .slice pa pn pc] := by rw [← hW0]; exact (Blk.new w _ _).alloc _
  have hR0 : Blk W0 (w.heap.size + 1) 44 #[.int .i64 0, .int .i64 0, .string ⟨#[]⟩, .slice none 0 0, .int .i64 0, .int .i64 0, .int .i64 0, .int .i64 0, .int .i64 0, .int .i64 0] := by
    have h := Blk.new (w.alloc (.cells #[.int .i64 no, .int .i64 a, .int .i64 b, .string s, .string t, .slice pa pn pc] 34)) 44 #[.int .i64 0, .int .i64 0, .string ⟨#[]⟩, .slice none 0 0, .int .i64 0, .int .i64 0, .int .i64 0, .int .i64 0, .int .i64 0, .int .i64 0]
    rw [World.size_alloc, hW0] at h
    exact h
  have hb0H := Lib.hid hb0
  have hC0H := Lib.hid hC0
  have hR0H := Lib.hid hR0
  rw [hW0]
  clear hb0 hC0 hR0 hW0
  go_upto_region 7 with (first
    | (go_at_call 46; refine (hpr.out W0 hb0H.out).mono ?_; rintro e w1 ⟨rfl, hb1⟩
       have hb01 := hb0H.out.trans (hb1.mono hb0H.out.size)
       have hC1 := hC0H.out.keep (hb1.block _ hC0H.out.lt)
       have p0 : w1.cell? ⟨w.heap.size, 0, none⟩ = some (.int .i64 no) := hC1.cell 0
       have p1 : w1.cell? ⟨w.heap.size, 1, none⟩ = some (.int .i64 a) := hC1.cell 1
       have p2 : w1.cell? ⟨w.heap.size, 2, none⟩ = some (.int .i64 b) := hC1.cell 2
       have p3 : w1.cell? ⟨w.heap.size, 3, none⟩ = some (.string s) := hC1.cell 3
       have p4 : w1.cell? ⟨w.heap.size, 4, none⟩ = some (.string t) := hC1.cell 4
       have p5 : w1.cell? ⟨w.heap.size, 5, none⟩ = some (.slice pa pn pc) := hC1.cell 5
       have hR1 := Lib.hid (hR0H.out.keep (hb1.block _ hR0H.out.lt))
       have hb01H := Lib.hid hb01; have hC1H := Lib.hid hC1; clear hb1 hb01 hC1)
    | (go_at_call 47; refine (hwtH.out w1 hb01H.out).mono ?_; rintro e w2 ⟨rfl, hb2⟩
       have hb02 := hb01H.out.trans (hb2.mono hb01H.out.size)
       have hC2 := hC1H.out.keep (hb2.block _ hC1H.out.lt)
       have y0 : w2.cell? ⟨w.heap.size, 0, none⟩ = some (.int .i64 no) := hC2.cell 0
       have y1 : w2.cell? ⟨w.heap.size, 1, none⟩ = some (.int .i64 a) := hC2.cell 1
       have y2 : w2.cell? ⟨w.heap.size, 2, none⟩ = some (.int .i64 b) := hC2.cell 2
       have y3 : w2.cell? ⟨w.heap.size, 3, none⟩ = some (.string s) := hC2.cell 3
       have y4 : w2.cell? ⟨w.heap.size, 4, none⟩ = some (.string t) := hC2.cell 4
       have y5 : w2.cell? ⟨w.heap.size, 5, none⟩ = some (.slice pa pn pc) := hC2.cell 5
       have hR2 := hR1.out.keep (hb2.block _ hR1.out.lt)
       have hb02H := Lib.hid hb02; have hR2H := Lib.hid hR2; clear hb2 hb02 hC2 hR2)
    | (go_at_call 48; refine (hanH.out w2 hb02H.out).mono ?_; rintro e w3 ⟨rfl, hk3⟩
       have hR3 := hR2H.out.keep (kp_keep hH.out hk3 (by omega) hR2H.out.lt)
       have hk3H := Lib.hid hk3; have hR3H := Lib.hid hR3; clear hk3 hR3))
  clear p0 p1 p2 p3 p4 p5 y0 y1 y2 y3 y4 y5
  obtain ⟨m3, hm3⟩ : ∃ m, w3.heap.size = m := ⟨_, rfl⟩
  obtain ⟨W4, hW4⟩ : ∃ W, w3.alloc (.cells #[.int .i64 n1, .int .i64 n2, .string st, .slice la ln lc, .int .i64 x0, .int .i64 x1, .int .i64 x2, .int .i64 x3, .int .i64 x4, .int .i64 0] 44) = W := ⟨_, rfl⟩
  have hb4 : Below w3.heap.size w3 W4 := by
    rw [← hW4]
    exact (Below.refl _ _).alloc (Nat.le_refl _) _
  have hT4 : Blk W4 w3.heap.size 44 #[.int .i64 n1, .int .i64 n2, .string st, .slice la ln lc, .int .i64 x0, .int .i64 x1, .int .i64 x2, .int .i64 x3, .int .i64 x4, .int .i64 0] := by
    rw [← hW4]
    exact Blk.new w3 _ _
  rw [hm3] at hT4
  have hR4 := hR3H.out.keep (hb4.block _ hR3H.out.lt)
  have rc0 : W4.cell? ⟨w.heap.size + 1, 0, none⟩ = some (.int .i64 0) := hR4.cell 0
  have rf0 : W4.frozen? ⟨w.heap.size + 1, 0, none⟩ = false := hR4.frozen 0
  have rc1 : W4.cell? ⟨w.heap.size + 1, 1, none⟩ = some (.int .i64 0) := hR4.cell 1
  have rf1 : W4.frozen? ⟨w.heap.size + 1, 1, none⟩ = false := hR4.frozen 1
  have rc2 : W4.cell? ⟨w.heap.size + 1, 2, none⟩ = some (.string ⟨#[]⟩) := hR4.cell 2
  have rf2 : W4.frozen? ⟨w.heap.size + 1, 2, none⟩ = false := hR4.frozen 2
  have rc3 : W4.cell? ⟨w.heap.size + 1, 3, none⟩ = some (.slice none 0 0) := hR4.cell 3
  have rf3 : W4.frozen? ⟨w.heap.size + 1, 3, none⟩ = false := hR4.frozen 3
  have rc4 : W4.cell? ⟨w.heap.size + 1, 4, none⟩ = some (.int .i64 0) := hR4.cell 4
  have rf4 : W4.frozen? ⟨w.heap.size + 1, 4, none⟩ = false := hR4.frozen 4
  have rc5 : W4.cell? ⟨w.heap.size + 1, 5, none⟩ = some (.int .i64 0) := hR4.cell 5
  have rf5 : W4.frozen? ⟨w.heap.size + 1, 5, none⟩ = false := hR4.frozen 5
  have rc6 : W4.cell? ⟨w.heap.size + 1, 6, none⟩ = some (.int .i64 0) := hR4.cell 6
  have rf6 : W4.frozen? ⟨w.heap.size + 1, 6, none⟩ = false := hR4.frozen 6
  have rc7 : W4.cell? ⟨w.heap.size + 1, 7, none⟩ = some (.int .i64 0) := hR4.cell 7
  have rf7 : W4.frozen? ⟨w.heap.size + 1, 7, none⟩ = false := hR4.frozen 7
  have rc8 : W4.cell? ⟨w.heap.size + 1, 8, none⟩ = some (.int .i64 0) := hR4.cell 8
  have rf8 : W4.frozen? ⟨w.heap.size + 1, 8, none⟩ = false := hR4.frozen 8
  have rc9 : W4.cell? ⟨w.heap.size + 1, 9, none⟩ = some (.int .i64 0) := hR4.cell 9
  have rf9 : W4.frozen? ⟨w.heap.size + 1, 9, none⟩ = false := hR4.frozen 9
  have tc0 : W4.cell? ⟨m3, 0, none⟩ = some (.int .i64 n1) := hT4.cell 0
  have tc1 : W4.cell? ⟨m3, 1, none⟩ = some (.int .i64 n2) := hT4.cell 1
  have tc2 : W4.cell? ⟨m3, 2, none⟩ = some (.string st) := hT4.cell 2
  have tc3 : W4.cell? ⟨m3, 3, none⟩ = some (.slice la ln lc) := hT4.cell 3
  have tc4 : W4.cell? ⟨m3, 4, none⟩ = some (.int .i64 x0) := hT4.cell 4
  have tc5 : W4.cell? ⟨m3, 5, none⟩ = some (.int .i64 x1) := hT4.cell 5
  have tc6 : W4.cell? ⟨m3, 6, none⟩ = some (.int .i64 x2) := hT4.cell 6
  have tc7 : W4.cell? ⟨m3, 7, none⟩ = some (.int .i64 x3) := hT4.cell 7
  have tc8 : W4.cell? ⟨m3, 8, none⟩ = some (.int .i64 x4) := hT4.cell 8
  have tc9 : W4.cell? ⟨m3, 9, none⟩ = some (.int .i64 0) := hT4.cell 9
  have hb4H := Lib.hid hb4
  have hR4H := Lib.hid hR4
  rw [hW4, hm3]
  clear hW4 hb4 hT4 hR4 hm3
  go_wp2_with fail
  (try simp only [Exit.inBlock, Exit.then])
  refine bodyPost_ret (results_cell_row2 rfl _ _ (w.heap.size + 1) 44 _ _ rfl (put10 hR4H.out (.int .i64 n1) (.int .i64 n2) (.string st) (.slice la ln lc) (.int .i64 x0) (.int .i64 x1) (.int .i64 x2) (.int .i64 x3) (.int .i64 x4) (.int .i64 0)) Tryz.underlying44 rfl (by kernel_rfl)) rfl ?_
  exact ⟨rfl, kp_end hH.out hb02H.out hk3H.out ((Frm.of_below hb4H.out).trans (O1 := fun g => w.heap.size ≤ g ∧ g < w2.heap.size) (fun g hg => .inl hg) (frm10 (Frm.refl _ _) (.inl ⟨by omega, hR2H.out.lt⟩) _ _ _ _ _ _ _ _ _ _))⟩
set_option maxRecDepth 100000 in
set_option maxHeartbeats 4000000 in
theorem call_err (h : KerIs w B q K M) {pid : Int} {n : Nat} (hl : liveM K pid = some n) (no a b : Int) (s t : ByteArray) (pa : Option Addr) (pn pc : Nat) (n1 n2 : Int) (st : ByteArray) (la : Option Addr) (ln lc : Nat) (x0 x1 x2 x3 x4 : Int) (er : Int) (her : er ≠ 0)
    (hwt : ∀ W, Below w.heap.size w W → Calls Tryz.prog 47 #[.pointer (some ⟨q, 0, none⟩), .pointer (some ⟨M.br n, 0, none⟩), .agg #[.int .i64 no, .int .i64 a, .int .i64 b, .string s, .string t, .slice pa pn pc]] W fun e w' => e = .returned (.bool false) ∧ Below W.heap.size W w')
    (han : ∀ W, Below w.heap.size w W → Calls Tryz.prog 48 #[.pointer (some ⟨q, 0, none⟩), .pointer (some ⟨M.br n, 0, none⟩), .agg #[.int .i64 no, .int .i64 a, .int .i64 b, .string s, .string t, .slice pa pn pc]] W fun e w' => e = .returned (.tuple #[.agg #[.int .i64 n1, .int .i64 n2, .string st, .slice la ln lc, .int .i64 x0, .int .i64 x1, .int .i64 x2, .int .i64 x3, .int .i64 x4, .int .i64 0], .int .i64 er]) ∧ KP (AllX B) W K M w' q K') :
    Calls Tryz.prog 15 #[.pointer (some ⟨q, 0, none⟩), .int .i64 pid, .agg #[.int .i64 no, .int .i64 a, .int .i64 b, .string s, .string t, .slice pa pn pc]] w fun e w' => e = .returned (.tuple #[.agg #[.int .i64 0, .int .i64 0, .string ⟨#[]⟩, .slice none 0 0, .int .i64 0, .int .i64 0, .int .i64 0, .int .i64 0, .int .i64 0, .int .i64 er], .bool false]) ∧ KP (AllX B) w K M w' q K' := by
  have hwtH := Lib.hid hwt
  have hanH := Lib.hid han
  have hH := Lib.hid h
  have hpr := Lib.hid (process_w h hl)
  have d0 : (er == 0) = false := beq_eq_false_iff_ne.2 her
  have d1 : (er != 0) = true := by simp [her]
  clear her
  obtain ⟨b9, hb9⟩ : ∃ b9, M.br n = b9 := ⟨_, rfl⟩
  rw [hb9] at hpr hwtH hanH
  clear h hb9 hl hwt han
  go_enter Tryz.func15, Tryz.ntmps15
  go_upto_region 1 with fail
  obtain ⟨W0, hW0⟩ : ∃ W, (w.alloc (.cells #[.int .i64 no, .int .i64 a, .int .i64 b, .string s, .string t, .slice pa pn pc] 34)).alloc (.cells #[.int .i64 0, .int .i64 0, .string ⟨#[]⟩, .slice none 0 0, .int .i64 0, .int .i64 0, .int .i64 0, .int .i64 0, .int .i64 0, .int .i64 0] 44) = W := ⟨_, rfl⟩
  have hb0 : Below w.heap.size w W0 := by rw [← hW0]; exact ((Below.refl _ w).alloc (Nat.le_refl _) _).alloc (by simp) _
  have hC0 : Blk W0 w.heap.size 34 #[.int .i64 no, .int .i64 a, .int .i64 b, .string s, .string t, .slice pa pn pc] := by rw [← hW0]; exact (Blk.new w _ _).alloc _
  have hR0 : Blk W0 (w.heap.size + 1) 44 #[.int .i64 0, .int .i64 0, .string ⟨#[]⟩, .slice none 0 0, .int .i64 0, .int .i64 0, .int .i64 0, .int .i64 0, .int .i64 0, .int .i64 0] := by
    have h := Blk.new (w.alloc (.cells #[.int .i64 no, .int .i64 a, .int .i64 b, .string s, .string t, .slice pa pn pc] 34)) 44 #[.int .i64 0, .int .i64 0, .string ⟨#[]⟩, .slice none 0 0, .int .i64 0, .int .i64 0, .int .i64 0, .int .i64 0, .int .i64 0, .int .i64 0]
    rw [World.size_alloc, hW0] at h
    exact h
  have hb0H := Lib.hid hb0
  have hC0H := Lib.hid hC0
  have hR0H := Lib.hid hR0
  rw [hW0]
  clear hb0 hC0 hR0 hW0
  go_upto_region 7 with (first
    | (go_at_call 46; refine (hpr.out W0 hb0H.out).mono ?_; rintro e w1 ⟨rfl, hb1⟩
       have hb01 := hb0H.out.trans (hb1.mono hb0H.out.size)
       have hC1 := hC0H.out.keep (hb1.block _ hC0H.out.lt)
       have p0 : w1.cell? ⟨w.heap.size, 0, none⟩ = some (.int .i64 no) := hC1.cell 0
       have p1 : w1.cell? ⟨w.heap.size, 1, none⟩ = some (.int .i64 a) := hC1.cell 1
       have p2 : w1.cell? ⟨w.heap.size, 2, none⟩ = some (.int .i64 b) := hC1.cell 2
       have p3 : w1.cell? ⟨w.heap.size, 3, none⟩ = some (.string s) := hC1.cell 3
       have p4 : w1.cell? ⟨w.heap.size, 4, none⟩ = some (.string t) := hC1.cell 4
       have p5 : w1.cell? ⟨w.heap.size, 5, none⟩ = some (.slice pa pn pc) := hC1.cell 5
       have hR1 := Lib.hid (hR0H.out.keep (hb1.block _ hR0H.out.lt))
       have hb01H := Lib.hid hb01; have hC1H := Lib.hid hC1; clear hb1 hb01 hC1)
    | (go_at_call 47; refine (hwtH.out w1 hb01H.out).mono ?_; rintro e w2 ⟨rfl, hb2⟩
       have hb02 := hb01H.out.trans (hb2.mono hb01H.out.size)
       have hC2 := hC1H.out.keep (hb2.block _ hC1H.out.lt)
       have y0 : w2.cell? ⟨w.heap.size, 0, none⟩ = some (.int .i64 no) := hC2.cell 0
       have y1 : w2.cell? ⟨w.heap.size, 1, none⟩ = some (.int .i64 a) := hC2.cell 1
       have y2 : w2.cell? ⟨w.heap.size, 2, none⟩ = some (.int .i64 b) := hC2.cell 2
       have y3 : w2.cell? ⟨w.heap.size, 3, none⟩ = some (.string s) := hC2.cell 3
       have y4 : w2.cell? ⟨w.heap.size, 4, none⟩ = some (.string t) := hC2.cell 4
       have y5 : w2.cell? ⟨w.heap.size, 5, none⟩ = some (.slice pa pn pc) := hC2.cell 5
       have hR2 := hR1.out.keep (hb2.block _ hR1.out.lt)
       have hb02H := Lib.hid hb02; have hR2H := Lib.hid hR2; clear hb2 hb02 hC2 hR2)
    | (go_at_call 48; refine (hanH.out w2 hb02H.out).mono ?_; rintro e w3 ⟨rfl, hk3⟩
       have hR3 := hR2H.out.keep (kp_keep hH.out hk3 (by omega) hR2H.out.lt)
       have hk3H := Lib.hid hk3; have hR3H := Lib.hid hR3; clear hk3 hR3))
  clear p0 p1 p2 p3 p4 p5 y0 y1 y2 y3 y4 y5
  obtain ⟨m3, hm3⟩ : ∃ m, w3.heap.size = m := ⟨_, rfl⟩
  obtain ⟨W4, hW4⟩ : ∃ W, w3.alloc (.cells #[.int .i64 n1, .int .i64 n2, .string st, .slice la ln lc, .int .i64 x0, .int .i64 x1, .int .i64 x2, .int .i64 x3, .int .i64 x4, .int .i64 0] 44) = W := ⟨_, rfl⟩
  have hb4 : Below w3.heap.size w3 W4 := by
    rw [← hW4]
    exact (Below.refl _ _).alloc (Nat.le_refl _) _
  have hT4 : Blk W4 w3.heap.size 44 #[.int .i64 n1, .int .i64 n2, .string st, .slice la ln lc, .int .i64 x0, .int .i64 x1, .int .i64 x2, .int .i64 x3, .int .i64 x4, .int .i64 0] := by
    rw [← hW4]
    exact Blk.new w3 _ _
  rw [hm3] at hT4
  have hR4 := hR3H.out.keep (hb4.block _ hR3H.out.lt)
  have rc0 : W4.cell? ⟨w.heap.size + 1, 0, none⟩ = some (.int .i64 0) := hR4.cell 0
  have rf0 : W4.frozen? ⟨w.heap.size + 1, 0, none⟩ = false := hR4.frozen 0
  have rc1 : W4.cell? ⟨w.heap.size + 1, 1, none⟩ = some (.int .i64 0) := hR4.cell 1
  have rf1 : W4.frozen? ⟨w.heap.size + 1, 1, none⟩ = false := hR4.frozen 1
  have rc2 : W4.cell? ⟨w.heap.size + 1, 2, none⟩ = some (.string ⟨#[]⟩) := hR4.cell 2
  have rf2 : W4.frozen? ⟨w.heap.size + 1, 2, none⟩ = false := hR4.frozen 2
  have rc3 : W4.cell? ⟨w.heap.size + 1, 3, none⟩ = some (.slice none 0 0) := hR4.cell 3
  have rf3 : W4.frozen? ⟨w.heap.size + 1, 3, none⟩ = false := hR4.frozen 3
  have rc4 : W4.cell? ⟨w.heap.size + 1, 4, none⟩ = some (.int .i64 0) := hR4.cell 4
  have rf4 : W4.frozen? ⟨w.heap.size + 1, 4, none⟩ = false := hR4.frozen 4
  have rc5 : W4.cell? ⟨w.heap.size + 1, 5, none⟩ = some (.int .i64 0) := hR4.cell 5
  have rf5 : W4.frozen? ⟨w.heap.size + 1, 5, none⟩ = false := hR4.frozen 5
  have rc6 : W4.cell? ⟨w.heap.size + 1, 6, none⟩ = some (.int .i64 0) := hR4.cell 6
  have rf6 : W4.frozen? ⟨w.heap.size + 1, 6, none⟩ = false := hR4.frozen 6
  have rc7 : W4.cell? ⟨w.heap.size + 1, 7, none⟩ = some (.int .i64 0) := hR4.cell 7
  have rf7 : W4.frozen? ⟨w.heap.size + 1, 7, none⟩ = false := hR4.frozen 7
  have rc8 : W4.cell? ⟨w.heap.size + 1, 8, none⟩ = some (.int .i64 0) := hR4.cell 8
  have rf8 : W4.frozen? ⟨w.heap.size + 1, 8, none⟩ = false := hR4.frozen 8
  have rc9 : W4.cell? ⟨w.heap.size + 1, 9, none⟩ = some (.int .i64 0) := hR4.cell 9
  have rf9 : W4.frozen? ⟨w.heap.size + 1, 9, none⟩ = false := hR4.frozen 9
  have tc0 : W4.cell? ⟨m3, 0, none⟩ = some (.int .i64 n1) := hT4.cell 0
  have tc1 : W4.cell? ⟨m3, 1, none⟩ = some (.int .i64 n2) := hT4.cell 1
  have tc2 : W4.cell? ⟨m3, 2, none⟩ = some (.string st) := hT4.cell 2
  have tc3 : W4.cell? ⟨m3, 3, none⟩ = some (.slice la ln lc) := hT4.cell 3
  have tc4 : W4.cell? ⟨m3, 4, none⟩ = some (.int .i64 x0) := hT4.cell 4
  have tc5 : W4.cell? ⟨m3, 5, none⟩ = some (.int .i64 x1) := hT4.cell 5
  have tc6 : W4.cell? ⟨m3, 6, none⟩ = some (.int .i64 x2) := hT4.cell 6
  have tc7 : W4.cell? ⟨m3, 7, none⟩ = some (.int .i64 x3) := hT4.cell 7
  have tc8 : W4.cell? ⟨m3, 8, none⟩ = some (.int .i64 x4) := hT4.cell 8
  have tc9 : W4.cell? ⟨m3, 9, none⟩ = some (.int .i64 0) := hT4.cell 9
  have hb4H := Lib.hid hb4
  have hR4H := Lib.hid hR4
  rw [hW4, hm3]
  clear hW4 hb4 hT4 hR4 hm3
  go_wp2_with fail
  (try simp only [Exit.inBlock, Exit.then])
  refine bodyPost_ret (results_cell_row2 rfl _ _ (w.heap.size + 1) 44 _ _ rfl (put10 hR4H.out (.int .i64 0) (.int .i64 0) (.string ⟨#[]⟩) (.slice none 0 0) (.int .i64 0) (.int .i64 0) (.int .i64 0) (.int .i64 0) (.int .i64 0) (.int .i64 er)) Tryz.underlying44 rfl (by kernel_rfl)) rfl ?_
  exact ⟨rfl, kp_end hH.out hb02H.out hk3H.out ((Frm.of_below hb4H.out).trans (O1 := fun g => w.heap.size ≤ g ∧ g < w2.heap.size) (fun g hg => .inl hg) (frm10 (Frm.refl _ _) (.inl ⟨by omega, hR2H.out.lt⟩) _ _ _ _ _ _ _ _ _ _))⟩
end
end Go.Proofs.YtmilagppbepnbaaGreat.Kn
