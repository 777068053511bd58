/- The kernel's gate: onDescriptors, onProcess, answer, Call, whatever the inner call does. Condition: the kernel lies as stated. -/
import Derived.Test.YtmilagppbepnbaaGreatKgX
namespace Go.Proofs.YtmilagppbepnbaaGreat.Kn
open Go.RowKit Go.PlainAid
set_option linter.unusedVariables false
set_option linter.unusedSimpArgs false
attribute [local go_sem] Oper.semAt_some
/-- What is answered, as cells. -/
abbrev resC (n m : Int) (s : ByteArray) (la : Option Addr) (ln lc : Nat) (x0 x1 x2 x3 x4 er : Int) : Array Value := #[.int .i64 n, .int .i64 m, .string s, .slice la ln lc, .int .i64 x0, .int .i64 x1, .int .i64 x2, .int .i64 x3, .int .i64 x4, .int .i64 er]
theorem put10 {W : World} {g : Nat} {t : TypeId} (h : Blk W g t #[.int .i64 0, .int .i64 0, .string ⟨#[]⟩, .slice none 0 0, .int .i64 0, .int .i64 0, .int .i64 0, .int .i64 0, .int .i64 0, .int .i64 0]) (v0 v1 v2 v3 v4 v5 v6 v7 v8 v9 : Value) :
    Blk ((((((((((W.setCell ⟨g, 0, none⟩ v0).setCell ⟨g, 1, none⟩ v1).setCell ⟨g, 2, none⟩ v2).setCell ⟨g, 3, none⟩ v3).setCell ⟨g, 4, none⟩ v4).setCell ⟨g, 5, none⟩ v5).setCell ⟨g, 6, none⟩ v6).setCell ⟨g, 7, none⟩ v7).setCell ⟨g, 8, none⟩ v8).setCell ⟨g, 9, none⟩ v9) g t #[v0, v1, v2, v3, v4, v5, v6, v7, v8, v9] := by
  have h0 : Blk (W.setCell ⟨g, 0, none⟩ v0) g t #[v0, .int .i64 0, .string ⟨#[]⟩, .slice none 0 0, .int .i64 0, .int .i64 0, .int .i64 0, .int .i64 0, .int .i64 0, .int .i64 0] := h.set_ 0 v0
  have h1 : Blk ((W.setCell ⟨g, 0, none⟩ v0).setCell ⟨g, 1, none⟩ v1) g t #[v0, v1, .string ⟨#[]⟩, .slice none 0 0, .int .i64 0, .int .i64 0, .int .i64 0, .int .i64 0, .int .i64 0, .int .i64 0] := h0.set_ 1 v1
  have h2 : Blk (((W.setCell ⟨g, 0, none⟩ v0).setCell ⟨g, 1, none⟩ v1).setCell ⟨g, 2, none⟩ v2) g t #[v0, v1, v2, .slice none 0 0, .int .i64 0, .int .i64 0, .int .i64 0, .int .i64 0, .int .i64 0, .int .i64 0] := h1.set_ 2 v2
  have h3 : Blk ((((W.setCell ⟨g, 0, none⟩ v0).setCell ⟨g, 1, none⟩ v1).setCell ⟨g, 2, none⟩ v2).setCell ⟨g, 3, none⟩ v3) g t #[v0, v1, v2, v3, .int .i64 0, .int .i64 0, .int .i64 0, .int .i64 0, .int .i64 0, .int .i64 0] := h2.set_ 3 v3
  have h4 : Blk (((((W.setCell ⟨g, 0, none⟩ v0).setCell ⟨g, 1, none⟩ v1).setCell ⟨g, 2, none⟩ v2).setCell ⟨g, 3, none⟩ v3).setCell ⟨g, 4, none⟩ v4) g t #[v0, v1, v2, v3, v4, .int .i64 0, .int .i64 0, .int .i64 0, .int .i64 0, .int .i64 0] := h3.set_ 4 v4
  have h5 : Blk ((((((W.setCell ⟨g, 0, none⟩ v0).setCell ⟨g, 1, none⟩ v1).setCell ⟨g, 2, none⟩ v2).setCell ⟨g, 3, none⟩ v3).setCell ⟨g, 4, none⟩ v4).setCell ⟨g, 5, none⟩ v5) g t #[v0, v1, v2, v3, v4, v5, .int .i64 0, .int .i64 0, .int .i64 0, .int .i64 0] := h4.set_ 5 v5
  have h6 : Blk (((((((W.setCell ⟨g, 0, none⟩ v0).setCell ⟨g, 1, none⟩ v1).setCell ⟨g, 2, none⟩ v2).setCell ⟨g, 3, none⟩ v3).setCell ⟨g, 4, none⟩ v4).setCell ⟨g, 5, none⟩ v5).setCell ⟨g, 6, none⟩ v6) g t #[v0, v1, v2, v3, v4, v5, v6, .int .i64 0, .int .i64 0, .int .i64 0] := h5.set_ 6 v6
  have h7 : Blk ((((((((W.setCell ⟨g, 0, none⟩ v0).setCell ⟨g, 1, none⟩ v1).setCell ⟨g, 2, none⟩ v2).setCell ⟨g, 3, none⟩ v3).setCell ⟨g, 4, none⟩ v4).setCell ⟨g, 5, none⟩ v5).setCell ⟨g, 6, none⟩ v6).setCell ⟨g, 7, none⟩ v7) g t #[v0, v1, v2, v3, v4, v5, v6, v7, .int .i64 0, .int .i64 0] := h6.set_ 7 v7
  have h8 : Blk (((((((((W.setCell ⟨g, 0, none⟩ v0).setCell ⟨g, 1, none⟩ v1).setCell ⟨g, 2, none⟩ v2).setCell ⟨g, 3, none⟩ v3).setCell ⟨g, 4, none⟩ v4).setCell ⟨g, 5, none⟩ v5).setCell ⟨g, 6, none⟩ v6).setCell ⟨g, 7, none⟩ v7).setCell ⟨g, 8, none⟩ v8) g t #[v0, v1, v2, v3, v4, v5, v6, v7, v8, .int .i64 0] := h7.set_ 8 v8
  have h9 : Blk ((((((((((W.setCell ⟨g, 0, none⟩ v0).setCell ⟨g, 1, none⟩ v1).setCell ⟨g, 2, none⟩ v2).setCell ⟨g, 3, none⟩ v3).setCell ⟨g, 4, none⟩ v4).setCell ⟨g, 5, none⟩ v5).setCell ⟨g, 6, none⟩ v6).setCell ⟨g, 7, none⟩ v7).setCell ⟨g, 8, none⟩ v8).setCell ⟨g, 9, none⟩ v9) g t #[v0, v1, v2, v3, v4, v5, v6, v7, v8, v9] := h8.set_ 9 v9
  exact h9
section
variable {w w' w3 w4 : World} {B : Ix → Nat → Prop} {q : Nat} {K K' : Ker} {M : Mp} {c : Nat}
/-- What lies above the kernel's blocks may turn. -/
theorem kp_end (h : KerIs w B q K M) {W : World} (hb : Below w.heap.size w W) (hk : KP (AllX B) W K M w3 q K') (h4 : Frm (fun g => w.heap.size ≤ g ∧ g < W.heap.size) w3 w4) : KP (AllX B) w K M w4 q K' := by
  obtain ⟨B', M', k1, k2, k3, k4, k5, k6, k7⟩ := hk
  refine ⟨B', M', k1.frm h4 (fun i g hg ⟨h1, h2⟩ => ?_), k2, k3, k4, k5, fun g hg => (k6 g hg).imp_right (fun h' => Nat.le_trans hb.size h'), ?_⟩
  · rcases k6 g ⟨i, hg⟩ with ⟨j, hj⟩ | h'
    · have := h.lt j g hj; omega
    · omega
  · exact ((Frm.of_below hb).trans (O := AllX B) (O1 := AllX B) (fun g hg => .inl hg) k7).trans (fun g ⟨h1, _⟩ => .inr h1) h4
theorem kp_keep (h : KerIs w B q K M) {W : World} (hk : KP (AllX B) W K M w3 q K') {g : Nat} (h1 : w.heap.size ≤ g) (h2 : g < W.heap.size) : w3.heap[g]? = W.heap[g]? := by
  obtain ⟨B', M', k1, k2, k3, k4, k5, k6, k7⟩ := hk
  exact k7.block g h2 (fun ⟨j, hj⟩ => by have := h.lt j g hj; omega)
theorem frm10 {O : Nat → Prop} {W0 W : World} {g : Nat} (h : Frm O W0 W) (hg : O g ∨ W0.heap.size ≤ g) (v0 v1 v2 v3 v4 v5 v6 v7 v8 v9 : Value) :
    Frm O W0 ((((((((((W.setCell ⟨g, 0, none⟩ v0).setCell ⟨g, 1, none⟩ v1).setCell ⟨g, 2, none⟩ v2).setCell ⟨g, 3, none⟩ v3).setCell ⟨g, 4, none⟩ v4).setCell ⟨g, 5, none⟩ v5).setCell ⟨g, 6, none⟩ v6).setCell ⟨g, 7, none⟩ v7).setCell ⟨g, 8, none⟩ v8).setCell ⟨g, 9, none⟩ v9) :=
  (((((((((h.setCell (a := ⟨g, 0, none⟩) hg v0).setCell (a := ⟨g, 1, none⟩) hg v1).setCell (a := ⟨g, 2, none⟩) hg v2).setCell (a := ⟨g, 3, none⟩) hg v3).setCell (a := ⟨g, 4, none⟩) hg v4).setCell (a := ⟨g, 5, none⟩) hg v5).setCell (a := ⟨g, 6, none⟩) hg v6).setCell (a := ⟨g, 7, none⟩) hg v7).setCell (a := ⟨g, 8, none⟩) hg v8).setCell (a := ⟨g, 9, none⟩) hg v9
set_option maxRecDepth 100000 in
set_option maxHeartbeats 4000000 in
theorem on_read (h : KerIs w B q K M) {pb : Nat} (a b : Int) (s t : ByteArray) (pa : Option Addr) (pn pc : Nat) (st : ByteArray) (er : Int)
    (hin : ∀ W, Below w.heap.size w W → Calls Tryz.prog 137 #[.pointer (some ⟨q, 0, none⟩), .pointer (some ⟨pb, 0, none⟩), .int .i64 a, .int .i64 b] W fun e w' => e = .returned (.tuple #[.string st, .int .i64 er]) ∧ KP (AllX B) W K M w' q K') :
    Calls Tryz.prog 89 #[.pointer (some ⟨q, 0, none⟩), .pointer (some ⟨pb, 0, none⟩), .agg #[.int .i64 1, .int .i64 a, .int .i64 b, .string s, .string t, .slice pa pn pc]] w fun e w' => e = .returned (.tuple #[.agg #[.int .i64 0, .int .i64 0, .string st, .slice none 0 0, .int .i64 0, .int .i64 0, .int .i64 0, .int .i64 0, .int .i64 0, .int .i64 0], .int .i64 er]) ∧ KP (AllX B) w K M w' q K' := by
  have hinH := Lib.hid hin
  have hH := Lib.hid h
  clear h hin
  go_enter Tryz.func89, Tryz.ntmps89
  go_upto_region 5 with fail
  obtain ⟨W0, hW0⟩ : ∃ W, ((w.alloc (.cells #[.int .i64 1, .int .i64 a, .int .i64 b, .string s, .string t, .slice pa pn pc] 34)).alloc (.cells #[.int .i64 0, .int .i64 0, .string ⟨#[]⟩, .slice none 0 0, .int .i64 0, .int .i64 0, .int .i64 0, .int .i64 0, .int .i64 0, .int .i64 0] 44)).alloc (.cells #[.int .i64 0, .int .i64 0, .string ⟨#[]⟩, .slice none 0 0, .int .i64 0, .int .i64 0, .int .i64 0, .int .i64 0, .int .i64 0, .int .i64 0] 44) = W := ⟨_, rfl⟩
  have hb0 : Below w.heap.size w W0 := by rw [← hW0]; exact (((Below.refl _ w).alloc (Nat.le_refl _) _).alloc (by simp) _).alloc (by simp; omega) _
  have hC0 : Blk W0 w.heap.size 34 #[.int .i64 1, .int .i64 a, .int .i64 b, .string s, .string t, .slice pa pn pc] := by rw [← hW0]; exact ((Blk.new w _ _).alloc _).alloc _
  have hR0 : Blk W0 (w.heap.size + 1) 44 #[.int .i64 0, .int .i64 0, .string ⟨#[]⟩, .slice none 0 0, .int .i64 0, .int .i64 0, .int .i64 0, .int .i64 0, .int .i64 0, .int .i64 0] := by
    have h := (Blk.new (w.alloc (.cells #[.int .i64 1, .int .i64 a, .int .i64 b, .string s, .string t, .slice pa pn pc] 34)) 44 #[.int .i64 0, .int .i64 0, .string ⟨#[]⟩, .slice none 0 0, .int .i64 0, .int .i64 0, .int .i64 0, .int .i64 0, .int .i64 0, .int .i64 0]).alloc (.cells #[.int .i64 0, .int .i64 0, .string ⟨#[]⟩, .slice none 0 0, .int .i64 0, .int .i64 0, .int .i64 0, .int .i64 0, .int .i64 0, .int .i64 0] 44)
    rw [World.size_alloc, hW0] at h
    exact h
  have hr0 : Blk W0 (w.heap.size + 2) 44 #[.int .i64 0, .int .i64 0, .string ⟨#[]⟩, .slice none 0 0, .int .i64 0, .int .i64 0, .int .i64 0, .int .i64 0, .int .i64 0, .int .i64 0] := by
    have h := Blk.new ((w.alloc (.cells #[.int .i64 1, .int .i64 a, .int .i64 b, .string s, .string t, .slice pa pn pc] 34)).alloc (.cells #[.int .i64 0, .int .i64 0, .string ⟨#[]⟩, .slice none 0 0, .int .i64 0, .int .i64 0, .int .i64 0, .int .i64 0, .int .i64 0, .int .i64 0] 44)) 44 #[.int .i64 0, .int .i64 0, .string ⟨#[]⟩, .slice none 0 0, .int .i64 0, .int .i64 0, .int .i64 0, .int .i64 0, .int .i64 0, .int .i64 0]
    rw [World.size_alloc, World.size_alloc, hW0] at h
    exact h
  have a1 : W0.cell? ⟨w.heap.size, 1, none⟩ = some (.int .i64 a) := hC0.cell 1
  have a2 : W0.cell? ⟨w.heap.size, 2, none⟩ = some (.int .i64 b) := hC0.cell 2
  have a3 : W0.cell? ⟨w.heap.size, 3, none⟩ = some (.string s) := hC0.cell 3
  have hb0H := Lib.hid hb0
  have hR0H := Lib.hid hR0
  have hr0H := Lib.hid hr0
  rw [hW0]
  clear hb0 hC0 hR0 hr0 hW0
  go_wp2_with (first
    | (go_at_call 137; refine (hinH.out W0 hb0H.out).mono ?_; rintro e w3 ⟨rfl, hk3⟩
       have hR3 := hR0H.out.keep (kp_keep hH.out hk3 (by omega) hR0H.out.lt)
       have hr3 := hr0H.out.keep (kp_keep hH.out hk3 (by omega) hr0H.out.lt)
       have rc0 : w3.cell? ⟨w.heap.size + 1, 0, none⟩ = some (.int .i64 0) := hR3.cell 0
       have rf0 : w3.frozen? ⟨w.heap.size + 1, 0, none⟩ = false := hR3.frozen 0
       have rc1 : w3.cell? ⟨w.heap.size + 1, 1, none⟩ = some (.int .i64 0) := hR3.cell 1
       have rf1 : w3.frozen? ⟨w.heap.size + 1, 1, none⟩ = false := hR3.frozen 1
       have rc2 : w3.cell? ⟨w.heap.size + 1, 2, none⟩ = some (.string ⟨#[]⟩) := hR3.cell 2
       have rf2 : w3.frozen? ⟨w.heap.size + 1, 2, none⟩ = false := hR3.frozen 2
       have rc3 : w3.cell? ⟨w.heap.size + 1, 3, none⟩ = some (.slice none 0 0) := hR3.cell 3
       have rf3 : w3.frozen? ⟨w.heap.size + 1, 3, none⟩ = false := hR3.frozen 3
       have rc4 : w3.cell? ⟨w.heap.size + 1, 4, none⟩ = some (.int .i64 0) := hR3.cell 4
       have rf4 : w3.frozen? ⟨w.heap.size + 1, 4, none⟩ = false := hR3.frozen 4
       have rc5 : w3.cell? ⟨w.heap.size + 1, 5, none⟩ = some (.int .i64 0) := hR3.cell 5
       have rf5 : w3.frozen? ⟨w.heap.size + 1, 5, none⟩ = false := hR3.frozen 5
       have rc6 : w3.cell? ⟨w.heap.size + 1, 6, none⟩ = some (.int .i64 0) := hR3.cell 6
       have rf6 : w3.frozen? ⟨w.heap.size + 1, 6, none⟩ = false := hR3.frozen 6
       have rc7 : w3.cell? ⟨w.heap.size + 1, 7, none⟩ = some (.int .i64 0) := hR3.cell 7
       have rf7 : w3.frozen? ⟨w.heap.size + 1, 7, none⟩ = false := hR3.frozen 7
       have rc8 : w3.cell? ⟨w.heap.size + 1, 8, none⟩ = some (.int .i64 0) := hR3.cell 8
       have rf8 : w3.frozen? ⟨w.heap.size + 1, 8, none⟩ = false := hR3.frozen 8
       have rc9 : w3.cell? ⟨w.heap.size + 1, 9, none⟩ = some (.int .i64 0) := hR3.cell 9
       have rf9 : w3.frozen? ⟨w.heap.size + 1, 9, none⟩ = false := hR3.frozen 9
       have uc0 : w3.cell? ⟨w.heap.size + 2, 0, none⟩ = some (.int .i64 0) := hr3.cell 0
       have uf0 : w3.frozen? ⟨w.heap.size + 2, 0, none⟩ = false := hr3.frozen 0
       have uc1 : w3.cell? ⟨w.heap.size + 2, 1, none⟩ = some (.int .i64 0) := hr3.cell 1
       have uf1 : w3.frozen? ⟨w.heap.size + 2, 1, none⟩ = false := hr3.frozen 1
       have uc2 : w3.cell? ⟨w.heap.size + 2, 2, none⟩ = some (.string ⟨#[]⟩) := hr3.cell 2
       have uf2 : w3.frozen? ⟨w.heap.size + 2, 2, none⟩ = false := hr3.frozen 2
       have uc3 : w3.cell? ⟨w.heap.size + 2, 3, none⟩ = some (.slice none 0 0) := hr3.cell 3
       have uf3 : w3.frozen? ⟨w.heap.size + 2, 3, none⟩ = false := hr3.frozen 3
       have uc4 : w3.cell? ⟨w.heap.size + 2, 4, none⟩ = some (.int .i64 0) := hr3.cell 4
       have uf4 : w3.frozen? ⟨w.heap.size + 2, 4, none⟩ = false := hr3.frozen 4
       have uc5 : w3.cell? ⟨w.heap.size + 2, 5, none⟩ = some (.int .i64 0) := hr3.cell 5
       have uf5 : w3.frozen? ⟨w.heap.size + 2, 5, none⟩ = false := hr3.frozen 5
       have uc6 : w3.cell? ⟨w.heap.size + 2, 6, none⟩ = some (.int .i64 0) := hr3.cell 6
       have uf6 : w3.frozen? ⟨w.heap.size + 2, 6, none⟩ = false := hr3.frozen 6
       have uc7 : w3.cell? ⟨w.heap.size + 2, 7, none⟩ = some (.int .i64 0) := hr3.cell 7
       have uf7 : w3.frozen? ⟨w.heap.size + 2, 7, none⟩ = false := hr3.frozen 7
       have uc8 : w3.cell? ⟨w.heap.size + 2, 8, none⟩ = some (.int .i64 0) := hr3.cell 8
       have uf8 : w3.frozen? ⟨w.heap.size + 2, 8, none⟩ = false := hr3.frozen 8
       have uc9 : w3.cell? ⟨w.heap.size + 2, 9, none⟩ = some (.int .i64 0) := hr3.cell 9
       have uf9 : w3.frozen? ⟨w.heap.size + 2, 9, none⟩ = false := hr3.frozen 9
       have hk3H := Lib.hid hk3; have hR3H := Lib.hid hR3; clear hk3 hR3 hr3))
  (try simp only [Exit.inBlock, Exit.then])
  refine bodyPost_ret (results_cell_row2 rfl _ _ (w.heap.size + 1) 44 _ _ rfl (put10 (hR3H.out.far (p := ⟨w.heap.size + 2, 2, none⟩) (by show w.heap.size + 1 ≠ w.heap.size + 2; omega) _) (.int .i64 0) (.int .i64 0) (.string st) (.slice none 0 0) (.int .i64 0) (.int .i64 0) (.int .i64 0) (.int .i64 0) (.int .i64 0) (.int .i64 0)) Tryz.underlying44 rfl (by kernel_rfl)) rfl ?_
  exact ⟨rfl, kp_end hH.out hb0H.out hk3H.out (frm10 ((Frm.refl _ _).setCell (a := ⟨w.heap.size + 2, 2, none⟩) (.inl (by show w.heap.size ≤ w.heap.size + 2 ∧ w.heap.size + 2 < _; have := hr0H.out.lt; omega)) _) (.inl (by show w.heap.size ≤ w.heap.size + 1 ∧ w.heap.size + 1 < _; have := hR0H.out.lt; omega)) _ _ _ _ _ _ _ _ _ _)⟩
set_option maxRecDepth 100000 in
set_option maxHeartbeats 4000000 in
theorem on_write (h : KerIs w B q K M) {pb : Nat} (a b : Int) (s t : ByteArray) (pa : Option Addr) (pn pc : Nat) (n1 er : Int)
    (hin : ∀ W, Below w.heap.size w W → Calls Tryz.prog 138 #[.pointer (some ⟨q, 0, none⟩), .pointer (some ⟨pb, 0, none⟩), .int .i64 a, .string s] W fun e w' => e = .returned (.tuple #[.int .i64 n1, .int .i64 er]) ∧ KP (AllX B) W K M w' q K') :
    Calls Tryz.prog 89 #[.pointer (some ⟨q, 0, none⟩), .pointer (some ⟨pb, 0, none⟩), .agg #[.int .i64 2, .int .i64 a, .int .i64 b, .string s, .string t, .slice pa pn pc]] w fun e w' => e = .returned (.tuple #[.agg #[.int .i64 n1, .int .i64 0, .string ⟨#[]⟩, .slice none 0 0, .int .i64 0, .int .i64 0, .int .i64 0, .int .i64 0, .int .i64 0, .int .i64 0], .int .i64 er]) ∧ KP (AllX B) w K M w' q K' := by
  have hinH := Lib.hid hin
  have hH := Lib.hid h
  clear h hin
  go_enter Tryz.func89, Tryz.ntmps89
  go_upto_region 7 with fail
  obtain ⟨W0, hW0⟩ : ∃ W, ((w.alloc (.cells #[.int .i64 2, .int .i64 a, .int .i64 b, .string s, .string t, .slice pa pn pc] 34)).alloc (.cells #[.int .i64 0, .int .i64 0, .string ⟨#[]⟩, .slice none 0 0, .int .i64 0, .int .i64 0, .int .i64 0, .int .i64 0, .int .i64 0, .int .i64 0] 44)).alloc (.cells #[.int .i64 0, .int .i64 0, .string ⟨#[]⟩, .slice none 0 0, .int .i64 0, .int .i64 0, .int .i64 0, .int .i64 0, .int .i64 0, .int .i64 0] 44) = W := ⟨_, rfl⟩
  have hb0 : Below w.heap.size w W0 := by rw [← hW0]; exact (((Below.refl _ w).alloc (Nat.le_refl _) _).alloc (by simp) _).alloc (by simp; omega) _
  have hC0 : Blk W0 w.heap.size 34 #[.int .i64 2, .int .i64 a, .int .i64 b, .string s, .string t, .slice pa pn pc] := by rw [← hW0]; exact ((Blk.new w _ _).alloc _).alloc _
  have hR0 : Blk W0 (w.heap.size + 1) 44 #[.int .i64 0, .int .i64 0, .string ⟨#[]⟩, .slice none 0 0, .int .i64 0, .int .i64 0, .int .i64 0, .int .i64 0, .int .i64 0, .int .i64 0] := by
    have h := (Blk.new (w.alloc (.cells #[.int .i64 2, .int .i64 a, .int .i64 b, .string s, .string t, .slice pa pn pc] 34)) 44 #[.int .i64 0, .int .i64 0, .string ⟨#[]⟩, .slice none 0 0, .int .i64 0, .int .i64 0, .int .i64 0, .int .i64 0, .int .i64 0, .int .i64 0]).alloc (.cells #[.int .i64 0, .int .i64 0, .string ⟨#[]⟩, .slice none 0 0, .int .i64 0, .int .i64 0, .int .i64 0, .int .i64 0, .int .i64 0, .int .i64 0] 44)
    rw [World.size_alloc, hW0] at h
    exact h
  have hr0 : Blk W0 (w.heap.size + 2) 44 #[.int .i64 0, .int .i64 0, .string ⟨#[]⟩, .slice none 0 0, .int .i64 0, .int .i64 0, .int .i64 0, .int .i64 0, .int .i64 0, .int .i64 0] := by
    have h := Blk.new ((w.alloc (.cells #[.int .i64 2, .int .i64 a, .int .i64 b, .string s, .string t, .slice pa pn pc] 34)).alloc (.cells #[.int .i64 0, .int .i64 0, .string ⟨#[]⟩, .slice none 0 0, .int .i64 0, .int .i64 0, .int .i64 0, .int .i64 0, .int .i64 0, .int .i64 0] 44)) 44 #[.int .i64 0, .int .i64 0, .string ⟨#[]⟩, .slice none 0 0, .int .i64 0, .int .i64 0, .int .i64 0, .int .i64 0, .int .i64 0, .int .i64 0]
    rw [World.size_alloc, World.size_alloc, hW0] at h
    exact h
  have a1 : W0.cell? ⟨w.heap.size, 1, none⟩ = some (.int .i64 a) := hC0.cell 1
  have a2 : W0.cell? ⟨w.heap.size, 2, none⟩ = some (.int .i64 b) := hC0.cell 2
  have a3 : W0.cell? ⟨w.heap.size, 3, none⟩ = some (.string s) := hC0.cell 3
  have hb0H := Lib.hid hb0
  have hR0H := Lib.hid hR0
  have hr0H := Lib.hid hr0
  rw [hW0]
  clear hb0 hC0 hR0 hr0 hW0
  go_wp2_with (first
    | (go_at_call 138; refine (hinH.out W0 hb0H.out).mono ?_; rintro e w3 ⟨rfl, hk3⟩
       have hR3 := hR0H.out.keep (kp_keep hH.out hk3 (by omega) hR0H.out.lt)
       have hr3 := hr0H.out.keep (kp_keep hH.out hk3 (by omega) hr0H.out.lt)
       have rc0 : w3.cell? ⟨w.heap.size + 1, 0, none⟩ = some (.int .i64 0) := hR3.cell 0
       have rf0 : w3.frozen? ⟨w.heap.size + 1, 0, none⟩ = false := hR3.frozen 0
       have rc1 : w3.cell? ⟨w.heap.size + 1, 1, none⟩ = some (.int .i64 0) := hR3.cell 1
       have rf1 : w3.frozen? ⟨w.heap.size + 1, 1, none⟩ = false := hR3.frozen 1
       have rc2 : w3.cell? ⟨w.heap.size + 1, 2, none⟩ = some (.string ⟨#[]⟩) := hR3.cell 2
       have rf2 : w3.frozen? ⟨w.heap.size + 1, 2, none⟩ = false := hR3.frozen 2
       have rc3 : w3.cell? ⟨w.heap.size + 1, 3, none⟩ = some (.slice none 0 0) := hR3.cell 3
       have rf3 : w3.frozen? ⟨w.heap.size + 1, 3, none⟩ = false := hR3.frozen 3
       have rc4 : w3.cell? ⟨w.heap.size + 1, 4, none⟩ = some (.int .i64 0) := hR3.cell 4
       have rf4 : w3.frozen? ⟨w.heap.size + 1, 4, none⟩ = false := hR3.frozen 4
       have rc5 : w3.cell? ⟨w.heap.size + 1, 5, none⟩ = some (.int .i64 0) := hR3.cell 5
       have rf5 : w3.frozen? ⟨w.heap.size + 1, 5, none⟩ = false := hR3.frozen 5
       have rc6 : w3.cell? ⟨w.heap.size + 1, 6, none⟩ = some (.int .i64 0) := hR3.cell 6
       have rf6 : w3.frozen? ⟨w.heap.size + 1, 6, none⟩ = false := hR3.frozen 6
       have rc7 : w3.cell? ⟨w.heap.size + 1, 7, none⟩ = some (.int .i64 0) := hR3.cell 7
       have rf7 : w3.frozen? ⟨w.heap.size + 1, 7, none⟩ = false := hR3.frozen 7
       have rc8 : w3.cell? ⟨w.heap.size + 1, 8, none⟩ = some (.int .i64 0) := hR3.cell 8
       have rf8 : w3.frozen? ⟨w.heap.size + 1, 8, none⟩ = false := hR3.frozen 8
       have rc9 : w3.cell? ⟨w.heap.size + 1, 9, none⟩ = some (.int .i64 0) := hR3.cell 9
       have rf9 : w3.frozen? ⟨w.heap.size + 1, 9, none⟩ = false := hR3.frozen 9
       have uc0 : w3.cell? ⟨w.heap.size + 2, 0, none⟩ = some (.int .i64 0) := hr3.cell 0
       have uf0 : w3.frozen? ⟨w.heap.size + 2, 0, none⟩ = false := hr3.frozen 0
       have uc1 : w3.cell? ⟨w.heap.size + 2, 1, none⟩ = some (.int .i64 0) := hr3.cell 1
       have uf1 : w3.frozen? ⟨w.heap.size + 2, 1, none⟩ = false := hr3.frozen 1
       have uc2 : w3.cell? ⟨w.heap.size + 2, 2, none⟩ = some (.string ⟨#[]⟩) := hr3.cell 2
       have uf2 : w3.frozen? ⟨w.heap.size + 2, 2, none⟩ = false := hr3.frozen 2
       have uc3 : w3.cell? ⟨w.heap.size + 2, 3, none⟩ = some (.slice none 0 0) := hr3.cell 3
       have uf3 : w3.frozen? ⟨w.heap.size + 2, 3, none⟩ = false := hr3.frozen 3
       have uc4 : w3.cell? ⟨w.heap.size + 2, 4, none⟩ = some (.int .i64 0) := hr3.cell 4
       have uf4 : w3.frozen? ⟨w.heap.size + 2, 4, none⟩ = false := hr3.frozen 4
       have uc5 : w3.cell? ⟨w.heap.size + 2, 5, none⟩ = some (.int .i64 0) := hr3.cell 5
       have uf5 : w3.frozen? ⟨w.heap.size + 2, 5, none⟩ = false := hr3.frozen 5
       have uc6 : w3.cell? ⟨w.heap.size + 2, 6, none⟩ = some (.int .i64 0) := hr3.cell 6
       have uf6 : w3.frozen? ⟨w.heap.size + 2, 6, none⟩ = false := hr3.frozen 6
       have uc7 : w3.cell? ⟨w.heap.size + 2, 7, none⟩ = some (.int .i64 0) := hr3.cell 7
       have uf7 : w3.frozen? ⟨w.heap.size + 2, 7, none⟩ = false := hr3.frozen 7
       have uc8 : w3.cell? ⟨w.heap.size + 2, 8, none⟩ = some (.int .i64 0) := hr3.cell 8
       have uf8 : w3.frozen? ⟨w.heap.size + 2, 8, none⟩ = false := hr3.frozen 8
       have uc9 : w3.cell? ⟨w.heap.size + 2, 9, none⟩ = some (.int .i64 0) := hr3.cell 9
       have uf9 : w3.frozen? ⟨w.heap.size + 2, 9, none⟩ = false := hr3.frozen 9
       have hk3H := Lib.hid hk3; have hR3H := Lib.hid hR3; clear hk3 hR3 hr3))
  (try simp only [Exit.inBlock, Exit.then])
  refine bodyPost_ret (results_cell_row2 rfl _ _ (w.heap.size + 1) 44 _ _ rfl (put10 (hR3H.out.far (p := ⟨w.heap.size + 2, 0, none⟩) (by show w.heap.size + 1 ≠ w.heap.size + 2; omega) _) (.int .i64 n1) (.int .i64 0) (.string ⟨#[]⟩) (.slice none 0 0) (.int .i64 0) (.int .i64 0) (.int .i64 0) (.int .i64 0) (.int .i64 0) (.int .i64 0)) Tryz.underlying44 rfl (by kernel_rfl)) rfl ?_
  exact ⟨rfl, kp_end hH.out hb0H.out hk3H.out (frm10 ((Frm.refl _ _).setCell (a := ⟨w.heap.size + 2, 0, none⟩) (.inl (by show w.heap.size ≤ w.heap.size + 2 ∧ w.heap.size + 2 < _; have := hr0H.out.lt; omega)) _) (.inl (by show w.heap.size ≤ w.heap.size + 1 ∧ w.heap.size + 1 < _; have := hR0H.out.lt; omega)) _ _ _ _ _ _ _ _ _ _)⟩
set_option maxRecDepth 100000 in
set_option maxHeartbeats 4000000 in
theorem on_open (h : KerIs w B q K M) {pb : Nat} (a b : Int) (s t : ByteArray) (pa : Option Addr) (pn pc : Nat) (n1 er : Int)
    (hin : ∀ W, Below w.heap.size w W → Calls Tryz.prog 139 #[.pointer (some ⟨q, 0, none⟩), .pointer (some ⟨pb, 0, none⟩), .string s, .int .i64 a, .int .i64 b] W fun e w' => e = .returned (.tuple #[.int .i64 n1, .int .i64 er]) ∧ KP (AllX B) W K M w' q K') :
    Calls Tryz.prog 89 #[.pointer (some ⟨q, 0, none⟩), .pointer (some ⟨pb, 0, none⟩), .agg #[.int .i64 3, .int .i64 a, .int .i64 b, .string s, .string t, .slice pa pn pc]] w fun e w' => e = .returned (.tuple #[.agg #[.int .i64 n1, .int .i64 0, .string ⟨#[]⟩, .slice none 0 0, .int .i64 0, .int .i64 0, .int .i64 0, .int .i64 0, .int .i64 0, .int .i64 0], .int .i64 er]) ∧ KP (AllX B) w K M w' q K' := by
  have hinH := Lib.hid hin
  have hH := Lib.hid h
  clear h hin
  go_enter Tryz.func89, Tryz.ntmps89
  go_upto_region 9 with fail
  obtain ⟨W0, hW0⟩ : ∃ W, ((w.alloc (.cells #[.int .i64 3, .int .i64 a, .int .i64 b, .string s, .string t, .slice pa pn pc] 34)).alloc (.cells #[.int .i64 0, .int .i64 0, .string ⟨#[]⟩, .slice none 0 0, .int .i64 0, .int .i64 0, .int .i64 0, .int .i64 0, .int .i64 0, .int .i64 0] 44)).alloc (.cells #[.int .i64 0, .int .i64 0, .string ⟨#[]⟩, .slice none 0 0, .int .i64 0, .int .i64 0, .int .i64 0, .int .i64 0, .int .i64 0, .int .i64 0] 44) = W := ⟨_, rfl⟩
  have hb0 : Below w.heap.size w W0 := by rw [← hW0]; exact (((Below.refl _ w).alloc (Nat.le_refl _) _).alloc (by simp) _).alloc (by simp; omega) _
  have hC0 : Blk W0 w.heap.size 34 #[.int .i64 3, .int .i64 a, .int .i64 b, .string s, .string t, .slice pa pn pc] := by rw [← hW0]; exact ((Blk.new w _ _).alloc _).alloc _
  have hR0 : Blk W0 (w.heap.size + 1) 44 #[.int .i64 0, .int .i64 0, .string ⟨#[]⟩, .slice none 0 0, .int .i64 0, .int .i64 0, .int .i64 0, .int .i64 0, .int .i64 0, .int .i64 0] := by
    have h := (Blk.new (w.alloc (.cells #[.int .i64 3, .int .i64 a, .int .i64 b, .string s, .string t, .slice pa pn pc] 34)) 44 #[.int .i64 0, .int .i64 0, .string ⟨#[]⟩, .slice none 0 0, .int .i64 0, .int .i64 0, .int .i64 0, .int .i64 0, .int .i64 0, .int .i64 0]).alloc (.cells #[.int .i64 0, .int .i64 0, .string ⟨#[]⟩, .slice none 0 0, .int .i64 0, .int .i64 0, .int .i64 0, .int .i64 0, .int .i64 0, .int .i64 0] 44)
    rw [World.size_alloc, hW0] at h
    exact h
  have hr0 : Blk W0 (w.heap.size + 2) 44 #[.int .i64 0, .int .i64 0, .string ⟨#[]⟩, .slice none 0 0, .int .i64 0, .int .i64 0, .int .i64 0, .int .i64 0, .int .i64 0, .int .i64 0] := by
    have h := Blk.new ((w.alloc (.cells #[.int .i64 3, .int .i64 a, .int .i64 b, .string s, .string t, .slice pa pn pc] 34)).alloc (.cells #[.int .i64 0, .int .i64 0, .string ⟨#[]⟩, .slice none 0 0, .int .i64 0, .int .i64 0, .int .i64 0, .int .i64 0, .int .i64 0, .int .i64 0] 44)) 44 #[.int .i64 0, .int .i64 0, .string ⟨#[]⟩, .slice none 0 0, .int .i64 0, .int .i64 0, .int .i64 0, .int .i64 0, .int .i64 0, .int .i64 0]
    rw [World.size_alloc, World.size_alloc, hW0] at h
    exact h
  have a1 : W0.cell? ⟨w.heap.size, 1, none⟩ = some (.int .i64 a) := hC0.cell 1
  have a2 : W0.cell? ⟨w.heap.size, 2, none⟩ = some (.int .i64 b) := hC0.cell 2
  have a3 : W0.cell? ⟨w.heap.size, 3, none⟩ = some (.string s) := hC0.cell 3
  have hb0H := Lib.hid hb0
  have hR0H := Lib.hid hR0
  have hr0H := Lib.hid hr0
  rw [hW0]
  clear hb0 hC0 hR0 hr0 hW0
  go_wp2_with (first
    | (go_at_call 139; refine (hinH.out W0 hb0H.out).mono ?_; rintro e w3 ⟨rfl, hk3⟩
       have hR3 := hR0H.out.keep (kp_keep hH.out hk3 (by omega) hR0H.out.lt)
       have hr3 := hr0H.out.keep (kp_keep hH.out hk3 (by omega) hr0H.out.lt)
       have rc0 : w3.cell? ⟨w.heap.size + 1, 0, none⟩ = some (.int .i64 0) := hR3.cell 0
       have rf0 : w3.frozen? ⟨w.heap.size + 1, 0, none⟩ = false := hR3.frozen 0
       have rc1 : w3.cell? ⟨w.heap.size + 1, 1, none⟩ = some (.int .i64 0) := hR3.cell 1
       have rf1 : w3.frozen? ⟨w.heap.size + 1, 1, none⟩ = false := hR3.frozen 1
       have rc2 : w3.cell? ⟨w.heap.size + 1, 2, none⟩ = some (.string ⟨#[]⟩) := hR3.cell 2
       have rf2 : w3.frozen? ⟨w.heap.size + 1, 2, none⟩ = false := hR3.frozen 2
       have rc3 : w3.cell? ⟨w.heap.size + 1, 3, none⟩ = some (.slice none 0 0) := hR3.cell 3
       have rf3 : w3.frozen? ⟨w.heap.size + 1, 3, none⟩ = false := hR3.frozen 3
       have rc4 : w3.cell? ⟨w.heap.size + 1, 4, none⟩ = some (.int .i64 0) := hR3.cell 4
       have rf4 : w3.frozen? ⟨w.heap.size + 1, 4, none⟩ = false := hR3.frozen 4
       have rc5 : w3.cell? ⟨w.heap.size + 1, 5, none⟩ = some (.int .i64 0) := hR3.cell 5
       have rf5 : w3.frozen? ⟨w.heap.size + 1, 5, none⟩ = false := hR3.frozen 5
       have rc6 : w3.cell? ⟨w.heap.size + 1, 6, none⟩ = some (.int .i64 0) := hR3.cell 6
       have rf6 : w3.frozen? ⟨w.heap.size + 1, 6, none⟩ = false := hR3.frozen 6
       have rc7 : w3.cell? ⟨w.heap.size + 1, 7, none⟩ = some (.int .i64 0) := hR3.cell 7
       have rf7 : w3.frozen? ⟨w.heap.size + 1, 7, none⟩ = false := hR3.frozen 7
       have rc8 : w3.cell? ⟨w.heap.size + 1, 8, none⟩ = some (.int .i64 0) := hR3.cell 8
       have rf8 : w3.frozen? ⟨w.heap.size + 1, 8, none⟩ = false := hR3.frozen 8
       have rc9 : w3.cell? ⟨w.heap.size + 1, 9, none⟩ = some (.int .i64 0) := hR3.cell 9
       have rf9 : w3.frozen? ⟨w.heap.size + 1, 9, none⟩ = false := hR3.frozen 9
       have uc0 : w3.cell? ⟨w.heap.size + 2, 0, none⟩ = some (.int .i64 0) := hr3.cell 0
       have uf0 : w3.frozen? ⟨w.heap.size + 2, 0, none⟩ = false := hr3.frozen 0
       have uc1 : w3.cell? ⟨w.heap.size + 2, 1, none⟩ = some (.int .i64 0) := hr3.cell 1
       have uf1 : w3.frozen? ⟨w.heap.size + 2, 1, none⟩ = false := hr3.frozen 1
       have uc2 : w3.cell? ⟨w.heap.size + 2, 2, none⟩ = some (.string ⟨#[]⟩) := hr3.cell 2
       have uf2 : w3.frozen? ⟨w.heap.size + 2, 2, none⟩ = false := hr3.frozen 2
       have uc3 : w3.cell? ⟨w.heap.size + 2, 3, none⟩ = some (.slice none 0 0) := hr3.cell 3
       have uf3 : w3.frozen? ⟨w.heap.size + 2, 3, none⟩ = false := hr3.frozen 3
       have uc4 : w3.cell? ⟨w.heap.size + 2, 4, none⟩ = some (.int .i64 0) := hr3.cell 4
       have uf4 : w3.frozen? ⟨w.heap.size + 2, 4, none⟩ = false := hr3.frozen 4
       have uc5 : w3.cell? ⟨w.heap.size + 2, 5, none⟩ = some (.int .i64 0) := hr3.cell 5
       have uf5 : w3.frozen? ⟨w.heap.size + 2, 5, none⟩ = false := hr3.frozen 5
       have uc6 : w3.cell? ⟨w.heap.size + 2, 6, none⟩ = some (.int .i64 0) := hr3.cell 6
       have uf6 : w3.frozen? ⟨w.heap.size + 2, 6, none⟩ = false := hr3.frozen 6
       have uc7 : w3.cell? ⟨w.heap.size + 2, 7, none⟩ = some (.int .i64 0) := hr3.cell 7
       have uf7 : w3.frozen? ⟨w.heap.size + 2, 7, none⟩ = false := hr3.frozen 7
       have uc8 : w3.cell? ⟨w.heap.size + 2, 8, none⟩ = some (.int .i64 0) := hr3.cell 8
       have uf8 : w3.frozen? ⟨w.heap.size + 2, 8, none⟩ = false := hr3.frozen 8
       have uc9 : w3.cell? ⟨w.heap.size + 2, 9, none⟩ = some (.int .i64 0) := hr3.cell 9
       have uf9 : w3.frozen? ⟨w.heap.size + 2, 9, none⟩ = false := hr3.frozen 9
       have hk3H := Lib.hid hk3; have hR3H := Lib.hid hR3; clear hk3 hR3 hr3))
  (try simp only [Exit.inBlock, Exit.then])
  refine bodyPost_ret (results_cell_row2 rfl _ _ (w.heap.size + 1) 44 _ _ rfl (put10 (hR3H.out.far (p := ⟨w.heap.size + 2, 0, none⟩) (by show w.heap.size + 1 ≠ w.heap.size + 2; omega) _) (.int .i64 n1) (.int .i64 0) (.string ⟨#[]⟩) (.slice none 0 0) (.int .i64 0) (.int .i64 0) (.int .i64 0) (.int .i64 0) (.int .i64 0) (.int .i64 0)) Tryz.underlying44 rfl (by kernel_rfl)) rfl ?_
  exact ⟨rfl, kp_end hH.out hb0H.out hk3H.out (frm10 ((Frm.refl _ _).setCell (a := ⟨w.heap.size + 2, 0, none⟩) (.inl (by show w.heap.size ≤ w.heap.size + 2 ∧ w.heap.size + 2 < _; have := hr0H.out.lt; omega)) _) (.inl (by show w.heap.size ≤ w.heap.size + 1 ∧ w.heap.size + 1 < _; have := hR0H.out.lt; omega)) _ _ _ _ _ _ _ _ _ _)⟩
set_option maxRecDepth 100000 in
set_option maxHeartbeats 4000000 in
theorem on_dup (h : KerIs w B q K M) {pb : Nat} (a b : Int) (s t : ByteArray) (pa : Option Addr) (pn pc : Nat) (n1 er : Int)
    (hin : ∀ W, Below w.heap.size w W → Calls Tryz.prog 141 #[.pointer (some ⟨q, 0, none⟩), .pointer (some ⟨pb, 0, none⟩), .int .i64 a, .int .i64 b] W fun e w' => e = .returned (.tuple #[.int .i64 n1, .int .i64 er]) ∧ KP (AllX B) W K M w' q K') :
    Calls Tryz.prog 89 #[.pointer (some ⟨q, 0, none⟩), .pointer (some ⟨pb, 0, none⟩), .agg #[.int .i64 5, .int .i64 a, .int .i64 b, .string s, .string t, .slice pa pn pc]] w fun e w' => e = .returned (.tuple #[.agg #[.int .i64 n1, .int .i64 0, .string ⟨#[]⟩, .slice none 0 0, .int .i64 0, .int .i64 0, .int .i64 0, .int .i64 0, .int .i64 0, .int .i64 0], .int .i64 er]) ∧ KP (AllX B) w K M w' q K' := by
  have hinH := Lib.hid hin
  have hH := Lib.hid h
  clear h hin
  go_enter Tryz.func89, Tryz.ntmps89
  go_upto_region 13 with fail
  obtain ⟨W0, hW0⟩ : ∃ W, ((w.alloc (.cells #[.int .i64 5, .int .i64 a, .int .i64 b, .string s, .string t, .slice pa pn pc] 34)).alloc (.cells #[.int .i64 0, .int .i64 0, .string ⟨#[]⟩, .slice none 0 0, .int .i64 0, .int .i64 0, .int .i64 0, .int .i64 0, .int .i64 0, .int .i64 0] 44)).alloc (.cells #[.int .i64 0, .int .i64 0, .string ⟨#[]⟩, .slice none 0 0, .int .i64 0, .int .i64 0, .int .i64 0, .int .i64 0, .int .i64 0, .int .i64 0] 44) = W := ⟨_, rfl⟩
  have hb0 : Below w.heap.size w W0 := by rw [← hW0]; exact (((Below.refl _ w).alloc (Nat.le_refl _) _).alloc (by simp) _).alloc (by simp; omega) _
  have hC0 : Blk W0 w.heap.size 34 #[.int .i64 5, .int .i64 a, .int .i64 b, .string s, .string t, .slice pa pn pc] := by rw [← hW0]; exact ((Blk.new w _ _).alloc _).alloc _
  have hR0 : Blk W0 (w.heap.size + 1) 44 #[.int .i64 0, .int .i64 0, .string ⟨#[]⟩, .slice none 0 0, .int .i64 0, .int .i64 0, .int .i64 0, .int .i64 0, .int .i64 0, .int .i64 0] := by
    have h := (Blk.new (w.alloc (.cells #[.int .i64 5, .int .i64 a, .int .i64 b, .string s, .string t, .slice pa pn pc] 34)) 44 #[.int .i64 0, .int .i64 0, .string ⟨#[]⟩, .slice none 0 0, .int .i64 0, .int .i64 0, .int .i64 0, .int .i64 0, .int .i64 0, .int .i64 0]).alloc (.cells #[.int .i64 0, .int .i64 0, .string ⟨#[]⟩, .slice none 0 0, .int .i64 0, .int .i64 0, .int .i64 0, .int .i64 0, .int .i64 0, .int .i64 0] 44)
    rw [World.size_alloc, hW0] at h
    exact h
  have hr0 : Blk W0 (w.heap.size + 2) 44 #[.int .i64 0, .int .i64 0, .string ⟨#[]⟩, .slice none 0 0, .int .i64 0, .int .i64 0, .int .i64 0, .int .i64 0, .int .i64 0, .int .i64 0] := by
    have h := Blk.new ((w.alloc (.cells #[.int .i64 5, .int .i64 a, .int .i64 b, .string s, .string t, .slice pa pn pc] 34)).alloc (.cells #[.int .i64 0, .int .i64 0, .string ⟨#[]⟩, .slice none 0 0, .int .i64 0, .int .i64 0, .int .i64 0, .int .i64 0, .int .i64 0, .int .i64 0] 44)) 44 #[.int .i64 0, .int .i64 0, .string ⟨#[]⟩, .slice none 0 0, .int .i64 0, .int .i64 0, .int .i64 0, .int .i64 0, .int .i64 0, .int .i64 0]
    rw [World.size_alloc, World.size_alloc, hW0] at h
    exact h
  have a1 : W0.cell? ⟨w.heap.size, 1, none⟩ = some (.int .i64 a) := hC0.cell 1
  have a2 : W0.cell? ⟨w.heap.size, 2, none⟩ = some (.int .i64 b) := hC0.cell 2
  have a3 : W0.cell? ⟨w.heap.size, 3, none⟩ = some (.string s) := hC0.cell 3
  have hb0H := Lib.hid hb0
  have hR0H := Lib.hid hR0
  have hr0H := Lib.hid hr0
  rw [hW0]
  clear hb0 hC0 hR0 hr0 hW0
  go_wp2_with (first
    | (go_at_call 141; refine (hinH.out W0 hb0H.out).mono ?_; rintro e w3 ⟨rfl, hk3⟩
       have hR3 := hR0H.out.keep (kp_keep hH.out hk3 (by omega) hR0H.out.lt)
       have hr3 := hr0H.out.keep (kp_keep hH.out hk3 (by omega) hr0H.out.lt)
       have rc0 : w3.cell? ⟨w.heap.size + 1, 0, none⟩ = some (.int .i64 0) := hR3.cell 0
       have rf0 : w3.frozen? ⟨w.heap.size + 1, 0, none⟩ = false := hR3.frozen 0
       have rc1 : w3.cell? ⟨w.heap.size + 1, 1, none⟩ = some (.int .i64 0) := hR3.cell 1
       have rf1 : w3.frozen? ⟨w.heap.size + 1, 1, none⟩ = false := hR3.frozen 1
       have rc2 : w3.cell? ⟨w.heap.size + 1, 2, none⟩ = some (.string ⟨#[]⟩) := hR3.cell 2
       have rf2 : w3.frozen? ⟨w.heap.size + 1, 2, none⟩ = false := hR3.frozen 2
       have rc3 : w3.cell? ⟨w.heap.size + 1, 3, none⟩ = some (.slice none 0 0) := hR3.cell 3
       have rf3 : w3.frozen? ⟨w.heap.size + 1, 3, none⟩ = false := hR3.frozen 3
       have rc4 : w3.cell? ⟨w.heap.size + 1, 4, none⟩ = some (.int .i64 0) := hR3.cell 4
       have rf4 : w3.frozen? ⟨w.heap.size + 1, 4, none⟩ = false := hR3.frozen 4
       have rc5 : w3.cell? ⟨w.heap.size + 1, 5, none⟩ = some (.int .i64 0) := hR3.cell 5
       have rf5 : w3.frozen? ⟨w.heap.size + 1, 5, none⟩ = false := hR3.frozen 5
       have rc6 : w3.cell? ⟨w.heap.size + 1, 6, none⟩ = some (.int .i64 0) := hR3.cell 6
       have rf6 : w3.frozen? ⟨w.heap.size + 1, 6, none⟩ = false := hR3.frozen 6
       have rc7 : w3.cell? ⟨w.heap.size + 1, 7, none⟩ = some (.int .i64 0) := hR3.cell 7
       have rf7 : w3.frozen? ⟨w.heap.size + 1, 7, none⟩ = false := hR3.frozen 7
       have rc8 : w3.cell? ⟨w.heap.size + 1, 8, none⟩ = some (.int .i64 0) := hR3.cell 8
       have rf8 : w3.frozen? ⟨w.heap.size + 1, 8, none⟩ = false := hR3.frozen 8
       have rc9 : w3.cell? ⟨w.heap.size + 1, 9, none⟩ = some (.int .i64 0) := hR3.cell 9
       have rf9 : w3.frozen? ⟨w.heap.size + 1, 9, none⟩ = false := hR3.frozen 9
       have uc0 : w3.cell? ⟨w.heap.size + 2, 0, none⟩ = some (.int .i64 0) := hr3.cell 0
       have uf0 : w3.frozen? ⟨w.heap.size + 2, 0, none⟩ = false := hr3.frozen 0
       have uc1 : w3.cell? ⟨w.heap.size + 2, 1, none⟩ = some (.int .i64 0) := hr3.cell 1
       have uf1 : w3.frozen? ⟨w.heap.size + 2, 1, none⟩ = false := hr3.frozen 1
       have uc2 : w3.cell? ⟨w.heap.size + 2, 2, none⟩ = some (.string ⟨#[]⟩) := hr3.cell 2
       have uf2 : w3.frozen? ⟨w.heap.size + 2, 2, none⟩ = false := hr3.frozen 2
       have uc3 : w3.cell? ⟨w.heap.size + 2, 3, none⟩ = some (.slice none 0 0) := hr3.cell 3
       have uf3 : w3.frozen? ⟨w.heap.size + 2, 3, none⟩ = false := hr3.frozen 3
       have uc4 : w3.cell? ⟨w.heap.size + 2, 4, none⟩ = some (.int .i64 0) := hr3.cell 4
       have uf4 : w3.frozen? ⟨w.heap.size + 2, 4, none⟩ = false := hr3.frozen 4
       have uc5 : w3.cell? ⟨w.heap.size + 2, 5, none⟩ = some (.int .i64 0) := hr3.cell 5
       have uf5 : w3.frozen? ⟨w.heap.size + 2, 5, none⟩ = false := hr3.frozen 5
       have uc6 : w3.cell? ⟨w.heap.size + 2, 6, none⟩ = some (.int .i64 0) := hr3.cell 6
       have uf6 : w3.frozen? ⟨w.heap.size + 2, 6, none⟩ = false := hr3.frozen 6
       have uc7 : w3.cell? ⟨w.heap.size + 2, 7, none⟩ = some (.int .i64 0) := hr3.cell 7
       have uf7 : w3.frozen? ⟨w.heap.size + 2, 7, none⟩ = false := hr3.frozen 7
       have uc8 : w3.cell? ⟨w.heap.size + 2, 8, none⟩ = some (.int .i64 0) := hr3.cell 8
       have uf8 : w3.frozen? ⟨w.heap.size + 2, 8, none⟩ = false := hr3.frozen 8
       have uc9 : w3.cell? ⟨w.heap.size + 2, 9, none⟩ = some (.int .i64 0) := hr3.cell 9
       have uf9 : w3.frozen? ⟨w.heap.size + 2, 9, none⟩ = false := hr3.frozen 9
       have hk3H := Lib.hid hk3; have hR3H := Lib.hid hR3; clear hk3 hR3 hr3))
  (try simp only [Exit.inBlock, Exit.then])
  refine bodyPost_ret (results_cell_row2 rfl _ _ (w.heap.size + 1) 44 _ _ rfl (put10 (hR3H.out.far (p := ⟨w.heap.size + 2, 0, none⟩) (by show w.heap.size + 1 ≠ w.heap.size + 2; omega) _) (.int .i64 n1) (.int .i64 0) (.string ⟨#[]⟩) (.slice none 0 0) (.int .i64 0) (.int .i64 0) (.int .i64 0) (.int .i64 0) (.int .i64 0) (.int .i64 0)) Tryz.underlying44 rfl (by kernel_rfl)) rfl ?_
  exact ⟨rfl, kp_end hH.out hb0H.out hk3H.out (frm10 ((Frm.refl _ _).setCell (a := ⟨w.heap.size + 2, 0, none⟩) (.inl (by show w.heap.size ≤ w.heap.size + 2 ∧ w.heap.size + 2 < _; have := hr0H.out.lt; omega)) _) (.inl (by show w.heap.size ≤ w.heap.size + 1 ∧ w.heap.size + 1 < _; have := hR0H.out.lt; omega)) _ _ _ _ _ _ _ _ _ _)⟩
set_option maxRecDepth 100000 in
set_option maxHeartbeats 4000000 in
theorem on_pipe (h : KerIs w B q K M) {pb : Nat} (a b : Int) (s t : ByteArray) (pa : Option Addr) (pn pc : Nat) (n1 n2 er : Int)
    (hin : ∀ W, Below w.heap.size w W → Calls Tryz.prog 143 #[.pointer (some ⟨q, 0, none⟩), .pointer (some ⟨pb, 0, none⟩)] W fun e w' => e = .returned (.tuple #[.int .i64 n1, .int .i64 n2, .int .i64 er]) ∧ KP (AllX B) W K M w' q K') :
    Calls Tryz.prog 89 #[.pointer (some ⟨q, 0, none⟩), .pointer (some ⟨pb, 0, none⟩), .agg #[.int .i64 7, .int .i64 a, .int .i64 b, .string s, .string t, .slice pa pn pc]] w fun e w' => e = .returned (.tuple #[.agg #[.int .i64 n1, .int .i64 n2, .string ⟨#[]⟩, .slice none 0 0, .int .i64 0, .int .i64 0, .int .i64 0, .int .i64 0, .int .i64 0, .int .i64 0], .int .i64 er]) ∧ KP (AllX B) w K M w' q K' := by
  have hinH := Lib.hid hin
  have hH := Lib.hid h
  clear h hin
  go_enter Tryz.func89, Tryz.ntmps89
  go_upto_region 17 with fail
  obtain ⟨W0, hW0⟩ : ∃ W, ((w.alloc (.cells #[.int .i64 7, .int .i64 a, .int .i64 b, .string s, .string t, .slice pa pn pc] 34)).alloc (.cells #[.int .i64 0, .int .i64 0, .string ⟨#[]⟩, .slice none 0 0, .int .i64 0, .int .i64 0, .int .i64 0, .int .i64 0, .int .i64 0, .int .i64 0] 44)).alloc (.cells #[.int .i64 0, .int .i64 0, .string ⟨#[]⟩, .slice none 0 0, .int .i64 0, .int .i64 0, .int .i64 0, .int .i64 0, .int .i64 0, .int .i64 0] 44) = W := ⟨_, rfl⟩
  have hb0 : Below w.heap.size w W0 := by rw [← hW0]; exact (((Below.refl _ w).alloc (Nat.le_refl _) _).alloc (by simp) _).alloc (by simp; omega) _
  have hC0 : Blk W0 w.heap.size 34 #[.int .i64 7, .int .i64 a, .int .i64 b, .string s, .string t, .slice pa pn pc] := by rw [← hW0]; exact ((Blk.new w _ _).alloc _).alloc _
  have hR0 : Blk W0 (w.heap.size + 1) 44 #[.int .i64 0, .int .i64 0, .string ⟨#[]⟩, .slice none 0 0, .int .i64 0, .int .i64 0, .int .i64 0, .int .i64 0, .int .i64 0, .int .i64 0] := by
    have h := (Blk.new (w.alloc (.cells #[.int .i64 7, .int .i64 a, .int .i64 b, .string s, .string t, .slice pa pn pc] 34)) 44 #[.int .i64 0, .int .i64 0, .string ⟨#[]⟩, .slice none 0 0, .int .i64 0, .int .i64 0, .int .i64 0, .int .i64 0, .int .i64 0, .int .i64 0]).alloc (.cells #[.int .i64 0, .int .i64 0, .string ⟨#[]⟩, .slice none 0 0, .int .i64 0, .int .i64 0, .int .i64 0, .int .i64 0, .int .i64 0, .int .i64 0] 44)
    rw [World.size_alloc, hW0] at h
    exact h
  have hr0 : Blk W0 (w.heap.size + 2) 44 #[.int .i64 0, .int .i64 0, .string ⟨#[]⟩, .slice none 0 0, .int .i64 0, .int .i64 0, .int .i64 0, .int .i64 0, .int .i64 0, .int .i64 0] := by
    have h := Blk.new ((w.alloc (.cells #[.int .i64 7, .int .i64 a, .int .i64 b, .string s, .string t, .slice pa pn pc] 34)).alloc (.cells #[.int .i64 0, .int .i64 0, .string ⟨#[]⟩, .slice none 0 0, .int .i64 0, .int .i64 0, .int .i64 0, .int .i64 0, .int .i64 0, .int .i64 0] 44)) 44 #[.int .i64 0, .int .i64 0, .string ⟨#[]⟩, .slice none 0 0, .int .i64 0, .int .i64 0, .int .i64 0, .int .i64 0, .int .i64 0, .int .i64 0]
    rw [World.size_alloc, World.size_alloc, hW0] at h
    exact h
  have a1 : W0.cell? ⟨w.heap.size, 1, none⟩ = some (.int .i64 a) := hC0.cell 1
  have a2 : W0.cell? ⟨w.heap.size, 2, none⟩ = some (.int .i64 b) := hC0.cell 2
  have a3 : W0.cell? ⟨w.heap.size, 3, none⟩ = some (.string s) := hC0.cell 3
  have hb0H := Lib.hid hb0
  have hR0H := Lib.hid hR0
  have hr0H := Lib.hid hr0
  rw [hW0]
  clear hb0 hC0 hR0 hr0 hW0
  go_wp2_with (first
    | (go_at_call 143; refine (hinH.out W0 hb0H.out).mono ?_; rintro e w3 ⟨rfl, hk3⟩
       have hR3 := hR0H.out.keep (kp_keep hH.out hk3 (by omega) hR0H.out.lt)
       have hr3 := hr0H.out.keep (kp_keep hH.out hk3 (by omega) hr0H.out.lt)
       have rc0 : w3.cell? ⟨w.heap.size + 1, 0, none⟩ = some (.int .i64 0) := hR3.cell 0
       have rf0 : w3.frozen? ⟨w.heap.size + 1, 0, none⟩ = false := hR3.frozen 0
       have rc1 : w3.cell? ⟨w.heap.size + 1, 1, none⟩ = some (.int .i64 0) := hR3.cell 1
       have rf1 : w3.frozen? ⟨w.heap.size + 1, 1, none⟩ = false := hR3.frozen 1
       have rc2 : w3.cell? ⟨w.heap.size + 1, 2, none⟩ = some (.string ⟨#[]⟩) := hR3.cell 2
       have rf2 : w3.frozen? ⟨w.heap.size + 1, 2, none⟩ = false := hR3.frozen 2
       have rc3 : w3.cell? ⟨w.heap.size + 1, 3, none⟩ = some (.slice none 0 0) := hR3.cell 3
       have rf3 : w3.frozen? ⟨w.heap.size + 1, 3, none⟩ = false := hR3.frozen 3
       have rc4 : w3.cell? ⟨w.heap.size + 1, 4, none⟩ = some (.int .i64 0) := hR3.cell 4
       have rf4 : w3.frozen? ⟨w.heap.size + 1, 4, none⟩ = false := hR3.frozen 4
       have rc5 : w3.cell? ⟨w.heap.size + 1, 5, none⟩ = some (.int .i64 0) := hR3.cell 5
       have rf5 : w3.frozen? ⟨w.heap.size + 1, 5, none⟩ = false := hR3.frozen 5
       have rc6 : w3.cell? ⟨w.heap.size + 1, 6, none⟩ = some (.int .i64 0) := hR3.cell 6
       have rf6 : w3.frozen? ⟨w.heap.size + 1, 6, none⟩ = false := hR3.frozen 6
       have rc7 : w3.cell? ⟨w.heap.size + 1, 7, none⟩ = some (.int .i64 0) := hR3.cell 7
       have rf7 : w3.frozen? ⟨w.heap.size + 1, 7, none⟩ = false := hR3.frozen 7
       have rc8 : w3.cell? ⟨w.heap.size + 1, 8, none⟩ = some (.int .i64 0) := hR3.cell 8
       have rf8 : w3.frozen? ⟨w.heap.size + 1, 8, none⟩ = false := hR3.frozen 8
       have rc9 : w3.cell? ⟨w.heap.size + 1, 9, none⟩ = some (.int .i64 0) := hR3.cell 9
       have rf9 : w3.frozen? ⟨w.heap.size + 1, 9, none⟩ = false := hR3.frozen 9
       have uc0 : w3.cell? ⟨w.heap.size + 2, 0, none⟩ = some (.int .i64 0) := hr3.cell 0
       have uf0 : w3.frozen? ⟨w.heap.size + 2, 0, none⟩ = false := hr3.frozen 0
       have uc1 : w3.cell? ⟨w.heap.size + 2, 1, none⟩ = some (.int .i64 0) := hr3.cell 1
       have uf1 : w3.frozen? ⟨w.heap.size + 2, 1, none⟩ = false := hr3.frozen 1
       have uc2 : w3.cell? ⟨w.heap.size + 2, 2, none⟩ = some (.string ⟨#[]⟩) := hr3.cell 2
       have uf2 : w3.frozen? ⟨w.heap.size + 2, 2, none⟩ = false := hr3.frozen 2
       have uc3 : w3.cell? ⟨w.heap.size + 2, 3, none⟩ = some (.slice none 0 0) := hr3.cell 3
       have uf3 : w3.frozen? ⟨w.heap.size + 2, 3, none⟩ = false := hr3.frozen 3
       have uc4 : w3.cell? ⟨w.heap.size + 2, 4, none⟩ = some (.int .i64 0) := hr3.cell 4
       have uf4 : w3.frozen? ⟨w.heap.size + 2, 4, none⟩ = false := hr3.frozen 4
       have uc5 : w3.cell? ⟨w.heap.size + 2, 5, none⟩ = some (.int .i64 0) := hr3.cell 5
       have uf5 : w3.frozen? ⟨w.heap.size + 2, 5, none⟩ = false := hr3.frozen 5
       have uc6 : w3.cell? ⟨w.heap.size + 2, 6, none⟩ = some (.int .i64 0) := hr3.cell 6
       have uf6 : w3.frozen? ⟨w.heap.size + 2, 6, none⟩ = false := hr3.frozen 6
       have uc7 : w3.cell? ⟨w.heap.size + 2, 7, none⟩ = some (.int .i64 0) := hr3.cell 7
       have uf7 : w3.frozen? ⟨w.heap.size + 2, 7, none⟩ = false := hr3.frozen 7
       have uc8 : w3.cell? ⟨w.heap.size + 2, 8, none⟩ = some (.int .i64 0) := hr3.cell 8
       have uf8 : w3.frozen? ⟨w.heap.size + 2, 8, none⟩ = false := hr3.frozen 8
       have uc9 : w3.cell? ⟨w.heap.size + 2, 9, none⟩ = some (.int .i64 0) := hr3.cell 9
       have uf9 : w3.frozen? ⟨w.heap.size + 2, 9, none⟩ = false := hr3.frozen 9
       have hk3H := Lib.hid hk3; have hR3H := Lib.hid hR3; clear hk3 hR3 hr3))
  (try simp only [Exit.inBlock, Exit.then])
  refine bodyPost_ret (results_cell_row2 rfl _ _ (w.heap.size + 1) 44 _ _ rfl (put10 ((hR3H.out.far (p := ⟨w.heap.size + 2, 0, none⟩) (by show w.heap.size + 1 ≠ w.heap.size + 2; omega) _).far (p := ⟨w.heap.size + 2, 1, none⟩) (by show w.heap.size + 1 ≠ w.heap.size + 2; omega) _) (.int .i64 n1) (.int .i64 n2) (.string ⟨#[]⟩) (.slice none 0 0) (.int .i64 0) (.int .i64 0) (.int .i64 0) (.int .i64 0) (.int .i64 0) (.int .i64 0)) Tryz.underlying44 rfl (by kernel_rfl)) rfl ?_
  exact ⟨rfl, kp_end hH.out hb0H.out hk3H.out (frm10 (((Frm.refl _ _).setCell (a := ⟨w.heap.size + 2, 0, none⟩) (.inl (by show w.heap.size ≤ w.heap.size + 2 ∧ w.heap.size + 2 < _; have := hr0H.out.lt; omega)) _).setCell (a := ⟨w.heap.size + 2, 1, none⟩) (.inl (by show w.heap.size ≤ w.heap.size + 2 ∧ w.heap.size + 2 < _; have := hr0H.out.lt; omega)) _) (.inl (by show w.heap.size ≤ w.heap.size + 1 ∧ w.heap.size + 1 < _; have := hR0H.out.lt; omega)) _ _ _ _ _ _ _ _ _ _)⟩
set_option maxRecDepth 100000 in
set_option maxHeartbeats 4000000 in
theorem on_fork (h : KerIs w B q K M) {pb : Nat} (a b : Int) (s t : ByteArray) (pa : Option Addr) (pn pc : Nat) (n1 er : Int)
    (hin : ∀ W, Below w.heap.size w W → Calls Tryz.prog 158 #[.pointer (some ⟨q, 0, none⟩), .pointer (some ⟨pb, 0, none⟩)] W fun e w' => e = .returned (.tuple #[.int .i64 n1, .int .i64 er]) ∧ KP (AllX B) W K M w' q K') :
    Calls Tryz.prog 91 #[.pointer (some ⟨q, 0, none⟩), .pointer (some ⟨pb, 0, none⟩), .agg #[.int .i64 8, .int .i64 a, .int .i64 b, .string s, .string t, .slice pa pn pc]] w fun e w' => e = .returned (.tuple #[.agg #[.int .i64 n1, .int .i64 0, .string ⟨#[]⟩, .slice none 0 0, .int .i64 0, .int .i64 0, .int .i64 0, .int .i64 0, .int .i64 0, .int .i64 0], .int .i64 er]) ∧ KP (AllX B) w K M w' q K' := by
  have hinH := Lib.hid hin
  have hH := Lib.hid h
  clear h hin
  go_enter Tryz.func91, Tryz.ntmps91
  go_upto_region 6 with fail
  obtain ⟨W0, hW0⟩ : ∃ W, ((w.alloc (.cells #[.int .i64 8, .int .i64 a, .int .i64 b, .string s, .string t, .slice pa pn pc] 34)).alloc (.cells #[.int .i64 0, .int .i64 0, .string ⟨#[]⟩, .slice none 0 0, .int .i64 0, .int .i64 0, .int .i64 0, .int .i64 0, .int .i64 0, .int .i64 0] 44)).alloc (.cells #[.int .i64 0, .int .i64 0, .string ⟨#[]⟩, .slice none 0 0, .int .i64 0, .int .i64 0, .int .i64 0, .int .i64 0, .int .i64 0, .int .i64 0] 44) = W := ⟨_, rfl⟩
  have hb0 : Below w.heap.size w W0 := by rw [← hW0]; exact (((Below.refl _ w).alloc (Nat.le_refl _) _).alloc (by simp) _).alloc (by simp; omega) _
  have hC0 : Blk W0 w.heap.size 34 #[.int .i64 8, .int .i64 a, .int .i64 b, .string s, .string t, .slice pa pn pc] := by rw [← hW0]; exact ((Blk.new w _ _).alloc _).alloc _
  have hR0 : Blk W0 (w.heap.size + 1) 44 #[.int .i64 0, .int .i64 0, .string ⟨#[]⟩, .slice none 0 0, .int .i64 0, .int .i64 0, .int .i64 0, .int .i64 0, .int .i64 0, .int .i64 0] := by
    have h := (Blk.new (w.alloc (.cells #[.int .i64 8, .int .i64 a, .int .i64 b, .string s, .string t, .slice pa pn pc] 34)) 44 #[.int .i64 0, .int .i64 0, .string ⟨#[]⟩, .slice none 0 0, .int .i64 0, .int .i64 0, .int .i64 0, .int .i64 0, .int .i64 0, .int .i64 0]).alloc (.cells #[.int .i64 0, .int .i64 0, .string ⟨#[]⟩, .slice none 0 0, .int .i64 0, .int .i64 0, .int .i64 0, .int .i64 0, .int .i64 0, .int .i64 0] 44)
    rw [World.size_alloc, hW0] at h
    exact h
  have hr0 : Blk W0 (w.heap.size + 2) 44 #[.int .i64 0, .int .i64 0, .string ⟨#[]⟩, .slice none 0 0, .int .i64 0, .int .i64 0, .int .i64 0, .int .i64 0, .int .i64 0, .int .i64 0] := by
    have h := Blk.new ((w.alloc (.cells #[.int .i64 8, .int .i64 a, .int .i64 b, .string s, .string t, .slice pa pn pc] 34)).alloc (.cells #[.int .i64 0, .int .i64 0, .string ⟨#[]⟩, .slice none 0 0, .int .i64 0, .int .i64 0, .int .i64 0, .int .i64 0, .int .i64 0, .int .i64 0] 44)) 44 #[.int .i64 0, .int .i64 0, .string ⟨#[]⟩, .slice none 0 0, .int .i64 0, .int .i64 0, .int .i64 0, .int .i64 0, .int .i64 0, .int .i64 0]
    rw [World.size_alloc, World.size_alloc, hW0] at h
    exact h
  have a1 : W0.cell? ⟨w.heap.size, 1, none⟩ = some (.int .i64 a) := hC0.cell 1
  have a2 : W0.cell? ⟨w.heap.size, 2, none⟩ = some (.int .i64 b) := hC0.cell 2
  have a3 : W0.cell? ⟨w.heap.size, 3, none⟩ = some (.string s) := hC0.cell 3
  have hb0H := Lib.hid hb0
  have hR0H := Lib.hid hR0
  have hr0H := Lib.hid hr0
  rw [hW0]
  clear hb0 hC0 hR0 hr0 hW0
  go_wp2_with (first
    | (go_at_call 158; refine (hinH.out W0 hb0H.out).mono ?_; rintro e w3 ⟨rfl, hk3⟩
       have hR3 := hR0H.out.keep (kp_keep hH.out hk3 (by omega) hR0H.out.lt)
       have hr3 := hr0H.out.keep (kp_keep hH.out hk3 (by omega) hr0H.out.lt)
       have rc0 : w3.cell? ⟨w.heap.size + 1, 0, none⟩ = some (.int .i64 0) := hR3.cell 0
       have rf0 : w3.frozen? ⟨w.heap.size + 1, 0, none⟩ = false := hR3.frozen 0
       have rc1 : w3.cell? ⟨w.heap.size + 1, 1, none⟩ = some (.int .i64 0) := hR3.cell 1
       have rf1 : w3.frozen? ⟨w.heap.size + 1, 1, none⟩ = false := hR3.frozen 1
       have rc2 : w3.cell? ⟨w.heap.size + 1, 2, none⟩ = some (.string ⟨#[]⟩) := hR3.cell 2
       have rf2 : w3.frozen? ⟨w.heap.size + 1, 2, none⟩ = false := hR3.frozen 2
       have rc3 : w3.cell? ⟨w.heap.size + 1, 3, none⟩ = some (.slice none 0 0) := hR3.cell 3
       have rf3 : w3.frozen? ⟨w.heap.size + 1, 3, none⟩ = false := hR3.frozen 3
       have rc4 : w3.cell? ⟨w.heap.size + 1, 4, none⟩ = some (.int .i64 0) := hR3.cell 4
       have rf4 : w3.frozen? ⟨w.heap.size + 1, 4, none⟩ = false := hR3.frozen 4
       have rc5 : w3.cell? ⟨w.heap.size + 1, 5, none⟩ = some (.int .i64 0) := hR3.cell 5
       have rf5 : w3.frozen? ⟨w.heap.size + 1, 5, none⟩ = false := hR3.frozen 5
       have rc6 : w3.cell? ⟨w.heap.size + 1, 6, none⟩ = some (.int .i64 0) := hR3.cell 6
       have rf6 : w3.frozen? ⟨w.heap.size + 1, 6, none⟩ = false := hR3.frozen 6
       have rc7 : w3.cell? ⟨w.heap.size + 1, 7, none⟩ = some (.int .i64 0) := hR3.cell 7
       have rf7 : w3.frozen? ⟨w.heap.size + 1, 7, none⟩ = false := hR3.frozen 7
       have rc8 : w3.cell? ⟨w.heap.size + 1, 8, none⟩ = some (.int .i64 0) := hR3.cell 8
       have rf8 : w3.frozen? ⟨w.heap.size + 1, 8, none⟩ = false := hR3.frozen 8
       have rc9 : w3.cell? ⟨w.heap.size + 1, 9, none⟩ = some (.int .i64 0) := hR3.cell 9
       have rf9 : w3.frozen? ⟨w.heap.size + 1, 9, none⟩ = false := hR3.frozen 9
       have uc0 : w3.cell? ⟨w.heap.size + 2, 0, none⟩ = some (.int .i64 0) := hr3.cell 0
       have uf0 : w3.frozen? ⟨w.heap.size + 2, 0, none⟩ = false := hr3.frozen 0
       have uc1 : w3.cell? ⟨w.heap.size + 2, 1, none⟩ = some (.int .i64 0) := hr3.cell 1
       have uf1 : w3.frozen? ⟨w.heap.size + 2, 1, none⟩ = false := hr3.frozen 1
       have uc2 : w3.cell? ⟨w.heap.size + 2, 2, none⟩ = some (.string ⟨#[]⟩) := hr3.cell 2
       have uf2 : w3.frozen? ⟨w.heap.size + 2, 2, none⟩ = false := hr3.frozen 2
       have uc3 : w3.cell? ⟨w.heap.size + 2, 3, none⟩ = some (.slice none 0 0) := hr3.cell 3
       have uf3 : w3.frozen? ⟨w.heap.size + 2, 3, none⟩ = false := hr3.frozen 3
       have uc4 : w3.cell? ⟨w.heap.size + 2, 4, none⟩ = some (.int .i64 0) := hr3.cell 4
       have uf4 : w3.frozen? ⟨w.heap.size + 2, 4, none⟩ = false := hr3.frozen 4
       have uc5 : w3.cell? ⟨w.heap.size + 2, 5, none⟩ = some (.int .i64 0) := hr3.cell 5
       have uf5 : w3.frozen? ⟨w.heap.size + 2, 5, none⟩ = false := hr3.frozen 5
       have uc6 : w3.cell? ⟨w.heap.size + 2, 6, none⟩ = some (.int .i64 0) := hr3.cell 6
       have uf6 : w3.frozen? ⟨w.heap.size + 2, 6, none⟩ = false := hr3.frozen 6
       have uc7 : w3.cell? ⟨w.heap.size + 2, 7, none⟩ = some (.int .i64 0) := hr3.cell 7
       have uf7 : w3.frozen? ⟨w.heap.size + 2, 7, none⟩ = false := hr3.frozen 7
       have uc8 : w3.cell? ⟨w.heap.size + 2, 8, none⟩ = some (.int .i64 0) := hr3.cell 8
       have uf8 : w3.frozen? ⟨w.heap.size + 2, 8, none⟩ = false := hr3.frozen 8
       have uc9 : w3.cell? ⟨w.heap.size + 2, 9, none⟩ = some (.int .i64 0) := hr3.cell 9
       have uf9 : w3.frozen? ⟨w.heap.size + 2, 9, none⟩ = false := hr3.frozen 9
       have hk3H := Lib.hid hk3; have hR3H := Lib.hid hR3; clear hk3 hR3 hr3))
  (try simp only [Exit.inBlock, Exit.then])
  refine bodyPost_ret (results_cell_row2 rfl _ _ (w.heap.size + 1) 44 _ _ rfl (put10 (hR3H.out.far (p := ⟨w.heap.size + 2, 0, none⟩) (by show w.heap.size + 1 ≠ w.heap.size + 2; omega) _) (.int .i64 n1) (.int .i64 0) (.string ⟨#[]⟩) (.slice none 0 0) (.int .i64 0) (.int .i64 0) (.int .i64 0) (.int .i64 0) (.int .i64 0) (.int .i64 0)) Tryz.underlying44 rfl (by kernel_rfl)) rfl ?_
  exact ⟨rfl, kp_end hH.out hb0H.out hk3H.out (frm10 ((Frm.refl _ _).setCell (a := ⟨w.heap.size + 2, 0, none⟩) (.inl (by show w.heap.size ≤ w.heap.size + 2 ∧ w.heap.size + 2 < _; have := hr0H.out.lt; omega)) _) (.inl (by show w.heap.size ≤ w.heap.size + 1 ∧ w.heap.size + 1 < _; have := hR0H.out.lt; omega)) _ _ _ _ _ _ _ _ _ _)⟩
end
end Go.Proofs.YtmilagppbepnbaaGreat.Kn
