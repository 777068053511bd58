/- The kernel: what waits. Condition: the kernel lies as stated. -/
import Derived.Test.YtmilagppbepnbaaGreatKgW
namespace Go.Proofs.YtmilagppbepnbaaGreat.Kn
open Go.RowKit Go.PlainAid
set_option linter.unusedVariables false
set_option linter.unusedSimpArgs false
attribute [local go_sem] Oper.semAt_some
/-- What is asked, as cells. -/
abbrev callC (no a b : Int) (s t : ByteArray) (pa : Option Addr) (pn pc : Nat) : Array Value := #[.int .i64 no, .int .i64 a, .int .i64 b, .string s, .string t, .slice pa pn pc]
section
variable {w w' : World} {B : Ix → Nat → Prop} {q : Nat} {K K' : Ker} {M : Mp} {c : Nat}
set_option maxRecDepth 100000 in
set_option maxHeartbeats 4000000 in
theorem waits_other {k p : Value} (no a b : Int) (s t : ByteArray) (pa : Option Addr) (pn pc : Nat) (h1 : (no == 1) = false) (h2 : (no == 2) = false) (h3 : (no == 11) = false) (w : World) :
    Calls Tryz.prog 47 #[k, p, .agg (callC no a b s t pa pn pc)] w fun e w' => e = .returned (.bool false) ∧ Below w.heap.size w w' := by
  unfold callC
  go_enter Tryz.func47, Tryz.ntmps47
  go_wp2
  go_ret
  exact ⟨rfl, (Below.refl _ _).alloc (Nat.le_refl _) _⟩
set_option maxRecDepth 100000 in
set_option maxHeartbeats 4000000 in
/-- A read that may wait: what the description's pipe says; of another than the console. -/
theorem waits_read (h : KerIs w B q K M) {n : Nat} {P : Prc} (hP : ask K.procs n = some P) (fd : Int) {m : Nat} {D : Dsc} (hm : readN K P fd = some m) (hD : ask K.descs m = some D) (hkd : D.kind ≠ 1) (k : Int) (k0 : 0 < k) (s t : ByteArray) (pa : Option Addr) (pn pc : Nat) (v : Bool)
    (hw : ∀ W, Below w.heap.size w W → Calls Tryz.prog 86 #[ptrV (D.pipe.map M.bx), .bool false] W fun e w' => e = .returned (.bool v) ∧ Below W.heap.size W w') :
    Calls Tryz.prog 47 #[.pointer (some ⟨q, 0, none⟩), .pointer (some ⟨M.br n, 0, none⟩), .agg (callC 1 fd k s t pa pn pc)] w fun e w' => e = .returned (.bool v) ∧ Below w.heap.size w w' := by
  unfold callC
  have hr : Hid (∀ W, Below w.heap.size w W → Calls Tryz.prog 85 #[.pointer (some ⟨q, 0, none⟩), .pointer (some ⟨M.br n, 0, none⟩), .int .i64 fd] W fun e w' => e = .returned (.pointer (some ⟨M.bd m, 0, none⟩)) ∧ Below W.heap.size W w') := Lib.hid (fun W hW => by
    have := readable_any (h.below hW) hP fd
    rw [hm] at this
    exact this)
  obtain ⟨s0, _, _, s5, hlt⟩ := dsc_see h hD
  obtain ⟨d, hd⟩ : ∃ d, M.bd m = d := ⟨_, rfl⟩
  obtain ⟨x, hx⟩ : ∃ x, ptrV (D.pipe.map M.bx) = x := ⟨_, rfl⟩
  obtain ⟨b, hb⟩ : ∃ b, M.br n = b := ⟨_, rfl⟩
  obtain ⟨kd, hkde⟩ : ∃ kd, D.kind = kd := ⟨_, rfl⟩
  have hwH := Lib.hid hw
  rw [hx] at hwH s5
  rw [hd] at hr s0 s5 hlt
  rw [hb] at hr ⊢
  rw [hkde] at s0 hkd
  have d1 : ((kd : Int) == 1) = false := by rw [beq_eq_false_iff_ne]; omega
  have g0 := Lib.hid s0
  have g5 := Lib.hid s5
  clear h hP hm hD hd hx hb hw s0 s5 hkde hkd
  go_enter Tryz.func47, Tryz.ntmps47
  go_upto_region 3 with fail
  obtain ⟨W0, hW0⟩ : ∃ W, w.alloc (.cells #[.int .i64 1, .int .i64 fd, .int .i64 k, .string s, .string t, .slice pa pn pc] 34) = W := ⟨_, rfl⟩
  have hb0 : Below w.heap.size w W0 := by rw [← hW0]; exact (Below.refl _ _).alloc (Nat.le_refl _) _
  have hC0 : Blk W0 w.heap.size 34 #[.int .i64 1, .int .i64 fd, .int .i64 k, .string s, .string t, .slice pa pn pc] := by rw [← hW0]; exact Blk.new _ _ _
  have a1 : W0.cell? ⟨w.heap.size, 1, none⟩ = some (.int .i64 fd) := hC0.cell 1
  have hb0H := Lib.hid hb0
  have hC0H := Lib.hid hC0
  rw [hW0]
  clear hb0 hC0 hW0
  go_wp2_with (first
    | (go_at_call 85; refine (hr.out W0 hb0H.out).mono ?_; rintro e w1 ⟨rfl, hb1⟩
       have hb01 : Below w.heap.size w w1 := hb0H.out.trans (hb1.mono hb0H.out.size)
       have e0 : w1.cell? ⟨d, 0, none⟩ = some (.int .i64 kd) := (hb01.cell hlt).trans g0.out
       have e5 : w1.cell? ⟨d, 5, none⟩ = some x := (hb01.cell hlt).trans g5.out
       have hC1 : Blk w1 w.heap.size 34 #[.int .i64 1, .int .i64 fd, .int .i64 k, .string s, .string t, .slice pa pn pc] := hC0H.out.keep (hb1.block _ hC0H.out.lt)
       have e2 : w1.cell? ⟨w.heap.size, 2, none⟩ = some (.int .i64 k) := hC1.cell 2
       have hb1H := Lib.hid hb01; clear hb1 hb01 hC1)
    | (go_at_call 86; refine (hwH.out w1 hb1H.out).mono ?_; rintro e w2 ⟨rfl, hb2⟩))
  go_ret
  exact ⟨rfl, hb1H.out.trans (hb2.mono hb1H.out.size)⟩
set_option maxRecDepth 100000 in
set_option maxHeartbeats 4000000 in
/-- A write that may wait. -/
theorem waits_write (h : KerIs w B q K M) {n : Nat} {P : Prc} (hP : ask K.procs n = some P) (fd : Int) {m : Nat} {D : Dsc} (hm : writN K P fd = some m) (hD : ask K.descs m = some D) (k : Int) (s t : ByteArray) (hs : s.toList.isEmpty = false) (pa : Option Addr) (pn pc : Nat) (v : Bool)
    (hw : ∀ W, Below w.heap.size w W → Calls Tryz.prog 86 #[ptrV (D.pipe.map M.bx), .bool true] W fun e w' => e = .returned (.bool v) ∧ Below W.heap.size W w') :
    Calls Tryz.prog 47 #[.pointer (some ⟨q, 0, none⟩), .pointer (some ⟨M.br n, 0, none⟩), .agg (callC 2 fd k s t pa pn pc)] w fun e w' => e = .returned (.bool v) ∧ Below w.heap.size w w' := by
  unfold callC
  have hr : Hid (∀ W, Below w.heap.size w W → Calls Tryz.prog 87 #[.pointer (some ⟨q, 0, none⟩), .pointer (some ⟨M.br n, 0, none⟩), .int .i64 fd] W fun e w' => e = .returned (.pointer (some ⟨M.bd m, 0, none⟩)) ∧ Below W.heap.size W w') := Lib.hid (fun W hW => by
    have := writable_any (h.below hW) hP fd
    rw [hm] at this
    exact this)
  obtain ⟨s0, _, _, s5, hlt⟩ := dsc_see h hD
  obtain ⟨d, hd⟩ : ∃ d, M.bd m = d := ⟨_, rfl⟩
  obtain ⟨x, hx⟩ : ∃ x, ptrV (D.pipe.map M.bx) = x := ⟨_, rfl⟩
  obtain ⟨b, hb⟩ : ∃ b, M.br n = b := ⟨_, rfl⟩
  have hwH := Lib.hid hw
  rw [hx] at hwH s5
  rw [hd] at hr s5 hlt
  rw [hb] at hr ⊢
  have g5 := Lib.hid s5
  clear h hP hm hD hd hx hb hw s0 s5
  go_enter Tryz.func47, Tryz.ntmps47
  go_upto_region 6 with fail
  obtain ⟨W0, hW0⟩ : ∃ W, w.alloc (.cells #[.int .i64 2, .int .i64 fd, .int .i64 k, .string s, .string t, .slice pa pn pc] 34) = W := ⟨_, rfl⟩
  have hb0 : Below w.heap.size w W0 := by rw [← hW0]; exact (Below.refl _ _).alloc (Nat.le_refl _) _
  have hC0 : Blk W0 w.heap.size 34 #[.int .i64 2, .int .i64 fd, .int .i64 k, .string s, .string t, .slice pa pn pc] := by rw [← hW0]; exact Blk.new _ _ _
  have a1 : W0.cell? ⟨w.heap.size, 1, none⟩ = some (.int .i64 fd) := hC0.cell 1
  have hb0H := Lib.hid hb0
  have hC0H := Lib.hid hC0
  rw [hW0]
  clear hb0 hC0 hW0
  go_wp2_with (first
    | (go_at_call 87; refine (hr.out W0 hb0H.out).mono ?_; rintro e w1 ⟨rfl, hb1⟩
       have hb01 : Below w.heap.size w w1 := hb0H.out.trans (hb1.mono hb0H.out.size)
       have e5 : w1.cell? ⟨d, 5, none⟩ = some x := (hb01.cell hlt).trans g5.out
       have hC1 : Blk w1 w.heap.size 34 #[.int .i64 2, .int .i64 fd, .int .i64 k, .string s, .string t, .slice pa pn pc] := hC0H.out.keep (hb1.block _ hC0H.out.lt)
       have e3 : w1.cell? ⟨w.heap.size, 3, none⟩ = some (.string s) := hC1.cell 3
       have hb1H := Lib.hid hb01; clear hb1 hb01 hC1)
    | (go_at_call 86; refine (hwH.out w1 hb1H.out).mono ?_; rintro e w2 ⟨rfl, hb2⟩))
  go_ret
  exact ⟨rfl, hb1H.out.trans (hb2.mono hb1H.out.size)⟩
end
end Go.Proofs.YtmilagppbepnbaaGreat.Kn
