/- The kernel: read and write of a file by its descriptor, and what waits there. Condition: the kernel lies as stated; the tree holds what it holds along all calls. -/
import Derived.Test.YtmilagppbepnbaaGreatKhD
import Derived.Test.YtmilagppbepnbaaGreatKgQ
namespace Go.Proofs.YtmilagppbepnbaaGreat.Kn
open Go.RowKit Go.PlainAid
set_option linter.unusedVariables false
set_option linter.unusedSimpArgs false
attribute [local go_sem] Oper.semAt_some
section
variable {w w' : World} {B : Ix → Nat → Prop} {q : Nat} {K K' : Ker} {M : Mp} {c : Nat}
set_option maxRecDepth 100000 in
set_option maxHeartbeats 4000000 in
theorem read_file (h : KerIs w B q K M) (hw : WF c K.fs) (hc : c ≤ 5000) {n : Nat} {P : Prc} (hP : ask K.procs n = some P) (fd : Int) {m : Nat} {D : Dsc} (hm : readN K P fd = some m) (hD : ask K.descs m = some D) (hkd : D.kind = 2) (k : Int) (k0 : 0 ≤ k) (hat : D.at_ ≤ 1000000000000000000) (hsz : (ReadM K.fs D.n D.at_ k).1.size ≤ 1000000000000000000) :
    Calls Tryz.prog 137 #[.pointer (some ⟨q, 0, none⟩), .pointer (some ⟨M.br n, 0, none⟩), .int .i64 fd, .int .i64 k] w fun e w' => e = .returned (.tuple #[.string (ReadM K.fs D.n D.at_ k).1, .int .i64 (ReadM K.fs D.n D.at_ k).2]) ∧ KP (AllX B) w K M w' q (setD K m { D with at_ := D.at_ + (ReadM K.fs D.n D.at_ k).1.size }) := by
  have hr := readable_any h hP fd
  rw [hm] at hr
  obtain ⟨s0, s1, s2, _, hlt⟩ := dsc_see h hD
  rw [hkd] at s0
  obtain ⟨xv, dv, rv, o1, o2, ho⟩ := h.own
  have sq : w.cell? ⟨q, 0, none⟩ = some (.pointer (some ⟨M.fp, 0, none⟩)) := ho.blk.cell 0
  have hql := ho.blk.lt
  have hrd := Lib.hid (fun (W : World) (hW : Below w.heap.size w W) => fRead_any (h.below hW) hw hc D.n D.at_ k)
  have hturn := Lib.hid (fun (W : World) (hW : Below w.heap.size w W) => turn_dc (h.below hW) hD 2 (.int .i64 ((D.at_ : Int) + ((ReadM K.fs D.n D.at_ k).1.size : Nat))) (D' := { D with at_ := D.at_ + (ReadM K.fs D.n D.at_ k).1.size }) rfl)
  obtain ⟨hB, hS⟩ : DscAt M.bx w (B (.desc m)) (M.bd m) D := h.part (.desc m) D hD
  obtain ⟨d, hd⟩ : ∃ d, M.bd m = d := ⟨_, rfl⟩
  have hr2 : Hid (Calls Tryz.prog 85 #[.pointer (some ⟨q, 0, none⟩), .pointer (some ⟨M.br n, 0, none⟩), .int .i64 fd] w fun e w' => e = .returned (.pointer (some ⟨d, 0, none⟩)) ∧ Below w.heap.size w w') := Lib.hid (by rw [← hd]; exact hr)
  rw [hd] at s0 s1 s2 hlt hB hS hturn
  obtain ⟨fp, hfp⟩ : ∃ fp, M.fp = fp := ⟨_, rfl⟩
  rw [hfp] at sq hrd
  obtain ⟨b, hb⟩ : ∃ b, M.br n = b := ⟨_, rfl⟩
  rw [hb] at hr2 ⊢
  obtain ⟨rm, hrm⟩ : ∃ x, ReadM K.fs D.n D.at_ k = x := ⟨_, rfl⟩
  rw [hrm] at hrd hturn hsz ⊢
  obtain ⟨st, er⟩ := rm
  dsimp only at hrd hturn hsz ⊢
  obtain ⟨dn, hdn⟩ : ∃ x, D.n = x := ⟨_, rfl⟩
  obtain ⟨da, hda⟩ : ∃ x, D.at_ = x := ⟨_, rfl⟩
  obtain ⟨K2, hK2⟩ : ∃ K2, setD K m { D with at_ := D.at_ + st.size } = K2 := ⟨_, rfl⟩
  have hKn : Hid (K2.lastX = K.lastX ∧ K2.lastD = K.lastD ∧ K2.lastR = K.lastR) := Lib.hid (by rw [← hK2]; exact ⟨rfl, rfl, rfl⟩)
  rw [hK2] at hturn ⊢
  rw [hdn] at s1 hrd
  rw [hda] at s2 hrd hturn hat
  have hSS : Hid (∀ Z, Below w.heap.size w Z → Z.cell? ⟨q, 0, none⟩ = some (.pointer (some ⟨fp, 0, none⟩)) ∧ Z.cell? ⟨d, 1, none⟩ = some (.int .i64 dn) ∧ Z.cell? ⟨d, 2, none⟩ = some (.int .i64 da)) := Lib.hid (fun Z hZ => ⟨(hZ.cell hql).trans sq, (hZ.cell hlt).trans s1, (hZ.cell hlt).trans s2⟩)
  have g0 := Lib.hid s0
  have hBH := Lib.hid hB
  have hSH := Lib.hid hS
  have hk0 : ¬ k < 0 := by omega
  obtain ⟨z, hz⟩ : ∃ z, st.size = z := ⟨_, rfl⟩
  rw [hz] at hturn hsz
  have hzH := Lib.hid hz
  clear h hP hm hD hkd hr s0 s1 s2 hd ho hfp hb hrm hdn hda hK2 sq hB hS hw hz
  go_enter Tryz.func137, Tryz.ntmps137
  go_upto_region 14 with (go_at_call 85; refine hr2.out.mono ?_; rintro e w1 ⟨rfl, hb1⟩; have e0 : w1.cell? ⟨d, 0, none⟩ = some (.int .i64 2) := (hb1.cell hlt).trans g0.out; have hb1H := Lib.hid hb1; clear hb1)
  have q1 := hSS.out _ hb1H.out
  have q2 := hSS.out _ hb1H.out.drew
  go_region_held3 (fun Z => Z.cell? ⟨q, 0, none⟩ = some (.pointer (some ⟨fp, 0, none⟩)) ∧ Z.cell? ⟨d, 1, none⟩ = some (.int .i64 dn) ∧ Z.cell? ⟨d, 2, none⟩ = some (.int .i64 da)) (first | exact q1 | exact q2 | exact hSS.out _ hb2H.out | go_keep | fail)
    ((first | (go_at_call 190; refine (hrd.out w1.drew hb1H.out.drew).mono ?_; rintro e w2 ⟨rfl, hb2⟩; have hb2H : Hid (Below w.heap.size w w2) := Lib.hid (hb1H.out.drew.trans (hb2.mono hb1H.out.drew.size)); clear hb2) | fail))
  all_goals
    have e2 : w2.cell? ⟨d, 2, none⟩ = some (.int .i64 da) := (hSS.out _ hb2H.out).2.2
    have f2 : w2.frozen? ⟨d, 2, none⟩ = false := (hBH.out.keep (hb2H.out.block d hlt)).frozen 2
    have hsz2 : st.size ≤ 1000000000000000000 := by have := hzH.out; omega
    clear q1 q2 hSS e0
    go_wp2_with fail
    go_ret2
    have ht := hturn.out _ hb2H.out
    rw [← hzH.out] at ht
    obtain ⟨z1, z2, z3⟩ := hKn.out
    exact ⟨rfl, B, M, ht, MExt.refl _ _, Nat.le_of_eq z1.symm, Nat.le_of_eq z2.symm, Nat.le_of_eq z3.symm, fun g hg => .inl hg, (Frm.of_below hb2H.out).setCell (a := ⟨d, 2, none⟩) (.inl ⟨_, hSH.out⟩) _⟩
set_option maxRecDepth 100000 in
set_option maxHeartbeats 4000000 in
/-- A write of nothing doesn't wait. -/
theorem waits_write_no (h : KerIs w B q K M) {n : Nat} {P : Prc} (hP : ask K.procs n = some P) (fd : Int) {m : Nat} (hm : writN K P fd = some m) (k : Int) (s t : ByteArray) (hs : s.toList.isEmpty = true) (pa : Option Addr) (pn pc : Nat) :
    Calls Tryz.prog 47 #[.pointer (some ⟨q, 0, none⟩), .pointer (some ⟨M.br n, 0, none⟩), .agg (callC 2 fd k s t pa pn pc)] w fun e w' => e = .returned (.bool false) ∧ Below w.heap.size w w' := by
  unfold callC
  have hr : Hid (∀ W, Below w.heap.size w W → Calls Tryz.prog 87 #[.pointer (some ⟨q, 0, none⟩), .pointer (some ⟨M.br n, 0, none⟩), .int .i64 fd] W fun e w' => e = .returned (.pointer (some ⟨M.bd m, 0, none⟩)) ∧ Below W.heap.size W w') := Lib.hid (fun W hW => by
    have := writable_any (h.below hW) hP fd
    rw [hm] at this
    exact this)
  obtain ⟨d, hd⟩ : ∃ d, M.bd m = d := ⟨_, rfl⟩
  obtain ⟨b, hb⟩ : ∃ b, M.br n = b := ⟨_, rfl⟩
  rw [hd] at hr
  rw [hb] at hr ⊢
  clear h hP hm hd hb
  go_enter Tryz.func47, Tryz.ntmps47
  go_upto_region 6 with fail
  obtain ⟨W0, hW0⟩ : ∃ W, w.alloc (.cells #[.int .i64 2, .int .i64 fd, .int .i64 k, .string s, .string t, .slice pa pn pc] 34) = W := ⟨_, rfl⟩
  have hb0 : Below w.heap.size w W0 := by rw [← hW0]; exact (Below.refl _ _).alloc (Nat.le_refl _) _
  have hC0 : Blk W0 w.heap.size 34 #[.int .i64 2, .int .i64 fd, .int .i64 k, .string s, .string t, .slice pa pn pc] := by rw [← hW0]; exact Blk.new _ _ _
  have a1 : W0.cell? ⟨w.heap.size, 1, none⟩ = some (.int .i64 fd) := hC0.cell 1
  have hb0H := Lib.hid hb0
  have hC0H := Lib.hid hC0
  rw [hW0]
  clear hb0 hC0 hW0
  go_wp2_with (first
    | (go_at_call 87; refine (hr.out W0 hb0H.out).mono ?_; rintro e w1 ⟨rfl, hb1⟩
       have hb01 : Below w.heap.size w w1 := hb0H.out.trans (hb1.mono hb0H.out.size)
       have hC1 : Blk w1 w.heap.size 34 #[.int .i64 2, .int .i64 fd, .int .i64 k, .string s, .string t, .slice pa pn pc] := hC0H.out.keep (hb1.block _ hC0H.out.lt)
       have e3 : w1.cell? ⟨w.heap.size, 3, none⟩ = some (.string s) := hC1.cell 3
       have hb1H := Lib.hid hb01; clear hb1 hb01 hC1))
  go_ret
  exact ⟨rfl, hb1H.out⟩
set_option maxRecDepth 100000 in
set_option maxHeartbeats 4000000 in
/-- A read of nothing doesn't wait. -/
theorem waits_read_no (h : KerIs w B q K M) {n : Nat} {P : Prc} (hP : ask K.procs n = some P) (fd : Int) {m : Nat} (hm : readN K P fd = some m) (k : Int) (k0 : k ≤ 0) (s t : ByteArray) (pa : Option Addr) (pn pc : Nat) :
    Calls Tryz.prog 47 #[.pointer (some ⟨q, 0, none⟩), .pointer (some ⟨M.br n, 0, none⟩), .agg (callC 1 fd k s t pa pn pc)] w fun e w' => e = .returned (.bool false) ∧ Below w.heap.size w w' := by
  unfold callC
  have hr : Hid (∀ W, Below w.heap.size w W → Calls Tryz.prog 85 #[.pointer (some ⟨q, 0, none⟩), .pointer (some ⟨M.br n, 0, none⟩), .int .i64 fd] W fun e w' => e = .returned (.pointer (some ⟨M.bd m, 0, none⟩)) ∧ Below W.heap.size W w') := Lib.hid (fun W hW => by
    have := readable_any (h.below hW) hP fd
    rw [hm] at this
    exact this)
  obtain ⟨d, hd⟩ : ∃ d, M.bd m = d := ⟨_, rfl⟩
  obtain ⟨b, hb⟩ : ∃ b, M.br n = b := ⟨_, rfl⟩
  rw [hd] at hr
  rw [hb] at hr ⊢
  have hk0 : ¬ 0 < k := by omega
  clear h hP hm hd hb k0
  go_enter Tryz.func47, Tryz.ntmps47
  go_upto_region 3 with fail
  obtain ⟨W0, hW0⟩ : ∃ W, w.alloc (.cells #[.int .i64 1, .int .i64 fd, .int .i64 k, .string s, .string t, .slice pa pn pc] 34) = W := ⟨_, rfl⟩
  have hb0 : Below w.heap.size w W0 := by rw [← hW0]; exact (Below.refl _ _).alloc (Nat.le_refl _) _
  have hC0 : Blk W0 w.heap.size 34 #[.int .i64 1, .int .i64 fd, .int .i64 k, .string s, .string t, .slice pa pn pc] := by rw [← hW0]; exact Blk.new _ _ _
  have a1 : W0.cell? ⟨w.heap.size, 1, none⟩ = some (.int .i64 fd) := hC0.cell 1
  have hb0H := Lib.hid hb0
  have hC0H := Lib.hid hC0
  rw [hW0]
  clear hb0 hC0 hW0
  go_wp2_with (first
    | (go_at_call 85; refine (hr.out W0 hb0H.out).mono ?_; rintro e w1 ⟨rfl, hb1⟩
       have hb01 : Below w.heap.size w w1 := hb0H.out.trans (hb1.mono hb0H.out.size)
       have hC1 : Blk w1 w.heap.size 34 #[.int .i64 1, .int .i64 fd, .int .i64 k, .string s, .string t, .slice pa pn pc] := hC0H.out.keep (hb1.block _ hC0H.out.lt)
       have e2 : w1.cell? ⟨w.heap.size, 2, none⟩ = some (.int .i64 k) := hC1.cell 2
       have hb1H := Lib.hid hb01; clear hb1 hb01 hC1))
  go_ret
  exact ⟨rfl, hb1H.out⟩
theorem c_read_file (h : KerIs w B q K M) {pid : Int} {n : Nat} (hl : liveM K pid = some n) {P : Prc} (hP : ask K.procs n = some P) (hw : WF c K.fs) (hc : c ≤ 5000) (fd : Int) {m : Nat} {D : Dsc} (hm : readN K P fd = some m) (hD : ask K.descs m = some D) (hkd : D.kind = 2) (hp : D.pipe = none) (k : Int) (k0 : 0 ≤ k) (hat : D.at_ ≤ 1000000000000000000) (hsz : (ReadM K.fs D.n D.at_ k).1.size ≤ 1000000000000000000)
    (hok : (ReadM K.fs D.n D.at_ k).2 = 0) (s t : ByteArray) (pa : Option Addr) (pn pc : Nat) :
    Calls Tryz.prog 15 #[.pointer (some ⟨q, 0, none⟩), .int .i64 pid, .agg #[.int .i64 1, .int .i64 fd, .int .i64 k, .string s, .string t, .slice pa pn pc]] w fun e w' => e = .returned (.tuple #[.agg #[.int .i64 0, .int .i64 0, .string (ReadM K.fs D.n D.at_ k).1, .slice none 0 0, .int .i64 0, .int .i64 0, .int .i64 0, .int .i64 0, .int .i64 0, .int .i64 0], .bool false]) ∧ KP (AllX B) w K M w' q (setD K m { D with at_ := D.at_ + (ReadM K.fs D.n D.at_ k).1.size }) :=
  call_ok h hl 1 fd k s t pa pn pc _ _ _ _ _ _ _ _ _ _ _
    (fun W hW => if k1 : 0 < k then waits_read (h.below hW) hP fd hm hD (by rw [hkd]; decide) k k1 s t pa pn pc false (fun W2 hW2 => by rw [hp]; exact (waits_nil false W2).mono fun e w' ⟨he, h'⟩ => ⟨he, by rw [h']; exact Below.refl _ _⟩) else waits_read_no (h.below hW) hP fd hm k (by omega) s t pa pn pc)
    (fun W hW => answer_1 (h.below hW) fd k s t pa pn pc _ _ _ _ _ _ _ _ _ _ _ 0 (fun W2 hW2 => on_read ((h.below hW).below hW2) fd k s t pa pn pc _ 0 (fun W3 hW3 => by
      have := read_file (((h.below hW).below hW2).below hW3) hw hc hP fd hm hD hkd k k0 hat hsz
      rw [hok] at this
      exact this)))
end
end Go.Proofs.YtmilagppbepnbaaGreat.Kn
