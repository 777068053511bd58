/- The kernel: open, what it is. Condition: it lies as stated; the trees on the way hold what the tree holds along all calls. -/
import Derived.Test.YtmilagppbepnbaaGreatKgQ
import Derived.Test.YtmilagppbepnbaaGreatKgJ
namespace Go.Proofs.YtmilagppbepnbaaGreat.Kn
open Go.RowKit Go.PlainAid
set_option linter.unusedVariables false
set_option linter.unusedSimpArgs false
attribute [local go_sem] Oper.semAt_some
/-- What is opened: its number, the error, the tree behind. -/
def findM (K : Ker) (P : Prc) (s : ByteArray) (flags mode : Int) : Int × Int × Fs :=
  if (WalkM K.fs P.dir s).2 = 2 ∧ flg flags 4 = true then ((CreateM K.fs P.dir s (bits .andNot .i64 mode P.mask)).1, (CreateM K.fs P.dir s (bits .andNot .i64 mode P.mask)).2.1, (CreateM K.fs P.dir s (bits .andNot .i64 mode P.mask)).2.2)
  else if (WalkM K.fs P.dir s).2 = 0 then ((WalkM K.fs P.dir s).1, mayOpenM K (WalkM K.fs P.dir s).1 flags, K.fs)
  else ((WalkM K.fs P.dir s).1, (WalkM K.fs P.dir s).2, K.fs)
def cutF (f : Fs) (i flags : Int) : Fs := if flg flags 16 && flg flags 2 then (TruncM f i 0).2 else f
def openM (K : Ker) (n : Nat) (P : Prc) (s : ByteArray) (flags mode : Int) : Int × Int × Ker :=
  if (bits .andNot .i64 flags 63 != 0) || !flg flags 3 then (0, 22, K)
  else if tfreeM P.tab = 0 then (0, 24, K)
  else if (findM K P s flags mode).2.1 ≠ 0 then (0, (findM K P s flags mode).2.1, setF K (findM K P s flags mode).2.2)
  else ((tputM P.tab ((K.lastD : Int) + 1) 0).1, 0, instM (setF K (HoldM (cutF (findM K P s flags mode).2.2 (findM K P s flags mode).1 flags) (findM K P s flags mode).1).2) n P ⟨2, (findM K P s flags mode).1.toNat, 0, 0, flags, none, ⟨#[]⟩⟩)
section
variable {w w' : World} {B : Ix → Nat → Prop} {q : Nat} {K K1 : Ker} {M : Mp} {c : Nat}
/-- Behind the search: what is left to do. -/
theorem kp_trunc (hk : KP (AllX B) w K M w' q K1) (hw : WF c K1.fs) (hc : c ≤ 5000) (i k : Int) : Calls Tryz.prog 197 #[.pointer (some ⟨M.fp, 0, none⟩), .int .i64 i, .int .i64 k] w' fun e w2 => e = .returned (.int .i64 (TruncM K1.fs i k).1) ∧ KP (AllX B) w K M w2 q (setF K1 (TruncM K1.fs i k).2) := by
  obtain ⟨B4, M4, k1, k2, k3, k4, k5, k6, k7⟩ := hk
  have hD := fTrunc_any k1 (c := c) hw hc i k
  rw [k2.fp] at hD
  exact hD.mono fun e w' ⟨he, hp⟩ => ⟨he, KP.trans k6 k7 k2 k3 k4 k5 hp⟩
theorem kp_hold (hk : KP (AllX B) w K M w' q K1) (hw : WF c K1.fs) (hc : c ≤ 5000) (i : Int) : Calls Tryz.prog 30 #[.pointer (some ⟨M.fp, 0, none⟩), .int .i64 i] w' fun e w2 => e = .returned (.int .i64 (HoldM K1.fs i).1) ∧ KP (AllX B) w K M w2 q (setF K1 (HoldM K1.fs i).2) := by
  obtain ⟨B4, M4, k1, k2, k3, k4, k5, k6, k7⟩ := hk
  have hD := fHold_any k1 (c := c) hw hc i
  rw [k2.fp] at hD
  exact hD.mono fun e w' ⟨he, hp⟩ => ⟨he, KP.trans k6 k7 k2 k3 k4 k5 hp⟩
theorem kp_inst (hk : KP (AllX B) w K M w' q K1) {n : Nat} (hn : n ≤ K.lastR) {P : Prc} (hP : ask K1.procs n = some P) (hlast : K1.lastD < 90000) (i : Nat) (flags : Int) :
    Calls Tryz.prog 31 #[.pointer (some ⟨q, 0, none⟩), .pointer (some ⟨M.br n, 0, none⟩), .pointer (some ⟨w'.heap.size, 0, none⟩)] (w'.alloc (.cells #[.int .i64 2, .int .i64 i, .int .i64 0, .int .i64 0, .int .i64 flags, .pointer none, .string ⟨#[]⟩] 91)) fun e w2 => e = .returned (.int .i64 (tputM P.tab ((K1.lastD : Int) + 1) 0).1) ∧ KP (AllX B) w K M w2 q (instM K1 n P ⟨2, i, 0, 0, flags, none, ⟨#[]⟩⟩) := by
  obtain ⟨B4, M4, k1, k2, k3, k4, k5, k6, k7⟩ := hk
  have hD := inst_new k1 hP ⟨2, i, 0, 0, flags, none, ⟨#[]⟩⟩ hlast (.pointer none) rfl w' (Below.refl _ _)
  rw [k2.br n hn] at hD
  exact hD.mono fun e w' ⟨he, hp⟩ => ⟨he, KP.trans k6 k7 k2 k3 k4 k5 hp⟩
end
end Go.Proofs.YtmilagppbepnbaaGreat.Kn
