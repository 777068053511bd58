/- The kernel: its tree of files, asked. Condition: the kernel lies as stated; the tree holds what it holds along all calls. -/
import Derived.Test.YtmilagppbepnbaaGreatKgE
namespace Go.Proofs.YtmilagppbepnbaaGreat.Kn
open Go.RowKit Go.PlainAid
set_option linter.unusedVariables false
set_option linter.unusedSimpArgs false
section
variable {w : World} {B : Ix → Nat → Prop} {q : Nat} {K : Ker} {M : Mp} {c : Nat}
theorem fil_of (h : KerIs w B q K M) : ∃ (Bf : Nat → Nat → Prop) (sv : Value) (ps : List (Option Nat)), FsAt w Bf M.fp K.fs sv ps ∧ ∀ g, All Bf g → B .fs g := by
  obtain ⟨Bf, ⟨sv, ps, h1⟩, h2⟩ : FilAt w (B .fs) M.fp K.fs := h.part .fs
  exact ⟨Bf, sv, ps, h1, h2⟩
theorem fsize (hw : WF c K.fs) : K.fs.length ≤ 9000 := by have := hw.len; omega
theorem fDrop_any (h : KerIs w B q K M) (hw : WF c K.fs) (hc : c ≤ 5000) (n : Int) : Calls Tryz.prog 228 #[.pointer (some ⟨M.fp, 0, none⟩), .int .i64 n] w fun e w' => e = .returned (.int .i64 (DropM K.fs n).1) ∧ KP (AllX B) w K M w' q (setF K ((DropM K.fs n).2)) := by
  obtain ⟨Bf, sv, ps, h1, h2⟩ := fil_of h
  exact (drop_any h1 (hw.fine hc) n).mono fun e w' ⟨he, hp⟩ => ⟨he, step_F h h2 hp⟩
theorem fHold_any (h : KerIs w B q K M) (hw : WF c K.fs) (hc : c ≤ 5000) (n : Int) : Calls Tryz.prog 30 #[.pointer (some ⟨M.fp, 0, none⟩), .int .i64 n] w fun e w' => e = .returned (.int .i64 (HoldM K.fs n).1) ∧ KP (AllX B) w K M w' q (setF K ((HoldM K.fs n).2)) := by
  obtain ⟨Bf, sv, ps, h1, h2⟩ := fil_of h
  exact (hold_any h1 (hw.fine hc) n).mono fun e w' ⟨he, hp⟩ => ⟨he, step_F h h2 hp⟩
theorem fChmod_any (h : KerIs w B q K M) (hw : WF c K.fs) (hc : c ≤ 5000) (n m : Int) : Calls Tryz.prog 155 #[.pointer (some ⟨M.fp, 0, none⟩), .int .i64 n, .int .i64 m] w fun e w' => e = .returned (.int .i64 (ChmodM K.fs n m).1) ∧ KP (AllX B) w K M w' q (setF K ((ChmodM K.fs n m).2)) := by
  obtain ⟨Bf, sv, ps, h1, h2⟩ := fil_of h
  exact (chmod_any h1 (hw.fine hc) n m).mono fun e w' ⟨he, hp⟩ => ⟨he, step_F h h2 hp⟩
theorem fTrunc_any (h : KerIs w B q K M) (hw : WF c K.fs) (hc : c ≤ 5000) (n k : Int) : Calls Tryz.prog 197 #[.pointer (some ⟨M.fp, 0, none⟩), .int .i64 n, .int .i64 k] w fun e w' => e = .returned (.int .i64 (TruncM K.fs n k).1) ∧ KP (AllX B) w K M w' q (setF K ((TruncM K.fs n k).2)) := by
  obtain ⟨Bf, sv, ps, h1, h2⟩ := fil_of h
  exact (truncate_any h1 (hw.fine hc) n k).mono fun e w' ⟨he, hp⟩ => ⟨he, step_F h h2 hp⟩
theorem fWrite_any (h : KerIs w B q K M) (hw : WF c K.fs) (hc : c ≤ 5000) (n a : Int) (s : ByteArray) (hs : s.size ≤ 9000000000000000000) : Calls Tryz.prog 243 #[.pointer (some ⟨M.fp, 0, none⟩), .int .i64 n, .int .i64 a, .string s] w fun e w' => e = .returned (.tuple #[.int .i64 (WriteM K.fs n a s).1, .int .i64 (WriteM K.fs n a s).2.1]) ∧ KP (AllX B) w K M w' q (setF K ((WriteM K.fs n a s).2.2)) := by
  obtain ⟨Bf, sv, ps, h1, h2⟩ := fil_of h
  exact (write_any h1 (hw.fine hc) n a s hs).mono fun e w' ⟨he, hp⟩ => ⟨he, step_F h h2 hp⟩
theorem fCreate_any (h : KerIs w B q K M) (hw : WF c K.fs) (hc : c ≤ 5000) (dir : Int) (s : ByteArray) (m : Int) (hs : s.size ≤ maxLen) : Calls Tryz.prog 195 #[.pointer (some ⟨M.fp, 0, none⟩), .int .i64 dir, .string s, .int .i64 m] w fun e w' => e = .returned (.tuple #[.int .i64 (CreateM K.fs dir s m).1, .int .i64 (CreateM K.fs dir s m).2.1]) ∧ KP (AllX B) w K M w' q (setF K ((CreateM K.fs dir s m).2.2)) := by
  obtain ⟨Bf, sv, ps, h1, h2⟩ := fil_of h
  exact (create_any h1 (hw.fine hc) (fsize hw) hw.closed dir s m hs).mono fun e w' ⟨he, hp⟩ => ⟨he, step_F h h2 hp⟩
theorem fMkdir_any (h : KerIs w B q K M) (hw : WF c K.fs) (hc : c ≤ 5000) (dir : Int) (s : ByteArray) (m : Int) (hs : s.size ≤ maxLen) : Calls Tryz.prog 151 #[.pointer (some ⟨M.fp, 0, none⟩), .int .i64 dir, .string s, .int .i64 m] w fun e w' => e = .returned (.int .i64 (MkdirM K.fs dir s m).2.1) ∧ KP (AllX B) w K M w' q (setF K ((MkdirM K.fs dir s m).2.2)) := by
  obtain ⟨Bf, sv, ps, h1, h2⟩ := fil_of h
  exact (mkdir_any h1 (hw.fine hc) (fsize hw) hw.closed dir s m hs).mono fun e w' ⟨he, hp⟩ => ⟨he, step_F h h2 hp⟩
theorem fUnlink_any (h : KerIs w B q K M) (hw : WF c K.fs) (hc : c ≤ 5000) (dir : Int) (s : ByteArray) (hs : s.size ≤ maxLen) : Calls Tryz.prog 150 #[.pointer (some ⟨M.fp, 0, none⟩), .int .i64 dir, .string s] w fun e w' => e = .returned (.int .i64 (UnlinkM K.fs dir s).1) ∧ KP (AllX B) w K M w' q (setF K ((UnlinkM K.fs dir s).2)) := by
  obtain ⟨Bf, sv, ps, h1, h2⟩ := fil_of h
  exact (unlinkF_any h1 (hw.fine hc) hw.closed hw.linked dir s hs).mono fun e w' ⟨he, hp⟩ => ⟨he, step_F h h2 hp⟩
theorem fRmdir_any (h : KerIs w B q K M) (hw : WF c K.fs) (hc : c ≤ 5000) (dir : Int) (s : ByteArray) (hs : s.size ≤ maxLen) : Calls Tryz.prog 152 #[.pointer (some ⟨M.fp, 0, none⟩), .int .i64 dir, .string s] w fun e w' => e = .returned (.int .i64 (RmdirM K.fs dir s).1) ∧ KP (AllX B) w K M w' q (setF K ((RmdirM K.fs dir s).2)) := by
  obtain ⟨Bf, sv, ps, h1, h2⟩ := fil_of h
  exact (rmdir_any h1 (hw.fine hc) hw.closed hw.linked dir s hs).mono fun e w' ⟨he, hp⟩ => ⟨he, step_F h h2 hp⟩
theorem fLink_any (h : KerIs w B q K M) (hw : WF c K.fs) (hc : c ≤ 5000) (dir : Int) (s t : ByteArray) (hs : s.size ≤ maxLen) (ht : t.size ≤ maxLen) : Calls Tryz.prog 154 #[.pointer (some ⟨M.fp, 0, none⟩), .int .i64 dir, .string s, .string t] w fun e w' => e = .returned (.int .i64 (LinkM K.fs dir s t).1) ∧ KP (AllX B) w K M w' q (setF K ((LinkM K.fs dir s t).2)) := by
  obtain ⟨Bf, sv, ps, h1, h2⟩ := fil_of h
  exact (link_any h1 (hw.fine hc) hw.closed dir s t hs ht).mono fun e w' ⟨he, hp⟩ => ⟨he, step_F h h2 hp⟩
theorem fRename_any (h : KerIs w B q K M) (hw : WF c K.fs) (hc : c ≤ 5000) (dir : Int) (s t : ByteArray) (hs : s.size ≤ maxLen) (ht : t.size ≤ maxLen) : Calls Tryz.prog 153 #[.pointer (some ⟨M.fp, 0, none⟩), .int .i64 dir, .string s, .string t] w fun e w' => e = .returned (.int .i64 (RenameM K.fs dir s t).1) ∧ KP (AllX B) w K M w' q (setF K ((RenameM K.fs dir s t).2)) := by
  obtain ⟨Bf, sv, ps, h1, h2⟩ := fil_of h
  exact (rename_any h1 hw hc dir s t hs ht).mono fun e w' ⟨he, hp⟩ => ⟨he, step_F h h2 hp⟩
theorem fRead_any (h : KerIs w B q K M) (hw : WF c K.fs) (hc : c ≤ 5000) (n at_ k : Int) : Calls Tryz.prog 190 #[.pointer (some ⟨M.fp, 0, none⟩), .int .i64 n, .int .i64 at_, .int .i64 k] w fun e w' => e = .returned (.tuple #[.string (ReadM K.fs n at_ k).1, .int .i64 (ReadM K.fs n at_ k).2]) ∧ Below w.heap.size w w' := by
  obtain ⟨Bf, sv, ps, h1, h2⟩ := fil_of h
  exact read_any h1 (hw.fine hc) n at_ k
theorem fWalk_any (h : KerIs w B q K M) (hw : WF c K.fs) (hc : c ≤ 5000) (dir : Int) (s : ByteArray) (hs : s.size ≤ maxLen) : Calls Tryz.prog 147 #[.pointer (some ⟨M.fp, 0, none⟩), .int .i64 dir, .string s] w fun e w' => e = .returned (.tuple #[.int .i64 (WalkM K.fs dir s).1, .int .i64 (WalkM K.fs dir s).2]) ∧ Below w.heap.size w w' := by
  obtain ⟨Bf, sv, ps, h1, h2⟩ := fil_of h
  exact Walk_any h1 (hw.fine hc) hw.closed dir s hs
theorem fStat_any (h : KerIs w B q K M) (hw : WF c K.fs) (hc : c ≤ 5000) (n : Int) : Calls Tryz.prog 148 #[.pointer (some ⟨M.fp, 0, none⟩), .int .i64 n] w fun e w' => e = .returned (.tuple #[.agg (StatM K.fs n).1, .int .i64 (StatM K.fs n).2]) ∧ Below w.heap.size w w' := by
  obtain ⟨Bf, sv, ps, h1, h2⟩ := fil_of h
  exact stat_any h1 (hw.fine hc) n
theorem fPath_any (h : KerIs w B q K M) (hw : WF c K.fs) (hc : c ≤ 5000) (n : Int) : Calls Tryz.prog 156 #[.pointer (some ⟨M.fp, 0, none⟩), .int .i64 n] w fun e w' => e = .returned (.tuple #[.string (PathM K.fs n).1, .int .i64 (PathM K.fs n).2]) ∧ Below w.heap.size w w' := by
  obtain ⟨Bf, sv, ps, h1, h2⟩ := fil_of h
  exact path_any h1 hw hc n
theorem fCount_any (h : KerIs w B q K M) (hw : WF c K.fs) (hc : c ≤ 5000) : Calls Tryz.prog 44 #[.pointer (some ⟨M.fp, 0, none⟩)] w fun e w' => e = .returned (.int .i64 (countM K.fs : Nat)) ∧ Below w.heap.size w w' := by
  obtain ⟨Bf, sv, ps, h1, h2⟩ := fil_of h
  exact count_any h1 (by have := fsize hw; omega)
theorem fBytes_any (h : KerIs w B q K M) (hw : WF c K.fs) (hc : c ≤ 5000) : Calls Tryz.prog 21 #[.pointer (some ⟨M.fp, 0, none⟩)] w fun e w' => e = .returned (.int .i64 (bytesM K.fs : Nat)) ∧ Below w.heap.size w w' := by
  obtain ⟨Bf, sv, ps, h1, h2⟩ := fil_of h
  exact bytes_any h1 (hw.fine hc)
theorem fMay_any (h : KerIs w B q K M) (hw : WF c K.fs) (hc : c ≤ 5000) (n want : Int) : Calls Tryz.prog 205 #[.pointer (some ⟨M.fp, 0, none⟩), .int .i64 n, .int .i64 want] w fun e w' => e = .returned (.bool (MayM K.fs n want)) ∧ w' = w := by
  obtain ⟨Bf, sv, ps, h1, h2⟩ := fil_of h
  exact may_fs h1 (hw.fine hc) n want
theorem fList_any (h : KerIs w B q K M) (hw : WF c K.fs) (hc : c ≤ 5000) (k : Int) : Calls Tryz.prog 129 #[.pointer (some ⟨M.fp, 0, none⟩), .int .i64 k] w fun e w' => (∃ v, e = .returned (.tuple #[v, .int .i64 (ListM K.fs k).2]) ∧ w'.ownsRow w.heap.size 9 1 v (ListM K.fs k).1.length (strs (ListM K.fs k).1)) ∧ Below w.heap.size w w' := by
  obtain ⟨Bf, sv, ps, h1, h2⟩ := fil_of h
  exact list_any h1 (hw.fine hc) k
end
end Go.Proofs.YtmilagppbepnbaaGreat.Kn
