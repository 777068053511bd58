/- What GateOffsets does, plain: the kernels along its way. No condition but that the text isn't long. -/
import Derived.Test.YtmilagppbepnbaaGreatKhE
import Derived.Test.YtmilagppbepnbaaGreatKhF
import Derived.Test.YtmilagppbepnbaaGreatKgRa
namespace Go.Proofs.YtmilagppbepnbaaGreat.Kn
open Go.RowKit Go.PlainAid
set_option linter.unusedVariables false
set_option linter.unusedSimpArgs false
def fT : ByteArray := ⟨#[102]⟩
/-- The kernels along the way; L: the file's bytes; a: how far it is read. -/
def og1 : Ker := (openM aw0 1 (pOf aw0 1) fT 7 420).2.2
def fsL (L : List UInt8) : Fs := modN og1.fs 2 (fun I => { I with data := L })
def og2 (L : List UInt8) : Ker := setD (setF og1 (fsL L)) 4 { dOf og1 4 with at_ := L.length }
def og3 (L : List UInt8) : Ker := (openM (og2 L) 1 (pOf (og2 L) 1) fT 1 0).2.2
def og4 (L : List UInt8) : Ker := (dupM (og3 L) 1 (pOf (og3 L) 1) 4 10).2.2
def og5 (L : List UInt8) : Ker := (forkM (og4 L) (pOf (og4 L) 1)).2.2
def og6 (L : List UInt8) : Ker := (openM (og5 L) 1 (pOf (og5 L) 1) fT 1 0).2.2
def ogx (L : List UInt8) (a : Nat) : Ker := setD (og6 L) 5 { dOf (og6 L) 5 with at_ := a }
theorem og_f1 : flg 7 3 = true ∧ flg 7 4 = true ∧ flg 7 16 = false ∧ flg 1 3 = true ∧ flg 1 16 = false ∧ flg 1 4 = false := ⟨by kernel_rfl, by kernel_rfl, by kernel_rfl, by kernel_rfl, by kernel_rfl, by kernel_rfl⟩
theorem og_b : (bits .andNot .i64 7 63 != 0) = false ∧ (bits .andNot .i64 7 63 == 0) = true ∧ (bits .andNot .i64 1 63 != 0) = false ∧ (bits .andNot .i64 1 63 == 0) = true := ⟨by kernel_rfl, by kernel_rfl, by kernel_rfl, by kernel_rfl⟩
theorem og_0 : (WalkM aw0.fs (pOf aw0 1).dir fT).2 = 2 ∧ (CreateM aw0.fs (pOf aw0 1).dir fT (bits .andNot .i64 420 (pOf aw0 1).mask)).2.1 = 0 ∧ (openM aw0 1 (pOf aw0 1) fT 7 420).1 = 3 ∧ (openM aw0 1 (pOf aw0 1) fT 7 420).2.1 = 0 ∧ (findM aw0 (pOf aw0 1) fT 7 420).1 = 2 ∧ (tfreeM (pOf aw0 1).tab ≠ 0) :=
  ⟨by kernel_rfl, by kernel_rfl, by kernel_rfl, by kernel_rfl, by kernel_rfl, by decide +kernel⟩
theorem og_1 : liveM og1 1 = some 1 ∧ ask og1.procs 1 = some (pOf og1 1) ∧ writN og1 (pOf og1 1) 3 = some 4 ∧ ask og1.descs 4 = some (dOf og1 4) ∧ (dOf og1 4).kind = 2 ∧ (dOf og1 4).pipe = none ∧ (dOf og1 4).at_ = 0 ∧ (dOf og1 4).n = 2 ∧ flg (dOf og1 4).flags 32 = false :=
  ⟨by kernel_rfl, by kernel_rfl, by kernel_rfl, by kernel_rfl, by kernel_rfl, by kernel_rfl, by kernel_rfl, by kernel_rfl, by kernel_rfl⟩
def iOf (f : Fs) (n : Int) : Ino := (node f n).getD ⟨0, 0, 0, 0, [], [], 0⟩
theorem og_n1 : node og1.fs 2 = some (iOf og1.fs 2) ∧ (iOf og1.fs 2).isDir = false ∧ (iOf og1.fs 2).data = [] ∧ bytesM og1.fs = 0 := ⟨by kernel_rfl, by kernel_rfl, by kernel_rfl, by kernel_rfl⟩
theorem fsL_nil : fsL [] = og1.fs := by kernel_rfl
/-- What the write leaves. -/
theorem og_w (s : ByteArray) (hs : s.size ≤ 1000) : WriteM og1.fs 2 0 s = (s.size, 0, fsL s.data.toList) := by
  obtain ⟨h1, h2, h3, h4⟩ := og_n1
  unfold WriteM
  rw [h1]
  dsimp only
  rw [h2, if_neg (by decide), if_neg (by decide)]
  have hl : s.data.toList.length = s.size := by simp
  by_cases h0 : s.size = 0
  · have hz : sizM (iOf og1.fs 2) (0 : Int).toNat s = 0 := by unfold sizM; rw [if_pos h0, h3]; rfl
    rw [hz, if_neg (by unfold roomM; rw [h4, h3]; decide), if_pos h0, h0]
    have : s.data.toList = [] := List.eq_nil_of_length_eq_zero (by omega)
    rw [this, fsL_nil]
  · have hz : sizM (iOf og1.fs 2) (0 : Int).toNat s = s.size := by unfold sizM; rw [if_neg h0, h3]; simp
    rw [hz, if_neg (by unfold roomM; rw [h4, h3]; simp; omega), if_neg h0]
    have hp : ∀ I : Ino, I = iOf og1.fs 2 → ({ I with data := putL (resM I.data s.size) (0 : Int).toNat s.data.toList } : Ino) = { I with data := s.data.toList } := fun I hI => by
      rw [hI, h3]
      have : putL (resM [] s.size) (0 : Int).toNat s.data.toList = s.data.toList := by
        unfold putL resM
        simp
        split <;> simp
      rw [this]
    unfold fsL modN
    rw [h1]
    dsimp only
    rw [hz, hp _ rfl]
section
variable (L : List UInt8)
theorem og_2 : liveM (og2 L) 1 = some 1 ∧ ask (og2 L).procs 1 = some (pOf (og2 L) 1) ∧ (openM (og2 L) 1 (pOf (og2 L) 1) fT 1 0).1 = 4 ∧ (openM (og2 L) 1 (pOf (og2 L) 1) fT 1 0).2.1 = 0 ∧ (WalkM (og2 L).fs (pOf (og2 L) 1).dir fT).2 = 0 ∧ (WalkM (og2 L).fs (pOf (og2 L) 1).dir fT).1 = 2 ∧ mayOpenM (og2 L) 2 1 = 0 ∧ tfreeM (pOf (og2 L) 1).tab = 28 :=
  ⟨by kernel_rfl, by kernel_rfl, by kernel_rfl, by kernel_rfl, by kernel_rfl, by kernel_rfl, by kernel_rfl, by kernel_rfl⟩
theorem og_3 : liveM (og3 L) 1 = some 1 ∧ ask (og3 L).procs 1 = some (pOf (og3 L) 1) ∧ (dupM (og3 L) 1 (pOf (og3 L) 1) 4 10).1 = 10 ∧ (dupM (og3 L) 1 (pOf (og3 L) 1) 4 10).2.1 = 0 ∧ (tabM (pOf (og3 L) 1).tab 4).1 = 5 ∧ ask (og3 L).descs 5 = some (dOf (og3 L) 5) ∧ (dOf (og3 L) 5).refs = 1 :=
  ⟨by kernel_rfl, by kernel_rfl, by kernel_rfl, by kernel_rfl, by kernel_rfl, by kernel_rfl, by kernel_rfl⟩
theorem og_4 : liveM (og4 L) 1 = some 1 ∧ ask (og4 L).procs 1 = some (pOf (og4 L) 1) ∧ (forkM (og4 L) (pOf (og4 L) 1)).1 = 2 ∧ (forkM (og4 L) (pOf (og4 L) 1)).2.1 = 0 ∧ kidB (og4 L) (pOf (og4 L) 1) = true :=
  ⟨by kernel_rfl, by kernel_rfl, by kernel_rfl, by kernel_rfl, by kernel_rfl⟩
theorem og_5 : liveM (og5 L) 1 = some 1 ∧ ask (og5 L).procs 1 = some (pOf (og5 L) 1) ∧ (openM (og5 L) 1 (pOf (og5 L) 1) fT 1 0).1 = 5 ∧ (openM (og5 L) 1 (pOf (og5 L) 1) fT 1 0).2.1 = 0 ∧ (WalkM (og5 L).fs (pOf (og5 L) 1).dir fT).2 = 0 ∧ (WalkM (og5 L).fs (pOf (og5 L) 1).dir fT).1 = 2 ∧ mayOpenM (og5 L) 2 1 = 0 ∧ tfreeM (pOf (og5 L) 1).tab = 26 :=
  ⟨by kernel_rfl, by kernel_rfl, by kernel_rfl, by kernel_rfl, by kernel_rfl, by kernel_rfl, by kernel_rfl, by kernel_rfl⟩
theorem og_x0 : ogx L 0 = og6 L := by kernel_rfl
variable (a : Nat)
theorem og_x1 : liveM (ogx L a) 1 = some 1 ∧ ask (ogx L a).procs 1 = some (pOf (ogx L a) 1) ∧ liveM (ogx L a) 2 = some 2 ∧ ask (ogx L a).procs 2 = some (pOf (ogx L a) 2) ∧ readN (ogx L a) (pOf (ogx L a) 1) 4 = some 5 ∧ readN (ogx L a) (pOf (ogx L a) 1) 10 = some 5 ∧ readN (ogx L a) (pOf (ogx L a) 2) 4 = some 5 ∧ readN (ogx L a) (pOf (ogx L a) 1) 5 = some 6 :=
  ⟨by kernel_rfl, by kernel_rfl, by kernel_rfl, by kernel_rfl, by kernel_rfl, by kernel_rfl, by kernel_rfl, by kernel_rfl⟩
theorem og_d5 : ask (ogx L a).descs 5 = some (dOf (ogx L a) 5) ∧ (dOf (ogx L a) 5).kind = 2 ∧ (dOf (ogx L a) 5).pipe = none ∧ (dOf (ogx L a) 5).at_ = a ∧ (dOf (ogx L a) 5).n = 2 :=
  ⟨by kernel_rfl, by kernel_rfl, by kernel_rfl, by kernel_rfl, by kernel_rfl⟩
theorem og_d6 : ask (ogx L a).descs 6 = some (dOf (ogx L a) 6) ∧ (dOf (ogx L a) 6).kind = 2 ∧ (dOf (ogx L a) 6).pipe = none ∧ (dOf (ogx L a) 6).at_ = 0 ∧ (dOf (ogx L a) 6).n = 2 :=
  ⟨by kernel_rfl, by kernel_rfl, by kernel_rfl, by kernel_rfl, by kernel_rfl⟩
theorem og_nx : node (ogx L a).fs 2 = some (iOf (ogx L a).fs 2) ∧ (iOf (ogx L a).fs 2).isDir = false ∧ (iOf (ogx L a).fs 2).data = L :=
  ⟨by kernel_rfl, by kernel_rfl, by kernel_rfl⟩
theorem og_next (z : Nat) : setD (ogx L a) 5 { dOf (ogx L a) 5 with at_ := a + z } = ogx L (a + z) := by kernel_rfl
theorem og_read (b k : Nat) : ReadM (ogx L a).fs 2 b k = (⟨((L.drop b).take k).toArray⟩, 0) := by
  obtain ⟨h1, h2, h3⟩ := og_nx L a
  unfold ReadM
  rw [h1]
  dsimp only
  rw [h2, if_neg (by decide), if_neg (by omega), h3]
  rfl
theorem og_wf1 : WF 3 og1.fs := by
  have h : og1.fs = (HoldM (CreateM aw0.fs (pOf aw0 1).dir fT (bits .andNot .i64 420 (pOf aw0 1).mask)).2.2 2).2 := by kernel_rfl
  rw [h]
  exact hold_wf (create_wf (hold_wf new_wf 1) _ _ _) 2
theorem og_wf2 (s : ByteArray) (hs : s.size ≤ 1000) : WF 4 (og2 s.data.toList).fs := by
  show WF 4 (fsL s.data.toList)
  have := write_wf og_wf1 2 0 s
  rw [og_w s hs] at this
  exact this
theorem og_wf3 (s : ByteArray) (hs : s.size ≤ 1000) : WF 5 (og3 s.data.toList).fs := by
  have h : (og3 s.data.toList).fs = (HoldM (og2 s.data.toList).fs 2).2 := by kernel_rfl
  rw [h]
  exact hold_wf (og_wf2 s hs) 2
theorem og_wf5 (s : ByteArray) (hs : s.size ≤ 1000) : WF 6 (og5 s.data.toList).fs := by
  have h : (og5 s.data.toList).fs = (HoldM (og3 s.data.toList).fs 1).2 := by kernel_rfl
  rw [h]
  exact hold_wf (og_wf3 s hs) 1
theorem og_wfx (s : ByteArray) (hs : s.size ≤ 1000) (a : Nat) : WF 7 (ogx s.data.toList a).fs := by
  have h : (ogx s.data.toList a).fs = (HoldM (og5 s.data.toList).fs 2).2 := by kernel_rfl
  rw [h]
  exact hold_wf (og_wf5 s hs) 2
end
end Go.Proofs.YtmilagppbepnbaaGreat.Kn
