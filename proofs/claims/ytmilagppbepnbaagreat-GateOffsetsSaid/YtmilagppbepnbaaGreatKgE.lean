/- The kernel: install. Condition: it lies as stated; the description is a block of its own. -/
import Derived.Test.YtmilagppbepnbaaGreatKgD
import Derived.Deep.RegionHeld3
namespace Go.Proofs.YtmilagppbepnbaaGreat.Kn
open Go.RowKit Go.PlainAid
set_option linter.unusedVariables false
set_option linter.unusedSimpArgs false
attribute [local go_sem] Oper.semAt_some
theorem kbelow {W0 X Z : World} (h : Below W0.heap.size W0 X) (hb : Below X.heap.size X Z) : Below W0.heap.size W0 Z := h.trans (hb.mono h.size)
/-- What install leaves: a description more, which the process's least free descriptor names. -/
def instM (K : Ker) (n : Nat) (P : Prc) (D : Dsc) : Ker := setR (putD K { D with refs := 1 }) n { P with tab := (tputM P.tab ((K.lastD : Int) + 1) 0).2.2 }
section
variable {w w' : World} {B : Ix → Nat → Prop} {q : Nat} {K : Ker} {M : Mp}
theorem KP.mono {O O' : Nat → Prop} {w0 : World} {K0 : Ker} {M0 : Mp} (h : KP O w0 K0 M0 w q K) (hO : ∀ g, O g → O' g) : KP O' w0 K0 M0 w q K := by
  obtain ⟨B, M, h1, h2, h3, h4, h5, h6, h7⟩ := h
  exact ⟨B, M, h1, h2, h3, h4, h5, fun g hg => (h6 g hg).imp_left (hO g), h7.mono hO⟩
variable {O O' : Nat → Prop} {w0 : World} {K0 K' : Ker} {M0 : Mp}
theorem Cur.nextO (h : Cur O w0 K0 M0 q w K B M) (hO : ∀ g, O' g → O g ∨ w0.heap.size ≤ g) (k : KP O' w K M w' q K') : ∃ B' M', Cur O w0 K0 M0 q w' K' B' M' ∧ MExt K M M' ∧ K.lastX ≤ K'.lastX ∧ K.lastD ≤ K'.lastD ∧ K.lastR ≤ K'.lastR := by
  obtain ⟨B', M', k1, k2, k3, k4, k5, k6, k7⟩ := k
  exact ⟨B', M', ⟨k1, h.ext.trans k2 h.lx h.ld h.lr, Nat.le_trans h.lx k3, Nat.le_trans h.ld k4, Nat.le_trans h.lr k5, fun g hg => (k6 g hg).elim (hO g) (fun h' => .inr (Nat.le_trans h.frm.size h')), h.frm.trans hO k7⟩, k2, k3, k4, k5⟩
theorem ext_mpD (M : Mp) (K : Ker) (b : Nat) : MExt K M (mpD M K b) := ⟨fun _ _ => rfl, fun n hn => by show upN M.bd (K.lastD + 1) b n = _; unfold upN; rw [if_neg (by omega)], fun _ _ => rfl, fun _ _ => rfl, rfl⟩
theorem ext_mpR (M : Mp) (K : Ker) (b tb : Nat) : MExt K M (mpR M K b tb) := ⟨fun _ _ => rfl, fun _ _ => rfl, fun n hn => by show upN M.br (K.lastR + 1) b n = _; unfold upN; rw [if_neg (by omega)], fun n hn => by show upN M.bt (K.lastR + 1) tb n = _; unfold upN; rw [if_neg (by omega)], rfl⟩
theorem ext_mpX (M : Mp) (K : Ker) (b : Nat) : MExt K M (mpX M K b) := ⟨fun n hn => by show upN M.bx (K.lastX + 1) b n = _; unfold upN; rw [if_neg (by omega)], fun _ _ => rfl, fun _ _ => rfl, fun _ _ => rfl, rfl⟩
set_option maxRecDepth 100000 in
set_option maxHeartbeats 4000000 in
theorem install_any (h : KerIs w B q K M) {n : Nat} {P : Prc} (hP : ask K.procs n = some P) {S : Nat → Prop} {b : Nat} {D : Dsc} (hx : DscAt M.bx w S b D) (hd : ∀ j g, B j g → ¬ S g) (hl : ∀ g, S g → g < w.heap.size) (hlast : K.lastD < 90000) :
    Calls Tryz.prog 31 #[.pointer (some ⟨q, 0, none⟩), .pointer (some ⟨M.br n, 0, none⟩), .pointer (some ⟨b, 0, none⟩)] w fun e w' => e = .returned (.int .i64 (tputM P.tab ((K.lastD : Int) + 1) 0).1) ∧ KP (fun g => AllX B g ∨ S g) w K M w' q (instM K n P D) := by
  obtain ⟨hB, hT, hS1, hS2, hne⟩ : PrcAt w (B (.proc n)) (M.br n) (M.bt n) P := h.part (.proc n) P hP
  obtain ⟨tb, htb⟩ : ∃ tb, M.bt n = tb := ⟨_, rfl⟩
  rw [htb] at hB hT hS2 hne
  have hbq : S b := hx.2
  obtain ⟨W1, hW1⟩ : ∃ W, w.setCell ⟨b, 3, none⟩ (.int .i64 1) = W := ⟨_, rfl⟩
  have c3 : w.cell? ⟨b, 3, none⟩ = some (.int .i64 D.refs) := hx.1.cell 3
  have f3 := hx.1.frozen 3
  have hF1 : Frm S w W1 := by rw [← hW1]; exact (Frm.refl _ _).setCell (a := ⟨b, 3, none⟩) (.inl hbq) _
  have h1 := h.frm hF1 (fun i g hg => hd i g hg)
  have hx1 : DscAt M.bx W1 S b { D with refs := 1 } := ⟨by rw [← hW1]; exact hx.1.set_ 3 (.int .i64 1), hbq⟩
  have hB1 : Blk W1 (M.br n) 84 (pcells P tb).toArray := hB.keep (hF1.block _ (h.lt _ _ hS1) (hd _ _ hS1))
  have hT1 : Pp.TabAt W1 tb P.tab := hT.keep (hF1.block _ (h.lt _ _ hS2) (hd _ _ hS2))
  have hsz : W1.heap.size = w.heap.size := by rw [← hW1]; simp
  obtain ⟨r, hr⟩ : ∃ r, M.br n = r := ⟨_, rfl⟩
  have d2 : W1.cell? ⟨r, 2, none⟩ = some (.pointer (some ⟨tb, 0, none⟩)) := by rw [← hr]; exact hB1.cell 2
  have d2d : W1.drew.cell? ⟨r, 2, none⟩ = some (.pointer (some ⟨tb, 0, none⟩)) := d2
  have h1d : KerIs W1.drew B q K M := h1.keep (Nat.le_refl _) (fun _ _ _ => rfl)
  have hput := Lib.hid (putD_any h1d (S := S) (b := b) (x := { D with refs := 1 }) hx1 hd (fun g hg => by show g < W1.heap.size; rw [hsz]; exact hl g hg) hlast)
  have hrlt : r < W1.heap.size := by rw [← hr]; exact hB1.lt
  have hrn : ¬ S r := by rw [← hr]; exact hd _ _ hS1
  have hF1H := Lib.hid hF1
  have h1H := Lib.hid h1
  have hW1H := Lib.hid hW1
  have hTH := Lib.hid hT1
  have hS1H := Lib.hid hS1
  have hS2H := Lib.hid hS2
  have hneH := Lib.hid hne
  have hBH := Lib.hid hB1
  have hrH := Lib.hid hr
  have htbH := Lib.hid htb
  have hPH := Lib.hid hP
  have hdH := Lib.hid hd
  have hszH := Lib.hid hsz
  rw [hr]
  clear htb h hP hx hd hl hB hT hS1 hS2 hne hbq hF1 h1 hx1 hB1 hT1 hW1 hr h1d hsz
  go_enter Tryz.func31, Tryz.ntmps31
  go_upto_region 2 with fail
  rw [hW1H.out]
  go_region_held3 (fun Z => Z.cell? ⟨r, 2, none⟩ = some (.pointer (some ⟨tb, 0, none⟩))) (first | exact d2 | exact d2d | exact e2 | exact e3 | go_keep | fail)
    ((first
      | (go_at_call 60; refine hput.out.mono ?_; rintro e w2 ⟨rfl, B2, hk2, ho2, hF2, _⟩; have e2 : w2.cell? ⟨r, 2, none⟩ = some (.pointer (some ⟨tb, 0, none⟩)) := (World.cell?_of_block (hF2.block r hrlt (fun hh => by
          have hh2 : B (.proc n) r := by rw [← hrH.out]; exact hS1H.out
          have := h1H.out.apart _ _ _ hh hh2
          cases this))).trans d2d
         have hT2 : Pp.TabAt w2 tb P.tab := by
           have h9 : PrcAt w2 (B2 (.proc n)) (M.br n) (M.bt n) P := hk2.part (.proc n) P hPH.out
           rw [← htbH.out]; exact h9.2.1
         have hT2H := Lib.hid hT2; have hk2H := Lib.hid hk2; have ho2H := Lib.hid ho2; have hF2H := Lib.hid hF2; clear hT2 hk2 ho2 hF2)
      | (go_at_call 59; refine (tabPut_any hT2H.out _ _).mono ?_; rintro e w3 ⟨rfl, hT3, hF3⟩; have e3 : w3.cell? ⟨r, 2, none⟩ = some (.pointer (some ⟨tb, 0, none⟩)) := (World.cell?_of_block (hF3.block r (by have := block_of_cell e2; exact this) (fun e => hneH.out (e.symm.trans hrH.out.symm)) (fun e => hneH.out (e.symm.trans hrH.out.symm)))).trans e2
         have hT3H := Lib.hid hT3; have hF3H := Lib.hid hF3; clear hT3 hF3)
      | fail))
  all_goals
    go_wp2_with fail
    go_ret
    refine ⟨rfl, ?_⟩
    have hk3 := step_T hk2H.out (P := P) hPH.out (f := (tputM P.tab ((K.lastD : Int) + 1) 0).2.2) (by show Pp.TabAt w3 (M.bt n) _; rw [htbH.out]; exact hT3H.out) (by show Pp.Frame (M.bt n) (M.bt n) w2 w3; rw [htbH.out]; exact hF3H.out)
    obtain ⟨B3, M3, k1, k2, k3, k4, k5, k6, k7⟩ := hk3
    have hF12 : Frm (fun g => AllX B g ∨ S g) w w2 := by
      have h5 : Frm (fun g => AllX B g ∨ S g) w W1.drew := ⟨hF1H.out.os, hF1H.out.tape, hF1H.out.output, hF1H.out.size, fun g h1 h2 => hF1H.out.block g h1 (fun h3 => h2 (.inr h3))⟩
      exact h5.trans (O1 := B .own) (fun g hg => .inl (.inl ⟨_, hg⟩)) hF2H.out
    have hO2 : ∀ g, AllX B2 g → (AllX B g ∨ S g) ∨ w.heap.size ≤ g := fun g hg => (ho2H.out g hg).imp_right (fun h6 => by
      have h7 : W1.heap.size ≤ g := h6
      rw [hszH.out] at h7; exact h7)
    exact ⟨B3, M3, k1, (ext_mpD M K b).trans k2 (Nat.le_refl _) (Nat.le_succ _) (Nat.le_refl _), k3, Nat.le_trans (Nat.le_succ _) k4, k5, fun g hg => (k6 g hg).elim (hO2 g) (fun h8 => .inr (Nat.le_trans hF12.size h8)), hF12.trans hO2 k7⟩
end
end Go.Proofs.YtmilagppbepnbaaGreat.Kn
