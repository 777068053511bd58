/- The kernel: dup, text, newPipe. Condition: it lies as stated; what a descriptor names is there. -/
import Derived.Test.YtmilagppbepnbaaGreatKgH
namespace Go.Proofs.YtmilagppbepnbaaGreat.Kn
open Go.RowKit Go.PlainAid
set_option linter.unusedVariables false
set_option linter.unusedSimpArgs false
attribute [local go_sem] Oper.semAt_some
def incM (K : Ker) (m : Nat) : Ker := match ask K.descs m with
  | some D => setD K m { D with refs := D.refs + 1 }
  | none => K
def dupM (K : Ker) (n : Nat) (P : Prc) (fd least : Int) : Int × Int × Ker :=
  if (tabM P.tab fd).2 ≠ 0 then (0, (tabM P.tab fd).2, K)
  else if (tputM P.tab (tabM P.tab fd).1 least).2.1 = 0 then ((tputM P.tab (tabM P.tab fd).1 least).1, 0, incM (setR K n { P with tab := (tputM P.tab (tabM P.tab fd).1 least).2.2 }) (tabM P.tab fd).1.toNat)
  else ((tputM P.tab (tabM P.tab fd).1 least).1, (tputM P.tab (tabM P.tab fd).1 least).2.1, K)
def textM (K : Ker) (n : Nat) (P : Prc) (s : ByteArray) : Int × Int × Ker :=
  if tfreeM P.tab = 0 then (0, 24, K) else ((tputM P.tab ((K.lastD : Int) + 1) 0).1, 0, instM K n P ⟨5, 0, 0, 0, 0, none, s⟩)
theorem tput_err {f : Nat → Pp.Sl} {x l : Int} (h : (tputM f x l).2.1 ≠ 0) : (tputM f x l).2.2 = f := by
  unfold tputM at h ⊢
  split
  · rename_i h1
    rw [if_pos h1] at h
    cases hf : ffree f (32 - l.toNat) l.toNat with
    | none => rfl
    | some j => rw [hf] at h; exact absurd rfl h
  · rfl
section
variable {w w' : World} {B : Ix → Nat → Prop} {q : Nat} {K : Ker} {M : Mp} {c : Nat}
set_option maxRecDepth 100000 in
set_option maxHeartbeats 4000000 in
theorem dup_any (h : KerIs w B q K M) {n : Nat} {P : Prc} (hP : ask K.procs n = some P) (fd least : Int) (hok : (tabM P.tab fd).2 = 0 → ∃ m : Nat, (tabM P.tab fd).1 = m ∧ ∃ D, ask K.descs m = some D ∧ (-1000000 ≤ D.refs ∧ D.refs ≤ 1000000)) :
    Calls Tryz.prog 141 #[.pointer (some ⟨q, 0, none⟩), .pointer (some ⟨M.br n, 0, none⟩), .int .i64 fd, .int .i64 least] w fun e w' => e = .returned (.tuple #[.int .i64 (dupM K n P fd least).1, .int .i64 (dupM K n P fd least).2.1]) ∧ KP (AllX B) w K M w' q (dupM K n P fd least).2.2 := by
  obtain ⟨hB, hT, hS1, hS2, hne⟩ : PrcAt w (B (.proc n)) (M.br n) (M.bt n) P := h.part (.proc n) P hP
  obtain ⟨b, hb⟩ : ∃ b, M.br n = b := ⟨_, rfl⟩
  obtain ⟨tb, htb⟩ : ∃ tb, M.bt n = tb := ⟨_, rfl⟩
  have hget := Lib.hid (tabGet_any hT fd)
  rw [htb] at hB hget
  rw [hb] at hB ⊢
  have c2 : w.cell? ⟨b, 2, none⟩ = some (.pointer (some ⟨tb, 0, none⟩)) := hB.cell 2
  have hH := Lib.hid h
  have hPH := Lib.hid hP
  have htbH := Lib.hid htb
  have hBH := Lib.hid hB
  by_cases he : (tabM P.tab fd).2 = 0
  · obtain ⟨m, hm, D, hD, hr⟩ := hok he
    have hput := Lib.hid (fun x => tabPut_any hT x least)
    rw [htb] at hput
    obtain ⟨p, hp⟩ : ∃ p, tputM P.tab (m : Int) least = p := ⟨_, rfl⟩
    have hput2 := Lib.hid (hput.out (m : Int))
    rw [hp] at hput2
    obtain ⟨p1, p2, p3⟩ := p
    dsimp only at hput2
    by_cases he2 : p2 = 0
    · subst he2
      have hl : Hid (dupM K n P fd least = (p1, 0, setD (setR K n { P with tab := p3 }) m { D with refs := D.refs + 1 })) := Lib.hid (by
        unfold dupM
        rw [if_neg (fun k => k he), hm, hp, if_pos rfl, Int.toNat_natCast]
        unfold incM
        rw [show ask (setR K n { P with tab := p3 }).descs m = some D from hD])
      rw [he, hm] at hget
      have hDH := Lib.hid hD
      have hneH := Lib.hid hne
      have hbH := Lib.hid hb
      have hS1H := Lib.hid hS1
      have hS2H := Lib.hid hS2
      obtain ⟨rf, hrf⟩ : ∃ rf, D.refs = rf := ⟨_, rfl⟩
      rw [hrf] at hr
      have hrfH := Lib.hid hrf
      rw [hl.out]
      dsimp only
      clear h hP htb hok he hm hD hb hB hT hS1 hS2 hne hput hp hl hrf
      go_enter Tryz.func141, Tryz.ntmps141
      go_upto_region 6 with (first
        | (go_at_call 59; refine hput2.out.mono ?_; rintro e w1 ⟨rfl, hT1, hF1⟩; have hT1H := Lib.hid hT1; have hF1H := Lib.hid hF1; clear hT1 hF1)
        | (go_at_call 188; refine hget.out.mono ?_; rintro e w0 ⟨rfl, rfl⟩))
      have hk1 := turn_T hH.out hPH.out (f := p3) (by rw [htbH.out]; exact hT1H.out) (by rw [htbH.out]; exact hF1H.out)
      have hfr := frmT hH.out hPH.out (by rw [htbH.out]; exact hF1H.out)
      have hg := getD_any hk1 (m : Int)
      have hask : askI (setR K n { P with tab := p3 }).descs (m : Int) = some m := by unfold askI; rw [if_pos (by omega), Int.toNat_natCast, show ask (setR K n { P with tab := p3 }).descs m = some D from hDH.out]; rfl
      rw [hask] at hg
      obtain ⟨hBd, hSd⟩ : DscAt M.bx w1 (B (.desc m)) (M.bd m) D := hk1.part (.desc m) D hDH.out
      have hturn := Lib.hid (fun (W : World) (hW : Below w1.heap.size w1 W) => turn_dc (hk1.below hW) (show ask (setR K n { P with tab := p3 }).descs m = some D from hDH.out) 3 (.int .i64 (D.refs + 1)) (D' := { D with refs := D.refs + 1 }) rfl)
      obtain ⟨d, hd⟩ : ∃ d, M.bd m = d := ⟨_, rfl⟩
      rw [hd] at hBd hturn hSd
      have hgH : Hid (Calls Tryz.prog 189 #[.pointer (some ⟨q, 3, none⟩), .int .i64 m] w1 fun e w' => e = .returned (.pointer (some ⟨d, 0, none⟩)) ∧ Below w1.heap.size w1 w') := Lib.hid (by rw [← hd]; exact hg)
      have k3 : Hid (w1.cell? ⟨d, 3, none⟩ = some (.int .i64 rf)) := Lib.hid (by rw [← hrfH.out]; exact hBd.cell 3)
      have hlt := hBd.lt
      have hBdH := Lib.hid hBd
      have hfrH := Lib.hid hfr
      have hSdH := Lib.hid hSd
      clear hk1 hg hask hBd hd hfr hSd
      go_wp2_with (go_at_call 189; refine hgH.out.mono ?_; rintro e w2 ⟨rfl, hbw⟩; have e3 : w2.cell? ⟨d, 3, none⟩ = some (.int .i64 rf) := (hbw.cell hlt).trans k3.out; have f3 : w2.frozen? ⟨d, 3, none⟩ = false := (hBdH.out.keep (hbw.block d hlt)).frozen 3; have hbwH := Lib.hid hbw; clear hbw)
      go_ret2
      have ht := hturn.out _ hbwH.out
      rw [hrfH.out] at ht
      rw [hrfH.out]
      exact ⟨rfl, B, M, ht, MExt.refl _ _, Nat.le_refl _, Nat.le_refl _, Nat.le_refl _, fun g hg => .inl hg, (hfrH.out.below hbwH.out).setCell (a := ⟨d, 3, none⟩) (.inl ⟨_, hSdH.out⟩) _⟩
    · have hl : Hid (dupM K n P fd least = (p1, p2, K)) := Lib.hid (by
        unfold dupM
        rw [if_neg (fun k => k he), hm, hp]
        dsimp only
        rw [if_neg he2])
      have hsame : Hid (setR K n { P with tab := p3 } = K) := Lib.hid (by
        have h5 := tput_err (f := P.tab) (x := (m : Int)) (l := least) (by rw [hp]; exact he2)
        rw [hp] at h5
        rw [show p3 = P.tab from h5]
        exact setR_same h hP)
      rw [he, hm] at hget
      have d0 : (p2 == 0) = false := beq_eq_false_iff_ne.2 he2
      rw [hl.out]
      dsimp only
      clear h hP htb hok he hm hD hb hB hT hS1 hS2 hne hput hp hl he2
      go_enter Tryz.func141, Tryz.ntmps141
      go_wp2_with (first
        | (go_at_call 59; refine hput2.out.mono ?_; rintro e w1 ⟨rfl, hT1, hF1⟩; have hT1H := Lib.hid hT1; have hF1H := Lib.hid hF1; clear hT1 hF1)
        | (go_at_call 188; refine hget.out.mono ?_; rintro e w0 ⟨rfl, rfl⟩))
      go_ret2
      have hk1 := turn_T hH.out hPH.out (f := p3) (by rw [htbH.out]; exact hT1H.out) (by rw [htbH.out]; exact hF1H.out)
      have hfr := frmT hH.out hPH.out (by rw [htbH.out]; exact hF1H.out)
      rw [hsame.out] at hk1
      exact ⟨rfl, B, M, hk1, MExt.refl _ _, Nat.le_refl _, Nat.le_refl _, Nat.le_refl _, fun g hg => .inl hg, hfr⟩
  · have hl : Hid (dupM K n P fd least = (0, (tabM P.tab fd).2, K)) := Lib.hid (by unfold dupM; rw [if_pos he])
    rw [hl.out]
    dsimp only
    obtain ⟨g, hg⟩ : ∃ g, tabM P.tab fd = g := ⟨_, rfl⟩
    rw [hg] at hget he ⊢
    obtain ⟨g1, g2⟩ := g
    dsimp only at hget he ⊢
    have d0 : (g2 == 0) = false := beq_eq_false_iff_ne.2 he
    clear h hP htb hok he hb hB hT hS1 hS2 hne hl hg
    go_enter Tryz.func141, Tryz.ntmps141
    go_wp2_with (go_at_call 188; refine hget.out.mono ?_; rintro e w0 ⟨rfl, rfl⟩)
    go_ret2
    exact ⟨rfl, KP.of hH.out (Below.refl _ _)⟩
set_option maxRecDepth 100000 in
set_option maxHeartbeats 4000000 in
theorem text_any (h : KerIs w B q K M) {n : Nat} {P : Prc} (hP : ask K.procs n = some P) (s : ByteArray) (hlast : K.lastD < 90000) :
    Calls Tryz.prog 146 #[.pointer (some ⟨q, 0, none⟩), .pointer (some ⟨M.br n, 0, none⟩), .string s] w fun e w' => e = .returned (.tuple #[.int .i64 (textM K n P s).1, .int .i64 (textM K n P s).2.1]) ∧ KP (AllX B) w K M w' q (textM K n P s).2.2 := by
  obtain ⟨hB, hT, hS1, hS2, hne⟩ : PrcAt w (B (.proc n)) (M.br n) (M.bt n) P := h.part (.proc n) P hP
  obtain ⟨b, hb⟩ : ∃ b, M.br n = b := ⟨_, rfl⟩
  obtain ⟨tb, htb⟩ : ∃ tb, M.bt n = tb := ⟨_, rfl⟩
  have hfree := Lib.hid (Pp.free_any w hT)
  rw [htb] at hB hfree
  have c2 : w.cell? ⟨b, 2, none⟩ = some (.pointer (some ⟨tb, 0, none⟩)) := by rw [← hb]; exact hB.cell 2
  have hH := Lib.hid h
  have hPH := Lib.hid hP
  have hbH := Lib.hid hb
  by_cases he : tfreeM P.tab = 0
  · have hl : textM K n P s = (0, 24, K) := by unfold textM; rw [if_pos he]
    rw [hl]
    dsimp only
    have he' : (32 - ((Pp.upto P.tab 32).length : Int)) = 0 := he
    rw [he'] at hfree
    rw [hb]
    clear h hP htb hb hB hT hS1 hS2 hne hl he he'
    go_enter Tryz.func146, Tryz.ntmps146
    go_wp2_with (go_at_call 194; refine hfree.out.mono ?_; rintro e w1 ⟨rfl, hb1⟩)
    go_ret2
    exact ⟨rfl, KP.of hH.out hb1⟩
  · have hl : textM K n P s = ((tputM P.tab ((K.lastD : Int) + 1) 0).1, 0, instM K n P ⟨5, 0, 0, 0, 0, none, s⟩) := by unfold textM; rw [if_neg he]
    rw [hl]
    dsimp only
    obtain ⟨fr, hfr⟩ : ∃ fr, (32 - ((Pp.upto P.tab 32).length : Int)) = fr := ⟨_, rfl⟩
    rw [hfr] at hfree
    have d0 : (fr == 0) = false := beq_eq_false_iff_ne.2 (fun e => he (hfr.trans e))
    have hinst := Lib.hid (fun (W : World) (hW : Below w.heap.size w W) => install_any (w := W.alloc (.cells #[.int .i64 5, .int .i64 0, .int .i64 0, .int .i64 0, .int .i64 0, .pointer none, .string s] 91)) (S := fun g => g = W.heap.size) (b := W.heap.size) (D := ⟨5, 0, 0, 0, 0, none, s⟩)
      ((h.below hW).below ((Below.refl _ _).alloc (Nat.le_refl _) _)) hP ⟨Blk.new W _ _, rfl⟩ (fun j g hg e => by
        have := (h.below hW).lt j g hg
        omega) (fun g hg => by rw [hg, World.size_alloc]; omega) hlast)
    rw [hb] at hinst ⊢
    clear h hP htb hb hB hT hS1 hS2 hne hl he hfr
    go_enter Tryz.func146, Tryz.ntmps146
    go_wp2_with (first
      | (go_at_call 194; refine hfree.out.mono ?_; rintro e w1 ⟨rfl, hb1⟩; have hb1H := Lib.hid hb1; clear hb1)
      | (go_at_call 31; refine (hinst.out _ hb1H.out).mono ?_; rintro e w2 ⟨rfl, hk2⟩; have hk2H := Lib.hid hk2; clear hk2))
    go_ret2
    refine ⟨rfl, ?_⟩
    obtain ⟨B2, M2, k1, k2, k3, k4, k5, k6, k7⟩ := hk2H.out
    have hsz := hb1H.out.size
    have hO : ∀ g, (AllX B g ∨ g = w1.heap.size) → AllX B g ∨ w.heap.size ≤ g := fun g hg => hg.imp_right (fun e => by rw [e]; exact hsz)
    have hF1 : Frm (AllX B) w (w1.alloc (.cells #[.int .i64 5, .int .i64 0, .int .i64 0, .int .i64 0, .int .i64 0, .pointer none, .string s] 91)) := (Frm.of_below hb1H.out).alloc _
    exact ⟨B2, M2, k1, k2, k3, k4, k5, fun g hg => (k6 g hg).elim (hO g) (fun h9 => .inr (by rw [World.size_alloc] at h9; omega)), hF1.trans hO k7⟩
end
end Go.Proofs.YtmilagppbepnbaaGreat.Kn
