/- The kernel: close, dup, dup2, text. Condition: it lies as stated; what a descriptor names is there. -/
import Derived.Test.YtmilagppbepnbaaGreatKgG
namespace Go.Proofs.YtmilagppbepnbaaGreat.Kn
open Go.RowKit Go.PlainAid
set_option linter.unusedVariables false
set_option linter.unusedSimpArgs false
attribute [local go_sem] Oper.semAt_some
/-- What letGo wants of a description. -/
def LetOK (K : Ker) (m : Nat) : Prop := ∃ D, ask K.descs m = some D ∧ (-1000000 ≤ D.refs ∧ D.refs ≤ 1000000) ∧ (D.kind = 3 ∨ D.kind = 4 → ∃ s, D.pipe = some D.n ∧ ask K.pipes D.n = some s ∧ s.r ≤ 1000000 ∧ s.t ≤ 1000000)
def closeM (K : Ker) (n : Nat) (P : Prc) (fd : Int) : Ker := if (tcutM P.tab fd).2.1 = 0 then letM (setR K n { P with tab := (tcutM P.tab fd).2.2 }) (tcutM P.tab fd).1.toNat else K
theorem put1_same {X : Type} {l : List (Nat × X)} (h : OrdK l) {n : Nat} {x : X} (ha : ask l n = some x) : put1 l n x = l := by
  unfold put1
  conv => rhs; rw [← List.map_id l]
  refine List.map_congr_left (fun p hp => ?_)
  split
  · rename_i e
    have := ask_of h (show (p.1, p.2) ∈ l from hp)
    rw [e, ha] at this
    cases this
    show (n, p.2) = p
    rw [← e]
  · rfl
section
variable {w w' : World} {B : Ix → Nat → Prop} {q : Nat} {K : Ker} {M : Mp} {c : Nat}
theorem setR_same (h : KerIs w B q K M) {n : Nat} {P : Prc} (hP : ask K.procs n = some P) : setR K n P = K := by unfold setR; rw [put1_same h.num.or_ hP]
theorem tcut_err {f : Nat → Pp.Sl} {fd : Int} (h : (tcutM f fd).2.1 ≠ 0) : (tcutM f fd).2.2 = f := by
  unfold tcutM at h ⊢
  split
  · rename_i h1
    rw [if_pos h1] at h
    split
    · rename_i h2; rw [if_pos h2] at h; exact absurd rfl h
    · rfl
  · rfl
theorem turn_T (h : KerIs w B q K M) {n : Nat} {P : Prc} (hP : ask K.procs n = some P) {f : Nat → Pp.Sl} (hT : Pp.TabAt w' (M.bt n) f) (hF : Pp.Frame (M.bt n) (M.bt n) w w') : KerIs w' B q (setR K n { P with tab := f }) M := by
  obtain ⟨hB, _, hS1, hS2, hne⟩ : PrcAt w (B (.proc n)) (M.br n) (M.bt n) P := h.part (.proc n) P hP
  have hbr : w'.heap[M.br n]? = w.heap[M.br n]? := hF.block _ (h.lt _ _ hS1) (fun e => hne e.symm) (fun e => hne e.symm)
  have k := h.turn (.proc n) (S := B (.proc n)) (K' := setR K n { P with tab := f }) (M' := M) (w' := w') (fun g hg => .inl hg) (fun g hg => Nat.lt_of_lt_of_le (h.lt _ _ hg) hF.size) (frm_of_pp hF hS2 hS2)
    (fun Q hQ => by
      have h1 : ask (put1 K.procs n { P with tab := f }) n = some Q := hQ
      rw [ask_put hP, if_pos rfl] at h1
      cases h1
      exact ⟨hB.keep hbr, hT, hS1, hS2, hne⟩) (fun j hj hp => by
      cases j with
      | own =>
        obtain ⟨xv, dv, rv, o1, o2, k⟩ := hp
        exact ⟨xv, dv, rv, o1, o2, k.blk, k.rx, k.rd, by
          show World.ownsRow _ 0 _ 2 rv (put1 K.procs n { P with tab := f }).length (flat rcs (rowsOf (put1 K.procs n { P with tab := f }) M.br))
          rw [put1_len, put1_rows]; exact k.rr, k.p1, k.p2, k.sq, k.sx, k.sd, k.sr, k.s1, k.s2, k.ne⟩
      | fs => exact hp
      | pipe m => exact hp
      | desc m => exact hp
      | proc m =>
        intro Q hQ
        have h1 : ask (put1 K.procs n { P with tab := f }) m = some Q := hQ
        rw [ask_put hP, if_neg (fun e => hj (by rw [e]))] at h1
        exact hp Q h1) (nmbR h.num n _)
  rw [upX_same] at k
  exact k
theorem frmT (h : KerIs w B q K M) {n : Nat} {P : Prc} (hP : ask K.procs n = some P) (hF : Pp.Frame (M.bt n) (M.bt n) w w') : Frm (AllX B) w w' := by
  obtain ⟨_, _, _, hS2, _⟩ : PrcAt w (B (.proc n)) (M.br n) (M.bt n) P := h.part (.proc n) P hP
  exact frm_of_pp hF ⟨_, hS2⟩ ⟨_, hS2⟩
set_option maxRecDepth 100000 in
set_option maxHeartbeats 4000000 in
theorem close_any (h : KerIs w B q K M) (hw : WF c K.fs) (hc : c ≤ 5000) {n : Nat} {P : Prc} (hP : ask K.procs n = some P) (fd : Int) (hok : (tcutM P.tab fd).2.1 = 0 → ∃ m : Nat, (tcutM P.tab fd).1 = m ∧ LetOK K m) :
    Calls Tryz.prog 140 #[.pointer (some ⟨q, 0, none⟩), .pointer (some ⟨M.br n, 0, none⟩), .int .i64 fd] w fun e w' => e = .returned (.int .i64 (tcutM P.tab fd).2.1) ∧ KP (AllX B) w K M w' q (closeM K n P fd) := by
  obtain ⟨hB, hT, hS1, hS2, hne⟩ : PrcAt w (B (.proc n)) (M.br n) (M.bt n) P := h.part (.proc n) P hP
  obtain ⟨b, hb⟩ : ∃ b, M.br n = b := ⟨_, rfl⟩
  obtain ⟨tb, htb⟩ : ∃ tb, M.bt n = tb := ⟨_, rfl⟩
  have hcut := Lib.hid (tabCut_any hT fd)
  rw [htb] at hB hcut
  rw [hb] at hB ⊢
  have c2 : w.cell? ⟨b, 2, none⟩ = some (.pointer (some ⟨tb, 0, none⟩)) := hB.cell 2
  have hH := Lib.hid h
  have hPH := Lib.hid hP
  have hwH := Lib.hid hw
  have htbH := Lib.hid htb
  by_cases he : (tcutM P.tab fd).2.1 = 0
  · obtain ⟨m, hm, D, hD, hr, hp⟩ := hok he
    have hl : Hid (closeM K n P fd = letM (setR K n { P with tab := (tcutM P.tab fd).2.2 }) m) := Lib.hid (by unfold closeM; rw [if_pos he, hm, Int.toNat_natCast])
    rw [he, hm] at hcut
    rw [he]
    obtain ⟨f', hf'⟩ : ∃ f', (tcutM P.tab fd).2.2 = f' := ⟨_, rfl⟩
    rw [hf'] at hcut hl
    have hDH := Lib.hid hD
    have hrH := Lib.hid hr
    have hpH := Lib.hid hp
    clear h hP hw htb hok he hm hD hp hb hB hT hS1 hS2 hne hf' hr
    go_enter Tryz.func140, Tryz.ntmps140
    go_upto_region 3 with (go_at_call 198; refine hcut.out.mono ?_; rintro e w1 ⟨rfl, hT1, hF1⟩; have hT1H := Lib.hid hT1; have hF1H := Lib.hid hF1; clear hT1 hF1)
    have hk1 := turn_T hH.out hPH.out (f := f') (by rw [htbH.out]; exact hT1H.out) (by rw [htbH.out]; exact hF1H.out)
    have hfr := frmT hH.out hPH.out (by rw [htbH.out]; exact hF1H.out)
    have hlet := Lib.hid (letGo_any (c := c) hk1 hwH.out hc (m := m) hDH.out hrH.out hpH.out)
    have hfrH := Lib.hid hfr
    clear hk1 hfr
    go_wp2_with (go_at_call 160; refine hlet.out.mono ?_; rintro e w2 ⟨rfl, hk2⟩; have hk2H := Lib.hid hk2; clear hk2)
    go_ret
    rw [hl.out]
    exact ⟨rfl, KP.trans (K1 := setR K n { P with tab := f' }) (fun g hg => .inl hg) hfrH.out (MExt.refl _ _) (Nat.le_refl _) (Nat.le_refl _) (Nat.le_refl _) hk2H.out⟩
  · have hl : Hid (closeM K n P fd = K) := Lib.hid (by unfold closeM; rw [if_neg he])
    have hsame : Hid (setR K n { P with tab := (tcutM P.tab fd).2.2 } = K) := Lib.hid (by rw [tcut_err he]; exact setR_same h hP)
    obtain ⟨f', hf'⟩ : ∃ f', (tcutM P.tab fd).2.2 = f' := ⟨_, rfl⟩
    obtain ⟨er, her⟩ : ∃ er, (tcutM P.tab fd).2.1 = er := ⟨_, rfl⟩
    rw [hf'] at hcut hsame
    rw [her] at hcut he ⊢
    have d0 : (er == 0) = false := beq_eq_false_iff_ne.2 he
    clear h hP hw htb hok hb hB hT hS1 hS2 hne hf' he her
    go_enter Tryz.func140, Tryz.ntmps140
    go_wp2_with (go_at_call 198; refine hcut.out.mono ?_; rintro e w1 ⟨rfl, hT1, hF1⟩; have hT1H := Lib.hid hT1; have hF1H := Lib.hid hF1; clear hT1 hF1)
    go_ret
    rw [hl.out]
    have hk1 := turn_T hH.out hPH.out (f := f') (by rw [htbH.out]; exact hT1H.out) (by rw [htbH.out]; exact hF1H.out)
    have hfr := frmT hH.out hPH.out (by rw [htbH.out]; exact hF1H.out)
    rw [hsame.out] at hk1
    exact ⟨rfl, B, M, hk1, MExt.refl _ _, Nat.le_refl _, Nat.le_refl _, Nat.le_refl _, fun g hg => .inl hg, hfr⟩
end
end Go.Proofs.YtmilagppbepnbaaGreat.Kn
