/- The kernel: dup2, truncate. Condition: it lies as stated; what a descriptor names is there. -/
import Derived.Test.YtmilagppbepnbaaGreatKgI
namespace Go.Proofs.YtmilagppbepnbaaGreat.Kn
open Go.RowKit Go.PlainAid
set_option linter.unusedVariables false
set_option linter.unusedSimpArgs false
attribute [local go_sem] Oper.semAt_some
def dup2K (K : Ker) (n : Nat) (P : Prc) (m : Nat) (other : Int) : Ker := incM (setR K n { P with tab := (tsetM P.tab other (m : Int)).2.2.2 }) m
def dup2M (K : Ker) (n : Nat) (P : Prc) (fd other : Int) : Int × Int × Ker :=
  if (tabM P.tab fd).2 ≠ 0 then (other, (tabM P.tab fd).2, K)
  else if fd = other then (other, 0, K)
  else if (tsetM P.tab other ((tabM P.tab fd).1.toNat : Int)).2.2.1 ≠ 0 then (0, (tsetM P.tab other ((tabM P.tab fd).1.toNat : Int)).2.2.1, K)
  else if (tsetM P.tab other ((tabM P.tab fd).1.toNat : Int)).2.1 then (other, 0, letM (dup2K K n P (tabM P.tab fd).1.toNat other) (tsetM P.tab other ((tabM P.tab fd).1.toNat : Int)).1.toNat)
  else (other, 0, dup2K K n P (tabM P.tab fd).1.toNat other)
theorem tset_err {f : Nat → Pp.Sl} {x l : Int} (h : (tsetM f l x).2.2.1 ≠ 0) : (tsetM f l x).2.2.2 = f := by
  unfold tsetM at h ⊢
  split
  · rename_i h1
    rw [if_pos h1] at h
    exact absurd rfl h
  · rfl
section
variable {w w' : World} {B : Ix → Nat → Prop} {q : Nat} {K : Ker} {M : Mp} {c : Nat}
set_option maxRecDepth 100000 in
set_option maxHeartbeats 4000000 in
theorem dup2_any (h : KerIs w B q K M) (hw : WF c K.fs) (hc : c ≤ 5000) {n : Nat} {P : Prc} (hP : ask K.procs n = some P) (fd other : Int)
    (hok : (tabM P.tab fd).2 = 0 → ∃ m : Nat, (tabM P.tab fd).1 = m ∧ (∃ D, ask K.descs m = some D ∧ (-1000000 ≤ D.refs ∧ D.refs ≤ 1000000)) ∧ (fd ≠ other → (tsetM P.tab other (m : Int)).2.2.1 = 0 → (tsetM P.tab other (m : Int)).2.1 = true → ∃ o : Nat, (tsetM P.tab other (m : Int)).1 = o ∧ LetOK (dup2K K n P m other) o)) :
    Calls Tryz.prog 142 #[.pointer (some ⟨q, 0, none⟩), .pointer (some ⟨M.br n, 0, none⟩), .int .i64 fd, .int .i64 other] w fun e w' => e = .returned (.tuple #[.int .i64 (dup2M K n P fd other).1, .int .i64 (dup2M K n P fd other).2.1]) ∧ KP (AllX B) w K M w' q (dup2M K n P fd other).2.2 := by
  obtain ⟨hB, hT, hS1, hS2, hne⟩ : PrcAt w (B (.proc n)) (M.br n) (M.bt n) P := h.part (.proc n) P hP
  obtain ⟨b, hb⟩ : ∃ b, M.br n = b := ⟨_, rfl⟩
  obtain ⟨tb, htb⟩ : ∃ tb, M.bt n = tb := ⟨_, rfl⟩
  have hget := Lib.hid (tabGet_any hT fd)
  rw [htb] at hB hget
  rw [hb] at hB ⊢
  have c2 : w.cell? ⟨b, 2, none⟩ = some (.pointer (some ⟨tb, 0, none⟩)) := hB.cell 2
  have hH := Lib.hid h
  have hPH := Lib.hid hP
  have htbH := Lib.hid htb
  have hwH := Lib.hid hw
  by_cases he : (tabM P.tab fd).2 = 0
  · obtain ⟨m, hm, ⟨D, hD, hr⟩, hold⟩ := hok he
    rw [he, hm] at hget
    by_cases hfo : fd = other
    · subst hfo
      have hl : dup2M K n P fd fd = (fd, 0, K) := by unfold dup2M; rw [if_neg (fun k => k he), if_pos rfl]
      rw [hl]
      dsimp only
      clear h hP htb hok he hb hB hT hS1 hS2 hne hl hold hw hD hm
      go_enter Tryz.func142, Tryz.ntmps142
      go_wp2_with (go_at_call 188; refine hget.out.mono ?_; rintro e w0 ⟨rfl, rfl⟩)
      go_ret2
      exact ⟨rfl, KP.of hH.out (Below.refl _ _)⟩
    · have dfo : (fd == other) = false := beq_eq_false_iff_ne.2 hfo
      obtain ⟨p, hp⟩ : ∃ p, tsetM P.tab other (m : Int) = p := ⟨_, rfl⟩
      have hset := Lib.hid (tabSet_any hT other (m : Int))
      rw [htb, hp] at hset
      have hold' := hold hfo
      rw [hp] at hold'
      have hl : dup2M K n P fd other = if p.2.2.1 ≠ 0 then (0, p.2.2.1, K) else if p.2.1 then (other, 0, letM (dup2K K n P m other) p.1.toNat) else (other, 0, dup2K K n P m other) := by
        unfold dup2M
        rw [if_neg (fun k => k he), if_neg hfo, hm, Int.toNat_natCast, hp]
      obtain ⟨p1, p2, p3, p4⟩ := p
      dsimp only at hset hl hold'
      by_cases he3 : p3 = 0
      · subst he3
        rw [if_neg (by simp)] at hl
        have hK2 : Hid (dup2K K n P m other = setD (setR K n { P with tab := p4 }) m { D with refs := D.refs + 1 }) := Lib.hid (by
          unfold dup2K incM
          rw [hp]
          rw [show ask (setR K n { P with tab := p4 }).descs m = some D from hD])
        rw [hK2.out] at hl hold'
        have hold2 := hold' rfl
        have hDH := Lib.hid hD
        have hlH := Lib.hid hl
        obtain ⟨rf, hrf⟩ : ∃ rf, D.refs = rf := ⟨_, rfl⟩
        rw [hrf] at hr
        have hrfH := Lib.hid hrf
        have hcH := Lib.hid hc
        have hold3 := Lib.hid hold2
        clear h hP htb hok he hm hD hb hB hT hS1 hS2 hne hp hl hrf hfo hold hold' hold2 hw hc
        go_enter Tryz.func142, Tryz.ntmps142
        go_upto_region 7 with (first
          | (go_at_call 199; refine hset.out.mono ?_; rintro e w1 ⟨rfl, hT1, hF1⟩; have hT1H := Lib.hid hT1; have hF1H := Lib.hid hF1; clear hT1 hF1)
          | (go_at_call 188; refine hget.out.mono ?_; rintro e w0 ⟨rfl, rfl⟩))
        have hk1 := turn_T hH.out hPH.out (f := p4) (by rw [htbH.out]; exact hT1H.out) (by rw [htbH.out]; exact hF1H.out)
        have hfr := frmT hH.out hPH.out (by rw [htbH.out]; exact hF1H.out)
        have hg := getD_any hk1 (m : Int)
        have hask : askI (setR K n { P with tab := p4 }).descs (m : Int) = some m := by unfold askI; rw [if_pos (by omega), Int.toNat_natCast, show ask (setR K n { P with tab := p4 }).descs m = some D from hDH.out]; rfl
        rw [hask] at hg
        obtain ⟨hBd, hSd⟩ : DscAt M.bx w1 (B (.desc m)) (M.bd m) D := hk1.part (.desc m) D hDH.out
        have hturn := Lib.hid (fun (W : World) (hW : Below w1.heap.size w1 W) => turn_dc (hk1.below hW) (show ask (setR K n { P with tab := p4 }).descs m = some D from hDH.out) 3 (.int .i64 (D.refs + 1)) (D' := { D with refs := D.refs + 1 }) rfl)
        obtain ⟨d, hd⟩ : ∃ d, M.bd m = d := ⟨_, rfl⟩
        rw [hd] at hBd hturn hSd
        have hgH : Hid (Calls Tryz.prog 189 #[.pointer (some ⟨q, 3, none⟩), .int .i64 m] w1 fun e w' => e = .returned (.pointer (some ⟨d, 0, none⟩)) ∧ Below w1.heap.size w1 w') := Lib.hid (by rw [← hd]; exact hg)
        have k3 : Hid (w1.cell? ⟨d, 3, none⟩ = some (.int .i64 rf)) := Lib.hid (by rw [← hrfH.out]; exact hBd.cell 3)
        have hlt := hBd.lt
        have hBdH := Lib.hid hBd
        have hfrH := Lib.hid hfr
        have hSdH := Lib.hid hSd
        clear hk1 hg hask hBd hd hfr hSd
        cases p2 with
        | false =>
          go_wp2_with (go_at_call 189; refine hgH.out.mono ?_; rintro e w2 ⟨rfl, hbw⟩; have e3 : w2.cell? ⟨d, 3, none⟩ = some (.int .i64 rf) := (hbw.cell hlt).trans k3.out; have f3 : w2.frozen? ⟨d, 3, none⟩ = false := (hBdH.out.keep (hbw.block d hlt)).frozen 3; have hbwH := Lib.hid hbw; clear hbw)
          go_ret2
          have ht := hturn.out _ hbwH.out
          rw [hlH.out, if_neg (by simp)]
          rw [hrfH.out] at ht
          rw [hrfH.out]
          exact ⟨rfl, B, M, ht, MExt.refl _ _, Nat.le_refl _, Nat.le_refl _, Nat.le_refl _, fun g hg => .inl hg, (hfrH.out.below hbwH.out).setCell (a := ⟨d, 3, none⟩) (.inl ⟨_, hSdH.out⟩) _⟩
        | true =>
          obtain ⟨o, ho, D2, hD2, hr2, hp2⟩ := hold3.out rfl
          subst ho
          have hlet := Lib.hid (fun (W : World) (hW : Below w1.heap.size w1 W) => letGo_any (c := c) (hturn.out W hW) hwH.out hcH.out (m := o) hD2 hr2 hp2)
          rw [hrfH.out] at hlet
          clear hD2 hr2 hp2
          go_wp2_with (first
            | (go_at_call 189; refine hgH.out.mono ?_; rintro e w2 ⟨rfl, hbw⟩; have e3 : w2.cell? ⟨d, 3, none⟩ = some (.int .i64 rf) := (hbw.cell hlt).trans k3.out; have f3 : w2.frozen? ⟨d, 3, none⟩ = false := (hBdH.out.keep (hbw.block d hlt)).frozen 3; have hbwH := Lib.hid hbw; clear hbw)
            | (go_at_call 160; refine (hlet.out _ hbwH.out).mono ?_; rintro e w3 ⟨rfl, hk3⟩; have hk3H := Lib.hid hk3; clear hk3))
          go_ret2
          have hl2 : dup2M K n P fd other = (other, 0, letM (setD (setR K n { P with tab := p4 }) m { D with refs := D.refs + 1 }) o) := hlH.out
          rw [hl2, hrfH.out]
          exact ⟨rfl, KP.trans (K1 := setD (setR K n { P with tab := p4 }) m { D with refs := rf + 1 }) (fun g hg => .inl hg) ((hfrH.out.below hbwH.out).setCell (a := ⟨d, 3, none⟩) (.inl ⟨_, hSdH.out⟩) _) (MExt.refl _ _) (Nat.le_refl _) (Nat.le_refl _) (Nat.le_refl _) hk3H.out⟩
      · rw [if_pos he3] at hl
        have hsame : Hid (setR K n { P with tab := p4 } = K) := Lib.hid (by
          have h5 := tset_err (f := P.tab) (x := (m : Int)) (l := other) (by rw [hp]; exact he3)
          rw [hp] at h5
          rw [show p4 = P.tab from h5]
          exact setR_same h hP)
        have d0 : (p3 == 0) = false := beq_eq_false_iff_ne.2 he3
        rw [hl]
        dsimp only
        clear h hP htb hok he hm hD hb hB hT hS1 hS2 hne hp hl he3 hfo hold hold' hw
        go_enter Tryz.func142, Tryz.ntmps142
        go_wp2_with (first
          | (go_at_call 199; refine hset.out.mono ?_; rintro e w1 ⟨rfl, hT1, hF1⟩; have hT1H := Lib.hid hT1; have hF1H := Lib.hid hF1; clear hT1 hF1)
          | (go_at_call 188; refine hget.out.mono ?_; rintro e w0 ⟨rfl, rfl⟩))
        go_ret2
        have hk1 := turn_T hH.out hPH.out (f := p4) (by rw [htbH.out]; exact hT1H.out) (by rw [htbH.out]; exact hF1H.out)
        have hfr := frmT hH.out hPH.out (by rw [htbH.out]; exact hF1H.out)
        rw [hsame.out] at hk1
        exact ⟨rfl, B, M, hk1, MExt.refl _ _, Nat.le_refl _, Nat.le_refl _, Nat.le_refl _, fun g hg => .inl hg, hfr⟩
  · have hl : Hid (dup2M K n P fd other = (other, (tabM P.tab fd).2, K)) := Lib.hid (by unfold dup2M; rw [if_pos he])
    rw [hl.out]
    dsimp only
    obtain ⟨g, hg⟩ : ∃ g, tabM P.tab fd = g := ⟨_, rfl⟩
    rw [hg] at hget he ⊢
    obtain ⟨g1, g2⟩ := g
    dsimp only at hget he ⊢
    have d0 : (g2 == 0) = false := beq_eq_false_iff_ne.2 he
    clear h hP htb hok he hb hB hT hS1 hS2 hne hl hg hw
    go_enter Tryz.func142, Tryz.ntmps142
    go_wp2_with (go_at_call 188; refine hget.out.mono ?_; rintro e w0 ⟨rfl, rfl⟩)
    go_ret2
    exact ⟨rfl, KP.of hH.out (Below.refl _ _)⟩
def truncKM (K : Ker) (P : Prc) (fd size : Int) : Int × Ker := match writN K P fd with
  | none => (9, K)
  | some m => (match ask K.descs m with
    | some D => if D.kind ≠ 2 then (22, K) else ((TruncM K.fs D.n size).1, setF K (TruncM K.fs D.n size).2)
    | none => (0, K))
theorem named_ask {K : Ker} {P : Prc} {fd : Int} {m : Nat} (hm : namedN K P fd = some m) : ∃ D, ask K.descs m = some D := by
  unfold namedN askI at hm
  split at hm
  · cases hm
  · split at hm
    · cases hk : ask K.descs (tabM P.tab fd).1.toNat with
      | none => rw [hk] at hm; cases hm
      | some D => rw [hk] at hm; have e := Option.some.inj hm; rw [← e]; exact ⟨D, hk⟩
    · cases hm
theorem writ_ask {K : Ker} {P : Prc} {fd : Int} {m : Nat} (hm : writN K P fd = some m) : ∃ D, ask K.descs m = some D ∧ mayWr D = true := by
  unfold writN at hm
  split at hm
  · rename_i m' h1
    obtain ⟨D, hD⟩ := named_ask h1
    rw [hD] at hm
    dsimp only at hm
    split at hm
    · rename_i h2
      cases hm
      exact ⟨D, hD, h2⟩
    · cases hm
  · cases hm
theorem read_ask {K : Ker} {P : Prc} {fd : Int} {m : Nat} (hm : readN K P fd = some m) : ∃ D, ask K.descs m = some D ∧ mayRd D = true := by
  unfold readN at hm
  split at hm
  · rename_i m' h1
    obtain ⟨D, hD⟩ := named_ask h1
    rw [hD] at hm
    dsimp only at hm
    split at hm
    · rename_i h2
      cases hm
      exact ⟨D, hD, h2⟩
    · cases hm
  · cases hm
set_option maxRecDepth 100000 in
set_option maxHeartbeats 4000000 in
theorem truncate_k (h : KerIs w B q K M) (hw : WF c K.fs) (hc : c ≤ 5000) {n : Nat} {P : Prc} (hP : ask K.procs n = some P) (fd size : Int) :
    Calls Tryz.prog 144 #[.pointer (some ⟨q, 0, none⟩), .pointer (some ⟨M.br n, 0, none⟩), .int .i64 fd, .int .i64 size] w fun e w' => e = .returned (.int .i64 (truncKM K P fd size).1) ∧ KP (AllX B) w K M w' q (truncKM K P fd size).2 := by
  have hwr := writable_any h hP fd
  obtain ⟨b, hb⟩ : ∃ b, M.br n = b := ⟨_, rfl⟩
  rw [hb] at hwr ⊢
  have hH := Lib.hid h
  have hwH := Lib.hid hw
  have hcH := Lib.hid hc
  unfold truncKM
  cases hm : writN K P fd with
  | none =>
    rw [hm] at hwr
    have hwrH := Lib.hid hwr
    dsimp only
    clear h hP hb hwr hw hc hm
    go_enter Tryz.func144, Tryz.ntmps144
    go_wp2_with (go_at_call 87; refine hwrH.out.mono ?_; rintro e w0 ⟨rfl, hb0⟩; unfold ptrV)
    go_ret
    exact ⟨rfl, KP.of hH.out hb0⟩
  | some m =>
    obtain ⟨D, hD, hmay⟩ := writ_ask hm
    dsimp only
    rw [hD]
    dsimp only
    rw [hm] at hwr
    obtain ⟨hBd, hSd⟩ : DscAt M.bx w (B (.desc m)) (M.bd m) D := h.part (.desc m) D hD
    obtain ⟨d, hd⟩ : ∃ d, M.bd m = d := ⟨_, rfl⟩
    rw [hd] at hBd
    have hwrH : Hid (Calls Tryz.prog 87 #[.pointer (some ⟨q, 0, none⟩), .pointer (some ⟨b, 0, none⟩), .int .i64 fd] w fun e w' => e = .returned (.pointer (some ⟨d, 0, none⟩)) ∧ Below w.heap.size w w') := Lib.hid (by rw [← hd]; exact hwr)
    have k0 : Hid (w.cell? ⟨d, 0, none⟩ = some (.int .i64 D.kind)) := Lib.hid (hBd.cell 0)
    have k1 : Hid (w.cell? ⟨d, 1, none⟩ = some (.int .i64 D.n)) := Lib.hid (hBd.cell 1)
    have hlt := hBd.lt
    obtain ⟨xv, dv, rv, o1, o2, ho⟩ : OwnIs w (B .own) q K M := h.part .own
    have kf : Hid (w.cell? ⟨q, 0, none⟩ = some (.pointer (some ⟨M.fp, 0, none⟩))) := Lib.hid (ho.blk.cell 0)
    have hql := ho.blk.lt
    obtain ⟨kd, hkd⟩ : ∃ kd, D.kind = kd := ⟨_, rfl⟩
    rw [hkd] at k0 ⊢
    clear hwr hb hP hm hBd hSd hd hD hmay ho hkd
    by_cases h2 : kd = 2
    · subst h2
      rw [if_neg (by simp)]
      have htr := Lib.hid (fun (W : World) (hW : Below w.heap.size w W) => fTrunc_any (h.below hW) hw hc D.n size)
      clear h hw hc
      go_enter Tryz.func144, Tryz.ntmps144
      go_upto_region 6 with (go_at_call 87; refine hwrH.out.mono ?_; rintro e w0 ⟨rfl, hb0⟩; have e0 : w0.cell? ⟨d, 0, none⟩ = some (.int .i64 2) := (hb0.cell hlt).trans k0.out; have e1 : w0.cell? ⟨d, 1, none⟩ = some (.int .i64 D.n) := (hb0.cell hlt).trans k1.out; have ef : w0.cell? ⟨q, 0, none⟩ = some (.pointer (some ⟨M.fp, 0, none⟩)) := (hb0.cell hql).trans kf.out; have hb0H := Lib.hid hb0; clear hb0)
      have e1d : w0.drew.cell? ⟨d, 1, none⟩ = some (.int .i64 D.n) := e1
      have efd : w0.drew.cell? ⟨q, 0, none⟩ = some (.pointer (some ⟨M.fp, 0, none⟩)) := ef
      go_region_with (first | (go_at_call 197; refine (htr.out _ hb0H.out.drew).mono ?_; rintro e w3 ⟨rfl, hk3⟩; have hk3H := Lib.hid hk3; clear hk3) | (go_at_call 197; refine (htr.out _ hb0H.out).mono ?_; rintro e w3 ⟨rfl, hk3⟩; have hk3H := Lib.hid hk3; clear hk3))
      all_goals
        go_wp2_with fail
        first | go_ret | refine bodyPost_ret (results_one rfl _ _ _) rfl ?_
        have hfb : Frm (AllX B) w w0 := Frm.of_below hb0H.out
        have hfd : Frm (AllX B) w w0.drew := Frm.of_below hb0H.out.drew
        first
          | exact ⟨rfl, KP.trans (K1 := K) (fun g hg => .inl hg) hfb (MExt.refl _ _) (Nat.le_refl _) (Nat.le_refl _) (Nat.le_refl _) hk3H.out⟩
          | exact ⟨rfl, KP.trans (K1 := K) (fun g hg => .inl hg) hfd (MExt.refl _ _) (Nat.le_refl _) (Nat.le_refl _) (Nat.le_refl _) hk3H.out⟩
          | trace_state
    · rw [if_pos h2]
      have d2 : ((kd : Int) == 2) = false := by rw [beq_eq_false_iff_ne]; omega
      clear h hw hc
      go_enter Tryz.func144, Tryz.ntmps144
      go_wp2_with (go_at_call 87; refine hwrH.out.mono ?_; rintro e w0 ⟨rfl, hb0⟩; have e0 : w0.cell? ⟨d, 0, none⟩ = some (.int .i64 kd) := (hb0.cell hlt).trans k0.out; have hb0H := Lib.hid hb0; clear hb0)
      go_ret
      exact ⟨rfl, KP.of hH.out hb0H.out⟩
end
end Go.Proofs.YtmilagppbepnbaaGreat.Kn
